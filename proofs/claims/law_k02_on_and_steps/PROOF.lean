import PyProof.Rows.All
import Wide.All
import OpenK.AllK
import Wide.FinOn
import KE.KStateDown
import HandS.ForMost
import HandS.More
import HandS.Conv
import HandS.Flow
import HandS.Style
import HandS.Steps
import HandS.Codes
import HandS.IsInst
import HandS.SortInts
import HandS.Strs
import HandS.Wide
import HandS.WordsExc
import HandS.Defaults
import HandS.Head0
import HandS.Head1
import HandS.Head2
import HandS.HeadEnd
import HandS.HeadHook1
import HandS.HeadHook2
import PySem.Challenge.RW_roundstore_k02_on_and_steps
set_option Elab.async false
set_option linter.all false
set_option maxRecDepth 100000
set_option maxHeartbeats 8000000
namespace Rd
open PySem PySem.Spec PyProof.Rows L2
def top (i : Nat) : Stmt := PySem.Challenge.pw_roundstore_k02_on_and_steps.main.body.getD i (.Pass ⟨0, 0, 0, 0⟩)
abbrev s_on : Stmt := top 4
abbrev N_on : List Str := ["number", "many", "ring"]
theorem sc_on : FnScope N_on ["number", "many", "ring"] (defScope s_on) := ⟨rfl, rfl, rfl, by decide +kernel, rfl, by decide +kernel, by decide +kernel⟩
abbrev s_steps : Stmt := top 5
abbrev N_steps : List Str := ["one", "other", "ring"]
theorem sc_steps : FnScope N_steps ["one", "other", "ring"] (defScope s_steps) := ⟨rfl, rfl, rfl, by decide +kernel, rfl, by decide +kernel, by decide +kernel⟩
abbrev s_l_hand : Stmt := top 7
abbrev N_l_hand : List Str := ["_law_script", "_law_k", "_law_cell", "_law_great"]
theorem sc_l_hand : FnScope N_l_hand ["_law_script", "_law_k"] (defScope s_l_hand) := ⟨rfl, rfl, rfl, by decide +kernel, rfl, by decide +kernel, by decide +kernel⟩
abbrev s_l_take : Stmt := top 8
abbrev N_l_take : List Str := ["_law_hand_here", "_law_many", "_law_digit", "_law_primes", "_law_prime", "_law_drawn"]
theorem sc_l_take : FnScope N_l_take ["_law_hand_here", "_law_many"] (defScope s_l_take) := ⟨rfl, rfl, rfl, by decide +kernel, rfl, by decide +kernel, by decide +kernel⟩
abbrev s_l_of : Stmt := top 9
abbrev N_l_of : List Str := ["_law_hand_here", "_law_some"]
theorem sc_l_of : FnScope N_l_of ["_law_hand_here", "_law_some"] (defScope s_l_of) := ⟨rfl, rfl, rfl, by decide +kernel, rfl, by decide +kernel, by decide +kernel⟩
abbrev s_l_size : Stmt := top 10
abbrev N_l_size : List Str := ["_law_hand_here", "_law_some"]
theorem sc_l_size : FnScope N_l_size ["_law_hand_here"] (defScope s_l_size) := ⟨rfl, rfl, rfl, by decide +kernel, rfl, by decide +kernel, by decide +kernel⟩
abbrev s_l_gone : Stmt := top 11
abbrev N_l_gone : List Str := ["_law_number_here", "_law_many", "_law_size_here", "_law_rest"]
theorem sc_l_gone : FnScope N_l_gone ["_law_number_here", "_law_many", "_law_size_here"] (defScope s_l_gone) := ⟨rfl, rfl, rfl, by decide +kernel, rfl, by decide +kernel, by decide +kernel⟩
abbrev s_l_way : Stmt := top 12
abbrev N_l_way : List Str := ["_law_one", "_law_other", "_law_size_here"]
theorem sc_l_way : FnScope N_l_way ["_law_one", "_law_other", "_law_size_here"] (defScope s_l_way) := ⟨rfl, rfl, rfl, by decide +kernel, rfl, by decide +kernel, by decide +kernel⟩
abbrev s_l_number : Stmt := top 13
abbrev N_l_number : List Str := ["_law_hand_here", "_law_size_here"]
theorem sc_l_number : FnScope N_l_number ["_law_hand_here", "_law_size_here"] (defScope s_l_number) := ⟨rfl, rfl, rfl, by decide +kernel, rfl, by decide +kernel, by decide +kernel⟩
abbrev s_l_whole : Stmt := top 14
abbrev N_l_whole : List Str := ["_law_told", "_law_due"]
theorem sc_l_whole : FnScope N_l_whole ["_law_told", "_law_due"] (defScope s_l_whole) := ⟨rfl, rfl, rfl, by decide +kernel, rfl, by decide +kernel, by decide +kernel⟩
abbrev s_l_right : Stmt := top 15
abbrev N_l_right : List Str := ["_law_hand_here", "_law_size_here", "_law_one", "_law_other", "_law_far", "_law_due"]
theorem sc_l_right : FnScope N_l_right ["_law_hand_here", "_law_size_here"] (defScope s_l_right) := ⟨rfl, rfl, rfl, by decide +kernel, rfl, by decide +kernel, by decide +kernel⟩
abbrev s_law : Stmt := top 16
abbrev N_law : List Str := ["_law_script", "_law_k", "_law_hand_here", "_law_size_here", "_law_turn"]
theorem sc_law : FnScope N_law ["_law_script"] (defScope s_law) := ⟨rfl, rfl, rfl, by decide +kernel, rfl, by decide +kernel, by decide +kernel⟩
/-! ### what the top leaves, and what a def keeps -/
structure Tx (K : PySem.W.Frag) (mg : Str → Option Value) : Prop where
  len : mg "len" = none
  abs : mg "abs" = none
  int : mg "int" = none
  bool : mg "bool" = none
  min : mg "min" = none
  max : mg "max" = none
  all : mg "all" = none
  isinstance : mg "isinstance" = none
  range : mg "range" = none
  list : mg "list" = none
  tuple : mg "tuple" = none
  sorted : mg "sorted" = none
  set : mg "set" = none
def freeNames : List Str := ["len", "abs", "int", "bool", "min", "max", "all", "isinstance", "range", "list", "tuple", "sorted", "set"]
theorem tx_mk {K : PySem.W.Frag} {mg : Str → Option Value} (h : ∀ x ∈ freeNames, mg x = none) : Tx K mg :=
  ⟨h _ (by decide), h _ (by decide), h _ (by decide), h _ (by decide), h _ (by decide), h _ (by decide), h _ (by decide), h _ (by decide), h _ (by decide), h _ (by decide), h _ (by decide), h _ (by decide), h _ (by decide)⟩
/-- a def without defaults -/
structure Def0 (K : PySem.W.Frag) (mg : Str → Option Value) (x : Str) (st : Stmt) (ps : List Str) : Prop where
  ex : ∃ (f : Addr) (fd : FuncData), FunD K x x (defArgs st) (defBody st) (defScope st) [] [] f fd ∧ mg x = some (.ref f) ∧ Binds K fd ps []
/-- a def with keyword-only defaults: n values by place, the rest by name or left out -/
structure DefK (K : PySem.W.Frag) (mg : Str → Option Value) (x : Str) (st : Stmt) (ps : List Str) (n : Nat) (kws : List (Str × V)) : Prop where
  ex : ∃ (f : Addr) (fd : FuncData), FunD K x x (defArgs st) (defBody st) (defScope st) [] kws f fd ∧ mg x = some (.ref f) ∧ (∃ ds, Vals (kws.map (·.2)) ds ∧ Binds K fd ps ds) ∧ ∃ g, KBn K fd ps n (kws.map (·.1)) g (fun vs zs => vs ++ zs)
structure CalK (P : Program) (w : World) (K : PySem.W.Frag) (mg : Str → Option Value) (base : Heap) (k : Nat) (x : Str) (n : Nat) (ks : List Str) (sp : Sp) : Prop where
  ex : ∃ (f : Addr) (fd : FuncData) (ps : List Str) (g : List Value → List Value → List Value), FnOk P w K mg base CX0 k f fd ps sp ∧ mg x = some (.ref f) ∧ PySem.W.keepIn K (.ref f) = true ∧ KBn K fd ps n ks g (fun vs zs => vs ++ zs)
section
variable {P : Program} {w : World} {K : PySem.W.Frag} {mg : Str → Option Value} {base : Heap} {x : Str} {st : Stmt} {N ps : List Str} {k n : Nat} {sp : Sp} {kws : List (Str × V)}
/-- the body of a def, as its rule asks it -/
def BodyOk (P : Program) (w : World) (K : PySem.W.Frag) (mg : Str → Option Value) (base : Heap) (x : Str) (st : Stmt) (N : List Str) (k : Nat) (sp : Sp) : Prop :=
  ∀ (f : Addr) (cdv : Value) (A : Around) (outer : List Env) (s : Shared) (H : Hp) (vs : List V) (Q : VK) (E : XK), Room k (A.deeper (envOfC x (defScope st) s.heap.objs.size f cdv)) → sp vs H Q E →
      ∃ t, PSs (cxOf CX0 P w K mg base N x (defScope st) f cdv A outer s H E).nox (defBody st) t ∧ t { nx := fun _ H' => Q .non H', rt := Q } (start N vs) H
theorem Def0.cal (D : Def0 K mg x st ps) (S : FnScope N ps (defScope st)) (len : ∀ vs H Q E, sp vs H Q E → vs.length = ps.length) (hb : BodyOk P w K mg base x st N k sp) : C8.Cal P w K mg base (k + 1) x sp [] := by
  obtain ⟨f, fd, F, g, b⟩ := D.ex
  refine ⟨f, fd, ps, [], F.ok (CX := CX0) S len (fun cdv A outer s H vs Q E hr h => ?_), g, F.kp, b, .nil⟩
  obtain ⟨t, h1, h2⟩ := hb f cdv A outer s H vs Q E hr h
  exact ⟨t, h1.nox, h2⟩
theorem DefK.ok (D : DefK K mg x st ps n kws) (S : FnScope N ps (defScope st)) (len : ∀ vs H Q E, sp vs H Q E → vs.length = ps.length) (hb : BodyOk P w K mg base x st N k sp) :
    CalK P w K mg base (k + 1) x n (kws.map (·.1)) sp ∧ C8.Cal P w K mg base (k + 1) x sp (kws.map (·.2)) := by
  obtain ⟨f, fd, F, g, ⟨ds, hd, b⟩, gg, kb⟩ := D.ex
  have h : FnOk P w K mg base CX0 (k + 1) f fd ps sp := F.ok (CX := CX0) S len (fun cdv A outer s H vs Q E hr h => by
    obtain ⟨t, h1, h2⟩ := hb f cdv A outer s H vs Q E hr h
    exact ⟨t, h1.nox, h2⟩)
  exact ⟨⟨f, fd, ps, gg, h, g, F.kp, kb⟩, ⟨f, fd, ps, ds, h, g, F.kp, b, hd⟩⟩
end
section
variable {X : Cx} {k j n : Nat} {ks : List Str} {sp : Sp} {x : Str} {p pos : Pos} {e : Expr} {es : List Expr} {kws : List Keyword} {t tk : TA}
theorem pe_ck (c : CalK X.prog X.w X.K X.mg X.base k x n ks sp) (hr : Room j X.A) (hk : k ≤ j) (hg : Gl X x) (ha : PA X (e :: es) t) (hkw : PK X kws tk) (hall : (backToKw pos (keywordEach kws X.env)).all (·.1.isSome) = true := by rfl) (hks : (backToKw pos (keywordEach kws X.env)).filterMap (·.1) = ks := by rfl)
    (hdb : (x == ("__debug__" : Str)) = false := by decide) (he : starEach (e :: es) X.env = (false, eval e X.env) :: starEach es X.env := by rfl)
    (hpl : ((backTo pos (starEach (e :: es) X.env)).any (·.1) || (backToKw pos (keywordEach kws X.env)).any (·.1.isNone)) = false := by rfl) :
    PE X (.Call (.Name x p) (e :: es) kws pos) (tCallN n ks.length sp (fun vs zs => vs ++ zs) E0 t tk) := by
  obtain ⟨f, fd, ps, g, F, hm, kp, kb⟩ := c.ex
  exact pe_callN F (hr.mono hk) hg hm kp kb pass0 ha hkw hall hks hdb he hpl
end
/-! ### heaps: all but the drawing hand stands -/
def Fr (h : Addr) (H H' : Hp) : Prop := ∀ a o, a ≠ h → H a = some o → H' a = some o
theorem Fr.refl (h : Addr) (H : Hp) : Fr h H H := fun _ _ _ e => e
theorem Fr.trans {h : Addr} {H H1 H2 : Hp} (a : Fr h H H1) (b : Fr h H1 H2) : Fr h H H2 := fun x o n e => b x o n (a x o n e)
theorem Fr.new {h : Addr} {H : Hp} {p : Addr} {o : HO} (e : H p = none) : Fr h H (upd H p o) := fun a u _ q => by
  rw [upd_ne (ne_of_none q e)]
  exact q
/-- what h did not know may change -/
theorem Fr.mut {h : Addr} {H H' : Hp} {p : Addr} {o : HO} (f : Fr h H H') (e : H p = none) : Fr h H (upd H' p o) := fun a u n q => by
  rw [upd_ne (ne_of_none q e)]
  exact f a u n q
theorem Fr.hand {h : Addr} {H : Hp} {o : HO} : Fr h H (upd H h o) := fun a u n q => by
  rw [upd_ne n]
  exact q
theorem Fr.seq {h : Addr} {K : PySem.W.Frag} {H H' : Hp} {a : Addr} {xs : List V} (f : Fr h H H') (n : a ≠ h) (q : SqL K H a xs) : SqL K H' a xs := by
  rcases q with (q | ⟨o, q⟩) | q
  · exact .inl (.inl (f _ _ n q))
  · exact .inl (.inr ⟨o, f _ _ n q⟩)
  · exact .inr q
theorem Fr.seqT {h : Addr} {K : PySem.W.Frag} {H H' : Hp} {a : Addr} {xs : List V} (f : Fr h H H') (n : a ≠ h) (q : SqT K H a xs) : SqT K H' a xs := by
  rcases q with (q | ⟨o, q⟩) | q
  · exact .inl (.inl (f _ _ n q))
  · exact .inl (.inr ⟨o, f _ _ n q⟩)
  · exact .inr q
/-- the hand: three numbers; n bounds how often it drew -/
def HS (h : Addr) (n : Nat) (H : Hp) : Prop := ∃ g b c : Int, H h = some (.lst [.int g, .int b, .int c]) ∧ 0 ≤ g ∧ g < 10 ^ 90 ∧ 0 ≤ b ∧ b < 2 ^ 62 ∧ 0 ≤ c ∧ c ≤ n
theorem HS.mono {h : Addr} {n m : Nat} {H : Hp} (q : HS h n H) (l : n ≤ m) : HS h m H := by
  obtain ⟨g, b, c, e, g0, g1, b0, b1, c0, c1⟩ := q
  exact ⟨g, b, c, e, g0, g1, b0, b1, c0, by omega⟩
theorem HS.new {h : Addr} {n : Nat} {H : Hp} {p : Addr} {o : HO} (q : HS h n H) (e : H p = none) : HS h n (upd H p o) := by
  obtain ⟨g, b, c, eh, r⟩ := q
  exact ⟨g, b, c, (by rw [upd_ne (ne_of_none eh e)]; exact eh), r⟩
theorem HS.at {h : Addr} {n : Nat} {H : Hp} (q : HS h n H) : ∃ o, H h = some o := by
  obtain ⟨g, b, c, e, _⟩ := q
  exact ⟨_, e⟩
theorem HS.ne {h : Addr} {n : Nat} {H : Hp} {p : Addr} (q : HS h n H) (e : H p = none) : p ≠ h := by
  obtain ⟨g, b, c, eh, _⟩ := q
  exact fun z => by
    rw [z, eh] at e
    cases e
/-! ### the drawing defs of the law -/
def lim : Nat := 100000
/-- hand(script, k) -/
def spHand (K : PySem.W.Frag) : Sp := fun vs H Q _ => ∃ (a : Addr) (ns : List Int) (k : Nat), vs = [.ref a, .int k] ∧ SqL K H a (ns.map V.int) ∧ k ≤ 100 ∧ ∀ p H', H p = none → (∀ q o, H q = some o → H' q = some o) → HS p 0 H' → Q (.ref p) H'
/-- take(hand, many): some number below many -/
def spTake : Sp := fun vs H Q _ => ∃ (h : Addr) (m : Int) (n : Nat), vs = [.ref h, .int m] ∧ HS h n H ∧ n < lim ∧ 0 < m ∧ m ≤ 10 ^ 18 ∧ ∀ d H', 0 ≤ d → d < m → HS h (n + 1) H' → Fr h H H' → Q (.int d) H'
/-- of(hand, some) -/
def spOf (K : PySem.W.Frag) : Sp := fun vs H Q _ => ∃ (h a : Addr) (xs : List V) (n : Nat), vs = [.ref h, .ref a] ∧ HS h n H ∧ n < lim ∧ a ≠ h ∧ SqL K H a xs ∧ 0 < xs.length ∧ xs.length ≤ 1000 ∧ ∀ v H', v ∈ xs → HS h (n + 1) H' → Fr h H H' → Q v H'
def spSize : Sp := fun vs H Q _ => ∃ (h : Addr) (n : Nat), vs = [.ref h] ∧ HS h n H ∧ n + 3 < lim ∧ ∀ s H', 8 ≤ s → s ≤ 1048576 → s % 2 = 0 → HS h (n + 3) H' → Fr h H H' → Q (.int s) H'
theorem pow_ok {i j : Int} (h : 0 ≤ j ∧ j ≤ 1000000 ∧ i.natAbs < 2 ^ 64) : CPow i j := h
theorem atI_in {xs : List V} {i : Int} (h0 : 0 ≤ i) (h1 : i < xs.length) : ∃ v, atI xs i = some v ∧ v ∈ xs := by
  have h2 : i.toNat < xs.length := by omega
  refine ⟨xs[i.toNat], ?_, List.getElem_mem h2⟩
  have e := atI_nat (xs := xs) (j := i.toNat) (List.getElem?_eq_getElem h2)
  rw [Int.toNat_of_nonneg h0] at e
  exact e
theorem if01 (b : Bool) : 0 ≤ (if b = true then (1 : Int) else 0) ∧ (if b = true then (1 : Int) else 0) ≤ 1 := by
  cases b <;> decide
theorem w45 : (((10 : Int) ^ (45 : Int).toNat).natAbs) < 2 ^ 150 := by decide +kernel
theorem e90 : ((10 : Int) ^ (45 : Int).toNat) * ((10 : Int) ^ (45 : Int).toNat) = 10 ^ 90 := by decide +kernel
theorem p17 : ((10 : Int) ^ (17 : Int).toNat) = 100000000000000000 := by decide +kernel
theorem p18 : ((10 : Int) ^ (18 : Int).toNat) = 1000000000000000000 := by decide +kernel
theorem p19 : ((2 : Int) ^ (19 : Int).toNat) = 524288 := by decide +kernel
theorem p20 : ((2 : Int) ^ (20 : Int).toNat) = 1048576 := by decide +kernel
theorem cdw {i j : Int} (h : 0 < j) (h1 : j ≤ 1000000000000000000) : CDivW i j := wide_div (b := 64) h (by omega) (by decide) (by decide)
section
variable {P : Program} {w : World} {K : PySem.W.Frag} {mg : Str → Option Value} {base : Heap}
theorem ok_hand (T : Tx K mg) : BodyOk P w K mg base "_law_hand" s_l_hand N_l_hand 0 (spHand K) := by
  intro f cdv A outer s H vs Q E hr h
  obtain ⟨a, ns, k, rfl, hS, hk, q⟩ := h
  refine ⟨_, (pss_cons (ps_set (i := 2) sc_l_hand.nd rfl (Or.inl rfl) (pe_ifExp (pt_cmpR op_lt (pv 1) (pe_callB call_len_seq (by rfl) T.len (by decide +kernel) (pa_cons (pv 0) pa_nil)) (nomark _)) (pe_ix ix_list (pv 0) (pv 1) (fun _ _ => rfl)) pe_int))
      (pss_cons (ps_set (i := 3) sc_l_hand.nd rfl (Or.inl rfl) (pe_op op_mul (pe_op op_mod (pe_callB call_abs (by rfl) T.abs (by decide +kernel) (pa_cons (pv 2) pa_nil)) (pe_op op_mulW (pe_op op_pow pe_int pe_int) (pe_op op_pow pe_int pe_int))) (pe_callTy call_int1 (by rfl) T.int (by decide +kernel) (pa_cons (pe_cmpR op_ge (pe_callB call_abs (by rfl) T.abs (by decide +kernel) (pa_cons (pv 2) pa_nil)) (pe_op op_pow pe_int pe_int) (nomark _)) pa_nil))))
      (pss_one (ps_ret (pe_lst (pa_cons (pv 3) (pa_cons (pe_op op_add (pe_op op_add (pe_op op_mod (pv 2) pe_int) (pe_op op_mul pe_int (pv 1))) pe_int) (pa_cons pe_int pa_nil)))))))), ?_⟩
  refine st_seq (st_setH (PV := fun v H' => H' = H ∧ ∃ c : Int, v = .int c) (fun Q2 q2 => ?_) (fun v H' hv => ?_))
  · refine ⟨_, rfl, _, rfl, a, _, rfl, .inl hS, _, _, rfl, rfl, _, rfl, ite2 (fun e => ?_) (fun e => ?_)⟩
    · have e1 := of_decide_eq_true e
      rw [List.length_map] at e1
      have e2 : k < ns.length := by omega
      refine ⟨_, rfl, _, rfl, a, _, _, .int ns[k], rfl, rfl, hS, ?_, q2 _ _ ⟨rfl, _, rfl⟩⟩
      refine atI_nat ?_
      rw [List.getElem?_map, List.getElem?_eq_getElem e2]
      rfl
    · exact q2 _ _ ⟨rfl, _, rfl⟩
  · obtain ⟨rfl, c, rfl⟩ := hv
    refine st_seq ?_
    refine ⟨_, rfl, _, rfl, _, _, rfl, rfl, pow_ok (by decide), _, _, rfl, rfl, pow_ok (by decide), _, _, rfl, rfl, wide_mul w45 w45 (by decide) (by decide) (by decide), _, _, rfl, rfl, ?_, ?_⟩
    · rw [e90]
      show (0 : Int) < 10 ^ 90
      decide
    · refine ⟨_, rfl, _, rfl, _, _, rfl, rfl, pow_ok (by decide), _, _, rfl, rfl, .inr ⟨_, rfl, _, _, rfl, rfl, .inr ?_, ?_⟩⟩
      · have z := if01 (decide (((10 : Int) ^ (18 : Int).toNat) ≤ (if c < 0 then -c else c)))
        exact ⟨Int.lt_of_lt_of_le (by decide) z.1, Int.lt_of_le_of_lt z.2 (by decide)⟩
      · refine ⟨_, rfl, _, rfl, _, _, rfl, rfl, (show (0 : Int) < 2305843009213693951 by decide), _, rfl, _, _, rfl, rfl, .inl (by decide), _, _, rfl, rfl, _, _, rfl, rfl, by show 3 ≤ sizeLine; decide, fun p np => ?_⟩
        refine q _ _ np (fun b o e => ?_) ⟨_, _, _, upd_same, ?_, ?_, ?_, ?_, ?_, ?_⟩
        · rw [upd_ne (ne_of_none e np)]
          exact e
        · rw [e90]
          exact Int.mul_nonneg (Int.emod_nonneg _ (by decide)) (if01 _).1
        · rw [e90]
          have h1 : (if c < 0 then -c else c) % (10 ^ 90) < 10 ^ 90 := Int.emod_lt_of_pos _ (by decide)
          have h0 : 0 ≤ (if c < 0 then -c else c) % (10 ^ 90) := Int.emod_nonneg _ (by decide)
          cases (decide (((10 : Int) ^ (18 : Int).toNat) ≤ (if c < 0 then -c else c))) with
          | true =>
            rw [if_pos rfl, Int.mul_one]
            exact h1
          | false =>
            rw [if_neg Bool.false_ne_true, Int.mul_zero]
            decide
        · have h1 : 0 ≤ c % 2305843009213693951 := Int.emod_nonneg _ (by decide)
          omega
        · have h1 : c % 2305843009213693951 < 2305843009213693951 := Int.emod_lt_of_pos _ (by decide)
          have h2 : (2 : Int) ^ 62 = 4611686018427387904 := by decide
          omega
        · decide
        · decide
def primes : List V := [.int 2147483647, .int 2147483629, .int 2147483587, .int 2147483579, .int 2147483563, .int 2147483549, .int 2147483543, .int 2147483497]
theorem primes_in : ∀ v ∈ primes, ∃ q : Int, v = .int q ∧ 0 < q ∧ q < 2147483648 := by
  intro v hv
  simp only [primes, List.mem_cons, List.not_mem_nil, or_false] at hv
  rcases hv with rfl | rfl | rfl | rfl | rfl | rfl | rfl | rfl <;> exact ⟨_, rfl, by decide, by decide⟩
theorem ok_take (T : Tx K mg) : BodyOk P w K mg base "_law_take" s_l_take N_l_take 0 spTake := by
  intro f cdv A outer s H vs Q E hr h
  obtain ⟨h, m, n, rfl, ⟨g, b, c, eh, g0, g1, b0, b1, c0, c1⟩, hn, m0, m1, q⟩ := h
  refine ⟨_, (pss_cons (ps_if (pt_cmpR op_gt (pe_ix ix_list (pv 0) pe_int (fun _ _ => rfl)) pe_int (nomark _)) (pss_cons (ps_set (i := 2) sc_l_take.nd rfl (Or.inl rfl) (pe_op op_mod (pe_ix ix_list (pv 0) pe_int (fun _ _ => rfl)) (pv 1)))
      (pss_cons (ps_asg (pe_op op_fdivW (pe_ix ix_list (pv 0) pe_int (fun _ _ => rfl)) (pv 1)) (pg_sub (pv 0) pe_int set_list))
      (pss_one (ps_ret (pv 2))))) pss_nil)
      (pss_cons (ps_asg (pe_op op_add (pe_ix ix_list (pv 0) pe_int (fun _ _ => rfl)) pe_int) (pg_sub (pv 0) pe_int set_list))
      (pss_cons (ps_set (i := 3) sc_l_take.nd rfl (Or.inl rfl) (pe_lst (pa_cons pe_int (pa_cons pe_int (pa_cons pe_int (pa_cons pe_int (pa_cons pe_int (pa_cons pe_int (pa_cons pe_int (pa_cons pe_int pa_nil))))))))))
      (pss_cons (ps_set (i := 4) sc_l_take.nd rfl (Or.inl rfl) (pe_ix ix_list (pv 3) (pe_op op_mod (pe_ix ix_list (pv 0) pe_int (fun _ _ => rfl)) pe_int) (fun _ _ => rfl)))
      (pss_cons (ps_set (i := 5) sc_l_take.nd rfl (Or.inl rfl) (pe_op op_mod (pe_op op_pow (pe_op op_add (pe_ix ix_list (pv 0) pe_int (fun _ _ => rfl)) (pe_op op_mul pe_int (pe_ix ix_list (pv 0) pe_int (fun _ _ => rfl)))) pe_int) (pv 4)))
      (pss_one (ps_ret (pe_op op_mod (pe_op op_fdivW (pe_op op_mod (pe_op op_mul (pv 5) (pe_op op_add (pe_op op_mod (pv 5) pe_int) (pe_ix ix_list (pv 0) pe_int (fun _ _ => rfl)))) (pv 4)) pe_int) (pv 1))))))))), ?_⟩
  have hn2 : (n : Int) < 100000 := by
    have z : n < 100000 := hn
    omega
  have p18' : (10 : Int) ^ 18 = 1000000000000000000 := by decide
  have p62 : (2 : Int) ^ 62 = 4611686018427387904 := by decide
  refine st_seq ?_
  refine ⟨_, rfl, h, _, _, _, rfl, rfl, SqL.of eh, rfl, _, _, rfl, rfl, _, rfl, ite2 (fun z => ?_) (fun z => ?_)⟩
  · refine ⟨_, rfl, h, _, _, _, rfl, rfl, SqL.of eh, rfl, _, rfl, _, _, rfl, rfl, m0, ?_⟩
    refine ⟨_, rfl, h, _, _, _, rfl, rfl, SqL.of eh, rfl, _, rfl, _, _, rfl, rfl, cdw m0 (by omega), ?_⟩
    refine ⟨_, rfl, h, _, _, 0, rfl, rfl, eh, rfl, ?_⟩
    refine ⟨_, rfl, q _ _ (Int.emod_nonneg _ (by omega)) (Int.emod_lt_of_pos _ m0) ⟨_, b, c, upd_same, ?_, ?_, b0, b1, c0, ?_⟩ Fr.hand⟩
    · exact Int.ediv_nonneg g0 (by omega)
    · exact Int.lt_of_le_of_lt (Int.ediv_le_self _ g0) g1
    · omega
  · refine st_seq ?_
    refine ⟨_, rfl, h, _, _, _, rfl, rfl, SqL.of eh, rfl, _, _, rfl, rfl, _, rfl, h, _, _, 2, rfl, rfl, eh, rfl, ?_⟩
    have e2 : (upd H h (.lst [.int g, .int b, .int (c + 1)])) h = some (.lst [.int g, .int b, .int (c + 1)]) := upd_same
    refine st_seq ⟨by show 8 ≤ sizeLine; decide, fun p np => ?_⟩
    have hpn : h ≠ p := ne_of_none e2 np
    have e3 : (upd (upd H h (.lst [.int g, .int b, .int (c + 1)])) p (.lst primes)) h = some (.lst [.int g, .int b, .int (c + 1)]) := by
      rw [upd_ne hpn]
      exact e2
    obtain ⟨v, ev, hv⟩ := atI_in (xs := primes) (i := (c + 1) % 8) (Int.emod_nonneg _ (by decide)) (Int.emod_lt_of_pos _ (by decide))
    obtain ⟨r, rfl, r0, r1⟩ := primes_in v hv
    refine st_seq ?_
    refine ⟨_, rfl, _, rfl, h, _, _, _, rfl, rfl, SqL.of e3, rfl, _, _, rfl, rfl, (show (0 : Int) < 8 by decide), p, _, _, _, rfl, rfl, SqL.of upd_same, ev, ?_⟩
    refine st_seq ?_
    refine ⟨_, rfl, h, _, _, _, rfl, rfl, SqL.of e3, rfl, _, rfl, h, _, _, _, rfl, rfl, SqL.of e3, rfl, _, _, rfl, rfl, .inl (by decide), _, _, rfl, rfl, _, _, rfl, rfl, pow_ok ⟨by decide, by decide, by omega⟩, _, rfl, _, _, rfl, rfl, r0, ?_⟩
    refine ⟨_, rfl, _, rfl, _, _, rfl, rfl, (show (0 : Int) < 1009 by decide), _, rfl, h, _, _, _, rfl, rfl, SqL.of e3, rfl, _, _, rfl, rfl, _, _, rfl, rfl, .inl ?_, _, rfl, _, _, rfl, rfl, r0, _, _, rfl, rfl, cdw (by decide) (by decide), _, rfl, _, _, rfl, rfl, m0, ?_⟩
    · have h1 : 0 ≤ (b + 7919 * (c + 1)) ^ (5 : Int).toNat % r := Int.emod_nonneg _ (by omega)
      have h2 : (b + 7919 * (c + 1)) ^ (5 : Int).toNat % r < r := Int.emod_lt_of_pos _ r0
      have h3 : (2 : Int) ^ 64 = 18446744073709551616 := by decide
      rw [h3]
      exact ⟨by omega, by omega⟩
    · refine q _ _ (Int.emod_nonneg _ (by omega)) (Int.emod_lt_of_pos _ m0) ⟨g, b, c + 1, e3, g0, g1, b0, b1, by omega, by omega⟩ (Fr.trans Fr.hand (Fr.new np))
theorem ok_of (T : Tx K mg) (c_l_take : C8.Cal P w K mg base 1 "_law_take" spTake []) : BodyOk P w K mg base "_law_of" s_l_of N_l_of 1 (spOf K) := by
  intro f cdv A outer s H vs Q E hr h
  obtain ⟨h, a, xs, n, rfl, hs, hn, ne, hS, l0, l1, q⟩ := h
  refine ⟨_, (pss_one (ps_ret (pe_ix ix_list (pv 1) (C8.pe_c c_l_take hr (by decide) (by rfl) (pa_cons (pv 0) (pa_cons (pe_callB call_len_seq (by rfl) T.len (by decide +kernel) (pa_cons (pv 1) pa_nil)) pa_nil))) (fun _ _ => rfl)))), ?_⟩
  refine ⟨_, rfl, _, rfl, _, rfl, a, xs, rfl, .inl hS, h, _, n, rfl, hs, hn, ?_, ?_, fun d H1 d0 d1 hs1 f1 => ?_⟩
  · omega
  · have z : (10 : Int) ^ 18 = 1000000000000000000 := by decide
    omega
  · obtain ⟨v, ev, hv⟩ := atI_in d0 d1
    exact ⟨a, xs, d, v, rfl, rfl, f1.seq ne hS, ev, q v H1 hv hs1 f1⟩
def sz8 (d d2 : Int) : List V := [.int 8, .int 8, .int 10, .int 12, .int 16, .int 64, .int (2 * (4 + d)), .int (2 * (4 + d2))]
def sz2 : List V := [.int (2 ^ (20 : Int).toNat), .int (2 ^ (20 : Int).toNat - 2)]
theorem ok_size (T : Tx K mg) (c_l_take : C8.Cal P w K mg base 1 "_law_take" spTake []) (c_l_of : C8.Cal P w K mg base 2 "_law_of" (spOf K) []) : BodyOk P w K mg base "_law_size" s_l_size N_l_size 2 spSize := by
  intro f cdv A outer s H vs Q E hr h
  obtain ⟨h, n, rfl, hs, hn, q⟩ := h
  have hn2 : n + 3 < 100000 := hn
  refine ⟨_, (pss_cons (ps_set (i := 1) sc_l_size.nd rfl (Or.inl rfl) (pe_lst (pa_cons pe_int (pa_cons pe_int (pa_cons pe_int (pa_cons pe_int (pa_cons pe_int (pa_cons pe_int (pa_cons (pe_op op_mul pe_int (pe_op op_add pe_int (C8.pe_c c_l_take hr (by decide) (by rfl) (pa_cons (pv 0) (pa_cons pe_int pa_nil))))) (pa_cons (pe_op op_mul pe_int (pe_op op_add pe_int (C8.pe_c c_l_take hr (by decide) (by rfl) (pa_cons (pv 0) (pa_cons (pe_op op_sub (pe_op op_pow pe_int pe_int) pe_int) pa_nil))))) pa_nil))))))))))
      (pss_one (ps_ret (C8.pe_c c_l_of hr (by decide) (by rfl) (pa_cons (pv 0) (pa_cons (pe_op op_cat (pv 1) (pe_lst (pa_cons (pe_op op_pow pe_int pe_int) (pa_cons (pe_op op_sub (pe_op op_pow pe_int pe_int) pe_int) pa_nil)))) pa_nil)))))), ?_⟩
  refine st_seq ?_
  refine ⟨_, rfl, h, 40, n, rfl, hs, (show n < 100000 by omega), by decide, by decide, fun d H1 d0 d1 hs1 f1 => ?_⟩
  refine ⟨_, _, rfl, rfl, _, _, rfl, rfl, .inl (by decide), _, rfl, _, _, rfl, rfl, pow_ok (by decide), _, _, rfl, rfl, h, _, n + 1, rfl, hs1, (show n + 1 < 100000 by omega), by decide, by decide, fun d2 H2 d20 d21 hs2 f2 => ?_⟩
  have d22 : d2 < 524285 := d21
  refine ⟨_, _, rfl, rfl, _, _, rfl, rfl, .inl (by decide), by show 8 ≤ sizeLine; decide, fun p np => ?_⟩
  refine ⟨_, rfl, _, rfl, _, _, rfl, rfl, pow_ok (by decide), _, _, rfl, rfl, pow_ok (by decide), _, _, rfl, rfl, by show 2 ≤ sizeLine; decide, fun p2 np2 => ?_⟩
  have ne2 : p ≠ p2 := fun z => by
    rw [← z, upd_same] at np2
    cases np2
  have ep : (upd (upd H2 p (.lst (sz8 d d2))) p2 (.lst sz2)) p = some (.lst (sz8 d d2)) := by
    rw [upd_ne ne2]
    exact upd_same
  refine ⟨p, p2, sz8 d d2, sz2, rfl, rfl, ep, upd_same, by show 8 + 2 ≤ sizeLine; decide, fun p3 np3 => ?_⟩
  · have hs3 : HS h (n + 1 + 1) (upd (upd (upd H2 p (.lst (sz8 d d2))) p2 (.lst sz2)) p3 (.lst (sz8 d d2 ++ sz2))) := ((hs2.new np).new np2).new np3
    have ne3 : p3 ≠ h := ((hs2.new np).new np2).ne np3
    refine ⟨h, p3, sz8 d d2 ++ sz2, n + 1 + 1, rfl, hs3, (show n + 1 + 1 < 100000 by omega), ne3, SqL.of upd_same, (show 0 < 10 by decide), (show 10 ≤ 1000 by decide), fun v H4 hv hs4 f4 => ?_⟩
    have hx : ∃ z : Int, v = .int z ∧ 8 ≤ z ∧ z ≤ 1048576 ∧ z % 2 = 0 := by
      simp only [sz8, sz2, p20, List.cons_append, List.nil_append, List.mem_cons, List.not_mem_nil, or_false] at hv
      rcases hv with rfl | rfl | rfl | rfl | rfl | rfl | rfl | rfl | rfl | rfl <;> exact ⟨_, rfl, by omega, by omega, by omega⟩
    obtain ⟨z, rfl, z0, z1, z2⟩ := hx
    exact q z H4 z0 z1 z2 hs4 ((f1.trans f2).trans ((Fr.new np).trans ((Fr.new np2).trans ((Fr.new np3).trans f4))))
end
/-! ### the ring's defs -/
def spOn : Sp := fun vs H Q _ => ∃ x m s : Int, vs = [.int x, .int m, .int s] ∧ 0 < s ∧ Q (.int ((x + m) % s)) H
def spSteps : Sp := fun vs H Q _ => ∃ x y s : Int, vs = [.int x, .int y, .int s] ∧ 0 < s ∧ Q (.int ((y - x) % s)) H
section
variable {P : Program} {w : World} {K : PySem.W.Frag} {mg : Str → Option Value} {base : Heap}
theorem ok_steps : BodyOk P w K mg base "steps" s_steps N_steps 0 spSteps := by
  intro f cdv A outer s H vs Q E hr h
  obtain ⟨x, y, s, rfl, s0, q⟩ := h
  refine ⟨_, (pss_one (ps_ret (pe_op op_mod (pe_op op_sub (pv 1) (pv 0)) (pv 2)))), ?_⟩
  exact ⟨_, rfl, _, rfl, _, _, rfl, rfl, _, rfl, _, _, rfl, rfl, s0, q⟩
theorem ok_on : BodyOk P w K mg base "on" s_on N_on 0 spOn := by
  intro f cdv A outer s H vs Q E hr h
  obtain ⟨x, m, s, rfl, s0, q⟩ := h
  refine ⟨_, (pss_one (ps_ret (pe_op op_mod (pe_op op_add (pv 0) (pv 1)) (pv 2)))), ?_⟩
  exact ⟨_, rfl, _, rfl, _, _, rfl, rfl, _, rfl, _, _, rfl, rfl, s0, q⟩
end
/-! ### the law's own reckoning -/
def goneI (x m s : Int) : Int := if x + (m - m / s * s) < s then x + (m - m / s * s) else x + (m - m / s * s) - s
def wayI (x y s : Int) : Int := if x ≤ y then y - x else y - x + s
def spGone : Sp := fun vs H Q _ => ∃ x m s : Int, vs = [.int x, .int m, .int s] ∧ 0 < s ∧ s ≤ 1048576 ∧ Q (.int (goneI x m s)) H
def spWay : Sp := fun vs H Q _ => ∃ x y s : Int, vs = [.int x, .int y, .int s] ∧ Q (.int (wayI x y s)) H
def spNumber : Sp := fun vs H Q _ => ∃ (h : Addr) (s : Int) (n : Nat), vs = [.ref h, .int s] ∧ HS h n H ∧ n + 3 < lim ∧ 2 ≤ s ∧ s ≤ 1048576 ∧ ∀ x H', 0 ≤ x → x < s → HS h (n + 3) H' → Fr h H H' → Q (.int x) H'
def spWhole : Sp := fun vs H Q _ => ∃ a b : Int, vs = [.int a, .int b] ∧ Q (.bl (decide (a = b))) H
def spRight : Sp := fun vs H Q _ => ∃ (h : Addr) (s : Int) (n : Nat), vs = [.ref h, .int s] ∧ HS h n H ∧ n + 9 < lim ∧ 8 ≤ s ∧ s ≤ 1048576 ∧ ∀ H', HS h (n + 9) H' → Fr h H H' → Q (.bl true) H'
def spLaw (K : PySem.W.Frag) : Sp := fun vs H Q _ => ∃ (a : Addr) (ns : List Int), vs = [.ref a] ∧ SqL K H a (ns.map V.int) ∧ ns.length ≤ 63 ∧ ∀ H', Q (.bl true) H'
theorem gone_eq {x m s : Int} (s0 : 0 < s) (x0 : 0 ≤ x) (x1 : x < s) : goneI x m s = (x + m) % s := by
  unfold goneI
  have e : m - m / s * s = m % s := by
    have := Int.emod_def m s
    rw [Int.mul_comm] at this
    omega
  rw [e]
  have r0 : 0 ≤ m % s := Int.emod_nonneg _ (by omega)
  have r1 : m % s < s := Int.emod_lt_of_pos _ s0
  have h : (x + m) % s = (x + m % s) % s := by
    rw [Int.add_emod_emod]
  rw [h]
  split
  · exact (Int.emod_eq_of_lt (a := x + m % s) (by omega) (by omega)).symm
  · have z : (x + m % s) % s = (x + m % s - s) % s := by
      rw [Int.sub_emod_right]
    rw [z]
    exact (Int.emod_eq_of_lt (a := x + m % s - s) (by omega) (by omega)).symm
theorem way_eq {x y s : Int} (x0 : 0 ≤ x) (x1 : x < s) (y0 : 0 ≤ y) (y1 : y < s) : wayI x y s = (y - x) % s := by
  unfold wayI
  split
  · rw [Int.emod_eq_of_lt (by omega) (by omega)]
  · have z : (y - x) % s = (y - x + s) % s := by
      rw [Int.add_emod_right]
    rw [z, Int.emod_eq_of_lt (by omega) (by omega)]
theorem undo {x y s : Int} (y0 : 0 ≤ y) (y1 : y < s) : (x + (y - x) % s) % s = y := by
  rw [Int.add_emod_emod, show x + (y - x) = y by omega, Int.emod_eq_of_lt y0 y1]
section
variable {P : Program} {w : World} {K : PySem.W.Frag} {mg : Str → Option Value} {base : Heap}
theorem ok_gone : BodyOk P w K mg base "_law_gone" s_l_gone N_l_gone 0 spGone := by
  intro f cdv A outer s H vs Q E hr h
  obtain ⟨x, m, s, rfl, s0, s1, q⟩ := h
  refine ⟨_, (pss_cons (ps_set (i := 3) sc_l_gone.nd rfl (Or.inl rfl) (pe_op op_sub (pv 1) (pe_op op_mul (pe_op op_fdivW (pv 1) (pv 2)) (pv 2))))
      (pss_one (ps_ret (pe_ifExp (pt_cmpR op_lt (pe_op op_add (pv 0) (pv 3)) (pv 2) (nomark _)) (pe_op op_add (pv 0) (pv 3)) (pe_op op_sub (pe_op op_add (pv 0) (pv 3)) (pv 2)))))), ?_⟩
  have p64 : (2 : Int) ^ 64 = 18446744073709551616 := by decide
  refine st_seq ?_
  refine ⟨_, rfl, _, rfl, _, rfl, _, _, rfl, rfl, cdw s0 (by omega), _, rfl, _, _, rfl, rfl, .inr ⟨by omega, by omega⟩, _, _, rfl, rfl, ?_⟩
  refine ⟨_, rfl, _, rfl, _, _, rfl, rfl, _, rfl, _, _, rfl, rfl, _, rfl, ite2 (fun z => ?_) (fun z => ?_)⟩
  · refine ⟨_, rfl, _, rfl, _, _, rfl, rfl, ?_⟩
    have e : goneI x m s = x + (m - m / s * s) := if_pos (of_decide_eq_true z)
    rw [e] at q
    exact q
  · refine ⟨_, rfl, _, rfl, _, _, rfl, rfl, _, rfl, _, _, rfl, rfl, ?_⟩
    have e : goneI x m s = x + (m - m / s * s) - s := if_neg fun y => z (decide_eq_true y)
    rw [e] at q
    exact q
theorem ok_way : BodyOk P w K mg base "_law_way" s_l_way N_l_way 0 spWay := by
  intro f cdv A outer s H vs Q E hr h
  obtain ⟨x, y, s, rfl, q⟩ := h
  refine ⟨_, (pss_one (ps_ret (pe_ifExp (pt_cmpR op_ge (pv 1) (pv 0) (nomark _)) (pe_op op_sub (pv 1) (pv 0)) (pe_op op_add (pe_op op_sub (pv 1) (pv 0)) (pv 2))))), ?_⟩
  refine ⟨_, rfl, _, rfl, _, _, rfl, rfl, _, rfl, ite2 (fun z => ?_) (fun z => ?_)⟩
  · refine ⟨_, rfl, _, rfl, _, _, rfl, rfl, ?_⟩
    have e : wayI x y s = y - x := if_pos (of_decide_eq_true z)
    rw [e] at q
    exact q
  · refine ⟨_, rfl, _, rfl, _, _, rfl, rfl, _, rfl, _, _, rfl, rfl, ?_⟩
    have e : wayI x y s = y - x + s := if_neg fun y => z (decide_eq_true y)
    rw [e] at q
    exact q
def nums (s d d2 : Int) : List V := [.int 0, .int (s - 1), .int (s / 2), .int d, .int d2]
theorem ok_number (c_l_take : C8.Cal P w K mg base 1 "_law_take" spTake []) (c_l_of : C8.Cal P w K mg base 2 "_law_of" (spOf K) []) : BodyOk P w K mg base "_law_number" s_l_number N_l_number 2 spNumber := by
  intro f cdv A outer s H vs Q E hr h
  obtain ⟨h, s, n, rfl, hs, hn, s0, s1, q⟩ := h
  have hn2 : n + 3 < 100000 := hn
  have p18' : (10 : Int) ^ 18 = 1000000000000000000 := by decide
  refine ⟨_, (pss_one (ps_ret (C8.pe_c c_l_of hr (by decide) (by rfl) (pa_cons (pv 0) (pa_cons (pe_lst (pa_cons pe_int (pa_cons (pe_op op_sub (pv 1) pe_int) (pa_cons (pe_op op_fdivW (pv 1) pe_int) (pa_cons (C8.pe_c c_l_take hr (by decide) (by rfl) (pa_cons (pv 0) (pa_cons (pv 1) pa_nil))) (pa_cons (C8.pe_c c_l_take hr (by decide) (by rfl) (pa_cons (pv 0) (pa_cons (pv 1) pa_nil))) pa_nil)))))) pa_nil))))), ?_⟩
  refine ⟨_, rfl, _, rfl, _, _, rfl, rfl, _, rfl, _, _, rfl, rfl, cdw (by decide) (by decide), ?_⟩
  refine ⟨_, rfl, _, rfl, h, s, n, rfl, hs, (show n < 100000 by omega), by omega, by omega, fun d H1 d0 d1 hs1 f1 => ?_⟩
  refine ⟨_, rfl, _, rfl, h, s, n + 1, rfl, hs1, (show n + 1 < 100000 by omega), by omega, by omega, fun d2 H2 d20 d21 hs2 f2 => ?_⟩
  refine ⟨(show 5 ≤ sizeLine by decide), fun p np => ?_⟩
  refine ⟨h, p, nums s d d2, n + 1 + 1, rfl, hs2.new np, (show n + 1 + 1 < 100000 by omega), hs2.ne np, SqL.of upd_same, (show 0 < 5 by decide), (show 5 ≤ 1000 by decide), fun v H4 hv hs4 f4 => ?_⟩
  have hx : ∃ z : Int, v = .int z ∧ 0 ≤ z ∧ z < s := by
    simp only [nums, List.mem_cons, List.not_mem_nil, or_false] at hv
    rcases hv with rfl | rfl | rfl | rfl | rfl <;> exact ⟨_, rfl, by omega, by omega⟩
  obtain ⟨z, rfl, z0, z1⟩ := hx
  exact q z H4 z0 z1 hs4 ((f1.trans f2).trans ((Fr.new np).trans f4))
theorem ok_whole (T : Tx K mg) : BodyOk P w K mg base "_law_whole" s_l_whole N_l_whole 0 spWhole := by
  intro f cdv A outer s H vs Q E hr h
  obtain ⟨a, b, rfl, q⟩ := h
  refine ⟨_, (pss_one (ps_ret (pe_and (pe_callB call_isi (by rfl) T.isinstance (by decide +kernel) (pa_cons (pv 0) (pa_cons (pe_bltn (v := .ty "int") (by rfl) T.int (by decide +kernel) rfl) pa_nil))) (pe_and (pe_not (pe_callB call_isi (by rfl) T.isinstance (by decide +kernel) (pa_cons (pv 0) (pa_cons (pe_bltn (v := .ty "bool") (by rfl) T.bool (by decide +kernel) rfl) pa_nil)))) (pe_one (pe_cmpR op_eq (pv 0) (pv 1) (nomark _))))))), ?_⟩
  refine ⟨_, rfl, _, _, _, _, true, rfl, .ty "int", .base (.int a), kit_ty (by decide +kernel), _, rfl, iteT ?_⟩
  refine ⟨_, rfl, _, _, _, _, false, rfl, .ty "bool", .base (.int a), kit_ty (by decide +kernel), _, rfl, _, rfl, iteT ?_⟩
  refine ⟨_, rfl, _, rfl, rfl, ?_⟩
  have e : decide ((V.int a) = V.int b) = decide (a = b) := by
    by_cases z : a = b
    · rw [z, decide_eq_true rfl, decide_eq_true rfl]
    · rw [decide_eq_false z, decide_eq_false fun y => z (V.int.inj y)]
  rw [e]
  exact q
def fars (s d d2 : Int) : List V := [.int 0, .int 1, .int (s - 1), .int s, .int (s + 1), .int (s / 2), .int d, .int d2]
theorem eqv2 (a b : Int) : PyData.eqv (.tuple [.int a, .int b]) (.tuple [.int a, .int b]) = true := SeqAt.eqv_refl _ rfl
theorem ok_right (T : Tx K mg) (g_RING : ∃ u, mg "RING" = some u ∧ RelV (.int 64) u) (c_l_take : C8.Cal P w K mg base 1 "_law_take" spTake []) (c_l_of : C8.Cal P w K mg base 2 "_law_of" (spOf K) []) (c_l_number : C8.Cal P w K mg base 3 "_law_number" spNumber [])
    (c_l_gone : C8.Cal P w K mg base 1 "_law_gone" spGone []) (c_l_way : C8.Cal P w K mg base 1 "_law_way" spWay []) (c_l_whole : C8.Cal P w K mg base 1 "_law_whole" spWhole [])
    (k_on : CalK P w K mg base 1 "on" 2 ["ring"] spOn) (c_on : C8.Cal P w K mg base 1 "on" spOn [.int 64]) (k_steps : CalK P w K mg base 1 "steps" 2 ["ring"] spSteps) (c_steps : C8.Cal P w K mg base 1 "steps" spSteps [.int 64]) :
    BodyOk P w K mg base "_law_right" s_l_right N_l_right 3 spRight := by
  intro f cdv A outer s H vs Q E hr h
  obtain ⟨h, s, n, rfl, hs, hn, s0, s1, q⟩ := h
  have hn2 : n + 9 < 100000 := hn
  have p18' : (10 : Int) ^ 18 = 1000000000000000000 := by decide
  refine ⟨_, (pss_cons (ps_par (i := 2) (j := 3) (by rfl) sc_l_right.nd rfl rfl (by decide) rfl rfl (pa_cons (C8.pe_c c_l_number hr (by decide) (by rfl) (pa_cons (pv 0) (pa_cons (pv 1) pa_nil))) (pa_cons (C8.pe_c c_l_number hr (by decide) (by rfl) (pa_cons (pv 0) (pa_cons (pv 1) pa_nil))) pa_nil)) (by rfl))
      (pss_cons (ps_set (i := 4) sc_l_right.nd rfl (Or.inl rfl) (C8.pe_c c_l_of hr (by decide) (by rfl) (pa_cons (pv 0) (pa_cons (pe_lst (pa_cons pe_int (pa_cons pe_int (pa_cons (pe_op op_sub (pv 1) pe_int) (pa_cons (pv 1) (pa_cons (pe_op op_add (pv 1) pe_int) (pa_cons (pe_op op_fdivW (pv 1) pe_int) (pa_cons (C8.pe_c c_l_take hr (by decide) (by rfl) (pa_cons (pv 0) (pa_cons pe_int pa_nil))) (pa_cons (C8.pe_c c_l_take hr (by decide) (by rfl) (pa_cons (pv 0) (pa_cons (pe_op op_pow pe_int pe_int) pa_nil))) pa_nil))))))))) pa_nil))))
      (pss_cons (ps_set (i := 5) sc_l_right.nd rfl (Or.inl rfl) (pe_tup (pa_cons (C8.pe_c c_l_gone hr (by decide) (by rfl) (pa_cons (pv 2) (pa_cons (pv 4) (pa_cons (pv 1) pa_nil)))) (pa_cons (C8.pe_c c_l_way hr (by decide) (by rfl) (pa_cons (pv 2) (pa_cons (pv 3) (pa_cons (pv 1) pa_nil)))) pa_nil))))
      (pss_cons (ps_if (PW.pt (pw_or (pt_not (pt_val (C8.pe_c c_l_whole hr (by decide) (by rfl) (pa_cons (pe_ck k_on hr (by decide) (by rfl) (pa_cons (pv 2) (pa_cons (pv 4) pa_nil)) (pk_cons (pv 1) pk_nil)) (pa_cons (pe_ix ix_tup (pv 5) pe_int (fun _ _ => rfl)) pa_nil))))) (pw_or1 (pt_not (pt_val (C8.pe_c c_l_whole hr (by decide) (by rfl) (pa_cons (pe_ck k_steps hr (by decide) (by rfl) (pa_cons (pv 2) (pa_cons (pv 3) pa_nil)) (pk_cons (pv 1) pk_nil)) (pa_cons (pe_ix ix_tup (pv 5) pe_int (fun _ _ => rfl)) pa_nil)))))))) (pss_one (ps_ret pe_bl)) pss_nil)
      (pss_cons (ps_if (PW.pt (pw_and (pt_cmpR op_eq (pv 1) (C8.pe_gc (by rfl) g_RING) (nomark _)) (pw_and1 (pt_cmpR (op_neD hr.units) (pe_tup (pa_cons (C8.pe_c c_on hr (by decide) (by rfl) (pa_cons (pv 2) (pa_cons (pv 4) pa_nil))) (pa_cons (C8.pe_c c_steps hr (by decide) (by rfl) (pa_cons (pv 2) (pa_cons (pv 3) pa_nil))) pa_nil))) (pv 5) (nomark _))))) (pss_one (ps_ret pe_bl)) pss_nil)
      (pss_one (ps_ret (pe_cmpR op_eq (pe_ck k_on hr (by decide) (by rfl) (pa_cons (pv 2) (pa_cons (pe_ck k_steps hr (by decide) (by rfl) (pa_cons (pv 2) (pa_cons (pv 3) pa_nil)) (pk_cons (pv 1) pk_nil)) pa_nil)) (pk_cons (pv 1) pk_nil)) (pv 3) (nomark _))))))))), ?_⟩
  refine st_seq ?_
  refine ⟨_, rfl, _, rfl, h, s, n, rfl, hs, (show n + 3 < 100000 by omega), by omega, s1, fun x H1 x0 x1 hs1 f1 => ?_⟩
  refine ⟨_, rfl, _, rfl, h, s, n + 3, rfl, hs1, (show n + 3 + 3 < 100000 by omega), by omega, s1, fun y H2 y0 y1 hs2 f2 => ?_⟩
  refine ⟨_, _, rfl, ?_⟩
  refine st_seq ?_
  refine ⟨_, rfl, _, rfl, _, _, rfl, rfl, _, rfl, _, rfl, _, _, rfl, rfl, _, rfl, _, _, rfl, rfl, cdw (by decide) (by decide), ?_⟩
  refine ⟨_, rfl, h, 99, n + 6, rfl, hs2, (show n + 6 < 100000 by omega), by decide, by decide, fun d H3 d0 d1 hs3 f3 => ?_⟩
  refine ⟨_, rfl, _, _, rfl, rfl, pow_ok (by decide), h, _, n + 6 + 1, rfl, hs3, (show n + 6 + 1 < 100000 by omega), (by rw [p17]; decide), (by rw [p17]; decide), fun d2 H4 d20 d21 hs4 f4 => ?_⟩
  refine ⟨(show 8 ≤ sizeLine by decide), fun p np => ?_⟩
  refine ⟨h, p, fars s d d2, n + 6 + 1 + 1, rfl, hs4.new np, (show n + 6 + 1 + 1 < 100000 by omega), hs4.ne np, SqL.of upd_same, (show 0 < 8 by decide), (show 8 ≤ 1000 by decide), fun v H5 hv hs5 f5 => ?_⟩
  have hx : ∃ m : Int, v = .int m := by
    simp only [fars, List.mem_cons, List.not_mem_nil, or_false] at hv
    rcases hv with rfl | rfl | rfl | rfl | rfl | rfl | rfl | rfl <;> exact ⟨_, rfl⟩
  obtain ⟨m, rfl⟩ := hx
  have fr : Fr h H H5 := (f1.trans (f2.trans (f3.trans f4))).trans ((Fr.new np).trans f5)
  -- due
  refine st_seq ?_
  refine ⟨_, rfl, _, rfl, _, rfl, x, m, s, rfl, by omega, s1, _, rfl, _, rfl, _, rfl, x, y, s, rfl, (show 2 ≤ sizeLine by decide), fun t nt => ?_⟩
  have hs6 : HS h (n + 9) (upd H5 t (.tup [.int (goneI x m s), .int (wayI x y s)])) := hs5.new nt
  have fr6 : Fr h H (upd H5 t (.tup [.int (goneI x m s), .int (wayI x y s)])) := fr.trans (Fr.new nt)
  have e1 : goneI x m s = (x + m) % s := gone_eq (by omega) x0 x1
  have e2 : wayI x y s = (y - x) % s := way_eq x0 x1 y0 y1
  refine st_seq ?_
  refine ⟨_, rfl, _, rfl, _, rfl, rfl, rfl, x, m, s, rfl, by omega, _, rfl, t, _, _, _, rfl, rfl, SqT.of upd_same, rfl, _, _, rfl, _, rfl, ?_⟩
  rw [e1, decide_eq_true rfl]
  refine iteF ?_
  refine ⟨_, rfl, _, rfl, _, rfl, rfl, rfl, x, y, s, rfl, by omega, _, rfl, t, _, _, _, rfl, rfl, SqT.of upd_same, rfl, _, _, rfl, _, rfl, ?_⟩
  rw [e2, decide_eq_true rfl]
  refine iteF ?_
  rw [e1, e2] at hs6 fr6
  refine st_seq ?_
  refine ⟨_, rfl, rfl, _, rfl, ite2 (fun z => ?_) (fun z => ?_)⟩
  · have es : s = 64 := V.int.inj (of_decide_eq_true z)
    subst es
    refine ⟨_, rfl, _, rfl, x, m, 64, rfl, by decide, _, rfl, _, rfl, x, y, 64, rfl, by decide, (show 2 ≤ sizeLine by decide), fun t2 nt2 => ?_⟩
    have nt : t ≠ t2 := fun z => by
      rw [← z, upd_same] at nt2
      cases nt2
    refine ⟨_, rfl, .tuple [.int ((x + m) % 64), .int ((y - x) % 64)], .tuple [.int ((x + m) % 64), .int ((y - x) % 64)], .tup (SqT.of upd_same) (.cons (.int _) (.cons (.int _) .nil)), .tup (SqT.of ?_) (.cons (.int _) (.cons (.int _) .nil)), rfl, rfl, _, rfl, ?_⟩
    · rw [upd_ne nt]
      exact upd_same
    · rw [eqv2]
      refine iteF ?_
      refine ⟨_, rfl, _, rfl, _, rfl, _, rfl, rfl, rfl, x, y, 64, rfl, by decide, _, rfl, rfl, rfl, x, _, 64, rfl, by decide, _, rfl, rfl, ?_⟩
      rw [undo y0 y1, decide_eq_true rfl]
      exact q _ (hs6.new nt2) (fr6.trans (Fr.new nt2))
  · refine iteF ?_
    refine ⟨_, rfl, _, rfl, _, rfl, _, rfl, rfl, rfl, x, y, s, rfl, by omega, _, rfl, rfl, rfl, x, _, s, rfl, by omega, _, rfl, rfl, ?_⟩
    rw [undo y0 y1, decide_eq_true rfl]
    exact q _ hs6 fr6
theorem seq_new {K : PySem.W.Frag} {H H' : Hp} {a p : Addr} {xs : List V} (q : SqL K H a xs) (e : H p = none) (f : Fr p H H') : SqL K H' a xs := by
  rcases q with (q | ⟨o, q⟩) | q
  · exact .inl (.inl (f _ _ (ne_of_none q e) q))
  · exact .inl (.inr ⟨o, f _ _ (ne_of_none q e) q⟩)
  · exact .inr q
theorem all_rep (n : Nat) : (List.replicate n true).all id = true := by
  rw [List.all_eq_true]
  intro x hx
  exact (List.eq_of_mem_replicate hx)
theorem ok_law (T : Tx K mg) (g_RING : ∃ u, mg "RING" = some u ∧ RelV (.int 64) u) (g_STOP : ∃ u, mg "STOP" = some u ∧ RelV (.int 28) u) (g_WARN : ∃ u, mg "WARN" = some u ∧ RelV (.int 20) u)
    (c_l_hand : C8.Cal P w K mg base 1 "_law_hand" (spHand K) []) (c_l_size : C8.Cal P w K mg base 3 "_law_size" spSize []) (c_l_right : C8.Cal P w K mg base 4 "_law_right" spRight []) :
    BodyOk P w K mg base "law" s_law N_law 4 (spLaw K) := by
  intro f cdv A outer s H vs Q E hr h
  obtain ⟨a, ns, rfl, hS, hl, q⟩ := h
  refine ⟨_, (pss_cons (ps_for PassesOwn.never rfl (pi_range1 (by rfl) T.range (pa_cons (pe_op op_add pe_int (pe_callB (call_min2 rfl) (by rfl) T.min (by decide +kernel) (pa_cons pe_int (pa_cons (pe_callB call_len_seq (by rfl) T.len (by decide +kernel) (pa_cons (pv 0) pa_nil)) pa_nil)))) pa_nil)) (pg_name (i := 1) sc_law.nd rfl (Or.inl rfl)) (pss_cons (ps_set (i := 2) sc_law.nd rfl (Or.inr rfl) (C8.pe_c c_l_hand hr (by decide) (by rfl) (pa_cons (pv 0) (pa_cons (pv 1) pa_nil))))
      (pss_cons (ps_set (i := 3) sc_law.nd rfl (Or.inr rfl) (C8.pe_c c_l_size hr (by decide) (by rfl) (pa_cons (pv 2) pa_nil)))
      (pss_one (ps_if (pt_not (pt_val (pe_callB (cr_all rfl) (by rfl) T.all (by decide +kernel) (pa_cons (pe_lc (own := [("_law_turn", 4)]) (g := gName 4) (tt := tYes) rfl sc_law.nd (pi_range1 (by rfl) T.range (pa_cons pe_int pa_nil)) (blkOk_by (own := [("_law_turn", 4)]) (N := N_law) (sc := defScope s_law) (by decide +kernel)) (fun _ _ _ _ _ => pg_name (i := 4) sc_law.nd rfl (Or.inl rfl)) (fun _ _ _ _ _ => pts_nil) (fun _ _ _ _ _ => (pe_and (C8.pe_c c_l_right hr (by decide) (by rfl) (pa_cons (pv 2) (pa_cons (pv 3) pa_nil))) (pe_one (C8.pe_c c_l_right hr (by decide) (by rfl) (pa_cons (pv 2) (pa_cons pe_int pa_nil))))))) pa_nil)))) (pss_one (ps_ret pe_bl)) pss_nil)))))
      (pss_one (ps_ret (pe_cmpR (op_eqD hr.units) (pe_tup (pa_cons (C8.pe_gc (by rfl) g_RING) (pa_cons (C8.pe_gc (by rfl) g_STOP) (pa_cons (C8.pe_gc (by rfl) g_WARN) pa_nil)))) (pe_tup (pa_cons pe_int (pa_cons pe_int (pa_cons pe_int pa_nil)))) (nomark _))))), ?_⟩
  refine st_seq ?_
  refine ⟨_, rfl, a, _, rfl, .inl hS, _, _, rfl, _, _, rfl, rfl, _, rfl, ?_, ?_, ?_⟩
  · split <;> omega
  · rw [List.length_map]
    split <;> omega
  · refine for_range (lo := 0) (fun i σ H' => (∃ y1 y2 y3 y4, σ = [some (.ref a), y1, y2, y3, y4]) ∧ SqL K H' a (ns.map V.int)) ⟨⟨none, none, none, none, rfl⟩, hS⟩ (fun i σ H1 hi hP => ?_) (fun σ H1 hP => ?_)
    · obtain ⟨⟨y1, y2, y3, y4, rfl⟩, hS1⟩ := hP
      have hi2 : i ≤ 8 := by
        rw [List.length_map] at hi
        split at hi <;> omega
      refine st_seq ?_
      refine ⟨_, rfl, _, rfl, a, ns, i, ?_, hS1, by omega, fun p H2 np ke hs => ?_⟩
      · show [V.ref a, V.int (0 + (i : Int))] = _
        rw [Int.zero_add]
      have fr2 : Fr p H1 H2 := fun b o _ e => ke b o e
      refine st_seq ?_
      refine ⟨_, rfl, p, 0, rfl, hs, (show 0 + 3 < 100000 by decide), fun z H3 z0 z1 z2 hs3 f3 => ?_⟩
      have fr3 : Fr p H1 H3 := fr2.trans f3
      refine ⟨8, rfl, by decide, by decide, fun D nD => ?_⟩
      refine lc_range (lo := 0) (fun j H' => HS p (3 + 18 * j) H' ∧ Fr p H3 H' ∧ H' D = some (.lst ((List.replicate j true).map V.bl))) ?_ (fun j H4 hj hP => ?_) (fun H4 hP => ?_)
      · exact ⟨hs3.new nD, Fr.new nD, upd_same⟩
      · obtain ⟨h4, f4, e4⟩ := hP
        have hj8 : j < 8 := hj
        refine ⟨rfl, ?_⟩
        refine ⟨_, rfl, _, rfl, p, z, 3 + 18 * j, rfl, h4, (show 3 + 18 * j + 9 < 100000 by omega), z0, z1, fun H5 h5 f5 => ?_⟩
        refine ⟨_, rfl, iteT ?_⟩
        refine ⟨_, rfl, p, 64, 3 + 18 * j + 9, rfl, h5, (show 3 + 18 * j + 9 + 9 < 100000 by omega), by decide, by decide, fun H6 h6 f6 => ?_⟩
        have nDp : D ≠ p := hs3.ne nD
        have e6 := f6 _ _ nDp (f5 _ _ nDp e4)
        refine ⟨_, e6, ?_, ?_, ?_, ?_⟩
        · rw [List.length_map, List.length_replicate]
          exact small1000 (by omega)
        · refine HS.mono ?_ (show 3 + 18 * j + 9 + 9 ≤ 3 + 18 * (j + 1) by omega)
          obtain ⟨g, b, c, eh, r⟩ := h6
          exact ⟨g, b, c, (by rw [upd_ne nDp.symm]; exact eh), r⟩
        · exact Fr.mut (f4.trans (f5.trans f6)) nD
        · rw [upd_same, List.replicate_succ', List.map_append]
          rfl
      · obtain ⟨h4, f4, e4⟩ := hP
        refine ⟨D, _, rfl, SqL.of e4, _, rfl, ?_⟩
        rw [all_rep]
        refine iteF ?_
        exact ⟨⟨_, _, _, _, rfl⟩, seq_new hS1 np (fr3.trans f4)⟩
    · obtain ⟨⟨y1, y2, y3, y4, rfl⟩, hS1⟩ := hP
      refine ⟨(show 3 ≤ sizeLine by decide), fun t nt => ⟨(show 3 ≤ sizeLine by decide), fun t2 nt2 => ?_⟩⟩
      have ntt : t ≠ t2 := fun z => by
        rw [← z, upd_same] at nt2
        cases nt2
      refine ⟨.tuple [.int 64, .int 28, .int 20], .tuple [.int 64, .int 28, .int 20], .tup (SqT.of ?_) (.cons (.int _) (.cons (.int _) (.cons (.int _) .nil))), .tup (SqT.of upd_same) (.cons (.int _) (.cons (.int _) (.cons (.int _) .nil))), rfl, rfl, ?_⟩
      · rw [upd_ne ntt]
        exact upd_same
      · rw [show PyData.eqv (.tuple [.int 64, .int 28, .int 20]) (.tuple [.int 64, .int 28, .int 20]) = true from SeqAt.eqv_refl _ rfl]
        exact q _
end
/-! ### the head -/
theorem def0_mk {K : PySem.W.Frag} {h : Heap} {mg : Str → Option Value} {x : Str} {st : Stmt} {ps : List Str} (X : K.In h) (G : h.Ns mainGlobals mg) (g : (He.Fa.glo x).ok K = true)
    (F : ∃ fd, FunD K x x (defArgs st) (defBody st) (defScope st) [] [] (He.ga K x) fd)
    (hb : ∀ (kV doc pm : Value) (an : Option Addr) (cdv ct : Value) (us : List Value), us.length = ps.length → bindArgs (PySem.W.fnOf x x (defArgs st) (defBody st) (defScope st) .none kV doc pm an cdv ct) ⟨us, []⟩ = pure (ps.zip us)) : Def0 K mg x st ps := by
  obtain ⟨fd, F⟩ := F
  exact ⟨_, fd, F, He.glo_ok X G g, F.bindsN hb⟩
theorem defK_mk {K : PySem.W.Frag} {h : Heap} {mg : Str → Option Value} {x : Str} {st : Stmt} {ps : List Str} {n : Nat} {y : Str} {v : V} (X : K.In h) (G : h.Ns mainGlobals mg) (g : (He.Fa.glo x).ok K = true)
    (F : ∃ fd, FunD K x x (defArgs st) (defBody st) (defScope st) [] [(y, v)] (He.ga K x) fd) (hn : n + 1 = ps.length)
    (hb : ∀ (D : Addr) (doc pm : Value) (an : Option Addr) (cdv ct : Value) (us ks : List Value), us.length = n → ks.length = 1 →
      KwChain D (([y] : List Str).zip ks) (bindArgs (PySem.W.fnOf x x (defArgs st) (defBody st) (defScope st) .none (.ref D) doc pm an cdv ct) ⟨us, []⟩) (ps.zip (us ++ ks)))
    (hk : ∀ (kV doc pm : Value) (an : Option Addr) (cdv ct : Value) (us ws : List Value), us.length = n → ws.length = 1 →
      bindArgs (PySem.W.fnOf x x (defArgs st) (defBody st) (defScope st) .none kV doc pm an cdv ct) ⟨us, ([y] : List Str).zip ws⟩ = pure (ps.zip (us ++ ws))) : DefK K mg x st ps n [(y, v)] := by
  obtain ⟨fd, F⟩ := F
  refine ⟨_, fd, F, He.glo_ok X G g, F.binds0 n (by simp) hn hb, fun us ws => us ++ ws, ⟨fun s us ws _ l1 l2 => ?_, fun r1 r2 => r1.append r2⟩⟩
  obtain ⟨oc, od, dV, kV, doc, pm, an, cdv, ct, osl, rfl, lk, hcd, hD, hK⟩ := F.ex
  rcases hD with ⟨_, rfl⟩ | ⟨e, _⟩
  · exact .of_eq (hk kV doc pm an cdv ct us ws l1 l2)
  · exact absurd rfl e
theorem int_g {K : PySem.W.Frag} {h : Heap} {mg : Str → Option Value} {x : Str} {i : Int} (X : K.In h) (G : h.Ns mainGlobals mg) (g : (He.Fa.int x i).ok K = true) : ∃ u, mg x = some u ∧ RelV (.int i) u := by
  obtain ⟨t, e⟩ := He.int_ok X G g
  exact ⟨_, e, t, rfl⟩
def d_on : He.DefD := ⟨("on", none), "on", "on", defArgs s_on, defBody s_on, defScope s_on, [], [("ring", .int 64)]⟩
def d_steps : He.DefD := ⟨("steps", none), "steps", "steps", defArgs s_steps, defBody s_steps, defScope s_steps, [], [("ring", .int 64)]⟩
def d_l_hand : He.DefD := ⟨("_law_hand", none), "_law_hand", "_law_hand", defArgs s_l_hand, defBody s_l_hand, defScope s_l_hand, [], []⟩
def d_l_take : He.DefD := ⟨("_law_take", none), "_law_take", "_law_take", defArgs s_l_take, defBody s_l_take, defScope s_l_take, [], []⟩
def d_l_of : He.DefD := ⟨("_law_of", none), "_law_of", "_law_of", defArgs s_l_of, defBody s_l_of, defScope s_l_of, [], []⟩
def d_l_size : He.DefD := ⟨("_law_size", none), "_law_size", "_law_size", defArgs s_l_size, defBody s_l_size, defScope s_l_size, [], []⟩
def d_l_gone : He.DefD := ⟨("_law_gone", none), "_law_gone", "_law_gone", defArgs s_l_gone, defBody s_l_gone, defScope s_l_gone, [], []⟩
def d_l_way : He.DefD := ⟨("_law_way", none), "_law_way", "_law_way", defArgs s_l_way, defBody s_l_way, defScope s_l_way, [], []⟩
def d_l_number : He.DefD := ⟨("_law_number", none), "_law_number", "_law_number", defArgs s_l_number, defBody s_l_number, defScope s_l_number, [], []⟩
def d_l_whole : He.DefD := ⟨("_law_whole", none), "_law_whole", "_law_whole", defArgs s_l_whole, defBody s_l_whole, defScope s_l_whole, [], []⟩
def d_l_right : He.DefD := ⟨("_law_right", none), "_law_right", "_law_right", defArgs s_l_right, defBody s_l_right, defScope s_l_right, [], []⟩
def d_law : He.DefD := ⟨("law", none), "law", "law", defArgs s_law, defBody s_law, defScope s_law, [], []⟩
def fn : List He.DefD := [d_on, d_steps, d_l_hand, d_l_take, d_l_of, d_l_size, d_l_gone, d_l_way, d_l_number, d_l_whole, d_l_right, d_law]
def fa : List He.Fa := [.glo "on", .glo "steps", .glo "_law_hand", .glo "_law_take", .glo "_law_of", .glo "_law_size", .glo "_law_gone", .glo "_law_way", .glo "_law_number", .glo "_law_whole", .glo "_law_right", .glo "law", .int "RING" 64, .int "STOP" 28, .int "WARN" 20] ++ freeNames.map .free
abbrev R : PySem.W.OpenRow := PySem.W.OpenLaw.row PySem.Challenge.rw_roundstore_k02_on_and_steps
abbrev hk : PySem.W.Hook := He.hookD 4 fa fn
def ob (s : PySem.W.SharedT) : He.AlD := He.obsDG 4 fa fn (HandSHeadRun.getT s)
theorem ob_eq (s : PySem.W.SharedT) : ob s = hk.obs s.abs := He.obsDG_eq (HandSHeadRun.getT_eq s)
theorem run (w : World) : HandSHeadRun.RunEq R (PySem.W.view R.prog [16]) hk ob 2000 ["RING", "STOP", "WARN", "on", "steps", "_law_hand", "_law_take", "_law_of", "_law_size", "_law_gone", "_law_way", "_law_number", "_law_whole", "_law_right"] w := by
  intro os
  kernel_rfl
theorem facts {P : Program} {w : World} {K : PySem.W.Frag} {h : Heap} {mg : Str → Option Value} {f : Addr} (X : K.In h) (G : h.Ns mainGlobals mg) (hfa : mg ("law" : Str) = some (.ref f)) (c : He.SaysD fa fn K) :
    ∃ fd : FuncData, (∀ (s : Shared) (v : Value), BindsTo s fd ⟨[v], []⟩ [("_law_script", v)]) ∧ ∀ base : Heap, K.In base → base.Ns mainGlobals mg → FnOk P w K mg base CX0 5 f fd ["_law_script"] (spLaw K) := by
  have T : Tx K mg := tx_mk fun x hx => He.free_ok X G (by
    obtain ⟨i, hi, e⟩ := List.mem_iff_getElem.mp hx
    exact c.fact (12 + 3 + i) (f := .free x) (by
      show ([.glo "on", .glo "steps", .glo "_law_hand", .glo "_law_take", .glo "_law_of", .glo "_law_size", .glo "_law_gone", .glo "_law_way", .glo "_law_number", .glo "_law_whole", .glo "_law_right", .glo "law", .int "RING" 64, .int "STOP" 28, .int "WARN" 20] ++ freeNames.map He.Fa.free)[12 + 3 + i]? = _
      rw [List.getElem?_append_right (by show 12 + 3 ≤ _; omega)]
      show (freeNames.map He.Fa.free)[12 + 3 + i - (12 + 3)]? = _
      rw [Nat.add_sub_cancel_left, List.getElem?_map, List.getElem?_eq_getElem hi, e]
      rfl))
  have gR := int_g X G (c.fact 12 (f := .int "RING" 64) rfl)
  have gS := int_g X G (c.fact (12 + 1) (f := .int "STOP" 28) rfl)
  have gW := int_g X G (c.fact (12 + 2) (f := .int "WARN" 20) rfl)
  have Don : DefK K mg "on" s_on ["number", "many", "ring"] 2 [("ring", .int 64)] := defK_mk X G (c.fact 0 (f := .glo "on") rfl) (c.def_ 0 (d := d_on) rfl) rfl
    (fun _ _ _ _ _ _ us ks l1 l2 => match us, ks, l1, l2 with | [_, _], [_], _, _ => ⟨_, _, _, _, _, _, rfl, rfl, rfl⟩) (fun _ _ _ _ _ _ us ws l1 l2 => match us, ws, l1, l2 with | [_, _], [_], _, _ => rfl)
  have Dst : DefK K mg "steps" s_steps ["one", "other", "ring"] 2 [("ring", .int 64)] := defK_mk X G (c.fact 1 (f := .glo "steps") rfl) (c.def_ 1 (d := d_steps) rfl) rfl
    (fun _ _ _ _ _ _ us ks l1 l2 => match us, ks, l1, l2 with | [_, _], [_], _, _ => ⟨_, _, _, _, _, _, rfl, rfl, rfl⟩) (fun _ _ _ _ _ _ us ws l1 l2 => match us, ws, l1, l2 with | [_, _], [_], _, _ => rfl)
  have Dhand : Def0 K mg "_law_hand" s_l_hand ["_law_script", "_law_k"] := def0_mk X G (c.fact 2 (f := .glo "_law_hand") rfl) (c.def_ 2 (d := d_l_hand) rfl) fun _ _ _ _ _ _ us hl => match us, hl with | [_, _], _ => rfl
  have Dtake : Def0 K mg "_law_take" s_l_take ["_law_hand_here", "_law_many"] := def0_mk X G (c.fact 3 (f := .glo "_law_take") rfl) (c.def_ 3 (d := d_l_take) rfl) fun _ _ _ _ _ _ us hl => match us, hl with | [_, _], _ => rfl
  have Dof : Def0 K mg "_law_of" s_l_of ["_law_hand_here", "_law_some"] := def0_mk X G (c.fact 4 (f := .glo "_law_of") rfl) (c.def_ 4 (d := d_l_of) rfl) fun _ _ _ _ _ _ us hl => match us, hl with | [_, _], _ => rfl
  have Dsize : Def0 K mg "_law_size" s_l_size ["_law_hand_here"] := def0_mk X G (c.fact 5 (f := .glo "_law_size") rfl) (c.def_ 5 (d := d_l_size) rfl) fun _ _ _ _ _ _ us hl => match us, hl with | [_], _ => rfl
  have Dgone : Def0 K mg "_law_gone" s_l_gone ["_law_number_here", "_law_many", "_law_size_here"] := def0_mk X G (c.fact 6 (f := .glo "_law_gone") rfl) (c.def_ 6 (d := d_l_gone) rfl) fun _ _ _ _ _ _ us hl => match us, hl with | [_, _, _], _ => rfl
  have Dway : Def0 K mg "_law_way" s_l_way ["_law_one", "_law_other", "_law_size_here"] := def0_mk X G (c.fact 7 (f := .glo "_law_way") rfl) (c.def_ 7 (d := d_l_way) rfl) fun _ _ _ _ _ _ us hl => match us, hl with | [_, _, _], _ => rfl
  have Dnum : Def0 K mg "_law_number" s_l_number ["_law_hand_here", "_law_size_here"] := def0_mk X G (c.fact 8 (f := .glo "_law_number") rfl) (c.def_ 8 (d := d_l_number) rfl) fun _ _ _ _ _ _ us hl => match us, hl with | [_, _], _ => rfl
  have Dwh : Def0 K mg "_law_whole" s_l_whole ["_law_told", "_law_due"] := def0_mk X G (c.fact 9 (f := .glo "_law_whole") rfl) (c.def_ 9 (d := d_l_whole) rfl) fun _ _ _ _ _ _ us hl => match us, hl with | [_, _], _ => rfl
  have Dri : Def0 K mg "_law_right" s_l_right ["_law_hand_here", "_law_size_here"] := def0_mk X G (c.fact 10 (f := .glo "_law_right") rfl) (c.def_ 10 (d := d_l_right) rfl) fun _ _ _ _ _ _ us hl => match us, hl with | [_, _], _ => rfl
  obtain ⟨fd, F⟩ := c.def_ 11 (d := d_law) rfl
  have e := hfa.symm.trans (He.glo_ok X G (c.fact 11 (f := .glo "law") rfl))
  cases e
  have b := FunD.bindsA (ps := ["_law_script"]) F fun _ _ _ _ _ _ us hl => match us, hl with | [_], _ => rfl
  refine ⟨fd, fun s v => b s [v] rfl, fun base _ _ => ?_⟩
  have Con := Don.ok (P := P) (w := w) (base := base) (sp := spOn) sc_on (fun vs H Q E h => by obtain ⟨_, _, _, rfl, _⟩ := h; rfl) ok_on
  have Cst := Dst.ok (P := P) (w := w) (base := base) (sp := spSteps) sc_steps (fun vs H Q E h => by obtain ⟨_, _, _, rfl, _⟩ := h; rfl) ok_steps
  have Chand := Dhand.cal (P := P) (w := w) (base := base) (sp := spHand K) sc_l_hand (fun vs H Q E h => by obtain ⟨_, _, _, rfl, _⟩ := h; rfl) (ok_hand T)
  have Ctake := Dtake.cal (P := P) (w := w) (base := base) (sp := spTake) sc_l_take (fun vs H Q E h => by obtain ⟨_, _, _, rfl, _⟩ := h; rfl) (ok_take T)
  have Cof := Dof.cal (P := P) (w := w) (base := base) (sp := spOf K) sc_l_of (fun vs H Q E h => by obtain ⟨_, _, _, _, rfl, _⟩ := h; rfl) (ok_of T Ctake)
  have Csize := Dsize.cal (P := P) (w := w) (base := base) (sp := spSize) sc_l_size (fun vs H Q E h => by obtain ⟨_, _, rfl, _⟩ := h; rfl) (ok_size T Ctake Cof)
  have Cgone := Dgone.cal (P := P) (w := w) (base := base) (sp := spGone) sc_l_gone (fun vs H Q E h => by obtain ⟨_, _, _, rfl, _⟩ := h; rfl) ok_gone
  have Cway := Dway.cal (P := P) (w := w) (base := base) (sp := spWay) sc_l_way (fun vs H Q E h => by obtain ⟨_, _, _, rfl, _⟩ := h; rfl) ok_way
  have Cnum := Dnum.cal (P := P) (w := w) (base := base) (sp := spNumber) sc_l_number (fun vs H Q E h => by obtain ⟨_, _, _, rfl, _⟩ := h; rfl) (ok_number Ctake Cof)
  have Cwh := Dwh.cal (P := P) (w := w) (base := base) (sp := spWhole) sc_l_whole (fun vs H Q E h => by obtain ⟨_, _, rfl, _⟩ := h; rfl) (ok_whole T)
  have Cri := Dri.cal (P := P) (w := w) (base := base) (sp := spRight) sc_l_right (fun vs H Q E h => by obtain ⟨_, _, _, rfl, _⟩ := h; rfl) (ok_right T gR Ctake Cof Cnum Cgone Cway Cwh Con.1 Con.2 Cst.1 Cst.2)
  refine F.ok (CX := CX0) sc_law (fun vs H Q E h => by obtain ⟨_, _, rfl, _⟩ := h; rfl) (fun cdv A outer s H vs Q E hr h => ?_)
  obtain ⟨t, h1, h2⟩ := ok_law (P := P) (w := w) (base := base) T gR gS gW Chand Csize Cri _ cdv A outer s H vs Q E hr h
  exact ⟨t, h1.nox, h2⟩
end Rd
open PySem PySem.W PySem.Calls PyProof.Rows
theorem PySem.Challenge.cw_roundstore_k02_on_and_steps_holds : PySem.Challenge.rw_roundstore_k02_on_and_steps.Holds := by
  w_on; o_law
  refine HandSHeadRun.head_any (r := OpenLaw.row PySem.Challenge.rw_roundstore_k02_on_and_steps) (q := view (OpenLaw.row PySem.Challenge.rw_roundstore_k02_on_and_steps).prog [16]) (H := Rd.hk) (ob := Rd.ob) (M := 2000) (loose := ["RING", "STOP", "WARN", "on", "steps", "_law_hand", "_law_take", "_law_of", "_law_size", "_law_gone", "_law_way", "_law_number", "_law_whole", "_law_right"]) (d := HandSHeadRun.topDef (OpenLaw.row PySem.Challenge.rw_roundstore_k02_on_and_steps).prog 16) (kwd := []) Rd.ob_eq
    (by kernel_rfl) (fun s => by kernel_rfl) Rd.run (by kernel_rfl) (by kernel_rfl) (by kernel_rfl) (by rfl) (by first | assumption | decide +kernel) (by decide +kernel) ⟨rfl, rfl, rfl, rfl, rfl, by decide +kernel⟩ ?hw ?hc
  case hw => w_witness2
  case hc =>
    refine L2.walk_ofE (l := PySem.Challenge.rw_roundstore_k02_on_and_steps) (n := 63) (k := 5) (x := "_law_script") (CX := L2.CX0) rfl (by decide) (by kernel_rfl) ⟨rfl, by decide, by decide⟩ ?F (fun _ _ _ _ z => z)
    intro w mg fa h Y G hmg0
    obtain ⟨K, KX, c⟩ := Y
    have hmg : mg ("law" : PySem.Str) = some (.ref fa) := by
      have e : (HandSHeadRun.topDef (OpenLaw.row PySem.Challenge.rw_roundstore_k02_on_and_steps).prog 16).name = ("law" : PySem.Str) := by kernel_rfl
      rw [← e]
      exact hmg0
    obtain ⟨fd, hb, hF⟩ := Rd.facts (P := (PySem.Challenge.rw_roundstore_k02_on_and_steps).prog) (w := w) KX G hmg c
    exact ⟨K, fd, Rd.spLaw K, KX, hb, fun H a ns hl _ hS => ⟨a, ns, rfl, hS, hl, fun _ => rfl⟩, hF⟩
