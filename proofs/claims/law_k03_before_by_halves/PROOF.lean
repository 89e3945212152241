import PyProof.Rows.All
import Wide.All
import OpenK.AllK
import Wide.FinOn
import KE.KStateDown
import HandS.ForMost
import HandS.More
import HandS.Conv
import HandS.Flow
import HandS.Style
import HandS.Steps
import HandS.Codes
import HandS.IsInst
import HandS.SortInts
import HandS.Strs
import HandS.Wide
import HandS.WordsExc
import HandS.Defaults
import HandS.Head0
import HandS.Head1
import HandS.Head2
import HandS.HeadEnd
import HandS.HeadHook1
import HandS.HeadHook2
import PySem.Challenge.RW_roundstore_k03_before_by_halves
set_option Elab.async false
set_option linter.all false
set_option maxRecDepth 100000
set_option maxHeartbeats 8000000
namespace Rd
open PySem PySem.Spec PyProof.Rows L2
def top (i : Nat) : Stmt := PySem.Challenge.pw_roundstore_k03_before_by_halves.main.body.getD i (.Pass ⟨0, 0, 0, 0⟩)
abbrev s_steps : Stmt := top 2
abbrev N_steps : List Str := ["one", "other", "ring"]
theorem sc_steps : FnScope N_steps ["one", "other", "ring"] (defScope s_steps) := ⟨rfl, rfl, rfl, by decide +kernel, rfl, by decide +kernel, by decide +kernel⟩
abbrev s_before : Stmt := top 3
abbrev N_before : List Str := ["one", "other", "ring"]
theorem sc_before : FnScope N_before ["one", "other", "ring"] (defScope s_before) := ⟨rfl, rfl, rfl, by decide +kernel, rfl, by decide +kernel, by decide +kernel⟩
abbrev s_l_hand : Stmt := top 5
abbrev N_l_hand : List Str := ["_law_script", "_law_k", "_law_cell", "_law_great"]
theorem sc_l_hand : FnScope N_l_hand ["_law_script", "_law_k"] (defScope s_l_hand) := ⟨rfl, rfl, rfl, by decide +kernel, rfl, by decide +kernel, by decide +kernel⟩
abbrev s_l_take : Stmt := top 6
abbrev N_l_take : List Str := ["_law_hand_here", "_law_many", "_law_digit", "_law_primes", "_law_prime", "_law_drawn"]
theorem sc_l_take : FnScope N_l_take ["_law_hand_here", "_law_many"] (defScope s_l_take) := ⟨rfl, rfl, rfl, by decide +kernel, rfl, by decide +kernel, by decide +kernel⟩
abbrev s_l_of : Stmt := top 7
abbrev N_l_of : List Str := ["_law_hand_here", "_law_some"]
theorem sc_l_of : FnScope N_l_of ["_law_hand_here", "_law_some"] (defScope s_l_of) := ⟨rfl, rfl, rfl, by decide +kernel, rfl, by decide +kernel, by decide +kernel⟩
abbrev s_l_size : Stmt := top 8
abbrev N_l_size : List Str := ["_law_hand_here", "_law_some"]
theorem sc_l_size : FnScope N_l_size ["_law_hand_here"] (defScope s_l_size) := ⟨rfl, rfl, rfl, by decide +kernel, rfl, by decide +kernel, by decide +kernel⟩
abbrev s_l_is_ahead : Stmt := top 9
abbrev N_l_is_ahead : List Str := ["_law_one", "_law_other", "_law_size_here", "_law_way"]
theorem sc_l_is_ahead : FnScope N_l_is_ahead ["_law_one", "_law_other", "_law_size_here"] (defScope s_l_is_ahead) := ⟨rfl, rfl, rfl, by decide +kernel, rfl, by decide +kernel, by decide +kernel⟩
abbrev s_l_pair_right : Stmt := top 10
abbrev N_l_pair_right : List Str := ["_law_one", "_law_other", "_law_size_here", "_law_first", "_law_second", "_law_told", "_law_due"]
theorem sc_l_pair_right : FnScope N_l_pair_right ["_law_one", "_law_other", "_law_size_here"] (defScope s_l_pair_right) := ⟨rfl, rfl, rfl, by decide +kernel, rfl, by decide +kernel, by decide +kernel⟩
abbrev s_law : Stmt := top 11
abbrev N_law : List Str := ["_law_script", "_law_k", "_law_hand_here", "_law_size_here", "_law_one", "_law_half", "_law_ways", "_law_way"]
theorem sc_law : FnScope N_law ["_law_script"] (defScope s_law) := ⟨rfl, rfl, rfl, by decide +kernel, rfl, by decide +kernel, by decide +kernel⟩
/-! ### what the top leaves, and what a def keeps -/
structure Tx (K : PySem.W.Frag) (mg : Str → Option Value) : Prop where
  len : mg "len" = none
  abs : mg "abs" = none
  int : mg "int" = none
  bool : mg "bool" = none
  min : mg "min" = none
  max : mg "max" = none
  all : mg "all" = none
  isinstance : mg "isinstance" = none
  range : mg "range" = none
  list : mg "list" = none
  tuple : mg "tuple" = none
  sorted : mg "sorted" = none
  set : mg "set" = none
def freeNames : List Str := ["len", "abs", "int", "bool", "min", "max", "all", "isinstance", "range", "list", "tuple", "sorted", "set"]
theorem tx_mk {K : PySem.W.Frag} {mg : Str → Option Value} (h : ∀ x ∈ freeNames, mg x = none) : Tx K mg :=
  ⟨h _ (by decide), h _ (by decide), h _ (by decide), h _ (by decide), h _ (by decide), h _ (by decide), h _ (by decide), h _ (by decide), h _ (by decide), h _ (by decide), h _ (by decide), h _ (by decide), h _ (by decide)⟩
/-- a def without defaults -/
structure Def0 (K : PySem.W.Frag) (mg : Str → Option Value) (x : Str) (st : Stmt) (ps : List Str) : Prop where
  ex : ∃ (f : Addr) (fd : FuncData), FunD K x x (defArgs st) (defBody st) (defScope st) [] [] f fd ∧ mg x = some (.ref f) ∧ Binds K fd ps []
/-- a def with keyword-only defaults: n values by place, the rest by name or left out -/
structure DefK (K : PySem.W.Frag) (mg : Str → Option Value) (x : Str) (st : Stmt) (ps : List Str) (n : Nat) (kws : List (Str × V)) : Prop where
  ex : ∃ (f : Addr) (fd : FuncData), FunD K x x (defArgs st) (defBody st) (defScope st) [] kws f fd ∧ mg x = some (.ref f) ∧ (∃ ds, Vals (kws.map (·.2)) ds ∧ Binds K fd ps ds) ∧ ∃ g, KBn K fd ps n (kws.map (·.1)) g (fun vs zs => vs ++ zs)
structure CalK (P : Program) (w : World) (K : PySem.W.Frag) (mg : Str → Option Value) (base : Heap) (k : Nat) (x : Str) (n : Nat) (ks : List Str) (sp : Sp) : Prop where
  ex : ∃ (f : Addr) (fd : FuncData) (ps : List Str) (g : List Value → List Value → List Value), FnOk P w K mg base CX0 k f fd ps sp ∧ mg x = some (.ref f) ∧ PySem.W.keepIn K (.ref f) = true ∧ KBn K fd ps n ks g (fun vs zs => vs ++ zs)
section
variable {P : Program} {w : World} {K : PySem.W.Frag} {mg : Str → Option Value} {base : Heap} {x : Str} {st : Stmt} {N ps : List Str} {k n : Nat} {sp : Sp} {kws : List (Str × V)}
/-- the body of a def, as its rule asks it -/
def BodyOk (P : Program) (w : World) (K : PySem.W.Frag) (mg : Str → Option Value) (base : Heap) (x : Str) (st : Stmt) (N : List Str) (k : Nat) (sp : Sp) : Prop :=
  ∀ (f : Addr) (cdv : Value) (A : Around) (outer : List Env) (s : Shared) (H : Hp) (vs : List V) (Q : VK) (E : XK), Room k (A.deeper (envOfC x (defScope st) s.heap.objs.size f cdv)) → sp vs H Q E →
      ∃ t, PSs (cxOf CX0 P w K mg base N x (defScope st) f cdv A outer s H E).nox (defBody st) t ∧ t { nx := fun _ H' => Q .non H', rt := Q } (start N vs) H
theorem Def0.cal (D : Def0 K mg x st ps) (S : FnScope N ps (defScope st)) (len : ∀ vs H Q E, sp vs H Q E → vs.length = ps.length) (hb : BodyOk P w K mg base x st N k sp) : C8.Cal P w K mg base (k + 1) x sp [] := by
  obtain ⟨f, fd, F, g, b⟩ := D.ex
  refine ⟨f, fd, ps, [], F.ok (CX := CX0) S len (fun cdv A outer s H vs Q E hr h => ?_), g, F.kp, b, .nil⟩
  obtain ⟨t, h1, h2⟩ := hb f cdv A outer s H vs Q E hr h
  exact ⟨t, h1.nox, h2⟩
theorem DefK.ok (D : DefK K mg x st ps n kws) (S : FnScope N ps (defScope st)) (len : ∀ vs H Q E, sp vs H Q E → vs.length = ps.length) (hb : BodyOk P w K mg base x st N k sp) :
    CalK P w K mg base (k + 1) x n (kws.map (·.1)) sp ∧ C8.Cal P w K mg base (k + 1) x sp (kws.map (·.2)) := by
  obtain ⟨f, fd, F, g, ⟨ds, hd, b⟩, gg, kb⟩ := D.ex
  have h : FnOk P w K mg base CX0 (k + 1) f fd ps sp := F.ok (CX := CX0) S len (fun cdv A outer s H vs Q E hr h => by
    obtain ⟨t, h1, h2⟩ := hb f cdv A outer s H vs Q E hr h
    exact ⟨t, h1.nox, h2⟩)
  exact ⟨⟨f, fd, ps, gg, h, g, F.kp, kb⟩, ⟨f, fd, ps, ds, h, g, F.kp, b, hd⟩⟩
end
section
variable {X : Cx} {k j n : Nat} {ks : List Str} {sp : Sp} {x : Str} {p pos : Pos} {e : Expr} {es : List Expr} {kws : List Keyword} {t tk : TA}
theorem pe_ck (c : CalK X.prog X.w X.K X.mg X.base k x n ks sp) (hr : Room j X.A) (hk : k ≤ j) (hg : Gl X x) (ha : PA X (e :: es) t) (hkw : PK X kws tk) (hall : (backToKw pos (keywordEach kws X.env)).all (·.1.isSome) = true := by rfl) (hks : (backToKw pos (keywordEach kws X.env)).filterMap (·.1) = ks := by rfl)
    (hdb : (x == ("__debug__" : Str)) = false := by decide) (he : starEach (e :: es) X.env = (false, eval e X.env) :: starEach es X.env := by rfl)
    (hpl : ((backTo pos (starEach (e :: es) X.env)).any (·.1) || (backToKw pos (keywordEach kws X.env)).any (·.1.isNone)) = false := by rfl) :
    PE X (.Call (.Name x p) (e :: es) kws pos) (tCallN n ks.length sp (fun vs zs => vs ++ zs) E0 t tk) := by
  obtain ⟨f, fd, ps, g, F, hm, kp, kb⟩ := c.ex
  exact pe_callN F (hr.mono hk) hg hm kp kb pass0 ha hkw hall hks hdb he hpl
end
/-! ### heaps: all but the drawing hand stands -/
def Fr (h : Addr) (H H' : Hp) : Prop := ∀ a o, a ≠ h → H a = some o → H' a = some o
theorem Fr.refl (h : Addr) (H : Hp) : Fr h H H := fun _ _ _ e => e
theorem Fr.trans {h : Addr} {H H1 H2 : Hp} (a : Fr h H H1) (b : Fr h H1 H2) : Fr h H H2 := fun x o n e => b x o n (a x o n e)
theorem Fr.new {h : Addr} {H : Hp} {p : Addr} {o : HO} (e : H p = none) : Fr h H (upd H p o) := fun a u _ q => by
  rw [upd_ne (ne_of_none q e)]
  exact q
/-- what h did not know may change -/
theorem Fr.mut {h : Addr} {H H' : Hp} {p : Addr} {o : HO} (f : Fr h H H') (e : H p = none) : Fr h H (upd H' p o) := fun a u n q => by
  rw [upd_ne (ne_of_none q e)]
  exact f a u n q
theorem Fr.hand {h : Addr} {H : Hp} {o : HO} : Fr h H (upd H h o) := fun a u n q => by
  rw [upd_ne n]
  exact q
theorem Fr.seq {h : Addr} {K : PySem.W.Frag} {H H' : Hp} {a : Addr} {xs : List V} (f : Fr h H H') (n : a ≠ h) (q : SqL K H a xs) : SqL K H' a xs := by
  rcases q with (q | ⟨o, q⟩) | q
  · exact .inl (.inl (f _ _ n q))
  · exact .inl (.inr ⟨o, f _ _ n q⟩)
  · exact .inr q
theorem Fr.seqT {h : Addr} {K : PySem.W.Frag} {H H' : Hp} {a : Addr} {xs : List V} (f : Fr h H H') (n : a ≠ h) (q : SqT K H a xs) : SqT K H' a xs := by
  rcases q with (q | ⟨o, q⟩) | q
  · exact .inl (.inl (f _ _ n q))
  · exact .inl (.inr ⟨o, f _ _ n q⟩)
  · exact .inr q
/-- the hand: three numbers; n bounds how often it drew -/
def HS (h : Addr) (n : Nat) (H : Hp) : Prop := ∃ g b c : Int, H h = some (.lst [.int g, .int b, .int c]) ∧ 0 ≤ g ∧ g < 10 ^ 90 ∧ 0 ≤ b ∧ b < 2 ^ 62 ∧ 0 ≤ c ∧ c ≤ n
theorem HS.mono {h : Addr} {n m : Nat} {H : Hp} (q : HS h n H) (l : n ≤ m) : HS h m H := by
  obtain ⟨g, b, c, e, g0, g1, b0, b1, c0, c1⟩ := q
  exact ⟨g, b, c, e, g0, g1, b0, b1, c0, by omega⟩
theorem HS.new {h : Addr} {n : Nat} {H : Hp} {p : Addr} {o : HO} (q : HS h n H) (e : H p = none) : HS h n (upd H p o) := by
  obtain ⟨g, b, c, eh, r⟩ := q
  exact ⟨g, b, c, (by rw [upd_ne (ne_of_none eh e)]; exact eh), r⟩
theorem HS.at {h : Addr} {n : Nat} {H : Hp} (q : HS h n H) : ∃ o, H h = some o := by
  obtain ⟨g, b, c, e, _⟩ := q
  exact ⟨_, e⟩
theorem HS.ne {h : Addr} {n : Nat} {H : Hp} {p : Addr} (q : HS h n H) (e : H p = none) : p ≠ h := by
  obtain ⟨g, b, c, eh, _⟩ := q
  exact fun z => by
    rw [z, eh] at e
    cases e
/-! ### the drawing defs of the law -/
def lim : Nat := 100000
/-- hand(script, k) -/
def spHand (K : PySem.W.Frag) : Sp := fun vs H Q _ => ∃ (a : Addr) (ns : List Int) (k : Nat), vs = [.ref a, .int k] ∧ SqL K H a (ns.map V.int) ∧ k ≤ 100 ∧ ∀ p H', H p = none → (∀ q o, H q = some o → H' q = some o) → HS p 0 H' → Q (.ref p) H'
/-- take(hand, many): some number below many -/
def spTake : Sp := fun vs H Q _ => ∃ (h : Addr) (m : Int) (n : Nat), vs = [.ref h, .int m] ∧ HS h n H ∧ n < lim ∧ 0 < m ∧ m ≤ 10 ^ 18 ∧ ∀ d H', 0 ≤ d → d < m → HS h (n + 1) H' → Fr h H H' → Q (.int d) H'
/-- of(hand, some) -/
def spOf (K : PySem.W.Frag) : Sp := fun vs H Q _ => ∃ (h a : Addr) (xs : List V) (n : Nat), vs = [.ref h, .ref a] ∧ HS h n H ∧ n < lim ∧ a ≠ h ∧ SqL K H a xs ∧ 0 < xs.length ∧ xs.length ≤ 1000 ∧ ∀ v H', v ∈ xs → HS h (n + 1) H' → Fr h H H' → Q v H'
def spSize : Sp := fun vs H Q _ => ∃ (h : Addr) (n : Nat), vs = [.ref h] ∧ HS h n H ∧ n + 3 < lim ∧ ∀ s H', 8 ≤ s → s ≤ 1048576 → s % 2 = 0 → HS h (n + 3) H' → Fr h H H' → Q (.int s) H'
theorem pow_ok {i j : Int} (h : 0 ≤ j ∧ j ≤ 1000000 ∧ i.natAbs < 2 ^ 64) : CPow i j := h
theorem atI_in {xs : List V} {i : Int} (h0 : 0 ≤ i) (h1 : i < xs.length) : ∃ v, atI xs i = some v ∧ v ∈ xs := by
  have h2 : i.toNat < xs.length := by omega
  refine ⟨xs[i.toNat], ?_, List.getElem_mem h2⟩
  have e := atI_nat (xs := xs) (j := i.toNat) (List.getElem?_eq_getElem h2)
  rw [Int.toNat_of_nonneg h0] at e
  exact e
theorem if01 (b : Bool) : 0 ≤ (if b = true then (1 : Int) else 0) ∧ (if b = true then (1 : Int) else 0) ≤ 1 := by
  cases b <;> decide
theorem w45 : (((10 : Int) ^ (45 : Int).toNat).natAbs) < 2 ^ 150 := by decide +kernel
theorem e90 : ((10 : Int) ^ (45 : Int).toNat) * ((10 : Int) ^ (45 : Int).toNat) = 10 ^ 90 := by decide +kernel
theorem p17 : ((10 : Int) ^ (17 : Int).toNat) = 100000000000000000 := by decide +kernel
theorem p18 : ((10 : Int) ^ (18 : Int).toNat) = 1000000000000000000 := by decide +kernel
theorem p19 : ((2 : Int) ^ (19 : Int).toNat) = 524288 := by decide +kernel
theorem p20 : ((2 : Int) ^ (20 : Int).toNat) = 1048576 := by decide +kernel
theorem cdw {i j : Int} (h : 0 < j) (h1 : j ≤ 1000000000000000000) : CDivW i j := wide_div (b := 64) h (by omega) (by decide) (by decide)
section
variable {P : Program} {w : World} {K : PySem.W.Frag} {mg : Str → Option Value} {base : Heap}
theorem ok_hand (T : Tx K mg) : BodyOk P w K mg base "_law_hand" s_l_hand N_l_hand 0 (spHand K) := by
  intro f cdv A outer s H vs Q E hr h
  obtain ⟨a, ns, k, rfl, hS, hk, q⟩ := h
  refine ⟨_, (pss_cons (ps_set (i := 2) sc_l_hand.nd rfl (Or.inl rfl) (pe_ifExp (pt_cmpR op_lt (pv 1) (pe_callB call_len_seq (by rfl) T.len (by decide +kernel) (pa_cons (pv 0) pa_nil)) (nomark _)) (pe_ix ix_list (pv 0) (pv 1) (fun _ _ => rfl)) pe_int))
      (pss_cons (ps_set (i := 3) sc_l_hand.nd rfl (Or.inl rfl) (pe_op op_mul (pe_op op_mod (pe_callB call_abs (by rfl) T.abs (by decide +kernel) (pa_cons (pv 2) pa_nil)) (pe_op op_mulW (pe_op op_pow pe_int pe_int) (pe_op op_pow pe_int pe_int))) (pe_callTy call_int1 (by rfl) T.int (by decide +kernel) (pa_cons (pe_cmpR op_ge (pe_callB call_abs (by rfl) T.abs (by decide +kernel) (pa_cons (pv 2) pa_nil)) (pe_op op_pow pe_int pe_int) (nomark _)) pa_nil))))
      (pss_one (ps_ret (pe_lst (pa_cons (pv 3) (pa_cons (pe_op op_add (pe_op op_add (pe_op op_mod (pv 2) pe_int) (pe_op op_mul pe_int (pv 1))) pe_int) (pa_cons pe_int pa_nil)))))))), ?_⟩
  refine st_seq (st_setH (PV := fun v H' => H' = H ∧ ∃ c : Int, v = .int c) (fun Q2 q2 => ?_) (fun v H' hv => ?_))
  · refine ⟨_, rfl, _, rfl, a, _, rfl, .inl hS, _, _, rfl, rfl, _, rfl, ite2 (fun e => ?_) (fun e => ?_)⟩
    · have e1 := of_decide_eq_true e
      rw [List.length_map] at e1
      have e2 : k < ns.length := by omega
      refine ⟨_, rfl, _, rfl, a, _, _, .int ns[k], rfl, rfl, hS, ?_, q2 _ _ ⟨rfl, _, rfl⟩⟩
      refine atI_nat ?_
      rw [List.getElem?_map, List.getElem?_eq_getElem e2]
      rfl
    · exact q2 _ _ ⟨rfl, _, rfl⟩
  · obtain ⟨rfl, c, rfl⟩ := hv
    refine st_seq ?_
    refine ⟨_, rfl, _, rfl, _, _, rfl, rfl, pow_ok (by decide), _, _, rfl, rfl, pow_ok (by decide), _, _, rfl, rfl, wide_mul w45 w45 (by decide) (by decide) (by decide), _, _, rfl, rfl, ?_, ?_⟩
    · rw [e90]
      show (0 : Int) < 10 ^ 90
      decide
    · refine ⟨_, rfl, _, rfl, _, _, rfl, rfl, pow_ok (by decide), _, _, rfl, rfl, .inr ⟨_, rfl, _, _, rfl, rfl, .inr ?_, ?_⟩⟩
      · have z := if01 (decide (((10 : Int) ^ (18 : Int).toNat) ≤ (if c < 0 then -c else c)))
        exact ⟨Int.lt_of_lt_of_le (by decide) z.1, Int.lt_of_le_of_lt z.2 (by decide)⟩
      · refine ⟨_, rfl, _, rfl, _, _, rfl, rfl, (show (0 : Int) < 2305843009213693951 by decide), _, rfl, _, _, rfl, rfl, .inl (by decide), _, _, rfl, rfl, _, _, rfl, rfl, by show 3 ≤ sizeLine; decide, fun p np => ?_⟩
        refine q _ _ np (fun b o e => ?_) ⟨_, _, _, upd_same, ?_, ?_, ?_, ?_, ?_, ?_⟩
        · rw [upd_ne (ne_of_none e np)]
          exact e
        · rw [e90]
          exact Int.mul_nonneg (Int.emod_nonneg _ (by decide)) (if01 _).1
        · rw [e90]
          have h1 : (if c < 0 then -c else c) % (10 ^ 90) < 10 ^ 90 := Int.emod_lt_of_pos _ (by decide)
          have h0 : 0 ≤ (if c < 0 then -c else c) % (10 ^ 90) := Int.emod_nonneg _ (by decide)
          cases (decide (((10 : Int) ^ (18 : Int).toNat) ≤ (if c < 0 then -c else c))) with
          | true =>
            rw [if_pos rfl, Int.mul_one]
            exact h1
          | false =>
            rw [if_neg Bool.false_ne_true, Int.mul_zero]
            decide
        · have h1 : 0 ≤ c % 2305843009213693951 := Int.emod_nonneg _ (by decide)
          omega
        · have h1 : c % 2305843009213693951 < 2305843009213693951 := Int.emod_lt_of_pos _ (by decide)
          have h2 : (2 : Int) ^ 62 = 4611686018427387904 := by decide
          omega
        · decide
        · decide
def primes : List V := [.int 2147483647, .int 2147483629, .int 2147483587, .int 2147483579, .int 2147483563, .int 2147483549, .int 2147483543, .int 2147483497]
theorem primes_in : ∀ v ∈ primes, ∃ q : Int, v = .int q ∧ 0 < q ∧ q < 2147483648 := by
  intro v hv
  simp only [primes, List.mem_cons, List.not_mem_nil, or_false] at hv
  rcases hv with rfl | rfl | rfl | rfl | rfl | rfl | rfl | rfl <;> exact ⟨_, rfl, by decide, by decide⟩
theorem ok_take (T : Tx K mg) : BodyOk P w K mg base "_law_take" s_l_take N_l_take 0 spTake := by
  intro f cdv A outer s H vs Q E hr h
  obtain ⟨h, m, n, rfl, ⟨g, b, c, eh, g0, g1, b0, b1, c0, c1⟩, hn, m0, m1, q⟩ := h
  refine ⟨_, (pss_cons (ps_if (pt_cmpR op_gt (pe_ix ix_list (pv 0) pe_int (fun _ _ => rfl)) pe_int (nomark _)) (pss_cons (ps_set (i := 2) sc_l_take.nd rfl (Or.inl rfl) (pe_op op_mod (pe_ix ix_list (pv 0) pe_int (fun _ _ => rfl)) (pv 1)))
      (pss_cons (ps_asg (pe_op op_fdivW (pe_ix ix_list (pv 0) pe_int (fun _ _ => rfl)) (pv 1)) (pg_sub (pv 0) pe_int set_list))
      (pss_one (ps_ret (pv 2))))) pss_nil)
      (pss_cons (ps_asg (pe_op op_add (pe_ix ix_list (pv 0) pe_int (fun _ _ => rfl)) pe_int) (pg_sub (pv 0) pe_int set_list))
      (pss_cons (ps_set (i := 3) sc_l_take.nd rfl (Or.inl rfl) (pe_lst (pa_cons pe_int (pa_cons pe_int (pa_cons pe_int (pa_cons pe_int (pa_cons pe_int (pa_cons pe_int (pa_cons pe_int (pa_cons pe_int pa_nil))))))))))
      (pss_cons (ps_set (i := 4) sc_l_take.nd rfl (Or.inl rfl) (pe_ix ix_list (pv 3) (pe_op op_mod (pe_ix ix_list (pv 0) pe_int (fun _ _ => rfl)) pe_int) (fun _ _ => rfl)))
      (pss_cons (ps_set (i := 5) sc_l_take.nd rfl (Or.inl rfl) (pe_op op_mod (pe_op op_pow (pe_op op_add (pe_ix ix_list (pv 0) pe_int (fun _ _ => rfl)) (pe_op op_mul pe_int (pe_ix ix_list (pv 0) pe_int (fun _ _ => rfl)))) pe_int) (pv 4)))
      (pss_one (ps_ret (pe_op op_mod (pe_op op_fdivW (pe_op op_mod (pe_op op_mul (pv 5) (pe_op op_add (pe_op op_mod (pv 5) pe_int) (pe_ix ix_list (pv 0) pe_int (fun _ _ => rfl)))) (pv 4)) pe_int) (pv 1))))))))), ?_⟩
  have hn2 : (n : Int) < 100000 := by
    have z : n < 100000 := hn
    omega
  have p18' : (10 : Int) ^ 18 = 1000000000000000000 := by decide
  have p62 : (2 : Int) ^ 62 = 4611686018427387904 := by decide
  refine st_seq ?_
  refine ⟨_, rfl, h, _, _, _, rfl, rfl, SqL.of eh, rfl, _, _, rfl, rfl, _, rfl, ite2 (fun z => ?_) (fun z => ?_)⟩
  · refine ⟨_, rfl, h, _, _, _, rfl, rfl, SqL.of eh, rfl, _, rfl, _, _, rfl, rfl, m0, ?_⟩
    refine ⟨_, rfl, h, _, _, _, rfl, rfl, SqL.of eh, rfl, _, rfl, _, _, rfl, rfl, cdw m0 (by omega), ?_⟩
    refine ⟨_, rfl, h, _, _, 0, rfl, rfl, eh, rfl, ?_⟩
    refine ⟨_, rfl, q _ _ (Int.emod_nonneg _ (by omega)) (Int.emod_lt_of_pos _ m0) ⟨_, b, c, upd_same, ?_, ?_, b0, b1, c0, ?_⟩ Fr.hand⟩
    · exact Int.ediv_nonneg g0 (by omega)
    · exact Int.lt_of_le_of_lt (Int.ediv_le_self _ g0) g1
    · omega
  · refine st_seq ?_
    refine ⟨_, rfl, h, _, _, _, rfl, rfl, SqL.of eh, rfl, _, _, rfl, rfl, _, rfl, h, _, _, 2, rfl, rfl, eh, rfl, ?_⟩
    have e2 : (upd H h (.lst [.int g, .int b, .int (c + 1)])) h = some (.lst [.int g, .int b, .int (c + 1)]) := upd_same
    refine st_seq ⟨by show 8 ≤ sizeLine; decide, fun p np => ?_⟩
    have hpn : h ≠ p := ne_of_none e2 np
    have e3 : (upd (upd H h (.lst [.int g, .int b, .int (c + 1)])) p (.lst primes)) h = some (.lst [.int g, .int b, .int (c + 1)]) := by
      rw [upd_ne hpn]
      exact e2
    obtain ⟨v, ev, hv⟩ := atI_in (xs := primes) (i := (c + 1) % 8) (Int.emod_nonneg _ (by decide)) (Int.emod_lt_of_pos _ (by decide))
    obtain ⟨r, rfl, r0, r1⟩ := primes_in v hv
    refine st_seq ?_
    refine ⟨_, rfl, _, rfl, h, _, _, _, rfl, rfl, SqL.of e3, rfl, _, _, rfl, rfl, (show (0 : Int) < 8 by decide), p, _, _, _, rfl, rfl, SqL.of upd_same, ev, ?_⟩
    refine st_seq ?_
    refine ⟨_, rfl, h, _, _, _, rfl, rfl, SqL.of e3, rfl, _, rfl, h, _, _, _, rfl, rfl, SqL.of e3, rfl, _, _, rfl, rfl, .inl (by decide), _, _, rfl, rfl, _, _, rfl, rfl, pow_ok ⟨by decide, by decide, by omega⟩, _, rfl, _, _, rfl, rfl, r0, ?_⟩
    refine ⟨_, rfl, _, rfl, _, _, rfl, rfl, (show (0 : Int) < 1009 by decide), _, rfl, h, _, _, _, rfl, rfl, SqL.of e3, rfl, _, _, rfl, rfl, _, _, rfl, rfl, .inl ?_, _, rfl, _, _, rfl, rfl, r0, _, _, rfl, rfl, cdw (by decide) (by decide), _, rfl, _, _, rfl, rfl, m0, ?_⟩
    · have h1 : 0 ≤ (b + 7919 * (c + 1)) ^ (5 : Int).toNat % r := Int.emod_nonneg _ (by omega)
      have h2 : (b + 7919 * (c + 1)) ^ (5 : Int).toNat % r < r := Int.emod_lt_of_pos _ r0
      have h3 : (2 : Int) ^ 64 = 18446744073709551616 := by decide
      rw [h3]
      exact ⟨by omega, by omega⟩
    · refine q _ _ (Int.emod_nonneg _ (by omega)) (Int.emod_lt_of_pos _ m0) ⟨g, b, c + 1, e3, g0, g1, b0, b1, by omega, by omega⟩ (Fr.trans Fr.hand (Fr.new np))
theorem ok_of (T : Tx K mg) (c_l_take : C8.Cal P w K mg base 1 "_law_take" spTake []) : BodyOk P w K mg base "_law_of" s_l_of N_l_of 1 (spOf K) := by
  intro f cdv A outer s H vs Q E hr h
  obtain ⟨h, a, xs, n, rfl, hs, hn, ne, hS, l0, l1, q⟩ := h
  refine ⟨_, (pss_one (ps_ret (pe_ix ix_list (pv 1) (C8.pe_c c_l_take hr (by decide) (by rfl) (pa_cons (pv 0) (pa_cons (pe_callB call_len_seq (by rfl) T.len (by decide +kernel) (pa_cons (pv 1) pa_nil)) pa_nil))) (fun _ _ => rfl)))), ?_⟩
  refine ⟨_, rfl, _, rfl, _, rfl, a, xs, rfl, .inl hS, h, _, n, rfl, hs, hn, ?_, ?_, fun d H1 d0 d1 hs1 f1 => ?_⟩
  · omega
  · have z : (10 : Int) ^ 18 = 1000000000000000000 := by decide
    omega
  · obtain ⟨v, ev, hv⟩ := atI_in d0 d1
    exact ⟨a, xs, d, v, rfl, rfl, f1.seq ne hS, ev, q v H1 hv hs1 f1⟩
def sz8 (d d2 : Int) : List V := [.int 8, .int 8, .int 10, .int 12, .int 16, .int 64, .int (2 * (4 + d)), .int (2 * (4 + d2))]
def sz2 : List V := [.int (2 ^ (20 : Int).toNat), .int (2 ^ (20 : Int).toNat - 2)]
theorem ok_size (T : Tx K mg) (c_l_take : C8.Cal P w K mg base 1 "_law_take" spTake []) (c_l_of : C8.Cal P w K mg base 2 "_law_of" (spOf K) []) : BodyOk P w K mg base "_law_size" s_l_size N_l_size 2 spSize := by
  intro f cdv A outer s H vs Q E hr h
  obtain ⟨h, n, rfl, hs, hn, q⟩ := h
  have hn2 : n + 3 < 100000 := hn
  refine ⟨_, (pss_cons (ps_set (i := 1) sc_l_size.nd rfl (Or.inl rfl) (pe_lst (pa_cons pe_int (pa_cons pe_int (pa_cons pe_int (pa_cons pe_int (pa_cons pe_int (pa_cons pe_int (pa_cons (pe_op op_mul pe_int (pe_op op_add pe_int (C8.pe_c c_l_take hr (by decide) (by rfl) (pa_cons (pv 0) (pa_cons pe_int pa_nil))))) (pa_cons (pe_op op_mul pe_int (pe_op op_add pe_int (C8.pe_c c_l_take hr (by decide) (by rfl) (pa_cons (pv 0) (pa_cons (pe_op op_sub (pe_op op_pow pe_int pe_int) pe_int) pa_nil))))) pa_nil))))))))))
      (pss_one (ps_ret (C8.pe_c c_l_of hr (by decide) (by rfl) (pa_cons (pv 0) (pa_cons (pe_op op_cat (pv 1) (pe_lst (pa_cons (pe_op op_pow pe_int pe_int) (pa_cons (pe_op op_sub (pe_op op_pow pe_int pe_int) pe_int) pa_nil)))) pa_nil)))))), ?_⟩
  refine st_seq ?_
  refine ⟨_, rfl, h, 40, n, rfl, hs, (show n < 100000 by omega), by decide, by decide, fun d H1 d0 d1 hs1 f1 => ?_⟩
  refine ⟨_, _, rfl, rfl, _, _, rfl, rfl, .inl (by decide), _, rfl, _, _, rfl, rfl, pow_ok (by decide), _, _, rfl, rfl, h, _, n + 1, rfl, hs1, (show n + 1 < 100000 by omega), by decide, by decide, fun d2 H2 d20 d21 hs2 f2 => ?_⟩
  have d22 : d2 < 524285 := d21
  refine ⟨_, _, rfl, rfl, _, _, rfl, rfl, .inl (by decide), by show 8 ≤ sizeLine; decide, fun p np => ?_⟩
  refine ⟨_, rfl, _, rfl, _, _, rfl, rfl, pow_ok (by decide), _, _, rfl, rfl, pow_ok (by decide), _, _, rfl, rfl, by show 2 ≤ sizeLine; decide, fun p2 np2 => ?_⟩
  have ne2 : p ≠ p2 := fun z => by
    rw [← z, upd_same] at np2
    cases np2
  have ep : (upd (upd H2 p (.lst (sz8 d d2))) p2 (.lst sz2)) p = some (.lst (sz8 d d2)) := by
    rw [upd_ne ne2]
    exact upd_same
  refine ⟨p, p2, sz8 d d2, sz2, rfl, rfl, ep, upd_same, by show 8 + 2 ≤ sizeLine; decide, fun p3 np3 => ?_⟩
  · have hs3 : HS h (n + 1 + 1) (upd (upd (upd H2 p (.lst (sz8 d d2))) p2 (.lst sz2)) p3 (.lst (sz8 d d2 ++ sz2))) := ((hs2.new np).new np2).new np3
    have ne3 : p3 ≠ h := ((hs2.new np).new np2).ne np3
    refine ⟨h, p3, sz8 d d2 ++ sz2, n + 1 + 1, rfl, hs3, (show n + 1 + 1 < 100000 by omega), ne3, SqL.of upd_same, (show 0 < 10 by decide), (show 10 ≤ 1000 by decide), fun v H4 hv hs4 f4 => ?_⟩
    have hx : ∃ z : Int, v = .int z ∧ 8 ≤ z ∧ z ≤ 1048576 ∧ z % 2 = 0 := by
      simp only [sz8, sz2, p20, List.cons_append, List.nil_append, List.mem_cons, List.not_mem_nil, or_false] at hv
      rcases hv with rfl | rfl | rfl | rfl | rfl | rfl | rfl | rfl | rfl | rfl <;> exact ⟨_, rfl, by omega, by omega, by omega⟩
    obtain ⟨z, rfl, z0, z1, z2⟩ := hx
    exact q z H4 z0 z1 z2 hs4 ((f1.trans f2).trans ((Fr.new np).trans ((Fr.new np2).trans ((Fr.new np3).trans f4))))
end
/-! ### the ring's defs -/
def spOn : Sp := fun vs H Q _ => ∃ x m s : Int, vs = [.int x, .int m, .int s] ∧ 0 < s ∧ Q (.int ((x + m) % s)) H
def spSteps : Sp := fun vs H Q _ => ∃ x y s : Int, vs = [.int x, .int y, .int s] ∧ 0 < s ∧ Q (.int ((y - x) % s)) H
section
variable {P : Program} {w : World} {K : PySem.W.Frag} {mg : Str → Option Value} {base : Heap}
theorem ok_steps : BodyOk P w K mg base "steps" s_steps N_steps 0 spSteps := by
  intro f cdv A outer s H vs Q E hr h
  obtain ⟨x, y, s, rfl, s0, q⟩ := h
  refine ⟨_, (pss_one (ps_ret (pe_op op_mod (pe_op op_sub (pv 1) (pv 0)) (pv 2)))), ?_⟩
  exact ⟨_, rfl, _, rfl, _, _, rfl, rfl, _, rfl, _, _, rfl, rfl, s0, q⟩
def spBefore : Sp := fun vs H Q _ => ∃ x y s : Int, vs = [.int x, .int y, .int s] ∧ 0 < s ∧ s ≤ 1048576 ∧ Q (.bl (decide (0 < (y - x) % s) && decide ((y - x) % s < s / 2))) H
theorem ok_before (k_steps : CalK P w K mg base 1 "steps" 2 ["ring"] spSteps) : BodyOk P w K mg base "before" s_before N_before 1 spBefore := by
  intro f cdv A outer s H vs Q E hr h
  obtain ⟨x, y, s, rfl, s0, s1, q⟩ := h
  refine ⟨_, (pss_one (ps_ret (pe_chain op_lt op_lt pe_int (pe_ck k_steps hr (by decide) (by rfl) (pa_cons (pv 0) (pa_cons (pv 1) pa_nil)) (pk_cons (pv 2) pk_nil)) (pe_op op_fdivW (pv 2) pe_int)))), ?_⟩
  refine ⟨_, rfl, _, rfl, _, rfl, rfl, rfl, x, y, s, rfl, s0, _, _, rfl, rfl, _, rfl, ite2 (fun z => ?_) (fun z => ?_)⟩
  · refine ⟨_, rfl, _, _, rfl, rfl, cdw (by decide) (by decide), _, _, rfl, rfl, ?_⟩
    rw [z, Bool.true_and] at q
    exact q
  · rw [Bool.eq_false_iff.mpr z, Bool.false_and] at q
    exact q
end
/-! ### the law's own going round -/
def wayI (x y s : Int) : Int := if x ≤ y then y - x else y - x + s
theorem way_eq {x y s : Int} (x0 : 0 ≤ x) (x1 : x < s) (y0 : 0 ≤ y) (y1 : y < s) : (y - x) % s = wayI x y s := by
  unfold wayI
  split
  · rw [Int.emod_eq_of_lt (by omega) (by omega)]
  · have z : (y - x) % s = (y - x + s) % s := by
      rw [Int.add_emod_right]
    rw [z, Int.emod_eq_of_lt (by omega) (by omega)]
theorem HS.same {h : Addr} {n : Nat} {H H' : Hp} (q : HS h n H) (e : Same H H') : HS h n H' := by
  obtain ⟨g, b, c, eh, r⟩ := q
  exact ⟨g, b, c, e _ _ eh, r⟩
theorem Fr.same {h : Addr} {H H' : Hp} (e : Same H H') : Fr h H H' := fun a o _ q => e a o q
theorem same_new {H : Hp} {p : Addr} {o : HO} (h : H p = none) : Same H (upd H p o) := fun b x e => by
  rw [upd_ne (ne_of_none e h)]
  exact e
theorem seq_new {K : PySem.W.Frag} {H H' : Hp} {a p : Addr} {xs : List V} (q : SqL K H a xs) (e : H p = none) (f : Fr p H H') : SqL K H' a xs := by
  rcases q with (q | ⟨o, q⟩) | q
  · exact .inl (.inl (f _ _ (ne_of_none q e) q))
  · exact .inl (.inr ⟨o, f _ _ (ne_of_none q e) q⟩)
  · exact .inr q
theorem all_rep (n : Nat) : (List.replicate n true).all id = true := by
  rw [List.all_eq_true]
  intro x hx
  exact (List.eq_of_mem_replicate hx)
theorem if_join {c : TT} {t1 t2 : TS} {D : Ends} {σ : L2.St} {H : Hp} (J : L2.St → Hp → Prop) (h : ∀ (N : L2.St → Hp → Prop), (∀ σ' H', J σ' H' → N σ' H') → tIfS c t1 t2 { D with nx := N } σ H) (q : ∀ σ' H', J σ' H' → D.nx σ' H') : tIfS c t1 t2 D σ H := h D.nx q
def spLaw (K : PySem.W.Frag) : Sp := fun vs H Q _ => ∃ (a : Addr) (ns : List Int), vs = [.ref a] ∧ SqL K H a (ns.map V.int) ∧ ns.length ≤ 63 ∧ ∀ H', Q (.bl true) H'
section
variable {P : Program} {w : World} {K : PySem.W.Frag} {mg : Str → Option Value} {base : Heap}
end
def spAhead : Sp := fun vs H Q _ => ∃ x y s : Int, vs = [.int x, .int y, .int s] ∧ -(10 ^ 18) < x ∧ x < 10 ^ 18 ∧ -(10 ^ 18) < y ∧ y < 10 ^ 18 ∧ 0 < s ∧ s < 10 ^ 18 ∧ Q (.bl (decide (0 < 2 * wayI x y s) && decide (2 * wayI x y s < s))) H
def spPair : Sp := fun vs H Q _ => ∃ x y s : Int, vs = [.int x, .int y, .int s] ∧ 0 ≤ x ∧ x < s ∧ 0 ≤ y ∧ y < s ∧ 8 ≤ s ∧ s ≤ 1048576 ∧ s % 2 = 0 ∧ ∀ H', Same H H' → Q (.bl true) H'
theorem told_eq {x y s : Int} (x0 : 0 ≤ x) (x1 : x < s) (y0 : 0 ≤ y) (y1 : y < s) (s2 : s % 2 = 0) :
    (decide (0 < (y - x) % s) && decide ((y - x) % s < s / 2)) = (decide (0 < 2 * wayI x y s) && decide (2 * wayI x y s < s)) := by
  rw [way_eq x0 x1 y0 y1]
  have e1 : decide (0 < wayI x y s) = decide (0 < 2 * wayI x y s) := decide_eq_decide.mpr (by omega)
  have e2 : decide (wayI x y s < s / 2) = decide (2 * wayI x y s < s) := decide_eq_decide.mpr (by omega)
  rw [e1, e2]
theorem not_both {x y s : Int} (x0 : 0 ≤ x) (x1 : x < s) (y0 : 0 ≤ y) (y1 : y < s) :
    ((decide (0 < (y - x) % s) && decide ((y - x) % s < s / 2)) && (decide (0 < (x - y) % s) && decide ((x - y) % s < s / 2))) = false := by
  rw [way_eq x0 x1 y0 y1, way_eq y0 y1 x0 x1]
  unfold wayI
  rw [Bool.eq_false_iff]
  intro z
  simp only [Bool.and_eq_true, decide_eq_true_eq] at z
  obtain ⟨⟨z1, z2⟩, z3, z4⟩ := z
  split at z2 <;> split at z4 <;> omega
theorem dec_bl (a b : Bool) : decide (V.bl a = V.bl b) = decide (a = b) := decide_eq_decide.mpr ⟨fun e => V.bl.inj e, fun e => congrArg V.bl e⟩
section
variable {P : Program} {w : World} {K : PySem.W.Frag} {mg : Str → Option Value} {base : Heap}
theorem ok_ahead : BodyOk P w K mg base "_law_is_ahead" s_l_is_ahead N_l_is_ahead 0 spAhead := by
  intro f cdv A outer s H vs Q E hr h
  obtain ⟨x, y, s, rfl, x0, x1, y0, y1, s0, s1, q⟩ := h
  refine ⟨_, (pss_cons (ps_set (i := 3) sc_l_is_ahead.nd rfl (Or.inl rfl) (pe_ifExp (pt_cmpR op_ge (pv 1) (pv 0) (nomark _)) (pe_op op_sub (pv 1) (pv 0)) (pe_op op_add (pe_op op_sub (pv 1) (pv 0)) (pv 2))))
      (pss_one (ps_ret (pe_chain op_lt op_lt pe_int (pe_op op_mul pe_int (pv 3)) (pv 2))))), ?_⟩
  have p64 : (2 : Int) ^ 64 = 18446744073709551616 := by decide
  have p18' : (10 : Int) ^ 18 = 1000000000000000000 := by decide
  refine st_seq (st_setH (PV := fun v H' => H' = H ∧ v = .int (wayI x y s)) (fun Q2 q2 => ?_) (fun v H' hv => ?_))
  · refine ⟨_, rfl, _, rfl, _, _, rfl, rfl, _, rfl, ite2 (fun z => ?_) (fun z => ?_)⟩
    · exact ⟨_, rfl, _, rfl, _, _, rfl, rfl, q2 _ _ ⟨rfl, congrArg V.int (if_pos (of_decide_eq_true z)).symm⟩⟩
    · exact ⟨_, rfl, _, rfl, _, _, rfl, rfl, _, rfl, _, _, rfl, rfl, q2 _ _ ⟨rfl, congrArg V.int (if_neg fun y => z (decide_eq_true y)).symm⟩⟩
  · obtain ⟨rfl, rfl⟩ := hv
    refine ⟨_, rfl, _, _, rfl, rfl, .inl (by decide), _, _, rfl, rfl, _, rfl, ite2 (fun z => ?_) (fun z => ?_)⟩
    · refine ⟨_, rfl, _, _, rfl, rfl, ?_⟩
      rw [z, Bool.true_and] at q
      exact q
    · rw [Bool.eq_false_iff.mpr z, Bool.false_and] at q
      exact q
theorem ok_pair (T : Tx K mg) (g_RING : ∃ u, mg "RING" = some u ∧ RelV (.int 64) u) (c_l_is_ahead : C8.Cal P w K mg base 1 "_law_is_ahead" spAhead []) (k_before : CalK P w K mg base 2 "before" 2 ["ring"] spBefore) (c_before : C8.Cal P w K mg base 2 "before" spBefore [.int 64]) :
    BodyOk P w K mg base "_law_pair_right" s_l_pair_right N_l_pair_right 2 spPair := by
  intro f cdv A outer s H vs Q E hr h
  obtain ⟨x, y, s, rfl, x0, x1, y0, y1, s0, s1, s2, q⟩ := h
  have p18' : (10 : Int) ^ 18 = 1000000000000000000 := by decide
  refine ⟨_, (pss_cons (ps_for PassesOwn.never rfl (pi_tup (pe_tup (pa_cons (pe_tup (pa_cons (pv 0) (pa_cons (pv 1) pa_nil))) (pa_cons (pe_tup (pa_cons (pv 1) (pa_cons (pv 0) pa_nil))) pa_nil)))) (pg_tup rfl (pgs_cons (pg_name (i := 3) sc_l_pair_right.nd rfl (Or.inl rfl)) (pgs_cons (pg_name (i := 4) sc_l_pair_right.nd rfl (Or.inl rfl)) pgs_nil))) (pss_cons (ps_par (i := 5) (j := 6) (by rfl) sc_l_pair_right.nd rfl rfl (by decide) rfl rfl (pa_cons (pe_ck k_before hr (by decide) (by rfl) (pa_cons (pv 3) (pa_cons (pv 4) pa_nil)) (pk_cons (pv 2) pk_nil)) (pa_cons (C8.pe_c c_l_is_ahead hr (by decide) (by rfl) (pa_cons (pv 3) (pa_cons (pv 4) (pa_cons (pv 2) pa_nil)))) pa_nil)) (by rfl))
      (pss_cons (ps_if (PW.pt (pw_or (pt_not (pt_val (pe_callB call_isi (by rfl) T.isinstance (by decide +kernel) (pa_cons (pv 5) (pa_cons (pe_bltn (v := .ty "bool") (by rfl) T.bool (by decide +kernel) rfl) pa_nil))))) (pw_or1 (pt_cmpR op_ne (pv 5) (pv 6) (nomark _))))) (pss_one (ps_ret pe_bl)) pss_nil)
      (pss_one (ps_if (PW.pt (pw_and (pt_cmpR op_eq (pv 2) (C8.pe_gc (by rfl) g_RING) (nomark _)) (pw_and1 (pt_cmpR op_ne (C8.pe_c c_before hr (by decide) (by rfl) (pa_cons (pv 3) (pa_cons (pv 4) pa_nil))) (pv 6) (nomark _))))) (pss_one (ps_ret pe_bl)) pss_nil)))))
      (pss_one (ps_ret (pe_not (pe_and (pe_ck k_before hr (by decide) (by rfl) (pa_cons (pv 0) (pa_cons (pv 1) pa_nil)) (pk_cons (pv 2) pk_nil)) (pe_one (pe_ck k_before hr (by decide) (by rfl) (pa_cons (pv 1) (pa_cons (pv 0) pa_nil)) (pk_cons (pv 2) pk_nil)))))))), ?_⟩
  refine st_seq ?_
  refine ⟨_, rfl, _, rfl, (show 2 ≤ sizeLine by decide), fun t1 nt1 => ?_⟩
  refine ⟨_, rfl, _, rfl, (show 2 ≤ sizeLine by decide), fun t2 nt2 => ?_⟩
  refine ⟨(show 2 ≤ sizeLine by decide), fun t3 nt3 => ?_⟩
  have e1 : (upd H t1 (.tup [.int x, .int y])) t1 = some (.tup [.int x, .int y]) := upd_same
  have e12 := same_new (o := .tup [.int y, .int x]) nt2 _ _ e1
  have e13 := same_new (o := .tup [.ref t1, .ref t2]) nt3 _ _ e12
  have e2 : (upd (upd H t1 (.tup [.int x, .int y])) t2 (.tup [.int y, .int x])) t2 = some (.tup [.int y, .int x]) := upd_same
  have e23 := same_new (o := .tup [.ref t1, .ref t2]) nt3 _ _ e2
  have sm : Same H (upd (upd (upd H t1 (.tup [.int x, .int y])) t2 (.tup [.int y, .int x])) t3 (.tup [.ref t1, .ref t2])) := (same_new nt1).trans ((same_new nt2).trans (same_new nt3))
  generalize hG : upd (upd (upd H t1 (.tup [.int x, .int y])) t2 (.tup [.int y, .int x])) t3 (.tup [.ref t1, .ref t2]) = G at e13 e23 sm
  have e3 : G t3 = some (.tup [.ref t1, .ref t2]) := by
    rw [← hG]
    exact upd_same
  refine ⟨t3, rfl, ⟨_, SqT.of e3⟩, ?_⟩
  refine for_tup (xs := [.ref t1, .ref t2]) (fun i σ H' => (∃ z3 z4 z5 z6, σ = [some (.int x), some (.int y), some (.int s), z3, z4, z5, z6]) ∧ H' = G) ⟨⟨none, none, none, none, rfl⟩, rfl⟩ (fun i σ H' _ hP => ?_) (fun i v σ H' hv hP => ?_) (fun σ H' hP => ?_)
  · obtain ⟨_, rfl⟩ := hP
    exact SqT.of e3
  · obtain ⟨⟨z3, z4, z5, z6, rfl⟩, rfl⟩ := hP
    have hv2 : ∃ (t : Addr) (a b : Int), v = .ref t ∧ H' t = some (.tup [.int a, .int b]) ∧ 0 ≤ a ∧ a < s ∧ 0 ≤ b ∧ b < s := by
      match i, hv with
      | 0, hv => exact ⟨t1, x, y, (Option.some.inj hv).symm, e13, x0, x1, y0, y1⟩
      | 1, hv => exact ⟨t2, y, x, (Option.some.inj hv).symm, e23, y0, y1, x0, x1⟩
      | n + 2, hv => simp at hv
    obtain ⟨t, a, b, rfl, et, a0, a1, b0, b1⟩ := hv2
    refine ⟨t, _, rfl, SqT.of et, rfl, _, _, rfl, _, _, rfl, rfl, ?_⟩
    refine st_seq ?_
    refine ⟨_, rfl, _, rfl, _, rfl, rfl, rfl, a, b, s, rfl, by omega, s1, _, rfl, _, rfl, _, rfl, a, b, s, rfl, by omega, by omega, by omega, by omega, by omega, by omega, _, _, rfl, ?_⟩
    rw [told_eq a0 a1 b0 b1 s2]
    generalize hB : (decide (0 < 2 * wayI a b s) && decide (2 * wayI a b s < s)) = B
    refine st_seq ?_
    refine ⟨_, rfl, _, _, _, _, true, rfl, .ty "bool", .base (.bl B), kit_ty (by decide +kernel), _, rfl, iteF ?_⟩
    refine ⟨_, rfl, _, rfl, ?_, _, rfl, ?_⟩
    · cases B <;> rfl
    rw [dec_bl, decide_eq_true rfl]
    refine iteF ?_
    refine ⟨_, rfl, rfl, _, rfl, ite2 (fun z => ?_) (fun z => ?_)⟩
    · have es : s = 64 := V.int.inj (of_decide_eq_true z)
      subst es
      refine ⟨_, rfl, _, rfl, a, b, 64, rfl, by decide, by decide, _, rfl, ?_, _, rfl, ?_⟩
      · rw [told_eq a0 a1 b0 b1 s2, hB]
        cases B <;> rfl
      · rw [told_eq a0 a1 b0 b1 s2, hB, dec_bl, decide_eq_true rfl]
        exact iteF ⟨⟨_, _, _, _, rfl⟩, rfl⟩
    · exact iteF ⟨⟨_, _, _, _, rfl⟩, rfl⟩
  · obtain ⟨⟨z3, z4, z5, z6, rfl⟩, rfl⟩ := hP
    have nb := not_both x0 x1 y0 y1
    refine ⟨_, rfl, _, rfl, _, rfl, rfl, rfl, x, y, s, rfl, by omega, s1, _, rfl, ite2 (fun z => ?_) (fun z => ?_)⟩
    · refine ⟨_, rfl, _, rfl, _, rfl, rfl, rfl, y, x, s, rfl, by omega, s1, _, rfl, ?_⟩
      rw [z, Bool.true_and] at nb
      rw [nb]
      exact q _ sm
    · exact ⟨_, rfl, q _ sm⟩
theorem ok_law (T : Tx K mg) (c_l_hand : C8.Cal P w K mg base 1 "_law_hand" (spHand K) []) (c_l_take : C8.Cal P w K mg base 1 "_law_take" spTake []) (c_l_of : C8.Cal P w K mg base 2 "_law_of" (spOf K) []) (c_l_size : C8.Cal P w K mg base 3 "_law_size" spSize [])
    (c_l_pair_right : C8.Cal P w K mg base 3 "_law_pair_right" spPair []) : BodyOk P w K mg base "law" s_law N_law 3 (spLaw K) := by
  intro f cdv A outer s H vs Q E hr h
  obtain ⟨a, ns, rfl, hS, hl, q⟩ := h
  have p18' : (10 : Int) ^ 18 = 1000000000000000000 := by decide
  refine ⟨_, (pss_cons (ps_for PassesOwn.never rfl (pi_range1 (by rfl) T.range (pa_cons (pe_op op_add pe_int (pe_callB (call_min2 rfl) (by rfl) T.min (by decide +kernel) (pa_cons pe_int (pa_cons (pe_callB call_len_seq (by rfl) T.len (by decide +kernel) (pa_cons (pv 0) pa_nil)) pa_nil)))) pa_nil)) (pg_name (i := 1) sc_law.nd rfl (Or.inl rfl)) (pss_cons (ps_set (i := 2) sc_law.nd rfl (Or.inl rfl) (C8.pe_c c_l_hand hr (by decide) (by rfl) (pa_cons (pv 0) (pa_cons (pv 1) pa_nil))))
      (pss_one (ps_for PassesOwn.never rfl (pi_list (pe_lst (pa_cons (C8.pe_c c_l_size hr (by decide) (by rfl) (pa_cons (pv 2) pa_nil)) (pa_cons pe_int pa_nil)))) (pg_name (i := 3) sc_law.nd rfl (Or.inr rfl)) (pss_cons (ps_asg (pe_tup (pa_cons (C8.pe_c c_l_of hr (by decide) (by rfl) (pa_cons (pv 2) (pa_cons (pe_lst (pa_cons pe_int (pa_cons (pe_op op_sub (pv 3) pe_int) (pa_cons (C8.pe_c c_l_take hr (by decide) (by rfl) (pa_cons (pv 2) (pa_cons (pv 3) pa_nil))) pa_nil)))) pa_nil))) (pa_cons (pe_op op_fdivW (pv 3) pe_int) pa_nil))) (pg_tup rfl (pgs_cons (pg_name (i := 4) sc_law.nd rfl (Or.inr rfl)) (pgs_cons (pg_name (i := 5) sc_law.nd rfl (Or.inl rfl)) pgs_nil))))
      (pss_cons (ps_set (i := 6) sc_law.nd rfl (Or.inl rfl) (pe_lst (pa_cons pe_int (pa_cons pe_int (pa_cons pe_int (pa_cons (pe_op op_sub (pv 5) pe_int) (pa_cons (pv 5) (pa_cons (pe_op op_add (pv 5) pe_int) (pa_cons (pe_op op_sub (pv 3) pe_int) (pa_cons (pe_op op_sub (pv 3) pe_int) (pa_cons (C8.pe_c c_l_take hr (by decide) (by rfl) (pa_cons (pv 2) (pa_cons (pv 3) pa_nil))) (pa_cons (C8.pe_c c_l_take hr (by decide) (by rfl) (pa_cons (pv 2) (pa_cons (pv 3) pa_nil))) pa_nil))))))))))))
      (pss_cons (ps_if (pt_cmpR op_lt (pv 3) pe_int (nomark _)) (pss_one (ps_set (i := 6) sc_law.nd rfl (Or.inl rfl) (pe_listRg (by rfl) (by rfl) T.list (prg_1 (by rfl) T.range (pv 3))))) pss_nil)
      (pss_one (ps_if (pt_not (pt_val (pe_callB (cr_all rfl) (by rfl) T.all (by decide +kernel) (pa_cons (pe_lc (own := [("_law_way", 7)]) (g := gName 7) (tt := tYes) rfl sc_law.nd (pi_list (pv 6)) (blkOk_by (own := [("_law_way", 7)]) (N := N_law) (sc := defScope s_law) (by decide +kernel)) (fun _ _ _ _ _ => pg_name (i := 7) sc_law.nd rfl (Or.inl rfl)) (fun _ _ _ _ _ => pts_nil) (fun _ _ _ _ _ => (C8.pe_c c_l_pair_right hr (by decide) (by rfl) (pa_cons (pv 4) (pa_cons (pe_op op_mod (pe_op op_add (pv 4) (pv 7)) (pv 3)) (pa_cons (pv 3) pa_nil)))))) pa_nil)))) (pss_one (ps_ret pe_bl)) pss_nil)))))))))
      (pss_one (ps_ret pe_bl))), ?_⟩
  refine st_seq ?_
  refine ⟨_, rfl, a, _, rfl, .inl hS, _, _, rfl, _, _, rfl, rfl, _, rfl, ?_, ?_, ?_⟩
  · split <;> omega
  · rw [List.length_map]
    split <;> omega
  · refine for_range (lo := 0) (fun i σ H' => (∃ y1 y2 y3 y4 y5 y6 y7, σ = [some (.ref a), y1, y2, y3, y4, y5, y6, y7]) ∧ SqL K H' a (ns.map V.int)) ⟨⟨none, none, none, none, none, none, none, rfl⟩, hS⟩ (fun i σ H1 hi hP => ?_) (fun σ H1 hP => ?_)
    · obtain ⟨⟨y1, y2, y3, y4, y5, y6, y7, rfl⟩, hS1⟩ := hP
      have hi2 : i ≤ 8 := by
        rw [List.length_map] at hi
        split at hi <;> omega
      refine st_seq ?_
      refine ⟨_, rfl, _, rfl, a, ns, i, ?_, hS1, by omega, fun p H2 np ke hs => ?_⟩
      · show [V.ref a, V.int (0 + (i : Int))] = _
        rw [Int.zero_add]
      have fr2 : Fr p H1 H2 := fun b o _ e => ke b o e
      refine ⟨_, rfl, p, 0, rfl, hs, (show 0 + 3 < 100000 by decide), fun z H3 z0 z1 z2 hs3 f3 => ?_⟩
      refine ⟨(show 2 ≤ sizeLine by decide), fun L nL => ?_⟩
      have nLp : L ≠ p := hs3.ne nL
      have fr3 : Fr p H1 (upd H3 L (.lst [.int z, .int 64])) := fr2.trans (f3.trans (Fr.new nL))
      have hs4 : HS p (0 + 3) (upd H3 L (.lst [.int z, .int 64])) := hs3.new nL
      have eL : (upd H3 L (.lst [.int z, .int 64])) L = some (.lst [.int z, .int 64]) := upd_same
      generalize upd H3 L (.lst [.int z, .int 64]) = H4 at fr3 hs4 eL
      refine ⟨L, rfl, ⟨_, SqL.of eL⟩, ?_⟩
      refine for_list (xs := [.int z, .int 64]) (fun j σ H' => (∃ y1 y3 y4 y5 y6 y7, σ = [some (.ref a), y1, some (.ref p), y3, y4, y5, y6, y7]) ∧ HS p (3 + 4 * j) H' ∧ Fr p H4 H') ⟨⟨_, _, _, _, _, _, rfl⟩, hs4, Fr.refl _ _⟩ (fun j σ H' _ hP => ?_) (fun j v σ H5 hv hP => ?_) (fun σ H' hP => ?_)
      · exact SqL.of (hP.2.2 _ _ nLp eL)
      · obtain ⟨⟨y1, y3, y4, y5, y6, y7, rfl⟩, hs5, f5⟩ := hP
        have hj : j < 2 := by
          have := (List.getElem?_eq_some_iff.mp hv).1
          exact this
        have hv2 : ∃ s : Int, v = .int s ∧ 8 ≤ s ∧ s ≤ 1048576 ∧ s % 2 = 0 := by
          match j, hv with
          | 0, hv => exact ⟨z, (Option.some.inj hv).symm, z0, z1, z2⟩
          | 1, hv => exact ⟨64, (Option.some.inj hv).symm, by decide, by decide, by decide⟩
          | n + 2, hv => simp at hv
        obtain ⟨s, rfl, s0, s1, s2⟩ := hv2
        -- one, half
        refine st_seq ?_
        refine ⟨_, rfl, _, rfl, _, _, rfl, rfl, _, rfl, _, rfl, p, s, 3 + 4 * j, rfl, hs5, (show 3 + 4 * j < 100000 by omega), by omega, by omega, fun d H6 d0 d1 hs6 f6 => ?_⟩
        refine ⟨(show 3 ≤ sizeLine by decide), fun l1 nl1 => ?_⟩
        refine ⟨p, l1, [.int 0, .int (s - 1), .int d], 3 + 4 * j + 1, rfl, hs6.new nl1, (show 3 + 4 * j + 1 < 100000 by omega), hs6.ne nl1, SqL.of upd_same, (show 0 < 3 by decide), (show 3 ≤ 1000 by decide), fun v H7 hv hs7 f7 => ?_⟩
        have hx : ∃ x : Int, v = .int x ∧ 0 ≤ x ∧ x < s := by
          simp only [List.mem_cons, List.not_mem_nil, or_false] at hv
          rcases hv with rfl | rfl | rfl <;> exact ⟨_, rfl, by omega, by omega⟩
        obtain ⟨x, rfl, x0, x1⟩ := hx
        have fr7 : Fr p H4 H7 := f5.trans (f6.trans ((Fr.new nl1).trans f7))
        refine ⟨_, rfl, _, _, rfl, rfl, cdw (by decide) (by decide), (show 2 ≤ sizeLine by decide), fun t nt => ?_⟩
        refine ⟨t, _, rfl, SqT.of upd_same, rfl, _, _, rfl, _, _, rfl, rfl, ?_⟩
        have hs8 : HS p (3 + 4 * j + 1 + 1) (upd H7 t (.tup [.int x, .int (s / 2)])) := hs7.new nt
        have fr8 : Fr p H4 (upd H7 t (.tup [.int x, .int (s / 2)])) := fr7.trans (Fr.new nt)
        generalize upd H7 t (.tup [.int x, .int (s / 2)]) = H8 at hs8 fr8
        -- ways
        refine st_seq ?_
        refine ⟨_, rfl, _, _, rfl, rfl, _, rfl, _, rfl, _, _, rfl, rfl, _, rfl, _, _, rfl, rfl, _, rfl, _, _, rfl, rfl, ?_⟩
        refine ⟨_, rfl, _, rfl, p, s, 3 + 4 * j + 1 + 1, rfl, hs8, (show 3 + 4 * j + 1 + 1 < 100000 by omega), by omega, by omega, fun d2 H9 d20 d21 hs9 f9 => ?_⟩
        refine ⟨_, rfl, _, rfl, p, s, 3 + 4 * j + 1 + 1 + 1, rfl, hs9, (show 3 + 4 * j + 1 + 1 + 1 < 100000 by omega), by omega, by omega, fun d3 Ha d30 d31 hsa fa => ?_⟩
        refine ⟨(show 10 ≤ sizeLine by decide), fun l2 nl2 => ?_⟩
        have hsb := hsa.new (o := .lst [.int 0, .int 1, .int 2, .int (s / 2 - 1), .int (s / 2), .int (s / 2 + 1), .int (s - 2), .int (s - 1), .int d2, .int d3]) nl2
        have frb := (fr8.trans (f9.trans fa)).trans (Fr.new (o := .lst [.int 0, .int 1, .int 2, .int (s / 2 - 1), .int (s / 2), .int (s / 2 + 1), .int (s - 2), .int (s - 1), .int d2, .int d3]) nl2)
        dsimp only [gName]
        refine st_seq (if_join (J := fun σ' H' => ∃ (ys : List Int) (l : Addr), σ' = [some (.ref a), y1, some (.ref p), some (.int s), some (.int x), some (.int (s / 2)), some (.ref l), y7] ∧ H' l = some (.lst (ys.map V.int)) ∧ ys.length ≤ 1000 ∧ l ≠ p ∧ HS p (3 + 4 * (j + 1)) H' ∧ Fr p H4 H') (fun N hN => ?_) (fun σ' H' hJ => ?_))
        · refine ⟨_, rfl, _, _, rfl, rfl, _, rfl, ite2 (fun y => ?_) (fun y => ?_)⟩
          · have y2 : s < 40 := of_decide_eq_true y
            refine ⟨_, rfl, s, rfl, RgOk.of_le (by decide) (by omega) (by decide) (by omega), fun l3 nl3 => ?_⟩
            refine hN _ _ ⟨(List.range s.toNat).map fun i => 0 + ((i : Nat) : Int), l3, rfl, ?_, ?_, hsb.ne nl3, ?_, frb.trans (Fr.new nl3)⟩
            · rw [upd_same]
              show some (HO.lst (rgV 0 s)) = _
              unfold rgV
              rw [List.map_map, Int.sub_zero]
              rfl
            · rw [List.length_map, List.length_range]
              omega
            · exact (hsb.new nl3).mono (by omega)
          · refine hN _ _ ⟨[0, 1, 2, s / 2 - 1, s / 2, s / 2 + 1, s - 2, s - 1, d2, d3], l2, rfl, upd_same, (show 10 ≤ 1000 by decide), hsa.ne nl2, hsb.mono (by omega), frb⟩
        · obtain ⟨ys, l, rfl, el, ly, nl, hsc, frc⟩ := hJ
          refine ⟨_, rfl, l, rfl, ⟨_, SqL.of el⟩, fun D nD => ?_⟩
          have nDp : D ≠ p := hsc.ne nD
          have nDl : l ≠ D := ne_of_none el nD
          refine lc_list (K := K) (a := l) (xs := ys.map V.int) (fun j' H'' => HS p (3 + 4 * (j + 1)) H'' ∧ Fr p H' H'' ∧ H'' D = some (.lst ((List.replicate j' true).map V.bl))) ?_ (fun j' H'' _ hP => ?_) (fun j' v H'' hv hP => ?_) (fun H'' hP => ?_)
          · exact ⟨hsc.new nD, Fr.new nD, upd_same⟩
          · exact SqL.of (hP.2.1 _ _ nl el)
          · obtain ⟨h4, f4, e4⟩ := hP
            have hjl : j' < ys.length := by
              have z := (List.getElem?_eq_some_iff.mp hv).1
              rw [List.length_map] at z
              exact z
            rw [List.getElem?_map, List.getElem?_eq_getElem hjl] at hv
            have ev : v = .int ys[j'] := (Option.some.inj hv).symm
            subst ev
            refine ⟨rfl, ?_⟩
            refine ⟨_, rfl, _, rfl, _, rfl, _, _, rfl, rfl, _, rfl, _, _, rfl, rfl, (show 0 < s by omega), _, rfl, x, _, s, rfl, x0, x1, Int.emod_nonneg _ (by omega), Int.emod_lt_of_pos _ (by omega), s0, s1, s2, fun H6 sm => ?_⟩
            refine ⟨_, sm _ _ e4, ?_, ?_, ?_, ?_⟩
            · rw [List.length_map, List.length_replicate]
              exact small1000 (by omega)
            · obtain ⟨g, b, c, eh, r⟩ := h4.same sm
              exact ⟨g, b, c, (by rw [upd_ne nDp.symm]; exact eh), r⟩
            · exact Fr.mut (f4.trans (Fr.same sm)) nD
            · rw [upd_same, List.replicate_succ', List.map_append]
              rfl
          · obtain ⟨h4, f4, e4⟩ := hP
            refine ⟨D, _, rfl, SqL.of e4, _, rfl, ?_⟩
            rw [all_rep]
            refine iteF ?_
            exact ⟨⟨_, _, _, _, _, _, rfl⟩, h4, frc.trans f4⟩
      · obtain ⟨⟨y1, y3, y4, y5, y6, y7, rfl⟩, hs5, f5⟩ := hP
        exact ⟨⟨_, _, _, _, _, _, _, rfl⟩, seq_new hS1 np (fr3.trans f5)⟩
    · exact q _
end
/-! ### the head -/
theorem def0_mk {K : PySem.W.Frag} {h : Heap} {mg : Str → Option Value} {x : Str} {st : Stmt} {ps : List Str} (X : K.In h) (G : h.Ns mainGlobals mg) (g : (He.Fa.glo x).ok K = true)
    (F : ∃ fd, FunD K x x (defArgs st) (defBody st) (defScope st) [] [] (He.ga K x) fd)
    (hb : ∀ (kV doc pm : Value) (an : Option Addr) (cdv ct : Value) (us : List Value), us.length = ps.length → bindArgs (PySem.W.fnOf x x (defArgs st) (defBody st) (defScope st) .none kV doc pm an cdv ct) ⟨us, []⟩ = pure (ps.zip us)) : Def0 K mg x st ps := by
  obtain ⟨fd, F⟩ := F
  exact ⟨_, fd, F, He.glo_ok X G g, F.bindsN hb⟩
theorem defK_mk {K : PySem.W.Frag} {h : Heap} {mg : Str → Option Value} {x : Str} {st : Stmt} {ps : List Str} {n : Nat} {y : Str} {v : V} (X : K.In h) (G : h.Ns mainGlobals mg) (g : (He.Fa.glo x).ok K = true)
    (F : ∃ fd, FunD K x x (defArgs st) (defBody st) (defScope st) [] [(y, v)] (He.ga K x) fd) (hn : n + 1 = ps.length)
    (hb : ∀ (D : Addr) (doc pm : Value) (an : Option Addr) (cdv ct : Value) (us ks : List Value), us.length = n → ks.length = 1 →
      KwChain D (([y] : List Str).zip ks) (bindArgs (PySem.W.fnOf x x (defArgs st) (defBody st) (defScope st) .none (.ref D) doc pm an cdv ct) ⟨us, []⟩) (ps.zip (us ++ ks)))
    (hk : ∀ (kV doc pm : Value) (an : Option Addr) (cdv ct : Value) (us ws : List Value), us.length = n → ws.length = 1 →
      bindArgs (PySem.W.fnOf x x (defArgs st) (defBody st) (defScope st) .none kV doc pm an cdv ct) ⟨us, ([y] : List Str).zip ws⟩ = pure (ps.zip (us ++ ws))) : DefK K mg x st ps n [(y, v)] := by
  obtain ⟨fd, F⟩ := F
  refine ⟨_, fd, F, He.glo_ok X G g, F.binds0 n (by simp) hn hb, fun us ws => us ++ ws, ⟨fun s us ws _ l1 l2 => ?_, fun r1 r2 => r1.append r2⟩⟩
  obtain ⟨oc, od, dV, kV, doc, pm, an, cdv, ct, osl, rfl, lk, hcd, hD, hK⟩ := F.ex
  rcases hD with ⟨_, rfl⟩ | ⟨e, _⟩
  · exact .of_eq (hk kV doc pm an cdv ct us ws l1 l2)
  · exact absurd rfl e
theorem int_g {K : PySem.W.Frag} {h : Heap} {mg : Str → Option Value} {x : Str} {i : Int} (X : K.In h) (G : h.Ns mainGlobals mg) (g : (He.Fa.int x i).ok K = true) : ∃ u, mg x = some u ∧ RelV (.int i) u := by
  obtain ⟨t, e⟩ := He.int_ok X G g
  exact ⟨_, e, t, rfl⟩
def d_steps : He.DefD := ⟨("steps", none), "steps", "steps", defArgs s_steps, defBody s_steps, defScope s_steps, [], [("ring", .int 64)]⟩
def d_before : He.DefD := ⟨("before", none), "before", "before", defArgs s_before, defBody s_before, defScope s_before, [], [("ring", .int 64)]⟩
def d_l_hand : He.DefD := ⟨("_law_hand", none), "_law_hand", "_law_hand", defArgs s_l_hand, defBody s_l_hand, defScope s_l_hand, [], []⟩
def d_l_take : He.DefD := ⟨("_law_take", none), "_law_take", "_law_take", defArgs s_l_take, defBody s_l_take, defScope s_l_take, [], []⟩
def d_l_of : He.DefD := ⟨("_law_of", none), "_law_of", "_law_of", defArgs s_l_of, defBody s_l_of, defScope s_l_of, [], []⟩
def d_l_size : He.DefD := ⟨("_law_size", none), "_law_size", "_law_size", defArgs s_l_size, defBody s_l_size, defScope s_l_size, [], []⟩
def d_l_is_ahead : He.DefD := ⟨("_law_is_ahead", none), "_law_is_ahead", "_law_is_ahead", defArgs s_l_is_ahead, defBody s_l_is_ahead, defScope s_l_is_ahead, [], []⟩
def d_l_pair_right : He.DefD := ⟨("_law_pair_right", none), "_law_pair_right", "_law_pair_right", defArgs s_l_pair_right, defBody s_l_pair_right, defScope s_l_pair_right, [], []⟩
def d_law : He.DefD := ⟨("law", none), "law", "law", defArgs s_law, defBody s_law, defScope s_law, [], []⟩
def fn : List He.DefD := [d_steps, d_before, d_l_hand, d_l_take, d_l_of, d_l_size, d_l_is_ahead, d_l_pair_right, d_law]
--@ level 4
def fa : List He.Fa := [.glo "steps", .glo "before", .glo "_law_hand", .glo "_law_take", .glo "_law_of", .glo "_law_size", .glo "_law_is_ahead", .glo "_law_pair_right", .glo "law", .int "RING" 64] ++ freeNames.map .free
abbrev R : PySem.W.OpenRow := PySem.W.OpenLaw.row PySem.Challenge.rw_roundstore_k03_before_by_halves
abbrev hk : PySem.W.Hook := He.hookD 4 fa fn
def ob (s : PySem.W.SharedT) : He.AlD := He.obsDG 4 fa fn (HandSHeadRun.getT s)
theorem ob_eq (s : PySem.W.SharedT) : ob s = hk.obs s.abs := He.obsDG_eq (HandSHeadRun.getT_eq s)
theorem run (w : World) : HandSHeadRun.RunEq R (PySem.W.view R.prog [11]) hk ob 2000 ["RING", "steps", "before", "_law_hand", "_law_take", "_law_of", "_law_size", "_law_is_ahead", "_law_pair_right"] w := by
  intro os
  kernel_rfl
theorem facts {P : Program} {w : World} {K : PySem.W.Frag} {h : Heap} {mg : Str → Option Value} {f : Addr} (X : K.In h) (G : h.Ns mainGlobals mg) (hfa : mg ("law" : Str) = some (.ref f)) (c : He.SaysD fa fn K) :
    ∃ fd : FuncData, (∀ (s : Shared) (v : Value), BindsTo s fd ⟨[v], []⟩ [("_law_script", v)]) ∧ ∀ base : Heap, K.In base → base.Ns mainGlobals mg → FnOk P w K mg base CX0 4 f fd ["_law_script"] (spLaw K) := by
  have T : Tx K mg := tx_mk fun x hx => He.free_ok X G (by
    obtain ⟨i, hi, e⟩ := List.mem_iff_getElem.mp hx
    exact c.fact (10 + i) (f := .free x) (by
      show ([.glo "steps", .glo "before", .glo "_law_hand", .glo "_law_take", .glo "_law_of", .glo "_law_size", .glo "_law_is_ahead", .glo "_law_pair_right", .glo "law", .int "RING" 64] ++ freeNames.map He.Fa.free)[10 + i]? = _
      rw [List.getElem?_append_right (by show 10 ≤ _; omega)]
      show (freeNames.map He.Fa.free)[10 + i - 10]? = _
      rw [Nat.add_sub_cancel_left, List.getElem?_map, List.getElem?_eq_getElem hi, e]
      rfl))
  have g_RING := int_g X G (c.fact 9 (f := .int "RING" 64) rfl)
  have D_steps : DefK K mg "steps" s_steps ["one", "other", "ring"] 2 [("ring", .int 64)] := defK_mk X G (c.fact 0 (f := .glo "steps") rfl) (c.def_ 0 (d := d_steps) rfl) rfl
    (fun _ _ _ _ _ _ us ks l1 l2 => match us, ks, l1, l2 with | [_, _], [_], _, _ => ⟨_, _, _, _, _, _, rfl, rfl, rfl⟩) (fun _ _ _ _ _ _ us ws l1 l2 => match us, ws, l1, l2 with | [_, _], [_], _, _ => rfl)
  have D_before : DefK K mg "before" s_before ["one", "other", "ring"] 2 [("ring", .int 64)] := defK_mk X G (c.fact 1 (f := .glo "before") rfl) (c.def_ 1 (d := d_before) rfl) rfl
    (fun _ _ _ _ _ _ us ks l1 l2 => match us, ks, l1, l2 with | [_, _], [_], _, _ => ⟨_, _, _, _, _, _, rfl, rfl, rfl⟩) (fun _ _ _ _ _ _ us ws l1 l2 => match us, ws, l1, l2 with | [_, _], [_], _, _ => rfl)
  have D_l_hand : Def0 K mg "_law_hand" s_l_hand ["_law_script", "_law_k"] := def0_mk X G (c.fact 2 (f := .glo "_law_hand") rfl) (c.def_ 2 (d := d_l_hand) rfl) fun _ _ _ _ _ _ us hl => match us, hl with | [_, _], _ => rfl
  have D_l_take : Def0 K mg "_law_take" s_l_take ["_law_hand_here", "_law_many"] := def0_mk X G (c.fact 3 (f := .glo "_law_take") rfl) (c.def_ 3 (d := d_l_take) rfl) fun _ _ _ _ _ _ us hl => match us, hl with | [_, _], _ => rfl
  have D_l_of : Def0 K mg "_law_of" s_l_of ["_law_hand_here", "_law_some"] := def0_mk X G (c.fact 4 (f := .glo "_law_of") rfl) (c.def_ 4 (d := d_l_of) rfl) fun _ _ _ _ _ _ us hl => match us, hl with | [_, _], _ => rfl
  have D_l_size : Def0 K mg "_law_size" s_l_size ["_law_hand_here"] := def0_mk X G (c.fact 5 (f := .glo "_law_size") rfl) (c.def_ 5 (d := d_l_size) rfl) fun _ _ _ _ _ _ us hl => match us, hl with | [_], _ => rfl
  have D_l_is_ahead : Def0 K mg "_law_is_ahead" s_l_is_ahead ["_law_one", "_law_other", "_law_size_here"] := def0_mk X G (c.fact 6 (f := .glo "_law_is_ahead") rfl) (c.def_ 6 (d := d_l_is_ahead) rfl) fun _ _ _ _ _ _ us hl => match us, hl with | [_, _, _], _ => rfl
  have D_l_pair_right : Def0 K mg "_law_pair_right" s_l_pair_right ["_law_one", "_law_other", "_law_size_here"] := def0_mk X G (c.fact 7 (f := .glo "_law_pair_right") rfl) (c.def_ 7 (d := d_l_pair_right) rfl) fun _ _ _ _ _ _ us hl => match us, hl with | [_, _, _], _ => rfl
  obtain ⟨fd, F⟩ := c.def_ 8 (d := d_law) rfl
  have e := hfa.symm.trans (He.glo_ok X G (c.fact 8 (f := .glo "law") rfl))
  cases e
  have b := FunD.bindsA (ps := ["_law_script"]) F fun _ _ _ _ _ _ us hl => match us, hl with | [_], _ => rfl
  refine ⟨fd, fun s v => b s [v] rfl, fun base _ _ => ?_⟩
  obtain ⟨K_steps, C_steps⟩ := D_steps.ok (P := P) (w := w) (base := base) (sp := spSteps) sc_steps (fun vs H Q E h => by first | (obtain ⟨rfl, _⟩ := h; rfl) | (obtain ⟨_, rfl, _⟩ := h; rfl) | (obtain ⟨_, _, rfl, _⟩ := h; rfl) | (obtain ⟨_, _, _, rfl, _⟩ := h; rfl) | (obtain ⟨_, _, _, _, rfl, _⟩ := h; rfl) | (obtain ⟨_, _, _, _, _, rfl, _⟩ := h; rfl) | (obtain ⟨_, _, _, _, _, _, rfl, _⟩ := h; rfl) | (obtain ⟨_, _, _, _, _, _, _, rfl, _⟩ := h; rfl)) (ok_steps)
  obtain ⟨K_before, C_before⟩ := D_before.ok (P := P) (w := w) (base := base) (sp := spBefore) sc_before (fun vs H Q E h => by first | (obtain ⟨rfl, _⟩ := h; rfl) | (obtain ⟨_, rfl, _⟩ := h; rfl) | (obtain ⟨_, _, rfl, _⟩ := h; rfl) | (obtain ⟨_, _, _, rfl, _⟩ := h; rfl) | (obtain ⟨_, _, _, _, rfl, _⟩ := h; rfl) | (obtain ⟨_, _, _, _, _, rfl, _⟩ := h; rfl) | (obtain ⟨_, _, _, _, _, _, rfl, _⟩ := h; rfl) | (obtain ⟨_, _, _, _, _, _, _, rfl, _⟩ := h; rfl)) (ok_before K_steps)
  have C_l_hand := D_l_hand.cal (P := P) (w := w) (base := base) (sp := spHand K) sc_l_hand (fun vs H Q E h => by first | (obtain ⟨rfl, _⟩ := h; rfl) | (obtain ⟨_, rfl, _⟩ := h; rfl) | (obtain ⟨_, _, rfl, _⟩ := h; rfl) | (obtain ⟨_, _, _, rfl, _⟩ := h; rfl) | (obtain ⟨_, _, _, _, rfl, _⟩ := h; rfl) | (obtain ⟨_, _, _, _, _, rfl, _⟩ := h; rfl) | (obtain ⟨_, _, _, _, _, _, rfl, _⟩ := h; rfl) | (obtain ⟨_, _, _, _, _, _, _, rfl, _⟩ := h; rfl)) (ok_hand T)
  have C_l_take := D_l_take.cal (P := P) (w := w) (base := base) (sp := spTake) sc_l_take (fun vs H Q E h => by first | (obtain ⟨rfl, _⟩ := h; rfl) | (obtain ⟨_, rfl, _⟩ := h; rfl) | (obtain ⟨_, _, rfl, _⟩ := h; rfl) | (obtain ⟨_, _, _, rfl, _⟩ := h; rfl) | (obtain ⟨_, _, _, _, rfl, _⟩ := h; rfl) | (obtain ⟨_, _, _, _, _, rfl, _⟩ := h; rfl) | (obtain ⟨_, _, _, _, _, _, rfl, _⟩ := h; rfl) | (obtain ⟨_, _, _, _, _, _, _, rfl, _⟩ := h; rfl)) (ok_take T)
  have C_l_of := D_l_of.cal (P := P) (w := w) (base := base) (sp := spOf K) sc_l_of (fun vs H Q E h => by first | (obtain ⟨rfl, _⟩ := h; rfl) | (obtain ⟨_, rfl, _⟩ := h; rfl) | (obtain ⟨_, _, rfl, _⟩ := h; rfl) | (obtain ⟨_, _, _, rfl, _⟩ := h; rfl) | (obtain ⟨_, _, _, _, rfl, _⟩ := h; rfl) | (obtain ⟨_, _, _, _, _, rfl, _⟩ := h; rfl) | (obtain ⟨_, _, _, _, _, _, rfl, _⟩ := h; rfl) | (obtain ⟨_, _, _, _, _, _, _, rfl, _⟩ := h; rfl)) (ok_of T C_l_take)
  have C_l_size := D_l_size.cal (P := P) (w := w) (base := base) (sp := spSize) sc_l_size (fun vs H Q E h => by first | (obtain ⟨rfl, _⟩ := h; rfl) | (obtain ⟨_, rfl, _⟩ := h; rfl) | (obtain ⟨_, _, rfl, _⟩ := h; rfl) | (obtain ⟨_, _, _, rfl, _⟩ := h; rfl) | (obtain ⟨_, _, _, _, rfl, _⟩ := h; rfl) | (obtain ⟨_, _, _, _, _, rfl, _⟩ := h; rfl) | (obtain ⟨_, _, _, _, _, _, rfl, _⟩ := h; rfl) | (obtain ⟨_, _, _, _, _, _, _, rfl, _⟩ := h; rfl)) (ok_size T C_l_take C_l_of)
  have C_l_is_ahead := D_l_is_ahead.cal (P := P) (w := w) (base := base) (sp := spAhead) sc_l_is_ahead (fun vs H Q E h => by first | (obtain ⟨rfl, _⟩ := h; rfl) | (obtain ⟨_, rfl, _⟩ := h; rfl) | (obtain ⟨_, _, rfl, _⟩ := h; rfl) | (obtain ⟨_, _, _, rfl, _⟩ := h; rfl) | (obtain ⟨_, _, _, _, rfl, _⟩ := h; rfl) | (obtain ⟨_, _, _, _, _, rfl, _⟩ := h; rfl) | (obtain ⟨_, _, _, _, _, _, rfl, _⟩ := h; rfl) | (obtain ⟨_, _, _, _, _, _, _, rfl, _⟩ := h; rfl)) (ok_ahead)
  have C_l_pair_right := D_l_pair_right.cal (P := P) (w := w) (base := base) (sp := spPair) sc_l_pair_right (fun vs H Q E h => by first | (obtain ⟨rfl, _⟩ := h; rfl) | (obtain ⟨_, rfl, _⟩ := h; rfl) | (obtain ⟨_, _, rfl, _⟩ := h; rfl) | (obtain ⟨_, _, _, rfl, _⟩ := h; rfl) | (obtain ⟨_, _, _, _, rfl, _⟩ := h; rfl) | (obtain ⟨_, _, _, _, _, rfl, _⟩ := h; rfl) | (obtain ⟨_, _, _, _, _, _, rfl, _⟩ := h; rfl) | (obtain ⟨_, _, _, _, _, _, _, rfl, _⟩ := h; rfl)) (ok_pair T g_RING C_l_is_ahead K_before C_before)
  refine F.ok (CX := CX0) sc_law (fun vs H Q E h => by first | (obtain ⟨rfl, _⟩ := h; rfl) | (obtain ⟨_, rfl, _⟩ := h; rfl) | (obtain ⟨_, _, rfl, _⟩ := h; rfl) | (obtain ⟨_, _, _, rfl, _⟩ := h; rfl) | (obtain ⟨_, _, _, _, rfl, _⟩ := h; rfl) | (obtain ⟨_, _, _, _, _, rfl, _⟩ := h; rfl) | (obtain ⟨_, _, _, _, _, _, rfl, _⟩ := h; rfl) | (obtain ⟨_, _, _, _, _, _, _, rfl, _⟩ := h; rfl)) (fun cdv A outer s H vs Q E hr h => ?_)
  obtain ⟨t, h1, h2⟩ := ok_law (P := P) (w := w) (base := base) T C_l_hand C_l_take C_l_of C_l_size C_l_pair_right _ cdv A outer s H vs Q E hr h
  exact ⟨t, h1.nox, h2⟩
end Rd
open PySem PySem.W PySem.Calls PyProof.Rows
theorem PySem.Challenge.cw_roundstore_k03_before_by_halves_holds : PySem.Challenge.rw_roundstore_k03_before_by_halves.Holds := by
  w_on; o_law
  refine HandSHeadRun.head_any (r := OpenLaw.row PySem.Challenge.rw_roundstore_k03_before_by_halves) (q := view (OpenLaw.row PySem.Challenge.rw_roundstore_k03_before_by_halves).prog [11]) (H := Rd.hk) (ob := Rd.ob) (M := 2000) (loose := ["RING", "steps", "before", "_law_hand", "_law_take", "_law_of", "_law_size", "_law_is_ahead", "_law_pair_right"]) (d := HandSHeadRun.topDef (OpenLaw.row PySem.Challenge.rw_roundstore_k03_before_by_halves).prog 11) (kwd := []) Rd.ob_eq
    (by kernel_rfl) (fun s => by kernel_rfl) Rd.run (by kernel_rfl) (by kernel_rfl) (by kernel_rfl) (by rfl) (by first | assumption | decide +kernel) (by decide +kernel) ⟨rfl, rfl, rfl, rfl, rfl, by decide +kernel⟩ ?hw ?hc
  case hw => w_witness2
  case hc =>
    refine L2.walk_ofE (l := PySem.Challenge.rw_roundstore_k03_before_by_halves) (n := 63) (k := 4) (x := "_law_script") (CX := L2.CX0) rfl (by decide) (by kernel_rfl) ⟨rfl, by decide, by decide⟩ ?F (fun _ _ _ _ z => z)
    intro w mg fa h Y G hmg0
    obtain ⟨K, KX, c⟩ := Y
    have hmg : mg ("law" : PySem.Str) = some (.ref fa) := by
      have e : (HandSHeadRun.topDef (OpenLaw.row PySem.Challenge.rw_roundstore_k03_before_by_halves).prog 11).name = ("law" : PySem.Str) := by kernel_rfl
      rw [← e]
      exact hmg0
    obtain ⟨fd, hb, hF⟩ := Rd.facts (P := (PySem.Challenge.rw_roundstore_k03_before_by_halves).prog) (w := w) KX G hmg c
    exact ⟨K, fd, Rd.spLaw K, KX, hb, fun H a ns hl _ hS => ⟨a, ns, rfl, hS, hl, fun _ => rfl⟩, hF⟩
