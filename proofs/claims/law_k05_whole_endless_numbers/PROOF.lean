import PyProof.Rows.All
import Wide.All
import OpenK.AllK
import Wide.FinOn
import KE.KStateDown
import HandS.ForMost
import HandS.More
import HandS.Conv
import HandS.Flow
import HandS.Style
import HandS.Steps
import HandS.Codes
import HandS.IsInst
import HandS.SortInts
import HandS.SetFor
import HandS.Strs
import HandS.Wide
import HandS.WordsExc
import HandS.Defaults
import HandS.Head0
import HandS.Head1
import HandS.Head2
import HandS.HeadEnd
import HandS.HeadHook1
import HandS.HeadHook2
import PySem.Challenge.RW_roundstore_k05_whole_endless_numbers
set_option Elab.async false
set_option linter.all false
set_option maxRecDepth 100000
set_option maxHeartbeats 8000000
namespace Rd
open PySem PySem.Spec PyProof.Rows L2
def top (i : Nat) : Stmt := PySem.Challenge.pw_roundstore_k05_whole_endless_numbers.main.body.getD i (.Pass ⟨0, 0, 0, 0⟩)
abbrev s_on : Stmt := top 2
abbrev N_on : List Str := ["number", "many", "ring"]
theorem sc_on : FnScope N_on ["number", "many", "ring"] (defScope s_on) := ⟨rfl, rfl, rfl, by decide +kernel, rfl, by decide +kernel, by decide +kernel⟩
abbrev s_steps : Stmt := top 3
abbrev N_steps : List Str := ["one", "other", "ring"]
theorem sc_steps : FnScope N_steps ["one", "other", "ring"] (defScope s_steps) := ⟨rfl, rfl, rfl, by decide +kernel, rfl, by decide +kernel, by decide +kernel⟩
abbrev s_before : Stmt := top 4
abbrev N_before : List Str := ["one", "other", "ring"]
theorem sc_before : FnScope N_before ["one", "other", "ring"] (defScope s_before) := ⟨rfl, rfl, rfl, by decide +kernel, rfl, by decide +kernel, by decide +kernel⟩
abbrev s_eldest : Stmt := top 5
abbrev N_eldest : List Str := ["numbers", "ring", "found", "number"]
theorem sc_eldest : FnScope N_eldest ["numbers", "ring"] (defScope s_eldest) := ⟨rfl, rfl, rfl, by decide +kernel, rfl, by decide +kernel, by decide +kernel⟩
abbrev s_spread : Stmt := top 6
abbrev N_spread : List Str := ["numbers", "ring", "first"]
theorem sc_spread : FnScope N_spread ["numbers", "ring"] (defScope s_spread) := ⟨rfl, rfl, rfl, by decide +kernel, rfl, by decide +kernel, by decide +kernel⟩
abbrev s_farthest : Stmt := top 7
abbrev N_farthest : List Str := ["one", "numbers", "ring", "other"]
theorem sc_farthest : FnScope N_farthest ["one", "numbers", "ring"] (defScope s_farthest) := ⟨rfl, rfl, rfl, by decide +kernel, rfl, by decide +kernel, by decide +kernel⟩
abbrev s_l_hand : Stmt := top 9
abbrev N_l_hand : List Str := ["_law_script", "_law_k", "_law_cell", "_law_great"]
theorem sc_l_hand : FnScope N_l_hand ["_law_script", "_law_k"] (defScope s_l_hand) := ⟨rfl, rfl, rfl, by decide +kernel, rfl, by decide +kernel, by decide +kernel⟩
abbrev s_l_take : Stmt := top 10
abbrev N_l_take : List Str := ["_law_hand_here", "_law_many", "_law_digit", "_law_primes", "_law_prime", "_law_drawn"]
theorem sc_l_take : FnScope N_l_take ["_law_hand_here", "_law_many"] (defScope s_l_take) := ⟨rfl, rfl, rfl, by decide +kernel, rfl, by decide +kernel, by decide +kernel⟩
abbrev s_l_of : Stmt := top 11
abbrev N_l_of : List Str := ["_law_hand_here", "_law_some"]
theorem sc_l_of : FnScope N_l_of ["_law_hand_here", "_law_some"] (defScope s_l_of) := ⟨rfl, rfl, rfl, by decide +kernel, rfl, by decide +kernel, by decide +kernel⟩
abbrev s_l_size : Stmt := top 12
abbrev N_l_size : List Str := ["_law_hand_here", "_law_some"]
theorem sc_l_size : FnScope N_l_size ["_law_hand_here"] (defScope s_l_size) := ⟨rfl, rfl, rfl, by decide +kernel, rfl, by decide +kernel, by decide +kernel⟩
abbrev s_l_window : Stmt := top 13
abbrev N_l_window : List Str := ["_law_hand_here", "_law_size_here", "_law_many", "_law_wide", "_law_base", "_law_some", "_law_k"]
theorem sc_l_window : FnScope N_l_window ["_law_hand_here", "_law_size_here", "_law_many"] (defScope s_l_window) := ⟨rfl, rfl, rfl, by decide +kernel, rfl, by decide +kernel, by decide +kernel⟩
abbrev s_l_left : Stmt := top 14
abbrev N_l_left : List Str := ["_law_some", "_law_size_here", "_law_one"]
theorem sc_l_left : FnScope N_l_left ["_law_some", "_law_size_here"] (defScope s_l_left) := ⟨rfl, rfl, rfl, by decide +kernel, rfl, by decide +kernel, by decide +kernel⟩
abbrev s_l_pairs_right : Stmt := top 15
abbrev N_l_pairs_right : List Str := ["_law_some", "_law_size_here", "_law_left_here", "_law_k", "_law_j", "_law_least", "_law_greatest"]
theorem sc_l_pairs_right : FnScope N_l_pairs_right ["_law_some", "_law_size_here"] (defScope s_l_pairs_right) := ⟨rfl, rfl, rfl, by decide +kernel, rfl, by decide +kernel, by decide +kernel⟩
abbrev s_l_right : Stmt := top 16
abbrev N_l_right : List Str := ["_law_some", "_law_size_here", "_law_far", "_law_one", "_law_left_here", "_law_wider", "_law_number"]
theorem sc_l_right : FnScope N_l_right ["_law_some", "_law_size_here", "_law_far"] (defScope s_l_right) := ⟨rfl, rfl, rfl, by decide +kernel, rfl, by decide +kernel, by decide +kernel⟩
abbrev s_law : Stmt := top 17
abbrev N_law : List Str := ["_law_script", "_law_k", "_law_hand_here", "_law_most", "_law_turn", "_law_size_here", "_law_far"]
theorem sc_law : FnScope N_law ["_law_script"] (defScope s_law) := ⟨rfl, rfl, rfl, by decide +kernel, rfl, by decide +kernel, by decide +kernel⟩
/-! ### what the top leaves, and what a def keeps -/
structure Tx (K : PySem.W.Frag) (mg : Str → Option Value) : Prop where
  len : mg "len" = none
  abs : mg "abs" = none
  int : mg "int" = none
  bool : mg "bool" = none
  min : mg "min" = none
  max : mg "max" = none
  all : mg "all" = none
  isinstance : mg "isinstance" = none
  range : mg "range" = none
  list : mg "list" = none
  tuple : mg "tuple" = none
  sorted : mg "sorted" = none
  set : mg "set" = none
def freeNames : List Str := ["len", "abs", "int", "bool", "min", "max", "all", "isinstance", "range", "list", "tuple", "sorted", "set"]
theorem tx_mk {K : PySem.W.Frag} {mg : Str → Option Value} (h : ∀ x ∈ freeNames, mg x = none) : Tx K mg :=
  ⟨h _ (by decide), h _ (by decide), h _ (by decide), h _ (by decide), h _ (by decide), h _ (by decide), h _ (by decide), h _ (by decide), h _ (by decide), h _ (by decide), h _ (by decide), h _ (by decide), h _ (by decide)⟩
/-- a def without defaults -/
structure Def0 (K : PySem.W.Frag) (mg : Str → Option Value) (x : Str) (st : Stmt) (ps : List Str) : Prop where
  ex : ∃ (f : Addr) (fd : FuncData), FunD K x x (defArgs st) (defBody st) (defScope st) [] [] f fd ∧ mg x = some (.ref f) ∧ Binds K fd ps []
/-- a def with keyword-only defaults: n values by place, the rest by name or left out -/
structure DefK (K : PySem.W.Frag) (mg : Str → Option Value) (x : Str) (st : Stmt) (ps : List Str) (n : Nat) (kws : List (Str × V)) : Prop where
  ex : ∃ (f : Addr) (fd : FuncData), FunD K x x (defArgs st) (defBody st) (defScope st) [] kws f fd ∧ mg x = some (.ref f) ∧ (∃ ds, Vals (kws.map (·.2)) ds ∧ Binds K fd ps ds) ∧ ∃ g, KBn K fd ps n (kws.map (·.1)) g (fun vs zs => vs ++ zs)
structure CalK (P : Program) (w : World) (K : PySem.W.Frag) (mg : Str → Option Value) (base : Heap) (k : Nat) (x : Str) (n : Nat) (ks : List Str) (sp : Sp) : Prop where
  ex : ∃ (f : Addr) (fd : FuncData) (ps : List Str) (g : List Value → List Value → List Value), FnOk P w K mg base CX0 k f fd ps sp ∧ mg x = some (.ref f) ∧ PySem.W.keepIn K (.ref f) = true ∧ KBn K fd ps n ks g (fun vs zs => vs ++ zs)
section
variable {P : Program} {w : World} {K : PySem.W.Frag} {mg : Str → Option Value} {base : Heap} {x : Str} {st : Stmt} {N ps : List Str} {k n : Nat} {sp : Sp} {kws : List (Str × V)}
/-- the body of a def, as its rule asks it -/
def BodyOk (P : Program) (w : World) (K : PySem.W.Frag) (mg : Str → Option Value) (base : Heap) (x : Str) (st : Stmt) (N : List Str) (k : Nat) (sp : Sp) : Prop :=
  ∀ (f : Addr) (cdv : Value) (A : Around) (outer : List Env) (s : Shared) (H : Hp) (vs : List V) (Q : VK) (E : XK), Room k (A.deeper (envOfC x (defScope st) s.heap.objs.size f cdv)) → sp vs H Q E →
      ∃ t, PSs (cxOf CX0 P w K mg base N x (defScope st) f cdv A outer s H E).nox (defBody st) t ∧ t { nx := fun _ H' => Q .non H', rt := Q } (start N vs) H
theorem Def0.cal (D : Def0 K mg x st ps) (S : FnScope N ps (defScope st)) (len : ∀ vs H Q E, sp vs H Q E → vs.length = ps.length) (hb : BodyOk P w K mg base x st N k sp) : C8.Cal P w K mg base (k + 1) x sp [] := by
  obtain ⟨f, fd, F, g, b⟩ := D.ex
  refine ⟨f, fd, ps, [], F.ok (CX := CX0) S len (fun cdv A outer s H vs Q E hr h => ?_), g, F.kp, b, .nil⟩
  obtain ⟨t, h1, h2⟩ := hb f cdv A outer s H vs Q E hr h
  exact ⟨t, h1.nox, h2⟩
theorem DefK.ok (D : DefK K mg x st ps n kws) (S : FnScope N ps (defScope st)) (len : ∀ vs H Q E, sp vs H Q E → vs.length = ps.length) (hb : BodyOk P w K mg base x st N k sp) :
    CalK P w K mg base (k + 1) x n (kws.map (·.1)) sp ∧ C8.Cal P w K mg base (k + 1) x sp (kws.map (·.2)) := by
  obtain ⟨f, fd, F, g, ⟨ds, hd, b⟩, gg, kb⟩ := D.ex
  have h : FnOk P w K mg base CX0 (k + 1) f fd ps sp := F.ok (CX := CX0) S len (fun cdv A outer s H vs Q E hr h => by
    obtain ⟨t, h1, h2⟩ := hb f cdv A outer s H vs Q E hr h
    exact ⟨t, h1.nox, h2⟩)
  exact ⟨⟨f, fd, ps, gg, h, g, F.kp, kb⟩, ⟨f, fd, ps, ds, h, g, F.kp, b, hd⟩⟩
end
section
variable {X : Cx} {k j n : Nat} {ks : List Str} {sp : Sp} {x : Str} {p pos : Pos} {e : Expr} {es : List Expr} {kws : List Keyword} {t tk : TA}
theorem pe_ck (c : CalK X.prog X.w X.K X.mg X.base k x n ks sp) (hr : Room j X.A) (hk : k ≤ j) (hg : Gl X x) (ha : PA X (e :: es) t) (hkw : PK X kws tk) (hall : (backToKw pos (keywordEach kws X.env)).all (·.1.isSome) = true := by rfl) (hks : (backToKw pos (keywordEach kws X.env)).filterMap (·.1) = ks := by rfl)
    (hdb : (x == ("__debug__" : Str)) = false := by decide) (he : starEach (e :: es) X.env = (false, eval e X.env) :: starEach es X.env := by rfl)
    (hpl : ((backTo pos (starEach (e :: es) X.env)).any (·.1) || (backToKw pos (keywordEach kws X.env)).any (·.1.isNone)) = false := by rfl) :
    PE X (.Call (.Name x p) (e :: es) kws pos) (tCallN n ks.length sp (fun vs zs => vs ++ zs) E0 t tk) := by
  obtain ⟨f, fd, ps, g, F, hm, kp, kb⟩ := c.ex
  exact pe_callN F (hr.mono hk) hg hm kp kb pass0 ha hkw hall hks hdb he hpl
end
/-! ### heaps: all but the drawing hand stands -/
def Fr (h : Addr) (H H' : Hp) : Prop := ∀ a o, a ≠ h → H a = some o → H' a = some o
theorem Fr.refl (h : Addr) (H : Hp) : Fr h H H := fun _ _ _ e => e
theorem Fr.trans {h : Addr} {H H1 H2 : Hp} (a : Fr h H H1) (b : Fr h H1 H2) : Fr h H H2 := fun x o n e => b x o n (a x o n e)
theorem Fr.new {h : Addr} {H : Hp} {p : Addr} {o : HO} (e : H p = none) : Fr h H (upd H p o) := fun a u _ q => by
  rw [upd_ne (ne_of_none q e)]
  exact q
/-- what h did not know may change -/
theorem Fr.mut {h : Addr} {H H' : Hp} {p : Addr} {o : HO} (f : Fr h H H') (e : H p = none) : Fr h H (upd H' p o) := fun a u n q => by
  rw [upd_ne (ne_of_none q e)]
  exact f a u n q
theorem Fr.hand {h : Addr} {H : Hp} {o : HO} : Fr h H (upd H h o) := fun a u n q => by
  rw [upd_ne n]
  exact q
theorem Fr.seq {h : Addr} {K : PySem.W.Frag} {H H' : Hp} {a : Addr} {xs : List V} (f : Fr h H H') (n : a ≠ h) (q : SqL K H a xs) : SqL K H' a xs := by
  rcases q with (q | ⟨o, q⟩) | q
  · exact .inl (.inl (f _ _ n q))
  · exact .inl (.inr ⟨o, f _ _ n q⟩)
  · exact .inr q
theorem Fr.seqT {h : Addr} {K : PySem.W.Frag} {H H' : Hp} {a : Addr} {xs : List V} (f : Fr h H H') (n : a ≠ h) (q : SqT K H a xs) : SqT K H' a xs := by
  rcases q with (q | ⟨o, q⟩) | q
  · exact .inl (.inl (f _ _ n q))
  · exact .inl (.inr ⟨o, f _ _ n q⟩)
  · exact .inr q
/-- the hand: three numbers; n bounds how often it drew -/
def HS (h : Addr) (n : Nat) (H : Hp) : Prop := ∃ g b c : Int, H h = some (.lst [.int g, .int b, .int c]) ∧ 0 ≤ g ∧ g < 10 ^ 90 ∧ 0 ≤ b ∧ b < 2 ^ 62 ∧ 0 ≤ c ∧ c ≤ n
theorem HS.mono {h : Addr} {n m : Nat} {H : Hp} (q : HS h n H) (l : n ≤ m) : HS h m H := by
  obtain ⟨g, b, c, e, g0, g1, b0, b1, c0, c1⟩ := q
  exact ⟨g, b, c, e, g0, g1, b0, b1, c0, by omega⟩
theorem HS.new {h : Addr} {n : Nat} {H : Hp} {p : Addr} {o : HO} (q : HS h n H) (e : H p = none) : HS h n (upd H p o) := by
  obtain ⟨g, b, c, eh, r⟩ := q
  exact ⟨g, b, c, (by rw [upd_ne (ne_of_none eh e)]; exact eh), r⟩
theorem HS.at {h : Addr} {n : Nat} {H : Hp} (q : HS h n H) : ∃ o, H h = some o := by
  obtain ⟨g, b, c, e, _⟩ := q
  exact ⟨_, e⟩
theorem HS.ne {h : Addr} {n : Nat} {H : Hp} {p : Addr} (q : HS h n H) (e : H p = none) : p ≠ h := by
  obtain ⟨g, b, c, eh, _⟩ := q
  exact fun z => by
    rw [z, eh] at e
    cases e
/-! ### the drawing defs of the law -/
def lim : Nat := 100000
/-- hand(script, k) -/
def spHand (K : PySem.W.Frag) : Sp := fun vs H Q _ => ∃ (a : Addr) (ns : List Int) (k : Nat), vs = [.ref a, .int k] ∧ SqL K H a (ns.map V.int) ∧ k ≤ 100 ∧ ∀ p H', H p = none → (∀ q o, H q = some o → H' q = some o) → HS p 0 H' → Q (.ref p) H'
/-- take(hand, many): some number below many -/
def spTake : Sp := fun vs H Q _ => ∃ (h : Addr) (m : Int) (n : Nat), vs = [.ref h, .int m] ∧ HS h n H ∧ n < lim ∧ 0 < m ∧ m ≤ 10 ^ 18 ∧ ∀ d H', 0 ≤ d → d < m → HS h (n + 1) H' → Fr h H H' → Q (.int d) H'
/-- of(hand, some) -/
def spOf (K : PySem.W.Frag) : Sp := fun vs H Q _ => ∃ (h a : Addr) (xs : List V) (n : Nat), vs = [.ref h, .ref a] ∧ HS h n H ∧ n < lim ∧ a ≠ h ∧ SqL K H a xs ∧ 0 < xs.length ∧ xs.length ≤ 1000 ∧ ∀ v H', v ∈ xs → HS h (n + 1) H' → Fr h H H' → Q v H'
def spSize : Sp := fun vs H Q _ => ∃ (h : Addr) (n : Nat), vs = [.ref h] ∧ HS h n H ∧ n + 3 < lim ∧ ∀ s H', 8 ≤ s → s ≤ 1048576 → s % 2 = 0 → HS h (n + 3) H' → Fr h H H' → Q (.int s) H'
theorem pow_ok {i j : Int} (h : 0 ≤ j ∧ j ≤ 1000000 ∧ i.natAbs < 2 ^ 64) : CPow i j := h
theorem atI_in {xs : List V} {i : Int} (h0 : 0 ≤ i) (h1 : i < xs.length) : ∃ v, atI xs i = some v ∧ v ∈ xs := by
  have h2 : i.toNat < xs.length := by omega
  refine ⟨xs[i.toNat], ?_, List.getElem_mem h2⟩
  have e := atI_nat (xs := xs) (j := i.toNat) (List.getElem?_eq_getElem h2)
  rw [Int.toNat_of_nonneg h0] at e
  exact e
theorem if01 (b : Bool) : 0 ≤ (if b = true then (1 : Int) else 0) ∧ (if b = true then (1 : Int) else 0) ≤ 1 := by
  cases b <;> decide
theorem w45 : (((10 : Int) ^ (45 : Int).toNat).natAbs) < 2 ^ 150 := by decide +kernel
theorem e90 : ((10 : Int) ^ (45 : Int).toNat) * ((10 : Int) ^ (45 : Int).toNat) = 10 ^ 90 := by decide +kernel
theorem p17 : ((10 : Int) ^ (17 : Int).toNat) = 100000000000000000 := by decide +kernel
theorem p18 : ((10 : Int) ^ (18 : Int).toNat) = 1000000000000000000 := by decide +kernel
theorem p19 : ((2 : Int) ^ (19 : Int).toNat) = 524288 := by decide +kernel
theorem p20 : ((2 : Int) ^ (20 : Int).toNat) = 1048576 := by decide +kernel
theorem cdw {i j : Int} (h : 0 < j) (h1 : j ≤ 1000000000000000000) : CDivW i j := wide_div (b := 64) h (by omega) (by decide) (by decide)
section
variable {P : Program} {w : World} {K : PySem.W.Frag} {mg : Str → Option Value} {base : Heap}
theorem ok_hand (T : Tx K mg) : BodyOk P w K mg base "_law_hand" s_l_hand N_l_hand 0 (spHand K) := by
  intro f cdv A outer s H vs Q E hr h
  obtain ⟨a, ns, k, rfl, hS, hk, q⟩ := h
  refine ⟨_, (pss_cons (ps_set (i := 2) sc_l_hand.nd rfl (Or.inl rfl) (pe_ifExp (pt_cmpR op_lt (pv 1) (pe_callB call_len_seq (by rfl) T.len (by decide +kernel) (pa_cons (pv 0) pa_nil)) (nomark _)) (pe_ix ix_list (pv 0) (pv 1) (fun _ _ => rfl)) pe_int))
      (pss_cons (ps_set (i := 3) sc_l_hand.nd rfl (Or.inl rfl) (pe_op op_mul (pe_op op_mod (pe_callB call_abs (by rfl) T.abs (by decide +kernel) (pa_cons (pv 2) pa_nil)) (pe_op op_mulW (pe_op op_pow pe_int pe_int) (pe_op op_pow pe_int pe_int))) (pe_callTy call_int1 (by rfl) T.int (by decide +kernel) (pa_cons (pe_cmpR op_ge (pe_callB call_abs (by rfl) T.abs (by decide +kernel) (pa_cons (pv 2) pa_nil)) (pe_op op_pow pe_int pe_int) (nomark _)) pa_nil))))
      (pss_one (ps_ret (pe_lst (pa_cons (pv 3) (pa_cons (pe_op op_add (pe_op op_add (pe_op op_mod (pv 2) pe_int) (pe_op op_mul pe_int (pv 1))) pe_int) (pa_cons pe_int pa_nil)))))))), ?_⟩
  refine st_seq (st_setH (PV := fun v H' => H' = H ∧ ∃ c : Int, v = .int c) (fun Q2 q2 => ?_) (fun v H' hv => ?_))
  · refine ⟨_, rfl, _, rfl, a, _, rfl, .inl hS, _, _, rfl, rfl, _, rfl, ite2 (fun e => ?_) (fun e => ?_)⟩
    · have e1 := of_decide_eq_true e
      rw [List.length_map] at e1
      have e2 : k < ns.length := by omega
      refine ⟨_, rfl, _, rfl, a, _, _, .int ns[k], rfl, rfl, hS, ?_, q2 _ _ ⟨rfl, _, rfl⟩⟩
      refine atI_nat ?_
      rw [List.getElem?_map, List.getElem?_eq_getElem e2]
      rfl
    · exact q2 _ _ ⟨rfl, _, rfl⟩
  · obtain ⟨rfl, c, rfl⟩ := hv
    refine st_seq ?_
    refine ⟨_, rfl, _, rfl, _, _, rfl, rfl, pow_ok (by decide), _, _, rfl, rfl, pow_ok (by decide), _, _, rfl, rfl, wide_mul w45 w45 (by decide) (by decide) (by decide), _, _, rfl, rfl, ?_, ?_⟩
    · rw [e90]
      show (0 : Int) < 10 ^ 90
      decide
    · refine ⟨_, rfl, _, rfl, _, _, rfl, rfl, pow_ok (by decide), _, _, rfl, rfl, .inr ⟨_, rfl, _, _, rfl, rfl, .inr ?_, ?_⟩⟩
      · have z := if01 (decide (((10 : Int) ^ (18 : Int).toNat) ≤ (if c < 0 then -c else c)))
        exact ⟨Int.lt_of_lt_of_le (by decide) z.1, Int.lt_of_le_of_lt z.2 (by decide)⟩
      · refine ⟨_, rfl, _, rfl, _, _, rfl, rfl, (show (0 : Int) < 2305843009213693951 by decide), _, rfl, _, _, rfl, rfl, .inl (by decide), _, _, rfl, rfl, _, _, rfl, rfl, by show 3 ≤ sizeLine; decide, fun p np => ?_⟩
        refine q _ _ np (fun b o e => ?_) ⟨_, _, _, upd_same, ?_, ?_, ?_, ?_, ?_, ?_⟩
        · rw [upd_ne (ne_of_none e np)]
          exact e
        · rw [e90]
          exact Int.mul_nonneg (Int.emod_nonneg _ (by decide)) (if01 _).1
        · rw [e90]
          have h1 : (if c < 0 then -c else c) % (10 ^ 90) < 10 ^ 90 := Int.emod_lt_of_pos _ (by decide)
          have h0 : 0 ≤ (if c < 0 then -c else c) % (10 ^ 90) := Int.emod_nonneg _ (by decide)
          cases (decide (((10 : Int) ^ (18 : Int).toNat) ≤ (if c < 0 then -c else c))) with
          | true =>
            rw [if_pos rfl, Int.mul_one]
            exact h1
          | false =>
            rw [if_neg Bool.false_ne_true, Int.mul_zero]
            decide
        · have h1 : 0 ≤ c % 2305843009213693951 := Int.emod_nonneg _ (by decide)
          omega
        · have h1 : c % 2305843009213693951 < 2305843009213693951 := Int.emod_lt_of_pos _ (by decide)
          have h2 : (2 : Int) ^ 62 = 4611686018427387904 := by decide
          omega
        · decide
        · decide
def primes : List V := [.int 2147483647, .int 2147483629, .int 2147483587, .int 2147483579, .int 2147483563, .int 2147483549, .int 2147483543, .int 2147483497]
theorem primes_in : ∀ v ∈ primes, ∃ q : Int, v = .int q ∧ 0 < q ∧ q < 2147483648 := by
  intro v hv
  simp only [primes, List.mem_cons, List.not_mem_nil, or_false] at hv
  rcases hv with rfl | rfl | rfl | rfl | rfl | rfl | rfl | rfl <;> exact ⟨_, rfl, by decide, by decide⟩
theorem ok_take (T : Tx K mg) : BodyOk P w K mg base "_law_take" s_l_take N_l_take 0 spTake := by
  intro f cdv A outer s H vs Q E hr h
  obtain ⟨h, m, n, rfl, ⟨g, b, c, eh, g0, g1, b0, b1, c0, c1⟩, hn, m0, m1, q⟩ := h
  refine ⟨_, (pss_cons (ps_if (pt_cmpR op_gt (pe_ix ix_list (pv 0) pe_int (fun _ _ => rfl)) pe_int (nomark _)) (pss_cons (ps_set (i := 2) sc_l_take.nd rfl (Or.inl rfl) (pe_op op_mod (pe_ix ix_list (pv 0) pe_int (fun _ _ => rfl)) (pv 1)))
      (pss_cons (ps_asg (pe_op op_fdivW (pe_ix ix_list (pv 0) pe_int (fun _ _ => rfl)) (pv 1)) (pg_sub (pv 0) pe_int set_list))
      (pss_one (ps_ret (pv 2))))) pss_nil)
      (pss_cons (ps_asg (pe_op op_add (pe_ix ix_list (pv 0) pe_int (fun _ _ => rfl)) pe_int) (pg_sub (pv 0) pe_int set_list))
      (pss_cons (ps_set (i := 3) sc_l_take.nd rfl (Or.inl rfl) (pe_lst (pa_cons pe_int (pa_cons pe_int (pa_cons pe_int (pa_cons pe_int (pa_cons pe_int (pa_cons pe_int (pa_cons pe_int (pa_cons pe_int pa_nil))))))))))
      (pss_cons (ps_set (i := 4) sc_l_take.nd rfl (Or.inl rfl) (pe_ix ix_list (pv 3) (pe_op op_mod (pe_ix ix_list (pv 0) pe_int (fun _ _ => rfl)) pe_int) (fun _ _ => rfl)))
      (pss_cons (ps_set (i := 5) sc_l_take.nd rfl (Or.inl rfl) (pe_op op_mod (pe_op op_pow (pe_op op_add (pe_ix ix_list (pv 0) pe_int (fun _ _ => rfl)) (pe_op op_mul pe_int (pe_ix ix_list (pv 0) pe_int (fun _ _ => rfl)))) pe_int) (pv 4)))
      (pss_one (ps_ret (pe_op op_mod (pe_op op_fdivW (pe_op op_mod (pe_op op_mul (pv 5) (pe_op op_add (pe_op op_mod (pv 5) pe_int) (pe_ix ix_list (pv 0) pe_int (fun _ _ => rfl)))) (pv 4)) pe_int) (pv 1))))))))), ?_⟩
  have hn2 : (n : Int) < 100000 := by
    have z : n < 100000 := hn
    omega
  have p18' : (10 : Int) ^ 18 = 1000000000000000000 := by decide
  have p62 : (2 : Int) ^ 62 = 4611686018427387904 := by decide
  refine st_seq ?_
  refine ⟨_, rfl, h, _, _, _, rfl, rfl, SqL.of eh, rfl, _, _, rfl, rfl, _, rfl, ite2 (fun z => ?_) (fun z => ?_)⟩
  · refine ⟨_, rfl, h, _, _, _, rfl, rfl, SqL.of eh, rfl, _, rfl, _, _, rfl, rfl, m0, ?_⟩
    refine ⟨_, rfl, h, _, _, _, rfl, rfl, SqL.of eh, rfl, _, rfl, _, _, rfl, rfl, cdw m0 (by omega), ?_⟩
    refine ⟨_, rfl, h, _, _, 0, rfl, rfl, eh, rfl, ?_⟩
    refine ⟨_, rfl, q _ _ (Int.emod_nonneg _ (by omega)) (Int.emod_lt_of_pos _ m0) ⟨_, b, c, upd_same, ?_, ?_, b0, b1, c0, ?_⟩ Fr.hand⟩
    · exact Int.ediv_nonneg g0 (by omega)
    · exact Int.lt_of_le_of_lt (Int.ediv_le_self _ g0) g1
    · omega
  · refine st_seq ?_
    refine ⟨_, rfl, h, _, _, _, rfl, rfl, SqL.of eh, rfl, _, _, rfl, rfl, _, rfl, h, _, _, 2, rfl, rfl, eh, rfl, ?_⟩
    have e2 : (upd H h (.lst [.int g, .int b, .int (c + 1)])) h = some (.lst [.int g, .int b, .int (c + 1)]) := upd_same
    refine st_seq ⟨by show 8 ≤ sizeLine; decide, fun p np => ?_⟩
    have hpn : h ≠ p := ne_of_none e2 np
    have e3 : (upd (upd H h (.lst [.int g, .int b, .int (c + 1)])) p (.lst primes)) h = some (.lst [.int g, .int b, .int (c + 1)]) := by
      rw [upd_ne hpn]
      exact e2
    obtain ⟨v, ev, hv⟩ := atI_in (xs := primes) (i := (c + 1) % 8) (Int.emod_nonneg _ (by decide)) (Int.emod_lt_of_pos _ (by decide))
    obtain ⟨r, rfl, r0, r1⟩ := primes_in v hv
    refine st_seq ?_
    refine ⟨_, rfl, _, rfl, h, _, _, _, rfl, rfl, SqL.of e3, rfl, _, _, rfl, rfl, (show (0 : Int) < 8 by decide), p, _, _, _, rfl, rfl, SqL.of upd_same, ev, ?_⟩
    refine st_seq ?_
    refine ⟨_, rfl, h, _, _, _, rfl, rfl, SqL.of e3, rfl, _, rfl, h, _, _, _, rfl, rfl, SqL.of e3, rfl, _, _, rfl, rfl, .inl (by decide), _, _, rfl, rfl, _, _, rfl, rfl, pow_ok ⟨by decide, by decide, by omega⟩, _, rfl, _, _, rfl, rfl, r0, ?_⟩
    refine ⟨_, rfl, _, rfl, _, _, rfl, rfl, (show (0 : Int) < 1009 by decide), _, rfl, h, _, _, _, rfl, rfl, SqL.of e3, rfl, _, _, rfl, rfl, _, _, rfl, rfl, .inl ?_, _, rfl, _, _, rfl, rfl, r0, _, _, rfl, rfl, cdw (by decide) (by decide), _, rfl, _, _, rfl, rfl, m0, ?_⟩
    · have h1 : 0 ≤ (b + 7919 * (c + 1)) ^ (5 : Int).toNat % r := Int.emod_nonneg _ (by omega)
      have h2 : (b + 7919 * (c + 1)) ^ (5 : Int).toNat % r < r := Int.emod_lt_of_pos _ r0
      have h3 : (2 : Int) ^ 64 = 18446744073709551616 := by decide
      rw [h3]
      exact ⟨by omega, by omega⟩
    · refine q _ _ (Int.emod_nonneg _ (by omega)) (Int.emod_lt_of_pos _ m0) ⟨g, b, c + 1, e3, g0, g1, b0, b1, by omega, by omega⟩ (Fr.trans Fr.hand (Fr.new np))
theorem ok_of (T : Tx K mg) (c_l_take : C8.Cal P w K mg base 1 "_law_take" spTake []) : BodyOk P w K mg base "_law_of" s_l_of N_l_of 1 (spOf K) := by
  intro f cdv A outer s H vs Q E hr h
  obtain ⟨h, a, xs, n, rfl, hs, hn, ne, hS, l0, l1, q⟩ := h
  refine ⟨_, (pss_one (ps_ret (pe_ix ix_list (pv 1) (C8.pe_c c_l_take hr (by decide) (by rfl) (pa_cons (pv 0) (pa_cons (pe_callB call_len_seq (by rfl) T.len (by decide +kernel) (pa_cons (pv 1) pa_nil)) pa_nil))) (fun _ _ => rfl)))), ?_⟩
  refine ⟨_, rfl, _, rfl, _, rfl, a, xs, rfl, .inl hS, h, _, n, rfl, hs, hn, ?_, ?_, fun d H1 d0 d1 hs1 f1 => ?_⟩
  · omega
  · have z : (10 : Int) ^ 18 = 1000000000000000000 := by decide
    omega
  · obtain ⟨v, ev, hv⟩ := atI_in d0 d1
    exact ⟨a, xs, d, v, rfl, rfl, f1.seq ne hS, ev, q v H1 hv hs1 f1⟩
def sz8 (d d2 : Int) : List V := [.int 8, .int 8, .int 10, .int 12, .int 16, .int 64, .int (2 * (4 + d)), .int (2 * (4 + d2))]
def sz2 : List V := [.int (2 ^ (20 : Int).toNat), .int (2 ^ (20 : Int).toNat - 2)]
theorem ok_size (T : Tx K mg) (c_l_take : C8.Cal P w K mg base 1 "_law_take" spTake []) (c_l_of : C8.Cal P w K mg base 2 "_law_of" (spOf K) []) : BodyOk P w K mg base "_law_size" s_l_size N_l_size 2 spSize := by
  intro f cdv A outer s H vs Q E hr h
  obtain ⟨h, n, rfl, hs, hn, q⟩ := h
  have hn2 : n + 3 < 100000 := hn
  refine ⟨_, (pss_cons (ps_set (i := 1) sc_l_size.nd rfl (Or.inl rfl) (pe_lst (pa_cons pe_int (pa_cons pe_int (pa_cons pe_int (pa_cons pe_int (pa_cons pe_int (pa_cons pe_int (pa_cons (pe_op op_mul pe_int (pe_op op_add pe_int (C8.pe_c c_l_take hr (by decide) (by rfl) (pa_cons (pv 0) (pa_cons pe_int pa_nil))))) (pa_cons (pe_op op_mul pe_int (pe_op op_add pe_int (C8.pe_c c_l_take hr (by decide) (by rfl) (pa_cons (pv 0) (pa_cons (pe_op op_sub (pe_op op_pow pe_int pe_int) pe_int) pa_nil))))) pa_nil))))))))))
      (pss_one (ps_ret (C8.pe_c c_l_of hr (by decide) (by rfl) (pa_cons (pv 0) (pa_cons (pe_op op_cat (pv 1) (pe_lst (pa_cons (pe_op op_pow pe_int pe_int) (pa_cons (pe_op op_sub (pe_op op_pow pe_int pe_int) pe_int) pa_nil)))) pa_nil)))))), ?_⟩
  refine st_seq ?_
  refine ⟨_, rfl, h, 40, n, rfl, hs, (show n < 100000 by omega), by decide, by decide, fun d H1 d0 d1 hs1 f1 => ?_⟩
  refine ⟨_, _, rfl, rfl, _, _, rfl, rfl, .inl (by decide), _, rfl, _, _, rfl, rfl, pow_ok (by decide), _, _, rfl, rfl, h, _, n + 1, rfl, hs1, (show n + 1 < 100000 by omega), by decide, by decide, fun d2 H2 d20 d21 hs2 f2 => ?_⟩
  have d22 : d2 < 524285 := d21
  refine ⟨_, _, rfl, rfl, _, _, rfl, rfl, .inl (by decide), by show 8 ≤ sizeLine; decide, fun p np => ?_⟩
  refine ⟨_, rfl, _, rfl, _, _, rfl, rfl, pow_ok (by decide), _, _, rfl, rfl, pow_ok (by decide), _, _, rfl, rfl, by show 2 ≤ sizeLine; decide, fun p2 np2 => ?_⟩
  have ne2 : p ≠ p2 := fun z => by
    rw [← z, upd_same] at np2
    cases np2
  have ep : (upd (upd H2 p (.lst (sz8 d d2))) p2 (.lst sz2)) p = some (.lst (sz8 d d2)) := by
    rw [upd_ne ne2]
    exact upd_same
  refine ⟨p, p2, sz8 d d2, sz2, rfl, rfl, ep, upd_same, by show 8 + 2 ≤ sizeLine; decide, fun p3 np3 => ?_⟩
  · have hs3 : HS h (n + 1 + 1) (upd (upd (upd H2 p (.lst (sz8 d d2))) p2 (.lst sz2)) p3 (.lst (sz8 d d2 ++ sz2))) := ((hs2.new np).new np2).new np3
    have ne3 : p3 ≠ h := ((hs2.new np).new np2).ne np3
    refine ⟨h, p3, sz8 d d2 ++ sz2, n + 1 + 1, rfl, hs3, (show n + 1 + 1 < 100000 by omega), ne3, SqL.of upd_same, (show 0 < 10 by decide), (show 10 ≤ 1000 by decide), fun v H4 hv hs4 f4 => ?_⟩
    have hx : ∃ z : Int, v = .int z ∧ 8 ≤ z ∧ z ≤ 1048576 ∧ z % 2 = 0 := by
      simp only [sz8, sz2, p20, List.cons_append, List.nil_append, List.mem_cons, List.not_mem_nil, or_false] at hv
      rcases hv with rfl | rfl | rfl | rfl | rfl | rfl | rfl | rfl | rfl | rfl <;> exact ⟨_, rfl, by omega, by omega, by omega⟩
    obtain ⟨z, rfl, z0, z1, z2⟩ := hx
    exact q z H4 z0 z1 z2 hs4 ((f1.trans f2).trans ((Fr.new np).trans ((Fr.new np2).trans ((Fr.new np3).trans f4))))
end
/-! ### the ring's defs -/
def spOn : Sp := fun vs H Q _ => ∃ x m s : Int, vs = [.int x, .int m, .int s] ∧ 0 < s ∧ Q (.int ((x + m) % s)) H
def spSteps : Sp := fun vs H Q _ => ∃ x y s : Int, vs = [.int x, .int y, .int s] ∧ 0 < s ∧ Q (.int ((y - x) % s)) H
section
variable {P : Program} {w : World} {K : PySem.W.Frag} {mg : Str → Option Value} {base : Heap}
theorem ok_steps : BodyOk P w K mg base "steps" s_steps N_steps 0 spSteps := by
  intro f cdv A outer s H vs Q E hr h
  obtain ⟨x, y, s, rfl, s0, q⟩ := h
  refine ⟨_, (pss_one (ps_ret (pe_op op_mod (pe_op op_sub (pv 1) (pv 0)) (pv 2)))), ?_⟩
  exact ⟨_, rfl, _, rfl, _, _, rfl, rfl, _, rfl, _, _, rfl, rfl, s0, q⟩
theorem ok_on : BodyOk P w K mg base "on" s_on N_on 0 spOn := by
  intro f cdv A outer s H vs Q E hr h
  obtain ⟨x, m, s, rfl, s0, q⟩ := h
  refine ⟨_, (pss_one (ps_ret (pe_op op_mod (pe_op op_add (pv 0) (pv 1)) (pv 2)))), ?_⟩
  exact ⟨_, rfl, _, rfl, _, _, rfl, rfl, _, rfl, _, _, rfl, rfl, s0, q⟩
def spBefore : Sp := fun vs H Q _ => ∃ x y s : Int, vs = [.int x, .int y, .int s] ∧ 0 < s ∧ s ≤ 1048576 ∧ Q (.bl (decide (0 < (y - x) % s) && decide ((y - x) % s < s / 2))) H
theorem ok_before (k_steps : CalK P w K mg base 1 "steps" 2 ["ring"] spSteps) : BodyOk P w K mg base "before" s_before N_before 1 spBefore := by
  intro f cdv A outer s H vs Q E hr h
  obtain ⟨x, y, s, rfl, s0, s1, q⟩ := h
  refine ⟨_, (pss_one (ps_ret (pe_chain op_lt op_lt pe_int (pe_ck k_steps hr (by decide) (by rfl) (pa_cons (pv 0) (pa_cons (pv 1) pa_nil)) (pk_cons (pv 2) pk_nil)) (pe_op op_fdivW (pv 2) pe_int)))), ?_⟩
  refine ⟨_, rfl, _, rfl, _, rfl, rfl, rfl, x, y, s, rfl, s0, _, _, rfl, rfl, _, rfl, ite2 (fun z => ?_) (fun z => ?_)⟩
  · refine ⟨_, rfl, _, _, rfl, rfl, cdw (by decide) (by decide), _, _, rfl, rfl, ?_⟩
    rw [z, Bool.true_and] at q
    exact q
  · rw [Bool.eq_false_iff.mpr z, Bool.false_and] at q
    exact q
end
/-! ### the law's own going round -/
def wayI (x y s : Int) : Int := if x ≤ y then y - x else y - x + s
theorem way_eq {x y s : Int} (x0 : 0 ≤ x) (x1 : x < s) (y0 : 0 ≤ y) (y1 : y < s) : (y - x) % s = wayI x y s := by
  unfold wayI
  split
  · rw [Int.emod_eq_of_lt (by omega) (by omega)]
  · have z : (y - x) % s = (y - x + s) % s := by
      rw [Int.add_emod_right]
    rw [z, Int.emod_eq_of_lt (by omega) (by omega)]
theorem HS.same {h : Addr} {n : Nat} {H H' : Hp} (q : HS h n H) (e : Same H H') : HS h n H' := by
  obtain ⟨g, b, c, eh, r⟩ := q
  exact ⟨g, b, c, e _ _ eh, r⟩
theorem Fr.same {h : Addr} {H H' : Hp} (e : Same H H') : Fr h H H' := fun a o _ q => e a o q
theorem same_new {H : Hp} {p : Addr} {o : HO} (h : H p = none) : Same H (upd H p o) := fun b x e => by
  rw [upd_ne (ne_of_none e h)]
  exact e
theorem seq_new {K : PySem.W.Frag} {H H' : Hp} {a p : Addr} {xs : List V} (q : SqL K H a xs) (e : H p = none) (f : Fr p H H') : SqL K H' a xs := by
  rcases q with (q | ⟨o, q⟩) | q
  · exact .inl (.inl (f _ _ (ne_of_none q e) q))
  · exact .inl (.inr ⟨o, f _ _ (ne_of_none q e) q⟩)
  · exact .inr q
theorem all_rep (n : Nat) : (List.replicate n true).all id = true := by
  rw [List.all_eq_true]
  intro x hx
  exact (List.eq_of_mem_replicate hx)
theorem if_join {c : TT} {t1 t2 : TS} {D : Ends} {σ : L2.St} {H : Hp} (J : L2.St → Hp → Prop) (h : ∀ (N : L2.St → Hp → Prop), (∀ σ' H', J σ' H' → N σ' H') → tIfS c t1 t2 { D with nx := N } σ H) (q : ∀ σ' H', J σ' H' → D.nx σ' H') : tIfS c t1 t2 D σ H := h D.nx q
def spLaw (K : PySem.W.Frag) : Sp := fun vs H Q _ => ∃ (a : Addr) (ns : List Int), vs = [.ref a] ∧ SqL K H a (ns.map V.int) ∧ ns.length ≤ 63 ∧ ∀ H', Q (.bl true) H'
/-! ### the mathematics of the eldest -/
def wy (x y s : Int) : Int := (y - x) % s
def bef (s x y : Int) : Bool := decide (0 < wy x y s) && decide (wy x y s < s / 2)
def eldF (s : Int) (f : Int) (xs : List Int) : Int := xs.foldl (fun f y => if bef s y f = true then y else f) f
def farI (x s : Int) (xs : List Int) : Int := (xs.map fun y => wy x y s).foldr max 0
def eldI (s : Int) : List Int → Option Int
  | [] => none
  | x :: xs => if farI (eldF s x (x :: xs)) s (x :: xs) < s / 2 then some (eldF s x (x :: xs)) else none
def First (s x : Int) (xs : List Int) : Prop := x ∈ xs ∧ ∀ y ∈ xs, 2 * wy x y s < s
theorem wy_nonneg {x y s : Int} (s0 : 0 < s) : 0 ≤ wy x y s := Int.emod_nonneg _ (by omega)
theorem wy_lt {x y s : Int} (s0 : 0 < s) : wy x y s < s := Int.emod_lt_of_pos _ s0
theorem wy_self {x s : Int} : wy x x s = 0 := by
  unfold wy
  rw [Int.sub_self, Int.zero_emod]
theorem eldF_mem (s : Int) : ∀ (xs : List Int) (f : Int), eldF s f xs = f ∨ eldF s f xs ∈ xs
  | [], f => .inl rfl
  | y :: ys, f => by
    show eldF s (if bef s y f = true then y else f) ys = f ∨ _ ∈ y :: ys
    rcases eldF_mem s ys (if bef s y f = true then y else f) with h | h
    · by_cases b : bef s y f = true
      · rw [if_pos b] at h
        exact .inr (by show eldF s (if bef s y f = true then y else f) ys ∈ _; rw [if_pos b, h]; exact List.mem_cons_self)
      · rw [if_neg b] at h
        exact .inl (by rw [if_neg b]; exact h)
    · exact .inr (List.mem_cons_of_mem _ h)
/-- the way between two numbers that are seen from x -/
theorem wy_diff {x y f s : Int} (s0 : 0 < s) : wy y f s = (wy x f s - wy x y s) % s := by
  unfold wy
  rw [← Int.sub_emod]
  congr 1
  omega
theorem bef_iff {x y f s : Int} (s0 : 0 < s) (s2 : s % 2 = 0) (hy : 2 * wy x y s < s) (hf : 2 * wy x f s < s) : bef s y f = true ↔ wy x y s < wy x f s := by
  unfold bef
  rw [Bool.and_eq_true, decide_eq_true_eq, decide_eq_true_eq, wy_diff (x := x) s0]
  have y0 := wy_nonneg (x := x) (y := y) s0
  have f0 := wy_nonneg (x := x) (y := f) s0
  generalize wy x y s = a at *
  generalize wy x f s = b at *
  by_cases h : a < b
  · rw [Int.emod_eq_of_lt (by omega) (by omega)]
    omega
  · by_cases h2 : a = b
    · rw [h2, Int.sub_self, Int.zero_emod]
      omega
    · have e : (b - a) % s = b - a + s := by
        rw [← Int.add_emod_right, Int.emod_eq_of_lt (by omega) (by omega)]
      rw [e]
      omega
theorem eldF_min {s x : Int} (s0 : 0 < s) (s2 : s % 2 = 0) : ∀ (xs : List Int) (f : Int), 2 * wy x f s < s → (∀ y ∈ xs, 2 * wy x y s < s) → wy x (eldF s f xs) s ≤ wy x f s ∧ ∀ y ∈ xs, wy x (eldF s f xs) s ≤ wy x y s
  | [], f, _, _ => ⟨Int.le_refl _, fun y hy => by cases hy⟩
  | y :: ys, f, hf, hx => by
    have hy := hx y List.mem_cons_self
    have hys := fun z hz => hx z (List.mem_cons_of_mem _ hz)
    have b := bef_iff (x := x) (y := y) (f := f) s0 s2 hy hf
    show wy x (eldF s (if bef s y f = true then y else f) ys) s ≤ _ ∧ ∀ z ∈ y :: ys, wy x (eldF s (if bef s y f = true then y else f) ys) s ≤ _
    by_cases c : bef s y f = true
    · rw [if_pos c]
      have ih := eldF_min s0 s2 ys y hy hys
      have lt := b.mp c
      refine ⟨by omega, fun z hz => ?_⟩
      rcases List.mem_cons.mp hz with e | e
      · rw [e]
        exact ih.1
      · exact ih.2 z e
    · rw [if_neg c]
      have ih := eldF_min s0 s2 ys f hf hys
      have ge : ¬ wy x y s < wy x f s := fun h => c (b.mpr h)
      refine ⟨ih.1, fun z hz => ?_⟩
      rcases List.mem_cons.mp hz with e | e
      · rw [e]
        omega
      · exact ih.2 z e
theorem wy_zero {x y s : Int} (x0 : 0 ≤ x) (x1 : x < s) (y0 : 0 ≤ y) (y1 : y < s) (h : wy x y s = 0) : y = x := by
  unfold wy at h
  by_cases z : x ≤ y
  · rw [Int.emod_eq_of_lt (by omega) (by omega)] at h
    omega
  · rw [← Int.add_emod_right, Int.emod_eq_of_lt (by omega) (by omega)] at h
    omega
theorem far_le {x s : Int} : ∀ {xs : List Int} {y : Int}, y ∈ xs → wy x y s ≤ farI x s xs
  | [], _, h => by cases h
  | z :: zs, y, h => by
    show _ ≤ max (wy x z s) (farI x s zs)
    rcases List.mem_cons.mp h with e | e
    · rw [e]
      omega
    · have := far_le (x := x) (s := s) e
      omega
theorem far_lt {x s c : Int} (c0 : 0 < c) : ∀ {xs : List Int}, (∀ y ∈ xs, wy x y s < c) → farI x s xs < c
  | [], _ => c0
  | z :: zs, h => by
    show max (wy x z s) (farI x s zs) < c
    have h1 := h z List.mem_cons_self
    have h2 := far_lt c0 (x := x) (s := s) fun y hy => h y (List.mem_cons_of_mem _ hy)
    omega
theorem far_nonneg {x s : Int} : ∀ {xs : List Int}, 0 ≤ farI x s xs
  | [] => Int.le_refl 0
  | z :: zs => by
    show 0 ≤ max (wy x z s) (farI x s zs)
    have := far_nonneg (x := x) (s := s) (xs := zs)
    omega
/-- what max tells of the ways -/
theorem far_is {x s m : Int} {xs : List Int} (s0 : 0 < s) (hm : m ∈ xs.map fun y => wy x y s) (hle : ∀ j ∈ xs.map (fun y => wy x y s), j ≤ m) : m = farI x s xs := by
  obtain ⟨y, hy, rfl⟩ := List.mem_map.mp hm
  have h1 := far_le (x := x) (s := s) hy
  have h2 : farI x s xs < wy x y s + 1 := far_lt (by have := wy_nonneg (x := x) (y := y) s0; omega) fun z hz => by
    have := hle _ (List.mem_map.mpr ⟨z, hz, rfl⟩)
    omega
  omega
def InR (s : Int) (xs : List Int) : Prop := ∀ y ∈ xs, 0 ≤ y ∧ y < s
theorem first_uniq {s x x' : Int} {xs : List Int} (s0 : 0 < s) (r : InR s xs) (h : First s x xs) (h' : First s x' xs) : x = x' := by
  have a := h.2 x' h'.1
  have b := h'.2 x h.1
  obtain ⟨x0, x1⟩ := r x h.1
  obtain ⟨y0, y1⟩ := r x' h'.1
  have w1 := wy_nonneg (x := x) (y := x') s0
  have e : wy x' x s = (0 - wy x x' s) % s := by
    have := wy_diff (x := x) (y := x') (f := x) s0
    rw [wy_self] at this
    exact this
  rw [e] at b
  by_cases z : wy x x' s = 0
  · exact (wy_zero x0 x1 y0 y1 z).symm
  · have e2 : (0 - wy x x' s) % s = 0 - wy x x' s + s := by
      rw [← Int.add_emod_right, Int.emod_eq_of_lt (by omega) (by omega)]
    rw [e2] at b
    omega
theorem eld_some {s x : Int} {xs : List Int} (s0 : 0 < s) (s2 : s % 2 = 0) (r : InR s xs) (h : First s x xs) : eldI s xs = some x := by
  cases xs with
  | nil => exact nomatch h.1
  | cons z zs =>
    have hm := eldF_min (x := x) s0 s2 (z :: zs) z (h.2 z List.mem_cons_self) h.2
    have m0 : wy x (eldF s z (z :: zs)) s ≤ 0 := by
      have := hm.2 x h.1
      rw [wy_self] at this
      exact this
    have mem : eldF s z (z :: zs) ∈ z :: zs := by
      rcases eldF_mem s (z :: zs) z with e | e
      · rw [e]
        exact List.mem_cons_self
      · exact e
    have w0 := wy_nonneg (x := x) (y := eldF s z (z :: zs)) s0
    obtain ⟨x0, x1⟩ := r x h.1
    obtain ⟨y0, y1⟩ := r _ mem
    have e := wy_zero x0 x1 y0 y1 (by omega)
    show (if farI (eldF s z (z :: zs)) s (z :: zs) < s / 2 then some (eldF s z (z :: zs)) else none) = some x
    rw [e, if_pos (far_lt (by omega) fun y hy => by have := h.2 y hy; omega)]
theorem eld_none {s : Int} {xs : List Int} (s0 : 0 < s) (s2 : s % 2 = 0) (h : ∀ x, ¬ First s x xs) : eldI s xs = none := by
  cases xs with
  | nil => rfl
  | cons z zs =>
    have mem : eldF s z (z :: zs) ∈ z :: zs := by
      rcases eldF_mem s (z :: zs) z with e | e
      · rw [e]
        exact List.mem_cons_self
      · exact e
    show (if farI (eldF s z (z :: zs)) s (z :: zs) < s / 2 then some (eldF s z (z :: zs)) else none) = none
    rw [if_neg fun c => h _ ⟨mem, fun y hy => by have := far_le (x := eldF s z (z :: zs)) (s := s) hy; omega⟩]
def optV : Option Int → V
  | none => .non
  | some x => .int x
def sprI (s : Int) (xs : List Int) : Option Int := (eldI s xs).map fun x => farI x s xs
theorem same_mut {H H' : Hp} {p : Addr} {o : HO} (e : Same H H') (h : H p = none) : Same H (upd H' p o) := fun b x q => by
  rw [upd_ne (ne_of_none q h)]
  exact e b x q
theorem SameT {K : PySem.W.Frag} {H H' : Hp} {a : Addr} {xs : List V} (e : Same H H') (h : SqT K H a xs) : SqT K H' a xs := by
  rcases h with (h | ⟨o, h⟩) | h
  · exact .inl (.inl (e _ _ h))
  · exact .inl (.inr ⟨o, e _ _ h⟩)
  · exact .inr h
theorem eldF_take {s x : Int} {xs : List Int} {i : Nat} (h : i < xs.length) : eldF s x (xs.take (i + 1)) = if bef s xs[i] (eldF s x (xs.take i)) = true then xs[i] else eldF s x (xs.take i) := by
  unfold eldF
  rw [List.take_succ, List.getElem?_eq_getElem h, List.foldl_append]
  rfl
theorem map_at {xs : List Int} {i : Nat} {v : V} (h : (xs.map V.int)[i]? = some v) : ∃ hi : i < xs.length, v = .int xs[i] := by
  have hi : i < xs.length := by
    have z := (List.getElem?_eq_some_iff.mp h).1
    rw [List.length_map] at z
    exact z
  refine ⟨hi, ?_⟩
  rw [List.getElem?_map, List.getElem?_eq_getElem hi] at h
  exact (Option.some.inj h).symm
def spFar (K : PySem.W.Frag) : Sp := fun vs H Q _ => ∃ (x s : Int) (t : Addr) (xs : List Int), vs = [.int x, .ref t, .int s] ∧ SqT K H t (xs.map V.int) ∧ 0 < xs.length ∧ xs.length ≤ 1000 ∧ 0 < s ∧ ∀ H', Same H H' → Q (.int (farI x s xs)) H'
def spEldest (K : PySem.W.Frag) : Sp := fun vs H Q _ => ∃ (s : Int) (t : Addr) (xs : List Int), vs = [.ref t, .int s] ∧ SqT K H t (xs.map V.int) ∧ 0 < xs.length ∧ xs.length ≤ 1000 ∧ 0 < s ∧ s ≤ 1048576 ∧ ∀ H', Same H H' → Q (optV (eldI s xs)) H'
def spSpread (K : PySem.W.Frag) : Sp := fun vs H Q _ => ∃ (s : Int) (t : Addr) (xs : List Int), vs = [.ref t, .int s] ∧ SqT K H t (xs.map V.int) ∧ 0 < xs.length ∧ xs.length ≤ 1000 ∧ 0 < s ∧ s ≤ 1048576 ∧ ∀ H', Same H H' → Q (optV (sprI s xs)) H'
section
variable {P : Program} {w : World} {K : PySem.W.Frag} {mg : Str → Option Value} {base : Heap}
theorem ok_farthest (T : Tx K mg) (k_steps : CalK P w K mg base 1 "steps" 2 ["ring"] spSteps) : BodyOk P w K mg base "farthest" s_farthest N_farthest 1 (spFar K) := by
  intro f cdv A outer s H vs Q E hr h
  obtain ⟨x, s, t, xs, rfl, hT, l0, l1, s0, q⟩ := h
  refine ⟨_, (pss_one (ps_ret (pe_callB (cr_max rfl) (by rfl) T.max (by decide +kernel) (pa_cons (pe_lc (own := [("other", 3)]) (g := gName 3) (tt := tYes) rfl sc_farthest.nd (pi_tup (pv 1)) (blkOk_by (own := [("other", 3)]) (N := N_farthest) (sc := defScope s_farthest) (by decide +kernel)) (fun _ _ _ _ _ => pg_name (i := 3) sc_farthest.nd rfl (Or.inl rfl)) (fun _ _ _ _ _ => pts_nil) (fun _ _ _ _ _ => (pe_ck k_steps hr (by decide) (by rfl) (pa_cons (pv 0) (pa_cons (pv 3) pa_nil)) (pk_cons (pv 2) pk_nil)))) pa_nil)))), ?_⟩
  refine ⟨_, rfl, t, rfl, ⟨_, hT⟩, fun D nD => ?_⟩
  refine lc_tup (K := K) (a := t) (xs := xs.map V.int) (fun j H' => Same H H' ∧ H' D = some (.lst (((xs.take j).map fun y => wy x y s).map V.int))) ?_ (fun j H' _ hP => ?_) (fun j v H' hv hP => ?_) (fun H' hP => ?_)
  · exact ⟨same_new nD, upd_same⟩
  · exact SameT hP.1 hT
  · obtain ⟨hj, rfl⟩ := map_at hv
    refine ⟨rfl, ?_⟩
    refine ⟨_, rfl, _, rfl, _, rfl, rfl, rfl, x, xs[j], s, rfl, s0, ?_⟩
    refine ⟨_, hP.2, ?_, same_mut hP.1 nD, ?_⟩
    · rw [List.length_map, List.length_map, List.length_take]
      exact small1000 (by omega)
    · rw [upd_same, List.take_succ, List.getElem?_eq_getElem hj, List.map_append, List.map_append]
      rfl
  · obtain ⟨sm, eD⟩ := hP
    rw [List.length_map, List.take_length] at eD
    refine ⟨D, _, rfl, SqL.of eD, ?_, fun m hm hle => ?_⟩
    · rw [List.length_map]
      exact l0
    · rw [far_is s0 hm hle]
      exact q _ sm
theorem ok_eldest (T : Tx K mg) (k_before : CalK P w K mg base 2 "before" 2 ["ring"] spBefore) (c_farthest : C8.Cal P w K mg base 2 "farthest" (spFar K) []) : BodyOk P w K mg base "eldest" s_eldest N_eldest 2 (spEldest K) := by
  intro f cdv A outer s H vs Q E hr h
  obtain ⟨s, t, xs, rfl, hT, l0, l1, s0, s1, q⟩ := h
  obtain ⟨x, zs, rfl⟩ : ∃ x zs, xs = x :: zs := by
    cases xs with
    | nil => exact absurd l0 (by decide)
    | cons x zs => exact ⟨x, zs, rfl⟩
  refine ⟨_, (pss_cons (ps_set (i := 2) sc_eldest.nd rfl (Or.inl rfl) (pe_ix ix_tup (pv 0) pe_int (fun _ _ => rfl)))
      (pss_cons (ps_for PassesOwn.never rfl (pi_tup (pv 0)) (pg_name (i := 3) sc_eldest.nd rfl (Or.inl rfl)) (pss_one (ps_if (pt_val (pe_ck k_before hr (by decide) (by rfl) (pa_cons (pv 3) (pa_cons (pv 2) pa_nil)) (pk_cons (pv 1) pk_nil))) (pss_one (ps_set (i := 2) sc_eldest.nd rfl (Or.inl rfl) (pv 3))) pss_nil)))
      (pss_one (ps_ret (pe_ifExp (pt_cmpR op_lt (C8.pe_c c_farthest hr (by decide) (by rfl) (pa_cons (pv 2) (pa_cons (pv 0) (pa_cons (pv 1) pa_nil)))) (pe_op op_fdivW (pv 1) pe_int) (nomark _)) (pv 2) pe_non))))), ?_⟩
  refine st_seq ?_
  refine ⟨_, rfl, t, _, _, .int x, rfl, rfl, hT, atI_nat (j := 0) rfl, ?_⟩
  refine ⟨_, rfl, t, rfl, ⟨_, hT⟩, ?_⟩
  refine for_tup (xs := (x :: zs).map V.int) (fun i σ H' => H' = H ∧ ∃ y, σ = [some (.ref t), some (.int s), some (.int (eldF s x ((x :: zs).take i))), y]) ⟨rfl, none, rfl⟩ (fun i σ H' _ hP => ?_) (fun i v σ H' hv hP => ?_) (fun σ H' hP => ?_)
  · obtain ⟨rfl, _⟩ := hP
    exact hT
  · obtain ⟨rfl, y, rfl⟩ := hP
    obtain ⟨hi, rfl⟩ := map_at hv
    refine ⟨_, rfl, _, rfl, _, rfl, rfl, rfl, _, _, s, rfl, s0, s1, _, rfl, ite2 (fun z => ?_) (fun z => ?_)⟩
    · refine ⟨_, rfl, rfl, some (.int (x :: zs)[i]), ?_⟩
      rw [eldF_take hi, if_pos (show bef s (x :: zs)[i] (eldF s x ((x :: zs).take i)) = true from z)]
      rfl
    · refine ⟨rfl, some (.int (x :: zs)[i]), ?_⟩
      rw [eldF_take hi, if_neg (show ¬ bef s (x :: zs)[i] (eldF s x ((x :: zs).take i)) = true from z)]
      rfl
  · obtain ⟨rfl, y, rfl⟩ := hP
    rw [List.length_map, List.take_length]
    refine ⟨_, rfl, _, rfl, _, rfl, _, s, t, x :: zs, rfl, hT, l0, l1, s0, fun H1 sm => ?_⟩
    refine ⟨_, rfl, _, _, rfl, rfl, cdw (by decide) (by decide), _, _, rfl, rfl, _, rfl, ite2 (fun z => ?_) (fun z => ?_)⟩
    · have e : eldI s (x :: zs) = some (eldF s x (x :: zs)) := if_pos (of_decide_eq_true z)
      rw [e] at q
      exact ⟨_, rfl, q _ sm⟩
    · have e : eldI s (x :: zs) = none := if_neg fun y => z (decide_eq_true y)
      rw [e] at q
      exact q _ sm
theorem ok_spread (T : Tx K mg) (k_eldest : CalK P w K mg base 3 "eldest" 1 ["ring"] (spEldest K)) (c_farthest : C8.Cal P w K mg base 2 "farthest" (spFar K) []) : BodyOk P w K mg base "spread" s_spread N_spread 3 (spSpread K) := by
  intro f cdv A outer s H vs Q E hr h
  obtain ⟨s, t, xs, rfl, hT, l0, l1, s0, s1, q⟩ := h
  refine ⟨_, (pss_cons (ps_set (i := 2) sc_spread.nd rfl (Or.inl rfl) (pe_ck k_eldest hr (by decide) (by rfl) (pa_cons (pv 0) pa_nil) (pk_cons (pv 1) pk_nil)))
      (pss_one (ps_ret (pe_ifExp (pt_cmpR op_isN (pv 2) pe_non (nomark _)) pe_non (C8.pe_c c_farthest hr (by decide) (by rfl) (pa_cons (pv 2) (pa_cons (pv 0) (pa_cons (pv 1) pa_nil)))))))), ?_⟩
  refine st_seq ?_
  refine ⟨_, rfl, _, rfl, rfl, rfl, s, t, xs, rfl, hT, l0, l1, s0, s1, fun H1 sm => ?_⟩
  cases e : eldI s xs with
  | none =>
    have e2 : sprI s xs = none := by unfold sprI; rw [e] <;> rfl
    rw [e2] at q
    refine ⟨_, rfl, rfl, _, rfl, ?_⟩
    exact q _ sm
  | some x =>
    have e2 : sprI s xs = some (farI x s xs) := by unfold sprI; rw [e] <;> rfl
    rw [e2] at q
    refine ⟨_, rfl, rfl, _, rfl, ?_⟩
    refine ⟨_, rfl, _, rfl, _, rfl, x, s, t, xs, rfl, SameT sm hT, l0, l1, s0, fun H2 sm2 => ?_⟩
    exact q _ (sm.trans sm2)
end
/-! ### endless numbers, near one another -/
def Nar (s : Int) (xs : List Int) : Prop := ∀ x ∈ xs, ∀ y ∈ xs, x - y < s / 2
def lef (s : Int) (xs : List Int) : List Int := xs.map fun x => x % s
theorem lef_in {s : Int} {xs : List Int} (s0 : 0 < s) : InR s (lef s xs) := fun y hy => by
  obtain ⟨x, _, rfl⟩ := List.mem_map.mp hy
  exact ⟨Int.emod_nonneg _ (by omega), Int.emod_lt_of_pos _ s0⟩
theorem wy_left {a b s : Int} : wy (a % s) (b % s) s = (b - a) % s := by
  unfold wy
  rw [← Int.sub_emod]
theorem mod_near {d s : Int} (s0 : 0 < s) (h0 : 0 ≤ d) (h1 : d < s / 2) : d % s = d := Int.emod_eq_of_lt h0 (by omega)
theorem first_min {s m : Int} {xs : List Int} (s0 : 0 < s) (s2 : s % 2 = 0) (n : Nar s xs) (hm : m ∈ xs) (hle : ∀ y ∈ xs, m ≤ y) : First s (m % s) (lef s xs) := by
  refine ⟨List.mem_map.mpr ⟨m, hm, rfl⟩, fun y hy => ?_⟩
  obtain ⟨x, hx, rfl⟩ := List.mem_map.mp hy
  have h1 := n x hx m hm
  have h2 := hle x hx
  rw [wy_left, mod_near s0 (by omega) h1]
  omega
theorem eld_left {s m : Int} {xs : List Int} (s0 : 0 < s) (s2 : s % 2 = 0) (n : Nar s xs) (hm : m ∈ xs) (hle : ∀ y ∈ xs, m ≤ y) : eldI s (lef s xs) = some (m % s) := eld_some s0 s2 (lef_in s0) (first_min s0 s2 n hm hle)
theorem spr_left {s m g : Int} {xs : List Int} (s0 : 0 < s) (s2 : s % 2 = 0) (n : Nar s xs) (hm : m ∈ xs) (hle : ∀ y ∈ xs, m ≤ y) (hg : g ∈ xs) (hge : ∀ y ∈ xs, y ≤ g) : sprI s (lef s xs) = some (g - m) := by
  unfold sprI
  rw [eld_left s0 s2 n hm hle]
  show some (farI (m % s) s (lef s xs)) = _
  congr 1
  refine (far_is s0 ?_ fun j hj => ?_).symm
  · refine List.mem_map.mpr ⟨g % s, List.mem_map.mpr ⟨g, hg, rfl⟩, ?_⟩
    have h1 := hle g hg
    rw [wy_left, mod_near s0 (by omega) (n g hg m hm)]
  · obtain ⟨y, hy, rfl⟩ := List.mem_map.mp hj
    obtain ⟨x, hx, rfl⟩ := List.mem_map.mp hy
    have h1 := hle x hx
    have h2 := hge x hx
    rw [wy_left, mod_near s0 (by omega) (n x hx m hm)]
    omega
theorem eld_wider {s m : Int} {xs : List Int} (s0 : 8 ≤ s) (s2 : s % 2 = 0) (n : Nar s xs) (hm : m ∈ xs) (hle : ∀ y ∈ xs, m ≤ y) : eldI s (lef s (xs ++ [m + s / 2])) = none := by
  refine eld_none (by omega) s2 fun z hz => ?_
  obtain ⟨c, hc, rfl⟩ := List.mem_map.mp hz.1
  have hm1 : m % s ∈ lef s (xs ++ [m + s / 2]) := List.mem_map.mpr ⟨m, List.mem_append_left _ hm, rfl⟩
  have hm2 : (m + s / 2) % s ∈ lef s (xs ++ [m + s / 2]) := List.mem_map.mpr ⟨m + s / 2, List.mem_append_right _ List.mem_cons_self, rfl⟩
  have a := hz.2 _ hm1
  have b := hz.2 _ hm2
  rw [wy_left] at a b
  have r : 0 ≤ c - m ∧ c - m ≤ s / 2 := by
    rcases List.mem_append.mp hc with e | e
    · have h1 := hle c e
      have h2 := n c e m hm
      omega
    · rw [List.mem_singleton.mp e]
      omega
  by_cases z : c = m
  · rw [z, show m + s / 2 - m = s / 2 by omega, Int.emod_eq_of_lt (by omega) (by omega)] at b
    omega
  · have e : (m - c) % s = m - c + s := by
      rw [← Int.add_emod_right, Int.emod_eq_of_lt (by omega) (by omega)]
    rw [e] at a
    omega
theorem bef_left {a b s : Int} (s0 : 8 ≤ s) (s2 : s % 2 = 0) (h1 : a - b < s / 2) (h2 : b - a < s / 2) : (decide (0 < (b % s - a % s) % s) && decide ((b % s - a % s) % s < s / 2)) = decide (a < b) := by
  have e0 : (b % s - a % s) % s = (b - a) % s := by rw [← Int.sub_emod]
  rw [e0]
  by_cases c : a < b
  · rw [mod_near (by omega) (by omega) h2, decide_eq_true c, decide_eq_true (by omega), decide_eq_true h2]
    rfl
  · rw [decide_eq_false c]
    by_cases z : a = b
    · rw [z, Int.sub_self, Int.zero_emod]
      rfl
    · have e : (b - a) % s = b - a + s := by
        rw [← Int.add_emod_right, Int.emod_eq_of_lt (by omega) (by omega)]
      rw [e, decide_eq_false (p := b - a + s < s / 2) (by omega), Bool.and_false]
theorem nar_add {s c : Int} {xs : List Int} (n : Nar s xs) : Nar s (xs.map fun x => x + c) := fun x hx y hy => by
  obtain ⟨a, ha, rfl⟩ := List.mem_map.mp hx
  obtain ⟨b, hb, rfl⟩ := List.mem_map.mp hy
  have := n a ha b hb
  omega
def spWindow : Sp := fun vs H Q _ => ∃ (h : Addr) (s : Int) (m n : Nat), vs = [.ref h, .int s, .int m] ∧ HS h n H ∧ m ≤ 50 ∧ n + 6 + 2 * m < lim ∧ 8 ≤ s ∧ s ≤ 1048576 ∧ s % 2 = 0 ∧
  ∀ (p : Addr) (xs : List Int) (H' : Hp), H p = none → H' p = some (.lst (xs.map V.int)) → xs.length = m → Nar s xs → HS h (n + 6 + 2 * m) H' → Fr h H H' → Q (.ref p) H'
def spLeft : Sp := fun vs H Q _ => ∃ (l : Addr) (s : Int) (xs : List Int), vs = [.ref l, .int s] ∧ H l = some (.lst (xs.map V.int)) ∧ xs.length ≤ 1000 ∧ 0 < s ∧
  ∀ (p : Addr) (H' : Hp), H p = none → Same H H' → H' p = some (.lst ((lef s xs).map V.int)) → Q (.ref p) H'
def spPairs : Sp := fun vs H Q _ => ∃ (l : Addr) (s : Int) (xs : List Int), vs = [.ref l, .int s] ∧ H l = some (.lst (xs.map V.int)) ∧ 0 < xs.length ∧ xs.length ≤ 1000 ∧ Nar s xs ∧ 8 ≤ s ∧ s ≤ 1048576 ∧ s % 2 = 0 ∧ ∀ H', Same H H' → Q (.bl true) H'
def spRight : Sp := fun vs H Q _ => ∃ (l : Addr) (s c : Int) (xs : List Int), vs = [.ref l, .int s, .int c] ∧ H l = some (.lst (xs.map V.int)) ∧ 0 < xs.length ∧ xs.length ≤ 100 ∧ Nar s xs ∧ 8 ≤ s ∧ s ≤ 1048576 ∧ s % 2 = 0 ∧ ∀ H', Same H H' → Q (.bl true) H'
theorem dec_int (a : Int) : decide (V.int a = V.int a) = true := decide_eq_true rfl
theorem atI_map {xs : List Int} {i : Int} (h0 : 0 ≤ i) (h1 : i < xs.length) : ∃ (x : Int) (hi : i.toNat < xs.length), atI (xs.map V.int) i = some (.int x) ∧ x ∈ xs ∧ x = xs[i.toNat] := by
  have h2 : i.toNat < xs.length := by omega
  refine ⟨xs[i.toNat], h2, ?_, List.getElem_mem h2, rfl⟩
  have e := atI_nat (xs := xs.map V.int) (j := i.toNat) (v := .int xs[i.toNat]) (by rw [List.getElem?_map, List.getElem?_eq_getElem h2]; rfl)
  rw [Int.toNat_of_nonneg h0] at e
  exact e
theorem atI_lef {s : Int} {xs : List Int} {i : Int} (h0 : 0 ≤ i) (h1 : i.toNat < xs.length) : atI ((lef s xs).map V.int) i = some (.int (xs[i.toNat] % s)) := by
  have e := atI_nat (xs := (lef s xs).map V.int) (j := i.toNat) (v := .int (xs[i.toNat] % s)) (by
    rw [List.getElem?_map]
    unfold lef
    rw [List.getElem?_map, List.getElem?_eq_getElem h1]
    rfl)
  rw [Int.toNat_of_nonneg h0] at e
  exact e
section
variable {P : Program} {w : World} {K : PySem.W.Frag} {mg : Str → Option Value} {base : Heap}
theorem ok_left : BodyOk P w K mg base "_law_left" s_l_left N_l_left 0 spLeft := by
  intro f cdv A outer s H vs Q E hr h
  obtain ⟨l, s, xs, rfl, el, lx, s0, q⟩ := h
  refine ⟨_, (pss_one (ps_ret (pe_lc (own := [("_law_one", 2)]) (g := gName 2) (tt := tYes) rfl sc_l_left.nd (pi_list (pv 0)) (blkOk_by (own := [("_law_one", 2)]) (N := N_l_left) (sc := defScope s_l_left) (by decide +kernel)) (fun _ _ _ _ _ => pg_name (i := 2) sc_l_left.nd rfl (Or.inl rfl)) (fun _ _ _ _ _ => pts_nil) (fun _ _ _ _ _ => (pe_op op_mod (pv 2) (pv 1)))))), ?_⟩
  refine ⟨_, rfl, l, rfl, ⟨_, SqL.of el⟩, fun D nD => ?_⟩
  refine lc_list (K := K) (a := l) (xs := xs.map V.int) (fun j H' => Same H H' ∧ H' D = some (.lst ((lef s (xs.take j)).map V.int))) ?_ (fun j H' _ hP => ?_) (fun j v H' hv hP => ?_) (fun H' hP => ?_)
  · exact ⟨same_new nD, upd_same⟩
  · exact SqL.of (hP.1 _ _ el)
  · obtain ⟨hj, rfl⟩ := map_at hv
    refine ⟨rfl, ?_⟩
    refine ⟨_, rfl, _, rfl, _, _, rfl, rfl, s0, ?_⟩
    refine ⟨_, hP.2, ?_, same_mut hP.1 nD, ?_⟩
    · unfold lef
      rw [List.length_map, List.length_map, List.length_take]
      exact small1000 (by omega)
    · unfold lef
      rw [upd_same, List.take_succ, List.getElem?_eq_getElem hj, List.map_append, List.map_append]
      rfl
  · obtain ⟨sm, eD⟩ := hP
    rw [List.length_map, List.take_length] at eD
    exact q D H' nD sm eD
theorem ok_window (T : Tx K mg) (c_l_take : C8.Cal P w K mg base 1 "_law_take" spTake []) (c_l_of : C8.Cal P w K mg base 2 "_law_of" (spOf K) []) : BodyOk P w K mg base "_law_window" s_l_window N_l_window 2 spWindow := by
  intro f cdv A outer s H vs Q E hr h
  obtain ⟨h, s, m, n, rfl, hs, hm, hn, s0, s1, s2, q⟩ := h
  have hn2 : n + 6 + 2 * m < 100000 := hn
  have p18' : (10 : Int) ^ 18 = 1000000000000000000 := by decide
  have p9 : (10 : Int) ^ (9 : Int).toNat = 1000000000 := by decide
  have p64 : (2 : Int) ^ 64 = 18446744073709551616 := by decide
  refine ⟨_, (pss_cons (ps_set (i := 3) sc_l_window.nd rfl (Or.inr rfl) (C8.pe_c c_l_of hr (by decide) (by rfl) (pa_cons (pv 0) (pa_cons (pe_lst (pa_cons pe_int (pa_cons (pe_op op_fdivW (pv 1) pe_int) (pa_cons (pe_op op_fdivW (pv 1) pe_int) (pa_cons (pe_op op_add pe_int (C8.pe_c c_l_take hr (by decide) (by rfl) (pa_cons (pv 0) (pa_cons (pe_op op_fdivW (pv 1) pe_int) pa_nil)))) pa_nil))))) pa_nil))))
      (pss_cons (ps_set (i := 4) sc_l_window.nd rfl (Or.inr rfl) (C8.pe_c c_l_of hr (by decide) (by rfl) (pa_cons (pv 0) (pa_cons (pe_lst (pa_cons (C8.pe_c c_l_take hr (by decide) (by rfl) (pa_cons (pv 0) (pa_cons (pe_op op_mul pe_int (pv 1)) pa_nil))) (pa_cons (pe_op op_mul (pv 1) (C8.pe_c c_l_take hr (by decide) (by rfl) (pa_cons (pv 0) (pa_cons (pe_op op_pow pe_int pe_int) pa_nil)))) (pa_cons (C8.pe_c c_l_take hr (by decide) (by rfl) (pa_cons (pv 0) (pa_cons (pe_op op_pow pe_int pe_int) pa_nil))) pa_nil)))) pa_nil))))
      (pss_cons (ps_setLc (i := 5) (own := [("_law_k", 6)]) (g := gName 6) (tt := tYes) rfl sc_l_window.nd rfl rfl (sw_true rfl rfl rfl (by decide +kernel)) (pi_range1 (by rfl) T.range (pa_cons (pv 2) pa_nil)) (blkOk_by (own := [("_law_k", 6)]) (N := N_l_window) (sc := defScope s_l_window) (by decide +kernel)) (fun _ _ _ _ _ => pg_name (i := 6) sc_l_window.nd rfl (Or.inl rfl)) (fun _ _ _ _ _ => pts_nil) (fun _ _ _ _ _ => (pe_op op_add (pv 4) (C8.pe_c c_l_of hr (by decide) (by rfl) (pa_cons (pv 0) (pa_cons (pe_lst (pa_cons pe_int (pa_cons (pe_op op_sub (pv 3) pe_int) (pa_cons (C8.pe_c c_l_take hr (by decide) (by rfl) (pa_cons (pv 0) (pa_cons (pv 3) pa_nil))) pa_nil)))) pa_nil))))))
      (pss_one (ps_ret (pv 5)))))), ?_⟩
  -- wide
  refine st_seq ?_
  refine ⟨_, rfl, _, rfl, _, _, rfl, rfl, cdw (by decide) (by decide), _, rfl, _, _, rfl, rfl, cdw (by decide) (by decide), _, rfl, _, rfl, _, _, rfl, rfl, cdw (by decide) (by decide), h, s / 2, n, rfl, hs, (show n < 100000 by omega), by omega, by omega, fun d H1 d0 d1 hs1 f1 => ?_⟩
  refine ⟨_, _, rfl, rfl, (show 4 ≤ sizeLine by decide), fun l1 nl1 => ?_⟩
  refine ⟨h, l1, [.int 1, .int (s / 2), .int (s / 2), .int (1 + d)], n + 1, rfl, hs1.new nl1, (show n + 1 < 100000 by omega), hs1.ne nl1, SqL.of upd_same, (show 0 < 4 by decide), (show 4 ≤ 1000 by decide), fun v H2 hv hs2 f2 => ?_⟩
  have hx : ∃ x : Int, v = .int x ∧ 0 < x ∧ x ≤ s / 2 := by
    simp only [List.mem_cons, List.not_mem_nil, or_false] at hv
    rcases hv with rfl | rfl | rfl | rfl <;> exact ⟨_, rfl, by omega, by omega⟩
  obtain ⟨wd, rfl, w0, w1⟩ := hx
  have fr2 : Fr h H H2 := f1.trans ((Fr.new nl1).trans f2)
  -- base
  refine st_seq ?_
  refine ⟨_, rfl, _, rfl, _, rfl, _, _, rfl, rfl, .inl (by decide), h, 3 * s, n + 1 + 1, rfl, hs2, (show n + 1 + 1 < 100000 by omega), by omega, by omega, fun d2 H3 d20 d21 hs3 f3 => ?_⟩
  refine ⟨_, rfl, _, rfl, _, _, rfl, rfl, pow_ok (by decide), h, _, n + 1 + 1 + 1, rfl, hs3, (show n + 1 + 1 + 1 < 100000 by omega), (by rw [p9]; decide), (by rw [p9]; decide), fun d3 H4 d30 d31 hs4 f4 => ?_⟩
  refine ⟨_, _, rfl, rfl, .inl ⟨by omega, by omega⟩, ?_⟩
  refine ⟨_, rfl, _, _, rfl, rfl, pow_ok (by decide), h, _, n + 1 + 1 + 1 + 1, rfl, hs4, (show n + 1 + 1 + 1 + 1 < 100000 by omega), (by rw [p17]; decide), (by rw [p17]; decide), fun d4 H5 d40 d41 hs5 f5 => ?_⟩
  refine ⟨(show 3 ≤ sizeLine by decide), fun l2 nl2 => ?_⟩
  refine ⟨h, l2, [.int d2, .int (s * d3), .int d4], n + 1 + 1 + 1 + 1 + 1, rfl, hs5.new nl2, (show n + 1 + 1 + 1 + 1 + 1 < 100000 by omega), hs5.ne nl2, SqL.of upd_same, (show 0 < 3 by decide), (show 3 ≤ 1000 by decide), fun v H6 hv hs6 f6 => ?_⟩
  have hx : ∃ x : Int, v = .int x := by
    simp only [List.mem_cons, List.not_mem_nil, or_false] at hv
    rcases hv with rfl | rfl | rfl <;> exact ⟨_, rfl⟩
  obtain ⟨b, rfl⟩ := hx
  have fr6 : Fr h H H6 := fr2.trans (f3.trans (f4.trans (f5.trans ((Fr.new nl2).trans f6))))
  -- some
  refine st_seq ?_
  refine ⟨_, rfl, (m : Int), rfl, by omega, by omega, fun D nD => ?_⟩
  have nDh : D ≠ h := hs6.ne nD
  have nDH : H D = none := by
    cases e : H D with
    | none => rfl
    | some o =>
      have z := fr6 _ _ nDh e
      rw [nD] at z
      cases z
  refine lc_range (lo := 0) (fun j H' => HS h (n + 6 + 2 * j) H' ∧ Fr h H H' ∧ ∃ xs : List Int, H' D = some (.lst (xs.map V.int)) ∧ xs.length = j ∧ ∀ x ∈ xs, b ≤ x ∧ x < b + wd) ?_ (fun j H7 hj hP => ?_) (fun H7 hP => ?_)
  · exact ⟨hs6.new nD, fr6.trans (Fr.new nD), [], upd_same, rfl, fun x hx => by cases hx⟩
  · obtain ⟨hs7, fr7, xs, eD, lx, rx⟩ := hP
    have hj2 : j < m := by
      rw [Int.toNat_natCast] at hj
      exact hj
    refine ⟨rfl, ?_⟩
    refine ⟨_, rfl, _, rfl, _, rfl, _, _, rfl, rfl, _, rfl, _, rfl, h, wd, n + 6 + 2 * j, rfl, hs7, (show n + 6 + 2 * j < 100000 by omega), by omega, by omega, fun d5 H8 d50 d51 hs8 f8 => ?_⟩
    refine ⟨(show 3 ≤ sizeLine by decide), fun l3 nl3 => ?_⟩
    refine ⟨h, l3, [.int 0, .int (wd - 1), .int d5], n + 6 + 2 * j + 1, rfl, hs8.new nl3, (show n + 6 + 2 * j + 1 < 100000 by omega), hs8.ne nl3, SqL.of upd_same, (show 0 < 3 by decide), (show 3 ≤ 1000 by decide), fun v H9 hv hs9 f9 => ?_⟩
    have hx : ∃ x : Int, v = .int x ∧ 0 ≤ x ∧ x < wd := by
      simp only [List.mem_cons, List.not_mem_nil, or_false] at hv
      rcases hv with rfl | rfl | rfl <;> exact ⟨_, rfl, by omega, by omega⟩
    obtain ⟨x, rfl, x0, x1⟩ := hx
    have f79 : Fr h H7 H9 := f8.trans ((Fr.new nl3).trans f9)
    refine ⟨_, _, rfl, rfl, _, f79 _ _ nDh eD, ?_, ?_, ?_, xs ++ [b + x], ?_, ?_, ?_⟩
    · rw [List.length_map]
      exact small1000 (by omega)
    · refine HS.mono ?_ (show n + 6 + 2 * j + 1 + 1 ≤ n + 6 + 2 * (j + 1) by omega)
      obtain ⟨g, bb, c, eh, r⟩ := hs9
      exact ⟨g, bb, c, (by rw [upd_ne nDh.symm]; exact eh), r⟩
    · exact Fr.mut (fr7.trans f79) nDH
    · rw [upd_same, List.map_append]
      rfl
    · rw [List.length_append, lx]
      rfl
    · intro y hy
      rcases List.mem_append.mp hy with e | e
      · exact rx y e
      · rw [List.mem_singleton.mp e]
        omega
  · obtain ⟨hs7, fr7, xs, eD, lx, rx⟩ := hP
    rw [Int.toNat_natCast] at hs7 lx
    refine ⟨_, rfl, q D xs H7 nDH eD lx (fun x hx y hy => ?_) hs7 fr7⟩
    have h1 := rx x hx
    have h2 := rx y hy
    omega
theorem ok_pairs (T : Tx K mg) (c_l_left : C8.Cal P w K mg base 1 "_law_left" spLeft []) (k_on : CalK P w K mg base 1 "on" 2 ["ring"] spOn) (k_steps : CalK P w K mg base 1 "steps" 2 ["ring"] spSteps) (k_before : CalK P w K mg base 2 "before" 2 ["ring"] spBefore) :
    BodyOk P w K mg base "_law_pairs_right" s_l_pairs_right N_l_pairs_right 2 spPairs := by
  intro f cdv A outer s H vs Q E hr h
  obtain ⟨l, s, xs, rfl, el, l0, l1, nr, s0, s1, s2, q⟩ := h
  have sp : 0 < s := by omega
  refine ⟨_, (pss_cons (ps_set (i := 2) sc_l_pairs_right.nd rfl (Or.inl rfl) (C8.pe_c c_l_left hr (by decide) (by rfl) (pa_cons (pv 0) (pa_cons (pv 1) pa_nil))))
      (pss_cons (ps_for PassesOwn.never rfl (pi_range1 (by rfl) T.range (pa_cons (pe_callB call_len_seq (by rfl) T.len (by decide +kernel) (pa_cons (pv 0) pa_nil)) pa_nil)) (pg_name (i := 3) sc_l_pairs_right.nd rfl (Or.inl rfl)) (pss_cons (ps_set (i := 4) sc_l_pairs_right.nd rfl (Or.inl rfl) (pe_op op_mod (pe_op op_add (pe_op op_mul (pv 3) pe_int) pe_int) (pe_callB call_len_seq (by rfl) T.len (by decide +kernel) (pa_cons (pv 0) pa_nil))))
      (pss_cons (ps_par (i := 5) (j := 6) (by rfl) sc_l_pairs_right.nd rfl rfl (by decide) rfl rfl (pa_cons (pe_callB (call_min2 rfl) (by rfl) T.min (by decide +kernel) (pa_cons (pe_ix ix_list (pv 0) (pv 3) (fun _ _ => rfl)) (pa_cons (pe_ix ix_list (pv 0) (pv 4) (fun _ _ => rfl)) pa_nil))) (pa_cons (pe_callB (call_max2 rfl) (by rfl) T.max (by decide +kernel) (pa_cons (pe_ix ix_list (pv 0) (pv 3) (fun _ _ => rfl)) (pa_cons (pe_ix ix_list (pv 0) (pv 4) (fun _ _ => rfl)) pa_nil))) pa_nil)) (by rfl))
      (pss_cons (ps_if (pt_cmpR op_ne (pe_ck k_before hr (by decide) (by rfl) (pa_cons (pe_ix ix_list (pv 2) (pv 3) (fun _ _ => rfl)) (pa_cons (pe_ix ix_list (pv 2) (pv 4) (fun _ _ => rfl)) pa_nil)) (pk_cons (pv 1) pk_nil)) (pe_cmpR op_lt (pe_ix ix_list (pv 0) (pv 3) (fun _ _ => rfl)) (pe_ix ix_list (pv 0) (pv 4) (fun _ _ => rfl)) (nomark _)) (nomark _)) (pss_one (ps_ret pe_bl)) pss_nil)
      (pss_cons (ps_if (pt_cmpR op_ne (pe_ck k_steps hr (by decide) (by rfl) (pa_cons (pe_op op_mod (pv 5) (pv 1)) (pa_cons (pe_op op_mod (pv 6) (pv 1)) pa_nil)) (pk_cons (pv 1) pk_nil)) (pe_op op_sub (pv 6) (pv 5)) (nomark _)) (pss_one (ps_ret pe_bl)) pss_nil)
      (pss_one (ps_if (pt_cmpR op_ne (pe_ck k_on hr (by decide) (by rfl) (pa_cons (pe_op op_mod (pv 5) (pv 1)) (pa_cons (pe_op op_sub (pv 6) (pv 5)) pa_nil)) (pk_cons (pv 1) pk_nil)) (pe_op op_mod (pv 6) (pv 1)) (nomark _)) (pss_one (ps_ret pe_bl)) pss_nil)))))))
      (pss_one (ps_ret pe_bl)))), ?_⟩
  refine st_seq ⟨_, rfl, _, rfl, l, s, xs, rfl, el, l1, sp, fun p H1 np sm ep => ?_⟩
  have el1 := sm _ _ el
  refine st_seq ?_
  refine ⟨_, rfl, l, _, rfl, .inl (SqL.of el1), _, rfl, ?_, ?_, ?_⟩
  · omega
  · rw [List.length_map]
    omega
  refine for_range (lo := 0) (fun i σ H' => (∃ y3 y4 y5 y6, σ = [some (.ref l), some (.int s), some (.ref p), y3, y4, y5, y6]) ∧ H' = H1) ⟨⟨_, _, _, _, rfl⟩, rfl⟩ (fun i σ H2 hi hP => ?_) (fun σ H2 hP => ?_)
  · obtain ⟨⟨y3, y4, y5, y6, rfl⟩, rfl⟩ := hP
    rw [List.length_map, Int.toNat_natCast] at hi
    obtain ⟨x, hx1, ex, mx, xe⟩ := atI_map (xs := xs) (i := 0 + (i : Int)) (by omega) (by omega)
    have j0 : 0 ≤ ((0 + (i : Int)) * 7 + 3) % ((xs.map V.int).length : Int) := Int.emod_nonneg _ (by rw [List.length_map]; omega)
    have j1 : ((0 + (i : Int)) * 7 + 3) % ((xs.map V.int).length : Int) < ((xs.map V.int).length : Int) := Int.emod_lt_of_pos _ (by rw [List.length_map]; omega)
    have j2 : ((0 + (i : Int)) * 7 + 3) % ((xs.map V.int).length : Int) < (xs.length : Int) := by
      have e : ((xs.map V.int).length : Int) = (xs.length : Int) := by rw [List.length_map]
      omega
    obtain ⟨y, hy1, ey, my, ye⟩ := atI_map (xs := xs) (i := ((0 + (i : Int)) * 7 + 3) % ((xs.map V.int).length : Int)) j0 j2
    have lx := atI_lef (s := s) (xs := xs) (i := 0 + (i : Int)) (by omega) hx1
    have ly := atI_lef (s := s) (xs := xs) (i := ((0 + (i : Int)) * 7 + 3) % ((xs.map V.int).length : Int)) j0 hy1
    rw [← xe] at lx
    rw [← ye] at ly
    have nxy := nr x mx y my
    have nyx := nr y my x mx
    -- j
    refine st_seq ?_
    refine ⟨_, rfl, _, _, rfl, rfl, .inr (by decide), _, _, rfl, rfl, _, rfl, l, _, rfl, .inl (SqL.of el1), _, _, rfl, rfl, (show 0 < ((xs.map V.int).length : Int) by rw [List.length_map]; omega), ?_⟩
    -- least, greatest
    refine st_seq ?_
    refine ⟨_, rfl, _, rfl, l, _, _, _, rfl, rfl, SqL.of el1, ex, _, rfl, _, rfl, l, _, _, _, rfl, rfl, SqL.of el1, ey, _, _, rfl, ?_⟩
    refine ⟨_, rfl, _, rfl, l, _, _, _, rfl, rfl, SqL.of el1, ex, _, rfl, _, rfl, l, _, _, _, rfl, rfl, SqL.of el1, ey, _, _, rfl, _, _, rfl, ?_⟩
    obtain ⟨lo, hlo⟩ : ∃ lo : Int, lo = if y < x then y else x := ⟨_, rfl⟩
    obtain ⟨hi', hhi⟩ : ∃ g : Int, g = if y > x then y else x := ⟨_, rfl⟩
    rw [← hlo, ← hhi]
    have d0 : 0 ≤ hi' - lo ∧ hi' - lo < s / 2 := by
      rw [hlo, hhi]
      split <;> split <;> omega
    -- before
    refine st_seq ?_
    refine ⟨_, rfl, _, rfl, p, _, _, _, rfl, rfl, SqL.of ep, lx, _, rfl, _, rfl, p, _, _, _, rfl, rfl, SqL.of ep, ly, _, rfl, rfl, rfl, _, _, s, rfl, sp, s1, ?_⟩
    refine ⟨_, rfl, _, rfl, l, _, _, _, rfl, rfl, SqL.of el1, ex, _, rfl, _, rfl, l, _, _, _, rfl, rfl, SqL.of el1, ey, _, _, rfl, rfl, ?_, _, rfl, ?_⟩
    · rfl
    rw [bef_left s0 s2 nxy nyx, decide_eq_true rfl]
    refine iteF ?_
    -- steps
    refine st_seq ?_
    refine ⟨_, rfl, _, rfl, _, _, rfl, rfl, sp, _, rfl, _, rfl, _, _, rfl, rfl, sp, _, rfl, rfl, rfl, _, _, s, rfl, sp, _, rfl, _, rfl, _, _, rfl, rfl, rfl, _, rfl, ?_⟩
    have e1 : (hi' % s - lo % s) % s = hi' - lo := by
      rw [← Int.sub_emod, mod_near sp d0.1 d0.2]
    rw [e1, dec_int]
    refine iteF ?_
    -- on
    refine ⟨_, rfl, _, rfl, _, _, rfl, rfl, sp, _, rfl, _, rfl, _, _, rfl, rfl, _, rfl, rfl, rfl, _, _, s, rfl, sp, _, rfl, _, rfl, _, _, rfl, rfl, sp, rfl, _, rfl, ?_⟩
    have e2 : (lo % s + (hi' - lo)) % s = hi' % s := by
      rw [Int.emod_add_emod, show lo + (hi' - lo) = hi' by omega]
    rw [e2, dec_int]
    exact iteF ⟨⟨_, _, _, _, rfl⟩, rfl⟩
  · obtain ⟨_, rfl⟩ := hP
    exact q _ sm
theorem ok_right (T : Tx K mg) (c_l_left : C8.Cal P w K mg base 1 "_law_left" spLeft []) (c_l_pairs_right : C8.Cal P w K mg base 3 "_law_pairs_right" spPairs []) (k_eldest : CalK P w K mg base 3 "eldest" 1 ["ring"] (spEldest K)) (k_spread : CalK P w K mg base 4 "spread" 1 ["ring"] (spSpread K)) :
    BodyOk P w K mg base "_law_right" s_l_right N_l_right 4 spRight := by
  intro f cdv A outer s H vs Q E hr h
  obtain ⟨l, s, c, xs, rfl, el, l0, l1, nr, s0, s1, s2, q⟩ := h
  have sp : 0 < s := by omega
  have p64 : (2 : Int) ^ 64 = 18446744073709551616 := by decide
  refine ⟨_, (pss_cons (ps_for PassesOwn.never rfl (pi_tup (pe_tup (pa_cons (pv 0) (pa_cons (pe_lc (own := [("_law_number", 6)]) (g := gName 6) (tt := tYes) rfl sc_l_right.nd (pi_list (pv 0)) (blkOk_by (own := [("_law_number", 6)]) (N := N_l_right) (sc := defScope s_l_right) (by decide +kernel)) (fun _ _ _ _ _ => pg_name (i := 6) sc_l_right.nd rfl (Or.inl rfl)) (fun _ _ _ _ _ => pts_nil) (fun _ _ _ _ _ => (pe_op op_add (pv 6) (pe_op op_mul (pv 2) (pv 1))))) pa_nil)))) (pg_name (i := 3) sc_l_right.nd rfl (Or.inl rfl)) (pss_cons (ps_set (i := 4) sc_l_right.nd rfl (Or.inl rfl) (pe_callTy call_tuple_of (by rfl) T.tuple (by decide +kernel) (pa_cons (C8.pe_c c_l_left hr (by decide) (by rfl) (pa_cons (pv 3) (pa_cons (pv 1) pa_nil))) pa_nil)))
      (pss_cons (ps_if (PW.pt (pw_or (pt_cmpR op_ne (pe_ck k_eldest hr (by decide) (by rfl) (pa_cons (pv 4) pa_nil) (pk_cons (pv 1) pk_nil)) (pe_op op_mod (pe_callB (cr_min rfl) (by rfl) T.min (by decide +kernel) (pa_cons (pv 3) pa_nil)) (pv 1)) (nomark _)) (pw_or1 (pt_cmpR op_ne (pe_ck k_spread hr (by decide) (by rfl) (pa_cons (pv 4) pa_nil) (pk_cons (pv 1) pk_nil)) (pe_op op_sub (pe_callB (cr_max rfl) (by rfl) T.max (by decide +kernel) (pa_cons (pv 3) pa_nil)) (pe_callB (cr_min rfl) (by rfl) T.min (by decide +kernel) (pa_cons (pv 3) pa_nil))) (nomark _))))) (pss_one (ps_ret pe_bl)) pss_nil)
      (pss_one (ps_if (pt_not (pt_val (C8.pe_c c_l_pairs_right hr (by decide) (by rfl) (pa_cons (pv 3) (pa_cons (pv 1) pa_nil))))) (pss_one (ps_ret pe_bl)) pss_nil)))))
      (pss_cons (ps_set (i := 5) sc_l_right.nd rfl (Or.inl rfl) (pe_callTy call_tuple_of (by rfl) T.tuple (by decide +kernel) (pa_cons (C8.pe_c c_l_left hr (by decide) (by rfl) (pa_cons (pe_op op_cat (pv 0) (pe_lst (pa_cons (pe_op op_add (pe_callB (cr_min rfl) (by rfl) T.min (by decide +kernel) (pa_cons (pv 0) pa_nil)) (pe_op op_fdivW (pv 1) pe_int)) pa_nil))) (pa_cons (pv 1) pa_nil))) pa_nil)))
      (pss_one (ps_ret (pe_and (pe_cmpR op_isN (pe_ck k_eldest hr (by decide) (by rfl) (pa_cons (pv 5) pa_nil) (pk_cons (pv 1) pk_nil)) pe_non (nomark _)) (pe_one (pe_cmpR op_isN (pe_ck k_spread hr (by decide) (by rfl) (pa_cons (pv 5) pa_nil) (pk_cons (pv 1) pk_nil)) pe_non (nomark _)))))))), ?_⟩
  refine st_seq ?_
  refine ⟨_, rfl, _, rfl, l, rfl, ⟨_, SqL.of el⟩, fun D nD => ?_⟩
  refine lc_list (K := K) (a := l) (xs := xs.map V.int) (fun j H' => Same H H' ∧ H' D = some (.lst (((xs.take j).map fun x => x + c * s).map V.int))) ?_ (fun j H' _ hP => ?_) (fun j v H' hv hP => ?_) (fun H1 hP => ?_)
  · exact ⟨same_new nD, upd_same⟩
  · exact SqL.of (hP.1 _ _ el)
  · obtain ⟨hj, rfl⟩ := map_at hv
    refine ⟨rfl, ?_⟩
    refine ⟨_, rfl, _, rfl, _, rfl, _, _, rfl, rfl, .inr ⟨by omega, by omega⟩, _, _, rfl, rfl, ?_⟩
    refine ⟨_, hP.2, ?_, same_mut hP.1 nD, ?_⟩
    · rw [List.length_map, List.length_map, List.length_take]
      exact small1000 (by omega)
    · rw [upd_same, List.take_succ, List.getElem?_eq_getElem hj, List.map_append, List.map_append]
      rfl
  · obtain ⟨sm1, eD⟩ := hP
    rw [List.length_map, List.take_length] at eD
    have el1 := sm1 _ _ el
    refine ⟨(show 2 ≤ sizeLine by decide), fun t nt => ?_⟩
    have sm2 := same_new (o := .tup [.ref l, .ref D]) nt
    have et : (upd H1 t (.tup [.ref l, .ref D])) t = some (.tup [.ref l, .ref D]) := upd_same
    have el2 := sm2 _ _ el1
    have eD2 := sm2 _ _ eD
    have smA : Same H (upd H1 t (.tup [.ref l, .ref D])) := sm1.trans sm2
    generalize upd H1 t (.tup [.ref l, .ref D]) = G at *
    refine ⟨t, rfl, ⟨_, SqT.of et⟩, ?_⟩
    refine for_tup (xs := [.ref l, .ref D]) (fun i σ H' => (∃ y3 y4 y5 y6, σ = [some (.ref l), some (.int s), some (.int c), y3, y4, y5, y6]) ∧ Same G H') ⟨⟨_, _, _, _, rfl⟩, Same.refl _⟩ (fun i σ Hx _ hP => ?_) (fun i v σ Hx hv hP => ?_) (fun σ Hx hP => ?_)
    · exact SqT.of (hP.2 _ _ et)
    · obtain ⟨⟨y3, y4, y5, y6, rfl⟩, smx⟩ := hP
      have hv2 : ∃ (b : Addr) (zs : List Int), v = .ref b ∧ G b = some (.lst (zs.map V.int)) ∧ 0 < zs.length ∧ zs.length ≤ 1000 ∧ Nar s zs := by
        match i, hv with
        | 0, hv => exact ⟨l, xs, (Option.some.inj hv).symm, el2, l0, by omega, nr⟩
        | 1, hv => exact ⟨D, xs.map fun x => x + c * s, (Option.some.inj hv).symm, eD2, by rw [List.length_map]; exact l0, by rw [List.length_map]; omega, nar_add nr⟩
        | n + 2, hv => simp at hv
      obtain ⟨b, zs, rfl, eb, z0, z1, nz⟩ := hv2
      have ebx := smx _ _ eb
      have lz : (lef s zs).length = zs.length := by unfold lef; rw [List.length_map]
      refine st_seq ?_
      refine ⟨_, rfl, _, rfl, b, s, zs, rfl, ebx, z1, sp, fun p H3 np sm3 ep => ?_⟩
      refine ⟨p, _, rfl, .inl ⟨SqL.of ep, fun u nu => ?_⟩⟩
      have sm4 := sm3.trans (same_new (o := .tup ((lef s zs).map V.int)) nu)
      have eu : (upd H3 u (.tup ((lef s zs).map V.int))) u = some (.tup ((lef s zs).map V.int)) := upd_same
      generalize upd H3 u (.tup ((lef s zs).map V.int)) = H4 at *
      refine st_seq ?_
      refine ⟨_, rfl, _, rfl, rfl, rfl, s, u, lef s zs, rfl, SqT.of eu, by omega, by omega, sp, s1, fun Ha sma => ?_⟩
      refine ⟨_, rfl, b, zs, rfl, SqL.of (sma _ _ (sm4 _ _ ebx)), z0, fun m hm hle => ?_⟩
      refine ⟨_, rfl, _, _, rfl, rfl, sp, ?_⟩
      rw [eld_left sp s2 nz hm hle]
      refine ⟨rfl, _, rfl, ?_⟩
      rw [show decide (optV (some (m % s)) = V.int (m % s)) = true from decide_eq_true rfl]
      refine iteF ?_
      refine ⟨_, rfl, _, rfl, rfl, rfl, s, u, lef s zs, rfl, SqT.of (sma _ _ eu), by omega, by omega, sp, s1, fun Hb smb => ?_⟩
      refine ⟨_, rfl, b, zs, rfl, SqL.of (smb _ _ (sma _ _ (sm4 _ _ ebx))), z0, fun g hg hge => ?_⟩
      refine ⟨_, rfl, b, zs, rfl, SqL.of (smb _ _ (sma _ _ (sm4 _ _ ebx))), z0, fun m' hm' hle' => ?_⟩
      refine ⟨_, _, rfl, rfl, ?_⟩
      rw [spr_left sp s2 nz hm' hle' hg hge]
      refine ⟨rfl, _, rfl, ?_⟩
      rw [show decide (optV (some (g - m')) = V.int (g - m')) = true from decide_eq_true rfl]
      refine iteF ?_
      refine ⟨_, rfl, _, rfl, b, s, zs, rfl, smb _ _ (sma _ _ (sm4 _ _ ebx)), z0, z1, nz, s0, s1, s2, fun Hc smc => ?_⟩
      exact ⟨_, rfl, iteF ⟨⟨_, _, _, _, rfl⟩, smx.trans (sm4.trans (sma.trans (smb.trans smc)))⟩⟩
    · obtain ⟨⟨y3, y4, y5, y6, rfl⟩, smx⟩ := hP
      have elx := smx _ _ el2
      refine st_seq ?_
      refine ⟨_, rfl, _, rfl, l, xs, rfl, SqL.of elx, l0, fun m hm hle => ?_⟩
      refine ⟨_, rfl, _, _, rfl, rfl, cdw (by decide) (by decide), _, _, rfl, rfl, (show 1 ≤ sizeLine by decide), fun b nb => ?_⟩
      refine ⟨l, b, xs.map V.int, [.int (m + s / 2)], rfl, rfl, same_new nb _ _ elx, upd_same, ?_, fun p np => ?_⟩
      · rw [List.length_map]
        exact Nat.le_of_lt (small1000 (by show xs.length + 1 ≤ 1000; omega))
      have sm3 : Same Hx (upd (upd Hx b (.lst [.int (m + s / 2)])) p (.lst (xs.map V.int ++ [.int (m + s / 2)]))) := (same_new nb).trans (same_new np)
      have ep : (upd (upd Hx b (.lst [.int (m + s / 2)])) p (.lst (xs.map V.int ++ [.int (m + s / 2)]))) p = some (.lst ((xs ++ [m + s / 2]).map V.int)) := by
        rw [upd_same, List.map_append]
        rfl
      generalize upd (upd Hx b (.lst [.int (m + s / 2)])) p (.lst (xs.map V.int ++ [.int (m + s / 2)])) = H3 at *
      have lw : (xs ++ [m + s / 2]).length = xs.length + 1 := by rw [List.length_append]; rfl
      have lz : (lef s (xs ++ [m + s / 2])).length = xs.length + 1 := by unfold lef; rw [List.length_map, lw]
      refine ⟨_, rfl, p, s, xs ++ [m + s / 2], rfl, ep, by omega, sp, fun p2 H4 np2 sm4 ep2 => ?_⟩
      refine ⟨p2, _, rfl, .inl ⟨SqL.of ep2, fun u nu => ?_⟩⟩
      refine ⟨_, rfl, _, rfl, rfl, rfl, s, u, lef s (xs ++ [m + s / 2]), rfl, SqT.of upd_same, by omega, by omega, sp, s1, fun Ha sma => ?_⟩
      have e := eld_wider s0 s2 nr hm hle
      have e2 : sprI s (lef s (xs ++ [m + s / 2])) = none := by unfold sprI; rw [e] <;> rfl
      rw [e]
      refine ⟨rfl, _, rfl, ?_⟩
      refine iteT ?_
      refine ⟨_, rfl, _, rfl, rfl, rfl, s, u, lef s (xs ++ [m + s / 2]), rfl, SqT.of (sma _ _ upd_same), by omega, by omega, sp, s1, fun Hb smb => ?_⟩
      rw [e2]
      exact ⟨rfl, q _ (smA.trans (smx.trans (sm3.trans (sm4.trans ((same_new nu).trans (sma.trans smb))))))⟩
theorem ok_law (T : Tx K mg) (c_l_hand : C8.Cal P w K mg base 1 "_law_hand" (spHand K) []) (c_l_take : C8.Cal P w K mg base 1 "_law_take" spTake []) (c_l_of : C8.Cal P w K mg base 2 "_law_of" (spOf K) []) (c_l_size : C8.Cal P w K mg base 3 "_law_size" spSize [])
    (c_l_window : C8.Cal P w K mg base 3 "_law_window" spWindow []) (c_l_right : C8.Cal P w K mg base 5 "_law_right" spRight []) : BodyOk P w K mg base "law" s_law N_law 5 (spLaw K) := by
  intro f cdv A outer s H vs Q E hr h
  obtain ⟨a, ns, rfl, hS, hl, q⟩ := h
  have p18' : (10 : Int) ^ 18 = 1000000000000000000 := by decide
  have p9 : (10 : Int) ^ (9 : Int).toNat = 1000000000 := by decide
  refine ⟨_, (pss_cons (ps_for PassesOwn.never rfl (pi_range1 (by rfl) T.range (pa_cons (pe_op op_add pe_int (pe_callB (call_min2 rfl) (by rfl) T.min (by decide +kernel) (pa_cons pe_int (pa_cons (pe_callB call_len_seq (by rfl) T.len (by decide +kernel) (pa_cons (pv 0) pa_nil)) pa_nil)))) pa_nil)) (pg_name (i := 1) sc_law.nd rfl (Or.inl rfl)) (pss_cons (ps_set (i := 2) sc_law.nd rfl (Or.inl rfl) (C8.pe_c c_l_hand hr (by decide) (by rfl) (pa_cons (pv 0) (pa_cons (pv 1) pa_nil))))
      (pss_cons (ps_set (i := 3) sc_law.nd rfl (Or.inl rfl) (pe_ix ix_list (pe_lst (pa_cons pe_int (pa_cons pe_int pa_nil))) (pe_callTy call_int1 (by rfl) T.int (by decide +kernel) (pa_cons (pe_cmpR op_eq (C8.pe_c c_l_take hr (by decide) (by rfl) (pa_cons (pv 2) (pa_cons pe_int pa_nil))) pe_int (nomark _)) pa_nil)) (fun _ _ => rfl)))
      (pss_one (ps_for PassesOwn.never rfl (pi_range1 (by rfl) T.range (pa_cons pe_int pa_nil)) (pg_name (i := 4) sc_law.nd rfl (Or.inl rfl)) (pss_cons (ps_par (i := 5) (j := 6) (by rfl) sc_law.nd rfl rfl (by decide) rfl rfl (pa_cons (C8.pe_c c_l_size hr (by decide) (by rfl) (pa_cons (pv 2) pa_nil)) (pa_cons (pe_op op_add pe_int (C8.pe_c c_l_of hr (by decide) (by rfl) (pa_cons (pv 2) (pa_cons (pe_lst (pa_cons pe_int (pa_cons pe_int (pa_cons (C8.pe_c c_l_take hr (by decide) (by rfl) (pa_cons (pv 2) (pa_cons (pe_op op_pow pe_int pe_int) pa_nil))) pa_nil)))) pa_nil)))) pa_nil)) (by rfl))
      (pss_one (ps_if (pt_not (pt_val (C8.pe_c c_l_right hr (by decide) (by rfl) (pa_cons (C8.pe_c c_l_window hr (by decide) (by rfl) (pa_cons (pv 2) (pa_cons (pv 5) (pa_cons (pe_op op_add pe_int (C8.pe_c c_l_take hr (by decide) (by rfl) (pa_cons (pv 2) (pa_cons (pv 3) pa_nil)))) pa_nil)))) (pa_cons (pv 5) (pa_cons (pv 6) pa_nil)))))) (pss_one (ps_ret pe_bl)) pss_nil))))))))
      (pss_one (ps_ret pe_bl))), ?_⟩
  refine st_seq ?_
  refine ⟨_, rfl, a, _, rfl, .inl hS, _, _, rfl, _, _, rfl, rfl, _, rfl, ?_, ?_, ?_⟩
  · split <;> omega
  · rw [List.length_map]
    split <;> omega
  · refine for_range (lo := 0) (fun i σ H' => (∃ y1 y2 y3 y4 y5 y6, σ = [some (.ref a), y1, y2, y3, y4, y5, y6]) ∧ SqL K H' a (ns.map V.int)) ⟨⟨none, none, none, none, none, none, rfl⟩, hS⟩ (fun i σ H1 hi hP => ?_) (fun σ H1 hP => ?_)
    · obtain ⟨⟨y1, y2, y3, y4, y5, y6, rfl⟩, hS1⟩ := hP
      have hi2 : i ≤ 8 := by
        rw [List.length_map] at hi
        split at hi <;> omega
      refine st_seq ?_
      refine ⟨_, rfl, _, rfl, a, ns, i, ?_, hS1, by omega, fun p H2 np ke hs => ?_⟩
      · show [V.ref a, V.int (0 + (i : Int))] = _
        rw [Int.zero_add]
      have fr2 : Fr p H1 H2 := fun b o _ e => ke b o e
      -- most
      dsimp only [gName]
      refine st_seq (st_setH (PV := fun v H' => (∃ m : Int, v = .int m ∧ 1 ≤ m ∧ m ≤ 50) ∧ HS p 1 H' ∧ Fr p H1 H') (fun Q2 q2 => ?_) (fun v H3 hv => ?_))
      · refine ⟨(show 2 ≤ sizeLine by decide), fun L nL => ?_⟩
        have nLp : L ≠ p := hs.ne nL
        refine ⟨_, rfl, p, 8, 0, rfl, hs.new nL, (show 0 < 100000 by decide), by decide, by decide, fun d H4 d0 d1 hs4 f4 => ?_⟩
        have eL := f4 _ _ nLp (upd_same (H := H2) (a := L) (o := .lst [.int 12, .int 50]))
        refine ⟨rfl, .inr ⟨_, rfl, ?_⟩⟩
        have f14 : Fr p H1 H4 := fr2.trans ((Fr.new nL).trans f4)
        cases decide (V.int d = V.int 5) with
        | true => exact ⟨L, _, _, _, rfl, rfl, SqL.of eL, rfl, q2 _ _ ⟨⟨50, rfl, by decide, by decide⟩, hs4, f14⟩⟩
        | false => exact ⟨L, _, _, _, rfl, rfl, SqL.of eL, rfl, q2 _ _ ⟨⟨12, rfl, by decide, by decide⟩, hs4, f14⟩⟩
      · obtain ⟨⟨mo, rfl, mo0, mo1⟩, hs3, fr3⟩ := hv
        refine ⟨4, rfl, by decide, by decide, ?_⟩
        refine for_range (lo := 0) (n := 4) (fun j σ H' => (∃ y1 y4 y5 y6, σ = [some (.ref a), y1, some (.ref p), some (.int mo), y4, y5, y6]) ∧ HS p (1 + 120 * j) H' ∧ Fr p H1 H') ⟨⟨_, _, _, _, rfl⟩, hs3, fr3⟩ (fun j σ H4 hj hP => ?_) (fun σ H4 hP => ?_)
        · obtain ⟨⟨y1, y4, y5, y6, rfl⟩, hs4, fr4⟩ := hP
          refine st_seq ?_
          refine ⟨_, rfl, p, 1 + 120 * j, rfl, hs4, (show 1 + 120 * j + 3 < 100000 by omega), fun s H5 s0 s1 s2 hs5 f5 => ?_⟩
          refine ⟨_, rfl, _, rfl, _, _, rfl, rfl, pow_ok (by decide), p, _, 1 + 120 * j + 3, rfl, hs5, (show 1 + 120 * j + 3 < 100000 by omega), (by rw [p9]; decide), (by rw [p9]; decide), fun d H6 d0 d1 hs6 f6 => ?_⟩
          refine ⟨(show 3 ≤ sizeLine by decide), fun l1 nl1 => ?_⟩
          refine ⟨p, l1, [.int 0, .int 1, .int d], 1 + 120 * j + 3 + 1, rfl, hs6.new nl1, (show 1 + 120 * j + 3 + 1 < 100000 by omega), hs6.ne nl1, SqL.of upd_same, (show 0 < 3 by decide), (show 3 ≤ 1000 by decide), fun v H7 hv hs7 f7 => ?_⟩
          have hx : ∃ x : Int, v = .int x := by
            simp only [List.mem_cons, List.not_mem_nil, or_false] at hv
            rcases hv with rfl | rfl | rfl <;> exact ⟨_, rfl⟩
          obtain ⟨c, rfl⟩ := hx
          have f47 : Fr p H4 H7 := f5.trans (f6.trans ((Fr.new nl1).trans f7))
          refine ⟨_, _, rfl, rfl, _, _, rfl, ?_⟩
          refine ⟨_, rfl, _, rfl, _, rfl, _, rfl, p, mo, 1 + 120 * j + 3 + 1 + 1, rfl, hs7, (show 1 + 120 * j + 3 + 1 + 1 < 100000 by omega), by omega, by omega, fun d2 H8 d20 d21 hs8 f8 => ?_⟩
          refine ⟨_, _, rfl, rfl, p, s, (1 + d2).toNat, 1 + 120 * j + 3 + 1 + 1 + 1, ?_, hs8, by omega, (show 1 + 120 * j + 3 + 1 + 1 + 1 + 6 + 2 * (1 + d2).toNat < 100000 by omega), s0, s1, s2, fun lx xs H9 nlx elx llx nz hs9 f9 => ?_⟩
          · show [V.ref p, V.int s, V.int (1 + d2)] = _
            rw [Int.toNat_of_nonneg (by omega)]
          refine ⟨_, rfl, _, rfl, lx, s, _, xs, rfl, elx, by omega, by omega, nz, s0, s1, s2, fun Ha sma => ?_⟩
          refine ⟨_, rfl, iteF ⟨⟨_, _, _, _, rfl⟩, ?_, fr4.trans (f47.trans (f8.trans (f9.trans (Fr.same sma))))⟩⟩
          exact (hs9.same sma).mono (by omega)
        · obtain ⟨⟨y1, y4, y5, y6, rfl⟩, hs4, fr4⟩ := hP
          exact ⟨⟨_, _, _, _, _, _, rfl⟩, seq_new hS1 np fr4⟩
    · exact q _
end
/-! ### the head -/
theorem def0_mk {K : PySem.W.Frag} {h : Heap} {mg : Str → Option Value} {x : Str} {st : Stmt} {ps : List Str} (X : K.In h) (G : h.Ns mainGlobals mg) (g : (He.Fa.glo x).ok K = true)
    (F : ∃ fd, FunD K x x (defArgs st) (defBody st) (defScope st) [] [] (He.ga K x) fd)
    (hb : ∀ (kV doc pm : Value) (an : Option Addr) (cdv ct : Value) (us : List Value), us.length = ps.length → bindArgs (PySem.W.fnOf x x (defArgs st) (defBody st) (defScope st) .none kV doc pm an cdv ct) ⟨us, []⟩ = pure (ps.zip us)) : Def0 K mg x st ps := by
  obtain ⟨fd, F⟩ := F
  exact ⟨_, fd, F, He.glo_ok X G g, F.bindsN hb⟩
theorem defK_mk {K : PySem.W.Frag} {h : Heap} {mg : Str → Option Value} {x : Str} {st : Stmt} {ps : List Str} {n : Nat} {y : Str} {v : V} (X : K.In h) (G : h.Ns mainGlobals mg) (g : (He.Fa.glo x).ok K = true)
    (F : ∃ fd, FunD K x x (defArgs st) (defBody st) (defScope st) [] [(y, v)] (He.ga K x) fd) (hn : n + 1 = ps.length)
    (hb : ∀ (D : Addr) (doc pm : Value) (an : Option Addr) (cdv ct : Value) (us ks : List Value), us.length = n → ks.length = 1 →
      KwChain D (([y] : List Str).zip ks) (bindArgs (PySem.W.fnOf x x (defArgs st) (defBody st) (defScope st) .none (.ref D) doc pm an cdv ct) ⟨us, []⟩) (ps.zip (us ++ ks)))
    (hk : ∀ (kV doc pm : Value) (an : Option Addr) (cdv ct : Value) (us ws : List Value), us.length = n → ws.length = 1 →
      bindArgs (PySem.W.fnOf x x (defArgs st) (defBody st) (defScope st) .none kV doc pm an cdv ct) ⟨us, ([y] : List Str).zip ws⟩ = pure (ps.zip (us ++ ws))) : DefK K mg x st ps n [(y, v)] := by
  obtain ⟨fd, F⟩ := F
  refine ⟨_, fd, F, He.glo_ok X G g, F.binds0 n (by simp) hn hb, fun us ws => us ++ ws, ⟨fun s us ws _ l1 l2 => ?_, fun r1 r2 => r1.append r2⟩⟩
  obtain ⟨oc, od, dV, kV, doc, pm, an, cdv, ct, osl, rfl, lk, hcd, hD, hK⟩ := F.ex
  rcases hD with ⟨_, rfl⟩ | ⟨e, _⟩
  · exact .of_eq (hk kV doc pm an cdv ct us ws l1 l2)
  · exact absurd rfl e
theorem int_g {K : PySem.W.Frag} {h : Heap} {mg : Str → Option Value} {x : Str} {i : Int} (X : K.In h) (G : h.Ns mainGlobals mg) (g : (He.Fa.int x i).ok K = true) : ∃ u, mg x = some u ∧ RelV (.int i) u := by
  obtain ⟨t, e⟩ := He.int_ok X G g
  exact ⟨_, e, t, rfl⟩
def d_on : He.DefD := ⟨("on", none), "on", "on", defArgs s_on, defBody s_on, defScope s_on, [], [("ring", .int 64)]⟩
def d_steps : He.DefD := ⟨("steps", none), "steps", "steps", defArgs s_steps, defBody s_steps, defScope s_steps, [], [("ring", .int 64)]⟩
def d_before : He.DefD := ⟨("before", none), "before", "before", defArgs s_before, defBody s_before, defScope s_before, [], [("ring", .int 64)]⟩
def d_eldest : He.DefD := ⟨("eldest", none), "eldest", "eldest", defArgs s_eldest, defBody s_eldest, defScope s_eldest, [], [("ring", .int 64)]⟩
def d_spread : He.DefD := ⟨("spread", none), "spread", "spread", defArgs s_spread, defBody s_spread, defScope s_spread, [], [("ring", .int 64)]⟩
def d_farthest : He.DefD := ⟨("farthest", none), "farthest", "farthest", defArgs s_farthest, defBody s_farthest, defScope s_farthest, [], []⟩
def d_l_hand : He.DefD := ⟨("_law_hand", none), "_law_hand", "_law_hand", defArgs s_l_hand, defBody s_l_hand, defScope s_l_hand, [], []⟩
def d_l_take : He.DefD := ⟨("_law_take", none), "_law_take", "_law_take", defArgs s_l_take, defBody s_l_take, defScope s_l_take, [], []⟩
def d_l_of : He.DefD := ⟨("_law_of", none), "_law_of", "_law_of", defArgs s_l_of, defBody s_l_of, defScope s_l_of, [], []⟩
def d_l_size : He.DefD := ⟨("_law_size", none), "_law_size", "_law_size", defArgs s_l_size, defBody s_l_size, defScope s_l_size, [], []⟩
def d_l_window : He.DefD := ⟨("_law_window", none), "_law_window", "_law_window", defArgs s_l_window, defBody s_l_window, defScope s_l_window, [], []⟩
def d_l_left : He.DefD := ⟨("_law_left", none), "_law_left", "_law_left", defArgs s_l_left, defBody s_l_left, defScope s_l_left, [], []⟩
def d_l_pairs_right : He.DefD := ⟨("_law_pairs_right", none), "_law_pairs_right", "_law_pairs_right", defArgs s_l_pairs_right, defBody s_l_pairs_right, defScope s_l_pairs_right, [], []⟩
def d_l_right : He.DefD := ⟨("_law_right", none), "_law_right", "_law_right", defArgs s_l_right, defBody s_l_right, defScope s_l_right, [], []⟩
def d_law : He.DefD := ⟨("law", none), "law", "law", defArgs s_law, defBody s_law, defScope s_law, [], []⟩
def fn : List He.DefD := [d_on, d_steps, d_before, d_eldest, d_spread, d_farthest, d_l_hand, d_l_take, d_l_of, d_l_size, d_l_window, d_l_left, d_l_pairs_right, d_l_right, d_law]
--@ level 6
def fa : List He.Fa := [.glo "on", .glo "steps", .glo "before", .glo "eldest", .glo "spread", .glo "farthest", .glo "_law_hand", .glo "_law_take", .glo "_law_of", .glo "_law_size", .glo "_law_window", .glo "_law_left", .glo "_law_pairs_right", .glo "_law_right", .glo "law", .int "RING" 64] ++ freeNames.map .free
abbrev R : PySem.W.OpenRow := PySem.W.OpenLaw.row PySem.Challenge.rw_roundstore_k05_whole_endless_numbers
abbrev hk : PySem.W.Hook := He.hookD 4 fa fn
def ob (s : PySem.W.SharedT) : He.AlD := He.obsDG 4 fa fn (HandSHeadRun.getT s)
theorem ob_eq (s : PySem.W.SharedT) : ob s = hk.obs s.abs := He.obsDG_eq (HandSHeadRun.getT_eq s)
theorem run (w : World) : HandSHeadRun.RunEq R (PySem.W.view R.prog [17]) hk ob 2000 ["RING", "on", "steps", "before", "eldest", "spread", "farthest", "_law_hand", "_law_take", "_law_of", "_law_size", "_law_window", "_law_left", "_law_pairs_right", "_law_right"] w := by
  intro os
  kernel_rfl
theorem facts {P : Program} {w : World} {K : PySem.W.Frag} {h : Heap} {mg : Str → Option Value} {f : Addr} (X : K.In h) (G : h.Ns mainGlobals mg) (hfa : mg ("law" : Str) = some (.ref f)) (c : He.SaysD fa fn K) :
    ∃ fd : FuncData, (∀ (s : Shared) (v : Value), BindsTo s fd ⟨[v], []⟩ [("_law_script", v)]) ∧ ∀ base : Heap, K.In base → base.Ns mainGlobals mg → FnOk P w K mg base CX0 6 f fd ["_law_script"] (spLaw K) := by
  have T : Tx K mg := tx_mk fun x hx => He.free_ok X G (by
    obtain ⟨i, hi, e⟩ := List.mem_iff_getElem.mp hx
    exact c.fact (16 + i) (f := .free x) (by
      show ([.glo "on", .glo "steps", .glo "before", .glo "eldest", .glo "spread", .glo "farthest", .glo "_law_hand", .glo "_law_take", .glo "_law_of", .glo "_law_size", .glo "_law_window", .glo "_law_left", .glo "_law_pairs_right", .glo "_law_right", .glo "law", .int "RING" 64] ++ freeNames.map He.Fa.free)[16 + i]? = _
      rw [List.getElem?_append_right (by show 16 ≤ _; omega)]
      show (freeNames.map He.Fa.free)[16 + i - 16]? = _
      rw [Nat.add_sub_cancel_left, List.getElem?_map, List.getElem?_eq_getElem hi, e]
      rfl))
  have g_RING := int_g X G (c.fact 15 (f := .int "RING" 64) rfl)
  have D_on : DefK K mg "on" s_on ["number", "many", "ring"] 2 [("ring", .int 64)] := defK_mk X G (c.fact 0 (f := .glo "on") rfl) (c.def_ 0 (d := d_on) rfl) rfl
    (fun _ _ _ _ _ _ us ks l1 l2 => match us, ks, l1, l2 with | [_, _], [_], _, _ => ⟨_, _, _, _, _, _, rfl, rfl, rfl⟩) (fun _ _ _ _ _ _ us ws l1 l2 => match us, ws, l1, l2 with | [_, _], [_], _, _ => rfl)
  have D_steps : DefK K mg "steps" s_steps ["one", "other", "ring"] 2 [("ring", .int 64)] := defK_mk X G (c.fact 1 (f := .glo "steps") rfl) (c.def_ 1 (d := d_steps) rfl) rfl
    (fun _ _ _ _ _ _ us ks l1 l2 => match us, ks, l1, l2 with | [_, _], [_], _, _ => ⟨_, _, _, _, _, _, rfl, rfl, rfl⟩) (fun _ _ _ _ _ _ us ws l1 l2 => match us, ws, l1, l2 with | [_, _], [_], _, _ => rfl)
  have D_before : DefK K mg "before" s_before ["one", "other", "ring"] 2 [("ring", .int 64)] := defK_mk X G (c.fact 2 (f := .glo "before") rfl) (c.def_ 2 (d := d_before) rfl) rfl
    (fun _ _ _ _ _ _ us ks l1 l2 => match us, ks, l1, l2 with | [_, _], [_], _, _ => ⟨_, _, _, _, _, _, rfl, rfl, rfl⟩) (fun _ _ _ _ _ _ us ws l1 l2 => match us, ws, l1, l2 with | [_, _], [_], _, _ => rfl)
  have D_farthest : Def0 K mg "farthest" s_farthest ["one", "numbers", "ring"] := def0_mk X G (c.fact 5 (f := .glo "farthest") rfl) (c.def_ 5 (d := d_farthest) rfl) fun _ _ _ _ _ _ us hl => match us, hl with | [_, _, _], _ => rfl
  have D_eldest : DefK K mg "eldest" s_eldest ["numbers", "ring"] 1 [("ring", .int 64)] := defK_mk X G (c.fact 3 (f := .glo "eldest") rfl) (c.def_ 3 (d := d_eldest) rfl) rfl
    (fun _ _ _ _ _ _ us ks l1 l2 => match us, ks, l1, l2 with | [_], [_], _, _ => ⟨_, _, _, _, _, _, rfl, rfl, rfl⟩) (fun _ _ _ _ _ _ us ws l1 l2 => match us, ws, l1, l2 with | [_], [_], _, _ => rfl)
  have D_spread : DefK K mg "spread" s_spread ["numbers", "ring"] 1 [("ring", .int 64)] := defK_mk X G (c.fact 4 (f := .glo "spread") rfl) (c.def_ 4 (d := d_spread) rfl) rfl
    (fun _ _ _ _ _ _ us ks l1 l2 => match us, ks, l1, l2 with | [_], [_], _, _ => ⟨_, _, _, _, _, _, rfl, rfl, rfl⟩) (fun _ _ _ _ _ _ us ws l1 l2 => match us, ws, l1, l2 with | [_], [_], _, _ => rfl)
  have D_l_hand : Def0 K mg "_law_hand" s_l_hand ["_law_script", "_law_k"] := def0_mk X G (c.fact 6 (f := .glo "_law_hand") rfl) (c.def_ 6 (d := d_l_hand) rfl) fun _ _ _ _ _ _ us hl => match us, hl with | [_, _], _ => rfl
  have D_l_take : Def0 K mg "_law_take" s_l_take ["_law_hand_here", "_law_many"] := def0_mk X G (c.fact 7 (f := .glo "_law_take") rfl) (c.def_ 7 (d := d_l_take) rfl) fun _ _ _ _ _ _ us hl => match us, hl with | [_, _], _ => rfl
  have D_l_of : Def0 K mg "_law_of" s_l_of ["_law_hand_here", "_law_some"] := def0_mk X G (c.fact 8 (f := .glo "_law_of") rfl) (c.def_ 8 (d := d_l_of) rfl) fun _ _ _ _ _ _ us hl => match us, hl with | [_, _], _ => rfl
  have D_l_size : Def0 K mg "_law_size" s_l_size ["_law_hand_here"] := def0_mk X G (c.fact 9 (f := .glo "_law_size") rfl) (c.def_ 9 (d := d_l_size) rfl) fun _ _ _ _ _ _ us hl => match us, hl with | [_], _ => rfl
  have D_l_window : Def0 K mg "_law_window" s_l_window ["_law_hand_here", "_law_size_here", "_law_many"] := def0_mk X G (c.fact 10 (f := .glo "_law_window") rfl) (c.def_ 10 (d := d_l_window) rfl) fun _ _ _ _ _ _ us hl => match us, hl with | [_, _, _], _ => rfl
  have D_l_left : Def0 K mg "_law_left" s_l_left ["_law_some", "_law_size_here"] := def0_mk X G (c.fact 11 (f := .glo "_law_left") rfl) (c.def_ 11 (d := d_l_left) rfl) fun _ _ _ _ _ _ us hl => match us, hl with | [_, _], _ => rfl
  have D_l_pairs_right : Def0 K mg "_law_pairs_right" s_l_pairs_right ["_law_some", "_law_size_here"] := def0_mk X G (c.fact 12 (f := .glo "_law_pairs_right") rfl) (c.def_ 12 (d := d_l_pairs_right) rfl) fun _ _ _ _ _ _ us hl => match us, hl with | [_, _], _ => rfl
  have D_l_right : Def0 K mg "_law_right" s_l_right ["_law_some", "_law_size_here", "_law_far"] := def0_mk X G (c.fact 13 (f := .glo "_law_right") rfl) (c.def_ 13 (d := d_l_right) rfl) fun _ _ _ _ _ _ us hl => match us, hl with | [_, _, _], _ => rfl
  obtain ⟨fd, F⟩ := c.def_ 14 (d := d_law) rfl
  have e := hfa.symm.trans (He.glo_ok X G (c.fact 14 (f := .glo "law") rfl))
  cases e
  have b := FunD.bindsA (ps := ["_law_script"]) F fun _ _ _ _ _ _ us hl => match us, hl with | [_], _ => rfl
  refine ⟨fd, fun s v => b s [v] rfl, fun base _ _ => ?_⟩
  obtain ⟨K_on, C_on⟩ := D_on.ok (P := P) (w := w) (base := base) (sp := spOn) sc_on (fun vs H Q E h => by first | (obtain ⟨rfl, _⟩ := h; rfl) | (obtain ⟨_, rfl, _⟩ := h; rfl) | (obtain ⟨_, _, rfl, _⟩ := h; rfl) | (obtain ⟨_, _, _, rfl, _⟩ := h; rfl) | (obtain ⟨_, _, _, _, rfl, _⟩ := h; rfl) | (obtain ⟨_, _, _, _, _, rfl, _⟩ := h; rfl) | (obtain ⟨_, _, _, _, _, _, rfl, _⟩ := h; rfl) | (obtain ⟨_, _, _, _, _, _, _, rfl, _⟩ := h; rfl)) (ok_on)
  obtain ⟨K_steps, C_steps⟩ := D_steps.ok (P := P) (w := w) (base := base) (sp := spSteps) sc_steps (fun vs H Q E h => by first | (obtain ⟨rfl, _⟩ := h; rfl) | (obtain ⟨_, rfl, _⟩ := h; rfl) | (obtain ⟨_, _, rfl, _⟩ := h; rfl) | (obtain ⟨_, _, _, rfl, _⟩ := h; rfl) | (obtain ⟨_, _, _, _, rfl, _⟩ := h; rfl) | (obtain ⟨_, _, _, _, _, rfl, _⟩ := h; rfl) | (obtain ⟨_, _, _, _, _, _, rfl, _⟩ := h; rfl) | (obtain ⟨_, _, _, _, _, _, _, rfl, _⟩ := h; rfl)) (ok_steps)
  obtain ⟨K_before, C_before⟩ := D_before.ok (P := P) (w := w) (base := base) (sp := spBefore) sc_before (fun vs H Q E h => by first | (obtain ⟨rfl, _⟩ := h; rfl) | (obtain ⟨_, rfl, _⟩ := h; rfl) | (obtain ⟨_, _, rfl, _⟩ := h; rfl) | (obtain ⟨_, _, _, rfl, _⟩ := h; rfl) | (obtain ⟨_, _, _, _, rfl, _⟩ := h; rfl) | (obtain ⟨_, _, _, _, _, rfl, _⟩ := h; rfl) | (obtain ⟨_, _, _, _, _, _, rfl, _⟩ := h; rfl) | (obtain ⟨_, _, _, _, _, _, _, rfl, _⟩ := h; rfl)) (ok_before K_steps)
  have C_farthest := D_farthest.cal (P := P) (w := w) (base := base) (sp := spFar K) sc_farthest (fun vs H Q E h => by first | (obtain ⟨rfl, _⟩ := h; rfl) | (obtain ⟨_, rfl, _⟩ := h; rfl) | (obtain ⟨_, _, rfl, _⟩ := h; rfl) | (obtain ⟨_, _, _, rfl, _⟩ := h; rfl) | (obtain ⟨_, _, _, _, rfl, _⟩ := h; rfl) | (obtain ⟨_, _, _, _, _, rfl, _⟩ := h; rfl) | (obtain ⟨_, _, _, _, _, _, rfl, _⟩ := h; rfl) | (obtain ⟨_, _, _, _, _, _, _, rfl, _⟩ := h; rfl)) (ok_farthest T K_steps)
  obtain ⟨K_eldest, C_eldest⟩ := D_eldest.ok (P := P) (w := w) (base := base) (sp := spEldest K) sc_eldest (fun vs H Q E h => by first | (obtain ⟨rfl, _⟩ := h; rfl) | (obtain ⟨_, rfl, _⟩ := h; rfl) | (obtain ⟨_, _, rfl, _⟩ := h; rfl) | (obtain ⟨_, _, _, rfl, _⟩ := h; rfl) | (obtain ⟨_, _, _, _, rfl, _⟩ := h; rfl) | (obtain ⟨_, _, _, _, _, rfl, _⟩ := h; rfl) | (obtain ⟨_, _, _, _, _, _, rfl, _⟩ := h; rfl) | (obtain ⟨_, _, _, _, _, _, _, rfl, _⟩ := h; rfl)) (ok_eldest T K_before C_farthest)
  obtain ⟨K_spread, C_spread⟩ := D_spread.ok (P := P) (w := w) (base := base) (sp := spSpread K) sc_spread (fun vs H Q E h => by first | (obtain ⟨rfl, _⟩ := h; rfl) | (obtain ⟨_, rfl, _⟩ := h; rfl) | (obtain ⟨_, _, rfl, _⟩ := h; rfl) | (obtain ⟨_, _, _, rfl, _⟩ := h; rfl) | (obtain ⟨_, _, _, _, rfl, _⟩ := h; rfl) | (obtain ⟨_, _, _, _, _, rfl, _⟩ := h; rfl) | (obtain ⟨_, _, _, _, _, _, rfl, _⟩ := h; rfl) | (obtain ⟨_, _, _, _, _, _, _, rfl, _⟩ := h; rfl)) (ok_spread T K_eldest C_farthest)
  have C_l_hand := D_l_hand.cal (P := P) (w := w) (base := base) (sp := spHand K) sc_l_hand (fun vs H Q E h => by first | (obtain ⟨rfl, _⟩ := h; rfl) | (obtain ⟨_, rfl, _⟩ := h; rfl) | (obtain ⟨_, _, rfl, _⟩ := h; rfl) | (obtain ⟨_, _, _, rfl, _⟩ := h; rfl) | (obtain ⟨_, _, _, _, rfl, _⟩ := h; rfl) | (obtain ⟨_, _, _, _, _, rfl, _⟩ := h; rfl) | (obtain ⟨_, _, _, _, _, _, rfl, _⟩ := h; rfl) | (obtain ⟨_, _, _, _, _, _, _, rfl, _⟩ := h; rfl)) (ok_hand T)
  have C_l_take := D_l_take.cal (P := P) (w := w) (base := base) (sp := spTake) sc_l_take (fun vs H Q E h => by first | (obtain ⟨rfl, _⟩ := h; rfl) | (obtain ⟨_, rfl, _⟩ := h; rfl) | (obtain ⟨_, _, rfl, _⟩ := h; rfl) | (obtain ⟨_, _, _, rfl, _⟩ := h; rfl) | (obtain ⟨_, _, _, _, rfl, _⟩ := h; rfl) | (obtain ⟨_, _, _, _, _, rfl, _⟩ := h; rfl) | (obtain ⟨_, _, _, _, _, _, rfl, _⟩ := h; rfl) | (obtain ⟨_, _, _, _, _, _, _, rfl, _⟩ := h; rfl)) (ok_take T)
  have C_l_of := D_l_of.cal (P := P) (w := w) (base := base) (sp := spOf K) sc_l_of (fun vs H Q E h => by first | (obtain ⟨rfl, _⟩ := h; rfl) | (obtain ⟨_, rfl, _⟩ := h; rfl) | (obtain ⟨_, _, rfl, _⟩ := h; rfl) | (obtain ⟨_, _, _, rfl, _⟩ := h; rfl) | (obtain ⟨_, _, _, _, rfl, _⟩ := h; rfl) | (obtain ⟨_, _, _, _, _, rfl, _⟩ := h; rfl) | (obtain ⟨_, _, _, _, _, _, rfl, _⟩ := h; rfl) | (obtain ⟨_, _, _, _, _, _, _, rfl, _⟩ := h; rfl)) (ok_of T C_l_take)
  have C_l_size := D_l_size.cal (P := P) (w := w) (base := base) (sp := spSize) sc_l_size (fun vs H Q E h => by first | (obtain ⟨rfl, _⟩ := h; rfl) | (obtain ⟨_, rfl, _⟩ := h; rfl) | (obtain ⟨_, _, rfl, _⟩ := h; rfl) | (obtain ⟨_, _, _, rfl, _⟩ := h; rfl) | (obtain ⟨_, _, _, _, rfl, _⟩ := h; rfl) | (obtain ⟨_, _, _, _, _, rfl, _⟩ := h; rfl) | (obtain ⟨_, _, _, _, _, _, rfl, _⟩ := h; rfl) | (obtain ⟨_, _, _, _, _, _, _, rfl, _⟩ := h; rfl)) (ok_size T C_l_take C_l_of)
  have C_l_window := D_l_window.cal (P := P) (w := w) (base := base) (sp := spWindow) sc_l_window (fun vs H Q E h => by first | (obtain ⟨rfl, _⟩ := h; rfl) | (obtain ⟨_, rfl, _⟩ := h; rfl) | (obtain ⟨_, _, rfl, _⟩ := h; rfl) | (obtain ⟨_, _, _, rfl, _⟩ := h; rfl) | (obtain ⟨_, _, _, _, rfl, _⟩ := h; rfl) | (obtain ⟨_, _, _, _, _, rfl, _⟩ := h; rfl) | (obtain ⟨_, _, _, _, _, _, rfl, _⟩ := h; rfl) | (obtain ⟨_, _, _, _, _, _, _, rfl, _⟩ := h; rfl)) (ok_window T C_l_take C_l_of)
  have C_l_left := D_l_left.cal (P := P) (w := w) (base := base) (sp := spLeft) sc_l_left (fun vs H Q E h => by first | (obtain ⟨rfl, _⟩ := h; rfl) | (obtain ⟨_, rfl, _⟩ := h; rfl) | (obtain ⟨_, _, rfl, _⟩ := h; rfl) | (obtain ⟨_, _, _, rfl, _⟩ := h; rfl) | (obtain ⟨_, _, _, _, rfl, _⟩ := h; rfl) | (obtain ⟨_, _, _, _, _, rfl, _⟩ := h; rfl) | (obtain ⟨_, _, _, _, _, _, rfl, _⟩ := h; rfl) | (obtain ⟨_, _, _, _, _, _, _, rfl, _⟩ := h; rfl)) (ok_left)
  have C_l_pairs_right := D_l_pairs_right.cal (P := P) (w := w) (base := base) (sp := spPairs) sc_l_pairs_right (fun vs H Q E h => by first | (obtain ⟨rfl, _⟩ := h; rfl) | (obtain ⟨_, rfl, _⟩ := h; rfl) | (obtain ⟨_, _, rfl, _⟩ := h; rfl) | (obtain ⟨_, _, _, rfl, _⟩ := h; rfl) | (obtain ⟨_, _, _, _, rfl, _⟩ := h; rfl) | (obtain ⟨_, _, _, _, _, rfl, _⟩ := h; rfl) | (obtain ⟨_, _, _, _, _, _, rfl, _⟩ := h; rfl) | (obtain ⟨_, _, _, _, _, _, _, rfl, _⟩ := h; rfl)) (ok_pairs T C_l_left K_on K_steps K_before)
  have C_l_right := D_l_right.cal (P := P) (w := w) (base := base) (sp := spRight) sc_l_right (fun vs H Q E h => by first | (obtain ⟨rfl, _⟩ := h; rfl) | (obtain ⟨_, rfl, _⟩ := h; rfl) | (obtain ⟨_, _, rfl, _⟩ := h; rfl) | (obtain ⟨_, _, _, rfl, _⟩ := h; rfl) | (obtain ⟨_, _, _, _, rfl, _⟩ := h; rfl) | (obtain ⟨_, _, _, _, _, rfl, _⟩ := h; rfl) | (obtain ⟨_, _, _, _, _, _, rfl, _⟩ := h; rfl) | (obtain ⟨_, _, _, _, _, _, _, rfl, _⟩ := h; rfl)) (ok_right T C_l_left C_l_pairs_right K_eldest K_spread)
  refine F.ok (CX := CX0) sc_law (fun vs H Q E h => by first | (obtain ⟨rfl, _⟩ := h; rfl) | (obtain ⟨_, rfl, _⟩ := h; rfl) | (obtain ⟨_, _, rfl, _⟩ := h; rfl) | (obtain ⟨_, _, _, rfl, _⟩ := h; rfl) | (obtain ⟨_, _, _, _, rfl, _⟩ := h; rfl) | (obtain ⟨_, _, _, _, _, rfl, _⟩ := h; rfl) | (obtain ⟨_, _, _, _, _, _, rfl, _⟩ := h; rfl) | (obtain ⟨_, _, _, _, _, _, _, rfl, _⟩ := h; rfl)) (fun cdv A outer s H vs Q E hr h => ?_)
  obtain ⟨t, h1, h2⟩ := ok_law (P := P) (w := w) (base := base) T C_l_hand C_l_take C_l_of C_l_size C_l_window C_l_right _ cdv A outer s H vs Q E hr h
  exact ⟨t, h1.nox, h2⟩
end Rd
open PySem PySem.W PySem.Calls PyProof.Rows
theorem PySem.Challenge.cw_roundstore_k05_whole_endless_numbers_holds : PySem.Challenge.rw_roundstore_k05_whole_endless_numbers.Holds := by
  w_on; o_law
  refine HandSHeadRun.head_any (r := OpenLaw.row PySem.Challenge.rw_roundstore_k05_whole_endless_numbers) (q := view (OpenLaw.row PySem.Challenge.rw_roundstore_k05_whole_endless_numbers).prog [17]) (H := Rd.hk) (ob := Rd.ob) (M := 2000) (loose := ["RING", "on", "steps", "before", "eldest", "spread", "farthest", "_law_hand", "_law_take", "_law_of", "_law_size", "_law_window", "_law_left", "_law_pairs_right", "_law_right"]) (d := HandSHeadRun.topDef (OpenLaw.row PySem.Challenge.rw_roundstore_k05_whole_endless_numbers).prog 17) (kwd := []) Rd.ob_eq
    (by kernel_rfl) (fun s => by kernel_rfl) Rd.run (by kernel_rfl) (by kernel_rfl) (by kernel_rfl) (by rfl) (by first | assumption | decide +kernel) (by decide +kernel) ⟨rfl, rfl, rfl, rfl, rfl, by decide +kernel⟩ ?hw ?hc
  case hw => w_witness2
  case hc =>
    refine L2.walk_ofE (l := PySem.Challenge.rw_roundstore_k05_whole_endless_numbers) (n := 63) (k := 6) (x := "_law_script") (CX := L2.CX0) rfl (by decide) (by kernel_rfl) ⟨rfl, by decide, by decide⟩ ?F (fun _ _ _ _ z => z)
    intro w mg fa h Y G hmg0
    obtain ⟨K, KX, c⟩ := Y
    have hmg : mg ("law" : PySem.Str) = some (.ref fa) := by
      have e : (HandSHeadRun.topDef (OpenLaw.row PySem.Challenge.rw_roundstore_k05_whole_endless_numbers).prog 17).name = ("law" : PySem.Str) := by kernel_rfl
      rw [← e]
      exact hmg0
    obtain ⟨fd, hb, hF⟩ := Rd.facts (P := (PySem.Challenge.rw_roundstore_k05_whole_endless_numbers).prog) (w := w) KX G hmg c
    exact ⟨K, fd, Rd.spLaw K, KX, hb, fun H a ns hl _ hS => ⟨a, ns, rfl, hS, hl, fun _ => rfl⟩, hF⟩
