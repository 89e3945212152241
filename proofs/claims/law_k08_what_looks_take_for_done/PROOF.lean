import PyProof.Rows.All
import Wide.All
import OpenK.AllK
import Wide.FinOn
import KE.KStateDown
import KE.KDictPairs
import HandS.ForMost
import HandS.More
import HandS.Conv
import HandS.Flow
import HandS.Style
import HandS.Steps
import HandS.Codes
import HandS.IsInst
import HandS.TupAny
import HandS.NoneIn
import HandS.RaiseMore
import HandS.SortInts
import HandS.Strs
import HandS.Wide
import HandS.WordsExc
import HandS.Defaults
import HandS.Head0
import HandS.Head1
import HandS.Head2
import HandS.HeadEnd
import HandS.HeadHook1
import HandS.HeadHook2
import PySem.Challenge.RW_roundstore_k08_what_looks_take_for_done
set_option Elab.async false
set_option linter.all false
set_option maxRecDepth 100000
set_option maxHeartbeats 8000000
namespace Rd
open PySem PySem.Spec PyProof.Rows L2
def top (i : Nat) : Stmt := PySem.Challenge.pw_roundstore_k08_what_looks_take_for_done.main.body.getD i (.Pass ⟨0, 0, 0, 0⟩)
abbrev s_steps : Stmt := top 2
abbrev N_steps : List Str := ["one", "other", "ring"]
theorem sc_steps : FnScope N_steps ["one", "other", "ring"] (defScope s_steps) := ⟨rfl, rfl, rfl, by decide +kernel, rfl, by decide +kernel, by decide +kernel⟩
abbrev s_before : Stmt := top 3
abbrev N_before : List Str := ["one", "other", "ring"]
theorem sc_before : FnScope N_before ["one", "other", "ring"] (defScope s_before) := ⟨rfl, rfl, rfl, by decide +kernel, rfl, by decide +kernel, by decide +kernel⟩
abbrev s_low : Stmt := top 5
abbrev N_low : List Str := ["look", "coming", "others"]
theorem sc_low : FnScope N_low ["look"] (defScope s_low) := ⟨rfl, rfl, rfl, by decide +kernel, rfl, by decide +kernel, by decide +kernel⟩
abbrev s_sees : Stmt := top 6
abbrev N_sees : List Str := ["look", "number", "fate", "ring", "coming", "others"]
theorem sc_sees : FnScope N_sees ["look", "number", "fate", "ring"] (defScope s_sees) := ⟨rfl, rfl, rfl, by decide +kernel, rfl, by decide +kernel, by decide +kernel⟩
abbrev s_l_hand : Stmt := top 8
abbrev N_l_hand : List Str := ["_law_script", "_law_k", "_law_cell", "_law_great"]
theorem sc_l_hand : FnScope N_l_hand ["_law_script", "_law_k"] (defScope s_l_hand) := ⟨rfl, rfl, rfl, by decide +kernel, rfl, by decide +kernel, by decide +kernel⟩
abbrev s_l_take : Stmt := top 9
abbrev N_l_take : List Str := ["_law_hand_here", "_law_many", "_law_digit", "_law_primes", "_law_prime", "_law_drawn"]
theorem sc_l_take : FnScope N_l_take ["_law_hand_here", "_law_many"] (defScope s_l_take) := ⟨rfl, rfl, rfl, by decide +kernel, rfl, by decide +kernel, by decide +kernel⟩
abbrev s_l_of : Stmt := top 10
abbrev N_l_of : List Str := ["_law_hand_here", "_law_some"]
theorem sc_l_of : FnScope N_l_of ["_law_hand_here", "_law_some"] (defScope s_l_of) := ⟨rfl, rfl, rfl, by decide +kernel, rfl, by decide +kernel, by decide +kernel⟩
abbrev s_l_size : Stmt := top 11
abbrev N_l_size : List Str := ["_law_hand_here", "_law_few"]
theorem sc_l_size : FnScope N_l_size ["_law_hand_here"] (defScope s_l_size) := ⟨rfl, rfl, rfl, by decide +kernel, rfl, by decide +kernel, by decide +kernel⟩
abbrev s_l_look : Stmt := top 12
abbrev N_l_look : List Str := ["_law_hand_here", "_law_size_here", "_law_coming", "_law_back", "_law_some", "_law_turn"]
theorem sc_l_look : FnScope N_l_look ["_law_hand_here", "_law_size_here"] (defScope s_l_look) := ⟨rfl, rfl, rfl, by decide +kernel, rfl, by decide +kernel, by decide +kernel⟩
abbrev s_l_is_done : Stmt := top 13
abbrev N_l_is_done : List Str := ["_law_look_here", "_law_number", "_law_fate", "_law_size_here"]
theorem sc_l_is_done : FnScope N_l_is_done ["_law_look_here", "_law_number", "_law_fate", "_law_size_here"] (defScope s_l_is_done) := ⟨rfl, rfl, rfl, by decide +kernel, rfl, by decide +kernel, by decide +kernel⟩
abbrev s_l_numbers : Stmt := top 14
abbrev N_l_numbers : List Str := ["_law_hand_here", "_law_look_here", "_law_size_here", "_law_some", "_law_number", "_law_more", "_law_turn"]
theorem sc_l_numbers : FnScope N_l_numbers ["_law_hand_here", "_law_look_here", "_law_size_here"] (defScope s_l_numbers) := ⟨rfl, rfl, rfl, by decide +kernel, rfl, by decide +kernel, by decide +kernel⟩
abbrev s_l_told : Stmt := top 15
abbrev N_l_told : List Str := ["_law_look_here", "_law_number", "_law_fate", "_law_size_here"]
theorem sc_l_told : FnScope N_l_told ["_law_look_here", "_law_number", "_law_fate", "_law_size_here"] (defScope s_l_told) := ⟨rfl, rfl, rfl, by decide +kernel, rfl, by decide +kernel, by decide +kernel⟩
abbrev s_law : Stmt := top 16
abbrev N_law : List Str := ["_law_script", "_law_k", "_law_hand_here", "_law_size_here", "_law_turn", "_law_look_here", "_law_number", "_law_fate", "_law_told_here"]
theorem sc_law : FnScope N_law ["_law_script"] (defScope s_law) := ⟨rfl, rfl, rfl, by decide +kernel, rfl, by decide +kernel, by decide +kernel⟩
theorem gl_of {X : Cx} {x : Str} {sc : Scope} (h : sc.names.lookup x = some .globalImplicit) (e : X.env.scope = sc := by rfl) : Gl X x := by
  unfold Gl Env.kindOf
  rw [e]
  exact h
theorem gl_before_steps : (defScope s_before).names.lookup ("steps" : Str) = some .globalImplicit := by decide +kernel
theorem gl_low_len : (defScope s_low).names.lookup ("len" : Str) = some .globalImplicit := by decide +kernel
theorem gl_sees_before : (defScope s_sees).names.lookup ("before" : Str) = some .globalImplicit := by decide +kernel
theorem gl_l_hand_len : (defScope s_l_hand).names.lookup ("len" : Str) = some .globalImplicit := by decide +kernel
theorem gl_l_hand_abs : (defScope s_l_hand).names.lookup ("abs" : Str) = some .globalImplicit := by decide +kernel
theorem gl_l_hand_int : (defScope s_l_hand).names.lookup ("int" : Str) = some .globalImplicit := by decide +kernel
theorem gl_l_of_l_take : (defScope s_l_of).names.lookup ("_law_take" : Str) = some .globalImplicit := by decide +kernel
theorem gl_l_of_len : (defScope s_l_of).names.lookup ("len" : Str) = some .globalImplicit := by decide +kernel
theorem gl_l_size_l_of : (defScope s_l_size).names.lookup ("_law_of" : Str) = some .globalImplicit := by decide +kernel
theorem gl_l_size_l_take : (defScope s_l_size).names.lookup ("_law_take" : Str) = some .globalImplicit := by decide +kernel
theorem gl_l_look_l_of : (defScope s_l_look).names.lookup ("_law_of" : Str) = some .globalImplicit := by decide +kernel
theorem gl_l_look_l_take : (defScope s_l_look).names.lookup ("_law_take" : Str) = some .globalImplicit := by decide +kernel
theorem gl_l_look_tuple : (defScope s_l_look).names.lookup ("tuple" : Str) = some .globalImplicit := by decide +kernel
theorem gl_l_told_sees : (defScope s_l_told).names.lookup ("sees" : Str) = some .globalImplicit := by decide +kernel
theorem gl_law_max : (defScope s_law).names.lookup ("max" : Str) = some .globalImplicit := by decide +kernel
theorem gl_law_min : (defScope s_law).names.lookup ("min" : Str) = some .globalImplicit := by decide +kernel
theorem gl_law_len : (defScope s_law).names.lookup ("len" : Str) = some .globalImplicit := by decide +kernel
theorem gl_law_l_numbers : (defScope s_law).names.lookup ("_law_numbers" : Str) = some .globalImplicit := by decide +kernel
theorem gl_law_l_is_done : (defScope s_law).names.lookup ("_law_is_done" : Str) = some .globalImplicit := by decide +kernel
theorem gl_law_isinstance : (defScope s_law).names.lookup ("isinstance" : Str) = some .globalImplicit := by decide +kernel
theorem gl_law_bool : (defScope s_law).names.lookup ("bool" : Str) = some .globalImplicit := by decide +kernel
theorem gl_law_l_told : (defScope s_law).names.lookup ("_law_told" : Str) = some .globalImplicit := by decide +kernel
theorem gl_law_l_look : (defScope s_law).names.lookup ("_law_look" : Str) = some .globalImplicit := by decide +kernel
theorem gl_law_repr : (defScope s_law).names.lookup ("repr" : Str) = some .globalImplicit := by decide +kernel
theorem gl_law_low : (defScope s_law).names.lookup ("low" : Str) = some .globalImplicit := by decide +kernel
theorem gl_law_l_hand : (defScope s_law).names.lookup ("_law_hand" : Str) = some .globalImplicit := by decide +kernel
theorem gl_law_l_size : (defScope s_law).names.lookup ("_law_size" : Str) = some .globalImplicit := by decide +kernel
theorem bb_len : bootBuiltins "len" = some (.builtin "len") := by decide +kernel
theorem bb_abs : bootBuiltins "abs" = some (.builtin "abs") := by decide +kernel
theorem bb_max : bootBuiltins "max" = some (.builtin "max") := by decide +kernel
theorem bb_min : bootBuiltins "min" = some (.builtin "min") := by decide +kernel
theorem bb_isinstance : bootBuiltins "isinstance" = some (.builtin "isinstance") := by decide +kernel
theorem bb_repr : bootBuiltins "repr" = some (.builtin "repr") := by decide +kernel
theorem bt_int : bootBuiltins "int" = some (.type "int") := by decide +kernel
theorem bt_tuple : bootBuiltins "tuple" = some (.type "tuple") := by decide +kernel
theorem bt_bool : bootBuiltins "bool" = some (.type "bool") := by decide +kernel
/-! ### what the top leaves, and what a def keeps -/
structure Tx (K : PySem.W.Frag) (mg : Str → Option Value) : Prop where
  len : mg "len" = none
  abs : mg "abs" = none
  int : mg "int" = none
  bool : mg "bool" = none
  min : mg "min" = none
  max : mg "max" = none
  all : mg "all" = none
  isinstance : mg "isinstance" = none
  range : mg "range" = none
  list : mg "list" = none
  tuple : mg "tuple" = none
  sorted : mg "sorted" = none
  set : mg "set" = none
  enumerate : mg "enumerate" = none
  repr : mg "repr" = none
  dict : mg "dict" = none
  zip : mg "zip" = none
  str : mg "str" = none
def freeNames : List Str := ["len", "abs", "int", "bool", "min", "max", "all", "isinstance", "range", "list", "tuple", "sorted", "set", "enumerate", "repr", "dict", "zip", "str"]
theorem tx_mk {K : PySem.W.Frag} {mg : Str → Option Value} (h : ∀ x ∈ freeNames, mg x = none) : Tx K mg :=
  ⟨h _ (by decide), h _ (by decide), h _ (by decide), h _ (by decide), h _ (by decide), h _ (by decide), h _ (by decide), h _ (by decide), h _ (by decide), h _ (by decide), h _ (by decide), h _ (by decide), h _ (by decide), h _ (by decide), h _ (by decide), h _ (by decide), h _ (by decide), h _ (by decide)⟩
/-- a def without defaults -/
structure Def0 (K : PySem.W.Frag) (mg : Str → Option Value) (x : Str) (st : Stmt) (ps : List Str) : Prop where
  ex : ∃ (f : Addr) (fd : FuncData), FunD K x x (defArgs st) (defBody st) (defScope st) [] [] f fd ∧ mg x = some (.ref f) ∧ Binds K fd ps []
/-- a def with keyword-only defaults: n values by place, the rest by name or left out -/
structure DefK (K : PySem.W.Frag) (mg : Str → Option Value) (x : Str) (st : Stmt) (ps : List Str) (n : Nat) (kws : List (Str × V)) : Prop where
  ex : ∃ (f : Addr) (fd : FuncData), FunD K x x (defArgs st) (defBody st) (defScope st) [] kws f fd ∧ mg x = some (.ref f) ∧ (∃ ds, Vals (kws.map (·.2)) ds ∧ Binds K fd ps ds) ∧ ∃ g, KBn K fd ps n (kws.map (·.1)) g (fun vs zs => vs ++ zs)
structure CalK (P : Program) (w : World) (K : PySem.W.Frag) (mg : Str → Option Value) (base : Heap) (k : Nat) (x : Str) (n : Nat) (ks : List Str) (sp : Sp) : Prop where
  ex : ∃ (f : Addr) (fd : FuncData) (ps : List Str) (g : List Value → List Value → List Value), FnOk P w K mg base CX0 k f fd ps sp ∧ mg x = some (.ref f) ∧ PySem.W.keepIn K (.ref f) = true ∧ KBn K fd ps n ks g (fun vs zs => vs ++ zs)
section
variable {P : Program} {w : World} {K : PySem.W.Frag} {mg : Str → Option Value} {base : Heap} {x : Str} {st : Stmt} {N ps : List Str} {k n : Nat} {sp : Sp} {kws : List (Str × V)}
/-- the body of a def, as its rule asks it -/
def BodyOk (P : Program) (w : World) (K : PySem.W.Frag) (mg : Str → Option Value) (base : Heap) (x : Str) (st : Stmt) (N : List Str) (k : Nat) (sp : Sp) : Prop :=
  ∀ (f : Addr) (cdv : Value) (A : Around) (outer : List Env) (s : Shared) (H : Hp) (vs : List V) (Q : VK) (E : XK), Room k (A.deeper (envOfC x (defScope st) s.heap.objs.size f cdv)) → sp vs H Q E →
      ∃ t, PSs (cxOf CX0 P w K mg base N x (defScope st) f cdv A outer s H E).nox (defBody st) t ∧ t { nx := fun _ H' => Q .non H', rt := Q } (start N vs) H
theorem Def0.cal (D : Def0 K mg x st ps) (S : FnScope N ps (defScope st)) (len : ∀ vs H Q E, sp vs H Q E → vs.length = ps.length) (hb : BodyOk P w K mg base x st N k sp) : C8.Cal P w K mg base (k + 1) x sp [] := by
  obtain ⟨f, fd, F, g, b⟩ := D.ex
  refine ⟨f, fd, ps, [], F.ok (CX := CX0) S len (fun cdv A outer s H vs Q E hr h => ?_), g, F.kp, b, .nil⟩
  obtain ⟨t, h1, h2⟩ := hb f cdv A outer s H vs Q E hr h
  exact ⟨t, h1.nox, h2⟩
theorem DefK.ok (D : DefK K mg x st ps n kws) (S : FnScope N ps (defScope st)) (len : ∀ vs H Q E, sp vs H Q E → vs.length = ps.length) (hb : BodyOk P w K mg base x st N k sp) :
    CalK P w K mg base (k + 1) x n (kws.map (·.1)) sp ∧ C8.Cal P w K mg base (k + 1) x sp (kws.map (·.2)) := by
  obtain ⟨f, fd, F, g, ⟨ds, hd, b⟩, gg, kb⟩ := D.ex
  have h : FnOk P w K mg base CX0 (k + 1) f fd ps sp := F.ok (CX := CX0) S len (fun cdv A outer s H vs Q E hr h => by
    obtain ⟨t, h1, h2⟩ := hb f cdv A outer s H vs Q E hr h
    exact ⟨t, h1.nox, h2⟩)
  exact ⟨⟨f, fd, ps, gg, h, g, F.kp, kb⟩, ⟨f, fd, ps, ds, h, g, F.kp, b, hd⟩⟩
end
section
variable {X : Cx} {k j n : Nat} {ks : List Str} {sp : Sp} {x : Str} {p pos : Pos} {e : Expr} {es : List Expr} {kws : List Keyword} {t tk : TA}
theorem pe_ck (c : CalK X.prog X.w X.K X.mg X.base k x n ks sp) (hr : Room j X.A) (hk : k ≤ j) (hg : Gl X x) (ha : PA X (e :: es) t) (hkw : PK X kws tk) (hall : (backToKw pos (keywordEach kws X.env)).all (·.1.isSome) = true := by rfl) (hks : (backToKw pos (keywordEach kws X.env)).filterMap (·.1) = ks := by rfl)
    (hdb : (x == ("__debug__" : Str)) = false := by decide) (he : starEach (e :: es) X.env = (false, eval e X.env) :: starEach es X.env := by rfl)
    (hpl : ((backTo pos (starEach (e :: es) X.env)).any (·.1) || (backToKw pos (keywordEach kws X.env)).any (·.1.isNone)) = false := by rfl) :
    PE X (.Call (.Name x p) (e :: es) kws pos) (tCallN n ks.length sp (fun vs zs => vs ++ zs) E0 t tk) := by
  obtain ⟨f, fd, ps, g, F, hm, kp, kb⟩ := c.ex
  exact pe_callN F (hr.mono hk) hg hm kp kb pass0 ha hkw hall hks hdb he hpl
end
/-! ### heaps: all but the drawing hand stands -/
def Fr (h : Addr) (H H' : Hp) : Prop := ∀ a o, a ≠ h → H a = some o → H' a = some o
theorem Fr.refl (h : Addr) (H : Hp) : Fr h H H := fun _ _ _ e => e
theorem Fr.trans {h : Addr} {H H1 H2 : Hp} (a : Fr h H H1) (b : Fr h H1 H2) : Fr h H H2 := fun x o n e => b x o n (a x o n e)
theorem Fr.new {h : Addr} {H : Hp} {p : Addr} {o : HO} (e : H p = none) : Fr h H (upd H p o) := fun a u _ q => by
  rw [upd_ne (ne_of_none q e)]
  exact q
/-- what h did not know may change -/
theorem Fr.mut {h : Addr} {H H' : Hp} {p : Addr} {o : HO} (f : Fr h H H') (e : H p = none) : Fr h H (upd H' p o) := fun a u n q => by
  rw [upd_ne (ne_of_none q e)]
  exact f a u n q
theorem Fr.hand {h : Addr} {H : Hp} {o : HO} : Fr h H (upd H h o) := fun a u n q => by
  rw [upd_ne n]
  exact q
theorem Fr.seq {h : Addr} {K : PySem.W.Frag} {H H' : Hp} {a : Addr} {xs : List V} (f : Fr h H H') (n : a ≠ h) (q : SqL K H a xs) : SqL K H' a xs := by
  rcases q with (q | ⟨o, q⟩) | q
  · exact .inl (.inl (f _ _ n q))
  · exact .inl (.inr ⟨o, f _ _ n q⟩)
  · exact .inr q
theorem Fr.seqT {h : Addr} {K : PySem.W.Frag} {H H' : Hp} {a : Addr} {xs : List V} (f : Fr h H H') (n : a ≠ h) (q : SqT K H a xs) : SqT K H' a xs := by
  rcases q with (q | ⟨o, q⟩) | q
  · exact .inl (.inl (f _ _ n q))
  · exact .inl (.inr ⟨o, f _ _ n q⟩)
  · exact .inr q
/-- the hand: three numbers; n bounds how often it drew -/
def HS (h : Addr) (n : Nat) (H : Hp) : Prop := ∃ g b c : Int, H h = some (.lst [.int g, .int b, .int c]) ∧ 0 ≤ g ∧ g < 10 ^ 90 ∧ 0 ≤ b ∧ b < 2 ^ 62 ∧ 0 ≤ c ∧ c ≤ n
theorem HS.mono {h : Addr} {n m : Nat} {H : Hp} (q : HS h n H) (l : n ≤ m) : HS h m H := by
  obtain ⟨g, b, c, e, g0, g1, b0, b1, c0, c1⟩ := q
  exact ⟨g, b, c, e, g0, g1, b0, b1, c0, by omega⟩
theorem HS.new {h : Addr} {n : Nat} {H : Hp} {p : Addr} {o : HO} (q : HS h n H) (e : H p = none) : HS h n (upd H p o) := by
  obtain ⟨g, b, c, eh, r⟩ := q
  exact ⟨g, b, c, (by rw [upd_ne (ne_of_none eh e)]; exact eh), r⟩
theorem HS.at {h : Addr} {n : Nat} {H : Hp} (q : HS h n H) : ∃ o, H h = some o := by
  obtain ⟨g, b, c, e, _⟩ := q
  exact ⟨_, e⟩
theorem HS.ne {h : Addr} {n : Nat} {H : Hp} {p : Addr} (q : HS h n H) (e : H p = none) : p ≠ h := by
  obtain ⟨g, b, c, eh, _⟩ := q
  exact fun z => by
    rw [z, eh] at e
    cases e
/-! ### the drawing defs of the law -/
def lim : Nat := 100000
/-- hand(script, k) -/
def spHand (K : PySem.W.Frag) : Sp := fun vs H Q _ => ∃ (a : Addr) (ns : List Int) (k : Nat), vs = [.ref a, .int k] ∧ SqL K H a (ns.map V.int) ∧ k ≤ 100 ∧ ∀ p H', H p = none → (∀ q o, H q = some o → H' q = some o) → HS p 0 H' → Q (.ref p) H'
/-- take(hand, many): some number below many -/
def spTake : Sp := fun vs H Q _ => ∃ (h : Addr) (m : Int) (n : Nat), vs = [.ref h, .int m] ∧ HS h n H ∧ n < lim ∧ 0 < m ∧ m ≤ 10 ^ 18 ∧ ∀ d H', 0 ≤ d → d < m → HS h (n + 1) H' → Fr h H H' → Q (.int d) H'
/-- of(hand, some) -/
def spOf (K : PySem.W.Frag) : Sp := fun vs H Q _ => ∃ (h a : Addr) (xs : List V) (n : Nat), vs = [.ref h, .ref a] ∧ HS h n H ∧ n < lim ∧ a ≠ h ∧ SqL K H a xs ∧ 0 < xs.length ∧ xs.length ≤ 1000 ∧ ∀ v H', v ∈ xs → HS h (n + 1) H' → Fr h H H' → Q v H'
theorem pow_ok {i j : Int} (h : 0 ≤ j ∧ j ≤ 1000000 ∧ i.natAbs < 2 ^ 64) : CPow i j := h
theorem atI_in {xs : List V} {i : Int} (h0 : 0 ≤ i) (h1 : i < xs.length) : ∃ v, atI xs i = some v ∧ v ∈ xs := by
  have h2 : i.toNat < xs.length := by omega
  refine ⟨xs[i.toNat], ?_, List.getElem_mem h2⟩
  have e := atI_nat (xs := xs) (j := i.toNat) (List.getElem?_eq_getElem h2)
  rw [Int.toNat_of_nonneg h0] at e
  exact e
theorem if01 (b : Bool) : 0 ≤ (if b = true then (1 : Int) else 0) ∧ (if b = true then (1 : Int) else 0) ≤ 1 := by
  cases b <;> decide
theorem w45 : (((10 : Int) ^ (45 : Int).toNat).natAbs) < 2 ^ 150 := by decide +kernel
theorem e90 : ((10 : Int) ^ (45 : Int).toNat) * ((10 : Int) ^ (45 : Int).toNat) = 10 ^ 90 := by decide +kernel
theorem p17 : ((10 : Int) ^ (17 : Int).toNat) = 100000000000000000 := by decide +kernel
theorem p18 : ((10 : Int) ^ (18 : Int).toNat) = 1000000000000000000 := by decide +kernel
theorem p19 : ((2 : Int) ^ (19 : Int).toNat) = 524288 := by decide +kernel
theorem p20 : ((2 : Int) ^ (20 : Int).toNat) = 1048576 := by decide +kernel
theorem cdw {i j : Int} (h : 0 < j) (h1 : j ≤ 1000000000000000000) : CDivW i j := wide_div (b := 64) h (by omega) (by decide) (by decide)
section
variable {P : Program} {w : World} {K : PySem.W.Frag} {mg : Str → Option Value} {base : Heap}
theorem ok_hand (T : Tx K mg) : BodyOk P w K mg base "_law_hand" s_l_hand N_l_hand 0 (spHand K) := by
  intro f cdv A outer s H vs Q E hr h
  obtain ⟨a, ns, k, rfl, hS, hk, q⟩ := h
  refine ⟨_, (pss_cons (ps_set (i := 2) sc_l_hand.nd rfl (Or.inl rfl) (pe_ifExp (pt_cmpR op_lt (pv 1) (pe_callB call_len_seq (gl_of gl_l_hand_len) T.len bb_len (pa_cons (pv 0) pa_nil)) (nomark _)) (pe_ix ix_list (pv 0) (pv 1) (fun _ _ => rfl)) pe_int))
      (pss_cons (ps_set (i := 3) sc_l_hand.nd rfl (Or.inl rfl) (pe_op op_mul (pe_op op_mod (pe_callB call_abs (gl_of gl_l_hand_abs) T.abs bb_abs (pa_cons (pv 2) pa_nil)) (pe_op op_mulW (pe_op op_pow pe_int pe_int) (pe_op op_pow pe_int pe_int))) (pe_callTy call_int1 (gl_of gl_l_hand_int) T.int bt_int (pa_cons (pe_cmpR op_ge (pe_callB call_abs (gl_of gl_l_hand_abs) T.abs bb_abs (pa_cons (pv 2) pa_nil)) (pe_op op_pow pe_int pe_int) (nomark _)) pa_nil))))
      (pss_one (ps_ret (pe_lst (pa_cons (pv 3) (pa_cons (pe_op op_add (pe_op op_add (pe_op op_mod (pv 2) pe_int) (pe_op op_mul pe_int (pv 1))) pe_int) (pa_cons pe_int pa_nil)))))))), ?_⟩
  refine st_seq (st_setH (PV := fun v H' => H' = H ∧ ∃ c : Int, v = .int c) (fun Q2 q2 => ?_) (fun v H' hv => ?_))
  · refine ⟨_, rfl, _, rfl, a, _, rfl, .inl hS, _, _, rfl, rfl, _, rfl, ite2 (fun e => ?_) (fun e => ?_)⟩
    · have e1 := of_decide_eq_true e
      rw [List.length_map] at e1
      have e2 : k < ns.length := by omega
      refine ⟨_, rfl, _, rfl, a, _, _, .int ns[k], rfl, rfl, hS, ?_, q2 _ _ ⟨rfl, _, rfl⟩⟩
      refine atI_nat ?_
      rw [List.getElem?_map, List.getElem?_eq_getElem e2]
      rfl
    · exact q2 _ _ ⟨rfl, _, rfl⟩
  · obtain ⟨rfl, c, rfl⟩ := hv
    refine st_seq ?_
    refine ⟨_, rfl, _, rfl, _, _, rfl, rfl, pow_ok (by decide), _, _, rfl, rfl, pow_ok (by decide), _, _, rfl, rfl, wide_mul w45 w45 (by decide) (by decide) (by decide), _, _, rfl, rfl, ?_, ?_⟩
    · rw [e90]
      show (0 : Int) < 10 ^ 90
      decide
    · refine ⟨_, rfl, _, rfl, _, _, rfl, rfl, pow_ok (by decide), _, _, rfl, rfl, .inr ⟨_, rfl, _, _, rfl, rfl, .inr ?_, ?_⟩⟩
      · have z := if01 (decide (((10 : Int) ^ (18 : Int).toNat) ≤ (if c < 0 then -c else c)))
        exact ⟨Int.lt_of_lt_of_le (by decide) z.1, Int.lt_of_le_of_lt z.2 (by decide)⟩
      · refine ⟨_, rfl, _, rfl, _, _, rfl, rfl, (show (0 : Int) < 2305843009213693951 by decide), _, rfl, _, _, rfl, rfl, .inl (by decide), _, _, rfl, rfl, _, _, rfl, rfl, by show 3 ≤ sizeLine; decide, fun p np => ?_⟩
        refine q _ _ np (fun b o e => ?_) ⟨_, _, _, upd_same, ?_, ?_, ?_, ?_, ?_, ?_⟩
        · rw [upd_ne (ne_of_none e np)]
          exact e
        · rw [e90]
          exact Int.mul_nonneg (Int.emod_nonneg _ (by decide)) (if01 _).1
        · rw [e90]
          have h1 : (if c < 0 then -c else c) % (10 ^ 90) < 10 ^ 90 := Int.emod_lt_of_pos _ (by decide)
          have h0 : 0 ≤ (if c < 0 then -c else c) % (10 ^ 90) := Int.emod_nonneg _ (by decide)
          cases (decide (((10 : Int) ^ (18 : Int).toNat) ≤ (if c < 0 then -c else c))) with
          | true =>
            rw [if_pos rfl, Int.mul_one]
            exact h1
          | false =>
            rw [if_neg Bool.false_ne_true, Int.mul_zero]
            decide
        · have h1 : 0 ≤ c % 2305843009213693951 := Int.emod_nonneg _ (by decide)
          omega
        · have h1 : c % 2305843009213693951 < 2305843009213693951 := Int.emod_lt_of_pos _ (by decide)
          have h2 : (2 : Int) ^ 62 = 4611686018427387904 := by decide
          omega
        · decide
        · decide
def primes : List V := [.int 2147483647, .int 2147483629, .int 2147483587, .int 2147483579, .int 2147483563, .int 2147483549, .int 2147483543, .int 2147483497]
theorem primes_in : ∀ v ∈ primes, ∃ q : Int, v = .int q ∧ 0 < q ∧ q < 2147483648 := by
  intro v hv
  simp only [primes, List.mem_cons, List.not_mem_nil, or_false] at hv
  rcases hv with rfl | rfl | rfl | rfl | rfl | rfl | rfl | rfl <;> exact ⟨_, rfl, by decide, by decide⟩
theorem ok_take (T : Tx K mg) : BodyOk P w K mg base "_law_take" s_l_take N_l_take 0 spTake := by
  intro f cdv A outer s H vs Q E hr h
  obtain ⟨h, m, n, rfl, ⟨g, b, c, eh, g0, g1, b0, b1, c0, c1⟩, hn, m0, m1, q⟩ := h
  refine ⟨_, (pss_cons (ps_if (pt_cmpR op_gt (pe_ix ix_list (pv 0) pe_int (fun _ _ => rfl)) pe_int (nomark _)) (pss_cons (ps_set (i := 2) sc_l_take.nd rfl (Or.inl rfl) (pe_op op_mod (pe_ix ix_list (pv 0) pe_int (fun _ _ => rfl)) (pv 1)))
      (pss_cons (ps_asg (pe_op op_fdivW (pe_ix ix_list (pv 0) pe_int (fun _ _ => rfl)) (pv 1)) (pg_sub (pv 0) pe_int set_list))
      (pss_one (ps_ret (pv 2))))) pss_nil)
      (pss_cons (ps_asg (pe_op op_add (pe_ix ix_list (pv 0) pe_int (fun _ _ => rfl)) pe_int) (pg_sub (pv 0) pe_int set_list))
      (pss_cons (ps_set (i := 3) sc_l_take.nd rfl (Or.inl rfl) (pe_lst (pa_cons pe_int (pa_cons pe_int (pa_cons pe_int (pa_cons pe_int (pa_cons pe_int (pa_cons pe_int (pa_cons pe_int (pa_cons pe_int pa_nil))))))))))
      (pss_cons (ps_set (i := 4) sc_l_take.nd rfl (Or.inl rfl) (pe_ix ix_list (pv 3) (pe_op op_mod (pe_ix ix_list (pv 0) pe_int (fun _ _ => rfl)) pe_int) (fun _ _ => rfl)))
      (pss_cons (ps_set (i := 5) sc_l_take.nd rfl (Or.inl rfl) (pe_op op_mod (pe_op op_pow (pe_op op_add (pe_ix ix_list (pv 0) pe_int (fun _ _ => rfl)) (pe_op op_mul pe_int (pe_ix ix_list (pv 0) pe_int (fun _ _ => rfl)))) pe_int) (pv 4)))
      (pss_one (ps_ret (pe_op op_mod (pe_op op_fdivW (pe_op op_mod (pe_op op_mul (pv 5) (pe_op op_add (pe_op op_mod (pv 5) pe_int) (pe_ix ix_list (pv 0) pe_int (fun _ _ => rfl)))) (pv 4)) pe_int) (pv 1))))))))), ?_⟩
  have hn2 : (n : Int) < 100000 := by
    have z : n < 100000 := hn
    omega
  have p18' : (10 : Int) ^ 18 = 1000000000000000000 := by decide
  have p62 : (2 : Int) ^ 62 = 4611686018427387904 := by decide
  refine st_seq ?_
  refine ⟨_, rfl, h, _, _, _, rfl, rfl, SqL.of eh, rfl, _, _, rfl, rfl, _, rfl, ite2 (fun z => ?_) (fun z => ?_)⟩
  · refine ⟨_, rfl, h, _, _, _, rfl, rfl, SqL.of eh, rfl, _, rfl, _, _, rfl, rfl, m0, ?_⟩
    refine ⟨_, rfl, h, _, _, _, rfl, rfl, SqL.of eh, rfl, _, rfl, _, _, rfl, rfl, cdw m0 (by omega), ?_⟩
    refine ⟨_, rfl, h, _, _, 0, rfl, rfl, eh, rfl, ?_⟩
    refine ⟨_, rfl, q _ _ (Int.emod_nonneg _ (by omega)) (Int.emod_lt_of_pos _ m0) ⟨_, b, c, upd_same, ?_, ?_, b0, b1, c0, ?_⟩ Fr.hand⟩
    · exact Int.ediv_nonneg g0 (by omega)
    · exact Int.lt_of_le_of_lt (Int.ediv_le_self _ g0) g1
    · omega
  · refine st_seq ?_
    refine ⟨_, rfl, h, _, _, _, rfl, rfl, SqL.of eh, rfl, _, _, rfl, rfl, _, rfl, h, _, _, 2, rfl, rfl, eh, rfl, ?_⟩
    have e2 : (upd H h (.lst [.int g, .int b, .int (c + 1)])) h = some (.lst [.int g, .int b, .int (c + 1)]) := upd_same
    refine st_seq ⟨by show 8 ≤ sizeLine; decide, fun p np => ?_⟩
    have hpn : h ≠ p := ne_of_none e2 np
    have e3 : (upd (upd H h (.lst [.int g, .int b, .int (c + 1)])) p (.lst primes)) h = some (.lst [.int g, .int b, .int (c + 1)]) := by
      rw [upd_ne hpn]
      exact e2
    obtain ⟨v, ev, hv⟩ := atI_in (xs := primes) (i := (c + 1) % 8) (Int.emod_nonneg _ (by decide)) (Int.emod_lt_of_pos _ (by decide))
    obtain ⟨r, rfl, r0, r1⟩ := primes_in v hv
    refine st_seq ?_
    refine ⟨_, rfl, _, rfl, h, _, _, _, rfl, rfl, SqL.of e3, rfl, _, _, rfl, rfl, (show (0 : Int) < 8 by decide), p, _, _, _, rfl, rfl, SqL.of upd_same, ev, ?_⟩
    refine st_seq ?_
    refine ⟨_, rfl, h, _, _, _, rfl, rfl, SqL.of e3, rfl, _, rfl, h, _, _, _, rfl, rfl, SqL.of e3, rfl, _, _, rfl, rfl, .inl (by decide), _, _, rfl, rfl, _, _, rfl, rfl, pow_ok ⟨by decide, by decide, by omega⟩, _, rfl, _, _, rfl, rfl, r0, ?_⟩
    refine ⟨_, rfl, _, rfl, _, _, rfl, rfl, (show (0 : Int) < 1009 by decide), _, rfl, h, _, _, _, rfl, rfl, SqL.of e3, rfl, _, _, rfl, rfl, _, _, rfl, rfl, .inl ?_, _, rfl, _, _, rfl, rfl, r0, _, _, rfl, rfl, cdw (by decide) (by decide), _, rfl, _, _, rfl, rfl, m0, ?_⟩
    · have h1 : 0 ≤ (b + 7919 * (c + 1)) ^ (5 : Int).toNat % r := Int.emod_nonneg _ (by omega)
      have h2 : (b + 7919 * (c + 1)) ^ (5 : Int).toNat % r < r := Int.emod_lt_of_pos _ r0
      have h3 : (2 : Int) ^ 64 = 18446744073709551616 := by decide
      rw [h3]
      exact ⟨by omega, by omega⟩
    · refine q _ _ (Int.emod_nonneg _ (by omega)) (Int.emod_lt_of_pos _ m0) ⟨g, b, c + 1, e3, g0, g1, b0, b1, by omega, by omega⟩ (Fr.trans Fr.hand (Fr.new np))
end
/-! ### the law's own going round -/
def wayI (x y s : Int) : Int := if x ≤ y then y - x else y - x + s
theorem way_eq {x y s : Int} (x0 : 0 ≤ x) (x1 : x < s) (y0 : 0 ≤ y) (y1 : y < s) : (y - x) % s = wayI x y s := by
  unfold wayI
  split
  · rw [Int.emod_eq_of_lt (by omega) (by omega)]
  · have z : (y - x) % s = (y - x + s) % s := by
      rw [Int.add_emod_right]
    rw [z, Int.emod_eq_of_lt (by omega) (by omega)]
theorem HS.same {h : Addr} {n : Nat} {H H' : Hp} (q : HS h n H) (e : Same H H') : HS h n H' := by
  obtain ⟨g, b, c, eh, r⟩ := q
  exact ⟨g, b, c, e _ _ eh, r⟩
theorem Fr.same {h : Addr} {H H' : Hp} (e : Same H H') : Fr h H H' := fun a o _ q => e a o q
theorem same_new {H : Hp} {p : Addr} {o : HO} (h : H p = none) : Same H (upd H p o) := fun b x e => by
  rw [upd_ne (ne_of_none e h)]
  exact e
theorem seq_new {K : PySem.W.Frag} {H H' : Hp} {a p : Addr} {xs : List V} (q : SqL K H a xs) (e : H p = none) (f : Fr p H H') : SqL K H' a xs := by
  rcases q with (q | ⟨o, q⟩) | q
  · exact .inl (.inl (f _ _ (ne_of_none q e) q))
  · exact .inl (.inr ⟨o, f _ _ (ne_of_none q e) q⟩)
  · exact .inr q
theorem all_rep (n : Nat) : (List.replicate n true).all id = true := by
  rw [List.all_eq_true]
  intro x hx
  exact (List.eq_of_mem_replicate hx)
theorem if_join {c : TT} {t1 t2 : TS} {D : Ends} {σ : L2.St} {H : Hp} (J : L2.St → Hp → Prop) (h : ∀ (N : L2.St → Hp → Prop), (∀ σ' H', J σ' H' → N σ' H') → tIfS c t1 t2 { D with nx := N } σ H) (q : ∀ σ' H', J σ' H' → D.nx σ' H') : tIfS c t1 t2 D σ H := h D.nx q
def spLaw (K : PySem.W.Frag) : Sp := fun vs H Q _ => ∃ (a : Addr) (ns : List Int), vs = [.ref a] ∧ SqL K H a (ns.map V.int) ∧ ns.length ≤ 63 ∧ ∀ H', Q (.bl true) H'
section
variable {P : Program} {w : World} {K : PySem.W.Frag} {mg : Str → Option Value} {base : Heap}
def spSize : Sp := fun vs H Q _ => ∃ (h : Addr) (n : Nat), vs = [.ref h] ∧ HS h n H ∧ n + 3 < lim ∧ ∀ s H', 8 ≤ s → s ≤ 1048576 → s % 2 = 0 → HS h (n + 3) H' → Fr h H H' → Q (.int s) H'
theorem ok_of (T : Tx K mg) (c_l_take : C8.Cal P w K mg base 1 "_law_take" spTake []) : BodyOk P w K mg base "_law_of" s_l_of N_l_of 1 (spOf K) := by
  intro f cdv A outer s H vs Q E hr h
  obtain ⟨h, a, xs, n, rfl, hs, hn, ne, hS, l0, l1, q⟩ := h
  refine ⟨_, (pss_one (ps_ret (pe_ix ix_list (pv 1) (C8.pe_c c_l_take hr (by decide) (gl_of gl_l_of_l_take) (pa_cons (pv 0) (pa_cons (pe_callB call_len_seq (gl_of gl_l_of_len) T.len bb_len (pa_cons (pv 1) pa_nil)) pa_nil))) (fun _ _ => rfl)))), ?_⟩
  refine ⟨_, rfl, _, rfl, _, rfl, a, xs, rfl, .inl hS, h, _, n, rfl, hs, hn, ?_, ?_, fun d H1 d0 d1 hs1 f1 => ?_⟩
  · omega
  · have z : (10 : Int) ^ 18 = 1000000000000000000 := by decide
    omega
  · obtain ⟨v, ev, hv⟩ := atI_in d0 d1
    exact ⟨a, xs, d, v, rfl, rfl, f1.seq ne hS, ev, q v H1 hv hs1 f1⟩
theorem ok_size (T : Tx K mg) (c_l_take : C8.Cal P w K mg base 1 "_law_take" spTake []) (c_l_of : C8.Cal P w K mg base 2 "_law_of" (spOf K) []) : BodyOk P w K mg base "_law_size" s_l_size N_l_size 2 spSize := by
  intro f cdv A outer s H vs Q E hr h
  obtain ⟨h, n, rfl, hs, hn, q⟩ := h
  have hn2 : n + 3 < 100000 := hn
  refine ⟨_, (pss_cons (ps_set (i := 1) sc_l_size.nd rfl (Or.inl rfl) (C8.pe_c c_l_of hr (by decide) (gl_of gl_l_size_l_of) (pa_cons (pv 0) (pa_cons (pe_lst (pa_cons pe_int (pa_cons pe_int (pa_cons pe_int (pa_cons pe_int (pa_cons pe_int (pa_cons pe_int pa_nil))))))) pa_nil))))
      (pss_one (ps_ret (C8.pe_c c_l_of hr (by decide) (gl_of gl_l_size_l_of) (pa_cons (pv 0) (pa_cons (pe_lst (pa_cons (pv 1) (pa_cons (pv 1) (pa_cons (pv 1) (pa_cons pe_int (pa_cons (pe_op op_pow pe_int pe_int) (pa_cons (pe_op op_add pe_int (pe_op op_mul pe_int (C8.pe_c c_l_take hr (by decide) (gl_of gl_l_size_l_take) (pa_cons (pv 0) (pa_cons pe_int pa_nil))))) pa_nil))))))) pa_nil)))))), ?_⟩
  refine st_seq ?_
  refine ⟨_, rfl, (show 6 ≤ sizeLine by decide), fun p np => ?_⟩
  refine ⟨h, p, _, n, rfl, hs.new np, (show n < 100000 by omega), hs.ne np, SqL.of upd_same, (show 0 < 6 by decide), (show 6 ≤ 1000 by decide), fun v H1 hv hs1 f1 => ?_⟩
  have hx : ∃ z : Int, v = .int z ∧ 8 ≤ z ∧ z ≤ 1048576 ∧ z % 2 = 0 := by
    simp only [List.mem_cons, List.not_mem_nil, or_false] at hv
    rcases hv with rfl | rfl | rfl | rfl | rfl | rfl <;> exact ⟨_, rfl, by decide, by decide, by decide⟩
  obtain ⟨z, rfl, z0, z1, z2⟩ := hx
  have f01 : Fr h H H1 := (Fr.new np).trans f1
  refine ⟨_, rfl, _, rfl, _, rfl, _, rfl, _, _, rfl, rfl, pow_ok (by decide), _, rfl, h, 300, n + 1, rfl, hs1, (show n + 1 < 100000 by omega), by decide, by decide, fun d H2 d0 d1 hs2 f2 => ?_⟩
  refine ⟨_, _, rfl, rfl, .inl (by decide), _, _, rfl, rfl, (show 6 ≤ sizeLine by decide), fun p2 np2 => ?_⟩
  refine ⟨h, p2, [.int z, .int z, .int z, .int 64, .int (2 ^ (20 : Int).toNat), .int (8 + 2 * d)], n + 1 + 1, rfl, hs2.new np2, (show n + 1 + 1 < 100000 by omega), hs2.ne np2, SqL.of upd_same, (show 0 < 6 by decide), (show 6 ≤ 1000 by decide), fun v H4 hv hs4 f4 => ?_⟩
  have hx : ∃ z : Int, v = .int z ∧ 8 ≤ z ∧ z ≤ 1048576 ∧ z % 2 = 0 := by
    simp only [p20, List.mem_cons, List.not_mem_nil, or_false] at hv
    rcases hv with rfl | rfl | rfl | rfl | rfl | rfl <;> exact ⟨_, rfl, by omega, by omega, by omega⟩
  obtain ⟨y, rfl, y0, y1, y2⟩ := hx
  exact q y H4 y0 y1 y2 hs4 ((f01.trans f2).trans ((Fr.new np2).trans f4))
end
/-! ### the ring's defs -/
def spOn : Sp := fun vs H Q _ => ∃ x m s : Int, vs = [.int x, .int m, .int s] ∧ 0 < s ∧ Q (.int ((x + m) % s)) H
def spSteps : Sp := fun vs H Q _ => ∃ x y s : Int, vs = [.int x, .int y, .int s] ∧ 0 < s ∧ Q (.int ((y - x) % s)) H
section
variable {P : Program} {w : World} {K : PySem.W.Frag} {mg : Str → Option Value} {base : Heap}
theorem ok_steps : BodyOk P w K mg base "steps" s_steps N_steps 0 spSteps := by
  intro f cdv A outer s H vs Q E hr h
  obtain ⟨x, y, s, rfl, s0, q⟩ := h
  refine ⟨_, (pss_one (ps_ret (pe_op op_mod (pe_op op_sub (pv 1) (pv 0)) (pv 2)))), ?_⟩
  exact ⟨_, rfl, _, rfl, _, _, rfl, rfl, _, rfl, _, _, rfl, rfl, s0, q⟩
def spBefore : Sp := fun vs H Q _ => ∃ x y s : Int, vs = [.int x, .int y, .int s] ∧ 0 < s ∧ s ≤ 1048576 ∧ Q (.bl (decide (0 < (y - x) % s) && decide ((y - x) % s < s / 2))) H
theorem ok_before (k_steps : CalK P w K mg base 1 "steps" 2 ["ring"] spSteps) : BodyOk P w K mg base "before" s_before N_before 1 spBefore := by
  intro f cdv A outer s H vs Q E hr h
  obtain ⟨x, y, s, rfl, s0, s1, q⟩ := h
  refine ⟨_, (pss_one (ps_ret (pe_chain op_lt op_lt pe_int (pe_ck k_steps hr (by decide) (gl_of gl_before_steps) (pa_cons (pv 0) (pa_cons (pv 1) pa_nil)) (pk_cons (pv 2) pk_nil)) (pe_op op_fdivW (pv 2) pe_int)))), ?_⟩
  refine ⟨_, rfl, _, rfl, _, rfl, rfl, rfl, x, y, s, rfl, s0, _, _, rfl, rfl, _, rfl, ite2 (fun z => ?_) (fun z => ?_)⟩
  · refine ⟨_, rfl, _, _, rfl, rfl, cdw (by decide) (by decide), _, _, rfl, rfl, ?_⟩
    rw [z, Bool.true_and] at q
    exact q
  · rw [Bool.eq_false_iff.mpr z, Bool.false_and] at q
    exact q
end
/-! ### looks -/
def bef (x y s : Int) : Bool := decide (0 < (y - x) % s) && decide ((y - x) % s < s / 2)
def don (z : Str) (c : Int) (xs : List Int) (n s : Int) : Bool := decide (V.str z = V.str "done") && (bef n c s && !inV (.int n) (xs.map V.int))
theorem Fr.free {h : Addr} {H H' : Hp} {p : Addr} (f : Fr h H H') (n : p ≠ h) (e : H' p = none) : H p = none := by
  cases q : H p with
  | none => rfl
  | some o =>
    rw [f _ _ n q] at e
    cases e
/-- a look at a: its next number, its open ones -/
def Lk (K : PySem.W.Frag) (H : Hp) (a : Addr) (c : Int) (xs : List Int) : Prop := ∃ t, SqT K H a [.int c, .ref t] ∧ SqT K H t (xs.map V.int)
theorem ne_tl {H : Hp} {a b : Addr} {xs ys : List V} (h1 : H a = some (.tup xs)) (h2 : H b = some (.lst ys)) : a ≠ b := fun e => by
  rw [e, h2] at h1
  cases h1
theorem HS.neT {h : Addr} {n : Nat} {H : Hp} {p : Addr} {xs : List V} (q : HS h n H) (e : H p = some (.tup xs)) : p ≠ h := by
  obtain ⟨g, b, c, eh, _⟩ := q
  exact ne_tl e eh
theorem HS.sqT {h : Addr} {n : Nat} {K : PySem.W.Frag} {H H' : Hp} {a : Addr} {xs : List V} (q : HS h n H) (f : Fr h H H') (s : SqT K H a xs) : SqT K H' a xs := by
  obtain ⟨g, b, c, eh, _⟩ := q
  rcases s with (s | ⟨o, s⟩) | s
  · exact .inl (.inl (f _ _ (fun e => by rw [e, eh] at s; cases s) s))
  · exact .inl (.inr ⟨o, f _ _ (fun e => by rw [e, eh] at s; cases s) s⟩)
  · exact .inr s
theorem HS.lk {h : Addr} {n : Nat} {K : PySem.W.Frag} {H H' : Hp} {a : Addr} {c : Int} {xs : List Int} (q : HS h n H) (f : Fr h H H') (l : Lk K H a c xs) : Lk K H' a c xs := by
  obtain ⟨t, h1, h2⟩ := l
  exact ⟨t, q.sqT f h1, q.sqT f h2⟩
theorem sqT_same {K : PySem.W.Frag} {H H' : Hp} {a : Addr} {xs : List V} (s : Same H H') (h : SqT K H a xs) : SqT K H' a xs := by
  rcases h with (h | ⟨o, h⟩) | h
  · exact .inl (.inl (s _ _ h))
  · exact .inl (.inr ⟨o, s _ _ h⟩)
  · exact .inr h
theorem Lk.same {K : PySem.W.Frag} {H H' : Hp} {a : Addr} {c : Int} {xs : List Int} (s : Same H H') (l : Lk K H a c xs) : Lk K H' a c xs := by
  obtain ⟨t, h1, h2⟩ := l
  exact ⟨t, sqT_same s h1, sqT_same s h2⟩
theorem flat_ints : ∀ ks : List Int, (ks.map V.int).all flatV = true
  | [] => rfl
  | k :: r => by
    show (flatV (.int k) && (r.map V.int).all flatV) = true
    rw [flat_ints r]
    rfl
/-- how far back the open ones stand: the eldest first -/
structure Back (s : Int) (bs : List Int) : Prop where
  dec : bs.Pairwise (· > ·)
  pos : ∀ b ∈ bs, 0 < b ∧ b < s / 2
  len : bs.length ≤ 6
def spLook (K : PySem.W.Frag) : Sp := fun vs H Q _ => ∃ (h : Addr) (s : Int) (n : Nat), vs = [.ref h, .int s] ∧ HS h n H ∧ n + 21 < lim ∧ 8 ≤ s ∧ s ≤ 1048576 ∧
  ∀ a c bs H', Back s bs → 0 ≤ c → c < s → Lk K H' a c (bs.map fun b => (c - b) % s) → HS h (n + 21) H' → Fr h H H' → Q (.ref a) H'
def spLow (K : PySem.W.Frag) : Sp := fun vs H Q _ => ∃ (a : Addr) (c : Int) (xs : List Int), vs = [.ref a] ∧ Lk K H a c xs ∧ Q (.int (xs.headD c)) H
def spSees (K : PySem.W.Frag) : Sp := fun vs H Q _ => ∃ (a : Addr) (c : Int) (xs : List Int) (n : Int) (z : Str) (s : Int), vs = [.ref a, .int n, .str z, .int s] ∧ Lk K H a c xs ∧ 0 < s ∧ s ≤ 1048576 ∧ Q (.bl (don z c xs n s)) H
section
variable {P : Program} {w : World} {K : PySem.W.Frag} {mg : Str → Option Value} {base : Heap}
theorem ok_sees (k_before : CalK P w K mg base 2 "before" 2 ["ring"] spBefore) : BodyOk P w K mg base "sees" s_sees N_sees 2 (spSees K) := by
  intro f cdv A outer s H vs Q E hr h
  obtain ⟨a, c, xs, n, z, s, rfl, ⟨t, h1, h2⟩, s0, s1, q⟩ := h
  refine ⟨_, (pss_cons (ps_asg (pv 0) (pg_tup rfl (pgs_cons (pg_name (i := 4) sc_sees.nd rfl (Or.inl rfl)) (pgs_cons (pg_name (i := 5) sc_sees.nd rfl (Or.inl rfl)) pgs_nil))))
      (pss_one (ps_ret (pe_and (pe_cmpR op_eq (pv 2) pe_str (nomark _)) (pe_and (pe_ck k_before hr (by decide) (gl_of gl_sees_before) (pa_cons (pv 1) (pa_cons (pv 4) pa_nil)) (pk_cons (pv 3) pk_nil)) (pe_one (pe_cmpR op_notIn_seq (pv 1) (pv 5) (by rfl)))))))), ?_⟩
  refine st_seq ?_
  refine ⟨_, rfl, a, _, rfl, h1, rfl, _, _, rfl, _, _, rfl, rfl, ?_⟩
  refine ⟨_, rfl, rfl, _, rfl, ite2 (fun y => ?_) (fun y => ?_)⟩
  · refine ⟨_, rfl, _, rfl, _, rfl, rfl, rfl, n, c, s, rfl, s0, s1, _, rfl, ite2 (fun y2 => ?_) (fun y2 => ?_)⟩
    · refine ⟨_, rfl, _, rfl, t, _, rfl, .inr h2, rfl, flat_ints xs, ?_⟩
      unfold don bef at q
      rw [y, y2] at q
      exact q
    · unfold don bef at q
      rw [y, Bool.eq_false_iff.mpr y2] at q
      exact q
  · unfold don at q
    rw [Bool.eq_false_iff.mpr y] at q
    exact q
end
/-! ### tuples: sums, slices, whatever they share -/
theorem catA_ev {K : PySem.W.Frag} {H : Hp} {a b : Addr} {xs ys : List V} {Q : VK} (ha : SqT K H a xs) (hb : SqT K H b ys) (hz : xs.length + ys.length ≤ 1000) (go : ∀ p H', Same H H' → SqT K H' p (xs ++ ys) → Q (.ref p) H') : rCatA K (.ref a) (.ref b) H Q := by
  refine ⟨a, b, xs, ys, rfl, rfl, ha, hb, Nat.le_of_lt (small1000 hz), fun e => ?_, fun e1 e2 => ?_, fun e1 e2 p np => ?_⟩
  · subst e
    exact go b H (fun _ _ q => q) hb
  · subst e2
    refine go a H (fun _ _ q => q) ?_
    rw [List.append_nil]
    exact ha
  · exact go p _ (same_new np) (SqT.of upd_same)
theorem slA_ev {K : PySem.W.Frag} {H : Hp} {a : Addr} {xs : List V} {lo hi : Option Int} {Q : VK} (ha : SqT K H a xs) (go : ∀ p H', Same H H' → SqT K H' p (cutV xs lo hi) → Q (.ref p) H') : rSlA K (.ref a) lo hi H Q := by
  refine ⟨a, xs, rfl, ha, fun e => ?_, fun e p np => ?_⟩
  · refine go a H (fun _ _ q => q) ?_
    unfold cutV
    rw [e.1, e.2, List.drop_zero, Nat.sub_zero, List.take_length]
    exact ha
  · exact go p _ (same_new np) (SqT.of upd_same)
theorem sqT_fr {K : PySem.W.Frag} {L : Addr} {H H' : Hp} {a : Addr} {xs zs : List V} (eL : H L = some (.lst zs)) (f : Fr L H H') (s : SqT K H a xs) : SqT K H' a xs := by
  rcases s with (s | ⟨o, s⟩) | s
  · exact .inl (.inl (f _ _ (fun e => by rw [e, eL] at s; cases s) s))
  · exact .inl (.inr ⟨o, f _ _ (fun e => by rw [e, eL] at s; cases s) s⟩)
  · exact .inr s
theorem HS.fr {h L : Addr} {n : Nat} {H H' : Hp} (q : HS h n H) (f : Fr L H H') (ne : L ≠ h) : HS h n H' := by
  obtain ⟨g, b, c, eh, r⟩ := q
  exact ⟨g, b, c, f _ _ ne.symm eh, r⟩
theorem HS.upd {h L : Addr} {n : Nat} {H : Hp} {o : HO} (q : HS h n H) (ne : L ≠ h) : HS h n (upd H L o) := by
  obtain ⟨g, b, c, eh, r⟩ := q
  exact ⟨g, b, c, (by rw [upd_ne ne.symm]; exact eh), r⟩
theorem lg {i : Int} (h : i.natAbs < 2 ^ 64) : i.natAbs.log2 < 1920 := by
  by_cases z : i.natAbs = 0
  · rw [z]
    decide
  · rw [Nat.log2_lt z]
    exact Nat.lt_trans h (Nat.pow_lt_pow_right (by decide) (by decide))
theorem same_mut {H H' : Hp} {p : Addr} {o : HO} (e : Same H H') (h : H p = none) : Same H (upd H' p o) := fun b x q => by
  rw [upd_ne (ne_of_none q h)]
  exact e b x q
theorem dec_refl (v : V) : decide (v = v) = true := decide_eq_true rfl
section
variable {P : Program} {w : World} {K : PySem.W.Frag} {mg : Str → Option Value} {base : Heap}
theorem ok_low (T : Tx K mg) : BodyOk P w K mg base "low" s_low N_low 0 (spLow K) := by
  intro f cdv A outer s H vs Q E hr h
  obtain ⟨a, c, xs, rfl, ⟨t, h1, h2⟩, q⟩ := h
  refine ⟨_, (pss_cons (ps_asg (pv 0) (pg_tup rfl (pgs_cons (pg_name (i := 1) sc_low.nd rfl (Or.inl rfl)) (pgs_cons (pg_name (i := 2) sc_low.nd rfl (Or.inl rfl)) pgs_nil))))
      (pss_one (ps_ret (pe_ifExp (pt_cmpR op_gt (pe_callB call_len_seq (gl_of gl_low_len) T.len bb_len (pa_cons (pv 2) pa_nil)) pe_int (nomark _)) (pe_ix ix_tup (pv 2) pe_int (fun _ _ => rfl)) (pv 1))))), ?_⟩
  refine st_seq ?_
  refine ⟨_, rfl, a, _, rfl, h1, rfl, _, _, rfl, _, _, rfl, rfl, ?_⟩
  refine ⟨_, rfl, t, _, rfl, .inr h2, _, _, rfl, rfl, _, rfl, ite2 (fun y => ?_) (fun y => ?_)⟩
  · cases xs with
    | nil => cases y
    | cons x r => exact ⟨_, rfl, t, _, 0, .int x, rfl, rfl, h2, atI_nat (j := 0) rfl, q⟩
  · cases xs with
    | nil => exact ⟨_, rfl, q⟩
    | cons x r =>
      refine absurd ?_ y
      refine decide_eq_true ?_
      rw [List.length_map, List.length_cons]
      omega
theorem ok_look (T : Tx K mg) (c_l_take : C8.Cal P w K mg base 1 "_law_take" spTake []) (c_l_of : C8.Cal P w K mg base 2 "_law_of" (spOf K) []) : BodyOk P w K mg base "_law_look" s_l_look N_l_look 2 (spLook K) := by
  intro f cdv A outer s H vs Q E hr h
  obtain ⟨h, s, n, rfl, hs, hn, s0, s1, q⟩ := h
  have hn2 : n + 21 < 100000 := hn
  have p18' : (10 : Int) ^ 18 = 1000000000000000000 := by decide
  refine ⟨_, (pss_cons (ps_par3 (i := 2) (j := 3) (l := 4) (by rfl) sc_l_look.nd rfl rfl rfl (by decide) (by decide) (by decide) rfl rfl rfl (pa_cons (C8.pe_c c_l_of hr (by decide) (gl_of gl_l_look_l_of) (pa_cons (pv 0) (pa_cons (pe_lst (pa_cons pe_int (pa_cons (pe_op op_sub (pv 1) pe_int) (pa_cons pe_int (pa_cons (C8.pe_c c_l_take hr (by decide) (gl_of gl_l_look_l_take) (pa_cons (pv 0) (pa_cons (pv 1) pa_nil))) pa_nil))))) pa_nil))) (pa_cons pe_int (pa_cons (pe_lst pa_nil) pa_nil))) (by rfl))
      (pss_cons (ps_for PassesOwn.never rfl (pi_range1 (by rfl) T.range (pa_cons (C8.pe_c c_l_of hr (by decide) (gl_of gl_l_look_l_of) (pa_cons (pv 0) (pa_cons (pe_lst (pa_cons pe_int (pa_cons pe_int (pa_cons pe_int (pa_cons pe_int (pa_cons pe_int pa_nil)))))) pa_nil))) pa_nil)) (pg_name (i := 5) sc_l_look.nd rfl (Or.inl rfl)) (pss_cons (ps_set (i := 3) sc_l_look.nd rfl (Or.inl rfl) (pe_op op_add (pe_op op_add (pv 3) pe_int) (C8.pe_c c_l_of hr (by decide) (gl_of gl_l_look_l_of) (pa_cons (pv 0) (pa_cons (pe_lst (pa_cons pe_int (pa_cons pe_int (pa_cons (C8.pe_c c_l_take hr (by decide) (gl_of gl_l_look_l_take) (pa_cons (pv 0) (pa_cons pe_int pa_nil))) (pa_cons (C8.pe_c c_l_take hr (by decide) (gl_of gl_l_look_l_take) (pa_cons (pv 0) (pa_cons (pe_op op_fdivW (pv 1) pe_int) pa_nil))) pa_nil))))) pa_nil)))))
      (pss_one (ps_if (pt_cmpR op_lt (pv 3) (pe_op op_fdivW (pv 1) pe_int) (nomark _)) (pss_one (ps_expr (pe_bm PySem.F.plainAttrs_list PySem.F.slot_list_append PySem.F.type_list_append mt_append (pv 4) (pa_cons (pe_op op_mod (pe_op op_sub (pv 2) (pv 3)) (pv 1)) pa_nil)))) pss_nil))))
      (pss_one (ps_ret (pe_tup (pa_cons (pv 2) (pa_cons (pe_callTy call_tuple_of (gl_of gl_l_look_tuple) T.tuple bt_tuple (pa_cons (pe_revL (pv 4)) pa_nil)) pa_nil))))))), ?_⟩
  refine st_seq ?_
  refine ⟨_, rfl, _, rfl, _, _, rfl, rfl, _, rfl, _, rfl, h, s, n, rfl, hs, (show n < 100000 by omega), by omega, by omega, fun d H1 d0 d1 hs1 f1 => ?_⟩
  refine ⟨(show 4 ≤ sizeLine by decide), fun l1 nl1 => ?_⟩
  refine ⟨h, l1, [.int 0, .int (s - 1), .int 1, .int d], n + 1, rfl, hs1.new nl1, (show n + 1 < 100000 by omega), hs1.ne nl1, SqL.of upd_same, (show 0 < 4 by decide), (show 4 ≤ 1000 by decide), fun v H2 hv hs2 f2 => ?_⟩
  have hx : ∃ x : Int, v = .int x ∧ 0 ≤ x ∧ x < s := by
    simp only [List.mem_cons, List.not_mem_nil, or_false] at hv
    rcases hv with rfl | rfl | rfl | rfl <;> exact ⟨_, rfl, by omega, by omega⟩
  obtain ⟨c, rfl, c0, c1⟩ := hx
  have f02 : Fr h H H2 := f1.trans ((Fr.new nl1).trans f2)
  refine ⟨(show 0 ≤ sizeLine by decide), fun L nL => ?_⟩
  refine ⟨_, _, _, rfl, ?_⟩
  have eL : (upd H2 L (.lst [])) L = some (.lst []) := upd_same
  have hs3 : HS h (n + 1 + 1) (upd H2 L (.lst [])) := hs2.new nL
  have nLh : L ≠ h := hs2.ne nL
  have f3 : Fr h H2 (upd H2 L (.lst [])) := Fr.new nL
  generalize upd H2 L (.lst []) = H3 at eL hs3 f3
  refine st_seq ?_
  refine ⟨_, rfl, (show 5 ≤ sizeLine by decide), fun l2 nl2 => ?_⟩
  refine ⟨h, l2, [.int 2, .int 1, .int 3, .int 0, .int 6], n + 1 + 1, rfl, hs3.new nl2, (show n + 1 + 1 < 100000 by omega), hs3.ne nl2, SqL.of upd_same, (show 0 < 5 by decide), (show 5 ≤ 1000 by decide), fun v H4 hv hs4 f4 => ?_⟩
  have hx : ∃ x : Nat, v = .int x ∧ x ≤ 6 := by
    simp only [List.mem_cons, List.not_mem_nil, or_false] at hv
    rcases hv with rfl | rfl | rfl | rfl | rfl
    · exact ⟨2, rfl, by decide⟩
    · exact ⟨1, rfl, by decide⟩
    · exact ⟨3, rfl, by decide⟩
    · exact ⟨0, rfl, by decide⟩
    · exact ⟨6, rfl, by decide⟩
  obtain ⟨m, rfl, m6⟩ := hx
  have eL4 : H4 L = some (.lst []) := f4 _ _ nLh (Fr.new (h := h) nl2 _ _ nLh eL)
  have f34 : Fr h H2 H4 := f3.trans ((Fr.new nl2).trans f4)
  refine ⟨(m : Int), rfl, by omega, by omega, ?_⟩
  refine for_range (lo := 0) (n := ((m : Int)).toNat) (fun i σ H' => ∃ (b : Int) (y5 : Option V) (cs : List Int), σ = [some (.ref h), some (.int s), some (.int c), some (.int b), some (.ref L), y5] ∧ 0 ≤ b ∧ cs.Pairwise (· < ·) ∧ (∀ x ∈ cs, 0 < x ∧ x < s / 2 ∧ x ≤ b) ∧ cs.length ≤ i ∧ H' L = some (.lst ((cs.map fun b => (c - b) % s).map V.int)) ∧ HS h (n + 3 + 3 * i) H' ∧ Fr h H H') ⟨0, none, [], rfl, by decide, List.Pairwise.nil, (fun x hx => by cases hx), Nat.le_refl 0, eL4, hs4.mono (by omega), f02.trans f34⟩ (fun i σ H5 hi hP => ?_) (fun σ H5 hP => ?_)
  · obtain ⟨b, y5, cs, rfl, b0, pw, hc, lc, eL5, hs5, f5⟩ := hP
    have hi2 : i < 6 := by omega
    refine st_seq ?_
    refine ⟨_, rfl, _, _, rfl, rfl, _, rfl, _, rfl, h, 3, n + 3 + 3 * i, rfl, hs5, (show n + 3 + 3 * i < 100000 by omega), by decide, by decide, fun d2 H6 d20 d21 hs6 f6 => ?_⟩
    refine ⟨_, rfl, _, rfl, _, _, rfl, rfl, cdw (by decide) (by decide), h, s / 2, n + 3 + 3 * i + 1, rfl, hs6, (show n + 3 + 3 * i + 1 < 100000 by omega), by omega, by omega, fun d3 H7 d30 d31 hs7 f7 => ?_⟩
    refine ⟨(show 4 ≤ sizeLine by decide), fun l3 nl3 => ?_⟩
    refine ⟨h, l3, [.int 0, .int 0, .int d2, .int d3], n + 3 + 3 * i + 1 + 1, rfl, hs7.new nl3, (show n + 3 + 3 * i + 1 + 1 < 100000 by omega), hs7.ne nl3, SqL.of upd_same, (show 0 < 4 by decide), (show 4 ≤ 1000 by decide), fun v H8 hv hs8 f8 => ?_⟩
    have hx : ∃ x : Int, v = .int x ∧ 0 ≤ x := by
      simp only [List.mem_cons, List.not_mem_nil, or_false] at hv
      rcases hv with rfl | rfl | rfl | rfl <;> exact ⟨_, rfl, by omega⟩
    obtain ⟨e, rfl, e0⟩ := hx
    have f58 : Fr h H5 H8 := (f6.trans f7).trans ((Fr.new nl3).trans f8)
    have eL8 := f58 _ _ nLh eL5
    refine ⟨_, _, rfl, rfl, ?_⟩
    refine ⟨_, rfl, _, rfl, _, _, rfl, rfl, cdw (by decide) (by decide), _, _, rfl, rfl, _, rfl, ite2 (fun y => ?_) (fun y => ?_)⟩
    · have y2 : b + 1 + e < s / 2 := of_decide_eq_true y
      refine ⟨_, rfl, .inl ⟨rfl, _, SqL.of eL8⟩, _, rfl, _, rfl, _, _, rfl, rfl, _, rfl, _, _, rfl, rfl, (show 0 < s by omega), L, _, _, rfl, rfl, eL8, ?_, ?_⟩
      · rw [List.length_map, List.length_map]
        exact small1000 (by omega)
      · refine ⟨b + 1 + e, _, cs ++ [b + 1 + e], rfl, by omega, ?_, ?_, ?_, ?_, ?_, ?_⟩
        · rw [List.pairwise_append]
          refine ⟨pw, List.pairwise_singleton _ _, fun x hx y hy => ?_⟩
          rw [List.mem_singleton.mp hy]
          have := hc x hx
          omega
        · intro x hx
          rcases List.mem_append.mp hx with e1 | e1
          · have := hc x e1
            omega
          · rw [List.mem_singleton.mp e1]
            omega
        · rw [List.length_append]
          show cs.length + 1 ≤ i + 1
          omega
        · rw [upd_same, List.map_append, List.map_append]
          rfl
        · obtain ⟨g, bb, cc, eh, r⟩ := hs8.mono (m := n + 3 + 3 * (i + 1)) (by omega)
          exact ⟨g, bb, cc, (by rw [upd_ne nLh.symm]; exact eh), r⟩
        · exact Fr.mut (f5.trans f58) (f02.free nLh nL)
    · refine ⟨b + 1 + e, _, cs, rfl, by omega, pw, fun x hx => ?_, by omega, eL8, hs8.mono (by omega), f5.trans f58⟩
      have := hc x hx
      omega
  · obtain ⟨b, y5, cs, rfl, b0, pw, hc, lc, eL5, hs5, f5⟩ := hP
    refine ⟨_, rfl, _, rfl, L, _, rfl, SqL.of eL5, fun l4 nl4 => ?_⟩
    refine ⟨l4, _, rfl, .inl ⟨SqL.of upd_same, fun t2 nt2 => ?_⟩⟩
    refine ⟨(show 2 ≤ sizeLine by decide), fun a na => ?_⟩
    have et2 : (upd (upd H5 l4 (.lst ((cs.map fun b => (c - b) % s).map V.int).reverse)) t2 (.tup ((cs.map fun b => (c - b) % s).map V.int).reverse)) t2 = some (.tup ((cs.map fun b => (c - b) % s).map V.int).reverse) := upd_same
    refine q a c cs.reverse _ ⟨?_, ?_, ?_⟩ c0 c1 ⟨t2, SqT.of upd_same, SqT.of ?_⟩ ?_ ?_
    · rw [List.pairwise_reverse]
      exact pw
    · intro x hx
      have := hc x (List.mem_reverse.mp hx)
      omega
    · rw [List.length_reverse]
      omega
    · rw [same_new na _ _ et2, List.map_reverse, List.map_reverse]
    · exact (((hs5.new nl4).new nt2).new na).mono (by omega)
    · exact f5.trans ((Fr.new nl4).trans ((Fr.new nt2).trans (Fr.new na)))
theorem ok_done (T : Tx K mg) : BodyOk P w K mg base "_law_is_done" s_l_is_done N_l_is_done 0 (spSees K) := by
  intro f cdv A outer s H vs Q E hr h
  obtain ⟨a, c, xs, n, z, s, rfl, ⟨t, h1, h2⟩, s0, s1, q⟩ := h
  refine ⟨_, (pss_one (ps_ret (pe_and (pe_cmpR op_eq (pv 2) pe_str (nomark _)) (pe_and (pe_chain op_lt op_lt pe_int (pe_op op_mod (pe_op op_sub (pe_ix ix_tup (pv 0) pe_int (fun _ _ => rfl)) (pv 1)) (pv 3)) (pe_op op_fdivW (pv 3) pe_int)) (pe_one (pe_cmpR op_notIn_seq (pv 1) (pe_ix ix_tup (pv 0) pe_int (fun _ _ => rfl)) (by rfl))))))), ?_⟩
  refine ⟨_, rfl, rfl, _, rfl, ite2 (fun y => ?_) (fun y => ?_)⟩
  · refine ⟨_, rfl, a, _, 0, .int c, rfl, rfl, h1, rfl, _, rfl, _, _, rfl, rfl, _, rfl, _, _, rfl, rfl, s0, _, _, rfl, rfl, _, rfl, ite2 (fun y2 => ?_) (fun y2 => ?_)⟩
    · refine ⟨_, rfl, _, _, rfl, rfl, cdw (by decide) (by decide), _, _, rfl, rfl, _, rfl, ite2 (fun y3 => ?_) (fun y3 => ?_)⟩
      · refine ⟨_, rfl, _, rfl, a, _, 1, .ref t, rfl, rfl, h1, rfl, t, _, rfl, .inr h2, rfl, flat_ints xs, ?_⟩
        unfold don bef at q
        rw [y, y2, y3] at q
        exact q
      · unfold don bef at q
        rw [y, y2, Bool.eq_false_iff.mpr y3] at q
        exact q
    · refine ⟨_, rfl, ?_⟩
      unfold don bef at q
      rw [y, Bool.eq_false_iff.mpr y2] at q
      exact q
  · unfold don at q
    rw [Bool.eq_false_iff.mpr y] at q
    exact q
def spNumbers (K : PySem.W.Frag) : Sp := fun vs H Q _ => ∃ (h a : Addr) (c : Int) (xs : List Int) (s : Int) (n : Nat), vs = [.ref h, .ref a, .int s] ∧ Lk K H a c xs ∧ xs.length ≤ 6 ∧ HS h n H ∧ n + 8 < lim ∧ 8 ≤ s ∧ s ≤ 1048576 ∧
  ∀ (p : Addr) (ys : List Int) (H' : Hp), p ≠ h → ys.length ≤ 100 → H' p = some (.lst (ys.map V.int)) → HS h (n + 8) H' → Fr h H H' → Q (.ref p) H'
theorem ok_numbers (T : Tx K mg) (c_l_take : C8.Cal P w K mg base 1 "_law_take" spTake []) : BodyOk P w K mg base "_law_numbers" s_l_numbers N_l_numbers 1 (spNumbers K) := by
  intro f cdv A outer s H vs Q E hr h
  obtain ⟨h, a, c, xs, s, n, rfl, lk, lx, hs, hn, s0, s1, q⟩ := h
  have hn2 : n + 8 < 100000 := hn
  have p18' : (10 : Int) ^ 18 = 1000000000000000000 := by decide
  obtain ⟨t, h1, h2⟩ := lk
  refine ⟨_, (pss_cons (ps_if (pt_cmpR op_le (pv 2) pe_int (nomark _)) (pss_one (ps_ret (pe_listRg (by rfl) (by rfl) T.list (prg_1 (by rfl) T.range (pv 2))))) pss_nil)
      (pss_cons (ps_set (i := 3) sc_l_numbers.nd rfl (Or.inl rfl) (pe_lst pa_nil))
      (pss_cons (ps_for PassesOwn.never rfl (pi_tup (pe_op op_catA (pe_ix ix_tup (pv 1) pe_int (fun _ _ => rfl)) (pe_tup (pa_cons (pe_ix ix_tup (pv 1) pe_int (fun _ _ => rfl)) (pa_cons (pe_op op_add (pe_ix ix_tup (pv 1) pe_int (fun _ _ => rfl)) (pe_op op_fdivW (pv 2) pe_int)) (pa_cons pe_int pa_nil)))))) (pg_name (i := 4) sc_l_numbers.nd rfl (Or.inr rfl)) (pss_one (ps_expr (pe_bm PySem.F.plainAttrs_list PySem.F.slot_list_extend PySem.F.type_list_extend mt_extend (pv 3) (pa_cons (pe_lc (own := [("_law_more", 5)]) (g := gName 5) (tt := tYes) rfl sc_l_numbers.nd (pi_tup (pe_tup (pa_cons (pe_un un_neg pe_int) (pa_cons pe_int (pa_cons pe_int pa_nil))))) (blkOk_by (own := [("_law_more", 5)]) (N := N_l_numbers) (sc := defScope s_l_numbers) (by decide +kernel)) (fun _ _ _ _ _ => pg_name (i := 5) sc_l_numbers.nd rfl (Or.inl rfl)) (fun _ _ _ _ _ => pts_nil) (fun _ _ _ _ _ => (pe_op op_mod (pe_op op_add (pv 4) (pv 5)) (pv 2)))) pa_nil)))))
      (pss_one (ps_ret (pe_op op_cat (pv 3) (pe_lc (own := [("_law_turn", 6)]) (g := gName 6) (tt := tYes) rfl sc_l_numbers.nd (pi_range1 (by rfl) T.range (pa_cons pe_int pa_nil)) (blkOk_by (own := [("_law_turn", 6)]) (N := N_l_numbers) (sc := defScope s_l_numbers) (by decide +kernel)) (fun _ _ _ _ _ => pg_name (i := 6) sc_l_numbers.nd rfl (Or.inl rfl)) (fun _ _ _ _ _ => pts_nil) (fun _ _ _ _ _ => (C8.pe_c c_l_take hr (by decide) (by rfl) (pa_cons (pv 0) (pa_cons (pv 2) pa_nil))))))))))), ?_⟩
  refine st_seq ?_
  refine ⟨_, rfl, _, _, rfl, rfl, _, rfl, ite2 (fun y => ?_) (fun y => ?_)⟩
  · have y2 : s ≤ 24 := of_decide_eq_true y
    refine ⟨_, rfl, s, rfl, RgOk.of_le (by decide) (by omega) (by decide) (by omega), fun l3 nl3 => ?_⟩
    refine q l3 ((List.range s.toNat).map fun i => 0 + ((i : Nat) : Int)) _ (hs.ne nl3) ?_ ?_ ((hs.new nl3).mono (by omega)) (Fr.new nl3)
    · rw [List.length_map, List.length_range]
      omega
    · rw [upd_same]
      show some (HO.lst (rgV 0 s)) = _
      unfold rgV
      rw [List.map_map, Int.sub_zero]
      rfl
  · refine st_seq ?_
    refine ⟨(show 0 ≤ sizeLine by decide), fun L nL => ?_⟩
    have eL : (upd H L (.lst [])) L = some (.lst []) := upd_same
    have sL : Same H (upd H L (.lst [])) := same_new nL
    have hs1 : HS h n (upd H L (.lst [])) := hs.new nL
    have nLh : L ≠ h := hs.ne nL
    generalize upd H L (.lst []) = H1 at eL sL hs1
    have h11 := sqT_same sL h1
    have h12 := sqT_same sL h2
    refine st_seq ?_
    refine ⟨_, rfl, a, _, 1, .ref t, rfl, rfl, h11, rfl, ?_⟩
    refine ⟨_, rfl, a, _, 0, .int c, rfl, rfl, h11, rfl, _, rfl, a, _, 0, .int c, rfl, rfl, h11, rfl, _, rfl, _, _, rfl, rfl, cdw (by decide) (by decide), _, _, rfl, rfl, (show 3 ≤ sizeLine by decide), fun t3 nt3 => ?_⟩
    have s3 : Same H1 (upd H1 t3 (.tup [.int c, .int (c + s / 2), .int 0])) := same_new nt3
    refine catA_ev (sqT_same s3 h12) (SqT.of upd_same) (by rw [List.length_map]; show xs.length + 3 ≤ 1000; omega) (fun p H2 s2 hp => ?_)
    have s12 : Same H1 H2 := s3.trans s2
    have eL2 := s12 _ _ eL
    have hs2 := hs1.same s12
    have ep : xs.map V.int ++ [V.int c, .int (c + s / 2), .int 0] = (xs ++ [c, c + s / 2, 0]).map V.int := by
      rw [List.map_append]
      rfl
    rw [ep] at hp
    have lys : (xs ++ [c, c + s / 2, 0]).length ≤ 9 := by
      rw [List.length_append]
      show xs.length + 3 ≤ 9
      omega
    generalize xs ++ [c, c + s / 2, 0] = ys at hp lys
    refine ⟨p, rfl, ⟨_, hp⟩, ?_⟩
    refine for_tup (xs := ys.map V.int) (fun i σ H' => (∃ y4 y5 y6, ∃ zs : List Int, σ = [some (.ref h), some (.ref a), some (.int s), some (.ref L), y4, y5, y6] ∧ zs.length = 3 * i ∧ H' L = some (.lst (zs.map V.int))) ∧ Fr L H2 H') ⟨⟨none, none, none, [], rfl, rfl, eL2⟩, Fr.refl _ _⟩ (fun i σ H' _ hP => ?_) (fun i v σ H' hv hP => ?_) (fun σ H' hP => ?_)
    · exact sqT_fr eL2 hP.2 hp
    · obtain ⟨⟨y4, y5, y6, zs, rfl, lz, eL3⟩, f3⟩ := hP
      have hil : i < ys.length := by
        have z := (List.getElem?_eq_some_iff.mp hv).1
        rw [List.length_map] at z
        exact z
      rw [List.getElem?_map, List.getElem?_eq_getElem hil] at hv
      have ev : v = .int ys[i] := (Option.some.inj hv).symm
      subst ev
      refine ⟨_, rfl, .inl ⟨rfl, _, SqL.of eL3⟩, ?_⟩
      refine ⟨_, rfl, (show 3 ≤ sizeLine by decide), fun t4 nt4 => ?_⟩
      refine ⟨t4, rfl, ⟨_, SqT.of upd_same⟩, fun D nD => ?_⟩
      have e4 : (upd H' t4 (.tup [.int (-1), .int 0, .int 1])) t4 = some (.tup [.int (-1), .int 0, .int 1]) := upd_same
      have s4 : Same H' (upd H' t4 (.tup [.int (-1), .int 0, .int 1])) := same_new nt4
      generalize upd H' t4 (.tup [.int (-1), .int 0, .int 1]) = H4 at nD e4 s4
      refine lc_tup (K := K) (a := t4) (xs := [.int (-1), .int 0, .int 1]) (fun j H'' => Same H4 H'' ∧ ∃ us : List Int, us.length = j ∧ H'' D = some (.lst (us.map V.int))) ?_ (fun j H'' _ hP => ?_) (fun j v H'' hv hP => ?_) (fun H'' hP => ?_)
      · exact ⟨same_new nD, [], rfl, upd_same⟩
      · exact SqT.of (hP.1 _ _ e4)
      · obtain ⟨sD, us, lu, eD⟩ := hP
        have hv2 : ∃ z : Int, v = .int z := by
          match j, hv with
          | 0, hv => exact ⟨_, (Option.some.inj hv).symm⟩
          | 1, hv => exact ⟨_, (Option.some.inj hv).symm⟩
          | 2, hv => exact ⟨_, (Option.some.inj hv).symm⟩
          | n + 3, hv => simp at hv
        obtain ⟨z, rfl⟩ := hv2
        have hj : j < 3 := (List.getElem?_eq_some_iff.mp hv).1
        refine ⟨rfl, ?_⟩
        refine ⟨_, rfl, _, rfl, _, _, rfl, rfl, _, rfl, _, _, rfl, rfl, (show 0 < s by omega), _, eD, ?_, ?_, us ++ [(ys[i] + z) % s], ?_, ?_⟩
        · rw [List.length_map]
          exact small1000 (by omega)
        · exact same_mut sD nD
        · rw [List.length_append, lu]
          rfl
        · rw [upd_same, List.map_append]
          rfl
      · obtain ⟨sD, us, lu, eD⟩ := hP
        have lu3 : us.length = 3 := lu
        have eL5 := (s4.trans sD) _ _ eL3
        refine ⟨L, D, _, _, rfl, rfl, eL5, eD, ?_, ?_⟩
        · rw [List.length_map, List.length_map]
          exact Nat.le_of_lt (small1000 (by omega))
        · refine ⟨⟨_, _, _, zs ++ us, rfl, ?_, ?_⟩, ?_⟩
          · rw [List.length_append]
            omega
          · rw [upd_same, List.map_append]
          · exact (f3.trans (Fr.same (s4.trans sD))).trans Fr.hand
    · obtain ⟨⟨y4, y5, y6, zs, rfl, lz, eL3⟩, f3⟩ := hP
      rw [List.length_map] at lz
      have hs3 := hs2.fr f3 nLh
      have frH : Fr h H H' := fun b o ne e => f3 b o (fun z => by rw [z, nL] at e; cases e) ((sL.trans s12) b o e)
      refine ⟨_, rfl, 8, rfl, by decide, by decide, fun D nD => ?_⟩
      have nDh : D ≠ h := hs3.ne nD
      refine lc_range (lo := 0) (fun j H'' => HS h (n + j) H'' ∧ Fr h H' H'' ∧ ∃ us : List Int, us.length = j ∧ H'' D = some (.lst (us.map V.int))) ?_ (fun j H'' hj hP => ?_) (fun H'' hP => ?_)
      · exact ⟨hs3.new nD, Fr.new nD, [], rfl, upd_same⟩
      · obtain ⟨hs4, f4, us, lu, eD⟩ := hP
        have hj2 : j < 8 := hj
        refine ⟨rfl, ?_⟩
        refine ⟨_, rfl, _, rfl, h, s, n + j, rfl, hs4, (show n + j < 100000 by omega), by omega, by omega, fun d H5 d0 d1 hs5 f5 => ?_⟩
        refine ⟨_, f5 _ _ nDh eD, ?_, hs5.upd nDh, Fr.mut (f4.trans f5) nD, us ++ [d], ?_, ?_⟩
        · rw [List.length_map]
          exact small1000 (by omega)
        · rw [List.length_append, lu]
          rfl
        · rw [upd_same, List.map_append]
          rfl
      · obtain ⟨hs4, f4, us, lu, eD⟩ := hP
        have lu8 : us.length = 8 := lu
        have eL6 := f4 _ _ nLh eL3
        refine ⟨L, D, _, _, rfl, rfl, eL6, eD, ?_, fun p2 np2 => ?_⟩
        · rw [List.length_map, List.length_map]
          exact Nat.le_of_lt (small1000 (by omega))
        · refine q p2 (zs ++ us) _ (hs4.ne np2) ?_ ?_ (hs4.new np2) ((frH.trans f4).trans (Fr.new np2))
          · rw [List.length_append]
            omega
          · rw [upd_same, List.map_append]
theorem ok_told (T : Tx K mg) (g_RING : ∃ u, mg "RING" = some u ∧ RelV (.int 64) u) (k_sees : CalK P w K mg base 3 "sees" 3 ["ring"] (spSees K)) (c_sees : C8.Cal P w K mg base 3 "sees" (spSees K) [.int 64]) : BodyOk P w K mg base "_law_told" s_l_told N_l_told 3 (spSees K) := by
  intro f cdv A outer s H vs Q E hr h
  obtain ⟨a, c, xs, n, z, s, rfl, lk, s0, s1, q⟩ := h
  refine ⟨_, (pss_cons (ps_if (PW.pt (pw_and (pt_cmpR op_eq (pv 3) pe_int (nomark _)) (pw_and1 (pt_cmpR op_ne (C8.pe_c c_sees hr (by decide) (gl_of gl_l_told_sees) (pa_cons (pv 0) (pa_cons (pv 1) (pa_cons (pv 2) pa_nil)))) (pe_ck k_sees hr (by decide) (gl_of gl_l_told_sees) (pa_cons (pv 0) (pa_cons (pv 1) (pa_cons (pv 2) pa_nil))) (pk_cons pe_int pk_nil)) (nomark _))))) (pss_one (ps_ret pe_str)) pss_nil)
      (pss_one (ps_ret (pe_ck k_sees hr (by decide) (gl_of gl_l_told_sees) (pa_cons (pv 0) (pa_cons (pv 1) (pa_cons (pv 2) pa_nil))) (pk_cons (pv 3) pk_nil))))), ?_⟩
  refine st_seq ?_
  refine ⟨_, rfl, rfl, _, rfl, ite2 (fun y => ?_) (fun y => ?_)⟩
  · have es : s = 64 := V.int.inj (of_decide_eq_true y)
    subst es
    refine ⟨_, rfl, _, rfl, _, rfl, a, c, xs, n, z, 64, rfl, lk, by decide, by decide, ?_⟩
    refine ⟨_, rfl, _, rfl, _, rfl, rfl, rfl, a, c, xs, n, z, 64, rfl, lk, by decide, by decide, rfl, _, rfl, ?_⟩
    rw [dec_refl]
    refine iteF ?_
    exact ⟨_, rfl, _, rfl, _, rfl, _, rfl, rfl, rfl, a, c, xs, n, z, 64, rfl, lk, s0, s1, q⟩
  · refine iteF ?_
    exact ⟨_, rfl, _, rfl, _, rfl, _, rfl, rfl, rfl, a, c, xs, n, z, s, rfl, lk, s0, s1, q⟩
theorem ok_law (T : Tx K mg) (c_l_hand : C8.Cal P w K mg base 1 "_law_hand" (spHand K) []) (c_l_size : C8.Cal P w K mg base 3 "_law_size" spSize []) (c_l_look : C8.Cal P w K mg base 3 "_law_look" (spLook K) []) (c_low : C8.Cal P w K mg base 1 "low" (spLow K) [])
    (c_l_numbers : C8.Cal P w K mg base 2 "_law_numbers" (spNumbers K) []) (c_l_told : C8.Cal P w K mg base 4 "_law_told" (spSees K) []) (c_l_is_done : C8.Cal P w K mg base 1 "_law_is_done" (spSees K) []) : BodyOk P w K mg base "law" s_law N_law 4 (spLaw K) := by
  intro f cdv A outer s H vs Q E hr h
  obtain ⟨a, ns, rfl, hS, hl, q⟩ := h
  refine ⟨_, (pss_cons (ps_for PassesOwn.never rfl (pi_range1 (by rfl) T.range (pa_cons (pe_callB (call_max2 rfl) (gl_of gl_law_max) T.max bb_max (pa_cons pe_int (pa_cons (pe_callB (call_min2 rfl) (gl_of gl_law_min) T.min bb_min (pa_cons pe_int (pa_cons (pe_callB call_len_seq (gl_of gl_law_len) T.len bb_len (pa_cons (pv 0) pa_nil)) pa_nil))) pa_nil))) pa_nil)) (pg_name (i := 1) sc_law.nd rfl (Or.inl rfl)) (pss_cons (ps_set (i := 2) sc_law.nd rfl (Or.inl rfl) (C8.pe_c c_l_hand hr (by decide) (gl_of gl_law_l_hand) (pa_cons (pv 0) (pa_cons (pv 1) pa_nil))))
      (pss_cons (ps_set (i := 3) sc_law.nd rfl (Or.inl rfl) (C8.pe_c c_l_size hr (by decide) (gl_of gl_law_l_size) (pa_cons (pv 2) pa_nil)))
      (pss_one (ps_for PassesOwn.never rfl (pi_range1 (by rfl) T.range (pa_cons pe_int pa_nil)) (pg_name (i := 4) sc_law.nd rfl (Or.inl rfl)) (pss_cons (ps_set (i := 5) sc_law.nd rfl (Or.inl rfl) (C8.pe_c c_l_look hr (by decide) (gl_of gl_law_l_look) (pa_cons (pv 2) (pa_cons (pv 3) pa_nil))))
      (pss_cons (ps_if (pt_cmpR op_ne (pe_callB SkE.call_repr_int (gl_of gl_law_repr) T.repr bb_repr (pa_cons (C8.pe_c c_low hr (by decide) (gl_of gl_law_low) (pa_cons (pv 5) pa_nil)) pa_nil)) (pe_callB SkE.call_repr_int (gl_of gl_law_repr) T.repr bb_repr (pa_cons (pe_ix ix_tup (pe_op op_catA (pe_ix ix_tup (pv 5) pe_int (fun _ _ => rfl)) (pe_slice sl_tupA (pv 5) po_none (po_some pe_int))) pe_int (fun _ _ => rfl)) pa_nil)) (nomark _)) (pss_one (ps_ret pe_bl)) pss_nil)
      (pss_one (ps_for PassesOwn.never rfl (pi_list (C8.pe_c c_l_numbers hr (by decide) (gl_of gl_law_l_numbers) (pa_cons (pv 2) (pa_cons (pv 5) (pa_cons (pv 3) pa_nil))))) (pg_name (i := 6) sc_law.nd rfl (Or.inl rfl)) (pss_one (ps_for PassesOwn.never rfl (pi_tup (pe_tup (pa_cons pe_str (pa_cons pe_str (pa_cons pe_str pa_nil))))) (pg_name (i := 7) sc_law.nd rfl (Or.inl rfl)) (pss_cons (ps_set (i := 8) sc_law.nd rfl (Or.inl rfl) (C8.pe_c c_l_told hr (by decide) (gl_of gl_law_l_told) (pa_cons (pv 5) (pa_cons (pv 6) (pa_cons (pv 7) (pa_cons (pv 3) pa_nil))))))
      (pss_one (ps_if (PW.pt (pw_or (pt_not (pt_val (pe_callB call_isi (gl_of gl_law_isinstance) T.isinstance bb_isinstance (pa_cons (pv 8) (pa_cons (pe_bltn (v := .ty "bool") (gl_of gl_law_bool) T.bool bt_bool rfl) pa_nil))))) (pw_or1 (pt_cmpR op_ne (pv 8) (C8.pe_c c_l_is_done hr (by decide) (gl_of gl_law_l_is_done) (pa_cons (pv 5) (pa_cons (pv 6) (pa_cons (pv 7) (pa_cons (pv 3) pa_nil))))) (nomark _))))) (pss_one (ps_ret pe_bl)) pss_nil))))))))))))))
      (pss_one (ps_ret pe_bl))), ?_⟩
  refine st_seq ?_
  refine ⟨_, rfl, a, _, rfl, .inl hS, _, _, rfl, _, _, rfl, _, rfl, ?_, ?_, ?_⟩
  · split <;> split <;> omega
  · rw [List.length_map]
    split <;> split <;> omega
  · refine for_range (lo := 0) (fun i σ H' => (∃ y1 y2 y3 y4 y5 y6 y7 y8, σ = [some (.ref a), y1, y2, y3, y4, y5, y6, y7, y8]) ∧ SqL K H' a (ns.map V.int)) ⟨⟨none, none, none, none, none, none, none, none, rfl⟩, hS⟩ (fun i σ H1 hi hP => ?_) (fun σ H1 hP => ?_)
    · obtain ⟨⟨y1, y2, y3, y4, y5, y6, y7, y8, rfl⟩, hS1⟩ := hP
      have hi2 : i ≤ 8 := by
        rw [List.length_map] at hi
        split at hi <;> split at hi <;> omega
      refine st_seq ?_
      refine ⟨_, rfl, _, rfl, a, ns, i, ?_, hS1, by omega, fun p H2 np ke hs => ?_⟩
      · show [V.ref a, V.int (0 + (i : Int))] = _
        rw [Int.zero_add]
      have fr2 : Fr p H1 H2 := fun b o _ e => ke b o e
      refine st_seq ?_
      refine ⟨_, rfl, p, 0, rfl, hs, (show 0 + 3 < 100000 by decide), fun z H3 z0 z1 z2 hs3 f3 => ?_⟩
      refine ⟨6, rfl, by decide, by decide, ?_⟩
      refine for_range (lo := 0) (n := (6 : Int).toNat) (fun j σ H' => (∃ y1 y4 y5 y6 y7 y8, σ = [some (.ref a), y1, some (.ref p), some (.int z), y4, y5, y6, y7, y8]) ∧ HS p (3 + 29 * j) H' ∧ Fr p H1 H') ⟨⟨_, _, _, _, _, _, rfl⟩, hs3, fr2.trans f3⟩ (fun j σ H4 hj hP => ?_) (fun σ H4 hP => ?_)
      · obtain ⟨⟨y1, y4, y5, y6, y7, y8, rfl⟩, hs4, f4⟩ := hP
        have hj2 : j < 6 := hj
        refine st_seq ?_
        refine ⟨_, rfl, _, rfl, p, z, 3 + 29 * j, rfl, hs4, (show 3 + 29 * j + 21 < 100000 by omega), z0, z1, fun la c bs H5 hb c0 c1 lk hs5 f5 => ?_⟩
        have lbs := hb.len
        have hx : ∀ x ∈ bs.map (fun b => (c - b) % z), 0 ≤ x ∧ x < z := fun x hx => by
          obtain ⟨b, _, rfl⟩ := List.mem_map.mp hx
          exact ⟨Int.emod_nonneg _ (by omega), Int.emod_lt_of_pos _ (by omega)⟩
        have lxs : (bs.map fun b => (c - b) % z).length ≤ 6 := by
          rw [List.length_map]
          exact lbs
        generalize (bs.map fun b => (c - b) % z) = xs at lk hx lxs
        have hh : 0 ≤ xs.headD c ∧ xs.headD c < z := by
          cases xs with
          | nil => exact ⟨c0, c1⟩
          | cons x r => exact hx x (List.mem_cons_self ..)
        have lk' := lk
        obtain ⟨t, h1, h2⟩ := lk
        refine st_seq ?_
        refine ⟨_, rfl, la, c, xs, rfl, lk', _, rfl, lg (by omega), ?_⟩
        refine ⟨_, rfl, la, _, 1, .ref t, rfl, rfl, h1, rfl, ?_⟩
        refine ⟨_, rfl, _, rfl, slA_ev h1 (fun p1 G1 sG1 hp1 => ?_)⟩
        refine catA_ev (sqT_same sG1 h2) hp1 (by rw [List.length_map]; show xs.length + 1 ≤ 1000; omega) (fun p2 G2 sG2 hp2 => ?_)
        refine ⟨p2, _, 0, .int (xs.headD c), rfl, rfl, hp2, ?_, _, rfl, lg (by omega), rfl, _, rfl, ?_⟩
        · cases xs with
          | nil => exact atI_nat (j := 0) rfl
          | cons x r => exact atI_nat (j := 0) rfl
        rw [dec_refl]
        refine iteF ?_
        have sG : Same H5 G2 := sG1.trans sG2
        have hs6 := hs5.same sG
        refine ⟨_, rfl, _, rfl, _, rfl, p, la, c, xs, z, 3 + 29 * j + 21, rfl, lk'.same sG, lxs, hs6, (show 3 + 29 * j + 21 + 8 < 100000 by omega), z0, z1, fun L ys H6 nLp lys eL hs7 f7 => ?_⟩
        have lk6 : Lk K H6 la c xs := hs6.lk f7 (lk'.same sG)
        refine ⟨L, rfl, ⟨_, SqL.of eL⟩, ?_⟩
        refine for_list (xs := ys.map V.int) (fun i2 σ H' => (∃ y1 y4 y6 y7 y8, σ = [some (.ref a), y1, some (.ref p), some (.int z), y4, some (.ref la), y6, y7, y8]) ∧ Same H6 H') ⟨⟨_, _, _, _, _, rfl⟩, fun _ _ e => e⟩ (fun i2 σ H' _ hP => ?_) (fun i2 v σ H7 hv hP => ?_) (fun σ H' hP => ?_)
        · exact SqL.of (hP.2 _ _ eL)
        · obtain ⟨⟨y1, y4, y6, y7, y8, rfl⟩, s7⟩ := hP
          have hil : i2 < ys.length := by
            have z := (List.getElem?_eq_some_iff.mp hv).1
            rw [List.length_map] at z
            exact z
          rw [List.getElem?_map, List.getElem?_eq_getElem hil] at hv
          have ev : v = .int ys[i2] := (Option.some.inj hv).symm
          subst ev
          refine ⟨(show 3 ≤ sizeLine by decide), fun t8 nt8 => ?_⟩
          have e8 : (upd H7 t8 (.tup [.str "open", .str "done", .str "fell"])) t8 = some (.tup [.str "open", .str "done", .str "fell"]) := upd_same
          have s8 : Same H6 (upd H7 t8 (.tup [.str "open", .str "done", .str "fell"])) := s7.trans (same_new nt8)
          generalize upd H7 t8 (.tup [.str "open", .str "done", .str "fell"]) = H8 at e8 s8
          refine ⟨t8, rfl, ⟨_, SqT.of e8⟩, ?_⟩
          refine for_tup (xs := [.str "open", .str "done", .str "fell"]) (fun i3 σ H' => (∃ y1 y4 y7 y8, σ = [some (.ref a), y1, some (.ref p), some (.int z), y4, some (.ref la), some (.int ys[i2]), y7, y8]) ∧ H' = H8) ⟨⟨_, _, _, _, rfl⟩, rfl⟩ (fun i3 σ H' _ hP => ?_) (fun i3 v σ H' hv hP => ?_) (fun σ H' hP => ?_)
          · rw [hP.2]
            exact SqT.of e8
          · obtain ⟨⟨y1, y4, y7, y8, rfl⟩, rfl⟩ := hP
            have hv2 : ∃ u : Str, v = .str u := by
              match i3, hv with
              | 0, hv => exact ⟨_, (Option.some.inj hv).symm⟩
              | 1, hv => exact ⟨_, (Option.some.inj hv).symm⟩
              | 2, hv => exact ⟨_, (Option.some.inj hv).symm⟩
              | n + 3, hv => simp at hv
            obtain ⟨u, rfl⟩ := hv2
            have lk8 := lk6.same s8
            refine st_seq ?_
            refine ⟨_, rfl, _, rfl, _, rfl, _, rfl, la, c, xs, ys[i2], u, z, rfl, lk8, by omega, z1, ?_⟩
            generalize hB : don u c xs ys[i2] z = B
            refine ⟨_, rfl, _, _, _, _, true, rfl, .ty "bool", .base (.bl B), kit_ty (by decide +kernel), _, rfl, iteF ?_⟩
            refine ⟨_, rfl, _, rfl, _, rfl, _, rfl, _, rfl, la, c, xs, ys[i2], u, z, rfl, lk8, by omega, z1, ?_⟩
            rw [hB]
            refine ⟨?_, _, rfl, ?_⟩
            · cases B <;> rfl
            rw [dec_refl]
            exact iteF ⟨⟨_, _, _, _, rfl⟩, rfl⟩
          · obtain ⟨⟨y1, y4, y7, y8, rfl⟩, rfl⟩ := hP
            exact ⟨⟨_, _, _, _, _, rfl⟩, s8⟩
        · obtain ⟨⟨y1, y4, y6, y7, y8, rfl⟩, s7⟩ := hP
          exact ⟨⟨_, _, _, _, _, _, rfl⟩, (hs7.same s7).mono (by omega), ((f4.trans f5).trans (Fr.same sG)).trans (f7.trans (Fr.same s7))⟩
      · obtain ⟨⟨y1, y4, y5, y6, y7, y8, rfl⟩, hs4, f4⟩ := hP
        exact ⟨⟨_, _, _, _, _, _, _, _, rfl⟩, seq_new hS1 np f4⟩
    · exact q _
end
/-! ### the head -/
theorem def0_mk {K : PySem.W.Frag} {h : Heap} {mg : Str → Option Value} {x : Str} {st : Stmt} {ps : List Str} (X : K.In h) (G : h.Ns mainGlobals mg) (g : (He.Fa.glo x).ok K = true)
    (F : ∃ fd, FunD K x x (defArgs st) (defBody st) (defScope st) [] [] (He.ga K x) fd)
    (hb : ∀ (kV doc pm : Value) (an : Option Addr) (cdv ct : Value) (us : List Value), us.length = ps.length → bindArgs (PySem.W.fnOf x x (defArgs st) (defBody st) (defScope st) .none kV doc pm an cdv ct) ⟨us, []⟩ = pure (ps.zip us)) : Def0 K mg x st ps := by
  obtain ⟨fd, F⟩ := F
  exact ⟨_, fd, F, He.glo_ok X G g, F.bindsN hb⟩
theorem defK_mk {K : PySem.W.Frag} {h : Heap} {mg : Str → Option Value} {x : Str} {st : Stmt} {ps : List Str} {n : Nat} {y : Str} {v : V} (X : K.In h) (G : h.Ns mainGlobals mg) (g : (He.Fa.glo x).ok K = true)
    (F : ∃ fd, FunD K x x (defArgs st) (defBody st) (defScope st) [] [(y, v)] (He.ga K x) fd) (hn : n + 1 = ps.length)
    (hb : ∀ (D : Addr) (doc pm : Value) (an : Option Addr) (cdv ct : Value) (us ks : List Value), us.length = n → ks.length = 1 →
      KwChain D (([y] : List Str).zip ks) (bindArgs (PySem.W.fnOf x x (defArgs st) (defBody st) (defScope st) .none (.ref D) doc pm an cdv ct) ⟨us, []⟩) (ps.zip (us ++ ks)))
    (hk : ∀ (kV doc pm : Value) (an : Option Addr) (cdv ct : Value) (us ws : List Value), us.length = n → ws.length = 1 →
      bindArgs (PySem.W.fnOf x x (defArgs st) (defBody st) (defScope st) .none kV doc pm an cdv ct) ⟨us, ([y] : List Str).zip ws⟩ = pure (ps.zip (us ++ ws))) : DefK K mg x st ps n [(y, v)] := by
  obtain ⟨fd, F⟩ := F
  refine ⟨_, fd, F, He.glo_ok X G g, F.binds0 n (by simp) hn hb, fun us ws => us ++ ws, ⟨fun s us ws _ l1 l2 => ?_, fun r1 r2 => r1.append r2⟩⟩
  obtain ⟨oc, od, dV, kV, doc, pm, an, cdv, ct, osl, rfl, lk, hcd, hD, hK⟩ := F.ex
  rcases hD with ⟨_, rfl⟩ | ⟨e, _⟩
  · exact .of_eq (hk kV doc pm an cdv ct us ws l1 l2)
  · exact absurd rfl e
theorem int_g {K : PySem.W.Frag} {h : Heap} {mg : Str → Option Value} {x : Str} {i : Int} (X : K.In h) (G : h.Ns mainGlobals mg) (g : (He.Fa.int x i).ok K = true) : ∃ u, mg x = some u ∧ RelV (.int i) u := by
  obtain ⟨t, e⟩ := He.int_ok X G g
  exact ⟨_, e, t, rfl⟩
def d_steps : He.DefD := ⟨("steps", none), "steps", "steps", defArgs s_steps, defBody s_steps, defScope s_steps, [], [("ring", .int 64)]⟩
def d_before : He.DefD := ⟨("before", none), "before", "before", defArgs s_before, defBody s_before, defScope s_before, [], [("ring", .int 64)]⟩
def d_low : He.DefD := ⟨("low", none), "low", "low", defArgs s_low, defBody s_low, defScope s_low, [], []⟩
def d_sees : He.DefD := ⟨("sees", none), "sees", "sees", defArgs s_sees, defBody s_sees, defScope s_sees, [], [("ring", .int 64)]⟩
def d_l_hand : He.DefD := ⟨("_law_hand", none), "_law_hand", "_law_hand", defArgs s_l_hand, defBody s_l_hand, defScope s_l_hand, [], []⟩
def d_l_take : He.DefD := ⟨("_law_take", none), "_law_take", "_law_take", defArgs s_l_take, defBody s_l_take, defScope s_l_take, [], []⟩
def d_l_of : He.DefD := ⟨("_law_of", none), "_law_of", "_law_of", defArgs s_l_of, defBody s_l_of, defScope s_l_of, [], []⟩
def d_l_size : He.DefD := ⟨("_law_size", none), "_law_size", "_law_size", defArgs s_l_size, defBody s_l_size, defScope s_l_size, [], []⟩
def d_l_look : He.DefD := ⟨("_law_look", none), "_law_look", "_law_look", defArgs s_l_look, defBody s_l_look, defScope s_l_look, [], []⟩
def d_l_is_done : He.DefD := ⟨("_law_is_done", none), "_law_is_done", "_law_is_done", defArgs s_l_is_done, defBody s_l_is_done, defScope s_l_is_done, [], []⟩
def d_l_numbers : He.DefD := ⟨("_law_numbers", none), "_law_numbers", "_law_numbers", defArgs s_l_numbers, defBody s_l_numbers, defScope s_l_numbers, [], []⟩
def d_l_told : He.DefD := ⟨("_law_told", none), "_law_told", "_law_told", defArgs s_l_told, defBody s_l_told, defScope s_l_told, [], []⟩
def d_law : He.DefD := ⟨("law", none), "law", "law", defArgs s_law, defBody s_law, defScope s_law, [], []⟩
def fn : List He.DefD := [d_steps, d_before, d_low, d_sees, d_l_hand, d_l_take, d_l_of, d_l_size, d_l_look, d_l_is_done, d_l_numbers, d_l_told, d_law]
--@ level 5
def fa : List He.Fa := [.glo "steps", .glo "before", .glo "low", .glo "sees", .glo "_law_hand", .glo "_law_take", .glo "_law_of", .glo "_law_size", .glo "_law_look", .glo "_law_is_done", .glo "_law_numbers", .glo "_law_told", .glo "law", .int "RING" 64] ++ freeNames.map .free
abbrev R : PySem.W.OpenRow := PySem.W.OpenLaw.row PySem.Challenge.rw_roundstore_k08_what_looks_take_for_done
abbrev hk : PySem.W.Hook := He.hookD 4 fa fn
def ob (s : PySem.W.SharedT) : He.AlD := He.obsDG 4 fa fn (HandSHeadRun.getT s)
theorem ob_eq (s : PySem.W.SharedT) : ob s = hk.obs s.abs := He.obsDG_eq (HandSHeadRun.getT_eq s)
theorem run (w : World) : HandSHeadRun.RunEq R (PySem.W.view R.prog [16]) hk ob 2000 ["RING", "steps", "before", "low", "sees", "_law_hand", "_law_take", "_law_of", "_law_size", "_law_look", "_law_is_done", "_law_numbers", "_law_told"] w := by
  intro os
  kernel_rfl
theorem facts {P : Program} {w : World} {K : PySem.W.Frag} {h : Heap} {mg : Str → Option Value} {f : Addr} (X : K.In h) (G : h.Ns mainGlobals mg) (hfa : mg ("law" : Str) = some (.ref f)) (c : He.SaysD fa fn K) :
    ∃ fd : FuncData, (∀ (s : Shared) (v : Value), BindsTo s fd ⟨[v], []⟩ [("_law_script", v)]) ∧ ∀ base : Heap, K.In base → base.Ns mainGlobals mg → FnOk P w K mg base CX0 5 f fd ["_law_script"] (spLaw K) := by
  have T : Tx K mg := tx_mk fun x hx => He.free_ok X G (by
    obtain ⟨i, hi, e⟩ := List.mem_iff_getElem.mp hx
    exact c.fact (14 + i) (f := .free x) (by
      show ([.glo "steps", .glo "before", .glo "low", .glo "sees", .glo "_law_hand", .glo "_law_take", .glo "_law_of", .glo "_law_size", .glo "_law_look", .glo "_law_is_done", .glo "_law_numbers", .glo "_law_told", .glo "law", .int "RING" 64] ++ freeNames.map He.Fa.free)[14 + i]? = _
      rw [List.getElem?_append_right (by show 14 ≤ _; omega)]
      show (freeNames.map He.Fa.free)[14 + i - 14]? = _
      rw [Nat.add_sub_cancel_left, List.getElem?_map, List.getElem?_eq_getElem hi, e]
      rfl))
  have g_RING := int_g X G (c.fact 13 (f := .int "RING" 64) rfl)
  have D_steps : DefK K mg "steps" s_steps ["one", "other", "ring"] 2 [("ring", .int 64)] := defK_mk X G (c.fact 0 (f := .glo "steps") rfl) (c.def_ 0 (d := d_steps) rfl) rfl
    (fun _ _ _ _ _ _ us ks l1 l2 => match us, ks, l1, l2 with | [_, _], [_], _, _ => ⟨_, _, _, _, _, _, rfl, rfl, rfl⟩) (fun _ _ _ _ _ _ us ws l1 l2 => match us, ws, l1, l2 with | [_, _], [_], _, _ => rfl)
  have D_before : DefK K mg "before" s_before ["one", "other", "ring"] 2 [("ring", .int 64)] := defK_mk X G (c.fact 1 (f := .glo "before") rfl) (c.def_ 1 (d := d_before) rfl) rfl
    (fun _ _ _ _ _ _ us ks l1 l2 => match us, ks, l1, l2 with | [_, _], [_], _, _ => ⟨_, _, _, _, _, _, rfl, rfl, rfl⟩) (fun _ _ _ _ _ _ us ws l1 l2 => match us, ws, l1, l2 with | [_, _], [_], _, _ => rfl)
  have D_low : Def0 K mg "low" s_low ["look"] := def0_mk X G (c.fact 2 (f := .glo "low") rfl) (c.def_ 2 (d := d_low) rfl) fun _ _ _ _ _ _ us hl => match us, hl with | [_], _ => rfl
  have D_sees : DefK K mg "sees" s_sees ["look", "number", "fate", "ring"] 3 [("ring", .int 64)] := defK_mk X G (c.fact 3 (f := .glo "sees") rfl) (c.def_ 3 (d := d_sees) rfl) rfl
    (fun _ _ _ _ _ _ us ks l1 l2 => match us, ks, l1, l2 with | [_, _, _], [_], _, _ => ⟨_, _, _, _, _, _, rfl, rfl, rfl⟩) (fun _ _ _ _ _ _ us ws l1 l2 => match us, ws, l1, l2 with | [_, _, _], [_], _, _ => rfl)
  have D_l_hand : Def0 K mg "_law_hand" s_l_hand ["_law_script", "_law_k"] := def0_mk X G (c.fact 4 (f := .glo "_law_hand") rfl) (c.def_ 4 (d := d_l_hand) rfl) fun _ _ _ _ _ _ us hl => match us, hl with | [_, _], _ => rfl
  have D_l_take : Def0 K mg "_law_take" s_l_take ["_law_hand_here", "_law_many"] := def0_mk X G (c.fact 5 (f := .glo "_law_take") rfl) (c.def_ 5 (d := d_l_take) rfl) fun _ _ _ _ _ _ us hl => match us, hl with | [_, _], _ => rfl
  have D_l_of : Def0 K mg "_law_of" s_l_of ["_law_hand_here", "_law_some"] := def0_mk X G (c.fact 6 (f := .glo "_law_of") rfl) (c.def_ 6 (d := d_l_of) rfl) fun _ _ _ _ _ _ us hl => match us, hl with | [_, _], _ => rfl
  have D_l_size : Def0 K mg "_law_size" s_l_size ["_law_hand_here"] := def0_mk X G (c.fact 7 (f := .glo "_law_size") rfl) (c.def_ 7 (d := d_l_size) rfl) fun _ _ _ _ _ _ us hl => match us, hl with | [_], _ => rfl
  have D_l_look : Def0 K mg "_law_look" s_l_look ["_law_hand_here", "_law_size_here"] := def0_mk X G (c.fact 8 (f := .glo "_law_look") rfl) (c.def_ 8 (d := d_l_look) rfl) fun _ _ _ _ _ _ us hl => match us, hl with | [_, _], _ => rfl
  have D_l_is_done : Def0 K mg "_law_is_done" s_l_is_done ["_law_look_here", "_law_number", "_law_fate", "_law_size_here"] := def0_mk X G (c.fact 9 (f := .glo "_law_is_done") rfl) (c.def_ 9 (d := d_l_is_done) rfl) fun _ _ _ _ _ _ us hl => match us, hl with | [_, _, _, _], _ => rfl
  have D_l_numbers : Def0 K mg "_law_numbers" s_l_numbers ["_law_hand_here", "_law_look_here", "_law_size_here"] := def0_mk X G (c.fact 10 (f := .glo "_law_numbers") rfl) (c.def_ 10 (d := d_l_numbers) rfl) fun _ _ _ _ _ _ us hl => match us, hl with | [_, _, _], _ => rfl
  have D_l_told : Def0 K mg "_law_told" s_l_told ["_law_look_here", "_law_number", "_law_fate", "_law_size_here"] := def0_mk X G (c.fact 11 (f := .glo "_law_told") rfl) (c.def_ 11 (d := d_l_told) rfl) fun _ _ _ _ _ _ us hl => match us, hl with | [_, _, _, _], _ => rfl
  obtain ⟨fd, F⟩ := c.def_ 12 (d := d_law) rfl
  have e := hfa.symm.trans (He.glo_ok X G (c.fact 12 (f := .glo "law") rfl))
  cases e
  have b := FunD.bindsA (ps := ["_law_script"]) F fun _ _ _ _ _ _ us hl => match us, hl with | [_], _ => rfl
  refine ⟨fd, fun s v => b s [v] rfl, fun base _ _ => ?_⟩
  obtain ⟨K_steps, C_steps⟩ := D_steps.ok (P := P) (w := w) (base := base) (sp := spSteps) sc_steps (fun vs H Q E h => by first | (obtain ⟨rfl, _⟩ := h; rfl) | (obtain ⟨_, rfl, _⟩ := h; rfl) | (obtain ⟨_, _, rfl, _⟩ := h; rfl) | (obtain ⟨_, _, _, rfl, _⟩ := h; rfl) | (obtain ⟨_, _, _, _, rfl, _⟩ := h; rfl) | (obtain ⟨_, _, _, _, _, rfl, _⟩ := h; rfl) | (obtain ⟨_, _, _, _, _, _, rfl, _⟩ := h; rfl) | (obtain ⟨_, _, _, _, _, _, _, rfl, _⟩ := h; rfl)) (ok_steps)
  obtain ⟨K_before, C_before⟩ := D_before.ok (P := P) (w := w) (base := base) (sp := spBefore) sc_before (fun vs H Q E h => by first | (obtain ⟨rfl, _⟩ := h; rfl) | (obtain ⟨_, rfl, _⟩ := h; rfl) | (obtain ⟨_, _, rfl, _⟩ := h; rfl) | (obtain ⟨_, _, _, rfl, _⟩ := h; rfl) | (obtain ⟨_, _, _, _, rfl, _⟩ := h; rfl) | (obtain ⟨_, _, _, _, _, rfl, _⟩ := h; rfl) | (obtain ⟨_, _, _, _, _, _, rfl, _⟩ := h; rfl) | (obtain ⟨_, _, _, _, _, _, _, rfl, _⟩ := h; rfl)) (ok_before K_steps)
  have C_low := D_low.cal (P := P) (w := w) (base := base) (sp := spLow K) sc_low (fun vs H Q E h => by first | (obtain ⟨rfl, _⟩ := h; rfl) | (obtain ⟨_, rfl, _⟩ := h; rfl) | (obtain ⟨_, _, rfl, _⟩ := h; rfl) | (obtain ⟨_, _, _, rfl, _⟩ := h; rfl) | (obtain ⟨_, _, _, _, rfl, _⟩ := h; rfl) | (obtain ⟨_, _, _, _, _, rfl, _⟩ := h; rfl) | (obtain ⟨_, _, _, _, _, _, rfl, _⟩ := h; rfl) | (obtain ⟨_, _, _, _, _, _, _, rfl, _⟩ := h; rfl)) (ok_low T)
  obtain ⟨K_sees, C_sees⟩ := D_sees.ok (P := P) (w := w) (base := base) (sp := spSees K) sc_sees (fun vs H Q E h => by first | (obtain ⟨rfl, _⟩ := h; rfl) | (obtain ⟨_, rfl, _⟩ := h; rfl) | (obtain ⟨_, _, rfl, _⟩ := h; rfl) | (obtain ⟨_, _, _, rfl, _⟩ := h; rfl) | (obtain ⟨_, _, _, _, rfl, _⟩ := h; rfl) | (obtain ⟨_, _, _, _, _, rfl, _⟩ := h; rfl) | (obtain ⟨_, _, _, _, _, _, rfl, _⟩ := h; rfl) | (obtain ⟨_, _, _, _, _, _, _, rfl, _⟩ := h; rfl)) (ok_sees K_before)
  have C_l_hand := D_l_hand.cal (P := P) (w := w) (base := base) (sp := spHand K) sc_l_hand (fun vs H Q E h => by first | (obtain ⟨rfl, _⟩ := h; rfl) | (obtain ⟨_, rfl, _⟩ := h; rfl) | (obtain ⟨_, _, rfl, _⟩ := h; rfl) | (obtain ⟨_, _, _, rfl, _⟩ := h; rfl) | (obtain ⟨_, _, _, _, rfl, _⟩ := h; rfl) | (obtain ⟨_, _, _, _, _, rfl, _⟩ := h; rfl) | (obtain ⟨_, _, _, _, _, _, rfl, _⟩ := h; rfl) | (obtain ⟨_, _, _, _, _, _, _, rfl, _⟩ := h; rfl)) (ok_hand T)
  have C_l_take := D_l_take.cal (P := P) (w := w) (base := base) (sp := spTake) sc_l_take (fun vs H Q E h => by first | (obtain ⟨rfl, _⟩ := h; rfl) | (obtain ⟨_, rfl, _⟩ := h; rfl) | (obtain ⟨_, _, rfl, _⟩ := h; rfl) | (obtain ⟨_, _, _, rfl, _⟩ := h; rfl) | (obtain ⟨_, _, _, _, rfl, _⟩ := h; rfl) | (obtain ⟨_, _, _, _, _, rfl, _⟩ := h; rfl) | (obtain ⟨_, _, _, _, _, _, rfl, _⟩ := h; rfl) | (obtain ⟨_, _, _, _, _, _, _, rfl, _⟩ := h; rfl)) (ok_take T)
  have C_l_of := D_l_of.cal (P := P) (w := w) (base := base) (sp := spOf K) sc_l_of (fun vs H Q E h => by first | (obtain ⟨rfl, _⟩ := h; rfl) | (obtain ⟨_, rfl, _⟩ := h; rfl) | (obtain ⟨_, _, rfl, _⟩ := h; rfl) | (obtain ⟨_, _, _, rfl, _⟩ := h; rfl) | (obtain ⟨_, _, _, _, rfl, _⟩ := h; rfl) | (obtain ⟨_, _, _, _, _, rfl, _⟩ := h; rfl) | (obtain ⟨_, _, _, _, _, _, rfl, _⟩ := h; rfl) | (obtain ⟨_, _, _, _, _, _, _, rfl, _⟩ := h; rfl)) (ok_of T C_l_take)
  have C_l_size := D_l_size.cal (P := P) (w := w) (base := base) (sp := spSize) sc_l_size (fun vs H Q E h => by first | (obtain ⟨rfl, _⟩ := h; rfl) | (obtain ⟨_, rfl, _⟩ := h; rfl) | (obtain ⟨_, _, rfl, _⟩ := h; rfl) | (obtain ⟨_, _, _, rfl, _⟩ := h; rfl) | (obtain ⟨_, _, _, _, rfl, _⟩ := h; rfl) | (obtain ⟨_, _, _, _, _, rfl, _⟩ := h; rfl) | (obtain ⟨_, _, _, _, _, _, rfl, _⟩ := h; rfl) | (obtain ⟨_, _, _, _, _, _, _, rfl, _⟩ := h; rfl)) (ok_size T C_l_take C_l_of)
  have C_l_look := D_l_look.cal (P := P) (w := w) (base := base) (sp := spLook K) sc_l_look (fun vs H Q E h => by first | (obtain ⟨rfl, _⟩ := h; rfl) | (obtain ⟨_, rfl, _⟩ := h; rfl) | (obtain ⟨_, _, rfl, _⟩ := h; rfl) | (obtain ⟨_, _, _, rfl, _⟩ := h; rfl) | (obtain ⟨_, _, _, _, rfl, _⟩ := h; rfl) | (obtain ⟨_, _, _, _, _, rfl, _⟩ := h; rfl) | (obtain ⟨_, _, _, _, _, _, rfl, _⟩ := h; rfl) | (obtain ⟨_, _, _, _, _, _, _, rfl, _⟩ := h; rfl)) (ok_look T C_l_take C_l_of)
  have C_l_is_done := D_l_is_done.cal (P := P) (w := w) (base := base) (sp := spSees K) sc_l_is_done (fun vs H Q E h => by first | (obtain ⟨rfl, _⟩ := h; rfl) | (obtain ⟨_, rfl, _⟩ := h; rfl) | (obtain ⟨_, _, rfl, _⟩ := h; rfl) | (obtain ⟨_, _, _, rfl, _⟩ := h; rfl) | (obtain ⟨_, _, _, _, rfl, _⟩ := h; rfl) | (obtain ⟨_, _, _, _, _, rfl, _⟩ := h; rfl) | (obtain ⟨_, _, _, _, _, _, rfl, _⟩ := h; rfl) | (obtain ⟨_, _, _, _, _, _, _, rfl, _⟩ := h; rfl)) (ok_done T)
  have C_l_numbers := D_l_numbers.cal (P := P) (w := w) (base := base) (sp := spNumbers K) sc_l_numbers (fun vs H Q E h => by first | (obtain ⟨rfl, _⟩ := h; rfl) | (obtain ⟨_, rfl, _⟩ := h; rfl) | (obtain ⟨_, _, rfl, _⟩ := h; rfl) | (obtain ⟨_, _, _, rfl, _⟩ := h; rfl) | (obtain ⟨_, _, _, _, rfl, _⟩ := h; rfl) | (obtain ⟨_, _, _, _, _, rfl, _⟩ := h; rfl) | (obtain ⟨_, _, _, _, _, _, rfl, _⟩ := h; rfl) | (obtain ⟨_, _, _, _, _, _, _, rfl, _⟩ := h; rfl)) (ok_numbers T C_l_take)
  have C_l_told := D_l_told.cal (P := P) (w := w) (base := base) (sp := spSees K) sc_l_told (fun vs H Q E h => by first | (obtain ⟨rfl, _⟩ := h; rfl) | (obtain ⟨_, rfl, _⟩ := h; rfl) | (obtain ⟨_, _, rfl, _⟩ := h; rfl) | (obtain ⟨_, _, _, rfl, _⟩ := h; rfl) | (obtain ⟨_, _, _, _, rfl, _⟩ := h; rfl) | (obtain ⟨_, _, _, _, _, rfl, _⟩ := h; rfl) | (obtain ⟨_, _, _, _, _, _, rfl, _⟩ := h; rfl) | (obtain ⟨_, _, _, _, _, _, _, rfl, _⟩ := h; rfl)) (ok_told T g_RING K_sees C_sees)
  refine F.ok (CX := CX0) sc_law (fun vs H Q E h => by first | (obtain ⟨rfl, _⟩ := h; rfl) | (obtain ⟨_, rfl, _⟩ := h; rfl) | (obtain ⟨_, _, rfl, _⟩ := h; rfl) | (obtain ⟨_, _, _, rfl, _⟩ := h; rfl) | (obtain ⟨_, _, _, _, rfl, _⟩ := h; rfl) | (obtain ⟨_, _, _, _, _, rfl, _⟩ := h; rfl) | (obtain ⟨_, _, _, _, _, _, rfl, _⟩ := h; rfl) | (obtain ⟨_, _, _, _, _, _, _, rfl, _⟩ := h; rfl)) (fun cdv A outer s H vs Q E hr h => ?_)
  obtain ⟨t, h1, h2⟩ := ok_law (P := P) (w := w) (base := base) T C_l_hand C_l_size C_l_look C_low C_l_numbers C_l_told C_l_is_done _ cdv A outer s H vs Q E hr h
  exact ⟨t, h1.nox, h2⟩
end Rd
open PySem PySem.W PySem.Calls PyProof.Rows
theorem PySem.Challenge.cw_roundstore_k08_what_looks_take_for_done_holds : PySem.Challenge.rw_roundstore_k08_what_looks_take_for_done.Holds := by
  w_on; o_law
  refine HandSHeadRun.head_any (r := OpenLaw.row PySem.Challenge.rw_roundstore_k08_what_looks_take_for_done) (q := view (OpenLaw.row PySem.Challenge.rw_roundstore_k08_what_looks_take_for_done).prog [16]) (H := Rd.hk) (ob := Rd.ob) (M := 2000) (loose := ["RING", "steps", "before", "low", "sees", "_law_hand", "_law_take", "_law_of", "_law_size", "_law_look", "_law_is_done", "_law_numbers", "_law_told"]) (d := HandSHeadRun.topDef (OpenLaw.row PySem.Challenge.rw_roundstore_k08_what_looks_take_for_done).prog 16) (kwd := []) Rd.ob_eq
    (by kernel_rfl) (fun s => by kernel_rfl) Rd.run (by kernel_rfl) (by kernel_rfl) (by kernel_rfl) (by rfl) (by first | assumption | decide +kernel) (by decide +kernel) ⟨rfl, rfl, rfl, rfl, rfl, by decide +kernel⟩ ?hw ?hc
  case hw => w_witness2
  case hc =>
    refine L2.walk_ofE (l := PySem.Challenge.rw_roundstore_k08_what_looks_take_for_done) (n := 63) (k := 5) (x := "_law_script") (CX := L2.CX0) rfl (by decide) (by kernel_rfl) ⟨rfl, by decide, by decide⟩ ?F (fun _ _ _ _ z => z)
    intro w mg fa h Y G hmg0
    obtain ⟨K, KX, c⟩ := Y
    have hmg : mg ("law" : PySem.Str) = some (.ref fa) := by
      have e : (HandSHeadRun.topDef (OpenLaw.row PySem.Challenge.rw_roundstore_k08_what_looks_take_for_done).prog 16).name = ("law" : PySem.Str) := by kernel_rfl
      rw [← e]
      exact hmg0
    obtain ⟨fd, hb, hF⟩ := Rd.facts (P := (PySem.Challenge.rw_roundstore_k08_what_looks_take_for_done).prog) (w := w) KX G hmg c
    exact ⟨K, fd, Rd.spLaw K, KX, hb, fun H a ns hl _ hS => ⟨a, ns, rfl, hS, hl, fun _ => rfl⟩, hF⟩
