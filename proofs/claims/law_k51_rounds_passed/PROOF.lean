import PyProof.Rows.All
import Wide.All
import OpenK.AllK
import Wide.FinOn
import KE.KStateDown
import KE.KDictPairs
import KE.KDictZip
import KE.GoesMore
import KE.GoesEnum
import HandS.Star
import HandS.ForMost
import HandS.More
import HandS.Conv
import HandS.Flow
import HandS.Style
import HandS.Steps
import HandS.Codes
import HandS.IsInst
import HandS.TupAny
import HandS.NoneIn
import HandS.RaiseMore
import HandS.SortInts
import HandS.SetFor
import HandS.Strs
import HandS.Wide
import HandS.WordsExc
import HandS.Defaults
import HandS.Walk
import HandS.Zip
import HandS.TupMul
import HandS.Head0
import HandS.Head1
import HandS.Head2
import HandS.HeadEnd
import HandS.HeadHook1
import HandS.HeadHook2
import PySem.Challenge.RW_roundstore_k51_rounds_passed
set_option Elab.async false
set_option linter.all false
set_option maxRecDepth 100000
set_option maxHeartbeats 8000000
/-! ### xs[::2]: some of its items -/
namespace L2
open PySem PySem.Spec PyProof.Rows
theorem vals_pick {xs : List V} {its : List Value} (r : Vals xs its) : ∀ ks : List Nat, Vals (ks.filterMap (xs[·]?)) (ks.filterMap (its.toArray[·]?))
  | [] => .nil
  | k :: ks => by
    have ih := vals_pick r ks
    have el := r.length
    rw [List.filterMap_cons, List.filterMap_cons]
    by_cases c : k < xs.length
    · obtain ⟨u, hu, ru⟩ := r.get (List.getElem?_eq_getElem c)
      have hu2 : its.toArray[k]? = some u := by simpa using hu
      rw [List.getElem?_eq_getElem c, hu2]
      exact .cons ru ih
    · have e1 : xs[k]? = none := List.getElem?_eq_none (by omega)
      have e2 : its.toArray[k]? = none := by
        simp
        omega
      rw [e1, e2]
      exact ih
def tStepL (K : PySem.W.Frag) (te : TE) : TE := fun σ H Q => te σ H fun x H1 => ∃ a xs, x = .ref a ∧ SqL K H1 a xs ∧ ∀ p ys, H1 p = none → (∀ y ∈ ys, y ∈ xs) → ys.length ≤ xs.length → Q (.ref p) (upd H1 p (.lst ys))
theorem pe_stepL {X : Cx} {e : Expr} {te : TE} {k : Nat} {c : Nat} {p1 p3 pos : Pos} (he : PE X e te) (hc : 0 < c := by decide) : PE X (.Subscript e (.Slice none none (some (.Constant (.int (c : Nat)) k p1)) p3) pos) (tStepL X.K te) := by
  refine ⟨fun pins s σ H Q I h => ?_⟩
  refine Subscript_ (thn (he.run pins s σ H _ I h) fun v0 s1 ⟨x, H1, I1, r1, q1⟩ => ?_)
  obtain ⟨a, xs, ex, hx, q⟩ := q1
  subst ex
  cases r1
  have hst : PO X (some (.Constant (.int (c : Nat)) k p1)) (tPart (tC (.int (c : Nat)))) := po_some pe_int
  refine wpAny_Slice (thn (po_none.run pins s1 σ H1 (fun o H2 => o = none ∧ H2 = H1) I1 ⟨rfl, rfl⟩) fun vl s2 ⟨l, H2, I2, pl, el, e2⟩ => ?_)
  subst el e2
  refine thn (po_none.run pins s2 σ H2 (fun o H3 => o = none ∧ H3 = H2) I2 ⟨rfl, rfl⟩) fun vu s3 ⟨u, H3, I3, pu, eu, e3⟩ => ?_
  subst eu e3
  refine thn (hst.run pins s3 σ H3 (fun o H4 => o = some ((c : Nat) : Int) ∧ H4 = H3) I3 ⟨_, rfl, rfl, rfl⟩) fun vs s4 ⟨o, H4, I4, ps, eo, e4⟩ => ?_
  subst eo e4
  have I5 : Inv X pins σ H4 { s4 with heap := s4.heap.push { cls := .type "slice", data := .fields #[vl, vu, vs] } } := I4.kept (t' := s4.toks) fun b ob q => Heap.get?_push_of_some _ q
  obtain ⟨its, r, ht, hz⟩ := I5.list hx
  have hlen := r.length
  show wpAny (model X.prog X.w) X.A (subscriptTail e (.Slice none none (some (.Constant (.int (c : Nat)) k p1)) p3) (.ref a) (.ref s4.heap.objs.size)) (EP X pins σ Q) X.xe { s4 with heap := s4.heap.push { cls := .type "slice", data := .fields #[vl, vu, vs] } }
  refine tail_any (ops := [.ref a, .ref s4.heap.objs.size]) ht.isList.typeIs (PySem.slot_list_getitem.lookup) ?_ (by with_unfolding_all rfl)
  refine wpAny_getItem_list_slice ht.isList (Heap.IsSliceOf.new _ vl vu vs) pl pu ps (fun z => by have z2 := Option.some.inj z; omega) ?_ (by rw [List.size_toArray]; omega)
  unfold slicePick
  generalize hks : sliceRange (sliceBounds none none (some ((c : Nat) : Int)) its.toArray.size).1 (sliceBounds none none (some ((c : Nat) : Int)) its.toArray.size).2.1 (sliceBounds none none (some ((c : Nat) : Int)) its.toArray.size).2.2 = ks
  have hkl : ks.length ≤ its.toArray.size := by
    rw [← hks]
    have cp : (some ((c : Nat) : Int)).getD 1 > 0 := by
      show ((c : Nat) : Int) > 0
      omega
    refine sliceRange_length_le _ _ _ _ (fun _ => ?_) (fun z => absurd cp z)
    show (0 : Int) ≤ (if (some ((c : Nat) : Int)).getD 1 > 0 then 0 else _) ∧ (if (some ((c : Nat) : Int)).getD 1 > 0 then _ else _) ≤ _
    rw [if_pos cp, if_pos cp]
    exact ⟨by decide, Int.le_refl _⟩
  have rp := vals_pick r ks
  have hle : (ks.filterMap (xs[·]?)).length ≤ xs.length := by
    have z := List.length_filterMap_le (fun k => xs[k]?) ks
    rw [List.size_toArray] at hkl
    omega
  refine ⟨.ref _, _, I5.laid (t' := s4.toks) (o := .lst (ks.filterMap (xs[·]?))) (fun b ob q => Heap.get?_push_of_some _ q) (Nat.le_refl _) ?_, rfl, q _ _ (I5.hok.fresh (Nat.le_refl _)) (fun y hy => ?_) hle⟩
  · exact ⟨Nat.le_trans hle hz, _, 0, rp, Heap.get?_push_size _ rfl⟩
  · obtain ⟨k, _, hk⟩ := List.mem_filterMap.mp hy
    exact List.mem_of_getElem? hk
end L2
/-! ### for i, x in enumerate(a tuple) -/
namespace PySem
open Sem (wp)
set_option maxHeartbeats 2000000 in
theorem enumT_makes {v0 : Value} {ob : Obj} {HH : Heap → Prop} (BB : Begins v0 ob HH) : Meets (Builtin.«enumerate.__new__» ⟨[.type "enumerate", v0], []⟩) fun _ R s => HH s.heap ∧
      R (.ok (.ret (.ref (s.heap.push ob).objs.size))) { s with heap := (s.heap.push ob).push { cls := .type "enumerate", data := .fields #[.none, .bool false, .ref s.heap.objs.size, rawInt 0, .none, .none] } } :=
  .of_wp fun prog w A R s hz => by
    obtain ⟨m0, g0, d0, t0, o0⟩ := s
    obtain ⟨hz1, hz2⟩ := hz
    have sub0 := sub_enumerate
    have beg : ∀ {A1 : Around} {E1 : Value → Shared → Prop} {Q1 : Value → Shared → Prop}, Q1 (.ref m0.objs.size) ⟨m0.push ob, g0, d0, t0, o0⟩ → wpAny (model prog w) A1 (pyIter v0) Q1 E1 ⟨m0, g0, d0, t0, o0⟩ := fun q => BB.iter prog w _ _ ⟨m0, g0, d0, t0, o0⟩ _ hz1 q
    wp_walk using beg
    refine wpAny_stack_any fun stk => wpAny_pure ?_
    split
    · rename_i cc _ _ _ _ _
      cases (cc == Value.type "enumerate") <;> (wp_walk using beg) <;> exact ⟨_, rfl, hz2⟩
    · wp_walk using beg
      exact ⟨_, rfl, hz2⟩
theorem enumT_call {prog : Program} {w : World} {A : Around} {E : Value → Shared → Prop} {s : Shared} {v0 : Value} {ob : Obj} {HH : Heap → Prop} {Q : Value → Shared → Prop} (BB : Begins v0 ob HH) (h1 : HH s.heap)
    (go : ∀ m1, IsEnum m1 (s.heap.objs.size + 1) s.heap.objs.size 0 .none → m1.get? s.heap.objs.size = some ob → m1.objs.size = s.heap.objs.size + 2 → (∀ b o, s.heap.get? b = some o → m1.get? b = some o) → Q (.ref (s.heap.objs.size + 1)) { s with heap := m1 }) :
    wpAny (model prog w) A (call (.type "enumerate") [v0]) Q E s := by
  refine callType_new F.called_enumerate (by decide) (F.typeCall_enumerate_1 _) (F.newCall_enumerate_1 _) (fun z => F.args_object_init_2 z _) F.entry_enumerate_new (enumT_makes BB) ⟨h1, ?_⟩
  have sz : (s.heap.push ob).objs.size = s.heap.objs.size + 1 := Heap.size_push ..
  show _ ∧ _
  rw [sz]
  have en : IsEnum ((s.heap.push ob).push { cls := .type "enumerate", data := .fields #[.none, .bool false, .ref s.heap.objs.size, rawInt 0, .none, .none] }) (s.heap.objs.size + 1) s.heap.objs.size 0 .none := by
    have z := Heap.get?_push_size (s.heap.push ob) (o := { cls := .type "enumerate", data := .fields #[.none, .bool false, .ref s.heap.objs.size, rawInt 0, .none, .none] }) rfl
    rw [sz] at z
    exact z
  exact ⟨⟨_, en, rfl⟩, go _ en (Heap.get?_push_of_some _ (Heap.get?_push_size _ BB.free)) (by rw [Heap.size_push, sz]) fun b o x => Heap.get?_push_of_some _ (Heap.get?_push_of_some _ x)⟩
end PySem
namespace L2
open PySem PySem.Spec PyProof.Rows
/-- the tuple at a as it stands at each turn, each item in a new pair -/
def IteT (K : PySem.W.Frag) (a : Addr) : It :=
  ⟨fun i H => ∃ (xs : List V) (x : V), SqT K H a xs ∧ xs[i]? = some x, fun i H v H' => ∃ T x, v = .ref T ∧ H T = none ∧ H' = upd H T (.tup [.int (i : Nat), x]) ∧ ∀ xs, SqT K H a xs → xs[i]? = some x, fun i H => ∃ xs : List V, SqT K H a xs ∧ xs.length ≤ i⟩
theorem turn_enumT {P : Program} {w : World} {K : PySem.W.Frag} {elts : List Expr} {kk : Nat} {tpos : Pos} (a e it : Addr) :
    Turn P w K (.Tuple elts kk tpos) (IteT K a) [e, it] e (fun i h => (∃ old, IsEnum h e it ((i : Nat) : Int) old) ∧ h.IsTupleIter it a i ∧ e ≠ it) where
  mem := by simp
  obj := fun i h st b hb => by
    obtain ⟨⟨old, en⟩, ⟨oi, hoi, _, hdi⟩, _⟩ := st
    rcases (show b = e ∨ b = it by simpa using hb) with z | z
    · rw [z]; exact ⟨_, en, fun v q => nomatch q⟩
    · rw [z]; exact ⟨oi, hoi, fun v q => by rw [hdi] at q; cases q⟩
  keep := fun i h h' st k => let ⟨⟨old, en⟩, ti, hne⟩ := st; ⟨⟨old, k e (by simp) _ en⟩, ti.at fun o q => k it (by simp) o q, hne⟩
  item := by
    intro X hP hw hK hc i pins s σ H E I hf st hg
    subst hP hw hK
    obtain ⟨⟨old, en⟩, ti, hne⟩ := st
    obtain ⟨xs, x, hq, hx⟩ := hg
    obtain ⟨its, rv, tp, hz⟩ := I.tuple hq
    have tp2 : s.heap.IsTuple a its.toArray := tp
    obtain ⟨u, hu, ru⟩ := rv.get hx
    have hel : e < s.heap.objs.size := Heap.lt_size en
    have hil : it < s.heap.objs.size := by obtain ⟨_, q, _⟩ := ti; exact Heap.lt_size q
    have ea : e ≠ a := fun z => by
      obtain ⟨o, q, c, _⟩ := tp
      rw [← z, show s.heap.get? e = _ from en] at q
      cases q
      exact absurd (Value.type.inj (show Value.type "enumerate" = Value.type "tuple" from c)) (by decide)
    have ia : a ≠ it := fun z => by
      obtain ⟨o, q, c, _⟩ := tp
      obtain ⟨o2, q2, c2, _⟩ := ti
      rw [z, q2] at q
      cases q
      rw [c2] at c
      exact absurd c (by decide)
    have hlt : i < its.toArray.size := by
      have z := (List.getElem?_eq_some_iff.mp hu).1
      simpa using z
    have DD : Draws X.prog X.w X.A.in1 it [it, a] its.toArray.size (fun j v => its.toArray[j]? = some v) (fun j h => h.IsTupleIter it a j ∧ h.IsTuple a its.toArray) := Draws.tuple (show X.A.in1.handled = none from I.ok.hd hc) it a ia its.toArray
    refine wpAny_pyNext_enum_itemD DD en ⟨ti, tp2⟩ hlt hne (by simp [hne, ea]) fun y m1 tk py ho st1 hT hsz hk => ?_
    have ey : y = u := by
      have z1 : its.toArray[i]? = some u := by simpa using hu
      have z2 : its.toArray[i]? = some y := py
      rw [z1] at z2
      exact (Option.some.inj z2).symm
    subst ey
    refine ⟨_, rfl, wpAny_letOwnedTupleGo_enum (s := { s with heap := m1, toks := tk + 1 }) ho fun m2 en2 sb => ?_⟩
    have hT2 : m2.get? s.heap.objs.size = some { cls := .type "tuple", data := .seq #[.int i tk, y] } := (sb.2 _ (Nat.ne_of_gt hel)).trans hT
    have new : ObjOk X.prog X.w (upd H s.heap.objs.size (.tup [.int (i : Nat), x])) m2 s.heap.objs.size (.tup [.int (i : Nat), x]) :=
      ⟨by show 2 ≤ sizeLine; decide, [.int i tk, y], .cons ⟨_, rfl⟩ (.cons ru .nil), ⟨_, hT2, rfl, _, rfl⟩⟩
    have I1 : Inv X pins σ (upd H s.heap.objs.size (.tup [.int (i : Nat), x])) { s with heap := m2, toks := tk + 1 } :=
      I.turnedNew (ch := [e, it]) (fun b ob hb q => (sb.2 b (fun z => hb (by simp [z]))).trans (hk b ob (fun z => hb (by simp [z])) (fun z => hb (by simp [z])) q)) hf (Nat.le_refl _) new
    refine ⟨.ref s.heap.objs.size, _, I1, rfl, ⟨_, x, rfl, I.hok.fresh (Nat.le_refl _), rfl, fun ys hy => by rw [I.tuple_inj hy hq]; exact hx⟩, ⟨⟨y, ?_⟩, st1.1.at fun o q => (sb.2 it (Ne.symm hne)).trans q, hne⟩, fun b hb => ?_⟩
    · rw [show ((i + 1 : Nat) : Int) = (i : Int) + 1 by omega]
      exact en2
    · have hb' : b < s.heap.objs.size := by
        rcases (show b = e ∨ b = it by simpa using hb) with z | z
        · exact z ▸ hel
        · exact z ▸ hil
      rw [upd_ne (Nat.ne_of_lt hb')]
      exact (hf b hb).1
  done := by
    intro X hP hw hK hc i pins s σ H E I hf st hg
    subst hP hw hK
    obtain ⟨⟨old, en⟩, ti, hne⟩ := st
    obtain ⟨xs, hq, hx⟩ := hg
    obtain ⟨its, rv, tp, hz⟩ := I.tuple hq
    obtain ⟨f0, f1, f2, f3, f4, f5⟩ := hf it (by simp)
    have hl := rv.length
    have DD : Draws X.prog X.w X.A.in1 it [it, a] 0 (fun _ _ => True) (fun j h => h.IsTupleIter it a (i + j) ∧ h.IsTuple a its.toArray) :=
      ⟨fun _ _ st => let ⟨o, ho, _⟩ := st.1; ⟨o, ho⟩, fun _ _ _ st hk => ⟨st.1.at fun o q => hk it (by simp) o q, st.2.at fun o q => hk a (by simp) o q⟩, fun j _ _ _ hj => absurd hj (Nat.not_lt_zero _), fun s1 Q1 E1 st1 hE1 => wpAny_nextOf_tuple_end (show X.A.in1.handled = none from I.ok.hd hc) st1.1 st1.2 (by simp; omega) hE1⟩
    exact wpAny_pyNext_enum_endD DD en ⟨ti, tp⟩ fun m1 eb => ⟨rfl, I.turned (t' := s.toks) (fun b o hb q => eb b o hb q) f0 f1 f3 f4 f5⟩
  self := fun A i s Q E st h => let ⟨⟨_, en⟩, _⟩ := st; wpAny_pyIter_enum en h
def iEnumT (K : PySem.W.Frag) (ta : TA) : TI := fun σ H R => ta σ H fun vs H1 => ∃ a xs, vs = [.ref a] ∧ SqT K H1 a xs ∧ R (IteT K a) H1
theorem pi_enumT {X : Cx} {e : Expr} {ta : TA} {p pos tpos : Pos} {elts : List Expr} {kk : Nat} (hg : Gl X "enumerate") (hm : X.mg "enumerate" = none) (ha : PA X [e] ta) (hs : starEach [e] X.env = [(false, eval e X.env)] := by rfl) : PI X (.Tuple elts kk tpos) (.Call (.Name "enumerate" p) [e] [] pos) (iEnumT X.K ta) := by
  refine ⟨fun pins s σ H R I h => ?_⟩
  refine Call_ (ld_blt I hg hm boot_enumerate (PyProof.Rows.callWith_type1 (thn (ha.run pos pins s σ H _ I h) fun us s1 ⟨vs, H1, I1, r1, q1⟩ => ?_) hs rfl))
  obtain ⟨a, xs, ex, hq, q⟩ := q1
  subst ex
  obtain ⟨u, rfl, rv1⟩ := vals1 r1
  cases rv1
  obtain ⟨its, rv, tp, hz⟩ := I1.tuple hq
  refine enumT_call (begins_tuple a its.toArray) tp fun m1 en hit hsz hk => wpAny_pyIter_enum en ?_
  have I2 : Inv X pins σ H1 { s1 with heap := m1 } := I1.kept (t' := s1.toks) hk
  refine ⟨s1.heap.objs.size + 1, [s1.heap.objs.size + 1, s1.heap.objs.size], _, _, H1, rfl, I2, turn_enumT a (s1.heap.objs.size + 1) s1.heap.objs.size, ⟨⟨.none, en⟩, ⟨_, hit, rfl, rfl⟩, Nat.succ_ne_self _⟩, fun b hb => ?_, q⟩
  have hle : s1.heap.objs.size ≤ b := by
    rcases (show b = s1.heap.objs.size + 1 ∨ b = s1.heap.objs.size by simpa using hb) with z | z
    · rw [z]; exact Nat.le_add_right _ _
    · rw [z]; exact Nat.le_refl _
  exact I1.fpOk hle (I1.hok.fresh hle)
theorem walk_enumT {K : PySem.W.Frag} {a : Addr} {xs : List V} : Walk (IteT K a) xs.length (fun H => SqT K H a xs) (YPair (fun i => some (.int (i : Nat))) (fun i => xs[i]?)) := by
  refine ⟨fun i _ hi q => ⟨xs, xs[i], q, by simp [hi]⟩, fun _ q => ⟨xs, q, Nat.le_refl _⟩, fun i H v H' _ q y => ?_⟩
  obtain ⟨T, x, h1, h2, h3, h4⟩ := y
  exact ⟨T, .int (i : Nat), x, h1, h2, h3, rfl, h4 xs q⟩
end L2
/-! ### repr of data, whatever it is -/
namespace L2
open PySem PySem.Spec PyProof.Rows
section
variable {X : Cx} {K1 : PySem.W.Frag}
def rReprA (K : PySem.W.Frag) : List V → Hp → VK → Prop := fun xs H Q => ∃ (v : V) (d : PyData), xs = [v] ∧ Dp K H v d ∧ d.showable = true ∧ d.hasDict = false ∧ d.depth ≤ 60 ∧ d.shown.length ≤ sizeLine ∧ Q (.str d.shown) H
theorem call_reprK (hK : X.K = K1) (hg : X.A.guards = some []) (hu : X.A.units + 64 < cLine) : CallR X (.builtin "repr") (rReprA K1) := by
  subst hK
  intro pins s σ H xs us Q I r h
  obtain ⟨v, d, rfl, hd, hs, hnd, hdp, hsz, q⟩ := h
  obtain ⟨u, rfl, rv⟩ := vals1 r
  cases hd with
  | non =>
    cases rv
    exact PySem.P.repr_of_none ⟨.str _, H, I.tok _, ⟨_, rfl⟩, q⟩
  | bl b =>
    cases rv
    exact PySem.P.repr_of_bool ⟨.str _, H, I.tok _, ⟨_, rfl⟩, q⟩
  | int i =>
    obtain ⟨t, rfl⟩ := rv
    exact PySem.P.repr_of_int (of_decide_eq_true hs) ⟨.str _, H, I.tok _, ⟨_, rfl⟩, q⟩
  | str x =>
    obtain ⟨t, rfl⟩ := rv
    exact PySem.P.repr_of_str ⟨.str _, H, I.tok _, ⟨_, rfl⟩, q⟩ hsz
  | lst a1 a2 =>
    cases rv
    obtain ⟨as, hr⟩ := Dp.reads I _ _ _ (.lst a1 a2) rfl
    exact repr_of_reads' hr hs (PyData.noDict_hsm hnd) hg (by omega) (fun _ _ e => e) (fun h' u tk hk => ⟨.str _, H, I.kept (t' := tk) hk, ⟨u, rfl⟩, q⟩) hsz
  | tup a1 a2 =>
    cases rv
    obtain ⟨as, hr⟩ := Dp.reads I _ _ _ (.tup a1 a2) rfl
    exact repr_of_reads' hr hs (PyData.noDict_hsm hnd) hg (by omega) (fun _ _ e => e) (fun h' u tk hk => ⟨.str _, H, I.kept (t' := tk) hk, ⟨u, rfl⟩, q⟩) hsz
theorem ix_listK (hK : X.K = K1) : IxR X (rIxL K1) := by
  subst hK
  exact ix_list
theorem ix_tupK (hK : X.K = K1) : IxR X (rIxT K1) := by
  subst hK
  exact ix_tup
theorem op_in_seqK (hK : X.K = K1) : OpR X (compareOp .In) (rIn K1 false) := by
  subst hK
  exact op_in_seq
end
end L2
/-! ### the law's own call, what runs around it told: nothing is being shown -/
namespace L2
open PySem PySem.Spec PyProof.Rows
/-- the promise of the def at f, called where A runs around -/
def FnAt (A : Around) (P : Program) (w : World) (K : PySem.W.Frag) (mg : Str → Option Value) (base : Heap) (CX : CXT) (k : Nat) (f : Addr) (fd : FuncData) (ps : List Str) (sp : Sp) : Prop :=
  ∀ (s : Shared) (H : Hp) (args : Args) (us : List Value) (vs : List V) (Q : VK) (E : XK), Room k A → Env0 P w K mg base A [] s H → BindsTo s fd args (ps.zip us) → Vals vs us → sp vs H Q E → codeAny (model P w) A (.call (.ref f) args) (CR CX [] P w H s Q E) s
theorem fnat_of {A : Around} {CX : CXT} {P : Program} {w : World} {K : PySem.W.Frag} {mg : Str → Option Value} {base : Heap} {k : Nat} {f : Addr} {fd : FuncData} {x qual : Str} {params : Arguments} {body : List Stmt} {scope : Scope} {N ps : List Str} {sp : Sp} {dvs : List V} {kws : List (Str × V)}
    (F : FunD K x qual params body scope dvs kws f fd) (S : FnScope N ps scope) (len : ∀ vs H Q E, sp vs H Q E → vs.length = ps.length)
    (hb : ∀ (cdv : Value) (s : Shared) (H : Hp) (vs : List V) (Q : VK) (E : XK), Room k (A.deeper (envOfC qual scope s.heap.objs.size f cdv)) → sp vs H Q E → ∃ t, PSs (cxOf CX P w K mg base N qual scope f cdv A [] s H E) body t ∧ t { nx := fun _ H' => Q .non H', rt := Q } (start N vs) H) :
    FnAt A P w K mg base CX (k + 1) f fd ps sp := by
  obtain ⟨oc, od, dV, kV, doc, pm, an, cdv, ct, osl, rfl, lk, hcd, _, _⟩ := F.ex
  intro s H args us vs Q E hr e0 bt r hsp
  have lv := len _ _ _ _ hsp
  have inK : K.In s.heap := e0.mod.kin.keeps fun b o e => (e0.bs b o e).1
  have nolim : s.heap.NoLimit := e0.mod.nolimit.keeps fun b o e => (e0.bs b o e).1
  have kinds : ∀ y ∈ ps.zip us, scope.names.lookup y.1 = some .local ∨ (scope.names.lookup y.1 = some .cell ∧ ((cellsFrom (s.heap.objs.size + 1) scope.names []).lookup y.1).isSome = true) := fun ⟨n, v⟩ hy =>
    (S.par n (List.of_mem_zip hy).1).elim .inl fun q => .inr ⟨q, PySem.W.cellsFrom_some _ _ _ (.inl q)⟩
  refine codeAny_call_function hr.depth (inK _ _ lk) rfl S.co S.gen rfl (PySem.W.codeRec_of inK hcd) (bt _ _ _ _ (wpAny_newFunctionEnv_cells S.kind kinds fun env he s1 x => ?_))
  subst he
  obtain ⟨t, ht, hq⟩ := hb cdv s H vs Q E (hr.deeper _) hsp
  have I : Inv (cxOf CX P w K mg base N qual scope f cdv A [] s H E) [] (start N vs) H s1 := inv_start S hr.hd e0 lv r x
  refine ⟨nolim.keeps x.toInCall.keep, codeAny_func (wpAny_mono (ht.run [] s1 (start N vs) H _ I hq) (fun fl s' hs => ?_) fun e s' hs => hs)⟩
  match fl, hs with
  | .ret u, ⟨v, σ', H', J, rv, q⟩ => exact ⟨v, H', J.os, J.bare, J.base, J.hok, rv, q⟩
  | .next, ⟨σ', H', J, q⟩ => exact ⟨V.non, H', J.os, J.bare, J.base, J.hok, rfl, q⟩
  | .brk, ⟨_, _, _, q⟩ => exact False.elim q
  | .cont, ⟨_, _, _, q⟩ => exact False.elim q
theorem law_at {P : Program} {w : World} {K : PySem.W.Frag} {mg mb : Str → Option Value} {k : Nat} {fa a : Addr} {fd : FuncData} {x : Str} {sp : Sp} {s1 : Shared} {vs : List Value} {ns : List Int} (KX : K.In s1.heap) (hns : s1.heap.Ns mainGlobals mg) (hb : s1.heap.Ns builtinsNs mb) (hbb : ∀ x : Str, x ≠ "__name__" → mb x = bootBuiltins x)
    (hlim : s1.heap.NoLimit) (hg : s1.gens = #[]) (ha : s1.heap.get? a = some { cls := .type "list", data := .seq vs.toArray }) (hi : IntsAre vs ns) (hl : ns.length ≤ sizeLine) (hr : Room k callerA)
    (F : ∀ base : Heap, K.In base → base.Ns mainGlobals mg → FnAt callerA P w K mg base CX0 k fa fd [x] sp) (hbind : ∀ (s : Shared) (u : Value), BindsTo s fd ⟨[u], []⟩ [(x, u)]) (hsp : ∀ H : Hp, Only H → SqL K H a (ns.map V.int) → sp [.ref a] H (fun v _ => v = .bl true) fun _ _ _ => False) :
    codeAny (model P w) callerA (.call (.ref fa) ⟨[.ref a], []⟩) (fun r s' => r = .ok (.ret (.bool true)) ∧ OldK s1.heap s'.heap ∧ s'.os = s1.os ∧ AllBare s'.gens) s1 := by
  have rv := vals_ints hi
  have core : ∀ H : Hp, Only H → SqL K H a (ns.map V.int) → HOk P w H s1.heap → (∀ b, H b ≠ none → b = a) → (H a ≠ none → K.lookup a = none) → codeAny (model P w) callerA (.call (.ref fa) ⟨[.ref a], []⟩) (fun r s' => r = .ok (.ret (.bool true)) ∧ OldK s1.heap s'.heap ∧ s'.os = s1.os ∧ AllBare s'.gens) s1 := by
    intro H only hS hok alone out
    have stays : ∀ {b : Addr} {o : Obj}, s1.heap.get? b = some o → H b = none → (hidT s1.heap H).get? b = some o := fun e n => hidT_get e n
    have free : ∀ {b : Addr} {o : Obj} {es : Array DictEntry} {ep : Nat}, s1.heap.get? b = some o → o.data = .dict es ep → H b = none := fun {b o es ep} e dd => by
      cases q : H b with
      | none => rfl
      | some u =>
        have eb : b = a := alone b fun z => by rw [q] at z; cases z
        subst eb
        rw [ha] at e
        cases e
        cases (show Data.seq vs.toArray _ = Data.dict es ep from dd)
    have names : ∀ {b : Addr} {m : Str → Option Value}, s1.heap.Ns b m → (hidT s1.heap H).Ns b m := fun {b m} ⟨o, es, ep, e, dd, r⟩ => ⟨o, es, ep, stays e (free e dd), dd, r⟩
    have inB : K.In (hidT s1.heap H) := fun b o e => stays (KX b o e) (by
      cases q : H b with
      | none => rfl
      | some u =>
        have eb : b = a := alone b fun z => by rw [q] at z; cases z
        subst eb
        rw [out fun z => by rw [q] at z; cases z] at e
        cases e)
    have modB : Mod K mg (hidT s1.heap H) := ⟨inB, names hns, ⟨mb, names hb, hbb⟩, let ⟨mc, h1, h2⟩ := hlim; ⟨mc, names h1, h2⟩⟩
    have env : Env0 P w K mg (hidT s1.heap H) callerA [] s1 H := ⟨rfl, modB, fun b o e => of_hidT e, Nat.le_of_eq (hidT_size _ _), trivial, fun b z => (nomatch (show b ∈ ([] : List Addr) from z)), hok, .of_eq hg⟩
    refine codeAny_mono (F _ inB (names hns) s1 H ⟨[.ref a], []⟩ [.ref a] [.ref a] _ _ hr env (hbind s1 (.ref a)) (.cons rfl .nil) (hsp H only hS)) fun r s' h => ?_
    match r, h with
    | .error e, h => exact (show False from h).elim
    | .ok .next, h => exact (show False from h).elim
    | .ok .brk, h => exact (show False from h).elim
    | .ok .cont, h => exact (show False from h).elim
    | .ok (.ret u), ⟨v, H', os, bare, un, hok', r', q⟩ =>
      have q' : v = .bl true := q
      subst q'
      obtain rfl : u = Value.bool true := r'
      refine ⟨rfl, OldK.of_keep fun b o e => ?_, os, bare⟩
      cases q : H b with
      | none => exact un.keep b o e q (fun z => nomatch (show b ∈ ([] : List Addr) from z)) (by simp)
      | some u =>
        rcases only b with z | ⟨ob, xs, z⟩
        · rw [q] at z; cases z
        · obtain ⟨e1, _⟩ := hok b _ z; obtain ⟨e2, _⟩ := hok' b _ (un.frzs b ob _ z)
          rw [e] at e1; cases e1; exact e2
  cases hk : K.lookup a with
  | some o =>
    have e := KX a o hk; rw [ha] at e; cases e
    exact core (fun _ => none) (fun _ => .inl rfl) (.inr ⟨_, vs.toArray, _, hk, rfl, rfl, rfl, by rw [List.size_toArray, hi.length]; exact hl, by simpa using rv⟩) (fun b u z => (nomatch (show (none : Option HO) = some u from z))) (fun b z => absurd rfl z) fun z => absurd rfl z
  | none =>
    refine core (fun b => if b = a then some (.frz { cls := .type "list", data := .seq vs.toArray } (.lst (ns.map V.int))) else none) (fun b => ?_) (.inl (.inr ⟨_, if_pos rfl⟩)) (fun b u z => ?_) (fun b z => Decidable.byContradiction fun hb => z (if_neg hb)) fun _ => hk
    · by_cases eb : b = a
      · exact .inr ⟨_, _, if_pos eb⟩
      · exact .inl (if_neg eb)
    · by_cases eb : b = a
      · cases (if_pos eb).symm.trans z
        subst eb
        exact ⟨ha, by rw [List.length_map]; exact hl, vs, _, rv, ha⟩
      · cases (if_neg eb).symm.trans z
theorem walk_at {l : PySem.W.OpenLaw} {n k : Nat} {q : Program} {loose : List Str} {XP : (Str → Option Value) → Heap → Prop} {YP : World → Heap → Prop} {d : DefRec} {x : Str} (hn : l.most = some n) (hn2 : n ≤ sizeLine) (hdf : d.params.defaults = []) (hr : Room k callerA)
    (F : ∀ (w : World) (mg : Str → Option Value) (fa : Addr) (h : Heap), YP w h → h.Ns mainGlobals mg → mg d.name = some (.ref fa) → ∃ (K : PySem.W.Frag) (fd : FuncData) (sp : Sp), K.In h ∧ (∀ (s : Shared) (u : Value), BindsTo s fd ⟨[u], []⟩ [(x, u)]) ∧
        (∀ (H : Hp) (a : Addr) (ns : List Int), ns.length ≤ n → Only H → SqL K H a (ns.map V.int) → sp [.ref a] H (fun v _ => v = .bl true) fun _ _ _ => False) ∧ ∀ base : Heap, K.In base → base.Ns mainGlobals mg → FnAt callerA l.prog w K mg base CX0 k fa fd [x] sp) :
    PySem.W.WalkO q loose XP YP l.row.toRowW d [] (fun f vs => PySem.call f vs) := by
  refine Att.attach_call hn hdf fun w s₀ s1 mg mb fa o pm cd doc a vs ns G Y ho hd hcd hmg hobj hints hlen hg => ?_
  obtain ⟨K, fd, sp, KX, hb, hsp, hF⟩ := F w mg fa _ Y G.T.g hmg
  exact law_at KX G.T.g G.T.b G.T.builtins G.T.nolimit hg hobj hints (Nat.le_trans hlen hn2) hr hF hb fun H hO hS => hsp H a ns hlen hO hS
/-- repr of data, where nothing is being shown -/
def rRepr (K : PySem.W.Frag) : List V → Hp → VK → Prop := fun xs H Q => ∃ (a : Addr) (d : PyData), xs = [.ref a] ∧ Dp K H (.ref a) d ∧ d.showable = true ∧ d.hasDict = false ∧ d.depth ≤ 60 ∧ d.shown.length ≤ sizeLine ∧ Q (.str d.shown) H
theorem call_repr {X : Cx} (hg : X.A.guards = some []) (hu : X.A.units + 64 < cLine) : CallR X (.builtin "repr") (rRepr X.K) := by
  intro pins s σ H xs us Q I r h
  obtain ⟨a, d, rfl, hd, hs, hnd, hdp, hsz, q⟩ := h
  rw [Vals.ref1 r]
  obtain ⟨as, hr⟩ := Dp.reads I d (.ref a) (.ref a) hd rfl
  exact repr_of_reads' hr hs (PyData.noDict_hsm hnd) hg (by omega) (fun _ _ e => e) (fun h' u tk hk => ⟨.str d.shown, H, I.kept (t' := tk) hk, ⟨u, rfl⟩, q⟩) hsz
end L2
namespace Rd
open PySem PySem.Spec PyProof.Rows L2
def top (i : Nat) : Stmt := PySem.Challenge.pw_roundstore_k51_rounds_passed.main.body.getD i (.Pass ⟨0, 0, 0, 0⟩)
abbrev s_passes : Stmt := top 2
abbrev N_passes : List Str := ["rounds", "some", "room", "told", "steps", "at", "takes", "lag"]
theorem sc_passes : FnScope N_passes ["rounds", "some", "room"] (defScope s_passes) := ⟨rfl, rfl, rfl, by decide +kernel, rfl, by decide +kernel, by decide +kernel⟩
abbrev s_l_hand : Stmt := top 4
abbrev N_l_hand : List Str := ["_law_script", "_law_k", "_law_cell", "_law_great"]
theorem sc_l_hand : FnScope N_l_hand ["_law_script", "_law_k"] (defScope s_l_hand) := ⟨rfl, rfl, rfl, by decide +kernel, rfl, by decide +kernel, by decide +kernel⟩
abbrev s_l_take : Stmt := top 5
abbrev N_l_take : List Str := ["_law_hand_here", "_law_many", "_law_digit", "_law_primes", "_law_prime", "_law_drawn"]
theorem sc_l_take : FnScope N_l_take ["_law_hand_here", "_law_many"] (defScope s_l_take) := ⟨rfl, rfl, rfl, by decide +kernel, rfl, by decide +kernel, by decide +kernel⟩
abbrev s_l_of : Stmt := top 6
abbrev N_l_of : List Str := ["_law_hand_here", "_law_some"]
theorem sc_l_of : FnScope N_l_of ["_law_hand_here", "_law_some"] (defScope s_l_of) := ⟨rfl, rfl, rfl, by decide +kernel, rfl, by decide +kernel, by decide +kernel⟩
abbrev s_l_rounds : Stmt := top 7
abbrev N_l_rounds : List Str := ["_law_hand_here", "_law_many", "_law_limit", "_law_some", "_law_k", "_law_takes", "_law_lag"]
theorem sc_l_rounds : FnScope N_l_rounds ["_law_hand_here", "_law_many", "_law_limit"] (defScope s_l_rounds) := ⟨rfl, rfl, rfl, by decide +kernel, rfl, by decide +kernel, by decide +kernel⟩
abbrev s_l_steps : Stmt := top 8
abbrev N_l_steps : List Str := ["_law_rounds_here", "_law_some", "_law_limit", "_law_told", "_law_stands", "_law_k"]
theorem sc_l_steps : FnScope N_l_steps ["_law_rounds_here", "_law_some", "_law_limit"] (defScope s_l_steps) := ⟨rfl, rfl, rfl, by decide +kernel, rfl, by decide +kernel, by decide +kernel⟩
abbrev s_law : Stmt := top 9
abbrev N_law : List Str := ["_law_script", "_law_k", "_law_hand_here", "_law_limit", "_law_rounds_here", "_law_kept", "_law_every", "_law_drawn", "_law_some", "_law_one"]
theorem sc_law : FnScope N_law ["_law_script"] (defScope s_law) := ⟨rfl, rfl, rfl, by decide +kernel, rfl, by decide +kernel, by decide +kernel⟩
theorem gl_of {X : Cx} {x : Str} {sc : Scope} (h : sc.names.lookup x = some .globalImplicit) (e : X.env.scope = sc := by rfl) : Gl X x := by
  unfold Gl Env.kindOf
  rw [e]
  exact h
theorem gl_passes_min : (defScope s_passes).names.lookup ("min" : Str) = some .globalImplicit := by decide +kernel
theorem gl_passes_tuple : (defScope s_passes).names.lookup ("tuple" : Str) = some .globalImplicit := by decide +kernel
theorem gl_l_hand_len : (defScope s_l_hand).names.lookup ("len" : Str) = some .globalImplicit := by decide +kernel
theorem gl_l_hand_abs : (defScope s_l_hand).names.lookup ("abs" : Str) = some .globalImplicit := by decide +kernel
theorem gl_l_hand_int : (defScope s_l_hand).names.lookup ("int" : Str) = some .globalImplicit := by decide +kernel
theorem gl_l_of_l_take : (defScope s_l_of).names.lookup ("_law_take" : Str) = some .globalImplicit := by decide +kernel
theorem gl_l_of_len : (defScope s_l_of).names.lookup ("len" : Str) = some .globalImplicit := by decide +kernel
theorem gl_l_rounds_l_of : (defScope s_l_rounds).names.lookup ("_law_of" : Str) = some .globalImplicit := by decide +kernel
theorem gl_l_rounds_l_take : (defScope s_l_rounds).names.lookup ("_law_take" : Str) = some .globalImplicit := by decide +kernel
theorem gl_l_rounds_tuple : (defScope s_l_rounds).names.lookup ("tuple" : Str) = some .globalImplicit := by decide +kernel
theorem gl_l_steps_len : (defScope s_l_steps).names.lookup ("len" : Str) = some .globalImplicit := by decide +kernel
theorem gl_law_min : (defScope s_law).names.lookup ("min" : Str) = some .globalImplicit := by decide +kernel
theorem gl_law_len : (defScope s_law).names.lookup ("len" : Str) = some .globalImplicit := by decide +kernel
theorem gl_law_repr : (defScope s_law).names.lookup ("repr" : Str) = some .globalImplicit := by decide +kernel
theorem gl_law_l_hand : (defScope s_law).names.lookup ("_law_hand" : Str) = some .globalImplicit := by decide +kernel
theorem gl_law_l_of : (defScope s_law).names.lookup ("_law_of" : Str) = some .globalImplicit := by decide +kernel
theorem gl_law_l_take : (defScope s_law).names.lookup ("_law_take" : Str) = some .globalImplicit := by decide +kernel
theorem gl_law_l_rounds : (defScope s_law).names.lookup ("_law_rounds" : Str) = some .globalImplicit := by decide +kernel
theorem gl_law_tuple : (defScope s_law).names.lookup ("tuple" : Str) = some .globalImplicit := by decide +kernel
theorem gl_law_passes : (defScope s_law).names.lookup ("passes" : Str) = some .globalImplicit := by decide +kernel
theorem gl_law_l_steps : (defScope s_law).names.lookup ("_law_steps" : Str) = some .globalImplicit := by decide +kernel
theorem gl_law_STOP : (defScope s_law).names.lookup ("STOP" : Str) = some .globalImplicit := by decide +kernel
theorem bb_min : bootBuiltins "min" = some (.builtin "min") := by decide +kernel
theorem bb_len : bootBuiltins "len" = some (.builtin "len") := by decide +kernel
theorem bb_abs : bootBuiltins "abs" = some (.builtin "abs") := by decide +kernel
theorem bb_repr : bootBuiltins "repr" = some (.builtin "repr") := by decide +kernel
theorem bt_tuple : bootBuiltins "tuple" = some (.type "tuple") := by decide +kernel
theorem bt_int : bootBuiltins "int" = some (.type "int") := by decide +kernel
/-! ### what the top leaves, and what a def keeps -/
structure Tx (K : PySem.W.Frag) (mg : Str → Option Value) : Prop where
  len : mg "len" = none
  abs : mg "abs" = none
  int : mg "int" = none
  bool : mg "bool" = none
  min : mg "min" = none
  max : mg "max" = none
  all : mg "all" = none
  isinstance : mg "isinstance" = none
  range : mg "range" = none
  list : mg "list" = none
  tuple : mg "tuple" = none
  sorted : mg "sorted" = none
  set : mg "set" = none
  enumerate : mg "enumerate" = none
  repr : mg "repr" = none
  dict : mg "dict" = none
  zip : mg "zip" = none
  str : mg "str" = none
  sum : mg "sum" = none
def freeNames : List Str := ["len", "abs", "int", "bool", "min", "max", "all", "isinstance", "range", "list", "tuple", "sorted", "set", "enumerate", "repr", "dict", "zip", "str", "sum"]
theorem tx_mk {K : PySem.W.Frag} {mg : Str → Option Value} (h : ∀ x ∈ freeNames, mg x = none) : Tx K mg :=
  ⟨h _ (by decide), h _ (by decide), h _ (by decide), h _ (by decide), h _ (by decide), h _ (by decide), h _ (by decide), h _ (by decide), h _ (by decide), h _ (by decide), h _ (by decide), h _ (by decide), h _ (by decide), h _ (by decide), h _ (by decide), h _ (by decide), h _ (by decide), h _ (by decide), h _ (by decide)⟩
/-- a def without defaults -/
structure Def0 (K : PySem.W.Frag) (mg : Str → Option Value) (x : Str) (st : Stmt) (ps : List Str) : Prop where
  ex : ∃ (f : Addr) (fd : FuncData), FunD K x x (defArgs st) (defBody st) (defScope st) [] [] f fd ∧ mg x = some (.ref f) ∧ Binds K fd ps []
/-- a def with keyword-only defaults: n values by place, the rest by name or left out -/
structure DefK (K : PySem.W.Frag) (mg : Str → Option Value) (x : Str) (st : Stmt) (ps : List Str) (n : Nat) (kws : List (Str × V)) : Prop where
  ex : ∃ (f : Addr) (fd : FuncData), FunD K x x (defArgs st) (defBody st) (defScope st) [] kws f fd ∧ mg x = some (.ref f) ∧ (∃ ds, Vals (kws.map (·.2)) ds ∧ Binds K fd ps ds) ∧ ∃ g, KBn K fd ps n (kws.map (·.1)) g (fun vs zs => vs ++ zs)
structure CalK (P : Program) (w : World) (K : PySem.W.Frag) (mg : Str → Option Value) (base : Heap) (k : Nat) (x : Str) (n : Nat) (ks : List Str) (sp : Sp) : Prop where
  ex : ∃ (f : Addr) (fd : FuncData) (ps : List Str) (g : List Value → List Value → List Value), FnOk P w K mg base CX0 k f fd ps sp ∧ mg x = some (.ref f) ∧ PySem.W.keepIn K (.ref f) = true ∧ KBn K fd ps n ks g (fun vs zs => vs ++ zs)
section
variable {P : Program} {w : World} {K : PySem.W.Frag} {mg : Str → Option Value} {base : Heap} {x : Str} {st : Stmt} {N ps : List Str} {k n : Nat} {sp : Sp} {kws : List (Str × V)}
/-- the body of a def, as its rule asks it -/
def BodyOk (P : Program) (w : World) (K : PySem.W.Frag) (mg : Str → Option Value) (base : Heap) (x : Str) (st : Stmt) (N : List Str) (k : Nat) (sp : Sp) : Prop :=
  ∀ (f : Addr) (cdv : Value) (A : Around) (outer : List Env) (s : Shared) (H : Hp) (vs : List V) (Q : VK) (E : XK), Room k (A.deeper (envOfC x (defScope st) s.heap.objs.size f cdv)) → sp vs H Q E →
      ∃ t, PSs (cxOf CX0 P w K mg base N x (defScope st) f cdv A outer s H E).nox (defBody st) t ∧ t { nx := fun _ H' => Q .non H', rt := Q } (start N vs) H
theorem Def0.cal (D : Def0 K mg x st ps) (S : FnScope N ps (defScope st)) (len : ∀ vs H Q E, sp vs H Q E → vs.length = ps.length) (hb : BodyOk P w K mg base x st N k sp) : C8.Cal P w K mg base (k + 1) x sp [] := by
  obtain ⟨f, fd, F, g, b⟩ := D.ex
  refine ⟨f, fd, ps, [], F.ok (CX := CX0) S len (fun cdv A outer s H vs Q E hr h => ?_), g, F.kp, b, .nil⟩
  obtain ⟨t, h1, h2⟩ := hb f cdv A outer s H vs Q E hr h
  exact ⟨t, h1.nox, h2⟩
theorem DefK.ok (D : DefK K mg x st ps n kws) (S : FnScope N ps (defScope st)) (len : ∀ vs H Q E, sp vs H Q E → vs.length = ps.length) (hb : BodyOk P w K mg base x st N k sp) :
    CalK P w K mg base (k + 1) x n (kws.map (·.1)) sp ∧ C8.Cal P w K mg base (k + 1) x sp (kws.map (·.2)) := by
  obtain ⟨f, fd, F, g, ⟨ds, hd, b⟩, gg, kb⟩ := D.ex
  have h : FnOk P w K mg base CX0 (k + 1) f fd ps sp := F.ok (CX := CX0) S len (fun cdv A outer s H vs Q E hr h => by
    obtain ⟨t, h1, h2⟩ := hb f cdv A outer s H vs Q E hr h
    exact ⟨t, h1.nox, h2⟩)
  exact ⟨⟨f, fd, ps, gg, h, g, F.kp, kb⟩, ⟨f, fd, ps, ds, h, g, F.kp, b, hd⟩⟩
end
section
variable {X : Cx} {k j n : Nat} {ks : List Str} {sp : Sp} {x : Str} {p pos : Pos} {e : Expr} {es : List Expr} {kws : List Keyword} {t tk : TA}
theorem pe_ck (c : CalK X.prog X.w X.K X.mg X.base k x n ks sp) (hr : Room j X.A) (hk : k ≤ j) (hg : Gl X x) (ha : PA X (e :: es) t) (hkw : PK X kws tk) (hall : (backToKw pos (keywordEach kws X.env)).all (·.1.isSome) = true := by rfl) (hks : (backToKw pos (keywordEach kws X.env)).filterMap (·.1) = ks := by rfl)
    (hdb : (x == ("__debug__" : Str)) = false := by decide) (he : starEach (e :: es) X.env = (false, eval e X.env) :: starEach es X.env := by rfl)
    (hpl : ((backTo pos (starEach (e :: es) X.env)).any (·.1) || (backToKw pos (keywordEach kws X.env)).any (·.1.isNone)) = false := by rfl) :
    PE X (.Call (.Name x p) (e :: es) kws pos) (tCallN n ks.length sp (fun vs zs => vs ++ zs) E0 t tk) := by
  obtain ⟨f, fd, ps, g, F, hm, kp, kb⟩ := c.ex
  exact pe_callN F (hr.mono hk) hg hm kp kb pass0 ha hkw hall hks hdb he hpl
end
/-! ### heaps: all but the drawing hand stands -/
def Fr (h : Addr) (H H' : Hp) : Prop := ∀ a o, a ≠ h → H a = some o → H' a = some o
theorem Fr.refl (h : Addr) (H : Hp) : Fr h H H := fun _ _ _ e => e
theorem Fr.trans {h : Addr} {H H1 H2 : Hp} (a : Fr h H H1) (b : Fr h H1 H2) : Fr h H H2 := fun x o n e => b x o n (a x o n e)
theorem Fr.new {h : Addr} {H : Hp} {p : Addr} {o : HO} (e : H p = none) : Fr h H (upd H p o) := fun a u _ q => by
  rw [upd_ne (ne_of_none q e)]
  exact q
/-- what h did not know may change -/
theorem Fr.mut {h : Addr} {H H' : Hp} {p : Addr} {o : HO} (f : Fr h H H') (e : H p = none) : Fr h H (upd H' p o) := fun a u n q => by
  rw [upd_ne (ne_of_none q e)]
  exact f a u n q
theorem Fr.hand {h : Addr} {H : Hp} {o : HO} : Fr h H (upd H h o) := fun a u n q => by
  rw [upd_ne n]
  exact q
theorem Fr.seq {h : Addr} {K : PySem.W.Frag} {H H' : Hp} {a : Addr} {xs : List V} (f : Fr h H H') (n : a ≠ h) (q : SqL K H a xs) : SqL K H' a xs := by
  rcases q with (q | ⟨o, q⟩) | q
  · exact .inl (.inl (f _ _ n q))
  · exact .inl (.inr ⟨o, f _ _ n q⟩)
  · exact .inr q
theorem Fr.seqT {h : Addr} {K : PySem.W.Frag} {H H' : Hp} {a : Addr} {xs : List V} (f : Fr h H H') (n : a ≠ h) (q : SqT K H a xs) : SqT K H' a xs := by
  rcases q with (q | ⟨o, q⟩) | q
  · exact .inl (.inl (f _ _ n q))
  · exact .inl (.inr ⟨o, f _ _ n q⟩)
  · exact .inr q
/-- the hand: three numbers; n bounds how often it drew -/
def HS (h : Addr) (n : Nat) (H : Hp) : Prop := ∃ g b c : Int, H h = some (.lst [.int g, .int b, .int c]) ∧ 0 ≤ g ∧ g < 10 ^ 240 ∧ 0 ≤ b ∧ b < 2 ^ 62 ∧ 0 ≤ c ∧ c ≤ n
theorem HS.mono {h : Addr} {n m : Nat} {H : Hp} (q : HS h n H) (l : n ≤ m) : HS h m H := by
  obtain ⟨g, b, c, e, g0, g1, b0, b1, c0, c1⟩ := q
  exact ⟨g, b, c, e, g0, g1, b0, b1, c0, by omega⟩
theorem HS.new {h : Addr} {n : Nat} {H : Hp} {p : Addr} {o : HO} (q : HS h n H) (e : H p = none) : HS h n (upd H p o) := by
  obtain ⟨g, b, c, eh, r⟩ := q
  exact ⟨g, b, c, (by rw [upd_ne (ne_of_none eh e)]; exact eh), r⟩
theorem HS.at {h : Addr} {n : Nat} {H : Hp} (q : HS h n H) : ∃ o, H h = some o := by
  obtain ⟨g, b, c, e, _⟩ := q
  exact ⟨_, e⟩
theorem HS.ne {h : Addr} {n : Nat} {H : Hp} {p : Addr} (q : HS h n H) (e : H p = none) : p ≠ h := by
  obtain ⟨g, b, c, eh, _⟩ := q
  exact fun z => by
    rw [z, eh] at e
    cases e
/-! ### the drawing defs of the law -/
def lim : Nat := 100000
/-- hand(script, k) -/
def spHand (K : PySem.W.Frag) : Sp := fun vs H Q _ => ∃ (a : Addr) (ns : List Int) (k : Nat), vs = [.ref a, .int k] ∧ SqL K H a (ns.map V.int) ∧ k ≤ 100 ∧ ∀ p H', H p = none → (∀ q o, H q = some o → H' q = some o) → HS p 0 H' → Q (.ref p) H'
/-- take(hand, many): some number below many -/
def spTake : Sp := fun vs H Q _ => ∃ (h : Addr) (m : Int) (n : Nat), vs = [.ref h, .int m] ∧ HS h n H ∧ n < lim ∧ 0 < m ∧ m ≤ 10 ^ 18 ∧ ∀ d H', 0 ≤ d → d < m → HS h (n + 1) H' → Fr h H H' → Q (.int d) H'
/-- of(hand, some) -/
def spOf (K : PySem.W.Frag) : Sp := fun vs H Q _ => ∃ (h a : Addr) (xs : List V) (n : Nat), vs = [.ref h, .ref a] ∧ HS h n H ∧ n < lim ∧ a ≠ h ∧ SqL K H a xs ∧ 0 < xs.length ∧ xs.length ≤ 1000 ∧ ∀ v H', v ∈ xs → HS h (n + 1) H' → Fr h H H' → Q v H'
theorem pow_ok {i j : Int} (h : 0 ≤ j ∧ j ≤ 1000000 ∧ i.natAbs < 2 ^ 64) : CPow i j := h
theorem atI_in {xs : List V} {i : Int} (h0 : 0 ≤ i) (h1 : i < xs.length) : ∃ v, atI xs i = some v ∧ v ∈ xs := by
  have h2 : i.toNat < xs.length := by omega
  refine ⟨xs[i.toNat], ?_, List.getElem_mem h2⟩
  have e := atI_nat (xs := xs) (j := i.toNat) (List.getElem?_eq_getElem h2)
  rw [Int.toNat_of_nonneg h0] at e
  exact e
theorem if01 (b : Bool) : 0 ≤ (if b = true then (1 : Int) else 0) ∧ (if b = true then (1 : Int) else 0) ≤ 1 := by
  cases b <;> decide
theorem w60 : (((10 : Int) ^ (60 : Int).toNat).natAbs) < 2 ^ 200 := by decide +kernel
theorem w120 : (((10 : Int) ^ (60 : Int).toNat * (10 : Int) ^ (60 : Int).toNat).natAbs) < 2 ^ 400 := by decide +kernel
theorem w180 : (((10 : Int) ^ (60 : Int).toNat * (10 : Int) ^ (60 : Int).toNat * (10 : Int) ^ (60 : Int).toNat).natAbs) < 2 ^ 600 := by decide +kernel
theorem e240 : ((10 : Int) ^ (60 : Int).toNat * (10 : Int) ^ (60 : Int).toNat * (10 : Int) ^ (60 : Int).toNat * (10 : Int) ^ (60 : Int).toNat) = 10 ^ 240 := by decide +kernel
theorem p17 : ((10 : Int) ^ (17 : Int).toNat) = 100000000000000000 := by decide +kernel
theorem p18 : ((10 : Int) ^ (18 : Int).toNat) = 1000000000000000000 := by decide +kernel
theorem p19 : ((2 : Int) ^ (19 : Int).toNat) = 524288 := by decide +kernel
theorem p20 : ((2 : Int) ^ (20 : Int).toNat) = 1048576 := by decide +kernel
theorem cdw {i j : Int} (h : 0 < j) (h1 : j ≤ 1000000000000000000) : CDivW i j := wide_div (b := 64) h (by omega) (by decide) (by decide)
section
variable {P : Program} {w : World} {K : PySem.W.Frag} {mg : Str → Option Value} {base : Heap}
theorem ok_hand (T : Tx K mg) : BodyOk P w K mg base "_law_hand" s_l_hand N_l_hand 0 (spHand K) := by
  intro f cdv A outer s H vs Q E hr h
  obtain ⟨a, ns, k, rfl, hS, hk, q⟩ := h
  refine ⟨_, (pss_cons (ps_set (i := 2) sc_l_hand.nd rfl (Or.inl rfl) (pe_ifExp (pt_cmpR op_lt (pv 1) (pe_callB call_len_seq (gl_of gl_l_hand_len) T.len bb_len (pa_cons (pv 0) pa_nil)) (nomark _)) (pe_ix ix_list (pv 0) (pv 1) (fun _ _ => rfl)) pe_int))
      (pss_cons (ps_set (i := 3) sc_l_hand.nd rfl (Or.inl rfl) (pe_op op_mulW (pe_op op_mulW (pe_op op_mulW (pe_op op_pow pe_int pe_int) (pe_op op_pow pe_int pe_int)) (pe_op op_pow pe_int pe_int)) (pe_op op_pow pe_int pe_int)))
      (pss_one (ps_ret (pe_lst (pa_cons (pe_op op_mul (pe_op op_mod (pe_callB call_abs (gl_of gl_l_hand_abs) T.abs bb_abs (pa_cons (pv 2) pa_nil)) (pv 3)) (pe_callTy call_int1 (gl_of gl_l_hand_int) T.int bt_int (pa_cons (pe_cmpR op_ge (pe_callB call_abs (gl_of gl_l_hand_abs) T.abs bb_abs (pa_cons (pv 2) pa_nil)) (pe_op op_pow pe_int pe_int) (nomark _)) pa_nil))) (pa_cons (pe_op op_add (pe_op op_add (pe_op op_mod (pv 2) pe_int) (pe_op op_mul pe_int (pv 1))) pe_int) (pa_cons pe_int pa_nil)))))))), ?_⟩
  refine st_seq (st_setH (PV := fun v H' => H' = H ∧ ∃ c : Int, v = .int c) (fun Q2 q2 => ?_) (fun v H' hv => ?_))
  · refine ⟨_, rfl, _, rfl, a, _, rfl, .inl hS, _, _, rfl, rfl, _, rfl, ite2 (fun e => ?_) (fun e => ?_)⟩
    · have e1 := of_decide_eq_true e
      rw [List.length_map] at e1
      have e2 : k < ns.length := by omega
      refine ⟨_, rfl, _, rfl, a, _, _, .int ns[k], rfl, rfl, hS, ?_, q2 _ _ ⟨rfl, _, rfl⟩⟩
      refine atI_nat ?_
      rw [List.getElem?_map, List.getElem?_eq_getElem e2]
      rfl
    · exact q2 _ _ ⟨rfl, _, rfl⟩
  · obtain ⟨rfl, c, rfl⟩ := hv
    dsimp only
    refine st_seq (st_setH (PV := fun v Hx => Hx = H' ∧ v = .int (10 ^ 240)) (fun Q2 q2 => ?_) (fun v Hx hv => ?_))
    · refine ⟨_, _, rfl, rfl, pow_ok (by decide), _, _, rfl, rfl, pow_ok (by decide), _, _, rfl, rfl, wide_mul w60 w60 (by decide) (by decide) (by decide), _, _, rfl, rfl, pow_ok (by decide), _, _, rfl, rfl, wide_mul w120 w60 (by decide) (by decide) (by decide), _, _, rfl, rfl, pow_ok (by decide), _, _, rfl, rfl, wide_mul w180 w60 (by decide) (by decide) (by decide), ?_⟩
      refine q2 _ _ ⟨rfl, ?_⟩
      exact congrArg V.int e240
    obtain ⟨rfl, rfl⟩ := hv
    refine ⟨_, rfl, _, rfl, _, rfl, _, _, rfl, rfl, (show (0 : Int) < 10 ^ 240 by decide), ?_⟩
    refine ⟨_, rfl, _, rfl, _, _, rfl, rfl, pow_ok (by decide), _, _, rfl, rfl, .inr ⟨_, rfl, _, _, rfl, rfl, .inr ?_, ?_⟩⟩
    · have z := if01 (decide (((10 : Int) ^ (18 : Int).toNat) ≤ (if c < 0 then -c else c)))
      exact ⟨Int.lt_of_lt_of_le (by decide) z.1, Int.lt_of_le_of_lt z.2 (by decide)⟩
    · refine ⟨_, rfl, _, _, rfl, rfl, (show (0 : Int) < 2305843009213693951 by decide), _, rfl, _, _, rfl, rfl, .inl (by decide), _, _, rfl, rfl, _, _, rfl, rfl, by show 3 ≤ sizeLine; decide, fun p np => ?_⟩
      refine q _ _ np (fun b o e => ?_) ⟨_, _, _, upd_same, ?_, ?_, ?_, ?_, ?_, ?_⟩
      · rw [upd_ne (ne_of_none e np)]
        exact e
      · exact Int.mul_nonneg (Int.emod_nonneg _ (by decide)) (if01 _).1
      · have h1 : (if c < 0 then -c else c) % (10 ^ 240) < 10 ^ 240 := Int.emod_lt_of_pos _ (by decide)
        have h0 : 0 ≤ (if c < 0 then -c else c) % (10 ^ 240) := Int.emod_nonneg _ (by decide)
        cases (decide (((10 : Int) ^ (18 : Int).toNat) ≤ (if c < 0 then -c else c))) with
        | true =>
          rw [if_pos rfl, Int.mul_one]
          exact h1
        | false =>
          rw [if_neg Bool.false_ne_true, Int.mul_zero]
          decide
      · have h1 : 0 ≤ c % 2305843009213693951 := Int.emod_nonneg _ (by decide)
        omega
      · have h1 : c % 2305843009213693951 < 2305843009213693951 := Int.emod_lt_of_pos _ (by decide)
        have h2 : (2 : Int) ^ 62 = 4611686018427387904 := by decide
        omega
      · decide
      · decide
def primes : List V := [.int 2147483647, .int 2147483629, .int 2147483587, .int 2147483579, .int 2147483563, .int 2147483549, .int 2147483543, .int 2147483497]
theorem primes_in : ∀ v ∈ primes, ∃ q : Int, v = .int q ∧ 0 < q ∧ q < 2147483648 := by
  intro v hv
  simp only [primes, List.mem_cons, List.not_mem_nil, or_false] at hv
  rcases hv with rfl | rfl | rfl | rfl | rfl | rfl | rfl | rfl <;> exact ⟨_, rfl, by decide, by decide⟩
theorem ok_take (T : Tx K mg) : BodyOk P w K mg base "_law_take" s_l_take N_l_take 0 spTake := by
  intro f cdv A outer s H vs Q E hr h
  obtain ⟨h, m, n, rfl, ⟨g, b, c, eh, g0, g1, b0, b1, c0, c1⟩, hn, m0, m1, q⟩ := h
  refine ⟨_, (pss_cons (ps_if (pt_cmpR op_gt (pe_ix ix_list (pv 0) pe_int (fun _ _ => rfl)) pe_int (nomark _)) (pss_cons (ps_set (i := 2) sc_l_take.nd rfl (Or.inl rfl) (pe_op op_mod (pe_ix ix_list (pv 0) pe_int (fun _ _ => rfl)) (pv 1)))
      (pss_cons (ps_asg (pe_op op_fdivW (pe_ix ix_list (pv 0) pe_int (fun _ _ => rfl)) (pv 1)) (pg_sub (pv 0) pe_int set_list))
      (pss_one (ps_ret (pv 2))))) pss_nil)
      (pss_cons (ps_asg (pe_op op_add (pe_ix ix_list (pv 0) pe_int (fun _ _ => rfl)) pe_int) (pg_sub (pv 0) pe_int set_list))
      (pss_cons (ps_set (i := 3) sc_l_take.nd rfl (Or.inl rfl) (pe_lst (pa_cons pe_int (pa_cons pe_int (pa_cons pe_int (pa_cons pe_int (pa_cons pe_int (pa_cons pe_int (pa_cons pe_int (pa_cons pe_int pa_nil))))))))))
      (pss_cons (ps_set (i := 4) sc_l_take.nd rfl (Or.inl rfl) (pe_ix ix_list (pv 3) (pe_op op_mod (pe_ix ix_list (pv 0) pe_int (fun _ _ => rfl)) pe_int) (fun _ _ => rfl)))
      (pss_cons (ps_set (i := 5) sc_l_take.nd rfl (Or.inl rfl) (pe_op op_mod (pe_op op_pow (pe_op op_add (pe_ix ix_list (pv 0) pe_int (fun _ _ => rfl)) (pe_op op_mul pe_int (pe_ix ix_list (pv 0) pe_int (fun _ _ => rfl)))) pe_int) (pv 4)))
      (pss_one (ps_ret (pe_op op_mod (pe_op op_fdivW (pe_op op_mod (pe_op op_mul (pv 5) (pe_op op_add (pe_op op_mod (pv 5) pe_int) (pe_ix ix_list (pv 0) pe_int (fun _ _ => rfl)))) (pv 4)) pe_int) (pv 1))))))))), ?_⟩
  have hn2 : (n : Int) < 100000 := by
    have z : n < 100000 := hn
    omega
  have p18' : (10 : Int) ^ 18 = 1000000000000000000 := by decide
  have p62 : (2 : Int) ^ 62 = 4611686018427387904 := by decide
  refine st_seq ?_
  refine ⟨_, rfl, h, _, _, _, rfl, rfl, SqL.of eh, rfl, _, _, rfl, rfl, _, rfl, ite2 (fun z => ?_) (fun z => ?_)⟩
  · refine ⟨_, rfl, h, _, _, _, rfl, rfl, SqL.of eh, rfl, _, rfl, _, _, rfl, rfl, m0, ?_⟩
    refine ⟨_, rfl, h, _, _, _, rfl, rfl, SqL.of eh, rfl, _, rfl, _, _, rfl, rfl, cdw m0 (by omega), ?_⟩
    refine ⟨_, rfl, h, _, _, 0, rfl, rfl, eh, rfl, ?_⟩
    refine ⟨_, rfl, q _ _ (Int.emod_nonneg _ (by omega)) (Int.emod_lt_of_pos _ m0) ⟨_, b, c, upd_same, ?_, ?_, b0, b1, c0, ?_⟩ Fr.hand⟩
    · exact Int.ediv_nonneg g0 (by omega)
    · exact Int.lt_of_le_of_lt (Int.ediv_le_self _ g0) g1
    · omega
  · refine st_seq ?_
    refine ⟨_, rfl, h, _, _, _, rfl, rfl, SqL.of eh, rfl, _, _, rfl, rfl, _, rfl, h, _, _, 2, rfl, rfl, eh, rfl, ?_⟩
    have e2 : (upd H h (.lst [.int g, .int b, .int (c + 1)])) h = some (.lst [.int g, .int b, .int (c + 1)]) := upd_same
    refine st_seq ⟨by show 8 ≤ sizeLine; decide, fun p np => ?_⟩
    have hpn : h ≠ p := ne_of_none e2 np
    have e3 : (upd (upd H h (.lst [.int g, .int b, .int (c + 1)])) p (.lst primes)) h = some (.lst [.int g, .int b, .int (c + 1)]) := by
      rw [upd_ne hpn]
      exact e2
    obtain ⟨v, ev, hv⟩ := atI_in (xs := primes) (i := (c + 1) % 8) (Int.emod_nonneg _ (by decide)) (Int.emod_lt_of_pos _ (by decide))
    obtain ⟨r, rfl, r0, r1⟩ := primes_in v hv
    refine st_seq ?_
    refine ⟨_, rfl, _, rfl, h, _, _, _, rfl, rfl, SqL.of e3, rfl, _, _, rfl, rfl, (show (0 : Int) < 8 by decide), p, _, _, _, rfl, rfl, SqL.of upd_same, ev, ?_⟩
    refine st_seq ?_
    refine ⟨_, rfl, h, _, _, _, rfl, rfl, SqL.of e3, rfl, _, rfl, h, _, _, _, rfl, rfl, SqL.of e3, rfl, _, _, rfl, rfl, .inl (by decide), _, _, rfl, rfl, _, _, rfl, rfl, pow_ok ⟨by decide, by decide, by omega⟩, _, rfl, _, _, rfl, rfl, r0, ?_⟩
    refine ⟨_, rfl, _, rfl, _, _, rfl, rfl, (show (0 : Int) < 1009 by decide), _, rfl, h, _, _, _, rfl, rfl, SqL.of e3, rfl, _, _, rfl, rfl, _, _, rfl, rfl, .inl ?_, _, rfl, _, _, rfl, rfl, r0, _, _, rfl, rfl, cdw (by decide) (by decide), _, rfl, _, _, rfl, rfl, m0, ?_⟩
    · have h1 : 0 ≤ (b + 7919 * (c + 1)) ^ (5 : Int).toNat % r := Int.emod_nonneg _ (by omega)
      have h2 : (b + 7919 * (c + 1)) ^ (5 : Int).toNat % r < r := Int.emod_lt_of_pos _ r0
      have h3 : (2 : Int) ^ 64 = 18446744073709551616 := by decide
      rw [h3]
      exact ⟨by omega, by omega⟩
    · refine q _ _ (Int.emod_nonneg _ (by omega)) (Int.emod_lt_of_pos _ m0) ⟨g, b, c + 1, e3, g0, g1, b0, b1, by omega, by omega⟩ (Fr.trans Fr.hand (Fr.new np))
end
/-! ### the law's own going round -/
def wayI (x y s : Int) : Int := if x ≤ y then y - x else y - x + s
theorem way_eq {x y s : Int} (x0 : 0 ≤ x) (x1 : x < s) (y0 : 0 ≤ y) (y1 : y < s) : (y - x) % s = wayI x y s := by
  unfold wayI
  split
  · rw [Int.emod_eq_of_lt (by omega) (by omega)]
  · have z : (y - x) % s = (y - x + s) % s := by
      rw [Int.add_emod_right]
    rw [z, Int.emod_eq_of_lt (by omega) (by omega)]
theorem HS.same {h : Addr} {n : Nat} {H H' : Hp} (q : HS h n H) (e : Same H H') : HS h n H' := by
  obtain ⟨g, b, c, eh, r⟩ := q
  exact ⟨g, b, c, e _ _ eh, r⟩
theorem Fr.same {h : Addr} {H H' : Hp} (e : Same H H') : Fr h H H' := fun a o _ q => e a o q
theorem same_new {H : Hp} {p : Addr} {o : HO} (h : H p = none) : Same H (upd H p o) := fun b x e => by
  rw [upd_ne (ne_of_none e h)]
  exact e
theorem seq_new {K : PySem.W.Frag} {H H' : Hp} {a p : Addr} {xs : List V} (q : SqL K H a xs) (e : H p = none) (f : Fr p H H') : SqL K H' a xs := by
  rcases q with (q | ⟨o, q⟩) | q
  · exact .inl (.inl (f _ _ (ne_of_none q e) q))
  · exact .inl (.inr ⟨o, f _ _ (ne_of_none q e) q⟩)
  · exact .inr q
theorem all_rep (n : Nat) : (List.replicate n true).all id = true := by
  rw [List.all_eq_true]
  intro x hx
  exact (List.eq_of_mem_replicate hx)
theorem if_join {c : TT} {t1 t2 : TS} {D : Ends} {σ : L2.St} {H : Hp} (J : L2.St → Hp → Prop) (h : ∀ (N : L2.St → Hp → Prop), (∀ σ' H', J σ' H' → N σ' H') → tIfS c t1 t2 { D with nx := N } σ H) (q : ∀ σ' H', J σ' H' → D.nx σ' H') : tIfS c t1 t2 D σ H := h D.nx q
def spLaw (K : PySem.W.Frag) : Sp := fun vs H Q _ => ∃ (a : Addr) (ns : List Int), vs = [.ref a] ∧ SqL K H a (ns.map V.int) ∧ ns.length ≤ 63 ∧ ∀ H', Q (.bl true) H'
section
variable {P : Program} {w : World} {K : PySem.W.Frag} {mg : Str → Option Value} {base : Heap}
theorem ok_of (T : Tx K mg) (c_l_take : C8.Cal P w K mg base 1 "_law_take" spTake []) : BodyOk P w K mg base "_law_of" s_l_of N_l_of 1 (spOf K) := by
  intro f cdv A outer s H vs Q E hr h
  obtain ⟨h, a, xs, n, rfl, hs, hn, ne, hS, l0, l1, q⟩ := h
  refine ⟨_, (pss_one (ps_ret (pe_ix ix_list (pv 1) (C8.pe_c c_l_take hr (by decide) (gl_of gl_l_of_l_take) (pa_cons (pv 0) (pa_cons (pe_callB call_len_seq (gl_of gl_l_of_len) T.len bb_len (pa_cons (pv 1) pa_nil)) pa_nil))) (fun _ _ => rfl)))), ?_⟩
  refine ⟨_, rfl, _, rfl, _, rfl, a, xs, rfl, .inl hS, h, _, n, rfl, hs, hn, ?_, ?_, fun d H1 d0 d1 hs1 f1 => ?_⟩
  · omega
  · have z : (10 : Int) ^ 18 = 1000000000000000000 := by decide
    omega
  · obtain ⟨v, ev, hv⟩ := atI_in d0 d1
    exact ⟨a, xs, d, v, rfl, rfl, f1.seq ne hS, ev, q v H1 hv hs1 f1⟩
end
/-! ### tuples: sums, slices, whatever they share -/
theorem catA_ev {K : PySem.W.Frag} {H : Hp} {a b : Addr} {xs ys : List V} {Q : VK} (ha : SqT K H a xs) (hb : SqT K H b ys) (hz : xs.length + ys.length ≤ 1000) (go : ∀ p H', Same H H' → SqT K H' p (xs ++ ys) → Q (.ref p) H') : rCatA K (.ref a) (.ref b) H Q := by
  refine ⟨a, b, xs, ys, rfl, rfl, ha, hb, Nat.le_of_lt (small1000 hz), fun e => ?_, fun e1 e2 => ?_, fun e1 e2 p np => ?_⟩
  · subst e
    exact go b H (fun _ _ q => q) hb
  · subst e2
    refine go a H (fun _ _ q => q) ?_
    rw [List.append_nil]
    exact ha
  · exact go p _ (same_new np) (SqT.of upd_same)
theorem slA_ev {K : PySem.W.Frag} {H : Hp} {a : Addr} {xs : List V} {lo hi : Option Int} {Q : VK} (ha : SqT K H a xs) (go : ∀ p H', Same H H' → SqT K H' p (cutV xs lo hi) → Q (.ref p) H') : rSlA K (.ref a) lo hi H Q := by
  refine ⟨a, xs, rfl, ha, fun e => ?_, fun e p np => ?_⟩
  · refine go a H (fun _ _ q => q) ?_
    unfold cutV
    rw [e.1, e.2, List.drop_zero, Nat.sub_zero, List.take_length]
    exact ha
  · exact go p _ (same_new np) (SqT.of upd_same)
theorem sqT_fr {K : PySem.W.Frag} {L : Addr} {H H' : Hp} {a : Addr} {xs zs : List V} (eL : H L = some (.lst zs)) (f : Fr L H H') (s : SqT K H a xs) : SqT K H' a xs := by
  rcases s with (s | ⟨o, s⟩) | s
  · exact .inl (.inl (f _ _ (fun e => by rw [e, eL] at s; cases s) s))
  · exact .inl (.inr ⟨o, f _ _ (fun e => by rw [e, eL] at s; cases s) s⟩)
  · exact .inr s
theorem HS.fr {h L : Addr} {n : Nat} {H H' : Hp} (q : HS h n H) (f : Fr L H H') (ne : L ≠ h) : HS h n H' := by
  obtain ⟨g, b, c, eh, r⟩ := q
  exact ⟨g, b, c, f _ _ ne.symm eh, r⟩
theorem HS.upd {h L : Addr} {n : Nat} {H : Hp} {o : HO} (q : HS h n H) (ne : L ≠ h) : HS h n (upd H L o) := by
  obtain ⟨g, b, c, eh, r⟩ := q
  exact ⟨g, b, c, (by rw [upd_ne ne.symm]; exact eh), r⟩
theorem lg {i : Int} (h : i.natAbs < 2 ^ 64) : i.natAbs.log2 < 1920 := by
  by_cases z : i.natAbs = 0
  · rw [z]
    decide
  · rw [Nat.log2_lt z]
    exact Nat.lt_trans h (Nat.pow_lt_pow_right (by decide) (by decide))
theorem same_mut {H H' : Hp} {p : Addr} {o : HO} (e : Same H H') (h : H p = none) : Same H (upd H' p o) := fun b x q => by
  rw [upd_ne (ne_of_none q h)]
  exact e b x q
theorem dec_refl (v : V) : decide (v = v) = true := decide_eq_true rfl
theorem take_add1 {α : Type} (l : List α) (i : Nat) (h : i < l.length) : l.take (i + 1) = l.take i ++ [l[i]] := by
  rw [List.take_succ, List.getElem?_eq_getElem h]
  rfl
/-! ### small data -/
structure Small (m : Nat) (d : PyData) : Prop where
  sh : d.showable = true
  nd : d.hasDict = false
  dp : d.depth ≤ 3
  ls : d.leavesShort 20 = true
  wt : d.weight ≤ m
theorem Small.fits {m : Nat} {d : PyData} (s : Small m d) (h : m ≤ 100000) : d.showable = true ∧ d.hasDict = false ∧ d.depth ≤ 60 ∧ d.shown.length ≤ sizeLine := by
  have o3 := s.dp
  have o5 := s.wt
  refine ⟨s.sh, s.nd, by omega, ?_⟩
  have z := PyData.shown_le 20 (by decide) d s.ls
  have e : sizeLine = 16777216 := sizeLine_eq
  omega
/-- a thing without parts, and its data -/
structure Lf (v : V) (d : PyData) : Prop where
  at_ : ∀ (K : PySem.W.Frag) (H : Hp), Dp K H v d
  sh : d.showable = true
  nd : d.hasDict = false
  dp : d.depth = 0
  ls : d.leavesShort 20 = true
  wt : d.weight ≤ 64
theorem Lf.small {v : V} {d : PyData} (l : Lf v d) : Small 64 d := ⟨l.sh, l.nd, by rw [l.dp]; decide, l.ls, l.wt⟩
theorem lf_non : Lf .non .none := ⟨fun _ _ => .non, rfl, rfl, rfl, rfl, by decide⟩
theorem lf_int {i : Int} (h : i.natAbs < 2 ^ 62) : Lf (.int i) (.int i) := by
  have e62 : (2 : Nat) ^ 62 = 4611686018427387904 := by decide
  refine ⟨fun _ _ => .int i, decide_eq_true (lg (Nat.lt_trans h (by decide))), rfl, rfl, ?_, ?_⟩
  · show decide ((PyData.shown (.int i)).length ≤ 20) = true
    refine decide_eq_true ?_
    have e := int_text_length_le10 (k := 19) (a := i) (by decide) (by omega)
    show (Str.ofString (toString i)).length ≤ 20
    rw [PySem.ofString_length]
    exact e
  · show (if i == 0 then 0 else i.natAbs.log2 + 1) ≤ 64
    split
    · decide
    · rename_i z
      have z1 : i.natAbs ≠ 0 := fun e => z (by simpa using e)
      have z2 := (Nat.log2_lt z1).mpr h
      omega
theorem lf_str {z : Str} (h : z.cps.size ≤ 64) (ha : (z.cps.toList.all fun c => decide (c < 16 ^ 8)) = true) : Lf (.str z) (.str z) := ⟨fun _ _ => .str z, rfl, rfl, rfl, ha, h⟩
def onV : Option Int → V
  | none => .non
  | some i => .int i
def onD : Option Int → PyData
  | none => .none
  | some i => .int i
theorem lf_on {x : Option Int} (h : ∀ i, x = some i → 0 ≤ i ∧ i < 1048576) : Lf (onV x) (onD x) := by
  cases x with
  | none => exact lf_non
  | some i =>
    have z := h i rfl
    have e62 : (2 : Nat) ^ 62 = 4611686018427387904 := by decide
    exact lf_int (by omega)
theorem small_tup4 {K : PySem.W.Frag} {H : Hp} {p : Addr} {a b c d : V} {da db dc dd : PyData} (h : SqT K H p [a, b, c, d]) (la : Lf a da) (lb : Lf b db) (lc : Lf c dc) (ld : Lf d dd) :
    Dp K H (.ref p) (.tuple [da, db, dc, dd]) ∧ Small 300 (.tuple [da, db, dc, dd]) := by
  refine ⟨.tup h (.cons (la.at_ K H) (.cons (lb.at_ K H) (.cons (lc.at_ K H) (.cons (ld.at_ K H) .nil)))), ?_, ?_, ?_, ?_, ?_⟩
  · simp only [PyData.showable, PyData.showableAll, la.sh, lb.sh, lc.sh, ld.sh, Bool.and_self]
  · simp only [PyData.hasDict, PyData.hasDictAll, la.nd, lb.nd, lc.nd, ld.nd, Bool.or_self]
  · simp only [PyData.depth, PyData.depthAll, la.dp, lb.dp, lc.dp, ld.dp]
    decide
  · simp only [PyData.leavesShort, PyData.leavesShortAll, la.ls, lb.ls, lc.ls, ld.ls, Bool.and_self]
  · simp only [PyData.weight, PyData.weightAll]
    have := la.wt
    have := lb.wt
    have := lc.wt
    have := ld.wt
    omega
/-! ### rounds -/
theorem HS.neT {h : Addr} {n : Nat} {H : Hp} {p : Addr} {xs : List V} (q : HS h n H) (e : H p = some (.tup xs)) : p ≠ h := by
  obtain ⟨g, b, c, eh, _⟩ := q
  intro z
  rw [z, eh] at e
  cases e
theorem HS.sqT {h : Addr} {n : Nat} {K : PySem.W.Frag} {H H' : Hp} {a : Addr} {xs : List V} (q : HS h n H) (f : Fr h H H') (s : SqT K H a xs) : SqT K H' a xs := by
  obtain ⟨g, b, c, eh, _⟩ := q
  rcases s with (s | ⟨o, s⟩) | s
  · exact .inl (.inl (f _ _ (fun e => by rw [e, eh] at s; cases s) s))
  · exact .inl (.inr ⟨o, f _ _ (fun e => by rw [e, eh] at s; cases s) s⟩)
  · exact .inr s
theorem sqT_same {K : PySem.W.Frag} {H H' : Hp} {a : Addr} {xs : List V} (s : Same H H') (h : SqT K H a xs) : SqT K H' a xs := by
  rcases h with (h | ⟨o, h⟩) | h
  · exact .inl (.inl (s _ _ h))
  · exact .inl (.inr ⟨o, s _ _ h⟩)
  · exact .inr h
theorem flat_ints : ∀ ks : List Int, (ks.map V.int).all flatV = true
  | [] => rfl
  | k :: r => by
    show (flatV (.int k) && (r.map V.int).all flatV) = true
    rw [flat_ints r]
    rfl
/-- at a a tuple of pairs of whole numbers -/
def Rs (K : PySem.W.Frag) (H : Hp) (a : Addr) (rs : List (Int × Int)) : Prop := ∃ vs : List V, SqT K H a vs ∧ vs.length = rs.length ∧ ∀ (i : Nat) (r : Int × Int), rs[i]? = some r → ∃ b : Addr, vs[i]? = some (V.ref b) ∧ SqT K H b [.int r.1, .int r.2]
theorem Rs.same {K : PySem.W.Frag} {H H' : Hp} {a : Addr} {rs : List (Int × Int)} (q : Rs K H a rs) (s : Same H H') : Rs K H' a rs := by
  obtain ⟨vs, h1, h2, h3⟩ := q
  refine ⟨vs, sqT_same s h1, h2, fun i r hr => ?_⟩
  obtain ⟨b, e, hb⟩ := h3 i r hr
  exact ⟨b, e, sqT_same s hb⟩
theorem Rs.fr {K : PySem.W.Frag} {h : Addr} {n : Nat} {H H' : Hp} {a : Addr} {rs : List (Int × Int)} (q : Rs K H a rs) (hs : HS h n H) (f : Fr h H H') : Rs K H' a rs := by
  obtain ⟨vs, h1, h2, h3⟩ := q
  refine ⟨vs, hs.sqT f h1, h2, fun i r hr => ?_⟩
  obtain ⟨b, e, hb⟩ := h3 i r hr
  exact ⟨b, e, hs.sqT f hb⟩
def lft (b : Bool) (l st : Int) : Int := if b = true ∧ l < st then l else st
theorem lft_le (b : Bool) (l st : Int) : lft b l st ≤ st := by
  unfold lft
  split <;> omega
theorem lft_ge {b : Bool} {l st : Int} (h : 0 ≤ l) (h2 : 0 ≤ st) : 0 ≤ lft b l st := by
  unfold lft
  split <;> omega
/-- the steps behind each round, to the first above the room -/
def pas (sm : Nat → Bool) (room : Int) : List (Int × Int) → Nat → Int → List Int
  | [], _, _ => []
  | r :: rs, k, st => if room < lft (sm k) r.2 st + r.1 then [lft (sm k) r.2 st + r.1] else (lft (sm k) r.2 st + r.1) :: pas sm room rs (k + 1) (lft (sm k) r.2 st + r.1)
theorem pas_len (sm : Nat → Bool) (room : Int) : ∀ (rs : List (Int × Int)) (k : Nat) (st : Int), (pas sm room rs k st).length ≤ rs.length
  | [], _, _ => Nat.le_refl _
  | r :: rs, k, st => by
    unfold pas
    split
    · simp
    · simp only [List.length_cons]
      have := pas_len sm room rs (k + 1) (lft (sm k) r.2 st + r.1)
      omega
theorem pas_bound (sm : Nat → Bool) (room B : Int) : ∀ (rs : List (Int × Int)) (k : Nat) (st : Int), 0 ≤ st → (∀ r ∈ rs, 0 ≤ r.1 ∧ r.1 ≤ B ∧ 0 ≤ r.2) → ∀ x ∈ pas sm room rs k st, 0 ≤ x ∧ x ≤ st + B * rs.length
  | [], _, _, _, _, x, hx => by cases hx
  | r :: rs, k, st, h0, hr, x, hx => by
    have r0 := hr r (List.mem_cons_self ..)
    have B0 : 0 ≤ B := by omega
    have z1 : 0 ≤ lft (sm k) r.2 st ∧ lft (sm k) r.2 st ≤ st := ⟨lft_ge r0.2.2 h0, lft_le _ _ _⟩
    have e : B * ((r :: rs).length : Int) = B * rs.length + B := by
      rw [List.length_cons, Int.natCast_add, Int.mul_add]
      simp
    have m0 : 0 ≤ B * (rs.length : Int) := Int.mul_nonneg B0 (by omega)
    rw [e]
    unfold pas at hx
    split at hx
    · rw [List.mem_singleton.mp hx]
      omega
    · rcases List.mem_cons.mp hx with z | z
      · rw [z]
        omega
      · have ih := pas_bound sm room B rs (k + 1) _ (by omega) (fun q hq => hr q (List.mem_cons_of_mem _ hq)) x z
        omega
/-- one turn of the loop: what is told so far, what stands -/
theorem pas_turn {sm : Nat → Bool} {room : Int} {rs : List (Int × Int)} {i : Nat} {r : Int × Int} {st : Int} {acc tot : List Int} (hr : rs[i]? = some r) (h : tot = acc ++ pas sm room (rs.drop i) i st) :
    (room < lft (sm i) r.2 st + r.1 → tot = acc ++ [lft (sm i) r.2 st + r.1]) ∧
    (¬ room < lft (sm i) r.2 st + r.1 → tot = (acc ++ [lft (sm i) r.2 st + r.1]) ++ pas sm room (rs.drop (i + 1)) (i + 1) (lft (sm i) r.2 st + r.1)) := by
  obtain ⟨hi, e⟩ := List.getElem?_eq_some_iff.mp hr
  have ed : rs.drop i = r :: rs.drop (i + 1) := by
    rw [List.drop_eq_getElem_cons hi, e]
  rw [ed] at h
  unfold pas at h
  refine ⟨fun c => ?_, fun c => ?_⟩
  · rw [if_pos c] at h
    exact h
  · rw [if_neg c] at h
    rw [h, List.append_assoc]
    rfl
def spPasses (K : PySem.W.Frag) : Sp := fun vs H Q _ => ∃ (a b : Addr) (room : Int) (rs : List (Int × Int)) (ys : List Int), vs = [.ref a, .ref b, .int room] ∧ Rs K H a rs ∧ rs.length ≤ 1000 ∧ SqT K H b (ys.map V.int) ∧
  ∀ p H', Same H H' → SqT K H' p ((pas (fun k => inV (.int (k : Nat)) (ys.map V.int)) room rs 0 0).map V.int) → Q (.ref p) H'
def spStepsL (K : PySem.W.Frag) : Sp := fun vs H Q _ => ∃ (a b : Addr) (room : Int) (rs : List (Int × Int)) (ys : List Int), vs = [.ref a, .ref b, .int room] ∧ Rs K H a rs ∧ rs.length ≤ 1000 ∧ SqT K H b (ys.map V.int) ∧
  ∀ p H', H p = none → Same H H' → H' p = some (.lst ((pas (fun k => inV (.int (k : Nat)) (ys.map V.int)) room rs 0 0).map V.int)) → Q (.ref p) H'
section
variable {P : Program} {w : World} {K : PySem.W.Frag} {mg : Str → Option Value} {base : Heap}
theorem ok_passes (T : Tx K mg) : BodyOk P w K mg base "passes" s_passes N_passes 0 (spPasses K) := by
  intro f cdv A outer s H vs Q E hr h
  obtain ⟨a, b, room, rs, ys, rfl, hR, hl, hb, q⟩ := h
  obtain ⟨us, ha, lu, hu⟩ := hR
  refine ⟨_, (pss_cons (ps_set (i := 3) sc_passes.nd rfl (Or.inl rfl) (pe_lst pa_nil))
      (pss_cons (ps_set (i := 4) sc_passes.nd rfl (Or.inl rfl) pe_int)
      (pss_cons (ps_for PassesOwn.never rfl (pi_enumT (by rfl) T.enumerate (pa_cons (pv 0) pa_nil)) (pg_tup rfl (pgs_cons (pg_name (i := 5) sc_passes.nd rfl (Or.inl rfl)) (pgs_cons (pg_tup rfl (pgs_cons (pg_name (i := 6) sc_passes.nd rfl (Or.inl rfl)) (pgs_cons (pg_name (i := 7) sc_passes.nd rfl (Or.inl rfl)) pgs_nil))) pgs_nil))) (pss_cons (ps_if (pt_cmpR op_in_seq (pv 5) (pv 1) (by rfl)) (pss_one (ps_set (i := 4) sc_passes.nd rfl (Or.inl rfl) (pe_callB (call_min2 rfl) (gl_of gl_passes_min) T.min bb_min (pa_cons (pv 4) (pa_cons (pv 7) pa_nil))))) pss_nil)
      (pss_cons (ps_aug (i := 4) sc_passes.nd rfl (Or.inl rfl) (pv 6) ip_add)
      (pss_cons (ps_expr (pe_bm PySem.F.plainAttrs_list PySem.F.slot_list_append PySem.F.type_list_append mt_append (pv 3) (pa_cons (pv 4) pa_nil)))
      (pss_one (ps_if (pt_cmpR op_gt (pv 4) (pv 2) (nomark _)) (pss_one ps_break) pss_nil))))))
      (pss_one (ps_ret (pe_callTy call_tuple_of (gl_of gl_passes_tuple) T.tuple bt_tuple (pa_cons (pv 3) pa_nil))))))), ?_⟩
  refine st_seq ⟨(show 0 ≤ sizeLine by decide), fun L nL => ?_⟩
  refine st_seq ?_
  refine st_seq ?_
  refine ⟨_, rfl, a, us, rfl, sqT_same (same_new nL) ha, ?_⟩
  generalize htot : pas (fun k => inV (.int (k : Nat)) (ys.map V.int)) room rs 0 0 = tot at q
  have fin : ∀ (Hx : Hp), Same H Hx → Hx L = some (.lst (tot.map V.int)) → ∀ p, Hx p = none → Q (.ref p) (upd Hx p (.tup (tot.map V.int))) := fun Hx sx _ p np => q p _ (sx.trans (same_new np)) (SqT.of upd_same)
  refine for_it (walk_enumT (K := K) (a := a) (xs := us)) (fun i σ H' => ∃ (st : Int) (acc : List Int) (y5 y6 y7 : Option V), σ = [some (.ref a), some (.ref b), some (.int room), some (.ref L), some (.int st), y5, y6, y7] ∧ Same H H' ∧ H' L = some (.lst (acc.map V.int)) ∧ acc.length = i ∧ tot = acc ++ pas (fun k => inV (.int (k : Nat)) (ys.map V.int)) room (rs.drop i) i st) ?_ (fun i σ H1 _ hP => ?_) (fun i x σ H1 H2 hi hP hy => ?_) (fun σ H1 hP => ?_)
  · exact ⟨0, [], none, none, none, rfl, same_new nL, upd_same, rfl, by rw [← htot]; rfl⟩
  · obtain ⟨st, acc, y5, y6, y7, rfl, sm, _⟩ := hP
    exact sqT_same sm ha
  · obtain ⟨st, acc, y5, y6, y7, rfl, sm, eL, la, et⟩ := hP
    obtain ⟨T0, x0, y0, rfl, nT, rfl, ex, ey⟩ := hy
    cases ex
    have hi2 : i < rs.length := by omega
    obtain ⟨c, ec, hc⟩ := hu i rs[i] (List.getElem?_eq_getElem hi2)
    have ey2 : us[i]? = some y0 := ey
    rw [ec] at ey2
    cases ey2
    have s2 : Same H (upd H1 T0 (.tup [.int (i : Nat), .ref c])) := sm.trans (same_new nT)
    have eL2 : (upd H1 T0 (.tup [.int (i : Nat), .ref c])) L = some (.lst (acc.map V.int)) := same_new nT _ _ eL
    have eT : (upd H1 T0 (.tup [.int (i : Nat), .ref c])) T0 = some (.tup [.int (i : Nat), .ref c]) := upd_same
    generalize upd H1 T0 (.tup [.int (i : Nat), .ref c]) = H2 at s2 eL2 eT
    obtain ⟨tt1, tt2⟩ := pas_turn (List.getElem?_eq_getElem hi2) et
    generalize hst : lft (inV (.int (i : Nat)) (ys.map V.int)) rs[i].2 st = st2 at tt1 tt2
    refine ⟨T0, _, rfl, SqT.of eT, rfl, _, _, rfl, _, _, rfl, c, _, rfl, sqT_same s2 hc, rfl, _, _, rfl, _, _, rfl, rfl, rfl, ?_⟩
    refine st_seq ?_
    refine if_join (fun σ' H' => σ' = [some (.ref a), some (.ref b), some (.int room), some (.ref L), some (.int st2), some (.int (i : Nat)), some (.int rs[i].1), some (.int rs[i].2)] ∧ H' = H2) (fun N hN => ?_) (fun σ' H' hJ => ?_)
    · refine ⟨_, rfl, _, rfl, b, _, rfl, .inr (sqT_same s2 hb), rfl, flat_ints ys, _, rfl, ite2 (fun e => ?_) (fun e => ?_)⟩
      · refine ⟨_, rfl, _, rfl, _, _, rfl, hN _ _ ⟨?_, rfl⟩⟩
        rw [← hst]
        unfold lft
        have e1 : inV (.int (i : Nat)) (ys.map V.int) = true := e
        show [some (V.ref a), some (.ref b), some (.int room), some (.ref L), some (.int (if rs[i].2 < st then rs[i].2 else st)), some (.int (i : Nat)), some (.int rs[i].1), some (.int rs[i].2)] = _
        rw [e1]
        simp
      · refine hN _ _ ⟨?_, rfl⟩
        have e1 : inV (.int (i : Nat)) (ys.map V.int) = false := Bool.eq_false_iff.mpr e
        rw [← hst, e1]
        unfold lft
        rw [if_neg (fun z => Bool.false_ne_true z.1)]
        rfl
    · obtain ⟨rfl, rfl⟩ := hJ
      refine st_seq ?_
      refine ⟨_, rfl, _, rfl, _, _, rfl, rfl, ?_⟩
      refine st_seq ?_
      refine ⟨_, rfl, .inl ⟨rfl, _, SqL.of eL2⟩, _, rfl, L, _, _, rfl, rfl, eL2, ?_, ?_⟩
      · rw [List.length_map]
        exact small1000 (by omega)
      have eL3 : (upd H' L (.lst (acc.map V.int ++ [.int (st2 + rs[i].1)]))) L = some (.lst ((acc ++ [st2 + rs[i].1]).map V.int)) := by
        rw [upd_same, List.map_append]
        rfl
      have s3 : Same H (upd H' L (.lst (acc.map V.int ++ [.int (st2 + rs[i].1)]))) := same_mut s2 nL
      generalize upd H' L (.lst (acc.map V.int ++ [.int (st2 + rs[i].1)])) = H3 at eL3 s3
      refine ⟨_, rfl, _, rfl, _, _, rfl, rfl, _, rfl, ite2 (fun e => ?_) (fun e => ?_)⟩
      · have e1 : room < st2 + rs[i].1 := of_decide_eq_true e
        rw [← tt1 e1] at eL3
        exact ⟨_, rfl, L, _, rfl, .inl ⟨SqL.of eL3, fin H3 s3 eL3⟩⟩
      · have e1 : ¬ room < st2 + rs[i].1 := fun z => e (decide_eq_true z)
        refine ⟨_, _, _, _, _, rfl, s3, eL3, ?_, tt2 e1⟩
        rw [List.length_append, la]
        rfl
  · obtain ⟨st, acc, y5, y6, y7, rfl, sm, eL, la, et⟩ := hP
    rw [lu, List.drop_length] at et
    have et2 : tot = acc := by
      rw [et]
      exact List.append_nil _
    rw [← et2] at eL
    exact ⟨_, rfl, L, _, rfl, .inl ⟨SqL.of eL, fin H1 sm eL⟩⟩
end
/-! ### lists of small data -/
structure SmallA (m D : Nat) (ds : List PyData) : Prop where
  sh : PyData.showableAll ds = true
  nd : PyData.hasDictAll ds = false
  dp : PyData.depthAll ds ≤ D
  ls : PyData.leavesShortAll 20 ds = true
  wt : PyData.weightAll ds ≤ m
theorem SmallA.nil {m D : Nat} : SmallA m D [] := ⟨rfl, rfl, Nat.zero_le _, rfl, Nat.zero_le _⟩
theorem SmallA.cons {m a D : Nat} {d : PyData} {ds : List PyData} (h : Small a d) (hd : d.depth ≤ D) (t : SmallA m D ds) : SmallA (m + a + 2) D (d :: ds) := by
  refine ⟨?_, ?_, ?_, ?_, ?_⟩
  · simp only [PyData.showableAll, h.sh, t.sh, Bool.and_self]
  · simp only [PyData.hasDictAll, h.nd, t.nd, Bool.or_self]
  · have := t.dp
    simp only [PyData.depthAll]
    omega
  · simp only [PyData.leavesShortAll, h.ls, t.ls, Bool.and_self]
  · have := t.wt
    have := h.wt
    simp only [PyData.weightAll]
    omega
theorem SmallA.mono {m m' D : Nat} {ds : List PyData} (h : SmallA m D ds) (l : m ≤ m') : SmallA m' D ds := ⟨h.sh, h.nd, h.dp, h.ls, Nat.le_trans h.wt l⟩
theorem SmallA.all {a D : Nat} : ∀ {ds : List PyData}, (∀ d ∈ ds, Small a d ∧ d.depth ≤ D) → SmallA ((a + 2) * ds.length) D ds
  | [], _ => .nil
  | d :: ds, h => by
    have z := SmallA.all (ds := ds) fun x hx => h x (List.mem_cons_of_mem _ hx)
    have y := h d (List.mem_cons_self ..)
    refine (SmallA.cons y.1 y.2 z).mono ?_
    rw [List.length_cons, Nat.mul_add]
    omega
theorem SmallA.tup {m : Nat} {ds : List PyData} (h : SmallA m 2 ds) : Small m (.tuple ds) := by
  refine ⟨?_, ?_, ?_, ?_, ?_⟩
  · simp only [PyData.showable, h.sh]
  · simp only [PyData.hasDict, h.nd]
  · have := h.dp
    simp only [PyData.depth]
    omega
  · simp only [PyData.leavesShort, h.ls]
  · simp only [PyData.weight]
    exact h.wt
theorem dpAll_ints (K : PySem.W.Frag) (H : Hp) : ∀ ns : List Int, DpAll K H (ns.map V.int) (ns.map PyData.int)
  | [] => .nil
  | n :: ns => .cons (.int n) (dpAll_ints K H ns)
theorem ints_data {K : PySem.W.Frag} {H : Hp} {p : Addr} {ns : List Int} (h : SqT K H p (ns.map V.int)) (hb : ∀ x ∈ ns, x.natAbs < 2 ^ 62) (hl : ns.length ≤ 1000) : Dp K H (.ref p) (.tuple (ns.map PyData.int)) ∧ Small 66000 (.tuple (ns.map PyData.int)) := by
  refine ⟨.tup h (dpAll_ints K H ns), SmallA.tup (SmallA.mono (SmallA.all (a := 64) (D := 2) (ds := ns.map PyData.int) fun d hd => ?_) ?_)⟩
  · obtain ⟨x, hx, rfl⟩ := List.mem_map.mp hd
    have l := lf_int (hb x hx)
    exact ⟨l.small, by rw [l.dp]; decide⟩
  · rw [List.length_map]
    omega
def rsD (rs : List (Int × Int)) : List PyData := rs.map fun r => .tuple [.int r.1, .int r.2]
theorem small_pair {x y : Int} (hx : x.natAbs < 2 ^ 62) (hy : y.natAbs < 2 ^ 62) : Small 140 (.tuple [.int x, .int y]) ∧ (PyData.tuple [.int x, .int y]).depth ≤ 2 := by
  have l1 := lf_int hx
  have l2 := lf_int hy
  have z : SmallA 136 0 [.int x, .int y] := (SmallA.cons l1.small (by rw [l1.dp]; decide) (SmallA.cons l2.small (by rw [l2.dp]; decide) (SmallA.nil (m := 0)))).mono (by decide)
  have z2 : SmallA 136 2 [.int x, .int y] := ⟨z.sh, z.nd, Nat.le_trans z.dp (by decide), z.ls, z.wt⟩
  have z3 := SmallA.tup z2
  refine ⟨⟨z3.sh, z3.nd, z3.dp, z3.ls, Nat.le_trans z3.wt (by decide)⟩, ?_⟩
  have := z.dp
  simp only [PyData.depth]
  omega
theorem rs_all {K : PySem.W.Frag} {H : Hp} : ∀ {vs : List V} {rs : List (Int × Int)}, vs.length = rs.length → (∀ (i : Nat) (r : Int × Int), rs[i]? = some r → ∃ b, vs[i]? = some (.ref b) ∧ SqT K H b [.int r.1, .int r.2]) → DpAll K H vs (rsD rs)
  | [], [], _, _ => .nil
  | [], _ :: _, h, _ => by cases h
  | _ :: _, [], h, _ => by cases h
  | v :: vs, r :: rs, h, g => by
    obtain ⟨b, e, hb⟩ := g 0 r rfl
    cases e
    exact .cons (.tup hb (.cons (.int _) (.cons (.int _) .nil))) (rs_all (Nat.succ.inj h) fun i q hq => g (i + 1) q hq)
theorem rs_data {K : PySem.W.Frag} {H : Hp} {p : Addr} {rs : List (Int × Int)} (h : Rs K H p rs) (hb : ∀ r ∈ rs, r.1.natAbs < 2 ^ 62 ∧ r.2.natAbs < 2 ^ 62) (hl : rs.length ≤ 100) : Dp K H (.ref p) (.tuple (rsD rs)) ∧ Small 20000 (.tuple (rsD rs)) := by
  obtain ⟨vs, h1, h2, h3⟩ := h
  refine ⟨.tup h1 (rs_all h2 h3), SmallA.tup (SmallA.mono (SmallA.all (a := 140) (D := 2) (ds := rsD rs) fun d hd => ?_) ?_)⟩
  · obtain ⟨r, hr, rfl⟩ := List.mem_map.mp hd
    exact small_pair (hb r hr).1 (hb r hr).2
  · unfold rsD
    rw [List.length_map]
    omega
/-- the law's body, called by the caller itself -/
def BodyAt (P : Program) (w : World) (K : PySem.W.Frag) (mg : Str → Option Value) (base : Heap) (x : Str) (st : Stmt) (N : List Str) (k : Nat) (sp : Sp) : Prop :=
  ∀ (f : Addr) (cdv : Value) (s : Shared) (H : Hp) (vs : List V) (Q : VK) (E : XK), Room k (callerA.deeper (envOfC x (defScope st) s.heap.objs.size f cdv)) → sp vs H Q E →
      ∃ t, PSs (cxOf CX0 P w K mg base N x (defScope st) f cdv callerA [] s H E).nox (defBody st) t ∧ t { nx := fun _ H' => Q .non H', rt := Q } (start N vs) H
section
variable {P : Program} {w : World} {K : PySem.W.Frag} {mg : Str → Option Value} {base : Heap}
/-- rounds(hand, many, limit) -/
def spRounds (K : PySem.W.Frag) : Sp := fun vs H Q _ => ∃ (h : Addr) (m : Nat) (lm : Int) (n : Nat), vs = [.ref h, .int m, .int lm] ∧ HS h n H ∧ n + 7 * m < lim ∧ m ≤ 100 ∧ 0 ≤ lm ∧ lm ≤ 1000 ∧
  ∀ p rs H', Rs K H' p rs → rs.length = m → (∀ r ∈ rs, 0 ≤ r.1 ∧ r.1 ≤ lm + 2 ∧ 0 ≤ r.2 ∧ r.2 ≤ lm + 5) → HS h (n + 7 * m) H' → Fr h H H' → Q (.ref p) H'
theorem ok_rounds (T : Tx K mg) (c_l_take : C8.Cal P w K mg base 1 "_law_take" spTake []) (c_l_of : C8.Cal P w K mg base 2 "_law_of" (spOf K) []) : BodyOk P w K mg base "_law_rounds" s_l_rounds N_l_rounds 2 (spRounds K) := by
  intro f cdv A outer s H vs Q E hr h
  obtain ⟨h, m, lm, n, rfl, hs, hn, hm, lm0, lm1, q⟩ := h
  have hn2 : n + 7 * m < 100000 := hn
  have z18 : (10 : Int) ^ 18 = 1000000000000000000 := by decide
  refine ⟨_, (pss_cons (ps_set (i := 3) sc_l_rounds.nd rfl (Or.inl rfl) (pe_lst pa_nil))
      (pss_cons (ps_for PassesOwn.never rfl (pi_range1 (by rfl) T.range (pa_cons (pv 1) pa_nil)) (pg_name (i := 4) sc_l_rounds.nd rfl (Or.inl rfl)) (pss_cons (ps_set (i := 5) sc_l_rounds.nd rfl (Or.inl rfl) (C8.pe_c c_l_of hr (by decide) (gl_of gl_l_rounds_l_of) (pa_cons (pv 0) (pa_cons (pe_lst (pa_cons pe_int (pa_cons pe_int (pa_cons pe_int (pa_cons (C8.pe_c c_l_take hr (by decide) (gl_of gl_l_rounds_l_take) (pa_cons (pv 0) (pa_cons (pe_op op_add (pv 2) pe_int) pa_nil))) (pa_cons (C8.pe_c c_l_take hr (by decide) (gl_of gl_l_rounds_l_take) (pa_cons (pv 0) (pa_cons (pe_op op_add (pv 2) pe_int) pa_nil))) (pa_cons (pv 2) pa_nil))))))) pa_nil))))
      (pss_cons (ps_set (i := 6) sc_l_rounds.nd rfl (Or.inl rfl) (C8.pe_c c_l_of hr (by decide) (gl_of gl_l_rounds_l_of) (pa_cons (pv 0) (pa_cons (pe_lst (pa_cons pe_int (pa_cons pe_int (pa_cons pe_int (pa_cons (C8.pe_c c_l_take hr (by decide) (gl_of gl_l_rounds_l_take) (pa_cons (pv 0) (pa_cons (pe_op op_add (pv 2) pe_int) pa_nil))) (pa_cons (C8.pe_c c_l_take hr (by decide) (gl_of gl_l_rounds_l_take) (pa_cons (pv 0) (pa_cons (pe_op op_add (pv 2) pe_int) pa_nil))) (pa_cons (pe_op op_add (pv 2) pe_int) pa_nil))))))) pa_nil))))
      (pss_cons (ps_set (i := 5) sc_l_rounds.nd rfl (Or.inl rfl) (C8.pe_c c_l_of hr (by decide) (gl_of gl_l_rounds_l_of) (pa_cons (pv 0) (pa_cons (pe_lst (pa_cons (pv 5) (pa_cons (pv 5) (pa_cons (pv 5) (pa_cons (pv 5) (pa_cons (pv 5) (pa_cons (pv 5) (pa_cons (pv 5) (pa_cons (pe_op op_add (pv 2) pe_int) pa_nil))))))))) pa_nil))))
      (pss_one (ps_expr (pe_bm PySem.F.plainAttrs_list PySem.F.slot_list_append PySem.F.type_list_append mt_append (pv 3) (pa_cons (pe_tup (pa_cons (pv 5) (pa_cons (pv 6) pa_nil))) pa_nil))))))))
      (pss_one (ps_ret (pe_callTy call_tuple_of (gl_of gl_l_rounds_tuple) T.tuple bt_tuple (pa_cons (pv 3) pa_nil)))))), ?_⟩
  refine st_seq ⟨(show 0 ≤ sizeLine by decide), fun L nL => ?_⟩
  have nLh : L ≠ h := hs.ne nL
  refine st_seq ?_
  refine ⟨_, rfl, _, rfl, by omega, by omega, ?_⟩
  refine for_range (lo := 0) (fun i σ H' => ∃ (y4 y5 y6 : Option V) (us : List V) (rs : List (Int × Int)), σ = [some (.ref h), some (.int m), some (.int lm), some (.ref L), y4, y5, y6] ∧ HS h (n + 7 * i) H' ∧ Fr h H H' ∧ H' L = some (.lst us) ∧ us.length = i ∧ rs.length = i ∧ (∀ r ∈ rs, 0 ≤ r.1 ∧ r.1 ≤ lm + 2 ∧ 0 ≤ r.2 ∧ r.2 ≤ lm + 5) ∧ ∀ (j : Nat) (r : Int × Int), rs[j]? = some r → ∃ b : Addr, us[j]? = some (V.ref b) ∧ b ≠ L ∧ H' b = some (.tup [.int r.1, .int r.2])) ?_ (fun i σ H1 hi hP => ?_) (fun σ H1 hP => ?_)
  · exact ⟨none, none, none, [], [], rfl, hs.new nL, Fr.new nL, upd_same, rfl, rfl, (fun r hr => by cases hr), fun j r hr => by cases hr⟩
  · obtain ⟨y4, y5, y6, us, rs, rfl, hs1, f1, eL, lu, lr, br, hr1⟩ := hP
    have hi2 : i < m := by
      have z : i < ((m : Int)).toNat := hi
      omega
    -- takes
    refine st_seq ?_
    refine ⟨_, rfl, _, rfl, _, rfl, _, _, rfl, rfl, h, lm + 1, n + 7 * i, rfl, hs1, (show n + 7 * i < 100000 by omega), by omega, by omega, fun d1 H2 d10 d11 hs2 f2 => ?_⟩
    refine ⟨_, rfl, _, rfl, _, _, rfl, rfl, h, lm + 1, n + 7 * i + 1, rfl, hs2, (show n + 7 * i + 1 < 100000 by omega), by omega, by omega, fun d2 H3 d20 d21 hs3 f3 => ?_⟩
    refine ⟨_, rfl, (show 6 ≤ sizeLine by decide), fun p1 np1 => ?_⟩
    refine ⟨h, p1, _, n + 7 * i + 1 + 1, rfl, hs3.new np1, (show n + 7 * i + 1 + 1 < 100000 by omega), hs3.ne np1, SqL.of upd_same, (show 0 < 6 by decide), (show 6 ≤ 1000 by decide), fun v1 H4 hv1 hs4 f4 => ?_⟩
    have hx : ∃ z : Int, v1 = .int z ∧ 0 ≤ z ∧ z ≤ lm + 2 := by
      simp only [List.mem_cons, List.not_mem_nil, or_false] at hv1
      rcases hv1 with rfl | rfl | rfl | rfl | rfl | rfl <;> exact ⟨_, rfl, by omega, by omega⟩
    obtain ⟨t1, rfl, t10, t11⟩ := hx
    have g4 : Fr h H1 H4 := f2.trans (f3.trans ((Fr.new np1).trans f4))
    -- lag
    refine st_seq ?_
    refine ⟨_, rfl, _, rfl, _, rfl, _, _, rfl, rfl, h, lm + 2, n + 7 * i + 3, rfl, hs4, (show n + 7 * i + 3 < 100000 by omega), by omega, by omega, fun d3 H5 d30 d31 hs5 f5 => ?_⟩
    refine ⟨_, rfl, _, rfl, _, _, rfl, rfl, h, lm + 2, n + 7 * i + 4, rfl, hs5, (show n + 7 * i + 4 < 100000 by omega), by omega, by omega, fun d4 H6 d40 d41 hs6 f6 => ?_⟩
    refine ⟨_, rfl, _, _, rfl, rfl, (show 6 ≤ sizeLine by decide), fun p2 np2 => ?_⟩
    refine ⟨h, p2, _, n + 7 * i + 5, rfl, hs6.new np2, (show n + 7 * i + 5 < 100000 by omega), hs6.ne np2, SqL.of upd_same, (show 0 < 6 by decide), (show 6 ≤ 1000 by decide), fun v2 H7 hv2 hs7 f7 => ?_⟩
    have hx : ∃ z : Int, v2 = .int z ∧ 0 ≤ z ∧ z ≤ lm + 5 := by
      simp only [List.mem_cons, List.not_mem_nil, or_false] at hv2
      rcases hv2 with rfl | rfl | rfl | rfl | rfl | rfl <;> exact ⟨_, rfl, by omega, by omega⟩
    obtain ⟨g, rfl, g0, g1⟩ := hx
    have g7 : Fr h H1 H7 := g4.trans (f5.trans (f6.trans ((Fr.new np2).trans f7)))
    -- takes again
    refine st_seq ?_
    refine ⟨_, rfl, _, rfl, _, rfl, _, rfl, _, rfl, _, rfl, _, rfl, _, rfl, _, rfl, _, _, rfl, rfl, (show 8 ≤ sizeLine by decide), fun p3 np3 => ?_⟩
    refine ⟨h, p3, _, n + 7 * i + 6, rfl, hs7.new np3, (show n + 7 * i + 6 < 100000 by omega), hs7.ne np3, SqL.of upd_same, (show 0 < 8 by decide), (show 8 ≤ 1000 by decide), fun v3 H8 hv3 hs8 f8 => ?_⟩
    have hx : ∃ z : Int, v3 = .int z ∧ 0 ≤ z ∧ z ≤ lm + 2 := by
      simp only [List.mem_cons, List.not_mem_nil, or_false] at hv3
      rcases hv3 with rfl | rfl | rfl | rfl | rfl | rfl | rfl | rfl <;> exact ⟨_, rfl, by omega, by omega⟩
    obtain ⟨t, rfl, t0, t1'⟩ := hx
    have g8 : Fr h H1 H8 := g7.trans ((Fr.new np3).trans f8)
    have eL8 := g8 _ _ nLh eL
    -- append
    refine ⟨_, rfl, .inl ⟨rfl, _, SqL.of eL8⟩, _, rfl, _, rfl, (show 2 ≤ sizeLine by decide), fun u nu => ?_⟩
    have nuL : u ≠ L := (ne_of_none eL8 nu).symm
    have eL9 : (upd H8 u (.tup [.int t, .int g])) L = some (.lst us) := same_new nu _ _ eL8
    refine ⟨L, _, _, rfl, rfl, eL9, small1000 (by omega), ?_⟩
    have hs9 : HS h (n + 7 * (i + 1)) (upd (upd H8 u (.tup [.int t, .int g])) L (.lst (us ++ [.ref u]))) := ((hs8.new nu).upd nLh).mono (by omega)
    refine ⟨_, _, _, us ++ [.ref u], rs ++ [(t, g)], rfl, hs9, Fr.mut (f1.trans (g8.trans (Fr.new nu))) nL, upd_same, ?_, ?_, ?_, ?_⟩
    · rw [List.length_append, lu]
      rfl
    · rw [List.length_append, lr]
      rfl
    · intro r hr
      rcases List.mem_append.mp hr with e | e
      · exact br r e
      · rw [List.mem_singleton.mp e]
        exact ⟨t0, t1', g0, g1⟩
    · intro j r hj
      by_cases c : j < i
      · rw [List.getElem?_append_left (by omega)] at hj
        obtain ⟨b, eb, nb, hb⟩ := hr1 j r hj
        refine ⟨b, ?_, nb, ?_⟩
        · rw [List.getElem?_append_left (by omega)]
          exact eb
        · rw [upd_ne nb]
          exact same_new nu _ _ (g8 _ _ (hs1.neT hb) hb)
      · have ej : j = i := by
          have z := (List.getElem?_eq_some_iff.mp hj).1
          rw [List.length_append, lr] at z
          have z2 : j < i + 1 := z
          omega
        subst ej
        rw [List.getElem?_append_right (by omega), lr, Nat.sub_self] at hj
        cases hj
        refine ⟨u, ?_, nuL, ?_⟩
        · rw [List.getElem?_append_right (by omega), lu, Nat.sub_self]
          rfl
        · rw [upd_ne nuL]
          exact upd_same
  · obtain ⟨y4, y5, y6, us, rs, rfl, hs1, f1, eL, lu, lr, br, hr1⟩ := hP
    refine ⟨_, rfl, L, _, rfl, .inl ⟨SqL.of eL, fun p np => ?_⟩⟩
    have em : ((m : Int) - 0).toNat = m := by omega
    refine q p rs _ ⟨us, SqT.of upd_same, by rw [lu, lr], fun j r hj => ?_⟩ (by rw [lr]; omega) br ?_ (f1.trans (Fr.new np))
    · obtain ⟨b, eb, _, hb⟩ := hr1 j r hj
      exact ⟨b, eb, SqT.of (same_new np _ _ hb)⟩
    · refine (hs1.new np).mono ?_
      omega
theorem ok_steps5 (T : Tx K mg) : BodyOk P w K mg base "_law_steps" s_l_steps N_l_steps 0 (spStepsL K) := by
  intro f cdv A outer s H vs Q E hr h
  obtain ⟨a, b, room, rs, ys, rfl, hR, hl, hb, q⟩ := h
  obtain ⟨us, ha, lu, hu⟩ := hR
  refine ⟨_, (pss_cons (ps_par (i := 3) (j := 4) (by rfl) sc_l_steps.nd rfl rfl (by decide) rfl rfl (pa_cons (pe_lst pa_nil) (pa_cons pe_int pa_nil)) (by rfl))
      (pss_cons (ps_for PassesOwn.never rfl (pi_range1 (by rfl) T.range (pa_cons (pe_callB call_len_seq (gl_of gl_l_steps_len) T.len bb_len (pa_cons (pv 0) pa_nil)) pa_nil)) (pg_name (i := 5) sc_l_steps.nd rfl (Or.inl rfl)) (pss_cons (ps_if (PW.pt (pw_and (pt_cmpR op_in_seq (pv 5) (pv 1) (by rfl)) (pw_and1 (pt_cmpR op_lt (pe_ix ix_tup (pe_ix ix_tup (pv 0) (pv 5) (fun _ _ => rfl)) pe_int (fun _ _ => rfl)) (pv 4) (nomark _))))) (pss_one (ps_set (i := 4) sc_l_steps.nd rfl (Or.inl rfl) (pe_ix ix_tup (pe_ix ix_tup (pv 0) (pv 5) (fun _ _ => rfl)) pe_int (fun _ _ => rfl)))) pss_nil)
      (pss_cons (ps_set (i := 4) sc_l_steps.nd rfl (Or.inl rfl) (pe_op op_add (pv 4) (pe_ix ix_tup (pe_ix ix_tup (pv 0) (pv 5) (fun _ _ => rfl)) pe_int (fun _ _ => rfl))))
      (pss_cons (ps_expr (pe_bm PySem.F.plainAttrs_list PySem.F.slot_list_append PySem.F.type_list_append mt_append (pv 3) (pa_cons (pv 4) pa_nil)))
      (pss_one (ps_if (pt_cmpR op_gt (pv 4) (pv 2) (nomark _)) (pss_one (ps_ret (pv 3))) pss_nil))))))
      (pss_one (ps_ret (pv 3))))), ?_⟩
  refine st_seq ?_
  refine ⟨(show 0 ≤ sizeLine by decide), fun L nL => ?_⟩
  refine ⟨_, _, rfl, ?_⟩
  generalize htot : pas (fun k => inV (.int (k : Nat)) (ys.map V.int)) room rs 0 0 = tot at q
  refine st_seq ?_
  refine ⟨_, rfl, a, us, rfl, .inr (sqT_same (same_new nL) ha), _, rfl, by omega, by omega, ?_⟩
  refine for_range (lo := 0) (fun i σ H' => ∃ (st : Int) (acc : List Int) (y5 : Option V), σ = [some (.ref a), some (.ref b), some (.int room), some (.ref L), some (.int st), y5] ∧ Same H H' ∧ H' L = some (.lst (acc.map V.int)) ∧ acc.length = i ∧ tot = acc ++ pas (fun k => inV (.int (k : Nat)) (ys.map V.int)) room (rs.drop i) i st) ?_ (fun i σ H1 hi hP => ?_) (fun σ H1 hP => ?_)
  · exact ⟨0, [], none, rfl, same_new nL, upd_same, rfl, by rw [← htot]; rfl⟩
  · obtain ⟨st, acc, y5, rfl, sm, eL, la, et⟩ := hP
    have hi2 : i < rs.length := by
      have z : i < ((us.length : Int) - 0).toNat := hi
      omega
    have hi3 : i < us.length := by omega
    obtain ⟨c, ec, hc⟩ := hu i rs[i] (List.getElem?_eq_getElem hi2)
    obtain ⟨tt1, tt2⟩ := pas_turn (List.getElem?_eq_getElem hi2) et
    generalize hst : lft (inV (.int (i : Nat)) (ys.map V.int)) rs[i].2 st = st2 at tt1 tt2
    unfold lft at hst
    have ha1 := sqT_same sm ha
    have hc1 := sqT_same sm hc
    have ei : V.int (0 + (i : Int)) = V.int (i : Nat) := by rw [Int.zero_add]
    rw [ei]
    have ai : atI us (i : Nat) = some (.ref c) := atI_nat ec
    refine st_seq ?_
    refine if_join (fun σ' H' => σ' = [some (.ref a), some (.ref b), some (.int room), some (.ref L), some (.int st2), some (.int (i : Nat))] ∧ H' = H1) (fun N hN => ?_) (fun σ' H' hJ => ?_)
    · refine ⟨_, rfl, _, rfl, b, _, rfl, .inr (sqT_same sm hb), rfl, flat_ints ys, _, rfl, ite2 (fun e => ?_) (fun e => ?_)⟩
      · have e1 : inV (.int (i : Nat)) (ys.map V.int) = true := e
        rw [e1] at hst
        refine ⟨_, rfl, _, rfl, a, _, _, _, rfl, rfl, ha1, ai, c, _, _, _, rfl, rfl, hc1, rfl, _, rfl, _, _, rfl, rfl, _, rfl, ite2 (fun e => ?_) (fun e => ?_)⟩
        · have e2 : rs[i].2 < st := of_decide_eq_true e
          refine ⟨_, rfl, _, rfl, a, _, _, _, rfl, rfl, ha1, ai, c, _, _, _, rfl, rfl, hc1, rfl, hN _ _ ⟨?_, rfl⟩⟩
          rw [if_pos ⟨rfl, e2⟩] at hst
          rw [← hst]
          rfl
        · have e2 : ¬ rs[i].2 < st := fun z => e (decide_eq_true z)
          refine hN _ _ ⟨?_, rfl⟩
          rw [if_neg (fun z => e2 z.2)] at hst
          rw [← hst]
          rfl
      · have e1 : inV (.int (i : Nat)) (ys.map V.int) = false := Bool.eq_false_iff.mpr e
        refine hN _ _ ⟨?_, rfl⟩
        rw [e1, if_neg (fun z => Bool.false_ne_true z.1)] at hst
        rw [← hst]
        rfl
    · obtain ⟨rfl, rfl⟩ := hJ
      refine st_seq ?_
      refine ⟨_, rfl, _, rfl, _, rfl, a, _, _, _, rfl, rfl, ha1, ai, c, _, _, _, rfl, rfl, hc1, rfl, _, _, rfl, rfl, ?_⟩
      refine st_seq ?_
      refine ⟨_, rfl, .inl ⟨rfl, _, SqL.of eL⟩, _, rfl, L, _, _, rfl, rfl, eL, ?_, ?_⟩
      · rw [List.length_map]
        exact small1000 (by omega)
      have eL3 : (upd H' L (.lst (acc.map V.int ++ [.int (st2 + rs[i].1)]))) L = some (.lst ((acc ++ [st2 + rs[i].1]).map V.int)) := by
        rw [upd_same, List.map_append]
        rfl
      have s3 : Same H (upd H' L (.lst (acc.map V.int ++ [.int (st2 + rs[i].1)]))) := same_mut sm nL
      generalize upd H' L (.lst (acc.map V.int ++ [.int (st2 + rs[i].1)])) = H3 at eL3 s3
      refine ⟨_, rfl, _, rfl, _, _, rfl, rfl, _, rfl, ite2 (fun e => ?_) (fun e => ?_)⟩
      · have e1 : room < st2 + rs[i].1 := of_decide_eq_true e
        rw [← tt1 e1] at eL3
        exact ⟨_, rfl, q L H3 nL s3 eL3⟩
      · have e1 : ¬ room < st2 + rs[i].1 := fun z => e (decide_eq_true z)
        refine ⟨_, _, _, rfl, s3, eL3, ?_, tt2 e1⟩
        rw [List.length_append, la]
        rfl
  · obtain ⟨st, acc, y5, rfl, sm, eL, la, et⟩ := hP
    have z : ((us.length : Int)).toNat = rs.length := by omega
    rw [z, List.drop_length] at et
    have et2 : tot = acc := by
      rw [et]
      exact List.append_nil _
    rw [← et2] at eL
    exact ⟨_, rfl, q L H1 nL sm eL⟩
theorem te_join {te : TE} {σ : L2.St} {H : Hp} {Q : VK} (J : V → Hp → Prop) (h : ∀ Q2 : VK, (∀ v H', J v H' → Q2 v H') → te σ H Q2) (q : ∀ v H', J v H' → Q v H') : te σ H Q := h Q q
theorem rgV_ints (n : Int) : rgV 0 n = ((List.range n.toNat).map fun i => ((i : Nat) : Int)).map V.int := by
  unfold rgV
  rw [Int.sub_zero, List.map_map]
  refine List.map_congr_left fun i _ => ?_
  show V.int (0 + (i : Int)) = V.int (i : Int)
  rw [Int.zero_add]
theorem ints_of {xs : List V} (h : ∀ x ∈ xs, ∃ i : Int, x = .int i) : ∃ ns : List Int, xs = ns.map V.int ∧ ns.length = xs.length := by
  induction xs with
  | nil => exact ⟨[], rfl, rfl⟩
  | cons x xs ih =>
    obtain ⟨i, rfl⟩ := h x (List.mem_cons_self ..)
    obtain ⟨ns, e, l⟩ := ih fun y hy => h y (List.mem_cons_of_mem _ hy)
    exact ⟨i :: ns, by rw [e]; rfl, by rw [List.length_cons, List.length_cons, l]⟩
theorem rs_nil {K : PySem.W.Frag} {H : Hp} {a : Addr} (h : SqT K H a []) : Rs K H a [] := ⟨[], h, rfl, fun _ _ z => by cases z⟩
theorem b62 {x : Int} (h0 : 0 ≤ x) (h1 : x ≤ 1000000) : x.natAbs < 2 ^ 62 := by
  have e : (2 : Nat) ^ 62 = 4611686018427387904 := by decide
  omega
theorem ok_law (T : Tx K mg) (g_STOP : ∃ u, mg "STOP" = some u ∧ RelV (.int 28) u) (c_l_hand : C8.Cal P w K mg base 1 "_law_hand" (spHand K) []) (c_l_take : C8.Cal P w K mg base 1 "_law_take" spTake []) (c_l_of : C8.Cal P w K mg base 2 "_law_of" (spOf K) []) (c_l_rounds : C8.Cal P w K mg base 3 "_law_rounds" (spRounds K) [])
    (c_l_steps : C8.Cal P w K mg base 1 "_law_steps" (spStepsL K) []) (k_passes : CalK P w K mg base 1 "passes" 2 ["room"] (spPasses K)) (c_passes : C8.Cal P w K mg base 1 "passes" (spPasses K) [.int 28]) : BodyAt P w K mg base "law" s_law N_law 3 (spLaw K) := by
  intro f cdv s H vs Q E hr h
  obtain ⟨a, ns, rfl, hS, hl, q⟩ := h
  have p18' : (10 : Int) ^ 18 = 1000000000000000000 := by decide
  refine ⟨_, (pss_cons (ps_for PassesOwn.never rfl (pi_range1 (by rfl) T.range (pa_cons (pe_op op_add pe_int (pe_callB (call_min2 rfl) (gl_of gl_law_min) T.min bb_min (pa_cons pe_int (pa_cons (pe_callB call_len_seq (gl_of gl_law_len) T.len bb_len (pa_cons (pv 0) pa_nil)) pa_nil)))) pa_nil)) (pg_name (i := 1) sc_law.nd rfl (Or.inl rfl)) (pss_cons (ps_set (i := 2) sc_law.nd rfl (Or.inr rfl) (C8.pe_c c_l_hand hr (by decide) (gl_of gl_law_l_hand) (pa_cons (pv 0) (pa_cons (pv 1) pa_nil))))
      (pss_cons (ps_set (i := 3) sc_law.nd rfl (Or.inl rfl) (C8.pe_c c_l_of hr (by decide) (gl_of gl_law_l_of) (pa_cons (pv 2) (pa_cons (pe_lst (pa_cons pe_int (pa_cons pe_int (pa_cons pe_int (pa_cons pe_int (pa_cons pe_int (pa_cons (C8.pe_c c_l_take hr (by decide) (gl_of gl_law_l_take) (pa_cons (pv 2) (pa_cons pe_int pa_nil))) pa_nil))))))) pa_nil))))
      (pss_cons (ps_set (i := 4) sc_law.nd rfl (Or.inl rfl) (C8.pe_c c_l_rounds hr (by decide) (gl_of gl_law_l_rounds) (pa_cons (pv 2) (pa_cons (pe_ifExp (pt_cmpR op_eq (C8.pe_c c_l_take hr (by decide) (gl_of gl_law_l_take) (pa_cons (pv 2) (pa_cons pe_int pa_nil))) pe_int (nomark _)) pe_int (C8.pe_c c_l_take hr (by decide) (gl_of gl_law_l_take) (pa_cons (pv 2) (pa_cons pe_int pa_nil)))) (pa_cons (pv 3) pa_nil)))))
      (pss_cons (ps_par (i := 5) (j := 6) (by rfl) sc_law.nd rfl rfl (by decide) rfl rfl (pa_cons (pe_callB (call_reprK (K1 := K) rfl (by rfl) hr.units) (gl_of gl_law_repr) T.repr bb_repr (pa_cons (pv 4) pa_nil)) (pa_cons (pe_listRg (by rfl) (by rfl) T.list (prg_1 (by rfl) T.range (pe_callB call_len_seq (gl_of gl_law_len) T.len bb_len (pa_cons (pv 4) pa_nil)))) pa_nil)) (by rfl))
      (pss_cons (ps_setLc (i := 7) (own := [("_law_one", 9)]) (g := gName 9) rfl sc_law.nd rfl rfl (sw_true rfl rfl rfl (by decide +kernel)) (pi_list (pv 6)) (blkOk_by (own := [("_law_one", 9)]) (N := N_law) (sc := defScope s_law) (by decide +kernel)) (fun _ _ _ _ _ => pg_name (i := 9) sc_law.nd rfl (Or.inl rfl)) (fun _ _ _ _ _ => (pts_one (pt_cmpR op_eq (C8.pe_c c_l_take hr (by decide) (by rfl) (pa_cons (pv 2) (pa_cons pe_int pa_nil))) pe_int (nomark _)))) (fun _ _ _ _ _ => (pv 9)))
      (pss_cons (ps_for PassesOwn.never rfl (pi_tup (pe_tup (pa_cons (pe_callTy call_tuple_of (gl_of gl_law_tuple) T.tuple bt_tuple (pa_cons (pv 7) pa_nil)) (pa_cons (pe_tup pa_nil) (pa_cons (pe_callTy call_tuple_of (gl_of gl_law_tuple) T.tuple bt_tuple (pa_cons (pv 6) pa_nil)) (pa_cons (pe_callTy call_tuple_of (gl_of gl_law_tuple) T.tuple bt_tuple (pa_cons (pe_stepL (pv 6)) pa_nil)) (pa_cons (pe_callTy call_tuple_of (gl_of gl_law_tuple) T.tuple bt_tuple (pa_cons (pe_slice sl_list (pv 6) (po_some pe_int) po_none) pa_nil)) pa_nil))))))) (pg_name (i := 8) sc_law.nd rfl (Or.inl rfl)) (pss_cons (ps_if (pt_cmpR op_ne (pe_callB (call_reprK (K1 := K) rfl (by rfl) hr.units) (gl_of gl_law_repr) T.repr bb_repr (pa_cons (pe_ck k_passes hr (by decide) (gl_of gl_law_passes) (pa_cons (pv 4) (pa_cons (pv 8) pa_nil)) (pk_cons (pv 3) pk_nil)) pa_nil)) (pe_callB (call_reprK (K1 := K) rfl (by rfl) hr.units) (gl_of gl_law_repr) T.repr bb_repr (pa_cons (pe_callTy call_tuple_of (gl_of gl_law_tuple) T.tuple bt_tuple (pa_cons (C8.pe_c c_l_steps hr (by decide) (gl_of gl_law_l_steps) (pa_cons (pv 4) (pa_cons (pv 8) (pa_cons (pv 3) pa_nil)))) pa_nil)) pa_nil)) (nomark _)) (pss_one (ps_ret pe_bl)) pss_nil)
      (pss_one (ps_if (pt_cmpR op_ne (pe_callB (call_reprK (K1 := K) rfl (by rfl) hr.units) (gl_of gl_law_repr) T.repr bb_repr (pa_cons (C8.pe_c c_passes hr (by decide) (gl_of gl_law_passes) (pa_cons (pv 4) (pa_cons (pv 8) pa_nil))) pa_nil)) (pe_callB (call_reprK (K1 := K) rfl (by rfl) hr.units) (gl_of gl_law_repr) T.repr bb_repr (pa_cons (pe_callTy call_tuple_of (gl_of gl_law_tuple) T.tuple bt_tuple (pa_cons (C8.pe_c c_l_steps hr (by decide) (gl_of gl_law_l_steps) (pa_cons (pv 4) (pa_cons (pv 8) (pa_cons (C8.pe_gc (gl_of gl_law_STOP) g_STOP) pa_nil)))) pa_nil)) pa_nil)) (nomark _)) (pss_one (ps_ret pe_bl)) pss_nil))))
      (pss_one (ps_if (pt_cmpR op_ne (pe_callB (call_reprK (K1 := K) rfl (by rfl) hr.units) (gl_of gl_law_repr) T.repr bb_repr (pa_cons (pv 4) pa_nil)) (pv 5) (nomark _)) (pss_one (ps_ret pe_bl)) pss_nil)))))))))
      (pss_one (ps_ret (pe_and (pe_cmpR op_eq (C8.pe_gc (gl_of gl_law_STOP) g_STOP) pe_int (nomark _)) (pe_and (pe_cmpR (op_eqD hr.units) (C8.pe_c c_passes hr (by decide) (gl_of gl_law_passes) (pa_cons (pe_tup pa_nil) (pa_cons (pe_tup pa_nil) pa_nil))) (pe_tup pa_nil) (nomark _)) (pe_one (pe_cmpR (op_eqD hr.units) (pe_ck k_passes hr (by decide) (gl_of gl_law_passes) (pa_cons (pe_tup pa_nil) (pa_cons (pe_tup pa_nil) pa_nil)) (pk_cons pe_int pk_nil)) (pe_tup pa_nil) (nomark _)))))))), ?_⟩
  refine st_seq ?_
  refine ⟨_, rfl, a, _, rfl, .inl hS, _, _, rfl, _, _, rfl, rfl, _, rfl, ?_, ?_, ?_⟩
  · split <;> omega
  · rw [List.length_map]
    split <;> omega
  · refine for_range (lo := 0) (fun i σ H' => (∃ y1 y2 y3 y4 y5 y6 y7 y8 y9, σ = [some (.ref a), y1, y2, y3, y4, y5, y6, y7, y8, y9]) ∧ SqL K H' a (ns.map V.int)) ⟨⟨none, none, none, none, none, none, none, none, none, rfl⟩, hS⟩ (fun i σ H1 hi hP => ?_) (fun σ H1 hP => ?_)
    · obtain ⟨⟨y1, y2, y3, y4, y5, y6, y7, y8, y9, rfl⟩, hS1⟩ := hP
      have hi2 : i ≤ 8 := by
        rw [List.length_map] at hi
        split at hi <;> omega
      refine st_seq ?_
      refine ⟨_, rfl, _, rfl, a, ns, i, ?_, hS1, by omega, fun p H2 np ke hs => ?_⟩
      · show [V.ref a, V.int (0 + (i : Int))] = _
        rw [Int.zero_add]
      have fr2 : Fr p H1 H2 := fun b o _ e => ke b o e
      -- limit
      refine st_seq ?_
      refine ⟨_, rfl, _, rfl, p, 40, 0, rfl, hs, (show 0 < 100000 by decide), by decide, by decide, fun d H3 d0 d1 hs3 f3 => ?_⟩
      refine ⟨(show 6 ≤ sizeLine by decide), fun l1 nl1 => ?_⟩
      refine ⟨p, l1, _, 1, rfl, hs3.new nl1, (show 1 < 100000 by decide), hs3.ne nl1, SqL.of upd_same, (show 0 < 6 by decide), (show 6 ≤ 1000 by decide), fun v H4 hv hs4 f4 => ?_⟩
      have hx : ∃ z : Int, v = .int z ∧ 0 ≤ z ∧ z ≤ 100 := by
        simp only [List.mem_cons, List.not_mem_nil, or_false] at hv
        rcases hv with rfl | rfl | rfl | rfl | rfl | rfl <;> exact ⟨_, rfl, by omega, by omega⟩
      obtain ⟨lm, rfl, lm0, lm1⟩ := hx
      have g4 : Fr p H1 H4 := fr2.trans (f3.trans ((Fr.new nl1).trans f4))
      -- rounds
      refine st_seq ?_
      refine ⟨_, rfl, ?_⟩
      refine te_join (fun v Hx => ∃ m : Nat, v = .int m ∧ m ≤ 60 ∧ HS p 4 Hx ∧ Fr p H4 Hx) (fun Q2 q2 => ?_) (fun v Hx hv => ?_)
      · refine ⟨_, rfl, p, 6, 2, rfl, hs4, (show 2 < 100000 by decide), by decide, by decide, fun d5 H5 d50 d51 hs5 f5 => ?_⟩
        refine ⟨rfl, _, rfl, ite2 (fun e => ?_) (fun e => ?_)⟩
        · exact q2 _ _ ⟨60, rfl, by decide, hs5.mono (by decide), f5⟩
        · refine ⟨_, rfl, p, 13, 3, rfl, hs5, (show 3 < 100000 by decide), by decide, by decide, fun d6 H6 d60 d61 hs6 f6 => ?_⟩
          refine q2 _ _ ⟨d6.toNat, ?_, by omega, hs6, f5.trans f6⟩
          rw [Int.toNat_of_nonneg d60]
      obtain ⟨m, rfl, hm, hs5, f5⟩ := hv
      refine ⟨_, rfl, p, m, lm, 4, rfl, hs5, (show 4 + 7 * m < 100000 by omega), by omega, lm0, by omega, fun r rs H6 hR lr br hs6 f6 => ?_⟩
      have g6 : Fr p H1 H6 := g4.trans (f5.trans f6)
      have bd : ∀ r ∈ rs, r.1.natAbs < 2 ^ 62 ∧ r.2.natAbs < 2 ^ 62 := fun r hr => by
        have z := br r hr
        exact ⟨b62 z.1 (by omega), b62 z.2.2.1 (by omega)⟩
      obtain ⟨dR, smR⟩ := rs_data hR bd (by omega)
      obtain ⟨sR1, sR2, sR3, sR4⟩ := smR.fits (by decide)
      -- kept, every
      dsimp only
      refine st_seq ?_
      refine ⟨_, rfl, _, _, rfl, dR, sR1, sR2, sR3, sR4, ?_⟩
      obtain ⟨us, hrT, lu, hu⟩ := id hR
      refine ⟨_, rfl, r, us, rfl, .inr hrT, _, rfl, RgOk.of_le (by decide) (by omega) (by decide) (by omega), fun ev nev => ?_⟩
      refine ⟨_, _, rfl, ?_⟩
      have eE : (upd H6 ev (.lst (rgV 0 us.length))) ev = some (.lst (((List.range rs.length).map fun i => ((i : Nat) : Int)).map V.int)) := by
        rw [upd_same, rgV_ints, lu]
        rfl
      have s7 : Same H6 (upd H6 ev (.lst (rgV 0 us.length))) := same_new nev
      have nep : ev ≠ p := hs6.ne nev
      generalize upd H6 ev (.lst (rgV 0 us.length)) = H7 at eE s7
      generalize hev : (List.range rs.length).map (fun i => ((i : Nat) : Int)) = es at eE
      have les : es.length = rs.length := by rw [← hev, List.length_map, List.length_range]
      have hs7 := hs6.same s7
      have hR7 := hR.same s7
      have g7 : Fr p H1 H7 := g6.trans (Fr.same s7)
      -- drawn
      dsimp only
      refine st_seq ?_
      refine ⟨_, rfl, ev, rfl, ⟨_, SqL.of eE⟩, fun D nD => ?_⟩
      have nDp : D ≠ p := hs7.ne nD
      have nDe : D ≠ ev := (ne_of_none eE nD).symm
      refine lc_list (K := K) (a := ev) (xs := es.map V.int) (fun j H'' => HS p (4 + 7 * m + j) H'' ∧ Fr p H7 H'' ∧ ∃ zs : List Int, zs.length ≤ j ∧ H'' D = some (.lst (zs.map V.int))) ?_ (fun j H'' _ hP => ?_) (fun j y H'' hy hP => ?_) (fun H8 hP => ?_)
      · exact ⟨hs7.new nD, Fr.new nD, [], Nat.le_refl _, upd_same⟩
      · exact SqL.of (hP.2.1 _ _ nep eE)
      · obtain ⟨hsb, fb, zs, lz, eD⟩ := hP
        have hj : j < es.length := by
          have z := (List.getElem?_eq_some_iff.mp hy).1
          rw [List.length_map] at z
          exact z
        have ey : y = .int es[j] := by
          rw [List.getElem?_map, List.getElem?_eq_getElem hj] at hy
          exact (Option.some.inj hy).symm
        subst ey
        refine ⟨rfl, ?_⟩
        refine ⟨_, rfl, p, 2, 4 + 7 * m + j, rfl, hsb, (show 4 + 7 * m + j < 100000 by omega), by decide, by decide, fun d8 H8 d80 d81 hs8 f8 => ?_⟩
        have eD8 := f8 _ _ nDp eD
        refine ⟨rfl, _, rfl, ite2 (fun e => ?_) (fun e => ?_)⟩
        · refine ⟨_, rfl, _, eD8, ?_, hs8.upd nDp, Fr.mut (fb.trans f8) nD, zs ++ [es[j]], ?_, ?_⟩
          · rw [List.length_map]
            exact small1000 (by omega)
          · rw [List.length_append]
            show zs.length + 1 ≤ j + 1
            omega
          · rw [upd_same, List.map_append]
            rfl
        · exact ⟨hs8, fb.trans f8, zs, by omega, eD8⟩
      obtain ⟨hs8, f8, zs, lz, eD⟩ := hP
      have eE8 := f8 _ _ nep eE
      have hR8 := hR7.fr hs7 f8
      have g8 : Fr p H1 H8 := g7.trans f8
      -- the five
      refine st_seq ?_
      refine ⟨_, rfl, D, _, rfl, .inl ⟨SqL.of eD, fun t1 nt1 => ?_⟩⟩
      refine ⟨(show 0 ≤ sizeLine by decide), fun t2 nt2 => ?_⟩
      have sA : Same H8 (upd (upd H8 t1 (.tup (zs.map V.int))) t2 (.tup [])) := (same_new nt1).trans (same_new nt2)
      have eT1 : (upd (upd H8 t1 (.tup (zs.map V.int))) t2 (.tup [])) t1 = some (.tup (zs.map V.int)) := same_new nt2 _ _ upd_same
      have eT2 : (upd (upd H8 t1 (.tup (zs.map V.int))) t2 (.tup [])) t2 = some (.tup (([] : List Int).map V.int)) := upd_same
      generalize upd (upd H8 t1 (.tup (zs.map V.int))) t2 (.tup []) = H9 at sA eT1 eT2
      have eE9 := sA _ _ eE8
      refine ⟨_, rfl, ev, _, rfl, .inl ⟨SqL.of eE9, fun t3 nt3 => ?_⟩⟩
      have sB : Same H9 (upd H9 t3 (.tup (es.map V.int))) := same_new nt3
      have eT3 : (upd H9 t3 (.tup (es.map V.int))) t3 = some (.tup (es.map V.int)) := upd_same
      generalize upd H9 t3 (.tup (es.map V.int)) = Ha at sB eT3
      have eEa := sB _ _ eE9
      refine ⟨_, rfl, ev, _, rfl, SqL.of eEa, fun l4 ys4 nl4 hy4 ly4 => ?_⟩
      obtain ⟨w4, e4, lw4⟩ := ints_of (xs := ys4) fun x hx => by
        obtain ⟨i, _, e⟩ := List.mem_map.mp (hy4 x hx)
        exact ⟨i, e.symm⟩
      subst e4
      refine ⟨l4, _, rfl, .inl ⟨SqL.of upd_same, fun t4 nt4 => ?_⟩⟩
      have sC : Same Ha (upd (upd Ha l4 (.lst (w4.map V.int))) t4 (.tup (w4.map V.int))) := (same_new nl4).trans (same_new nt4)
      have eT4 : (upd (upd Ha l4 (.lst (w4.map V.int))) t4 (.tup (w4.map V.int))) t4 = some (.tup (w4.map V.int)) := upd_same
      generalize upd (upd Ha l4 (.lst (w4.map V.int))) t4 (.tup (w4.map V.int)) = Hb at sC eT4
      have eEb := sC _ _ eEa
      refine ⟨_, rfl, _, rfl, ev, _, rfl, SqL.of eEb, fun l5 nl5 => ?_⟩
      obtain ⟨w5, e5, lw5⟩ := ints_of (xs := cutV (es.map V.int) (some 1) none) fun x hx => by
        have hx2 : x ∈ es.map V.int := List.mem_of_mem_drop (List.mem_of_mem_take hx)
        obtain ⟨i, _, e⟩ := List.mem_map.mp hx2
        exact ⟨i, e.symm⟩
      rw [e5]
      refine ⟨l5, _, rfl, .inl ⟨SqL.of upd_same, fun t5 nt5 => ?_⟩⟩
      have sD : Same Hb (upd (upd Hb l5 (.lst (w5.map V.int))) t5 (.tup (w5.map V.int))) := (same_new nl5).trans (same_new nt5)
      have eT5 : (upd (upd Hb l5 (.lst (w5.map V.int))) t5 (.tup (w5.map V.int))) t5 = some (.tup (w5.map V.int)) := upd_same
      generalize upd (upd Hb l5 (.lst (w5.map V.int))) t5 (.tup (w5.map V.int)) = Hc at sD eT5
      refine ⟨(show 5 ≤ sizeLine by decide), fun tt ntt => ?_⟩
      have sE : Same Hc (upd Hc tt (.tup [.ref t1, .ref t2, .ref t3, .ref t4, .ref t5])) := same_new ntt
      have eTT : (upd Hc tt (.tup [.ref t1, .ref t2, .ref t3, .ref t4, .ref t5])) tt = some (.tup [.ref t1, .ref t2, .ref t3, .ref t4, .ref t5]) := upd_same
      generalize upd Hc tt (.tup [.ref t1, .ref t2, .ref t3, .ref t4, .ref t5]) = Hd at sE eTT
      have five : ∀ v ∈ [V.ref t1, .ref t2, .ref t3, .ref t4, .ref t5], ∃ (t : Addr) (ys : List Int), v = .ref t ∧ Hd t = some (.tup (ys.map V.int)) := by
        intro v hv
        simp only [List.mem_cons, List.not_mem_nil, or_false] at hv
        rcases hv with rfl | rfl | rfl | rfl | rfl
        · exact ⟨_, _, rfl, sE _ _ (sD _ _ (sC _ _ (sB _ _ eT1)))⟩
        · exact ⟨_, _, rfl, sE _ _ (sD _ _ (sC _ _ (sB _ _ eT2)))⟩
        · exact ⟨_, _, rfl, sE _ _ (sD _ _ (sC _ _ eT3))⟩
        · exact ⟨_, _, rfl, sE _ _ (sD _ _ eT4)⟩
        · exact ⟨_, _, rfl, sE _ _ eT5⟩
      have sAll : Same H8 Hd := sA.trans (sB.trans (sC.trans (sD.trans sE)))
      have hRd := hR8.same sAll
      refine ⟨tt, rfl, ⟨_, SqT.of eTT⟩, ?_⟩
      refine for_tup (xs := [.ref t1, .ref t2, .ref t3, .ref t4, .ref t5]) (fun j σ H' => (∃ y1 y8 y9, σ = [some (.ref a), y1, some (.ref p), some (.int lm), some (.ref r), some (.str (PyData.shown (.tuple (rsD rs)))), some (.ref ev), some (.ref D), y8, y9]) ∧ Same Hd H') ?_ (fun j σ Hx _ hP => ?_) (fun j v σ Hx hv hP => ?_) (fun σ Hx hP => ?_)
      · exact ⟨⟨_, _, _, rfl⟩, Same.refl _⟩
      · exact SqT.of (hP.2 _ _ eTT)
      · obtain ⟨⟨y1', y8', y9', rfl⟩, sx⟩ := hP
        obtain ⟨t, ys, rfl, et⟩ := five v (List.mem_of_getElem? hv)
        have bound : ∀ (room : Int) (sm : Nat → Bool), ∀ x ∈ pas sm room rs 0 0, x.natAbs < 2 ^ 62 := fun room sm x hx => by
          have z := pas_bound sm room 1000 rs 0 0 (Int.le_refl _) (fun r hr => by have z := br r hr; omega) x hx
          exact b62 z.1 (by omega)
        have lens : ∀ (room : Int) (sm : Nat → Bool), (pas sm room rs 0 0).length ≤ 1000 := fun room sm => by
          have z := pas_len sm room rs 0 0
          omega
        -- with the room told
        refine st_seq ?_
        refine ⟨_, rfl, _, rfl, _, rfl, rfl, rfl, r, t, lm, rs, ys, rfl, hRd.same sx, by omega, SqT.of (sx _ _ et), fun p1 He s1 h1 => ?_⟩
        obtain ⟨dp1, sm1⟩ := ints_data h1 (bound _ _) (lens _ _)
        obtain ⟨u1, u2, u3, u4⟩ := sm1.fits (by decide)
        refine ⟨_, _, rfl, dp1, u1, u2, u3, u4, ?_⟩
        refine ⟨_, rfl, _, rfl, _, rfl, r, t, lm, rs, ys, rfl, (hRd.same sx).same s1, by omega, SqT.of (s1 _ _ (sx _ _ et)), fun p2 Hf np2 s2 h2 => ?_⟩
        refine ⟨p2, _, rfl, .inl ⟨SqL.of h2, fun t6 nt6 => ?_⟩⟩
        have dp2 := (ints_data (K := K) (SqT.of (upd_same (H := Hf) (a := t6) (o := .tup ((pas (fun k => inV (.int (k : Nat)) (ys.map V.int)) lm rs 0 0).map V.int)))) (bound _ _) (lens _ _)).1
        refine ⟨_, _, rfl, dp2, u1, u2, u3, u4, rfl, _, rfl, ?_⟩
        rw [dec_refl]
        refine iteF ?_
        have s6 : Same Hd (upd Hf t6 (.tup ((pas (fun k => inV (.int (k : Nat)) (ys.map V.int)) lm rs 0 0).map V.int))) := sx.trans (s1.trans (s2.trans (same_new nt6)))
        generalize upd Hf t6 (.tup ((pas (fun k => inV (.int (k : Nat)) (ys.map V.int)) lm rs 0 0).map V.int)) = Hg at s6
        -- with the room left out
        refine ⟨_, rfl, _, rfl, r, t, 28, rs, ys, rfl, hRd.same s6, by omega, SqT.of (s6 _ _ et), fun p3 Hh s7' h3 => ?_⟩
        obtain ⟨dp3, sm3⟩ := ints_data h3 (bound _ _) (lens _ _)
        obtain ⟨v1, v2, v3, v4⟩ := sm3.fits (by decide)
        refine ⟨_, _, rfl, dp3, v1, v2, v3, v4, ?_⟩
        refine ⟨_, rfl, _, rfl, r, t, 28, rs, ys, rfl, (hRd.same s6).same s7', by omega, SqT.of (s7' _ _ (s6 _ _ et)), fun p4 Hi np4 s8 h4 => ?_⟩
        refine ⟨p4, _, rfl, .inl ⟨SqL.of h4, fun t7 nt7 => ?_⟩⟩
        have dp4 := (ints_data (K := K) (SqT.of (upd_same (H := Hi) (a := t7) (o := .tup ((pas (fun k => inV (.int (k : Nat)) (ys.map V.int)) 28 rs 0 0).map V.int)))) (bound _ _) (lens _ _)).1
        refine ⟨_, _, rfl, dp4, v1, v2, v3, v4, rfl, _, rfl, ?_⟩
        rw [dec_refl]
        refine iteF ?_
        exact ⟨⟨_, _, _, rfl⟩, s6.trans (s7'.trans (s8.trans (same_new nt7)))⟩
      · obtain ⟨⟨y1', y8', y9', rfl⟩, sx⟩ := hP
        have dRx := (rs_data (hRd.same sx) bd (by omega)).1
        refine ⟨_, rfl, _, _, rfl, dRx, sR1, sR2, sR3, sR4, _, rfl, rfl, _, rfl, ?_⟩
        rw [dec_refl]
        refine iteF ?_
        refine ⟨⟨_, _, _, _, _, _, _, _, _, rfl⟩, ?_⟩
        exact seq_new hS1 np (g8.trans (Fr.same (sAll.trans sx)))
    · refine ⟨rfl, _, rfl, ?_⟩
      rw [dec_refl]
      refine iteT ?_
      refine ⟨(show 0 ≤ sizeLine by decide), fun t1 nt1 => ?_⟩
      refine ⟨(show 0 ≤ sizeLine by decide), fun t2 nt2 => ?_⟩
      refine ⟨t1, t2, 28, [], [], rfl, rs_nil (SqT.of (same_new nt2 _ _ upd_same)), by decide, SqT.of upd_same, fun p1 H2 s2 h2 => ?_⟩
      refine ⟨(show 0 ≤ sizeLine by decide), fun t3 nt3 => ?_⟩
      refine ⟨.tuple [], .tuple [], .tup (sqT_same (same_new nt3) h2) .nil, .tup (SqT.of upd_same) .nil, rfl, rfl, _, rfl, ?_⟩
      rw [show PyData.eqv (.tuple []) (.tuple []) = true from SeqAt.eqv_refl _ rfl]
      refine iteT ?_
      refine ⟨(show 0 ≤ sizeLine by decide), fun t1 nt1 => ?_⟩
      refine ⟨(show 0 ≤ sizeLine by decide), fun t2 nt2 => ?_⟩
      refine ⟨rfl, rfl, t1, t2, 0, [], [], rfl, rs_nil (SqT.of (same_new nt2 _ _ upd_same)), by decide, SqT.of upd_same, fun p1 H2 s2 h2 => ?_⟩
      refine ⟨(show 0 ≤ sizeLine by decide), fun t3 nt3 => ?_⟩
      refine ⟨.tuple [], .tuple [], .tup (sqT_same (same_new nt3) h2) .nil, .tup (SqT.of upd_same) .nil, rfl, rfl, ?_⟩
      rw [show PyData.eqv (.tuple []) (.tuple []) = true from SeqAt.eqv_refl _ rfl]
      exact q _
end
/-! ### the head -/
theorem def0_mk {K : PySem.W.Frag} {h : Heap} {mg : Str → Option Value} {x : Str} {st : Stmt} {ps : List Str} (X : K.In h) (G : h.Ns mainGlobals mg) (g : (He.Fa.glo x).ok K = true)
    (F : ∃ fd, FunD K x x (defArgs st) (defBody st) (defScope st) [] [] (He.ga K x) fd)
    (hb : ∀ (kV doc pm : Value) (an : Option Addr) (cdv ct : Value) (us : List Value), us.length = ps.length → bindArgs (PySem.W.fnOf x x (defArgs st) (defBody st) (defScope st) .none kV doc pm an cdv ct) ⟨us, []⟩ = pure (ps.zip us)) : Def0 K mg x st ps := by
  obtain ⟨fd, F⟩ := F
  exact ⟨_, fd, F, He.glo_ok X G g, F.bindsN hb⟩
theorem defK_mk {K : PySem.W.Frag} {h : Heap} {mg : Str → Option Value} {x : Str} {st : Stmt} {ps : List Str} {n : Nat} {y : Str} {v : V} (X : K.In h) (G : h.Ns mainGlobals mg) (g : (He.Fa.glo x).ok K = true)
    (F : ∃ fd, FunD K x x (defArgs st) (defBody st) (defScope st) [] [(y, v)] (He.ga K x) fd) (hn : n + 1 = ps.length)
    (hb : ∀ (D : Addr) (doc pm : Value) (an : Option Addr) (cdv ct : Value) (us ks : List Value), us.length = n → ks.length = 1 →
      KwChain D (([y] : List Str).zip ks) (bindArgs (PySem.W.fnOf x x (defArgs st) (defBody st) (defScope st) .none (.ref D) doc pm an cdv ct) ⟨us, []⟩) (ps.zip (us ++ ks)))
    (hk : ∀ (kV doc pm : Value) (an : Option Addr) (cdv ct : Value) (us ws : List Value), us.length = n → ws.length = 1 →
      bindArgs (PySem.W.fnOf x x (defArgs st) (defBody st) (defScope st) .none kV doc pm an cdv ct) ⟨us, ([y] : List Str).zip ws⟩ = pure (ps.zip (us ++ ws))) : DefK K mg x st ps n [(y, v)] := by
  obtain ⟨fd, F⟩ := F
  refine ⟨_, fd, F, He.glo_ok X G g, F.binds0 n (by simp) hn hb, fun us ws => us ++ ws, ⟨fun s us ws _ l1 l2 => ?_, fun r1 r2 => r1.append r2⟩⟩
  obtain ⟨oc, od, dV, kV, doc, pm, an, cdv, ct, osl, rfl, lk, hcd, hD, hK⟩ := F.ex
  rcases hD with ⟨_, rfl⟩ | ⟨e, _⟩
  · exact .of_eq (hk kV doc pm an cdv ct us ws l1 l2)
  · exact absurd rfl e
theorem int_g {K : PySem.W.Frag} {h : Heap} {mg : Str → Option Value} {x : Str} {i : Int} (X : K.In h) (G : h.Ns mainGlobals mg) (g : (He.Fa.int x i).ok K = true) : ∃ u, mg x = some u ∧ RelV (.int i) u := by
  obtain ⟨t, e⟩ := He.int_ok X G g
  exact ⟨_, e, t, rfl⟩
def d_passes : He.DefD := ⟨("passes", none), "passes", "passes", defArgs s_passes, defBody s_passes, defScope s_passes, [], [("room", .int 28)]⟩
def d_l_hand : He.DefD := ⟨("_law_hand", none), "_law_hand", "_law_hand", defArgs s_l_hand, defBody s_l_hand, defScope s_l_hand, [], []⟩
def d_l_take : He.DefD := ⟨("_law_take", none), "_law_take", "_law_take", defArgs s_l_take, defBody s_l_take, defScope s_l_take, [], []⟩
def d_l_of : He.DefD := ⟨("_law_of", none), "_law_of", "_law_of", defArgs s_l_of, defBody s_l_of, defScope s_l_of, [], []⟩
def d_l_rounds : He.DefD := ⟨("_law_rounds", none), "_law_rounds", "_law_rounds", defArgs s_l_rounds, defBody s_l_rounds, defScope s_l_rounds, [], []⟩
def d_l_steps : He.DefD := ⟨("_law_steps", none), "_law_steps", "_law_steps", defArgs s_l_steps, defBody s_l_steps, defScope s_l_steps, [], []⟩
def d_law : He.DefD := ⟨("law", none), "law", "law", defArgs s_law, defBody s_law, defScope s_law, [], []⟩
def fn : List He.DefD := [d_passes, d_l_hand, d_l_take, d_l_of, d_l_rounds, d_l_steps, d_law]
--@ level 4
def fa : List He.Fa := [.glo "passes", .glo "_law_hand", .glo "_law_take", .glo "_law_of", .glo "_law_rounds", .glo "_law_steps", .glo "law", .int "STOP" 28] ++ freeNames.map .free
abbrev R : PySem.W.OpenRow := PySem.W.OpenLaw.row PySem.Challenge.rw_roundstore_k51_rounds_passed
abbrev hk : PySem.W.Hook := He.hookD 4 fa fn
def ob (s : PySem.W.SharedT) : He.AlD := He.obsDG 4 fa fn (HandSHeadRun.getT s)
theorem ob_eq (s : PySem.W.SharedT) : ob s = hk.obs s.abs := He.obsDG_eq (HandSHeadRun.getT_eq s)
theorem run (w : World) : HandSHeadRun.RunEq R (PySem.W.view R.prog [9]) hk ob 2000 ["STOP", "passes", "_law_hand", "_law_take", "_law_of", "_law_rounds", "_law_steps"] w := by
  intro os
  kernel_rfl
theorem facts {P : Program} {w : World} {K : PySem.W.Frag} {h : Heap} {mg : Str → Option Value} {f : Addr} (X : K.In h) (G : h.Ns mainGlobals mg) (hfa : mg ("law" : Str) = some (.ref f)) (c : He.SaysD fa fn K) :
    ∃ fd : FuncData, (∀ (s : Shared) (v : Value), BindsTo s fd ⟨[v], []⟩ [("_law_script", v)]) ∧ ∀ base : Heap, K.In base → base.Ns mainGlobals mg → FnAt callerA P w K mg base CX0 4 f fd ["_law_script"] (spLaw K) := by
  have T : Tx K mg := tx_mk fun x hx => He.free_ok X G (by
    obtain ⟨i, hi, e⟩ := List.mem_iff_getElem.mp hx
    exact c.fact (8 + i) (f := .free x) (by
      show ([.glo "passes", .glo "_law_hand", .glo "_law_take", .glo "_law_of", .glo "_law_rounds", .glo "_law_steps", .glo "law", .int "STOP" 28] ++ freeNames.map He.Fa.free)[8 + i]? = _
      rw [List.getElem?_append_right (by show 8 ≤ _; omega)]
      show (freeNames.map He.Fa.free)[8 + i - 8]? = _
      rw [Nat.add_sub_cancel_left, List.getElem?_map, List.getElem?_eq_getElem hi, e]
      rfl))
  have g_STOP := int_g X G (c.fact 7 (f := .int "STOP" 28) rfl)
  have D_passes : DefK K mg "passes" s_passes ["rounds", "some", "room"] 2 [("room", .int 28)] := defK_mk X G (c.fact 0 (f := .glo "passes") rfl) (c.def_ 0 (d := d_passes) rfl) rfl
    (fun _ _ _ _ _ _ us ks l1 l2 => match us, ks, l1, l2 with | [_, _], [_], _, _ => ⟨_, _, _, _, _, _, rfl, rfl, rfl⟩) (fun _ _ _ _ _ _ us ws l1 l2 => match us, ws, l1, l2 with | [_, _], [_], _, _ => rfl)
  have D_l_hand : Def0 K mg "_law_hand" s_l_hand ["_law_script", "_law_k"] := def0_mk X G (c.fact 1 (f := .glo "_law_hand") rfl) (c.def_ 1 (d := d_l_hand) rfl) fun _ _ _ _ _ _ us hl => match us, hl with | [_, _], _ => rfl
  have D_l_take : Def0 K mg "_law_take" s_l_take ["_law_hand_here", "_law_many"] := def0_mk X G (c.fact 2 (f := .glo "_law_take") rfl) (c.def_ 2 (d := d_l_take) rfl) fun _ _ _ _ _ _ us hl => match us, hl with | [_, _], _ => rfl
  have D_l_of : Def0 K mg "_law_of" s_l_of ["_law_hand_here", "_law_some"] := def0_mk X G (c.fact 3 (f := .glo "_law_of") rfl) (c.def_ 3 (d := d_l_of) rfl) fun _ _ _ _ _ _ us hl => match us, hl with | [_, _], _ => rfl
  have D_l_rounds : Def0 K mg "_law_rounds" s_l_rounds ["_law_hand_here", "_law_many", "_law_limit"] := def0_mk X G (c.fact 4 (f := .glo "_law_rounds") rfl) (c.def_ 4 (d := d_l_rounds) rfl) fun _ _ _ _ _ _ us hl => match us, hl with | [_, _, _], _ => rfl
  have D_l_steps : Def0 K mg "_law_steps" s_l_steps ["_law_rounds_here", "_law_some", "_law_limit"] := def0_mk X G (c.fact 5 (f := .glo "_law_steps") rfl) (c.def_ 5 (d := d_l_steps) rfl) fun _ _ _ _ _ _ us hl => match us, hl with | [_, _, _], _ => rfl
  obtain ⟨fd, F⟩ := c.def_ 6 (d := d_law) rfl
  have e := hfa.symm.trans (He.glo_ok X G (c.fact 6 (f := .glo "law") rfl))
  cases e
  have b := FunD.bindsA (ps := ["_law_script"]) F fun _ _ _ _ _ _ us hl => match us, hl with | [_], _ => rfl
  refine ⟨fd, fun s v => b s [v] rfl, fun base _ _ => ?_⟩
  obtain ⟨K_passes, C_passes⟩ := D_passes.ok (P := P) (w := w) (base := base) (sp := spPasses K) sc_passes (fun vs H Q E h => by first | (rcases h with ⟨_, _, _, _, rfl, _⟩ | ⟨_, _, _, _, rfl, _⟩ <;> rfl) | (obtain ⟨rfl, _⟩ := h; rfl) | (obtain ⟨_, rfl, _⟩ := h; rfl) | (obtain ⟨_, _, rfl, _⟩ := h; rfl) | (obtain ⟨_, _, _, rfl, _⟩ := h; rfl) | (obtain ⟨_, _, _, _, rfl, _⟩ := h; rfl) | (obtain ⟨_, _, _, _, _, rfl, _⟩ := h; rfl) | (obtain ⟨_, _, _, _, _, _, rfl, _⟩ := h; rfl) | (obtain ⟨_, _, _, _, _, _, _, rfl, _⟩ := h; rfl) | (obtain ⟨_, _, _, _, _, _, _, _, rfl, _⟩ := h; rfl) | (obtain ⟨_, _, _, _, _, _, _, _, _, rfl, _⟩ := h; rfl) | (obtain ⟨_, _, _, _, _, _, _, _, _, _, rfl, _⟩ := h; rfl) | (obtain ⟨_, _, _, _, _, _, _, _, _, _, _, rfl, _⟩ := h; rfl) | (obtain ⟨_, _, _, _, _, _, _, _, _, _, _, _, rfl, _⟩ := h; rfl) | (obtain ⟨_, _, _, _, _, _, _, _, _, _, _, _, _, rfl, _⟩ := h; rfl) | (obtain ⟨_, _, _, _, _, _, _, _, _, _, _, _, _, _, rfl, _⟩ := h; rfl) | (obtain ⟨_, _, _, _, _, _, _, _, _, _, _, _, _, _, _, rfl, _⟩ := h; rfl) | (obtain ⟨_, _, _, _, _, _, _, _, _, _, _, _, _, _, _, _, rfl, _⟩ := h; rfl) | (obtain ⟨_, _, _, _, _, _, _, _, _, _, _, _, _, _, _, _, _, rfl, _⟩ := h; rfl)) (ok_passes T)
  have C_l_hand := D_l_hand.cal (P := P) (w := w) (base := base) (sp := spHand K) sc_l_hand (fun vs H Q E h => by first | (rcases h with ⟨_, _, _, _, rfl, _⟩ | ⟨_, _, _, _, rfl, _⟩ <;> rfl) | (obtain ⟨rfl, _⟩ := h; rfl) | (obtain ⟨_, rfl, _⟩ := h; rfl) | (obtain ⟨_, _, rfl, _⟩ := h; rfl) | (obtain ⟨_, _, _, rfl, _⟩ := h; rfl) | (obtain ⟨_, _, _, _, rfl, _⟩ := h; rfl) | (obtain ⟨_, _, _, _, _, rfl, _⟩ := h; rfl) | (obtain ⟨_, _, _, _, _, _, rfl, _⟩ := h; rfl) | (obtain ⟨_, _, _, _, _, _, _, rfl, _⟩ := h; rfl) | (obtain ⟨_, _, _, _, _, _, _, _, rfl, _⟩ := h; rfl) | (obtain ⟨_, _, _, _, _, _, _, _, _, rfl, _⟩ := h; rfl) | (obtain ⟨_, _, _, _, _, _, _, _, _, _, rfl, _⟩ := h; rfl) | (obtain ⟨_, _, _, _, _, _, _, _, _, _, _, rfl, _⟩ := h; rfl) | (obtain ⟨_, _, _, _, _, _, _, _, _, _, _, _, rfl, _⟩ := h; rfl) | (obtain ⟨_, _, _, _, _, _, _, _, _, _, _, _, _, rfl, _⟩ := h; rfl) | (obtain ⟨_, _, _, _, _, _, _, _, _, _, _, _, _, _, rfl, _⟩ := h; rfl) | (obtain ⟨_, _, _, _, _, _, _, _, _, _, _, _, _, _, _, rfl, _⟩ := h; rfl) | (obtain ⟨_, _, _, _, _, _, _, _, _, _, _, _, _, _, _, _, rfl, _⟩ := h; rfl) | (obtain ⟨_, _, _, _, _, _, _, _, _, _, _, _, _, _, _, _, _, rfl, _⟩ := h; rfl)) (ok_hand T)
  have C_l_take := D_l_take.cal (P := P) (w := w) (base := base) (sp := spTake) sc_l_take (fun vs H Q E h => by first | (rcases h with ⟨_, _, _, _, rfl, _⟩ | ⟨_, _, _, _, rfl, _⟩ <;> rfl) | (obtain ⟨rfl, _⟩ := h; rfl) | (obtain ⟨_, rfl, _⟩ := h; rfl) | (obtain ⟨_, _, rfl, _⟩ := h; rfl) | (obtain ⟨_, _, _, rfl, _⟩ := h; rfl) | (obtain ⟨_, _, _, _, rfl, _⟩ := h; rfl) | (obtain ⟨_, _, _, _, _, rfl, _⟩ := h; rfl) | (obtain ⟨_, _, _, _, _, _, rfl, _⟩ := h; rfl) | (obtain ⟨_, _, _, _, _, _, _, rfl, _⟩ := h; rfl) | (obtain ⟨_, _, _, _, _, _, _, _, rfl, _⟩ := h; rfl) | (obtain ⟨_, _, _, _, _, _, _, _, _, rfl, _⟩ := h; rfl) | (obtain ⟨_, _, _, _, _, _, _, _, _, _, rfl, _⟩ := h; rfl) | (obtain ⟨_, _, _, _, _, _, _, _, _, _, _, rfl, _⟩ := h; rfl) | (obtain ⟨_, _, _, _, _, _, _, _, _, _, _, _, rfl, _⟩ := h; rfl) | (obtain ⟨_, _, _, _, _, _, _, _, _, _, _, _, _, rfl, _⟩ := h; rfl) | (obtain ⟨_, _, _, _, _, _, _, _, _, _, _, _, _, _, rfl, _⟩ := h; rfl) | (obtain ⟨_, _, _, _, _, _, _, _, _, _, _, _, _, _, _, rfl, _⟩ := h; rfl) | (obtain ⟨_, _, _, _, _, _, _, _, _, _, _, _, _, _, _, _, rfl, _⟩ := h; rfl) | (obtain ⟨_, _, _, _, _, _, _, _, _, _, _, _, _, _, _, _, _, rfl, _⟩ := h; rfl)) (ok_take T)
  have C_l_of := D_l_of.cal (P := P) (w := w) (base := base) (sp := spOf K) sc_l_of (fun vs H Q E h => by first | (rcases h with ⟨_, _, _, _, rfl, _⟩ | ⟨_, _, _, _, rfl, _⟩ <;> rfl) | (obtain ⟨rfl, _⟩ := h; rfl) | (obtain ⟨_, rfl, _⟩ := h; rfl) | (obtain ⟨_, _, rfl, _⟩ := h; rfl) | (obtain ⟨_, _, _, rfl, _⟩ := h; rfl) | (obtain ⟨_, _, _, _, rfl, _⟩ := h; rfl) | (obtain ⟨_, _, _, _, _, rfl, _⟩ := h; rfl) | (obtain ⟨_, _, _, _, _, _, rfl, _⟩ := h; rfl) | (obtain ⟨_, _, _, _, _, _, _, rfl, _⟩ := h; rfl) | (obtain ⟨_, _, _, _, _, _, _, _, rfl, _⟩ := h; rfl) | (obtain ⟨_, _, _, _, _, _, _, _, _, rfl, _⟩ := h; rfl) | (obtain ⟨_, _, _, _, _, _, _, _, _, _, rfl, _⟩ := h; rfl) | (obtain ⟨_, _, _, _, _, _, _, _, _, _, _, rfl, _⟩ := h; rfl) | (obtain ⟨_, _, _, _, _, _, _, _, _, _, _, _, rfl, _⟩ := h; rfl) | (obtain ⟨_, _, _, _, _, _, _, _, _, _, _, _, _, rfl, _⟩ := h; rfl) | (obtain ⟨_, _, _, _, _, _, _, _, _, _, _, _, _, _, rfl, _⟩ := h; rfl) | (obtain ⟨_, _, _, _, _, _, _, _, _, _, _, _, _, _, _, rfl, _⟩ := h; rfl) | (obtain ⟨_, _, _, _, _, _, _, _, _, _, _, _, _, _, _, _, rfl, _⟩ := h; rfl) | (obtain ⟨_, _, _, _, _, _, _, _, _, _, _, _, _, _, _, _, _, rfl, _⟩ := h; rfl)) (ok_of T C_l_take)
  have C_l_rounds := D_l_rounds.cal (P := P) (w := w) (base := base) (sp := spRounds K) sc_l_rounds (fun vs H Q E h => by first | (rcases h with ⟨_, _, _, _, rfl, _⟩ | ⟨_, _, _, _, rfl, _⟩ <;> rfl) | (obtain ⟨rfl, _⟩ := h; rfl) | (obtain ⟨_, rfl, _⟩ := h; rfl) | (obtain ⟨_, _, rfl, _⟩ := h; rfl) | (obtain ⟨_, _, _, rfl, _⟩ := h; rfl) | (obtain ⟨_, _, _, _, rfl, _⟩ := h; rfl) | (obtain ⟨_, _, _, _, _, rfl, _⟩ := h; rfl) | (obtain ⟨_, _, _, _, _, _, rfl, _⟩ := h; rfl) | (obtain ⟨_, _, _, _, _, _, _, rfl, _⟩ := h; rfl) | (obtain ⟨_, _, _, _, _, _, _, _, rfl, _⟩ := h; rfl) | (obtain ⟨_, _, _, _, _, _, _, _, _, rfl, _⟩ := h; rfl) | (obtain ⟨_, _, _, _, _, _, _, _, _, _, rfl, _⟩ := h; rfl) | (obtain ⟨_, _, _, _, _, _, _, _, _, _, _, rfl, _⟩ := h; rfl) | (obtain ⟨_, _, _, _, _, _, _, _, _, _, _, _, rfl, _⟩ := h; rfl) | (obtain ⟨_, _, _, _, _, _, _, _, _, _, _, _, _, rfl, _⟩ := h; rfl) | (obtain ⟨_, _, _, _, _, _, _, _, _, _, _, _, _, _, rfl, _⟩ := h; rfl) | (obtain ⟨_, _, _, _, _, _, _, _, _, _, _, _, _, _, _, rfl, _⟩ := h; rfl) | (obtain ⟨_, _, _, _, _, _, _, _, _, _, _, _, _, _, _, _, rfl, _⟩ := h; rfl) | (obtain ⟨_, _, _, _, _, _, _, _, _, _, _, _, _, _, _, _, _, rfl, _⟩ := h; rfl)) (ok_rounds T C_l_take C_l_of)
  have C_l_steps := D_l_steps.cal (P := P) (w := w) (base := base) (sp := spStepsL K) sc_l_steps (fun vs H Q E h => by first | (rcases h with ⟨_, _, _, _, rfl, _⟩ | ⟨_, _, _, _, rfl, _⟩ <;> rfl) | (obtain ⟨rfl, _⟩ := h; rfl) | (obtain ⟨_, rfl, _⟩ := h; rfl) | (obtain ⟨_, _, rfl, _⟩ := h; rfl) | (obtain ⟨_, _, _, rfl, _⟩ := h; rfl) | (obtain ⟨_, _, _, _, rfl, _⟩ := h; rfl) | (obtain ⟨_, _, _, _, _, rfl, _⟩ := h; rfl) | (obtain ⟨_, _, _, _, _, _, rfl, _⟩ := h; rfl) | (obtain ⟨_, _, _, _, _, _, _, rfl, _⟩ := h; rfl) | (obtain ⟨_, _, _, _, _, _, _, _, rfl, _⟩ := h; rfl) | (obtain ⟨_, _, _, _, _, _, _, _, _, rfl, _⟩ := h; rfl) | (obtain ⟨_, _, _, _, _, _, _, _, _, _, rfl, _⟩ := h; rfl) | (obtain ⟨_, _, _, _, _, _, _, _, _, _, _, rfl, _⟩ := h; rfl) | (obtain ⟨_, _, _, _, _, _, _, _, _, _, _, _, rfl, _⟩ := h; rfl) | (obtain ⟨_, _, _, _, _, _, _, _, _, _, _, _, _, rfl, _⟩ := h; rfl) | (obtain ⟨_, _, _, _, _, _, _, _, _, _, _, _, _, _, rfl, _⟩ := h; rfl) | (obtain ⟨_, _, _, _, _, _, _, _, _, _, _, _, _, _, _, rfl, _⟩ := h; rfl) | (obtain ⟨_, _, _, _, _, _, _, _, _, _, _, _, _, _, _, _, rfl, _⟩ := h; rfl) | (obtain ⟨_, _, _, _, _, _, _, _, _, _, _, _, _, _, _, _, _, rfl, _⟩ := h; rfl)) (ok_steps5 T)
  refine fnat_of (CX := CX0) F sc_law (fun vs H Q E h => by first | (rcases h with ⟨_, _, _, _, rfl, _⟩ | ⟨_, _, _, _, rfl, _⟩ <;> rfl) | (obtain ⟨rfl, _⟩ := h; rfl) | (obtain ⟨_, rfl, _⟩ := h; rfl) | (obtain ⟨_, _, rfl, _⟩ := h; rfl) | (obtain ⟨_, _, _, rfl, _⟩ := h; rfl) | (obtain ⟨_, _, _, _, rfl, _⟩ := h; rfl) | (obtain ⟨_, _, _, _, _, rfl, _⟩ := h; rfl) | (obtain ⟨_, _, _, _, _, _, rfl, _⟩ := h; rfl) | (obtain ⟨_, _, _, _, _, _, _, rfl, _⟩ := h; rfl) | (obtain ⟨_, _, _, _, _, _, _, _, rfl, _⟩ := h; rfl) | (obtain ⟨_, _, _, _, _, _, _, _, _, rfl, _⟩ := h; rfl) | (obtain ⟨_, _, _, _, _, _, _, _, _, _, rfl, _⟩ := h; rfl) | (obtain ⟨_, _, _, _, _, _, _, _, _, _, _, rfl, _⟩ := h; rfl) | (obtain ⟨_, _, _, _, _, _, _, _, _, _, _, _, rfl, _⟩ := h; rfl) | (obtain ⟨_, _, _, _, _, _, _, _, _, _, _, _, _, rfl, _⟩ := h; rfl) | (obtain ⟨_, _, _, _, _, _, _, _, _, _, _, _, _, _, rfl, _⟩ := h; rfl) | (obtain ⟨_, _, _, _, _, _, _, _, _, _, _, _, _, _, _, rfl, _⟩ := h; rfl) | (obtain ⟨_, _, _, _, _, _, _, _, _, _, _, _, _, _, _, _, rfl, _⟩ := h; rfl) | (obtain ⟨_, _, _, _, _, _, _, _, _, _, _, _, _, _, _, _, _, rfl, _⟩ := h; rfl)) (fun cdv s H vs Q E hr h => ?_)
  obtain ⟨t, h1, h2⟩ := ok_law (P := P) (w := w) (base := base) T g_STOP C_l_hand C_l_take C_l_of C_l_rounds C_l_steps K_passes C_passes _ cdv s H vs Q E hr h
  exact ⟨t, h1.nox, h2⟩
end Rd
open PySem PySem.W PySem.Calls PyProof.Rows
theorem PySem.Challenge.cw_roundstore_k51_rounds_passed_holds : PySem.Challenge.rw_roundstore_k51_rounds_passed.Holds := by
  w_on; o_law
  refine HandSHeadRun.head_any (r := OpenLaw.row PySem.Challenge.rw_roundstore_k51_rounds_passed) (q := view (OpenLaw.row PySem.Challenge.rw_roundstore_k51_rounds_passed).prog [9]) (H := Rd.hk) (ob := Rd.ob) (M := 2000) (loose := ["STOP", "passes", "_law_hand", "_law_take", "_law_of", "_law_rounds", "_law_steps"]) (d := HandSHeadRun.topDef (OpenLaw.row PySem.Challenge.rw_roundstore_k51_rounds_passed).prog 9) (kwd := []) Rd.ob_eq
    (by kernel_rfl) (fun s => by kernel_rfl) Rd.run (by kernel_rfl) (by kernel_rfl) (by kernel_rfl) (by rfl) (by first | assumption | decide +kernel) (by decide +kernel) ⟨rfl, rfl, rfl, rfl, rfl, by decide +kernel⟩ ?hw ?hc
  case hw => w_witness2
  case hc =>
    refine L2.walk_at (l := PySem.Challenge.rw_roundstore_k51_rounds_passed) (n := 63) (k := 4) (x := "_law_script") rfl (by decide) (by kernel_rfl) ⟨rfl, by decide, by decide⟩ ?F
    intro w mg fa h Y G hmg0
    obtain ⟨K, KX, c⟩ := Y
    have hmg : mg ("law" : PySem.Str) = some (.ref fa) := by
      have e : (HandSHeadRun.topDef (OpenLaw.row PySem.Challenge.rw_roundstore_k51_rounds_passed).prog 9).name = ("law" : PySem.Str) := by kernel_rfl
      rw [← e]
      exact hmg0
    obtain ⟨fd, hb, hF⟩ := Rd.facts (P := (PySem.Challenge.rw_roundstore_k51_rounds_passed).prog) (w := w) KX G hmg c
    exact ⟨K, fd, Rd.spLaw K, KX, hb, fun H a ns hl _ hS => ⟨a, ns, rfl, hS, hl, fun _ => rfl⟩, hF⟩
