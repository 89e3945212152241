import PyProof.Rows.All
import Wide.All
import OpenK.AllK
import Wide.FinOn
import KE.KStateDown
import KE.KDictPairs
import KE.KDictZip
import KE.GoesMore
import KE.GoesEnum
import KE.DataMinMax
import KE.SortData
import HandS.Star
import HandS.ForMost
import HandS.More
import HandS.Conv
import HandS.Flow
import HandS.Style
import HandS.Steps
import HandS.Codes
import HandS.IsInst
import HandS.TupAny
import HandS.NoneIn
import HandS.RaiseMore
import HandS.SortInts
import HandS.SetFor
import HandS.Strs
import HandS.Wide
import HandS.WordsExc
import HandS.Defaults
import HandS.Walk
import HandS.Zip
import HandS.TupMul
import HandS.Head0
import HandS.Head1
import HandS.Head2
import HandS.HeadEnd
import HandS.HeadHook1
import HandS.HeadHook2
import PySem.Challenge.RW_roundstore_k55_rounds_made_greater_and_h
set_option Elab.async false
set_option linter.all false
set_option maxRecDepth 100000
set_option maxHeartbeats 8000000
/-! ### for i, x in enumerate(a tuple) -/
namespace PySem
open Sem (wp)
set_option maxHeartbeats 2000000 in
theorem enumT_makes {v0 : Value} {ob : Obj} {HH : Heap → Prop} (BB : Begins v0 ob HH) : Meets (Builtin.«enumerate.__new__» ⟨[.type "enumerate", v0], []⟩) fun _ R s => HH s.heap ∧
      R (.ok (.ret (.ref (s.heap.push ob).objs.size))) { s with heap := (s.heap.push ob).push { cls := .type "enumerate", data := .fields #[.none, .bool false, .ref s.heap.objs.size, rawInt 0, .none, .none] } } :=
  .of_wp fun prog w A R s hz => by
    obtain ⟨m0, g0, d0, t0, o0⟩ := s
    obtain ⟨hz1, hz2⟩ := hz
    have sub0 := sub_enumerate
    have beg : ∀ {A1 : Around} {E1 : Value → Shared → Prop} {Q1 : Value → Shared → Prop}, Q1 (.ref m0.objs.size) ⟨m0.push ob, g0, d0, t0, o0⟩ → wpAny (model prog w) A1 (pyIter v0) Q1 E1 ⟨m0, g0, d0, t0, o0⟩ := fun q => BB.iter prog w _ _ ⟨m0, g0, d0, t0, o0⟩ _ hz1 q
    wp_walk using beg
    refine wpAny_stack_any fun stk => wpAny_pure ?_
    split
    · rename_i cc _ _ _ _ _
      cases (cc == Value.type "enumerate") <;> (wp_walk using beg) <;> exact ⟨_, rfl, hz2⟩
    · wp_walk using beg
      exact ⟨_, rfl, hz2⟩
theorem enumT_call {prog : Program} {w : World} {A : Around} {E : Value → Shared → Prop} {s : Shared} {v0 : Value} {ob : Obj} {HH : Heap → Prop} {Q : Value → Shared → Prop} (BB : Begins v0 ob HH) (h1 : HH s.heap)
    (go : ∀ m1, IsEnum m1 (s.heap.objs.size + 1) s.heap.objs.size 0 .none → m1.get? s.heap.objs.size = some ob → m1.objs.size = s.heap.objs.size + 2 → (∀ b o, s.heap.get? b = some o → m1.get? b = some o) → Q (.ref (s.heap.objs.size + 1)) { s with heap := m1 }) :
    wpAny (model prog w) A (call (.type "enumerate") [v0]) Q E s := by
  refine callType_new F.called_enumerate (by decide) (F.typeCall_enumerate_1 _) (F.newCall_enumerate_1 _) (fun z => F.args_object_init_2 z _) F.entry_enumerate_new (enumT_makes BB) ⟨h1, ?_⟩
  have sz : (s.heap.push ob).objs.size = s.heap.objs.size + 1 := Heap.size_push ..
  show _ ∧ _
  rw [sz]
  have en : IsEnum ((s.heap.push ob).push { cls := .type "enumerate", data := .fields #[.none, .bool false, .ref s.heap.objs.size, rawInt 0, .none, .none] }) (s.heap.objs.size + 1) s.heap.objs.size 0 .none := by
    have z := Heap.get?_push_size (s.heap.push ob) (o := { cls := .type "enumerate", data := .fields #[.none, .bool false, .ref s.heap.objs.size, rawInt 0, .none, .none] }) rfl
    rw [sz] at z
    exact z
  exact ⟨⟨_, en, rfl⟩, go _ en (Heap.get?_push_of_some _ (Heap.get?_push_size _ BB.free)) (by rw [Heap.size_push, sz]) fun b o x => Heap.get?_push_of_some _ (Heap.get?_push_of_some _ x)⟩
end PySem
namespace L2
open PySem PySem.Spec PyProof.Rows
/-- the tuple at a as it stands at each turn, each item in a new pair -/
def IteT (K : PySem.W.Frag) (a : Addr) : It :=
  ⟨fun i H => ∃ (xs : List V) (x : V), SqT K H a xs ∧ xs[i]? = some x, fun i H v H' => ∃ T x, v = .ref T ∧ H T = none ∧ H' = upd H T (.tup [.int (i : Nat), x]) ∧ ∀ xs, SqT K H a xs → xs[i]? = some x, fun i H => ∃ xs : List V, SqT K H a xs ∧ xs.length ≤ i⟩
theorem turn_enumT {P : Program} {w : World} {K : PySem.W.Frag} {elts : List Expr} {kk : Nat} {tpos : Pos} (a e it : Addr) :
    Turn P w K (.Tuple elts kk tpos) (IteT K a) [e, it] e (fun i h => (∃ old, IsEnum h e it ((i : Nat) : Int) old) ∧ h.IsTupleIter it a i ∧ e ≠ it) where
  mem := by simp
  obj := fun i h st b hb => by
    obtain ⟨⟨old, en⟩, ⟨oi, hoi, _, hdi⟩, _⟩ := st
    rcases (show b = e ∨ b = it by simpa using hb) with z | z
    · rw [z]; exact ⟨_, en, fun v q => nomatch q⟩
    · rw [z]; exact ⟨oi, hoi, fun v q => by rw [hdi] at q; cases q⟩
  keep := fun i h h' st k => let ⟨⟨old, en⟩, ti, hne⟩ := st; ⟨⟨old, k e (by simp) _ en⟩, ti.at fun o q => k it (by simp) o q, hne⟩
  item := by
    intro X hP hw hK hc i pins s σ H E I hf st hg
    subst hP hw hK
    obtain ⟨⟨old, en⟩, ti, hne⟩ := st
    obtain ⟨xs, x, hq, hx⟩ := hg
    obtain ⟨its, rv, tp, hz⟩ := I.tuple hq
    have tp2 : s.heap.IsTuple a its.toArray := tp
    obtain ⟨u, hu, ru⟩ := rv.get hx
    have hel : e < s.heap.objs.size := Heap.lt_size en
    have hil : it < s.heap.objs.size := by obtain ⟨_, q, _⟩ := ti; exact Heap.lt_size q
    have ea : e ≠ a := fun z => by
      obtain ⟨o, q, c, _⟩ := tp
      rw [← z, show s.heap.get? e = _ from en] at q
      cases q
      exact absurd (Value.type.inj (show Value.type "enumerate" = Value.type "tuple" from c)) (by decide)
    have ia : a ≠ it := fun z => by
      obtain ⟨o, q, c, _⟩ := tp
      obtain ⟨o2, q2, c2, _⟩ := ti
      rw [z, q2] at q
      cases q
      rw [c2] at c
      exact absurd c (by decide)
    have hlt : i < its.toArray.size := by
      have z := (List.getElem?_eq_some_iff.mp hu).1
      simpa using z
    have DD : Draws X.prog X.w X.A.in1 it [it, a] its.toArray.size (fun j v => its.toArray[j]? = some v) (fun j h => h.IsTupleIter it a j ∧ h.IsTuple a its.toArray) := Draws.tuple (show X.A.in1.handled = none from I.ok.hd hc) it a ia its.toArray
    refine wpAny_pyNext_enum_itemD DD en ⟨ti, tp2⟩ hlt hne (by simp [hne, ea]) fun y m1 tk py ho st1 hT hsz hk => ?_
    have ey : y = u := by
      have z1 : its.toArray[i]? = some u := by simpa using hu
      have z2 : its.toArray[i]? = some y := py
      rw [z1] at z2
      exact (Option.some.inj z2).symm
    subst ey
    refine ⟨_, rfl, wpAny_letOwnedTupleGo_enum (s := { s with heap := m1, toks := tk + 1 }) ho fun m2 en2 sb => ?_⟩
    have hT2 : m2.get? s.heap.objs.size = some { cls := .type "tuple", data := .seq #[.int i tk, y] } := (sb.2 _ (Nat.ne_of_gt hel)).trans hT
    have new : ObjOk X.prog X.w (upd H s.heap.objs.size (.tup [.int (i : Nat), x])) m2 s.heap.objs.size (.tup [.int (i : Nat), x]) :=
      ⟨by show 2 ≤ sizeLine; decide, [.int i tk, y], .cons ⟨_, rfl⟩ (.cons ru .nil), ⟨_, hT2, rfl, _, rfl⟩⟩
    have I1 : Inv X pins σ (upd H s.heap.objs.size (.tup [.int (i : Nat), x])) { s with heap := m2, toks := tk + 1 } :=
      I.turnedNew (ch := [e, it]) (fun b ob hb q => (sb.2 b (fun z => hb (by simp [z]))).trans (hk b ob (fun z => hb (by simp [z])) (fun z => hb (by simp [z])) q)) hf (Nat.le_refl _) new
    refine ⟨.ref s.heap.objs.size, _, I1, rfl, ⟨_, x, rfl, I.hok.fresh (Nat.le_refl _), rfl, fun ys hy => by rw [I.tuple_inj hy hq]; exact hx⟩, ⟨⟨y, ?_⟩, st1.1.at fun o q => (sb.2 it (Ne.symm hne)).trans q, hne⟩, fun b hb => ?_⟩
    · rw [show ((i + 1 : Nat) : Int) = (i : Int) + 1 by omega]
      exact en2
    · have hb' : b < s.heap.objs.size := by
        rcases (show b = e ∨ b = it by simpa using hb) with z | z
        · exact z ▸ hel
        · exact z ▸ hil
      rw [upd_ne (Nat.ne_of_lt hb')]
      exact (hf b hb).1
  done := by
    intro X hP hw hK hc i pins s σ H E I hf st hg
    subst hP hw hK
    obtain ⟨⟨old, en⟩, ti, hne⟩ := st
    obtain ⟨xs, hq, hx⟩ := hg
    obtain ⟨its, rv, tp, hz⟩ := I.tuple hq
    obtain ⟨f0, f1, f2, f3, f4, f5⟩ := hf it (by simp)
    have hl := rv.length
    have DD : Draws X.prog X.w X.A.in1 it [it, a] 0 (fun _ _ => True) (fun j h => h.IsTupleIter it a (i + j) ∧ h.IsTuple a its.toArray) :=
      ⟨fun _ _ st => let ⟨o, ho, _⟩ := st.1; ⟨o, ho⟩, fun _ _ _ st hk => ⟨st.1.at fun o q => hk it (by simp) o q, st.2.at fun o q => hk a (by simp) o q⟩, fun j _ _ _ hj => absurd hj (Nat.not_lt_zero _), fun s1 Q1 E1 st1 hE1 => wpAny_nextOf_tuple_end (show X.A.in1.handled = none from I.ok.hd hc) st1.1 st1.2 (by simp; omega) hE1⟩
    exact wpAny_pyNext_enum_endD DD en ⟨ti, tp⟩ fun m1 eb => ⟨rfl, I.turned (t' := s.toks) (fun b o hb q => eb b o hb q) f0 f1 f3 f4 f5⟩
  self := fun A i s Q E st h => let ⟨⟨_, en⟩, _⟩ := st; wpAny_pyIter_enum en h
def iEnumT (K : PySem.W.Frag) (ta : TA) : TI := fun σ H R => ta σ H fun vs H1 => ∃ a xs, vs = [.ref a] ∧ SqT K H1 a xs ∧ R (IteT K a) H1
theorem pi_enumT {X : Cx} {e : Expr} {ta : TA} {p pos tpos : Pos} {elts : List Expr} {kk : Nat} (hg : Gl X "enumerate") (hm : X.mg "enumerate" = none) (ha : PA X [e] ta) (hs : starEach [e] X.env = [(false, eval e X.env)] := by rfl) : PI X (.Tuple elts kk tpos) (.Call (.Name "enumerate" p) [e] [] pos) (iEnumT X.K ta) := by
  refine ⟨fun pins s σ H R I h => ?_⟩
  refine Call_ (ld_blt I hg hm boot_enumerate (PyProof.Rows.callWith_type1 (thn (ha.run pos pins s σ H _ I h) fun us s1 ⟨vs, H1, I1, r1, q1⟩ => ?_) hs rfl))
  obtain ⟨a, xs, ex, hq, q⟩ := q1
  subst ex
  obtain ⟨u, rfl, rv1⟩ := vals1 r1
  cases rv1
  obtain ⟨its, rv, tp, hz⟩ := I1.tuple hq
  refine enumT_call (begins_tuple a its.toArray) tp fun m1 en hit hsz hk => wpAny_pyIter_enum en ?_
  have I2 : Inv X pins σ H1 { s1 with heap := m1 } := I1.kept (t' := s1.toks) hk
  refine ⟨s1.heap.objs.size + 1, [s1.heap.objs.size + 1, s1.heap.objs.size], _, _, H1, rfl, I2, turn_enumT a (s1.heap.objs.size + 1) s1.heap.objs.size, ⟨⟨.none, en⟩, ⟨_, hit, rfl, rfl⟩, Nat.succ_ne_self _⟩, fun b hb => ?_, q⟩
  have hle : s1.heap.objs.size ≤ b := by
    rcases (show b = s1.heap.objs.size + 1 ∨ b = s1.heap.objs.size by simpa using hb) with z | z
    · rw [z]; exact Nat.le_add_right _ _
    · rw [z]; exact Nat.le_refl _
  exact I1.fpOk hle (I1.hok.fresh hle)
theorem walk_enumT {K : PySem.W.Frag} {a : Addr} {xs : List V} : Walk (IteT K a) xs.length (fun H => SqT K H a xs) (YPair (fun i => some (.int (i : Nat))) (fun i => xs[i]?)) := by
  refine ⟨fun i _ hi q => ⟨xs, xs[i], q, by simp [hi]⟩, fun _ q => ⟨xs, q, Nat.le_refl _⟩, fun i H v H' _ q y => ?_⟩
  obtain ⟨T, x, h1, h2, h3, h4⟩ := y
  exact ⟨T, .int (i : Nat), x, h1, h2, h3, rfl, h4 xs q⟩
end L2
/-! ### max of a list of pairs of whole numbers -/
namespace MaxP
open PySem PySem.Spec PyProof.Rows L2
def prD (r : Int × Int) : PyData := .tuple [.int r.1, .int r.2]
/-- the one stands before the other -/
def lexB (a b : Int × Int) : Bool := decide (a.1 < b.1 ∨ (a.1 = b.1 ∧ a.2 < b.2))
def best (x : Int × Int) (rs : List (Int × Int)) : Int × Int := rs.foldl (fun a y => if lexB a y then y else a) x
theorem maxD_pairs : ∀ (rs : List (Int × Int)) (x : Int × Int), PySem.W.maxD (prD x) (rs.map prD) = prD (best x rs)
  | [], _ => rfl
  | r :: rs, x => by
    have e : (if PySem.W.dataLt (prD x) (prD r) = true then prD r else prD x) = prD (if lexB x r then r else x) := by
      unfold prD lexB
      rw [PySem.W.dataLt_ii]
      split <;> rfl
    have ih := maxD_pairs rs (if lexB x r then r else x)
    unfold PySem.W.maxD at ih ⊢
    unfold best at ih ⊢
    rw [List.map_cons, List.foldl_cons, List.foldl_cons, e]
    exact ih
theorem best_le : ∀ (rs : List (Int × Int)) (x : Int × Int), lexB (best x rs) x = false ∧ ∀ y ∈ rs, lexB (best x rs) y = false
  | [], x => ⟨by unfold best lexB; simp, fun y hy => by cases hy⟩
  | r :: rs, x => by
    have e : best x (r :: rs) = best (if lexB x r then r else x) rs := rfl
    obtain ⟨h1, h2⟩ := best_le rs (if lexB x r then r else x)
    rw [e]
    generalize best (if lexB x r then r else x) rs = m at h1 h2 ⊢
    unfold lexB at h1 ⊢
    refine ⟨?_, fun y hy => ?_⟩
    · by_cases c : (x.1 < r.1 ∨ (x.1 = r.1 ∧ x.2 < r.2))
      · rw [decide_eq_true c, if_pos rfl] at h1
        have z := of_decide_eq_false h1
        exact decide_eq_false (by omega)
      · rw [decide_eq_false c] at h1
        exact h1
    · rcases List.mem_cons.mp hy with rfl | hy
      · by_cases c : (x.1 < y.1 ∨ (x.1 = y.1 ∧ x.2 < y.2))
        · rw [decide_eq_true c, if_pos rfl] at h1
          exact h1
        · rw [decide_eq_false c, if_neg Bool.false_ne_true] at h1
          have z := of_decide_eq_false h1
          exact decide_eq_false (by omega)
      · exact h2 y hy
theorem best_mem : ∀ (rs : List (Int × Int)) (x : Int × Int), best x rs ∈ x :: rs
  | [], _ => List.mem_cons_self ..
  | r :: rs, x => by
    have e : best x (r :: rs) = best (if lexB x r then r else x) rs := rfl
    rw [e]
    have h := best_mem rs (if lexB x r then r else x)
    rcases List.mem_cons.mp h with z | z
    · rw [z]
      split
      · exact List.mem_cons_of_mem _ (List.mem_cons_self ..)
      · exact List.mem_cons_self ..
    · exact List.mem_cons_of_mem _ (List.mem_cons_of_mem _ z)
/-- the greatest of pairs: its first number is the greatest, its second of these -/
def rMaxP (K : PySem.W.Frag) : List V → Hp → VK → Prop := fun vs H Q => ∃ (a : Addr) (us : List V) (rs : List (Int × Int)), vs = [V.ref a] ∧ SqL K H a us ∧ DpAll K H us (rs.map prD) ∧ 0 < rs.length ∧
  ∀ (b : Addr) (m : Int × Int), V.ref b ∈ us → m ∈ rs → (∀ y ∈ rs, lexB m y = false) → SqT K H b [.int m.1, .int m.2] → Q (.ref b) H
theorem readsAll_get {h : Heap} : ∀ {us : List Value} {ds : List PyData} {as : List Addr}, ReadsAll h us ds as → ∀ (i : Nat) (u : Value), us[i]? = some u → ∃ d bs, ds[i]? = some d ∧ Reads h u d bs
  | _, _, _, .nil, i, u, e => by simp at e
  | _, _, _, .cons (d := d) r rs, 0, u, e => by
    cases e
    exact ⟨d, _, rfl, r⟩
  | _, _, _, .cons r rs, i + 1, u, e => by
    obtain ⟨d, bs, h1, h2⟩ := readsAll_get rs i u e
    exact ⟨d, bs, h1, h2⟩
theorem dpAll_get {K : PySem.W.Frag} {H : Hp} : ∀ {us : List V} {ds : List PyData}, DpAll K H us ds → ∀ (i : Nat) (u : V), us[i]? = some u → ∃ d, ds[i]? = some d ∧ Dp K H u d
  | _, _, .nil, i, u, e => by simp at e
  | _, _, .cons (d := d) r rs, 0, u, e => by
    cases e
    exact ⟨d, rfl, r⟩
  | _, _, .cons r rs, i + 1, u, e => dpAll_get rs i u e
theorem vals_at {us : List V} {vs : List Value} (r : Vals us vs) (i : Nat) (v : Value) (e : vs[i]? = some v) : ∃ u, us[i]? = some u ∧ RelV u v := by
  induction r generalizing i with
  | nil => simp at e
  | cons h t ih =>
    cases i with
    | zero =>
      cases e
      exact ⟨_, rfl, h⟩
    | succ i => exact ih i e
theorem cr_maxP {X : Cx} (hc : X.calm = true) (hu : X.A.units + 64 < cLine) : CallR X (.builtin "max") (rMaxP X.K) := by
  intro pins s σ H vs us Q I r h
  obtain ⟨a, ws, rs, rfl, hs, hd, hne, q⟩ := h
  obtain ⟨its, rv, hl, _⟩ := I.list hs
  rw [Vals.ref1 r]
  obtain ⟨as, hr⟩ := Dp.readsAll I _ _ _ hd rv
  cases rs with
  | nil => cases hne
  | cons x rs =>
    have al : PySem.W.AlikeAll (prD x :: rs.map prD) := by
      refine ⟨fun y hy z hz => ?_, fun y hy => ?_⟩
      · obtain ⟨y', _, rfl⟩ := List.mem_map.mp (show y ∈ (x :: rs).map prD from hy)
        obtain ⟨z', _, rfl⟩ := List.mem_map.mp (show z ∈ (x :: rs).map prD from hz)
        rfl
      · obtain ⟨y', _, rfl⟩ := List.mem_map.mp (show y ∈ (x :: rs).map prD from hy)
        intro e
        cases e
    have dp : PyData.depthAll (prD x :: rs.map prD) ≤ 1 := by
      have z : ∀ l : List (Int × Int), PyData.depthAll (l.map prD) ≤ 1 := fun l => by
        induction l with
        | nil => exact Nat.zero_le _
        | cons y l ih =>
          have e : (prD y).depth = 1 := rfl
          rw [List.map_cons]
          simp only [PyData.depthAll]
          omega
      exact z (x :: rs)
    have hr2 : ReadsAll s.heap its.toArray.toList (prD x :: rs.map prD) as := by simpa using hr
    refine PySem.W.max_list_data (I.ok.hd hc) hl.isList hr2 al (by omega) fun i v h' tk bs hv hrd hk => ?_
    have hv2 : its[i]? = some v := by simpa using hv
    obtain ⟨u, hu1, hu2⟩ := vals_at rv i v hv2
    obtain ⟨d, hd1, hd2⟩ := dpAll_get hd i u hu1
    have hx : i < (x :: rs).length := by
      have z := (List.getElem?_eq_some_iff.mp hd1).1
      rw [List.length_map] at z
      exact z
    have ed : d = prD (x :: rs)[i] := by
      rw [List.getElem?_map, List.getElem?_eq_getElem hx] at hd1
      exact (Option.some.inj hd1).symm
    subst ed
    obtain ⟨cs, hrd2⟩ := Dp.reads I _ _ _ hd2 hu2
    have un := (Reads.unique (Reads.keeps hk hrd2) _ _ hrd).1
    rw [maxD_pairs] at un
    have em : (x :: rs)[i] = best x rs := by
      have z : PyData.tuple [.int (x :: rs)[i].1, .int (x :: rs)[i].2] = .tuple [.int (best x rs).1, .int (best x rs).2] := un
      injection z with z
      injection z with z1 z2
      injection z1 with z1
      injection z2 with z2 z3
      injection z2 with z2
      exact Prod.ext z1 z2
    cases hd2 with
    | tup hT hA =>
      cases hu2
      rename_i b xs'
      have ex : xs' = [.int (x :: rs)[i].1, .int (x :: rs)[i].2] := by
        cases hA with
        | cons p1 p2 =>
          cases p1
          cases p2 with
          | cons p3 p4 =>
            cases p3
            cases p4
            rfl
      subst ex
      refine ⟨.ref b, H, I.kept (t' := tk) hk, rfl, q b (x :: rs)[i] (List.mem_of_getElem? hu1) (List.getElem_mem hx) (fun y hy => ?_) hT⟩
      rw [em]
      obtain ⟨b1, b2⟩ := best_le rs x
      rcases List.mem_cons.mp hy with rfl | hy
      · exact b1
      · exact b2 y hy
end MaxP
/-! ### rules within a comprehension -/
namespace L2
open PySem PySem.Spec PyProof.Rows
section
variable {X : Cx} {K1 : PySem.W.Frag}
theorem op_catAK (h : X.K = K1) : OpR X (binaryOp .Add) (rCatA K1) := by
  subst h
  exact op_catA
def rLenS (K : PySem.W.Frag) : List V → Hp → VK → Prop := fun xs H Q => ∃ p ys, xs = [.ref p] ∧ (SqL K H p ys ∨ SqT K H p ys) ∧ Q (.int ys.length) H
theorem call_len_seqK (h : X.K = K1) : CallR X (.builtin "len") (rLenS K1) := by
  subst h
  exact call_len_seq
end
end L2
/-! ### repr of data, whatever it is -/
namespace L2
open PySem PySem.Spec PyProof.Rows
section
variable {X : Cx} {K1 : PySem.W.Frag}
def rReprA (K : PySem.W.Frag) : List V → Hp → VK → Prop := fun xs H Q => ∃ (v : V) (d : PyData), xs = [v] ∧ Dp K H v d ∧ d.showable = true ∧ d.hasDict = false ∧ d.depth ≤ 60 ∧ d.shown.length ≤ sizeLine ∧ Q (.str d.shown) H
theorem call_reprK (hK : X.K = K1) (hg : X.A.guards = some []) (hu : X.A.units + 64 < cLine) : CallR X (.builtin "repr") (rReprA K1) := by
  subst hK
  intro pins s σ H xs us Q I r h
  obtain ⟨v, d, rfl, hd, hs, hnd, hdp, hsz, q⟩ := h
  obtain ⟨u, rfl, rv⟩ := vals1 r
  cases hd with
  | non =>
    cases rv
    exact PySem.P.repr_of_none ⟨.str _, H, I.tok _, ⟨_, rfl⟩, q⟩
  | bl b =>
    cases rv
    exact PySem.P.repr_of_bool ⟨.str _, H, I.tok _, ⟨_, rfl⟩, q⟩
  | int i =>
    obtain ⟨t, rfl⟩ := rv
    exact PySem.P.repr_of_int (of_decide_eq_true hs) ⟨.str _, H, I.tok _, ⟨_, rfl⟩, q⟩
  | str x =>
    obtain ⟨t, rfl⟩ := rv
    exact PySem.P.repr_of_str ⟨.str _, H, I.tok _, ⟨_, rfl⟩, q⟩ hsz
  | lst a1 a2 =>
    cases rv
    obtain ⟨as, hr⟩ := Dp.reads I _ _ _ (.lst a1 a2) rfl
    exact repr_of_reads' hr hs (PyData.noDict_hsm hnd) hg (by omega) (fun _ _ e => e) (fun h' u tk hk => ⟨.str _, H, I.kept (t' := tk) hk, ⟨u, rfl⟩, q⟩) hsz
  | tup a1 a2 =>
    cases rv
    obtain ⟨as, hr⟩ := Dp.reads I _ _ _ (.tup a1 a2) rfl
    exact repr_of_reads' hr hs (PyData.noDict_hsm hnd) hg (by omega) (fun _ _ e => e) (fun h' u tk hk => ⟨.str _, H, I.kept (t' := tk) hk, ⟨u, rfl⟩, q⟩) hsz
theorem ix_listK (hK : X.K = K1) : IxR X (rIxL K1) := by
  subst hK
  exact ix_list
theorem ix_tupK (hK : X.K = K1) : IxR X (rIxT K1) := by
  subst hK
  exact ix_tup
theorem op_in_seqK (hK : X.K = K1) : OpR X (compareOp .In) (rIn K1 false) := by
  subst hK
  exact op_in_seq
end
end L2
/-! ### the law's own call, what runs around it told: nothing is being shown -/
namespace L2
open PySem PySem.Spec PyProof.Rows
/-- the promise of the def at f, called where A runs around -/
def FnAt (A : Around) (P : Program) (w : World) (K : PySem.W.Frag) (mg : Str → Option Value) (base : Heap) (CX : CXT) (k : Nat) (f : Addr) (fd : FuncData) (ps : List Str) (sp : Sp) : Prop :=
  ∀ (s : Shared) (H : Hp) (args : Args) (us : List Value) (vs : List V) (Q : VK) (E : XK), Room k A → Env0 P w K mg base A [] s H → BindsTo s fd args (ps.zip us) → Vals vs us → sp vs H Q E → codeAny (model P w) A (.call (.ref f) args) (CR CX [] P w H s Q E) s
theorem fnat_of {A : Around} {CX : CXT} {P : Program} {w : World} {K : PySem.W.Frag} {mg : Str → Option Value} {base : Heap} {k : Nat} {f : Addr} {fd : FuncData} {x qual : Str} {params : Arguments} {body : List Stmt} {scope : Scope} {N ps : List Str} {sp : Sp} {dvs : List V} {kws : List (Str × V)}
    (F : FunD K x qual params body scope dvs kws f fd) (S : FnScope N ps scope) (len : ∀ vs H Q E, sp vs H Q E → vs.length = ps.length)
    (hb : ∀ (cdv : Value) (s : Shared) (H : Hp) (vs : List V) (Q : VK) (E : XK), Room k (A.deeper (envOfC qual scope s.heap.objs.size f cdv)) → sp vs H Q E → ∃ t, PSs (cxOf CX P w K mg base N qual scope f cdv A [] s H E) body t ∧ t { nx := fun _ H' => Q .non H', rt := Q } (start N vs) H) :
    FnAt A P w K mg base CX (k + 1) f fd ps sp := by
  obtain ⟨oc, od, dV, kV, doc, pm, an, cdv, ct, osl, rfl, lk, hcd, _, _⟩ := F.ex
  intro s H args us vs Q E hr e0 bt r hsp
  have lv := len _ _ _ _ hsp
  have inK : K.In s.heap := e0.mod.kin.keeps fun b o e => (e0.bs b o e).1
  have nolim : s.heap.NoLimit := e0.mod.nolimit.keeps fun b o e => (e0.bs b o e).1
  have kinds : ∀ y ∈ ps.zip us, scope.names.lookup y.1 = some .local ∨ (scope.names.lookup y.1 = some .cell ∧ ((cellsFrom (s.heap.objs.size + 1) scope.names []).lookup y.1).isSome = true) := fun ⟨n, v⟩ hy =>
    (S.par n (List.of_mem_zip hy).1).elim .inl fun q => .inr ⟨q, PySem.W.cellsFrom_some _ _ _ (.inl q)⟩
  refine codeAny_call_function hr.depth (inK _ _ lk) rfl S.co S.gen rfl (PySem.W.codeRec_of inK hcd) (bt _ _ _ _ (wpAny_newFunctionEnv_cells S.kind kinds fun env he s1 x => ?_))
  subst he
  obtain ⟨t, ht, hq⟩ := hb cdv s H vs Q E (hr.deeper _) hsp
  have I : Inv (cxOf CX P w K mg base N qual scope f cdv A [] s H E) [] (start N vs) H s1 := inv_start S hr.hd e0 lv r x
  refine ⟨nolim.keeps x.toInCall.keep, codeAny_func (wpAny_mono (ht.run [] s1 (start N vs) H _ I hq) (fun fl s' hs => ?_) fun e s' hs => hs)⟩
  match fl, hs with
  | .ret u, ⟨v, σ', H', J, rv, q⟩ => exact ⟨v, H', J.os, J.bare, J.base, J.hok, rv, q⟩
  | .next, ⟨σ', H', J, q⟩ => exact ⟨V.non, H', J.os, J.bare, J.base, J.hok, rfl, q⟩
  | .brk, ⟨_, _, _, q⟩ => exact False.elim q
  | .cont, ⟨_, _, _, q⟩ => exact False.elim q
theorem law_at {P : Program} {w : World} {K : PySem.W.Frag} {mg mb : Str → Option Value} {k : Nat} {fa a : Addr} {fd : FuncData} {x : Str} {sp : Sp} {s1 : Shared} {vs : List Value} {ns : List Int} (KX : K.In s1.heap) (hns : s1.heap.Ns mainGlobals mg) (hb : s1.heap.Ns builtinsNs mb) (hbb : ∀ x : Str, x ≠ "__name__" → mb x = bootBuiltins x)
    (hlim : s1.heap.NoLimit) (hg : s1.gens = #[]) (ha : s1.heap.get? a = some { cls := .type "list", data := .seq vs.toArray }) (hi : IntsAre vs ns) (hl : ns.length ≤ sizeLine) (hr : Room k callerA)
    (F : ∀ base : Heap, K.In base → base.Ns mainGlobals mg → FnAt callerA P w K mg base CX0 k fa fd [x] sp) (hbind : ∀ (s : Shared) (u : Value), BindsTo s fd ⟨[u], []⟩ [(x, u)]) (hsp : ∀ H : Hp, Only H → SqL K H a (ns.map V.int) → sp [.ref a] H (fun v _ => v = .bl true) fun _ _ _ => False) :
    codeAny (model P w) callerA (.call (.ref fa) ⟨[.ref a], []⟩) (fun r s' => r = .ok (.ret (.bool true)) ∧ OldK s1.heap s'.heap ∧ s'.os = s1.os ∧ AllBare s'.gens) s1 := by
  have rv := vals_ints hi
  have core : ∀ H : Hp, Only H → SqL K H a (ns.map V.int) → HOk P w H s1.heap → (∀ b, H b ≠ none → b = a) → (H a ≠ none → K.lookup a = none) → codeAny (model P w) callerA (.call (.ref fa) ⟨[.ref a], []⟩) (fun r s' => r = .ok (.ret (.bool true)) ∧ OldK s1.heap s'.heap ∧ s'.os = s1.os ∧ AllBare s'.gens) s1 := by
    intro H only hS hok alone out
    have stays : ∀ {b : Addr} {o : Obj}, s1.heap.get? b = some o → H b = none → (hidT s1.heap H).get? b = some o := fun e n => hidT_get e n
    have free : ∀ {b : Addr} {o : Obj} {es : Array DictEntry} {ep : Nat}, s1.heap.get? b = some o → o.data = .dict es ep → H b = none := fun {b o es ep} e dd => by
      cases q : H b with
      | none => rfl
      | some u =>
        have eb : b = a := alone b fun z => by rw [q] at z; cases z
        subst eb
        rw [ha] at e
        cases e
        cases (show Data.seq vs.toArray _ = Data.dict es ep from dd)
    have names : ∀ {b : Addr} {m : Str → Option Value}, s1.heap.Ns b m → (hidT s1.heap H).Ns b m := fun {b m} ⟨o, es, ep, e, dd, r⟩ => ⟨o, es, ep, stays e (free e dd), dd, r⟩
    have inB : K.In (hidT s1.heap H) := fun b o e => stays (KX b o e) (by
      cases q : H b with
      | none => rfl
      | some u =>
        have eb : b = a := alone b fun z => by rw [q] at z; cases z
        subst eb
        rw [out fun z => by rw [q] at z; cases z] at e
        cases e)
    have modB : Mod K mg (hidT s1.heap H) := ⟨inB, names hns, ⟨mb, names hb, hbb⟩, let ⟨mc, h1, h2⟩ := hlim; ⟨mc, names h1, h2⟩⟩
    have env : Env0 P w K mg (hidT s1.heap H) callerA [] s1 H := ⟨rfl, modB, fun b o e => of_hidT e, Nat.le_of_eq (hidT_size _ _), trivial, fun b z => (nomatch (show b ∈ ([] : List Addr) from z)), hok, .of_eq hg⟩
    refine codeAny_mono (F _ inB (names hns) s1 H ⟨[.ref a], []⟩ [.ref a] [.ref a] _ _ hr env (hbind s1 (.ref a)) (.cons rfl .nil) (hsp H only hS)) fun r s' h => ?_
    match r, h with
    | .error e, h => exact (show False from h).elim
    | .ok .next, h => exact (show False from h).elim
    | .ok .brk, h => exact (show False from h).elim
    | .ok .cont, h => exact (show False from h).elim
    | .ok (.ret u), ⟨v, H', os, bare, un, hok', r', q⟩ =>
      have q' : v = .bl true := q
      subst q'
      obtain rfl : u = Value.bool true := r'
      refine ⟨rfl, OldK.of_keep fun b o e => ?_, os, bare⟩
      cases q : H b with
      | none => exact un.keep b o e q (fun z => nomatch (show b ∈ ([] : List Addr) from z)) (by simp)
      | some u =>
        rcases only b with z | ⟨ob, xs, z⟩
        · rw [q] at z; cases z
        · obtain ⟨e1, _⟩ := hok b _ z; obtain ⟨e2, _⟩ := hok' b _ (un.frzs b ob _ z)
          rw [e] at e1; cases e1; exact e2
  cases hk : K.lookup a with
  | some o =>
    have e := KX a o hk; rw [ha] at e; cases e
    exact core (fun _ => none) (fun _ => .inl rfl) (.inr ⟨_, vs.toArray, _, hk, rfl, rfl, rfl, by rw [List.size_toArray, hi.length]; exact hl, by simpa using rv⟩) (fun b u z => (nomatch (show (none : Option HO) = some u from z))) (fun b z => absurd rfl z) fun z => absurd rfl z
  | none =>
    refine core (fun b => if b = a then some (.frz { cls := .type "list", data := .seq vs.toArray } (.lst (ns.map V.int))) else none) (fun b => ?_) (.inl (.inr ⟨_, if_pos rfl⟩)) (fun b u z => ?_) (fun b z => Decidable.byContradiction fun hb => z (if_neg hb)) fun _ => hk
    · by_cases eb : b = a
      · exact .inr ⟨_, _, if_pos eb⟩
      · exact .inl (if_neg eb)
    · by_cases eb : b = a
      · cases (if_pos eb).symm.trans z
        subst eb
        exact ⟨ha, by rw [List.length_map]; exact hl, vs, _, rv, ha⟩
      · cases (if_neg eb).symm.trans z
theorem walk_at {l : PySem.W.OpenLaw} {n k : Nat} {q : Program} {loose : List Str} {XP : (Str → Option Value) → Heap → Prop} {YP : World → Heap → Prop} {d : DefRec} {x : Str} (hn : l.most = some n) (hn2 : n ≤ sizeLine) (hdf : d.params.defaults = []) (hr : Room k callerA)
    (F : ∀ (w : World) (mg : Str → Option Value) (fa : Addr) (h : Heap), YP w h → h.Ns mainGlobals mg → mg d.name = some (.ref fa) → ∃ (K : PySem.W.Frag) (fd : FuncData) (sp : Sp), K.In h ∧ (∀ (s : Shared) (u : Value), BindsTo s fd ⟨[u], []⟩ [(x, u)]) ∧
        (∀ (H : Hp) (a : Addr) (ns : List Int), ns.length ≤ n → Only H → SqL K H a (ns.map V.int) → sp [.ref a] H (fun v _ => v = .bl true) fun _ _ _ => False) ∧ ∀ base : Heap, K.In base → base.Ns mainGlobals mg → FnAt callerA l.prog w K mg base CX0 k fa fd [x] sp) :
    PySem.W.WalkO q loose XP YP l.row.toRowW d [] (fun f vs => PySem.call f vs) := by
  refine Att.attach_call hn hdf fun w s₀ s1 mg mb fa o pm cd doc a vs ns G Y ho hd hcd hmg hobj hints hlen hg => ?_
  obtain ⟨K, fd, sp, KX, hb, hsp, hF⟩ := F w mg fa _ Y G.T.g hmg
  exact law_at KX G.T.g G.T.b G.T.builtins G.T.nolimit hg hobj hints (Nat.le_trans hlen hn2) hr hF hb fun H hO hS => hsp H a ns hlen hO hS
/-- repr of data, where nothing is being shown -/
def rRepr (K : PySem.W.Frag) : List V → Hp → VK → Prop := fun xs H Q => ∃ (a : Addr) (d : PyData), xs = [.ref a] ∧ Dp K H (.ref a) d ∧ d.showable = true ∧ d.hasDict = false ∧ d.depth ≤ 60 ∧ d.shown.length ≤ sizeLine ∧ Q (.str d.shown) H
theorem call_repr {X : Cx} (hg : X.A.guards = some []) (hu : X.A.units + 64 < cLine) : CallR X (.builtin "repr") (rRepr X.K) := by
  intro pins s σ H xs us Q I r h
  obtain ⟨a, d, rfl, hd, hs, hnd, hdp, hsz, q⟩ := h
  rw [Vals.ref1 r]
  obtain ⟨as, hr⟩ := Dp.reads I d (.ref a) (.ref a) hd rfl
  exact repr_of_reads' hr hs (PyData.noDict_hsm hnd) hg (by omega) (fun _ _ e => e) (fun h' u tk hk => ⟨.str d.shown, H, I.kept (t' := tk) hk, ⟨u, rfl⟩, q⟩) hsz
end L2
/-! ### defs that are called where nothing is being shown -/
namespace L2
open PySem PySem.Spec PyProof.Rows
structure FnG (P : Program) (w : World) (K : PySem.W.Frag) (mg : Str → Option Value) (base : Heap) (k : Nat) (f : Addr) (fd : FuncData) (ps : List Str) (sp : Sp) : Prop where
  len : ∀ vs H Q E, sp vs H Q E → vs.length = ps.length
  go : ∀ (A : Around) (outer : List Env) (s : Shared) (H : Hp) (args : Args) (us : List Value) (vs : List V) (Q : VK) (E : XK), A.guards = some [] → Room k A → Env0 P w K mg base A outer s H → BindsTo s fd args (ps.zip us) → Vals vs us → sp vs H Q E → codeAny (model P w) A (.call (.ref f) args) (CR CX0 outer P w H s Q E) s
theorem fng_of {P : Program} {w : World} {K : PySem.W.Frag} {mg : Str → Option Value} {base : Heap} {k : Nat} {f : Addr} {fd : FuncData} {x qual : Str} {params : Arguments} {body : List Stmt} {scope : Scope} {N ps : List Str} {sp : Sp} {dvs : List V} {kws : List (Str × V)}
    (F : FunD K x qual params body scope dvs kws f fd) (S : FnScope N ps scope) (len : ∀ vs H Q E, sp vs H Q E → vs.length = ps.length)
    (hb : ∀ (cdv : Value) (A : Around) (outer : List Env) (s : Shared) (H : Hp) (vs : List V) (Q : VK) (E : XK), A.guards = some [] → Room k (A.deeper (envOfC qual scope s.heap.objs.size f cdv)) → sp vs H Q E → ∃ t, PSs (cxOf CX0 P w K mg base N qual scope f cdv A outer s H E) body t ∧ t { nx := fun _ H' => Q .non H', rt := Q } (start N vs) H) :
    FnG P w K mg base (k + 1) f fd ps sp := by
  obtain ⟨oc, od, dV, kV, doc, pm, an, cdv, ct, osl, rfl, lk, hcd, _, _⟩ := F.ex
  refine ⟨len, ?_⟩
  intro A outer s H args us vs Q E hgd hr e0 bt r hsp
  have lv := len _ _ _ _ hsp
  have inK : K.In s.heap := e0.mod.kin.keeps fun b o e => (e0.bs b o e).1
  have nolim : s.heap.NoLimit := e0.mod.nolimit.keeps fun b o e => (e0.bs b o e).1
  have kinds : ∀ y ∈ ps.zip us, scope.names.lookup y.1 = some .local ∨ (scope.names.lookup y.1 = some .cell ∧ ((cellsFrom (s.heap.objs.size + 1) scope.names []).lookup y.1).isSome = true) := fun ⟨n, v⟩ hy => (S.par n (List.of_mem_zip hy).1).elim .inl fun q => .inr ⟨q, PySem.W.cellsFrom_some _ _ _ (.inl q)⟩
  refine codeAny_call_function hr.depth (inK _ _ lk) rfl S.co S.gen rfl (PySem.W.codeRec_of inK hcd) (bt _ _ _ _ (wpAny_newFunctionEnv_cells S.kind kinds fun env he s1 x => ?_))
  subst he
  obtain ⟨t, ht, hq⟩ := hb cdv A outer s H vs Q E hgd (hr.deeper _) hsp
  have I : Inv (cxOf CX0 P w K mg base N qual scope f cdv A outer s H E) [] (start N vs) H s1 := inv_start S hr.hd e0 lv r x
  refine ⟨nolim.keeps x.toInCall.keep, codeAny_func (wpAny_mono (ht.run [] s1 (start N vs) H _ I hq) (fun fl s' hs => ?_) fun e s' hs => hs)⟩
  match fl, hs with
  | .ret u, ⟨v, σ', H', J, rv, q⟩ => exact ⟨v, H', J.os, J.bare, J.base, J.hok, rv, q⟩
  | .next, ⟨σ', H', J, q⟩ => exact ⟨V.non, H', J.os, J.bare, J.base, J.hok, rfl, q⟩
  | .brk, ⟨_, _, _, q⟩ => exact False.elim q
  | .cont, ⟨_, _, _, q⟩ => exact False.elim q
structure CalG (P : Program) (w : World) (K : PySem.W.Frag) (mg : Str → Option Value) (base : Heap) (k : Nat) (x : Str) (sp : Sp) : Prop where
  ex : ∃ (f : Addr) (fd : FuncData) (ps : List Str), FnG P w K mg base k f fd ps sp ∧ mg x = some (.ref f) ∧ PySem.W.keepIn K (.ref f) = true ∧ Binds K fd ps []
theorem pe_cG {X : Cx} {k j : Nat} {sp : Sp} {x : Str} {p pos : Pos} {e : Expr} {es : List Expr} {t : TA} (c : CalG X.prog X.w X.K X.mg X.base k x sp) (hgd : X.A.guards = some []) (hr0 : Room j X.A) (hk0 : k ≤ j) (hg : Gl X x) (ha : PA X (e :: es) t)
    (hdb : (x == ("__debug__" : Str)) = false := by decide) (he : starEach (e :: es) X.env = (false, eval e X.env) :: starEach es X.env := by rfl) (hpl : (backTo pos (starEach es X.env)).any (·.1) = false := by rfl) : PE X (.Call (.Name x p) (e :: es) [] pos) (tCall sp [] C8.E0 t) := by
  obtain ⟨f, fd, ps, F, hm, hk, hb⟩ := c.ex
  have hr := hr0.mono hk0
  refine ⟨fun pins s σ H Q I h => ?_⟩
  refine wpAny_Call_Name_kw (ld_glob I hg hm ?_ hdb)
  refine PySem.W.callWith_K (h₀ := X.base) I.ok.mod.kin hk (thn (ha.run pos pins s σ H _ I h) fun us s1 ⟨vs, H1, I1, r, q⟩ => ⟨I1.kIn, ?_⟩) he hpl
  have r2 : Vals (vs ++ []) (us ++ []) := r.append .nil
  have hl : (us ++ []).length = ps.length := by rw [← r2.length]; exact F.len _ _ _ _ q
  refine wpAny_call (codeAny_mono (F.go X.A X.stack s1 H1 ⟨us, []⟩ (us ++ []) (vs ++ []) Q C8.E0 hgd hr I1.env0 (hb s1 us I1.kIn hl) r2 q) fun rr s' hq => ?_)
  cases rr with
  | error er => exact pass0 pins σ H1 s1 er s' I1 hq
  | ok fl =>
    cases fl with
    | ret u => exact I1.after hq
    | next => exact False.elim hq
    | brk => exact False.elim hq
    | cont => exact False.elim hq
end L2
namespace Rd
open PySem PySem.Spec PyProof.Rows L2
def top (i : Nat) : Stmt := PySem.Challenge.pw_roundstore_k55_rounds_made_greater_and_h.main.body.getD i (.Pass ⟨0, 0, 0, 0⟩)
abbrev s_fewest : Stmt := top 2
abbrev N_fewest : List Str := ["rounds", "room", "found", "passed", "many", "at"]
theorem sc_fewest : FnScope N_fewest ["rounds", "room"] (defScope s_fewest) := ⟨rfl, rfl, rfl, by decide +kernel, rfl, by decide +kernel, by decide +kernel⟩
abbrev s_reached : Stmt := top 3
abbrev N_reached : List Str := ["rounds", "room", "many", "at"]
theorem sc_reached : FnScope N_reached ["rounds", "room"] (defScope s_reached) := ⟨rfl, rfl, rfl, by decide +kernel, rfl, by decide +kernel, by decide +kernel⟩
abbrev s_passes : Stmt := top 4
abbrev N_passes : List Str := ["rounds", "some", "room", "told", "steps", "at", "takes", "lag"]
theorem sc_passes : FnScope N_passes ["rounds", "some", "room"] (defScope s_passes) := ⟨rfl, rfl, rfl, by decide +kernel, rfl, by decide +kernel, by decide +kernel⟩
abbrev s_stages : Stmt := top 5
abbrev N_stages : List Str := ["rounds", "room", "ends", "found", "passed", "many", "at", "takes", "lag"]
theorem sc_stages : FnScope N_stages ["rounds", "room"] (defScope s_stages) := ⟨rfl, rfl, rfl, by decide +kernel, rfl, by decide +kernel, by decide +kernel⟩
abbrev s_end : Stmt := top 6
abbrev N_end : List Str := ["rounds", "start", "steps", "room", "at"]
theorem sc_end : FnScope N_end ["rounds", "start", "steps", "room"] (defScope s_end) := ⟨rfl, rfl, rfl, by decide +kernel, rfl, by decide +kernel, by decide +kernel⟩
abbrev s_l_hand : Stmt := top 8
abbrev N_l_hand : List Str := ["_law_script", "_law_k", "_law_cell", "_law_great"]
theorem sc_l_hand : FnScope N_l_hand ["_law_script", "_law_k"] (defScope s_l_hand) := ⟨rfl, rfl, rfl, by decide +kernel, rfl, by decide +kernel, by decide +kernel⟩
abbrev s_l_take : Stmt := top 9
abbrev N_l_take : List Str := ["_law_hand_here", "_law_many_here", "_law_digit", "_law_primes", "_law_prime", "_law_drawn"]
theorem sc_l_take : FnScope N_l_take ["_law_hand_here", "_law_many_here"] (defScope s_l_take) := ⟨rfl, rfl, rfl, by decide +kernel, rfl, by decide +kernel, by decide +kernel⟩
abbrev s_l_of : Stmt := top 10
abbrev N_l_of : List Str := ["_law_hand_here", "_law_some"]
theorem sc_l_of : FnScope N_l_of ["_law_hand_here", "_law_some"] (defScope s_l_of) := ⟨rfl, rfl, rfl, by decide +kernel, rfl, by decide +kernel, by decide +kernel⟩
abbrev s_l_rounds : Stmt := top 11
abbrev N_l_rounds : List Str := ["_law_hand_here", "_law_many_here", "_law_limit", "_law_some", "_law_k", "_law_takes", "_law_lag"]
theorem sc_l_rounds : FnScope N_l_rounds ["_law_hand_here", "_law_many_here", "_law_limit"] (defScope s_l_rounds) := ⟨rfl, rfl, rfl, by decide +kernel, rfl, by decide +kernel, by decide +kernel⟩
abbrev s_l_steps : Stmt := top 12
abbrev N_l_steps : List Str := ["_law_rounds_here", "_law_some", "_law_limit", "_law_told", "_law_stands", "_law_k"]
theorem sc_l_steps : FnScope N_l_steps ["_law_rounds_here", "_law_some", "_law_limit"] (defScope s_l_steps) := ⟨rfl, rfl, rfl, by decide +kernel, rfl, by decide +kernel, by decide +kernel⟩
abbrev s_l_passed : Stmt := top 13
abbrev N_l_passed : List Str := ["_law_rounds_here", "_law_some", "_law_limit", "_law_one"]
theorem sc_l_passed : FnScope N_l_passed ["_law_rounds_here", "_law_some", "_law_limit"] (defScope s_l_passed) := ⟨rfl, rfl, rfl, by decide +kernel, rfl, by decide +kernel, by decide +kernel⟩
abbrev s_l_many : Stmt := top 14
abbrev N_l_many : List Str := ["_law_rounds_here", "_law_limit", "_law_word", "_law_told"]
theorem sc_l_many : FnScope N_l_many ["_law_rounds_here", "_law_limit"] (defScope s_l_many) := ⟨rfl, rfl, rfl, by decide +kernel, rfl, by decide +kernel, by decide +kernel⟩
abbrev s_l_scaled_right : Stmt := top 15
abbrev N_l_scaled_right : List Str := ["_law_hand_here", "_law_rounds_here", "_law_limit", "_law_times", "_law_greater", "_law_some", "_law_told", "_law_takes", "_law_lag", "_law_one"]
theorem sc_l_scaled_right : FnScope N_l_scaled_right ["_law_hand_here", "_law_rounds_here", "_law_limit"] (defScope s_l_scaled_right) := ⟨rfl, rfl, rfl, by decide +kernel, rfl, by decide +kernel, by decide +kernel⟩
abbrev s_l_idle_right : Stmt := top 16
abbrev N_l_idle_right : List Str := ["_law_hand_here", "_law_rounds_here", "_law_limit", "_law_at", "_law_lag", "_law_more", "_law_one", "_law_other"]
theorem sc_l_idle_right : FnScope N_l_idle_right ["_law_hand_here", "_law_rounds_here", "_law_limit"] (defScope s_l_idle_right) := ⟨rfl, rfl, rfl, by decide +kernel, rfl, by decide +kernel, by decide +kernel⟩
abbrev s_l_harder_right : Stmt := top 17
abbrev N_l_harder_right : List Str := ["_law_hand_here", "_law_rounds_here", "_law_limit", "_law_at", "_law_side", "_law_one", "_law_harder", "_law_mine", "_law_its", "_law_first", "_law_second", "_law_here", "_law_there"]
theorem sc_l_harder_right : FnScope N_l_harder_right ["_law_hand_here", "_law_rounds_here", "_law_limit"] (defScope s_l_harder_right) := ⟨rfl, rfl, rfl, by decide +kernel, rfl, by decide +kernel, by decide +kernel⟩
abbrev s_law : Stmt := top 18
abbrev N_law : List Str := ["_law_script", "_law_k", "_law_hand_here", "_law_limit", "_law_rounds_here"]
theorem sc_law : FnScope N_law ["_law_script"] (defScope s_law) := ⟨rfl, rfl, rfl, by decide +kernel, rfl, by decide +kernel, by decide +kernel⟩
theorem gl_of {X : Cx} {x : Str} {sc : Scope} (h : sc.names.lookup x = some .globalImplicit) (e : X.env.scope = sc := by rfl) : Gl X x := by
  unfold Gl Env.kindOf
  rw [e]
  exact h
theorem gl_fewest_stages : (defScope s_fewest).names.lookup ("stages" : Str) = some .globalImplicit := by decide +kernel
theorem gl_fewest_len : (defScope s_fewest).names.lookup ("len" : Str) = some .globalImplicit := by decide +kernel
theorem gl_fewest_tuple : (defScope s_fewest).names.lookup ("tuple" : Str) = some .globalImplicit := by decide +kernel
theorem gl_reached_tuple : (defScope s_reached).names.lookup ("tuple" : Str) = some .globalImplicit := by decide +kernel
theorem gl_reached_stages : (defScope s_reached).names.lookup ("stages" : Str) = some .globalImplicit := by decide +kernel
theorem gl_passes_min : (defScope s_passes).names.lookup ("min" : Str) = some .globalImplicit := by decide +kernel
theorem gl_passes_tuple : (defScope s_passes).names.lookup ("tuple" : Str) = some .globalImplicit := by decide +kernel
theorem gl_stages_end : (defScope s_stages).names.lookup ("end" : Str) = some .globalImplicit := by decide +kernel
theorem gl_stages_len : (defScope s_stages).names.lookup ("len" : Str) = some .globalImplicit := by decide +kernel
theorem gl_stages_max : (defScope s_stages).names.lookup ("max" : Str) = some .globalImplicit := by decide +kernel
theorem gl_end_len : (defScope s_end).names.lookup ("len" : Str) = some .globalImplicit := by decide +kernel
theorem gl_l_hand_len : (defScope s_l_hand).names.lookup ("len" : Str) = some .globalImplicit := by decide +kernel
theorem gl_l_hand_abs : (defScope s_l_hand).names.lookup ("abs" : Str) = some .globalImplicit := by decide +kernel
theorem gl_l_hand_int : (defScope s_l_hand).names.lookup ("int" : Str) = some .globalImplicit := by decide +kernel
theorem gl_l_of_l_take : (defScope s_l_of).names.lookup ("_law_take" : Str) = some .globalImplicit := by decide +kernel
theorem gl_l_of_len : (defScope s_l_of).names.lookup ("len" : Str) = some .globalImplicit := by decide +kernel
theorem gl_l_rounds_l_of : (defScope s_l_rounds).names.lookup ("_law_of" : Str) = some .globalImplicit := by decide +kernel
theorem gl_l_rounds_l_take : (defScope s_l_rounds).names.lookup ("_law_take" : Str) = some .globalImplicit := by decide +kernel
theorem gl_l_rounds_tuple : (defScope s_l_rounds).names.lookup ("tuple" : Str) = some .globalImplicit := by decide +kernel
theorem gl_l_steps_len : (defScope s_l_steps).names.lookup ("len" : Str) = some .globalImplicit := by decide +kernel
theorem gl_l_passed_len : (defScope s_l_passed).names.lookup ("len" : Str) = some .globalImplicit := by decide +kernel
theorem gl_l_passed_l_steps : (defScope s_l_passed).names.lookup ("_law_steps" : Str) = some .globalImplicit := by decide +kernel
theorem gl_l_many_fewest : (defScope s_l_many).names.lookup ("fewest" : Str) = some .globalImplicit := by decide +kernel
theorem gl_l_many_l_passed : (defScope s_l_many).names.lookup ("_law_passed" : Str) = some .globalImplicit := by decide +kernel
theorem gl_l_many_len : (defScope s_l_many).names.lookup ("len" : Str) = some .globalImplicit := by decide +kernel
theorem gl_l_scaled_right_l_of : (defScope s_l_scaled_right).names.lookup ("_law_of" : Str) = some .globalImplicit := by decide +kernel
theorem gl_l_scaled_right_l_take : (defScope s_l_scaled_right).names.lookup ("_law_take" : Str) = some .globalImplicit := by decide +kernel
theorem gl_l_scaled_right_tuple : (defScope s_l_scaled_right).names.lookup ("tuple" : Str) = some .globalImplicit := by decide +kernel
theorem gl_l_scaled_right_repr : (defScope s_l_scaled_right).names.lookup ("repr" : Str) = some .globalImplicit := by decide +kernel
theorem gl_l_scaled_right_reached : (defScope s_l_scaled_right).names.lookup ("reached" : Str) = some .globalImplicit := by decide +kernel
theorem gl_l_scaled_right_l_many : (defScope s_l_scaled_right).names.lookup ("_law_many" : Str) = some .globalImplicit := by decide +kernel
theorem gl_l_scaled_right_len : (defScope s_l_scaled_right).names.lookup ("len" : Str) = some .globalImplicit := by decide +kernel
theorem gl_l_scaled_right_passes : (defScope s_l_scaled_right).names.lookup ("passes" : Str) = some .globalImplicit := by decide +kernel
theorem gl_l_idle_right_l_of : (defScope s_l_idle_right).names.lookup ("_law_of" : Str) = some .globalImplicit := by decide +kernel
theorem gl_l_idle_right_l_take : (defScope s_l_idle_right).names.lookup ("_law_take" : Str) = some .globalImplicit := by decide +kernel
theorem gl_l_idle_right_len : (defScope s_l_idle_right).names.lookup ("len" : Str) = some .globalImplicit := by decide +kernel
theorem gl_l_idle_right_l_many : (defScope s_l_idle_right).names.lookup ("_law_many" : Str) = some .globalImplicit := by decide +kernel
theorem gl_l_idle_right_int : (defScope s_l_idle_right).names.lookup ("int" : Str) = some .globalImplicit := by decide +kernel
theorem gl_l_harder_right_l_take : (defScope s_l_harder_right).names.lookup ("_law_take" : Str) = some .globalImplicit := by decide +kernel
theorem gl_l_harder_right_len : (defScope s_l_harder_right).names.lookup ("len" : Str) = some .globalImplicit := by decide +kernel
theorem gl_l_harder_right_reached : (defScope s_l_harder_right).names.lookup ("reached" : Str) = some .globalImplicit := by decide +kernel
theorem gl_l_harder_right_all : (defScope s_l_harder_right).names.lookup ("all" : Str) = some .globalImplicit := by decide +kernel
theorem gl_l_harder_right_l_many : (defScope s_l_harder_right).names.lookup ("_law_many" : Str) = some .globalImplicit := by decide +kernel
theorem gl_law_min : (defScope s_law).names.lookup ("min" : Str) = some .globalImplicit := by decide +kernel
theorem gl_law_len : (defScope s_law).names.lookup ("len" : Str) = some .globalImplicit := by decide +kernel
theorem gl_law_l_hand : (defScope s_law).names.lookup ("_law_hand" : Str) = some .globalImplicit := by decide +kernel
theorem gl_law_l_of : (defScope s_law).names.lookup ("_law_of" : Str) = some .globalImplicit := by decide +kernel
theorem gl_law_l_take : (defScope s_law).names.lookup ("_law_take" : Str) = some .globalImplicit := by decide +kernel
theorem gl_law_l_rounds : (defScope s_law).names.lookup ("_law_rounds" : Str) = some .globalImplicit := by decide +kernel
theorem gl_law_l_idle_right : (defScope s_law).names.lookup ("_law_idle_right" : Str) = some .globalImplicit := by decide +kernel
theorem gl_law_l_scaled_right : (defScope s_law).names.lookup ("_law_scaled_right" : Str) = some .globalImplicit := by decide +kernel
theorem gl_law_l_harder_right : (defScope s_law).names.lookup ("_law_harder_right" : Str) = some .globalImplicit := by decide +kernel
theorem bb_len : bootBuiltins "len" = some (.builtin "len") := by decide +kernel
theorem bb_min : bootBuiltins "min" = some (.builtin "min") := by decide +kernel
theorem bb_max : bootBuiltins "max" = some (.builtin "max") := by decide +kernel
theorem bb_abs : bootBuiltins "abs" = some (.builtin "abs") := by decide +kernel
theorem bb_repr : bootBuiltins "repr" = some (.builtin "repr") := by decide +kernel
theorem bb_all : bootBuiltins "all" = some (.builtin "all") := by decide +kernel
theorem bt_tuple : bootBuiltins "tuple" = some (.type "tuple") := by decide +kernel
theorem bt_int : bootBuiltins "int" = some (.type "int") := by decide +kernel
/-! ### what the top leaves, and what a def keeps -/
structure Tx (K : PySem.W.Frag) (mg : Str → Option Value) : Prop where
  len : mg "len" = none
  abs : mg "abs" = none
  int : mg "int" = none
  bool : mg "bool" = none
  min : mg "min" = none
  max : mg "max" = none
  all : mg "all" = none
  isinstance : mg "isinstance" = none
  range : mg "range" = none
  list : mg "list" = none
  tuple : mg "tuple" = none
  sorted : mg "sorted" = none
  set : mg "set" = none
  enumerate : mg "enumerate" = none
  repr : mg "repr" = none
  dict : mg "dict" = none
  zip : mg "zip" = none
  str : mg "str" = none
  sum : mg "sum" = none
def freeNames : List Str := ["len", "abs", "int", "bool", "min", "max", "all", "isinstance", "range", "list", "tuple", "sorted", "set", "enumerate", "repr", "dict", "zip", "str", "sum"]
theorem tx_mk {K : PySem.W.Frag} {mg : Str → Option Value} (h : ∀ x ∈ freeNames, mg x = none) : Tx K mg :=
  ⟨h _ (by decide), h _ (by decide), h _ (by decide), h _ (by decide), h _ (by decide), h _ (by decide), h _ (by decide), h _ (by decide), h _ (by decide), h _ (by decide), h _ (by decide), h _ (by decide), h _ (by decide), h _ (by decide), h _ (by decide), h _ (by decide), h _ (by decide), h _ (by decide), h _ (by decide)⟩
/-- a def without defaults -/
structure Def0 (K : PySem.W.Frag) (mg : Str → Option Value) (x : Str) (st : Stmt) (ps : List Str) : Prop where
  ex : ∃ (f : Addr) (fd : FuncData), FunD K x x (defArgs st) (defBody st) (defScope st) [] [] f fd ∧ mg x = some (.ref f) ∧ Binds K fd ps []
/-- a def with keyword-only defaults: n values by place, the rest by name or left out -/
structure DefK (K : PySem.W.Frag) (mg : Str → Option Value) (x : Str) (st : Stmt) (ps : List Str) (n : Nat) (kws : List (Str × V)) : Prop where
  ex : ∃ (f : Addr) (fd : FuncData), FunD K x x (defArgs st) (defBody st) (defScope st) [] kws f fd ∧ mg x = some (.ref f) ∧ (∃ ds, Vals (kws.map (·.2)) ds ∧ Binds K fd ps ds) ∧ ∃ g, KBn K fd ps n (kws.map (·.1)) g (fun vs zs => vs ++ zs)
structure CalK (P : Program) (w : World) (K : PySem.W.Frag) (mg : Str → Option Value) (base : Heap) (k : Nat) (x : Str) (n : Nat) (ks : List Str) (sp : Sp) : Prop where
  ex : ∃ (f : Addr) (fd : FuncData) (ps : List Str) (g : List Value → List Value → List Value), FnOk P w K mg base CX0 k f fd ps sp ∧ mg x = some (.ref f) ∧ PySem.W.keepIn K (.ref f) = true ∧ KBn K fd ps n ks g (fun vs zs => vs ++ zs)
section
variable {P : Program} {w : World} {K : PySem.W.Frag} {mg : Str → Option Value} {base : Heap} {x : Str} {st : Stmt} {N ps : List Str} {k n : Nat} {sp : Sp} {kws : List (Str × V)}
/-- the body of a def, as its rule asks it -/
def BodyOk (P : Program) (w : World) (K : PySem.W.Frag) (mg : Str → Option Value) (base : Heap) (x : Str) (st : Stmt) (N : List Str) (k : Nat) (sp : Sp) : Prop :=
  ∀ (f : Addr) (cdv : Value) (A : Around) (outer : List Env) (s : Shared) (H : Hp) (vs : List V) (Q : VK) (E : XK), Room k (A.deeper (envOfC x (defScope st) s.heap.objs.size f cdv)) → sp vs H Q E →
      ∃ t, PSs (cxOf CX0 P w K mg base N x (defScope st) f cdv A outer s H E).nox (defBody st) t ∧ t { nx := fun _ H' => Q .non H', rt := Q } (start N vs) H
theorem Def0.cal (D : Def0 K mg x st ps) (S : FnScope N ps (defScope st)) (len : ∀ vs H Q E, sp vs H Q E → vs.length = ps.length) (hb : BodyOk P w K mg base x st N k sp) : C8.Cal P w K mg base (k + 1) x sp [] := by
  obtain ⟨f, fd, F, g, b⟩ := D.ex
  refine ⟨f, fd, ps, [], F.ok (CX := CX0) S len (fun cdv A outer s H vs Q E hr h => ?_), g, F.kp, b, .nil⟩
  obtain ⟨t, h1, h2⟩ := hb f cdv A outer s H vs Q E hr h
  exact ⟨t, h1.nox, h2⟩
theorem DefK.ok (D : DefK K mg x st ps n kws) (S : FnScope N ps (defScope st)) (len : ∀ vs H Q E, sp vs H Q E → vs.length = ps.length) (hb : BodyOk P w K mg base x st N k sp) :
    CalK P w K mg base (k + 1) x n (kws.map (·.1)) sp ∧ C8.Cal P w K mg base (k + 1) x sp (kws.map (·.2)) := by
  obtain ⟨f, fd, F, g, ⟨ds, hd, b⟩, gg, kb⟩ := D.ex
  have h : FnOk P w K mg base CX0 (k + 1) f fd ps sp := F.ok (CX := CX0) S len (fun cdv A outer s H vs Q E hr h => by
    obtain ⟨t, h1, h2⟩ := hb f cdv A outer s H vs Q E hr h
    exact ⟨t, h1.nox, h2⟩)
  exact ⟨⟨f, fd, ps, gg, h, g, F.kp, kb⟩, ⟨f, fd, ps, ds, h, g, F.kp, b, hd⟩⟩
end
section
variable {X : Cx} {k j n : Nat} {ks : List Str} {sp : Sp} {x : Str} {p pos : Pos} {e : Expr} {es : List Expr} {kws : List Keyword} {t tk : TA}
theorem pe_ck (c : CalK X.prog X.w X.K X.mg X.base k x n ks sp) (hr : Room j X.A) (hk : k ≤ j) (hg : Gl X x) (ha : PA X (e :: es) t) (hkw : PK X kws tk) (hall : (backToKw pos (keywordEach kws X.env)).all (·.1.isSome) = true := by rfl) (hks : (backToKw pos (keywordEach kws X.env)).filterMap (·.1) = ks := by rfl)
    (hdb : (x == ("__debug__" : Str)) = false := by decide) (he : starEach (e :: es) X.env = (false, eval e X.env) :: starEach es X.env := by rfl)
    (hpl : ((backTo pos (starEach (e :: es) X.env)).any (·.1) || (backToKw pos (keywordEach kws X.env)).any (·.1.isNone)) = false := by rfl) :
    PE X (.Call (.Name x p) (e :: es) kws pos) (tCallN n ks.length sp (fun vs zs => vs ++ zs) E0 t tk) := by
  obtain ⟨f, fd, ps, g, F, hm, kp, kb⟩ := c.ex
  exact pe_callN F (hr.mono hk) hg hm kp kb pass0 ha hkw hall hks hdb he hpl
end
/-! ### heaps: all but the drawing hand stands -/
def Fr (h : Addr) (H H' : Hp) : Prop := ∀ a o, a ≠ h → H a = some o → H' a = some o
theorem Fr.refl (h : Addr) (H : Hp) : Fr h H H := fun _ _ _ e => e
theorem Fr.trans {h : Addr} {H H1 H2 : Hp} (a : Fr h H H1) (b : Fr h H1 H2) : Fr h H H2 := fun x o n e => b x o n (a x o n e)
theorem Fr.new {h : Addr} {H : Hp} {p : Addr} {o : HO} (e : H p = none) : Fr h H (upd H p o) := fun a u _ q => by
  rw [upd_ne (ne_of_none q e)]
  exact q
/-- what h did not know may change -/
theorem Fr.mut {h : Addr} {H H' : Hp} {p : Addr} {o : HO} (f : Fr h H H') (e : H p = none) : Fr h H (upd H' p o) := fun a u n q => by
  rw [upd_ne (ne_of_none q e)]
  exact f a u n q
theorem Fr.hand {h : Addr} {H : Hp} {o : HO} : Fr h H (upd H h o) := fun a u n q => by
  rw [upd_ne n]
  exact q
theorem Fr.seq {h : Addr} {K : PySem.W.Frag} {H H' : Hp} {a : Addr} {xs : List V} (f : Fr h H H') (n : a ≠ h) (q : SqL K H a xs) : SqL K H' a xs := by
  rcases q with (q | ⟨o, q⟩) | q
  · exact .inl (.inl (f _ _ n q))
  · exact .inl (.inr ⟨o, f _ _ n q⟩)
  · exact .inr q
theorem Fr.seqT {h : Addr} {K : PySem.W.Frag} {H H' : Hp} {a : Addr} {xs : List V} (f : Fr h H H') (n : a ≠ h) (q : SqT K H a xs) : SqT K H' a xs := by
  rcases q with (q | ⟨o, q⟩) | q
  · exact .inl (.inl (f _ _ n q))
  · exact .inl (.inr ⟨o, f _ _ n q⟩)
  · exact .inr q
/-- the hand: three numbers; n bounds how often it drew -/
def HS (h : Addr) (n : Nat) (H : Hp) : Prop := ∃ g b c : Int, H h = some (.lst [.int g, .int b, .int c]) ∧ 0 ≤ g ∧ g < 10 ^ 240 ∧ 0 ≤ b ∧ b < 2 ^ 62 ∧ 0 ≤ c ∧ c ≤ n
theorem HS.mono {h : Addr} {n m : Nat} {H : Hp} (q : HS h n H) (l : n ≤ m) : HS h m H := by
  obtain ⟨g, b, c, e, g0, g1, b0, b1, c0, c1⟩ := q
  exact ⟨g, b, c, e, g0, g1, b0, b1, c0, by omega⟩
theorem HS.new {h : Addr} {n : Nat} {H : Hp} {p : Addr} {o : HO} (q : HS h n H) (e : H p = none) : HS h n (upd H p o) := by
  obtain ⟨g, b, c, eh, r⟩ := q
  exact ⟨g, b, c, (by rw [upd_ne (ne_of_none eh e)]; exact eh), r⟩
theorem HS.at {h : Addr} {n : Nat} {H : Hp} (q : HS h n H) : ∃ o, H h = some o := by
  obtain ⟨g, b, c, e, _⟩ := q
  exact ⟨_, e⟩
theorem HS.ne {h : Addr} {n : Nat} {H : Hp} {p : Addr} (q : HS h n H) (e : H p = none) : p ≠ h := by
  obtain ⟨g, b, c, eh, _⟩ := q
  exact fun z => by
    rw [z, eh] at e
    cases e
/-! ### the drawing defs of the law -/
def lim : Nat := 100000
/-- hand(script, k) -/
def spHand (K : PySem.W.Frag) : Sp := fun vs H Q _ => ∃ (a : Addr) (ns : List Int) (k : Nat), vs = [.ref a, .int k] ∧ SqL K H a (ns.map V.int) ∧ k ≤ 100 ∧ ∀ p H', H p = none → (∀ q o, H q = some o → H' q = some o) → HS p 0 H' → Q (.ref p) H'
/-- take(hand, many): some number below many -/
def spTake : Sp := fun vs H Q _ => ∃ (h : Addr) (m : Int) (n : Nat), vs = [.ref h, .int m] ∧ HS h n H ∧ n < lim ∧ 0 < m ∧ m ≤ 10 ^ 18 ∧ ∀ d H', 0 ≤ d → d < m → HS h (n + 1) H' → Fr h H H' → Q (.int d) H'
/-- of(hand, some) -/
def spOf (K : PySem.W.Frag) : Sp := fun vs H Q _ => ∃ (h a : Addr) (xs : List V) (n : Nat), vs = [.ref h, .ref a] ∧ HS h n H ∧ n < lim ∧ a ≠ h ∧ SqL K H a xs ∧ 0 < xs.length ∧ xs.length ≤ 1000 ∧ ∀ v H', v ∈ xs → HS h (n + 1) H' → Fr h H H' → Q v H'
/-- the body of a def that is called where nothing is being shown -/
def BodyG (P : Program) (w : World) (K : PySem.W.Frag) (mg : Str → Option Value) (base : Heap) (x : Str) (st : Stmt) (N : List Str) (k : Nat) (sp : Sp) : Prop :=
  ∀ (f : Addr) (cdv : Value) (A : Around) (outer : List Env) (s : Shared) (H : Hp) (vs : List V) (Q : VK) (E : XK), A.guards = some [] → Room k (A.deeper (envOfC x (defScope st) s.heap.objs.size f cdv)) → sp vs H Q E → ∃ t, PSs (cxOf CX0 P w K mg base N x (defScope st) f cdv A outer s H E).nox (defBody st) t ∧ t { nx := fun _ H' => Q .non H', rt := Q } (start N vs) H
theorem Def0.calG {P : Program} {w : World} {K : PySem.W.Frag} {mg : Str → Option Value} {base : Heap} {x : Str} {st : Stmt} {N ps : List Str} {k : Nat} {sp : Sp} (D : Def0 K mg x st ps) (S : FnScope N ps (defScope st)) (len : ∀ vs H Q E, sp vs H Q E → vs.length = ps.length) (hb : BodyG P w K mg base x st N k sp) : CalG P w K mg base (k + 1) x sp := by
  obtain ⟨f, fd, F, g, b⟩ := D.ex
  refine ⟨f, fd, ps, fng_of F S len (fun cdv A outer s H vs Q E hgd hr h => ?_), g, F.kp, b⟩
  obtain ⟨t, h1, h2⟩ := hb f cdv A outer s H vs Q E hgd hr h
  exact ⟨t, h1.nox, h2⟩
theorem pow_ok {i j : Int} (h : 0 ≤ j ∧ j ≤ 1000000 ∧ i.natAbs < 2 ^ 64) : CPow i j := h
theorem atI_in {xs : List V} {i : Int} (h0 : 0 ≤ i) (h1 : i < xs.length) : ∃ v, atI xs i = some v ∧ v ∈ xs := by
  have h2 : i.toNat < xs.length := by omega
  refine ⟨xs[i.toNat], ?_, List.getElem_mem h2⟩
  have e := atI_nat (xs := xs) (j := i.toNat) (List.getElem?_eq_getElem h2)
  rw [Int.toNat_of_nonneg h0] at e
  exact e
theorem if01 (b : Bool) : 0 ≤ (if b = true then (1 : Int) else 0) ∧ (if b = true then (1 : Int) else 0) ≤ 1 := by
  cases b <;> decide
theorem w60 : (((10 : Int) ^ (60 : Int).toNat).natAbs) < 2 ^ 200 := by decide +kernel
theorem w120 : (((10 : Int) ^ (60 : Int).toNat * (10 : Int) ^ (60 : Int).toNat).natAbs) < 2 ^ 400 := by decide +kernel
theorem w180 : (((10 : Int) ^ (60 : Int).toNat * (10 : Int) ^ (60 : Int).toNat * (10 : Int) ^ (60 : Int).toNat).natAbs) < 2 ^ 600 := by decide +kernel
theorem e240 : ((10 : Int) ^ (60 : Int).toNat * (10 : Int) ^ (60 : Int).toNat * (10 : Int) ^ (60 : Int).toNat * (10 : Int) ^ (60 : Int).toNat) = 10 ^ 240 := by decide +kernel
theorem p17 : ((10 : Int) ^ (17 : Int).toNat) = 100000000000000000 := by decide +kernel
theorem p18 : ((10 : Int) ^ (18 : Int).toNat) = 1000000000000000000 := by decide +kernel
theorem p19 : ((2 : Int) ^ (19 : Int).toNat) = 524288 := by decide +kernel
theorem p20 : ((2 : Int) ^ (20 : Int).toNat) = 1048576 := by decide +kernel
theorem cdw {i j : Int} (h : 0 < j) (h1 : j ≤ 1000000000000000000) : CDivW i j := wide_div (b := 64) h (by omega) (by decide) (by decide)
section
variable {P : Program} {w : World} {K : PySem.W.Frag} {mg : Str → Option Value} {base : Heap}
theorem ok_hand (T : Tx K mg) : BodyOk P w K mg base "_law_hand" s_l_hand N_l_hand 0 (spHand K) := by
  intro f cdv A outer s H vs Q E hr h
  obtain ⟨a, ns, k, rfl, hS, hk, q⟩ := h
  refine ⟨_, (pss_cons (ps_set (i := 2) sc_l_hand.nd rfl (Or.inl rfl) (pe_ifExp (pt_cmpR op_lt (pv 1) (pe_callB call_len_seq (gl_of gl_l_hand_len) T.len bb_len (pa_cons (pv 0) pa_nil)) (nomark _)) (pe_ix ix_list (pv 0) (pv 1) (fun _ _ => rfl)) pe_int))
      (pss_cons (ps_set (i := 3) sc_l_hand.nd rfl (Or.inl rfl) (pe_op op_mulW (pe_op op_mulW (pe_op op_mulW (pe_op op_pow pe_int pe_int) (pe_op op_pow pe_int pe_int)) (pe_op op_pow pe_int pe_int)) (pe_op op_pow pe_int pe_int)))
      (pss_one (ps_ret (pe_lst (pa_cons (pe_op op_mul (pe_op op_mod (pe_callB call_abs (gl_of gl_l_hand_abs) T.abs bb_abs (pa_cons (pv 2) pa_nil)) (pv 3)) (pe_callTy call_int1 (gl_of gl_l_hand_int) T.int bt_int (pa_cons (pe_cmpR op_ge (pe_callB call_abs (gl_of gl_l_hand_abs) T.abs bb_abs (pa_cons (pv 2) pa_nil)) (pe_op op_pow pe_int pe_int) (nomark _)) pa_nil))) (pa_cons (pe_op op_add (pe_op op_add (pe_op op_mod (pv 2) pe_int) (pe_op op_mul pe_int (pv 1))) pe_int) (pa_cons pe_int pa_nil)))))))), ?_⟩
  refine st_seq (st_setH (PV := fun v H' => H' = H ∧ ∃ c : Int, v = .int c) (fun Q2 q2 => ?_) (fun v H' hv => ?_))
  · refine ⟨_, rfl, _, rfl, a, _, rfl, .inl hS, _, _, rfl, rfl, _, rfl, ite2 (fun e => ?_) (fun e => ?_)⟩
    · have e1 := of_decide_eq_true e
      rw [List.length_map] at e1
      have e2 : k < ns.length := by omega
      refine ⟨_, rfl, _, rfl, a, _, _, .int ns[k], rfl, rfl, hS, ?_, q2 _ _ ⟨rfl, _, rfl⟩⟩
      refine atI_nat ?_
      rw [List.getElem?_map, List.getElem?_eq_getElem e2]
      rfl
    · exact q2 _ _ ⟨rfl, _, rfl⟩
  · obtain ⟨rfl, c, rfl⟩ := hv
    dsimp only
    refine st_seq (st_setH (PV := fun v Hx => Hx = H' ∧ v = .int (10 ^ 240)) (fun Q2 q2 => ?_) (fun v Hx hv => ?_))
    · refine ⟨_, _, rfl, rfl, pow_ok (by decide), _, _, rfl, rfl, pow_ok (by decide), _, _, rfl, rfl, wide_mul w60 w60 (by decide) (by decide) (by decide), _, _, rfl, rfl, pow_ok (by decide), _, _, rfl, rfl, wide_mul w120 w60 (by decide) (by decide) (by decide), _, _, rfl, rfl, pow_ok (by decide), _, _, rfl, rfl, wide_mul w180 w60 (by decide) (by decide) (by decide), ?_⟩
      refine q2 _ _ ⟨rfl, ?_⟩
      exact congrArg V.int e240
    obtain ⟨rfl, rfl⟩ := hv
    refine ⟨_, rfl, _, rfl, _, rfl, _, _, rfl, rfl, (show (0 : Int) < 10 ^ 240 by decide), ?_⟩
    refine ⟨_, rfl, _, rfl, _, _, rfl, rfl, pow_ok (by decide), _, _, rfl, rfl, .inr ⟨_, rfl, _, _, rfl, rfl, .inr ?_, ?_⟩⟩
    · have z := if01 (decide (((10 : Int) ^ (18 : Int).toNat) ≤ (if c < 0 then -c else c)))
      exact ⟨Int.lt_of_lt_of_le (by decide) z.1, Int.lt_of_le_of_lt z.2 (by decide)⟩
    · refine ⟨_, rfl, _, _, rfl, rfl, (show (0 : Int) < 2305843009213693951 by decide), _, rfl, _, _, rfl, rfl, .inl (by decide), _, _, rfl, rfl, _, _, rfl, rfl, by show 3 ≤ sizeLine; decide, fun p np => ?_⟩
      refine q _ _ np (fun b o e => ?_) ⟨_, _, _, upd_same, ?_, ?_, ?_, ?_, ?_, ?_⟩
      · rw [upd_ne (ne_of_none e np)]
        exact e
      · exact Int.mul_nonneg (Int.emod_nonneg _ (by decide)) (if01 _).1
      · have h1 : (if c < 0 then -c else c) % (10 ^ 240) < 10 ^ 240 := Int.emod_lt_of_pos _ (by decide)
        have h0 : 0 ≤ (if c < 0 then -c else c) % (10 ^ 240) := Int.emod_nonneg _ (by decide)
        cases (decide (((10 : Int) ^ (18 : Int).toNat) ≤ (if c < 0 then -c else c))) with
        | true =>
          rw [if_pos rfl, Int.mul_one]
          exact h1
        | false =>
          rw [if_neg Bool.false_ne_true, Int.mul_zero]
          decide
      · have h1 : 0 ≤ c % 2305843009213693951 := Int.emod_nonneg _ (by decide)
        omega
      · have h1 : c % 2305843009213693951 < 2305843009213693951 := Int.emod_lt_of_pos _ (by decide)
        have h2 : (2 : Int) ^ 62 = 4611686018427387904 := by decide
        omega
      · decide
      · decide
def primes : List V := [.int 2147483647, .int 2147483629, .int 2147483587, .int 2147483579, .int 2147483563, .int 2147483549, .int 2147483543, .int 2147483497]
theorem primes_in : ∀ v ∈ primes, ∃ q : Int, v = .int q ∧ 0 < q ∧ q < 2147483648 := by
  intro v hv
  simp only [primes, List.mem_cons, List.not_mem_nil, or_false] at hv
  rcases hv with rfl | rfl | rfl | rfl | rfl | rfl | rfl | rfl <;> exact ⟨_, rfl, by decide, by decide⟩
theorem ok_take (T : Tx K mg) : BodyOk P w K mg base "_law_take" s_l_take N_l_take 0 spTake := by
  intro f cdv A outer s H vs Q E hr h
  obtain ⟨h, m, n, rfl, ⟨g, b, c, eh, g0, g1, b0, b1, c0, c1⟩, hn, m0, m1, q⟩ := h
  refine ⟨_, (pss_cons (ps_if (pt_cmpR op_gt (pe_ix ix_list (pv 0) pe_int (fun _ _ => rfl)) pe_int (nomark _)) (pss_cons (ps_set (i := 2) sc_l_take.nd rfl (Or.inl rfl) (pe_op op_mod (pe_ix ix_list (pv 0) pe_int (fun _ _ => rfl)) (pv 1)))
      (pss_cons (ps_asg (pe_op op_fdivW (pe_ix ix_list (pv 0) pe_int (fun _ _ => rfl)) (pv 1)) (pg_sub (pv 0) pe_int set_list))
      (pss_one (ps_ret (pv 2))))) pss_nil)
      (pss_cons (ps_asg (pe_op op_add (pe_ix ix_list (pv 0) pe_int (fun _ _ => rfl)) pe_int) (pg_sub (pv 0) pe_int set_list))
      (pss_cons (ps_set (i := 3) sc_l_take.nd rfl (Or.inl rfl) (pe_lst (pa_cons pe_int (pa_cons pe_int (pa_cons pe_int (pa_cons pe_int (pa_cons pe_int (pa_cons pe_int (pa_cons pe_int (pa_cons pe_int pa_nil))))))))))
      (pss_cons (ps_set (i := 4) sc_l_take.nd rfl (Or.inl rfl) (pe_ix ix_list (pv 3) (pe_op op_mod (pe_ix ix_list (pv 0) pe_int (fun _ _ => rfl)) pe_int) (fun _ _ => rfl)))
      (pss_cons (ps_set (i := 5) sc_l_take.nd rfl (Or.inl rfl) (pe_op op_mod (pe_op op_pow (pe_op op_add (pe_ix ix_list (pv 0) pe_int (fun _ _ => rfl)) (pe_op op_mul pe_int (pe_ix ix_list (pv 0) pe_int (fun _ _ => rfl)))) pe_int) (pv 4)))
      (pss_one (ps_ret (pe_op op_mod (pe_op op_fdivW (pe_op op_mod (pe_op op_mul (pv 5) (pe_op op_add (pe_op op_mod (pv 5) pe_int) (pe_ix ix_list (pv 0) pe_int (fun _ _ => rfl)))) (pv 4)) pe_int) (pv 1))))))))), ?_⟩
  have hn2 : (n : Int) < 100000 := by
    have z : n < 100000 := hn
    omega
  have p18' : (10 : Int) ^ 18 = 1000000000000000000 := by decide
  have p62 : (2 : Int) ^ 62 = 4611686018427387904 := by decide
  refine st_seq ?_
  refine ⟨_, rfl, h, _, _, _, rfl, rfl, SqL.of eh, rfl, _, _, rfl, rfl, _, rfl, ite2 (fun z => ?_) (fun z => ?_)⟩
  · refine ⟨_, rfl, h, _, _, _, rfl, rfl, SqL.of eh, rfl, _, rfl, _, _, rfl, rfl, m0, ?_⟩
    refine ⟨_, rfl, h, _, _, _, rfl, rfl, SqL.of eh, rfl, _, rfl, _, _, rfl, rfl, cdw m0 (by omega), ?_⟩
    refine ⟨_, rfl, h, _, _, 0, rfl, rfl, eh, rfl, ?_⟩
    refine ⟨_, rfl, q _ _ (Int.emod_nonneg _ (by omega)) (Int.emod_lt_of_pos _ m0) ⟨_, b, c, upd_same, ?_, ?_, b0, b1, c0, ?_⟩ Fr.hand⟩
    · exact Int.ediv_nonneg g0 (by omega)
    · exact Int.lt_of_le_of_lt (Int.ediv_le_self _ g0) g1
    · omega
  · refine st_seq ?_
    refine ⟨_, rfl, h, _, _, _, rfl, rfl, SqL.of eh, rfl, _, _, rfl, rfl, _, rfl, h, _, _, 2, rfl, rfl, eh, rfl, ?_⟩
    have e2 : (upd H h (.lst [.int g, .int b, .int (c + 1)])) h = some (.lst [.int g, .int b, .int (c + 1)]) := upd_same
    refine st_seq ⟨by show 8 ≤ sizeLine; decide, fun p np => ?_⟩
    have hpn : h ≠ p := ne_of_none e2 np
    have e3 : (upd (upd H h (.lst [.int g, .int b, .int (c + 1)])) p (.lst primes)) h = some (.lst [.int g, .int b, .int (c + 1)]) := by
      rw [upd_ne hpn]
      exact e2
    obtain ⟨v, ev, hv⟩ := atI_in (xs := primes) (i := (c + 1) % 8) (Int.emod_nonneg _ (by decide)) (Int.emod_lt_of_pos _ (by decide))
    obtain ⟨r, rfl, r0, r1⟩ := primes_in v hv
    refine st_seq ?_
    refine ⟨_, rfl, _, rfl, h, _, _, _, rfl, rfl, SqL.of e3, rfl, _, _, rfl, rfl, (show (0 : Int) < 8 by decide), p, _, _, _, rfl, rfl, SqL.of upd_same, ev, ?_⟩
    refine st_seq ?_
    refine ⟨_, rfl, h, _, _, _, rfl, rfl, SqL.of e3, rfl, _, rfl, h, _, _, _, rfl, rfl, SqL.of e3, rfl, _, _, rfl, rfl, .inl (by decide), _, _, rfl, rfl, _, _, rfl, rfl, pow_ok ⟨by decide, by decide, by omega⟩, _, rfl, _, _, rfl, rfl, r0, ?_⟩
    refine ⟨_, rfl, _, rfl, _, _, rfl, rfl, (show (0 : Int) < 1009 by decide), _, rfl, h, _, _, _, rfl, rfl, SqL.of e3, rfl, _, _, rfl, rfl, _, _, rfl, rfl, .inl ?_, _, rfl, _, _, rfl, rfl, r0, _, _, rfl, rfl, cdw (by decide) (by decide), _, rfl, _, _, rfl, rfl, m0, ?_⟩
    · have h1 : 0 ≤ (b + 7919 * (c + 1)) ^ (5 : Int).toNat % r := Int.emod_nonneg _ (by omega)
      have h2 : (b + 7919 * (c + 1)) ^ (5 : Int).toNat % r < r := Int.emod_lt_of_pos _ r0
      have h3 : (2 : Int) ^ 64 = 18446744073709551616 := by decide
      rw [h3]
      exact ⟨by omega, by omega⟩
    · refine q _ _ (Int.emod_nonneg _ (by omega)) (Int.emod_lt_of_pos _ m0) ⟨g, b, c + 1, e3, g0, g1, b0, b1, by omega, by omega⟩ (Fr.trans Fr.hand (Fr.new np))
end
/-! ### the law's own going round -/
def wayI (x y s : Int) : Int := if x ≤ y then y - x else y - x + s
theorem way_eq {x y s : Int} (x0 : 0 ≤ x) (x1 : x < s) (y0 : 0 ≤ y) (y1 : y < s) : (y - x) % s = wayI x y s := by
  unfold wayI
  split
  · rw [Int.emod_eq_of_lt (by omega) (by omega)]
  · have z : (y - x) % s = (y - x + s) % s := by
      rw [Int.add_emod_right]
    rw [z, Int.emod_eq_of_lt (by omega) (by omega)]
theorem HS.same {h : Addr} {n : Nat} {H H' : Hp} (q : HS h n H) (e : Same H H') : HS h n H' := by
  obtain ⟨g, b, c, eh, r⟩ := q
  exact ⟨g, b, c, e _ _ eh, r⟩
theorem Fr.same {h : Addr} {H H' : Hp} (e : Same H H') : Fr h H H' := fun a o _ q => e a o q
theorem same_new {H : Hp} {p : Addr} {o : HO} (h : H p = none) : Same H (upd H p o) := fun b x e => by
  rw [upd_ne (ne_of_none e h)]
  exact e
theorem seq_new {K : PySem.W.Frag} {H H' : Hp} {a p : Addr} {xs : List V} (q : SqL K H a xs) (e : H p = none) (f : Fr p H H') : SqL K H' a xs := by
  rcases q with (q | ⟨o, q⟩) | q
  · exact .inl (.inl (f _ _ (ne_of_none q e) q))
  · exact .inl (.inr ⟨o, f _ _ (ne_of_none q e) q⟩)
  · exact .inr q
theorem all_rep (n : Nat) : (List.replicate n true).all id = true := by
  rw [List.all_eq_true]
  intro x hx
  exact (List.eq_of_mem_replicate hx)
theorem if_join {c : TT} {t1 t2 : TS} {D : Ends} {σ : L2.St} {H : Hp} (J : L2.St → Hp → Prop) (h : ∀ (N : L2.St → Hp → Prop), (∀ σ' H', J σ' H' → N σ' H') → tIfS c t1 t2 { D with nx := N } σ H) (q : ∀ σ' H', J σ' H' → D.nx σ' H') : tIfS c t1 t2 D σ H := h D.nx q
def spLaw (K : PySem.W.Frag) : Sp := fun vs H Q _ => ∃ (a : Addr) (ns : List Int), vs = [.ref a] ∧ SqL K H a (ns.map V.int) ∧ ns.length ≤ 63 ∧ ∀ H', Q (.bl true) H'
section
variable {P : Program} {w : World} {K : PySem.W.Frag} {mg : Str → Option Value} {base : Heap}
theorem ok_of (T : Tx K mg) (c_l_take : C8.Cal P w K mg base 1 "_law_take" spTake []) : BodyOk P w K mg base "_law_of" s_l_of N_l_of 1 (spOf K) := by
  intro f cdv A outer s H vs Q E hr h
  obtain ⟨h, a, xs, n, rfl, hs, hn, ne, hS, l0, l1, q⟩ := h
  refine ⟨_, (pss_one (ps_ret (pe_ix ix_list (pv 1) (C8.pe_c c_l_take hr (by decide) (gl_of gl_l_of_l_take) (pa_cons (pv 0) (pa_cons (pe_callB call_len_seq (gl_of gl_l_of_len) T.len bb_len (pa_cons (pv 1) pa_nil)) pa_nil))) (fun _ _ => rfl)))), ?_⟩
  refine ⟨_, rfl, _, rfl, _, rfl, a, xs, rfl, .inl hS, h, _, n, rfl, hs, hn, ?_, ?_, fun d H1 d0 d1 hs1 f1 => ?_⟩
  · omega
  · have z : (10 : Int) ^ 18 = 1000000000000000000 := by decide
    omega
  · obtain ⟨v, ev, hv⟩ := atI_in d0 d1
    exact ⟨a, xs, d, v, rfl, rfl, f1.seq ne hS, ev, q v H1 hv hs1 f1⟩
end
/-! ### tuples: sums, slices, whatever they share -/
theorem catA_ev {K : PySem.W.Frag} {H : Hp} {a b : Addr} {xs ys : List V} {Q : VK} (ha : SqT K H a xs) (hb : SqT K H b ys) (hz : xs.length + ys.length ≤ 1000) (go : ∀ p H', Same H H' → SqT K H' p (xs ++ ys) → Q (.ref p) H') : rCatA K (.ref a) (.ref b) H Q := by
  refine ⟨a, b, xs, ys, rfl, rfl, ha, hb, Nat.le_of_lt (small1000 hz), fun e => ?_, fun e1 e2 => ?_, fun e1 e2 p np => ?_⟩
  · subst e
    exact go b H (fun _ _ q => q) hb
  · subst e2
    refine go a H (fun _ _ q => q) ?_
    rw [List.append_nil]
    exact ha
  · exact go p _ (same_new np) (SqT.of upd_same)
theorem slA_ev {K : PySem.W.Frag} {H : Hp} {a : Addr} {xs : List V} {lo hi : Option Int} {Q : VK} (ha : SqT K H a xs) (go : ∀ p H', Same H H' → SqT K H' p (cutV xs lo hi) → Q (.ref p) H') : rSlA K (.ref a) lo hi H Q := by
  refine ⟨a, xs, rfl, ha, fun e => ?_, fun e p np => ?_⟩
  · refine go a H (fun _ _ q => q) ?_
    unfold cutV
    rw [e.1, e.2, List.drop_zero, Nat.sub_zero, List.take_length]
    exact ha
  · exact go p _ (same_new np) (SqT.of upd_same)
theorem sqT_fr {K : PySem.W.Frag} {L : Addr} {H H' : Hp} {a : Addr} {xs zs : List V} (eL : H L = some (.lst zs)) (f : Fr L H H') (s : SqT K H a xs) : SqT K H' a xs := by
  rcases s with (s | ⟨o, s⟩) | s
  · exact .inl (.inl (f _ _ (fun e => by rw [e, eL] at s; cases s) s))
  · exact .inl (.inr ⟨o, f _ _ (fun e => by rw [e, eL] at s; cases s) s⟩)
  · exact .inr s
theorem HS.fr {h L : Addr} {n : Nat} {H H' : Hp} (q : HS h n H) (f : Fr L H H') (ne : L ≠ h) : HS h n H' := by
  obtain ⟨g, b, c, eh, r⟩ := q
  exact ⟨g, b, c, f _ _ ne.symm eh, r⟩
theorem HS.upd {h L : Addr} {n : Nat} {H : Hp} {o : HO} (q : HS h n H) (ne : L ≠ h) : HS h n (upd H L o) := by
  obtain ⟨g, b, c, eh, r⟩ := q
  exact ⟨g, b, c, (by rw [upd_ne ne.symm]; exact eh), r⟩
theorem lg {i : Int} (h : i.natAbs < 2 ^ 64) : i.natAbs.log2 < 1920 := by
  by_cases z : i.natAbs = 0
  · rw [z]
    decide
  · rw [Nat.log2_lt z]
    exact Nat.lt_trans h (Nat.pow_lt_pow_right (by decide) (by decide))
theorem same_mut {H H' : Hp} {p : Addr} {o : HO} (e : Same H H') (h : H p = none) : Same H (upd H' p o) := fun b x q => by
  rw [upd_ne (ne_of_none q h)]
  exact e b x q
theorem dec_refl (v : V) : decide (v = v) = true := decide_eq_true rfl
theorem take_add1 {α : Type} (l : List α) (i : Nat) (h : i < l.length) : l.take (i + 1) = l.take i ++ [l[i]] := by
  rw [List.take_succ, List.getElem?_eq_getElem h]
  rfl
/-! ### small data -/
structure Small (m : Nat) (d : PyData) : Prop where
  sh : d.showable = true
  nd : d.hasDict = false
  dp : d.depth ≤ 3
  ls : d.leavesShort 20 = true
  wt : d.weight ≤ m
theorem Small.fits {m : Nat} {d : PyData} (s : Small m d) (h : m ≤ 100000) : d.showable = true ∧ d.hasDict = false ∧ d.depth ≤ 60 ∧ d.shown.length ≤ sizeLine := by
  have o3 := s.dp
  have o5 := s.wt
  refine ⟨s.sh, s.nd, by omega, ?_⟩
  have z := PyData.shown_le 20 (by decide) d s.ls
  have e : sizeLine = 16777216 := sizeLine_eq
  omega
/-- a thing without parts, and its data -/
structure Lf (v : V) (d : PyData) : Prop where
  at_ : ∀ (K : PySem.W.Frag) (H : Hp), Dp K H v d
  sh : d.showable = true
  nd : d.hasDict = false
  dp : d.depth = 0
  ls : d.leavesShort 20 = true
  wt : d.weight ≤ 64
theorem Lf.small {v : V} {d : PyData} (l : Lf v d) : Small 64 d := ⟨l.sh, l.nd, by rw [l.dp]; decide, l.ls, l.wt⟩
theorem lf_non : Lf .non .none := ⟨fun _ _ => .non, rfl, rfl, rfl, rfl, by decide⟩
theorem lf_int {i : Int} (h : i.natAbs < 2 ^ 62) : Lf (.int i) (.int i) := by
  have e62 : (2 : Nat) ^ 62 = 4611686018427387904 := by decide
  refine ⟨fun _ _ => .int i, decide_eq_true (lg (Nat.lt_trans h (by decide))), rfl, rfl, ?_, ?_⟩
  · show decide ((PyData.shown (.int i)).length ≤ 20) = true
    refine decide_eq_true ?_
    have e := int_text_length_le10 (k := 19) (a := i) (by decide) (by omega)
    show (Str.ofString (toString i)).length ≤ 20
    rw [PySem.ofString_length]
    exact e
  · show (if i == 0 then 0 else i.natAbs.log2 + 1) ≤ 64
    split
    · decide
    · rename_i z
      have z1 : i.natAbs ≠ 0 := fun e => z (by simpa using e)
      have z2 := (Nat.log2_lt z1).mpr h
      omega
theorem lf_str {z : Str} (h : z.cps.size ≤ 64) (ha : (z.cps.toList.all fun c => decide (c < 16 ^ 8)) = true) : Lf (.str z) (.str z) := ⟨fun _ _ => .str z, rfl, rfl, rfl, ha, h⟩
def onV : Option Int → V
  | none => .non
  | some i => .int i
def onD : Option Int → PyData
  | none => .none
  | some i => .int i
theorem lf_on {x : Option Int} (h : ∀ i, x = some i → 0 ≤ i ∧ i < 1048576) : Lf (onV x) (onD x) := by
  cases x with
  | none => exact lf_non
  | some i =>
    have z := h i rfl
    have e62 : (2 : Nat) ^ 62 = 4611686018427387904 := by decide
    exact lf_int (by omega)
theorem small_tup4 {K : PySem.W.Frag} {H : Hp} {p : Addr} {a b c d : V} {da db dc dd : PyData} (h : SqT K H p [a, b, c, d]) (la : Lf a da) (lb : Lf b db) (lc : Lf c dc) (ld : Lf d dd) :
    Dp K H (.ref p) (.tuple [da, db, dc, dd]) ∧ Small 300 (.tuple [da, db, dc, dd]) := by
  refine ⟨.tup h (.cons (la.at_ K H) (.cons (lb.at_ K H) (.cons (lc.at_ K H) (.cons (ld.at_ K H) .nil)))), ?_, ?_, ?_, ?_, ?_⟩
  · simp only [PyData.showable, PyData.showableAll, la.sh, lb.sh, lc.sh, ld.sh, Bool.and_self]
  · simp only [PyData.hasDict, PyData.hasDictAll, la.nd, lb.nd, lc.nd, ld.nd, Bool.or_self]
  · simp only [PyData.depth, PyData.depthAll, la.dp, lb.dp, lc.dp, ld.dp]
    decide
  · simp only [PyData.leavesShort, PyData.leavesShortAll, la.ls, lb.ls, lc.ls, ld.ls, Bool.and_self]
  · simp only [PyData.weight, PyData.weightAll]
    have := la.wt
    have := lb.wt
    have := lc.wt
    have := ld.wt
    omega
/-! ### rounds -/
theorem HS.neT {h : Addr} {n : Nat} {H : Hp} {p : Addr} {xs : List V} (q : HS h n H) (e : H p = some (.tup xs)) : p ≠ h := by
  obtain ⟨g, b, c, eh, _⟩ := q
  intro z
  rw [z, eh] at e
  cases e
theorem HS.sqT {h : Addr} {n : Nat} {K : PySem.W.Frag} {H H' : Hp} {a : Addr} {xs : List V} (q : HS h n H) (f : Fr h H H') (s : SqT K H a xs) : SqT K H' a xs := by
  obtain ⟨g, b, c, eh, _⟩ := q
  rcases s with (s | ⟨o, s⟩) | s
  · exact .inl (.inl (f _ _ (fun e => by rw [e, eh] at s; cases s) s))
  · exact .inl (.inr ⟨o, f _ _ (fun e => by rw [e, eh] at s; cases s) s⟩)
  · exact .inr s
theorem sqT_same {K : PySem.W.Frag} {H H' : Hp} {a : Addr} {xs : List V} (s : Same H H') (h : SqT K H a xs) : SqT K H' a xs := by
  rcases h with (h | ⟨o, h⟩) | h
  · exact .inl (.inl (s _ _ h))
  · exact .inl (.inr ⟨o, s _ _ h⟩)
  · exact .inr h
theorem flat_ints : ∀ ks : List Int, (ks.map V.int).all flatV = true
  | [] => rfl
  | k :: r => by
    show (flatV (.int k) && (r.map V.int).all flatV) = true
    rw [flat_ints r]
    rfl
/-- at a a tuple of pairs of whole numbers -/
def Rs (K : PySem.W.Frag) (H : Hp) (a : Addr) (rs : List (Int × Int)) : Prop := ∃ vs : List V, SqT K H a vs ∧ vs.length = rs.length ∧ ∀ (i : Nat) (r : Int × Int), rs[i]? = some r → ∃ b : Addr, vs[i]? = some (V.ref b) ∧ SqT K H b [.int r.1, .int r.2]
theorem Rs.same {K : PySem.W.Frag} {H H' : Hp} {a : Addr} {rs : List (Int × Int)} (q : Rs K H a rs) (s : Same H H') : Rs K H' a rs := by
  obtain ⟨vs, h1, h2, h3⟩ := q
  refine ⟨vs, sqT_same s h1, h2, fun i r hr => ?_⟩
  obtain ⟨b, e, hb⟩ := h3 i r hr
  exact ⟨b, e, sqT_same s hb⟩
theorem Rs.fr {K : PySem.W.Frag} {h : Addr} {n : Nat} {H H' : Hp} {a : Addr} {rs : List (Int × Int)} (q : Rs K H a rs) (hs : HS h n H) (f : Fr h H H') : Rs K H' a rs := by
  obtain ⟨vs, h1, h2, h3⟩ := q
  refine ⟨vs, hs.sqT f h1, h2, fun i r hr => ?_⟩
  obtain ⟨b, e, hb⟩ := h3 i r hr
  exact ⟨b, e, hs.sqT f hb⟩
def lft (b : Bool) (l st : Int) : Int := if b = true ∧ l < st then l else st
theorem lft_le (b : Bool) (l st : Int) : lft b l st ≤ st := by
  unfold lft
  split <;> omega
theorem lft_ge {b : Bool} {l st : Int} (h : 0 ≤ l) (h2 : 0 ≤ st) : 0 ≤ lft b l st := by
  unfold lft
  split <;> omega
/-- the steps behind each round, to the first above the room -/
def pas (sm : Nat → Bool) (room : Int) : List (Int × Int) → Nat → Int → List Int
  | [], _, _ => []
  | r :: rs, k, st => if room < lft (sm k) r.2 st + r.1 then [lft (sm k) r.2 st + r.1] else (lft (sm k) r.2 st + r.1) :: pas sm room rs (k + 1) (lft (sm k) r.2 st + r.1)
theorem pas_len (sm : Nat → Bool) (room : Int) : ∀ (rs : List (Int × Int)) (k : Nat) (st : Int), (pas sm room rs k st).length ≤ rs.length
  | [], _, _ => Nat.le_refl _
  | r :: rs, k, st => by
    unfold pas
    split
    · simp
    · simp only [List.length_cons]
      have := pas_len sm room rs (k + 1) (lft (sm k) r.2 st + r.1)
      omega
theorem pas_bound (sm : Nat → Bool) (room B : Int) : ∀ (rs : List (Int × Int)) (k : Nat) (st : Int), 0 ≤ st → (∀ r ∈ rs, 0 ≤ r.1 ∧ r.1 ≤ B ∧ 0 ≤ r.2) → ∀ x ∈ pas sm room rs k st, 0 ≤ x ∧ x ≤ st + B * rs.length
  | [], _, _, _, _, x, hx => by cases hx
  | r :: rs, k, st, h0, hr, x, hx => by
    have r0 := hr r (List.mem_cons_self ..)
    have B0 : 0 ≤ B := by omega
    have z1 : 0 ≤ lft (sm k) r.2 st ∧ lft (sm k) r.2 st ≤ st := ⟨lft_ge r0.2.2 h0, lft_le _ _ _⟩
    have e : B * ((r :: rs).length : Int) = B * rs.length + B := by
      rw [List.length_cons, Int.natCast_add, Int.mul_add]
      simp
    have m0 : 0 ≤ B * (rs.length : Int) := Int.mul_nonneg B0 (by omega)
    rw [e]
    unfold pas at hx
    split at hx
    · rw [List.mem_singleton.mp hx]
      omega
    · rcases List.mem_cons.mp hx with z | z
      · rw [z]
        omega
      · have ih := pas_bound sm room B rs (k + 1) _ (by omega) (fun q hq => hr q (List.mem_cons_of_mem _ hq)) x z
        omega
/-- one turn of the loop: what is told so far, what stands -/
theorem pas_turn {sm : Nat → Bool} {room : Int} {rs : List (Int × Int)} {i : Nat} {r : Int × Int} {st : Int} {acc tot : List Int} (hr : rs[i]? = some r) (h : tot = acc ++ pas sm room (rs.drop i) i st) :
    (room < lft (sm i) r.2 st + r.1 → tot = acc ++ [lft (sm i) r.2 st + r.1]) ∧
    (¬ room < lft (sm i) r.2 st + r.1 → tot = (acc ++ [lft (sm i) r.2 st + r.1]) ++ pas sm room (rs.drop (i + 1)) (i + 1) (lft (sm i) r.2 st + r.1)) := by
  obtain ⟨hi, e⟩ := List.getElem?_eq_some_iff.mp hr
  have ed : rs.drop i = r :: rs.drop (i + 1) := by
    rw [List.drop_eq_getElem_cons hi, e]
  rw [ed] at h
  unfold pas at h
  refine ⟨fun c => ?_, fun c => ?_⟩
  · rw [if_pos c] at h
    exact h
  · rw [if_neg c] at h
    rw [h, List.append_assoc]
    rfl
def spPasses (K : PySem.W.Frag) : Sp := fun vs H Q _ => ∃ (a b : Addr) (room : Int) (rs : List (Int × Int)) (ys : List Int), vs = [.ref a, .ref b, .int room] ∧ Rs K H a rs ∧ rs.length ≤ 1000 ∧ SqT K H b (ys.map V.int) ∧
  ∀ p H', Same H H' → SqT K H' p ((pas (fun k => inV (.int (k : Nat)) (ys.map V.int)) room rs 0 0).map V.int) → Q (.ref p) H'
def spStepsL (K : PySem.W.Frag) : Sp := fun vs H Q _ => ∃ (a b : Addr) (room : Int) (rs : List (Int × Int)) (ys : List Int), vs = [.ref a, .ref b, .int room] ∧ Rs K H a rs ∧ rs.length ≤ 1000 ∧ SqT K H b (ys.map V.int) ∧
  ∀ p H', H p = none → Same H H' → H' p = some (.lst ((pas (fun k => inV (.int (k : Nat)) (ys.map V.int)) room rs 0 0).map V.int)) → Q (.ref p) H'
/-! ### lists of small data -/
structure SmallA (m D : Nat) (ds : List PyData) : Prop where
  sh : PyData.showableAll ds = true
  nd : PyData.hasDictAll ds = false
  dp : PyData.depthAll ds ≤ D
  ls : PyData.leavesShortAll 20 ds = true
  wt : PyData.weightAll ds ≤ m
theorem SmallA.nil {m D : Nat} : SmallA m D [] := ⟨rfl, rfl, Nat.zero_le _, rfl, Nat.zero_le _⟩
theorem SmallA.cons {m a D : Nat} {d : PyData} {ds : List PyData} (h : Small a d) (hd : d.depth ≤ D) (t : SmallA m D ds) : SmallA (m + a + 2) D (d :: ds) := by
  refine ⟨?_, ?_, ?_, ?_, ?_⟩
  · simp only [PyData.showableAll, h.sh, t.sh, Bool.and_self]
  · simp only [PyData.hasDictAll, h.nd, t.nd, Bool.or_self]
  · have := t.dp
    simp only [PyData.depthAll]
    omega
  · simp only [PyData.leavesShortAll, h.ls, t.ls, Bool.and_self]
  · have := t.wt
    have := h.wt
    simp only [PyData.weightAll]
    omega
theorem SmallA.mono {m m' D : Nat} {ds : List PyData} (h : SmallA m D ds) (l : m ≤ m') : SmallA m' D ds := ⟨h.sh, h.nd, h.dp, h.ls, Nat.le_trans h.wt l⟩
theorem SmallA.all {a D : Nat} : ∀ {ds : List PyData}, (∀ d ∈ ds, Small a d ∧ d.depth ≤ D) → SmallA ((a + 2) * ds.length) D ds
  | [], _ => .nil
  | d :: ds, h => by
    have z := SmallA.all (ds := ds) fun x hx => h x (List.mem_cons_of_mem _ hx)
    have y := h d (List.mem_cons_self ..)
    refine (SmallA.cons y.1 y.2 z).mono ?_
    rw [List.length_cons, Nat.mul_add]
    omega
theorem SmallA.tup {m : Nat} {ds : List PyData} (h : SmallA m 2 ds) : Small m (.tuple ds) := by
  refine ⟨?_, ?_, ?_, ?_, ?_⟩
  · simp only [PyData.showable, h.sh]
  · simp only [PyData.hasDict, h.nd]
  · have := h.dp
    simp only [PyData.depth]
    omega
  · simp only [PyData.leavesShort, h.ls]
  · simp only [PyData.weight]
    exact h.wt
theorem dpAll_ints (K : PySem.W.Frag) (H : Hp) : ∀ ns : List Int, DpAll K H (ns.map V.int) (ns.map PyData.int)
  | [] => .nil
  | n :: ns => .cons (.int n) (dpAll_ints K H ns)
theorem ints_data {K : PySem.W.Frag} {H : Hp} {p : Addr} {ns : List Int} (h : SqT K H p (ns.map V.int)) (hb : ∀ x ∈ ns, x.natAbs < 2 ^ 62) (hl : ns.length ≤ 1000) : Dp K H (.ref p) (.tuple (ns.map PyData.int)) ∧ Small 66000 (.tuple (ns.map PyData.int)) := by
  refine ⟨.tup h (dpAll_ints K H ns), SmallA.tup (SmallA.mono (SmallA.all (a := 64) (D := 2) (ds := ns.map PyData.int) fun d hd => ?_) ?_)⟩
  · obtain ⟨x, hx, rfl⟩ := List.mem_map.mp hd
    have l := lf_int (hb x hx)
    exact ⟨l.small, by rw [l.dp]; decide⟩
  · rw [List.length_map]
    omega
def rsD (rs : List (Int × Int)) : List PyData := rs.map fun r => .tuple [.int r.1, .int r.2]
theorem small_pair {x y : Int} (hx : x.natAbs < 2 ^ 62) (hy : y.natAbs < 2 ^ 62) : Small 140 (.tuple [.int x, .int y]) ∧ (PyData.tuple [.int x, .int y]).depth ≤ 2 := by
  have l1 := lf_int hx
  have l2 := lf_int hy
  have z : SmallA 136 0 [.int x, .int y] := (SmallA.cons l1.small (by rw [l1.dp]; decide) (SmallA.cons l2.small (by rw [l2.dp]; decide) (SmallA.nil (m := 0)))).mono (by decide)
  have z2 : SmallA 136 2 [.int x, .int y] := ⟨z.sh, z.nd, Nat.le_trans z.dp (by decide), z.ls, z.wt⟩
  have z3 := SmallA.tup z2
  refine ⟨⟨z3.sh, z3.nd, z3.dp, z3.ls, Nat.le_trans z3.wt (by decide)⟩, ?_⟩
  have := z.dp
  simp only [PyData.depth]
  omega
theorem rs_all {K : PySem.W.Frag} {H : Hp} : ∀ {vs : List V} {rs : List (Int × Int)}, vs.length = rs.length → (∀ (i : Nat) (r : Int × Int), rs[i]? = some r → ∃ b, vs[i]? = some (.ref b) ∧ SqT K H b [.int r.1, .int r.2]) → DpAll K H vs (rsD rs)
  | [], [], _, _ => .nil
  | [], _ :: _, h, _ => by cases h
  | _ :: _, [], h, _ => by cases h
  | v :: vs, r :: rs, h, g => by
    obtain ⟨b, e, hb⟩ := g 0 r rfl
    cases e
    exact .cons (.tup hb (.cons (.int _) (.cons (.int _) .nil))) (rs_all (Nat.succ.inj h) fun i q hq => g (i + 1) q hq)
theorem rs_data {K : PySem.W.Frag} {H : Hp} {p : Addr} {rs : List (Int × Int)} (h : Rs K H p rs) (hb : ∀ r ∈ rs, r.1.natAbs < 2 ^ 62 ∧ r.2.natAbs < 2 ^ 62) (hl : rs.length ≤ 100) : Dp K H (.ref p) (.tuple (rsD rs)) ∧ Small 20000 (.tuple (rsD rs)) := by
  obtain ⟨vs, h1, h2, h3⟩ := h
  refine ⟨.tup h1 (rs_all h2 h3), SmallA.tup (SmallA.mono (SmallA.all (a := 140) (D := 2) (ds := rsD rs) fun d hd => ?_) ?_)⟩
  · obtain ⟨r, hr, rfl⟩ := List.mem_map.mp hd
    exact small_pair (hb r hr).1 (hb r hr).2
  · unfold rsD
    rw [List.length_map]
    omega
/-- the law's body, called by the caller itself -/
def BodyAt (P : Program) (w : World) (K : PySem.W.Frag) (mg : Str → Option Value) (base : Heap) (x : Str) (st : Stmt) (N : List Str) (k : Nat) (sp : Sp) : Prop :=
  ∀ (f : Addr) (cdv : Value) (s : Shared) (H : Hp) (vs : List V) (Q : VK) (E : XK), Room k (callerA.deeper (envOfC x (defScope st) s.heap.objs.size f cdv)) → sp vs H Q E →
      ∃ t, PSs (cxOf CX0 P w K mg base N x (defScope st) f cdv callerA [] s H E).nox (defBody st) t ∧ t { nx := fun _ H' => Q .non H', rt := Q } (start N vs) H
/-! ### plans: which rounds are passed -/
namespace Pl
/-- the first round from k on that is not passed, where st stand ahead of it -/
def enI (room : Int) : List (Int × Int) → Nat → Int → Nat
  | [], k, _ => k
  | r :: rs, k, st => if room < st + r.1 then k else enI room rs (k + 1) (st + r.1)
theorem enI_ge (room : Int) : ∀ (rs : List (Int × Int)) (k : Nat) (st : Int), k ≤ enI room rs k st
  | [], _, _ => Nat.le_refl _
  | r :: rs, k, st => by
    unfold enI
    split
    · exact Nat.le_refl _
    · have := enI_ge room rs (k + 1) (st + r.1)
      omega
theorem enI_le (room : Int) : ∀ (rs : List (Int × Int)) (k : Nat) (st : Int), enI room rs k st ≤ k + rs.length
  | [], _, _ => Nat.le_refl _
  | r :: rs, k, st => by
    unfold enI
    split
    · omega
    · have := enI_le room rs (k + 1) (st + r.1)
      rw [List.length_cons]
      omega
theorem enI_anti (room : Int) : ∀ (rs : List (Int × Int)) (k : Nat) (st st2 : Int), st ≤ st2 → enI room rs k st2 ≤ enI room rs k st
  | [], _, _, _, _ => Nat.le_refl _
  | r :: rs, k, st, st2, h => by
    unfold enI
    by_cases c : room < st2 + r.1
    · rw [if_pos c]
      split
      · exact Nat.le_refl _
      · have := enI_ge room rs (k + 1) (st + r.1)
        omega
    · rw [if_neg c, if_neg (by omega)]
      exact enI_anti room rs (k + 1) _ _ (by omega)
theorem enI_over {room : Int} {rs : List (Int × Int)} {k : Nat} {st : Int} (h0 : ∀ r ∈ rs, 0 ≤ r.1) (h : room < st) : enI room rs k st = k := by
  cases rs with
  | nil => rfl
  | cons r rs =>
    unfold enI
    have := h0 r (List.mem_cons_self ..)
    rw [if_pos (by omega)]
/-- how many rounds are passed -/
def psd (sm : Nat → Bool) (room : Int) : List (Int × Int) → Nat → Int → Nat
  | [], _, _ => 0
  | r :: rs, k, st => if room < lft (sm k) r.2 st + r.1 then 0 else psd sm room rs (k + 1) (lft (sm k) r.2 st + r.1) + 1
theorem psd_le (sm : Nat → Bool) (room : Int) : ∀ (rs : List (Int × Int)) (k : Nat) (st : Int), psd sm room rs k st ≤ rs.length
  | [], _, _ => Nat.le_refl _
  | r :: rs, k, st => by
    unfold psd
    split
    · omega
    · have := psd_le sm room rs (k + 1) (lft (sm k) r.2 st + r.1)
      rw [List.length_cons]
      omega
theorem pas_filter (sm : Nat → Bool) (room : Int) : ∀ (rs : List (Int × Int)) (k : Nat) (st : Int), ((pas sm room rs k st).filter fun x => decide (x ≤ room)).length = psd sm room rs k st
  | [], _, _ => rfl
  | r :: rs, k, st => by
    unfold pas psd
    by_cases c : room < lft (sm k) r.2 st + r.1
    · rw [if_pos c, if_pos c, List.filter_cons, if_neg (by simp; omega)]
      rfl
    · rw [if_neg c, if_neg c, List.filter_cons, if_pos (by simp; omega), List.length_cons, pas_filter sm room rs (k + 1)]
def Cov (sm : Nat → Bool) (room : Int) (rs : List (Int × Int)) (k : Nat) (st : Int) (i : Nat) : Prop := k + i < enI room rs k st ∨ ∃ f r, f ≤ i ∧ rs[f]? = some r ∧ sm (k + f) = true ∧ k + i < enI room (rs.drop f) (k + f) r.2
theorem lft_cases (b : Bool) (l st : Int) : lft b l st = st ∨ (b = true ∧ lft b l st = l) := by
  unfold lft
  split
  · rename_i c
    exact .inr ⟨c.1, rfl⟩
  · exact .inl rfl
theorem psd_char (sm : Nat → Bool) (room : Int) : ∀ (rs : List (Int × Int)) (k : Nat) (st : Int), (∀ r ∈ rs, 0 ≤ r.1) →
    (∀ i, i < psd sm room rs k st → Cov sm room rs k st i) ∧ (psd sm room rs k st < rs.length → ¬ Cov sm room rs k st (psd sm room rs k st))
  | [], _, _, _ => ⟨fun i h => absurd h (Nat.not_lt_zero _), fun h => absurd h (Nat.lt_irrefl _)⟩
  | r :: rs, k, st, h0 => by
    have h1 : ∀ q ∈ rs, 0 ≤ q.1 := fun q hq => h0 q (List.mem_cons_of_mem _ hq)
    have r0 := h0 r (List.mem_cons_self ..)
    obtain ⟨ih1, ih2⟩ := psd_char sm room rs (k + 1) (lft (sm k) r.2 st + r.1) h1
    -- the first round
    have c0 : Cov sm room (r :: rs) k st 0 ↔ ¬ room < lft (sm k) r.2 st + r.1 := by
      have e1 : ∀ z : Int, k + 0 < enI room (r :: rs) k z ↔ ¬ room < z + r.1 := fun z => by
        unfold enI
        split
        · constructor
          · intro q
            omega
          · intro q
            contradiction
        · have := enI_ge room rs (k + 1) (z + r.1)
          constructor
          · intro _
            assumption
          · intro _
            omega
      unfold Cov
      constructor
      · rintro (h | ⟨f, q, hf, hq, hs, h⟩)
        · have a := (e1 st).mp h
          have b := lft_le (sm k) r.2 st
          omega
        · have f0 : f = 0 := by omega
          subst f0
          cases hq
          have a := (e1 r.2).mp h
          have b : lft (sm k) r.2 st ≤ r.2 := by
            have hs' : sm k = true := hs
            unfold lft
            split
            · omega
            · rename_i c
              rw [hs'] at c
              have : ¬ r.2 < st := fun z => c ⟨rfl, z⟩
              omega
          omega
      · intro h
        rcases lft_cases (sm k) r.2 st with e | ⟨e1', e⟩
        · rw [e] at h
          exact .inl ((e1 st).mpr h)
        · rw [e] at h
          exact .inr ⟨0, r, Nat.le_refl _, rfl, e1', (e1 r.2).mpr h⟩
    -- those behind it
    have cs : ∀ i, Cov sm room (r :: rs) k st (i + 1) ↔ Cov sm room rs (k + 1) (lft (sm k) r.2 st + r.1) i := by
      intro i
      have e1 : ∀ z : Int, k + (i + 1) < enI room (r :: rs) k z ↔ k + 1 + i < enI room rs (k + 1) (z + r.1) := fun z => by
        have e : enI room (r :: rs) k z = if room < z + r.1 then k else enI room rs (k + 1) (z + r.1) := rfl
        rw [e]
        split
        · rename_i c
          rw [enI_over h1 c]
          omega
        · omega
      unfold Cov
      constructor
      · rintro (h | ⟨f, q, hf, hq, hs, h⟩)
        · refine .inl (Nat.lt_of_lt_of_le ((e1 st).mp h) (enI_anti room rs (k + 1) _ _ ?_))
          have := lft_le (sm k) r.2 st
          omega
        · cases f with
          | zero =>
            cases hq
            refine .inl (Nat.lt_of_lt_of_le ((e1 r.2).mp h) (enI_anti room rs (k + 1) _ _ ?_))
            have hs' : sm k = true := hs
            unfold lft
            split
            · omega
            · rename_i c
              rw [hs'] at c
              have : ¬ r.2 < st := fun z => c ⟨rfl, z⟩
              omega
          | succ f =>
            refine .inr ⟨f, q, by omega, hq, ?_, ?_⟩
            · rw [show k + 1 + f = k + (f + 1) by omega]
              exact hs
            · rw [show k + 1 + f = k + (f + 1) by omega, show k + 1 + i = k + (i + 1) by omega]
              exact h
      · rintro (h | ⟨f, q, hf, hq, hs, h⟩)
        · rcases lft_cases (sm k) r.2 st with e | ⟨e1', e⟩
          · rw [e] at h
            exact .inl ((e1 st).mpr h)
          · rw [e] at h
            exact .inr ⟨0, r, Nat.zero_le _, rfl, e1', (e1 r.2).mpr h⟩
        · refine .inr ⟨f + 1, q, by omega, hq, ?_, ?_⟩
          · rw [show k + (f + 1) = k + 1 + f by omega]
            exact hs
          · rw [show k + (f + 1) = k + 1 + f by omega, show k + (i + 1) = k + 1 + i by omega]
            exact h
    have ep : psd sm room (r :: rs) k st = if room < lft (sm k) r.2 st + r.1 then 0 else psd sm room rs (k + 1) (lft (sm k) r.2 st + r.1) + 1 := rfl
    rw [ep]
    by_cases c : room < lft (sm k) r.2 st + r.1
    · rw [if_pos c]
      exact ⟨fun i h => absurd h (Nat.not_lt_zero _), fun _ h => absurd c (c0.mp h)⟩
    · rw [if_neg c]
      refine ⟨fun i h => ?_, fun h => ?_⟩
      · cases i with
        | zero => exact c0.mpr c
        | succ i => exact (cs i).mpr (ih1 i (by omega))
      · rw [List.length_cons] at h
        exact fun q => ih2 (by omega) ((cs _).mp q)
/-- where a freezing ahead of round f leads to -/
def En (room : Int) (rs : List (Int × Int)) (f : Nat) : Nat := enI room (rs.drop f) f ((rs[f]?.map (·.2)).getD 0)
/-- how many rounds are passed with these freezings -/
def Psd (sm : Nat → Bool) (room : Int) (rs : List (Int × Int)) : Nat := psd sm room rs 0 0
theorem Psd_cov {sm : Nat → Bool} {room : Int} {rs : List (Int × Int)} (h0 : ∀ r ∈ rs, 0 ≤ r.1) {i : Nat} (h : i < Psd sm room rs) : i < enI room rs 0 0 ∨ ∃ f, f ≤ i ∧ f < rs.length ∧ sm f = true ∧ i < En room rs f := by
  rcases (psd_char sm room rs 0 0 h0).1 i h with z | ⟨f, r, hf, hr, hs, z⟩
  · exact .inl (by simpa using z)
  · refine .inr ⟨f, hf, (List.getElem?_eq_some_iff.mp hr).1, by simpa using hs, ?_⟩
    unfold En
    rw [hr]
    simpa using z
theorem Psd_ge {sm : Nat → Bool} {room : Int} {rs : List (Int × Int)} (h0 : ∀ r ∈ rs, 0 ≤ r.1) {m : Nat} (hm : m ≤ rs.length) (h : ∀ i, i < m → i < enI room rs 0 0 ∨ ∃ f, f ≤ i ∧ f < rs.length ∧ sm f = true ∧ i < En room rs f) : m ≤ Psd sm room rs := by
  by_cases c : m ≤ Psd sm room rs
  · exact c
  · have l : Psd sm room rs < m := by omega
    refine absurd ?_ ((psd_char sm room rs 0 0 h0).2 (show Psd sm room rs < rs.length by omega))
    rcases h _ l with z | ⟨f, hf, hl, hs, z⟩
    · refine .inl ?_
      rw [Nat.zero_add]
      exact z
    · refine .inr ⟨f, rs[f], hf, List.getElem?_eq_getElem hl, by simpa using hs, ?_⟩
      unfold En at z
      rw [List.getElem?_eq_getElem hl] at z
      rw [Nat.zero_add, Nat.zero_add]
      exact z
theorem Psd_le (sm : Nat → Bool) (room : Int) (rs : List (Int × Int)) : Psd sm room rs ≤ rs.length := psd_le sm room rs 0 0
theorem En_le {room : Int} {rs : List (Int × Int)} {f : Nat} (h : f ≤ rs.length) : En room rs f ≤ rs.length := by
  have := enI_le room (rs.drop f) f ((rs[f]?.map (·.2)).getD 0)
  rw [List.length_drop] at this
  unfold En
  omega
/-- what is told of rounds: how far one comes with none, one, two .. freezings, and ahead of which rounds -/
structure Stg (room : Int) (rs : List (Int × Int)) (ms fs : List Nat) : Prop where
  len : ms.length = fs.length + 1
  zero : ms[0]? = some (enI room rs 0 0)
  le : ∀ m ∈ ms, m ≤ rs.length
  step : ∀ (j f m m' : Nat), fs[j]? = some f → ms[j]? = some m → ms[j + 1]? = some m' → f ≤ m ∧ m < rs.length ∧ En room rs f = m' ∧ m < m' ∧ ∀ g, g ≤ m → En room rs g ≤ m'
/-- .. and no further -/
def Last (room : Int) (rs : List (Int × Int)) (ms : List Nat) : Prop := ∀ m, ms[ms.length - 1]? = some m → m = rs.length ∨ ∀ g, g ≤ m → En room rs g ≤ m
theorem count_more {p q : Int → Bool} : ∀ {ys : List Int}, (∀ y, p y = true → q y = true) → (∃ y ∈ ys, q y = true ∧ p y = false) → ys.countP p + 1 ≤ ys.countP q
  | [], _, ⟨y, hy, _⟩ => by cases hy
  | x :: ys, h, ⟨y, hy, h1, h2⟩ => by
    have mono : ys.countP p ≤ ys.countP q := List.countP_mono_left fun z _ hz => h z hz
    rw [List.countP_cons, List.countP_cons]
    rcases List.mem_cons.mp hy with e | e
    · subst e
      rw [if_pos h1, if_neg (by rw [h2]; exact Bool.false_ne_true)]
      omega
    · have ih := count_more h ⟨y, e, h1, h2⟩
      by_cases c : p x = true
      · rw [if_pos c, if_pos (h x c)]
        omega
      · rw [if_neg c]
        split <;> omega
/-- the rounds of a list -/
def inn (ys : List Int) (k : Nat) : Bool := decide ((k : Int) ∈ ys)
theorem Stg.mono {room : Int} {rs : List (Int × Int)} {ms fs : List Nat} (s : Stg room rs ms fs) : ∀ (j m e : Nat), ms[j]? = some m → ms[0]? = some e → e + j ≤ m
  | 0, m, e, h, h0 => by
    rw [h] at h0
    cases h0
    omega
  | j + 1, m, e, h, h0 => by
    have l := (List.getElem?_eq_some_iff.mp h).1
    have lf := s.len
    have ih := s.mono j ms[j] e (List.getElem?_eq_getElem (by omega)) h0
    have z := s.step j fs[j] ms[j] m (List.getElem?_eq_getElem (by omega)) (List.getElem?_eq_getElem (by omega)) h
    omega
/-- no more than j freezings come no further than the j-th -/
theorem Stg.most {room : Int} {rs : List (Int × Int)} {ms fs : List Nat} (s : Stg room rs ms fs) (h0 : ∀ r ∈ rs, 0 ≤ r.1) (ys : List Int) : ∀ (j m : Nat), ms[j]? = some m → m < Psd (inn ys) room rs → j + 1 ≤ ys.countP fun y => decide (y ≤ (m : Int))
  | 0, m, hm, h => by
    have e : m = enI room rs 0 0 := by
      have z := s.zero
      rw [hm] at z
      exact Option.some.inj z
    rcases Psd_cov h0 h with z | ⟨f, hf, _, hs, _⟩
    · omega
    · have hs' : (f : Int) ∈ ys := of_decide_eq_true hs
      have : 0 < ys.countP fun y => decide (y ≤ (m : Int)) := List.countP_pos_iff.mpr ⟨f, hs', decide_eq_true (by omega)⟩
      omega
  | j + 1, m', hm, h => by
    have l := (List.getElem?_eq_some_iff.mp hm).1
    have lf := s.len
    have hj : ms[j]? = some ms[j] := List.getElem?_eq_getElem (by omega)
    obtain ⟨z1, z2, z3, z4, z5⟩ := s.step j fs[j] ms[j] m' (List.getElem?_eq_getElem (by omega)) hj hm
    have ih := s.most h0 ys j ms[j] hj (by omega)
    have e0 := s.mono (j + 1) m' (enI room rs 0 0) hm s.zero
    rcases Psd_cov h0 h with z | ⟨f, hf, _, hs, hE⟩
    · omega
    · have hs' : (f : Int) ∈ ys := of_decide_eq_true hs
      have hfm : ¬ f ≤ ms[j] := fun q => by
        have := z5 f q
        omega
      have := count_more (p := fun y => decide (y ≤ ((ms[j] : Nat) : Int))) (q := fun y => decide (y ≤ (m' : Int))) (ys := ys) (fun y hy => decide_eq_true (by have := of_decide_eq_true hy; omega)) ⟨f, hs', decide_eq_true (by omega), decide_eq_false (by omega)⟩
      omega
theorem Stg.bound {room : Int} {rs : List (Int × Int)} {ms fs : List Nat} (s : Stg room rs ms fs) (h0 : ∀ r ∈ rs, 0 ≤ r.1) (ys : List Int) (j m : Nat) (hm : ms[j]? = some m) (hl : ys.length ≤ j) : Psd (inn ys) room rs ≤ m := by
  by_cases c : m < Psd (inn ys) room rs
  · have z := s.most h0 ys j m hm c
    have z2 := List.countP_le_length (p := fun y => decide (y ≤ (m : Int))) (l := ys)
    omega
  · omega
theorem Stg.far {room : Int} {rs : List (Int × Int)} {ms fs : List Nat} (s : Stg room rs ms fs) (hl : Last room rs ms) (h0 : ∀ r ∈ rs, 0 ≤ r.1) (sm : Nat → Bool) (m : Nat) (hm : ms[ms.length - 1]? = some m) : Psd sm room rs ≤ m := by
  rcases hl m hm with e | e
  · rw [e]
    exact Psd_le sm room rs
  · by_cases c : m < Psd sm room rs
    · rcases Psd_cov h0 c with z | ⟨f, hf, _, hs, hE⟩
      · have := s.mono _ m _ hm s.zero
        omega
      · have := e f hf
        omega
    · omega
/-- the first j of the told freezings come so far -/
theorem Stg.gain {room : Int} {rs : List (Int × Int)} {ms fs : List Nat} (s : Stg room rs ms fs) (h0 : ∀ r ∈ rs, 0 ≤ r.1) (sm : Nat → Bool) (j m : Nat) (hm : ms[j]? = some m) (hs : ∀ i f, i < j → fs[i]? = some f → sm f = true) : m ≤ Psd sm room rs := by
  refine Psd_ge h0 (s.le m (List.mem_of_getElem? hm)) ?_
  induction j generalizing m with
  | zero =>
    intro i hi
    have z := s.zero
    rw [hm] at z
    cases z
    exact .inl hi
  | succ j ih =>
    have l := (List.getElem?_eq_some_iff.mp hm).1
    have lf := s.len
    have hj : ms[j]? = some ms[j] := List.getElem?_eq_getElem (by omega)
    obtain ⟨z1, z2, z3, z4, z5⟩ := s.step j fs[j] ms[j] m (List.getElem?_eq_getElem (by omega)) hj hm
    intro i hi
    by_cases c : i < ms[j]
    · exact ih ms[j] hj (fun i f hi hf => hs i f (by omega) hf) i c
    · exact .inr ⟨fs[j], by omega, by omega, hs j fs[j] (by omega) (List.getElem?_eq_getElem (by omega)), by omega⟩
/-- the told freezings rise -/
theorem Stg.rise {room : Int} {rs : List (Int × Int)} {ms fs : List Nat} (s : Stg room rs ms fs) (j f f' : Nat) (h : fs[j]? = some f) (h' : fs[j + 1]? = some f') : f < f' := by
  have l := (List.getElem?_eq_some_iff.mp h).1
  have l' := (List.getElem?_eq_some_iff.mp h').1
  have lf := s.len
  have a := s.step j f ms[j] ms[j + 1] h (List.getElem?_eq_getElem (by omega)) (List.getElem?_eq_getElem (by omega))
  have b := s.step (j + 1) f' ms[j + 1] ms[j + 2] h' (List.getElem?_eq_getElem (by omega)) (List.getElem?_eq_getElem (by omega))
  by_cases c : f' ≤ ms[j]
  · have := a.2.2.2.2 f' c
    omega
  · omega
end Pl
/-! ### stages -/
open Pl
theorem atI_end {xs : List V} {v : V} (h : xs[xs.length - 1]? = some v) : atI xs (-1) = some v := by
  have hl := (List.getElem?_eq_some_iff.mp h).1
  have ne : xs ≠ [] := fun e => by
    rw [e] at h
    cases h
  have e := List.dropLast_concat_getLast ne
  have ev : xs.getLast ne = v := by
    rw [List.getLast_eq_getElem]
    rw [List.getElem?_eq_getElem hl] at h
    exact Option.some.inj h
  rw [ev] at e
  rw [← e]
  exact atI_last _ _
theorem Pl.Stg.init (room : Int) (rs : List (Int × Int)) : Stg room rs [enI room rs 0 0] [] := by
  refine ⟨rfl, rfl, fun m hm => ?_, fun j f m m' h => by cases h⟩
  rw [List.mem_singleton.mp hm]
  have := enI_le room rs 0 0
  omega
theorem Pl.Stg.snoc {room : Int} {rs : List (Int × Int)} {ms fs : List Nat} {m f : Nat} (s : Stg room rs ms fs) (hm : ms[ms.length - 1]? = some m) (hlt : m < rs.length) (hf : f ≤ m) (hE : m < En room rs f) (hx : ∀ g, g ≤ m → En room rs g ≤ En room rs f) : Stg room rs (ms ++ [En room rs f]) (fs ++ [f]) := by
  have lf := s.len
  refine ⟨by rw [List.length_append, List.length_append, lf]; rfl, ?_, fun q hq => ?_, fun j f1 m1 m2 h1 h2 h3 => ?_⟩
  · rw [List.getElem?_append_left (by omega)]
    exact s.zero
  · rcases List.mem_append.mp hq with e | e
    · exact s.le q e
    · rw [List.mem_singleton.mp e]
      exact En_le (by omega)
  · by_cases c : j < fs.length
    · rw [List.getElem?_append_left c] at h1
      rw [List.getElem?_append_left (by omega)] at h2 h3
      exact s.step j f1 m1 m2 h1 h2 h3
    · have ej : j = fs.length := by
        have z := (List.getElem?_eq_some_iff.mp h1).1
        rw [List.length_append] at z
        have z2 : j < fs.length + 1 := z
        omega
      subst ej
      rw [List.getElem?_append_right (by omega), Nat.sub_self] at h1
      rw [List.getElem?_append_left (by omega)] at h2
      rw [List.getElem?_append_right (by omega), lf, Nat.sub_self] at h3
      cases h1
      cases h3
      rw [lf, Nat.add_sub_cancel] at hm
      rw [hm] at h2
      cases h2
      exact ⟨hf, hlt, rfl, hE, hx⟩
def sec (fs : List Nat) : Nat → V
  | 0 => .non
  | i + 1 => (fs[i]?.map fun f => V.int (f : Nat)).getD .non
/-- at L the list of what was found -/
def Fd (H : Hp) (L : Addr) (ms fs : List Nat) : Prop := ∃ vs : List V, H L = some (.lst vs) ∧ vs.length = ms.length ∧ ∀ (j m : Nat), ms[j]? = some m → ∃ b : Addr, vs[j]? = some (V.ref b) ∧ H b = some (.tup [.int (m : Nat), sec fs j])
theorem Fd.same {H H' : Hp} {L : Addr} {ms fs : List Nat} (q : Fd H L ms fs) (s : Same H H') : Fd H' L ms fs := by
  obtain ⟨vs, h1, h2, h3⟩ := q
  refine ⟨vs, s _ _ h1, h2, fun j m hm => ?_⟩
  obtain ⟨b, e, hb⟩ := h3 j m hm
  exact ⟨b, e, s _ _ hb⟩
theorem sec_old {fs : List Nat} {f : Nat} {j : Nat} (h : j ≤ fs.length) : sec (fs ++ [f]) j = sec fs j := by
  cases j with
  | zero => rfl
  | succ i =>
    show ((fs ++ [f])[i]?.map fun f => V.int (f : Nat)).getD .non = (fs[i]?.map fun f => V.int (f : Nat)).getD .non
    rw [List.getElem?_append_left (by omega)]
def spEnd (K : PySem.W.Frag) : Sp := fun vs H Q _ => ∃ (a : Addr) (k : Nat) (st room : Int) (rs : List (Int × Int)), vs = [.ref a, .int k, .int st, .int room] ∧ Rs K H a rs ∧ rs.length ≤ 1000 ∧ k ≤ rs.length ∧ Q (.int (enI room (rs.drop k) k st)) H
def spStages (K : PySem.W.Frag) : Sp := fun vs H Q _ => ∃ (a : Addr) (room : Int) (rs : List (Int × Int)), vs = [.ref a, .int room] ∧ Rs K H a rs ∧ rs.length ≤ 500 ∧
  ∀ L ms fs H', Stg room rs ms fs → Last room rs ms → Fd H' L ms fs → Same H H' → H L = none → Q (.ref L) H'
section
variable {P : Program} {w : World} {K : PySem.W.Frag} {mg : Str → Option Value} {base : Heap}
theorem ok_end (T : Tx K mg) : BodyOk P w K mg base "end" s_end N_end 0 (spEnd K) := by
  intro f cdv A outer s H vs Q E hr h
  obtain ⟨a, k, st, room, rs, rfl, hR, hl, hk, q⟩ := h
  obtain ⟨us, ha, lu, hu⟩ := hR
  refine ⟨_, (pss_cons (ps_for PassesOwn.never rfl (pi_range2 (by rfl) T.range (pa_cons (pv 1) (pa_cons (pe_callB call_len_seq (gl_of gl_end_len) T.len bb_len (pa_cons (pv 0) pa_nil)) pa_nil))) (pg_name (i := 4) sc_end.nd rfl (Or.inl rfl)) (pss_cons (ps_aug (i := 2) sc_end.nd rfl (Or.inl rfl) (pe_ix ix_tup (pe_ix ix_tup (pv 0) (pv 4) (fun _ _ => rfl)) pe_int (fun _ _ => rfl)) ip_add)
      (pss_one (ps_if (pt_cmpR op_gt (pv 2) (pv 3) (nomark _)) (pss_one (ps_ret (pv 4))) pss_nil))))
      (pss_one (ps_ret (pe_callB call_len_seq (gl_of gl_end_len) T.len bb_len (pa_cons (pv 0) pa_nil))))), ?_⟩
  refine st_seq ?_
  refine ⟨_, rfl, _, rfl, a, us, rfl, .inr ha, _, _, rfl, ⟨by omega, by omega, by omega, by omega⟩, ?_⟩
  refine for_range (lo := (k : Int)) (fun i σ H' => ∃ (st' : Int) (y : Option V), σ = [some (.ref a), some (.int k), some (.int st'), some (.int room), y] ∧ H' = H ∧ enI room (rs.drop (k + i)) (k + i) st' = enI room (rs.drop k) k st) ?_ (fun i σ H1 hi hP => ?_) (fun σ H1 hP => ?_)
  · exact ⟨st, none, rfl, rfl, rfl⟩
  · obtain ⟨st', y, rfl, rfl, et⟩ := hP
    have hi2 : k + i < rs.length := by
      have z : i < ((us.length : Int) - (k : Int)).toNat := hi
      omega
    obtain ⟨c, ec, hc⟩ := hu (k + i) rs[k + i] (List.getElem?_eq_getElem hi2)
    have ei : (k : Int) + (i : Int) = ((k + i : Nat) : Int) := by omega
    have ai : atI us ((k : Int) + (i : Int)) = some (.ref c) := by
      rw [ei]
      exact atI_nat ec
    have ed : rs.drop (k + i) = rs[k + i] :: rs.drop (k + i + 1) := List.drop_eq_getElem_cons hi2
    rw [ed] at et
    replace et : (if room < st' + rs[k + i].1 then k + i else enI room (rs.drop (k + i + 1)) (k + i + 1) (st' + rs[k + i].1)) = enI room (rs.drop k) k st := et
    refine st_seq ?_
    refine ⟨_, rfl, _, rfl, _, rfl, a, _, _, _, rfl, rfl, ha, ai, c, _, _, _, rfl, rfl, hc, rfl, _, _, rfl, rfl, ?_⟩
    refine ⟨_, rfl, _, rfl, _, _, rfl, rfl, _, rfl, ite2 (fun e => ?_) (fun e => ?_)⟩
    · have e1 : room < st' + rs[k + i].1 := of_decide_eq_true e
      rw [if_pos e1] at et
      refine ⟨_, rfl, ?_⟩
      rw [ei, et]
      exact q
    · have e1 : ¬ room < st' + rs[k + i].1 := fun z => e (decide_eq_true z)
      rw [if_neg e1] at et
      exact ⟨_, _, rfl, rfl, et⟩
  · obtain ⟨st', y, rfl, rfl, et⟩ := hP
    have z : k + ((us.length : Int) - (k : Int)).toNat = rs.length := by omega
    rw [z, List.drop_length] at et
    refine ⟨_, rfl, a, us, rfl, .inr ha, ?_⟩
    have e2 : enI room (rs.drop k) k st = us.length := by
      rw [← et, lu]
      rfl
    rw [e2] at q
    exact q
theorem En_at {room : Int} {rs : List (Int × Int)} {i : Nat} (h : i < rs.length) : enI room (rs.drop i) i rs[i].2 = En room rs i := by
  unfold En
  rw [List.getElem?_eq_getElem h]
  rfl
theorem ok_stages (T : Tx K mg) (c_end : C8.Cal P w K mg base 1 "end" (spEnd K) []) : BodyOk P w K mg base "stages" s_stages N_stages 1 (spStages K) := by
  intro f cdv A outer s H vs Q E hr h
  obtain ⟨a, room, rs, rfl, hR, hl, q⟩ := h
  obtain ⟨us, ha, lu, hu⟩ := id hR
  refine ⟨_, (pss_cons (ps_set (i := 2) sc_stages.nd rfl (Or.inr rfl) (pe_lc (own := [("at", 6), ("takes", 7), ("lag", 8)]) (g := gTup K 2 (gCons (gName 6) (gCons (gTup K 2 (gCons (gName 7) (gCons (gName 8) gNil))) gNil))) (tt := tYes) rfl sc_stages.nd (pi_enumT (by rfl) T.enumerate (pa_cons (pv 0) pa_nil)) (blkOk_by (own := [("at", 6), ("takes", 7), ("lag", 8)]) (N := N_stages) (sc := defScope s_stages) (by decide +kernel)) (fun _ _ _ _ _ => pg_tup rfl (pgs_cons (pg_name (i := 6) sc_stages.nd rfl (Or.inl rfl)) (pgs_cons (pg_tup rfl (pgs_cons (pg_name (i := 7) sc_stages.nd rfl (Or.inl rfl)) (pgs_cons (pg_name (i := 8) sc_stages.nd rfl (Or.inl rfl)) pgs_nil))) pgs_nil))) (fun _ _ _ _ _ => pts_nil) (fun _ _ _ _ _ => (C8.pe_c c_end hr (by decide) (by rfl) (pa_cons (pv 0) (pa_cons (pv 6) (pa_cons (pv 8) (pa_cons (pv 1) pa_nil))))))))
      (pss_cons (ps_set (i := 3) sc_stages.nd rfl (Or.inl rfl) (pe_lst (pa_cons (pe_tup (pa_cons (C8.pe_c c_end hr (by decide) (gl_of gl_stages_end) (pa_cons (pv 0) (pa_cons pe_int (pa_cons pe_int (pa_cons (pv 1) pa_nil))))) (pa_cons pe_non pa_nil))) pa_nil)))
      (pss_cons (ps_while PassesOwn.never (pt_cmpR op_lt (pe_ix ix_tup (pe_ix ix_list (pv 3) (pe_un un_neg pe_int) (fun _ _ => rfl)) pe_int (fun _ _ => rfl)) (pe_callB call_len_seq (gl_of gl_stages_len) T.len bb_len (pa_cons (pv 0) pa_nil)) (nomark _)) (pss_cons (ps_set (i := 4) sc_stages.nd rfl (Or.inl rfl) (pe_ix ix_tup (pe_ix ix_list (pv 3) (pe_un un_neg pe_int) (fun _ _ => rfl)) pe_int (fun _ _ => rfl)))
      (pss_cons (ps_asg (pe_callB (MaxP.cr_maxP rfl hr.units) (gl_of gl_stages_max) T.max bb_max (pa_cons (pe_lc (own := [("at", 6)]) (g := gName 6) (tt := tYes) rfl sc_stages.nd (pi_range1 (by rfl) T.range (pa_cons (pe_op op_add (pv 4) pe_int) pa_nil)) (blkOk_by (own := [("at", 6)]) (N := N_stages) (sc := defScope s_stages) (by decide +kernel)) (fun _ _ _ _ _ => pg_name (i := 6) sc_stages.nd rfl (Or.inl rfl)) (fun _ _ _ _ _ => pts_nil) (fun _ _ _ _ _ => (pe_tup (pa_cons (pe_ix (ix_listK (K1 := K) rfl) (pv 2) (pv 6) (fun _ _ => rfl)) (pa_cons (pv 6) pa_nil))))) pa_nil)) (pg_tup rfl (pgs_cons (pg_name (i := 5) sc_stages.nd rfl (Or.inl rfl)) (pgs_cons (pg_name (i := 6) sc_stages.nd rfl (Or.inl rfl)) pgs_nil))))
      (pss_cons (ps_if (pt_cmpR op_le (pv 5) (pv 4) (nomark _)) (pss_one ps_break) pss_nil)
      (pss_one (ps_expr (pe_bm PySem.F.plainAttrs_list PySem.F.slot_list_append PySem.F.type_list_append mt_append (pv 3) (pa_cons (pe_tup (pa_cons (pv 5) (pa_cons (pv 6) pa_nil))) pa_nil))))))))
      (pss_one (ps_ret (pv 3)))))), ?_⟩
  refine st_seq ?_
  refine ⟨_, rfl, a, us, rfl, ha, fun D nD => ?_⟩
  refine lc_it (walk_enumT (K := K) (a := a) (xs := us)) (fun j H' => Same H H' ∧ H' D = some (.lst (((List.range j).map fun g => ((En room rs g : Nat) : Int)).map V.int))) ?_ (fun j H' _ hP => ?_) (fun j x H1 H2 hj hP hy => ?_) (fun H1 hP => ?_)
  · exact ⟨same_new nD, upd_same⟩
  · exact sqT_same hP.1 ha
  · obtain ⟨sm, eD⟩ := hP
    obtain ⟨T0, x0, y0, rfl, nT, rfl, ex, ey⟩ := hy
    cases ex
    have hj2 : j < rs.length := by omega
    obtain ⟨c, ec, hc⟩ := hu j rs[j] (List.getElem?_eq_getElem hj2)
    have ey2 : us[j]? = some y0 := ey
    rw [ec] at ey2
    cases ey2
    have s2 : Same H (upd H1 T0 (.tup [.int (j : Nat), .ref c])) := sm.trans (same_new nT)
    have eD2 := same_new (o := .tup [.int (j : Nat), .ref c]) nT _ _ eD
    have eT : (upd H1 T0 (.tup [.int (j : Nat), .ref c])) T0 = some (.tup [.int (j : Nat), .ref c]) := upd_same
    generalize upd H1 T0 (.tup [.int (j : Nat), .ref c]) = H2 at s2 eD2 eT
    refine ⟨T0, _, rfl, SqT.of eT, rfl, _, _, rfl, _, _, rfl, c, _, rfl, sqT_same s2 hc, rfl, _, _, rfl, _, _, rfl, rfl, rfl, rfl, ?_⟩
    refine ⟨_, rfl, _, rfl, _, rfl, _, rfl, a, j, rs[j].2, room, rs, rfl, hR.same s2, by omega, by omega, ?_⟩
    rw [En_at hj2]
    refine ⟨_, eD2, ?_, same_mut s2 nD, ?_⟩
    · rw [List.length_map, List.length_map, List.length_range]
      exact small1000 (by omega)
    · rw [upd_same, List.range_succ, List.map_append, List.map_append]
      rfl
  obtain ⟨s1, eD⟩ := hP
  rw [lu] at eD
  -- found
  refine st_seq ?_
  refine ⟨_, rfl, _, rfl, a, 0, 0, room, rs, rfl, hR.same s1, by omega, by omega, ?_⟩
  refine ⟨(show 2 ≤ sizeLine by decide), fun t0 nt0 => ?_⟩
  refine ⟨(show 1 ≤ sizeLine by decide), fun L nL => ?_⟩
  have e0 : enI room (rs.drop 0) 0 0 = enI room rs 0 0 := by rw [List.drop_zero]
  rw [e0]
  have nL1 : H1 L = none := by
    cases z : H1 L with
    | none => rfl
    | some o =>
      rw [same_new nt0 _ _ z] at nL
      cases nL
  have nLH : H L = none := by
    cases z : H L with
    | none => rfl
    | some o =>
      rw [s1 _ _ z] at nL1
      cases nL1
  have nLD : L ≠ D := (ne_of_none eD nL1).symm
  have sA : Same H1 (upd (upd H1 t0 (.tup [.int (enI room rs 0 0 : Nat), .non])) L (.lst [.ref t0])) := (same_new nt0).trans (same_new nL)
  have fd0 : Fd (upd (upd H1 t0 (.tup [.int (enI room rs 0 0 : Nat), .non])) L (.lst [.ref t0])) L [enI room rs 0 0] [] := by
    refine ⟨[.ref t0], upd_same, rfl, fun j m hm => ?_⟩
    cases j with
    | zero =>
      cases hm
      exact ⟨t0, rfl, same_new nL _ _ upd_same⟩
    | succ j => cases hm
  generalize upd (upd H1 t0 (.tup [.int (enI room rs 0 0 : Nat), .non])) L (.lst [.ref t0]) = H2 at sA fd0
  have eD2 := sA _ _ eD
  have sH2 : Same H H2 := s1.trans sA
  generalize hes : (List.range rs.length).map (fun g => ((En room rs g : Nat) : Int)) = es at eD2
  have les : es.length = rs.length := by rw [← hes, List.length_map, List.length_range]
  have ees : ∀ g, g < rs.length → es[g]? = some ((En room rs g : Nat) : Int) := fun g hg => by
    rw [← hes, List.getElem?_map, List.getElem?_range hg]
    rfl
  -- the while
  refine st_seq ?_
  refine ⟨fun n σ H' => ∃ (ms fs : List Nat) (m : Nat) (y4 y5 y6 : Option V), σ = [some (.ref a), some (.int room), some (.ref D), some (.ref L), y4, y5, y6, none, none] ∧ n = rs.length - m ∧ Stg room rs ms fs ∧ ms[ms.length - 1]? = some m ∧ Fd H' L ms fs ∧ Same H H' ∧ H' D = some (.lst (es.map V.int)), ⟨_, [enI room rs 0 0], [], _, none, none, none, rfl, rfl, Stg.init room rs, rfl, fd0, sH2, eD2⟩, fun n σ H3 hW => ?_⟩
  obtain ⟨ms, fs, m, y4, y5, y6, rfl, rfl, hst, hm, hfd, s3, eD3⟩ := hW
  obtain ⟨vs, eL, lv, hv⟩ := id hfd
  obtain ⟨b, eb, hb⟩ := hv _ m hm
  have ai : atI vs (-1) = some (.ref b) := atI_end (by rw [lv]; exact eb)
  have mle := hst.le m (List.mem_of_getElem? hm)
  refine ⟨_, rfl, _, rfl, L, _, _, _, rfl, rfl, SqL.of eL, ai, b, _, _, _, rfl, rfl, SqT.of hb, rfl, _, rfl, a, us, rfl, .inr (sqT_same s3 ha), _, _, rfl, rfl, _, rfl, ite2 (fun e => ?_) (fun e => ?_)⟩
  · have hlt : m < rs.length := by
      have z := of_decide_eq_true e
      omega
    refine ⟨fun σ' H' => ∃ m', m' < rs.length - m ∧ ∃ (ms fs : List Nat) (m0 : Nat) (y4 y5 y6 : Option V), σ' = [some (.ref a), some (.int room), some (.ref D), some (.ref L), y4, y5, y6, none, none] ∧ m' = rs.length - m0 ∧ Stg room rs ms fs ∧ ms[ms.length - 1]? = some m0 ∧ Fd H' L ms fs ∧ Same H H' ∧ H' D = some (.lst (es.map V.int)), fun σ' H' h => h, ?_⟩
    refine st_seq ?_
    refine ⟨_, rfl, _, rfl, L, _, _, _, rfl, rfl, SqL.of eL, ai, b, _, _, _, rfl, rfl, SqT.of hb, rfl, ?_⟩
    -- the pairs
    refine st_seq ?_
    refine ⟨_, rfl, _, _, rfl, rfl, _, rfl, by omega, by omega, fun C nC => ?_⟩
    refine lc_range (lo := 0) (fun j H' => Same H3 H' ∧ ∃ ws : List V, H' C = some (.lst ws) ∧ ws.length = j ∧ ∀ g, g < j → ∃ p : Addr, ws[g]? = some (V.ref p) ∧ p ≠ C ∧ H' p = some (.tup [.int ((En room rs g : Nat) : Int), .int (g : Nat)])) ?_ (fun j H4 hj hP => ?_) (fun H4 hP => ?_)
    · exact ⟨same_new nC, [], upd_same, rfl, fun g hg => absurd hg (Nat.not_lt_zero _)⟩
    · obtain ⟨s4, ws, eC, lw, hw⟩ := hP
      have hj2 : j ≤ m := by
        have z : j < ((m : Int) + 1).toNat := hj
        omega
      have ei : V.int (0 + (j : Int)) = V.int (j : Nat) := by rw [Int.zero_add]
      have aj : atI (es.map V.int) (0 + (j : Int)) = some (.int ((En room rs j : Nat) : Int)) := by
        rw [Int.zero_add]
        refine atI_nat ?_
        rw [List.getElem?_map, ees j (by omega)]
        rfl
      refine ⟨rfl, ?_⟩
      refine ⟨_, rfl, _, rfl, D, _, _, _, rfl, rfl, SqL.of (s4 _ _ eD3), aj, _, rfl, (show 2 ≤ sizeLine by decide), fun p np => ?_⟩
      rw [ei]
      have nCp : p ≠ C := (ne_of_none eC np).symm
      refine ⟨_, same_new np _ _ eC, small1000 (by omega), same_mut (s4.trans (same_new np)) nC, ws ++ [.ref p], upd_same, ?_, fun g hg => ?_⟩
      · rw [List.length_append, lw]
        rfl
      · by_cases c : g < j
        · obtain ⟨p', e1, e2, e3⟩ := hw g c
          refine ⟨p', ?_, e2, ?_⟩
          · rw [List.getElem?_append_left (by omega)]
            exact e1
          · rw [upd_ne e2]
            exact same_new np _ _ e3
        · have eg : g = j := by omega
          subst eg
          refine ⟨p, ?_, nCp, ?_⟩
          · rw [List.getElem?_append_right (by omega), lw, Nat.sub_self]
            rfl
          · rw [upd_ne nCp]
            exact upd_same
    obtain ⟨s4, ws, eC, lw, hw⟩ := hP
    have em : ((m : Int) + 1).toNat = m + 1 := by omega
    have lw2 : ws.length = m + 1 := by
      rw [lw]
      exact em
    have hw2 : ∀ g, g < m + 1 → ∃ p : Addr, ws[g]? = some (V.ref p) ∧ H4 p = some (.tup [.int ((En room rs g : Nat) : Int), .int (g : Nat)]) := fun g hg => by
      obtain ⟨p, e1, _, e3⟩ := hw g (by show g < ((m : Int) + 1).toNat; omega)
      exact ⟨p, e1, e3⟩
    have dpA : DpAll K H4 ws (((List.range (m + 1)).map fun g => (((En room rs g : Nat) : Int), ((g : Nat) : Int))).map MaxP.prD) := by
      refine rs_all (by rw [lw2, List.length_map, List.length_range]) fun i r hr => ?_
      have hi : i < m + 1 := by
        have z := (List.getElem?_eq_some_iff.mp hr).1
        rw [List.length_map, List.length_range] at z
        exact z
      rw [List.getElem?_map, List.getElem?_range hi] at hr
      cases hr
      obtain ⟨p, e1, e2⟩ := hw2 i hi
      exact ⟨p, e1, SqT.of e2⟩
    refine ⟨C, ws, _, rfl, SqL.of eC, dpA, ?_, fun p r hp hr hmax hT => ?_⟩
    · rw [List.length_map, List.length_range]
      omega
    obtain ⟨g, hg, rfl⟩ := List.mem_map.mp hr
    have hg2 : g ≤ m := by
      have := List.mem_range.mp hg
      omega
    have hE : ∀ g', g' ≤ m → En room rs g' ≤ En room rs g := fun g' hg' => by
      have z := of_decide_eq_false (hmax (((En room rs g' : Nat) : Int), ((g' : Nat) : Int)) (List.mem_map.mpr ⟨g', List.mem_range.mpr (by omega), rfl⟩))
      have z2 : ¬ (((En room rs g : Nat) : Int) < ((En room rs g' : Nat) : Int)) := fun q => z (.inl q)
      omega
    refine ⟨p, _, rfl, hT, rfl, _, _, rfl, _, _, rfl, rfl, ?_⟩
    have fd4 := hfd.same s4
    refine st_seq ?_
    refine ⟨_, rfl, _, rfl, _, _, rfl, rfl, _, rfl, ite2 (fun e => ?_) (fun e => ?_)⟩
    · have hle : En room rs g ≤ m := by
        have z := of_decide_eq_true e
        omega
      refine ⟨_, rfl, q L ms fs H4 hst (fun m1 hm1 => ?_) fd4 (s3.trans s4) nLH⟩
      rw [hm] at hm1
      cases hm1
      exact .inr fun g' hg' => Nat.le_trans (hE g' hg') hle
    · have hgt : m < En room rs g := by
        have z : ¬ (((En room rs g : Nat) : Int) ≤ ((m : Nat) : Int)) := fun q => e (decide_eq_true q)
        omega
      obtain ⟨vs4, eL4, lv4, hv4⟩ := fd4
      have eD4 := s4 _ _ eD3
      refine ⟨_, rfl, .inl ⟨rfl, _, SqL.of eL4⟩, _, rfl, _, rfl, (show 2 ≤ sizeLine by decide), fun p5 np5 => ?_⟩
      have mo := hst.mono _ _ _ hm hst.zero
      refine ⟨L, _, _, rfl, rfl, same_new np5 _ _ eL4, small1000 (by omega), ?_⟩
      have np5L : p5 ≠ L := (ne_of_none eL4 np5).symm
      refine ⟨rs.length - En room rs g, by omega, ms ++ [En room rs g], fs ++ [g], En room rs g, _, _, _, rfl, rfl, hst.snoc hm hlt hg2 hgt hE, ?_, ?_, ?_, ?_⟩
      · rw [List.length_append, List.getElem?_append_right (by simp)]
        simp
      · have lf := hst.len
        refine ⟨vs4 ++ [.ref p5], upd_same, by rw [List.length_append, List.length_append, lv4]; rfl, fun j m1 hm1 => ?_⟩
        by_cases c : j < ms.length
        · rw [List.getElem?_append_left c] at hm1
          obtain ⟨b1, e1, e2⟩ := hv4 j m1 hm1
          refine ⟨b1, ?_, ?_⟩
          · rw [List.getElem?_append_left (by omega)]
            exact e1
          · have nb : b1 ≠ L := fun z => by
              rw [z, eL4] at e2
              cases e2
            rw [upd_ne nb, sec_old (by omega)]
            exact same_new np5 _ _ e2
        · have ej : j = ms.length := by
            have z := (List.getElem?_eq_some_iff.mp hm1).1
            rw [List.length_append] at z
            have z2 : j < ms.length + 1 := z
            omega
          subst ej
          rw [List.getElem?_append_right (by omega), Nat.sub_self] at hm1
          cases hm1
          refine ⟨p5, ?_, ?_⟩
          · rw [List.getElem?_append_right (by omega), lv4, Nat.sub_self]
            rfl
          · rw [upd_ne np5L, upd_same, lf]
            show some (HO.tup [_, _]) = some (HO.tup [_, ((fs ++ [g])[fs.length]?.map fun f => V.int (f : Nat)).getD .non])
            rw [List.getElem?_append_right (Nat.le_refl _), Nat.sub_self]
            rfl
      · exact same_mut (s3.trans (s4.trans (same_new np5))) nLH
      · rw [upd_ne nLD.symm]
        exact same_new np5 _ _ eD4
  · have hge : m = rs.length := by
      have z : ¬ (((m : Nat) : Int) < ((us.length : Nat) : Int)) := fun q => e (decide_eq_true q)
      omega
    refine ⟨_, rfl, q L ms fs H3 hst (fun m1 hm1 => ?_) hfd s3 nLH⟩
    rw [hm] at hm1
    cases hm1
    exact .inl hge
def spReached (K : PySem.W.Frag) : Sp := fun vs H Q _ => ∃ (a : Addr) (room : Int) (rs : List (Int × Int)), vs = [.ref a, .int room] ∧ Rs K H a rs ∧ rs.length ≤ 500 ∧
  ∀ p ms fs H', Stg room rs ms fs → Last room rs ms → Same H H' → SqT K H' p ((ms.map fun m => ((m : Nat) : Int)).map V.int) → Q (.ref p) H'
theorem Pl.Stg.few {room : Int} {rs : List (Int × Int)} {ms fs : List Nat} (s : Stg room rs ms fs) : ms.length ≤ rs.length + 1 ∧ fs.length ≤ rs.length := by
  have lf := s.len
  have hm : ms[ms.length - 1]? = some ms[ms.length - 1] := List.getElem?_eq_getElem (by omega)
  have z := s.mono _ _ _ hm s.zero
  have z2 := s.le _ (List.mem_of_getElem? hm)
  omega
theorem lst_seq {K : PySem.W.Frag} {H H' : Hp} {a : Addr} {xs : List V} (s : Same H H') (h : H a = some (.lst xs)) : SqL K H' a xs := SqL.of (s _ _ h)
end
section
variable {P : Program} {w : World} {K : PySem.W.Frag} {mg : Str → Option Value} {base : Heap}
theorem ok_reached (T : Tx K mg) (c_stages : C8.Cal P w K mg base 2 "stages" (spStages K) []) : BodyOk P w K mg base "reached" s_reached N_reached 2 (spReached K) := by
  intro f cdv A outer s H vs Q E hr h
  obtain ⟨a, room, rs, rfl, hR, hl, q⟩ := h
  refine ⟨_, (pss_one (ps_ret (pe_callTy call_tuple_of (gl_of gl_reached_tuple) T.tuple bt_tuple (pa_cons (pe_lc (own := [("many", 2), ("at", 3)]) (g := gTup K 2 (gCons (gName 2) (gCons (gName 3) gNil))) (tt := tYes) rfl sc_reached.nd (pi_list (C8.pe_c c_stages hr (by decide) (gl_of gl_reached_stages) (pa_cons (pv 0) (pa_cons (pv 1) pa_nil)))) (blkOk_by (own := [("many", 2), ("at", 3)]) (N := N_reached) (sc := defScope s_reached) (by decide +kernel)) (fun _ _ _ _ _ => pg_tup rfl (pgs_cons (pg_name (i := 2) sc_reached.nd rfl (Or.inl rfl)) (pgs_cons (pg_name (i := 3) sc_reached.nd rfl (Or.inl rfl)) pgs_nil))) (fun _ _ _ _ _ => pts_nil) (fun _ _ _ _ _ => (pv 2))) pa_nil)))), ?_⟩
  refine ⟨_, rfl, _, rfl, a, room, rs, rfl, hR, hl, fun L ms fs H1 hst hla hfd s1 nL => ?_⟩
  obtain ⟨vs, eL, lv, hv⟩ := hfd
  obtain ⟨few1, few2⟩ := hst.few
  refine ⟨L, rfl, ⟨_, SqL.of eL⟩, fun D nD => ?_⟩
  refine lc_list (K := K) (a := L) (xs := vs) (fun j H' => Same H1 H' ∧ H' D = some (.lst (((ms.take j).map fun m => ((m : Nat) : Int)).map V.int))) ?_ (fun j H' _ hP => ?_) (fun j y H' hy hP => ?_) (fun H' hP => ?_)
  · exact ⟨same_new nD, upd_same⟩
  · exact SqL.of (hP.1 _ _ eL)
  · obtain ⟨s2, eD⟩ := hP
    have hj : j < ms.length := by
      have z := (List.getElem?_eq_some_iff.mp hy).1
      omega
    obtain ⟨b, e1, e2⟩ := hv j ms[j] (List.getElem?_eq_getElem hj)
    rw [e1] at hy
    cases hy
    refine ⟨b, _, rfl, SqT.of (s2 _ _ e2), rfl, _, _, rfl, _, _, rfl, rfl, rfl, ?_⟩
    refine ⟨_, rfl, _, eD, ?_, same_mut s2 nD, ?_⟩
    · rw [List.length_map, List.length_map, List.length_take]
      exact small1000 (by omega)
    · rw [upd_same, take_add1 _ _ hj, List.map_append, List.map_append]
      rfl
  · obtain ⟨s2, eD⟩ := hP
    rw [lv, List.take_length] at eD
    exact ⟨D, _, rfl, .inl ⟨SqL.of eD, fun p np => q p ms fs _ hst hla (s1.trans (s2.trans (same_new np))) (SqT.of upd_same)⟩⟩
end
theorem ty_tup {K : PySem.W.Frag} {H : Hp} {a : Addr} {xs : List V} (h : SqT K H a xs) : TyX K H (.ref a) (.type "tuple") := by
  rcases h with (h | ⟨o, h⟩) | ⟨o, its, n, hk, hc, hs, hz, r⟩
  · exact .base (.tup h)
  · exact .fTuple h
  · exact .kTuple hk hc
theorem cut1 (xs : List V) : cutV xs (some 1) none = xs.drop 1 := by
  have e : HT.sIx xs.length 0 (some ((1 : Nat) : Int)) = min 1 xs.length := HT.sIx_nat _ _ _
  have e2 : HT.sIx xs.length xs.length none = xs.length := rfl
  unfold cutV
  rw [show (some (1 : Int)) = some ((1 : Nat) : Int) from rfl, e, e2]
  cases xs with
  | nil => rfl
  | cons x xs =>
    rw [List.length_cons, show min 1 (xs.length + 1) = 1 by omega]
    show xs.take (xs.length + 1 - 1) = xs
    rw [Nat.add_sub_cancel, List.take_length]
theorem noPart_ev {σ : L2.St} {H : Hp} {R : Option Int → Hp → Prop} (h : R none H) : tNoPart σ H R := h
/-- what fewest tells -/
def Fw (K : PySem.W.Frag) (H : Hp) (p : Addr) (n : Nat) (m : Nat) (fs : List Nat) : Prop := (m < n → SqT K H p [.str "never", .int (m : Nat)]) ∧ (m = n → ∃ t, SqT K H p [.str "plan", .ref t] ∧ SqT K H t ((fs.map fun f => ((f : Nat) : Int)).map V.int))
theorem Fw.same {K : PySem.W.Frag} {H H' : Hp} {p : Addr} {n m : Nat} {fs : List Nat} (q : Fw K H p n m fs) (s : Same H H') : Fw K H' p n m fs := by
  refine ⟨fun h => sqT_same s (q.1 h), fun h => ?_⟩
  obtain ⟨t, h1, h2⟩ := q.2 h
  exact ⟨t, sqT_same s h1, sqT_same s h2⟩
def spFewest (K : PySem.W.Frag) : Sp := fun vs H Q _ => ∃ (a : Addr) (room : Int) (rs : List (Int × Int)), vs = [.ref a, .int room] ∧ Rs K H a rs ∧ rs.length ≤ 500 ∧
  ∀ p ms fs m H', Stg room rs ms fs → Last room rs ms → ms[ms.length - 1]? = some m → Same H H' → Fw K H' p rs.length m fs → Q (.ref p) H'
section
variable {P : Program} {w : World} {K : PySem.W.Frag} {mg : Str → Option Value} {base : Heap}
theorem ok_fewest (T : Tx K mg) (c_stages : C8.Cal P w K mg base 2 "stages" (spStages K) []) : BodyOk P w K mg base "fewest" s_fewest N_fewest 2 (spFewest K) := by
  intro f cdv A outer s H vs Q E hr h
  obtain ⟨a, room, rs, rfl, hR, hl, q⟩ := h
  obtain ⟨us, ha, lu, hu⟩ := id hR
  refine ⟨_, (pss_cons (ps_set (i := 2) sc_fewest.nd rfl (Or.inl rfl) (C8.pe_c c_stages hr (by decide) (gl_of gl_fewest_stages) (pa_cons (pv 0) (pa_cons (pv 1) pa_nil))))
      (pss_cons (ps_set (i := 3) sc_fewest.nd rfl (Or.inl rfl) (pe_ix ix_tup (pe_ix ix_list (pv 2) (pe_un un_neg pe_int) (fun _ _ => rfl)) pe_int (fun _ _ => rfl)))
      (pss_cons (ps_if (pt_cmpR op_lt (pv 3) (pe_callB call_len_seq (gl_of gl_fewest_len) T.len bb_len (pa_cons (pv 0) pa_nil)) (nomark _)) (pss_one (ps_ret (pe_tup (pa_cons pe_str (pa_cons (pv 3) pa_nil))))) pss_nil)
      (pss_one (ps_ret (pe_tup (pa_cons pe_str (pa_cons (pe_callTy call_tuple_of (gl_of gl_fewest_tuple) T.tuple bt_tuple (pa_cons (pe_lc (own := [("many", 4), ("at", 5)]) (g := gTup K 2 (gCons (gName 4) (gCons (gName 5) gNil))) (tt := tYes) rfl sc_fewest.nd (pi_list (pe_slice sl_list (pv 2) (po_some pe_int) po_none)) (blkOk_by (own := [("many", 4), ("at", 5)]) (N := N_fewest) (sc := defScope s_fewest) (by decide +kernel)) (fun _ _ _ _ _ => pg_tup rfl (pgs_cons (pg_name (i := 4) sc_fewest.nd rfl (Or.inl rfl)) (pgs_cons (pg_name (i := 5) sc_fewest.nd rfl (Or.inl rfl)) pgs_nil))) (fun _ _ _ _ _ => pts_nil) (fun _ _ _ _ _ => (pv 5))) pa_nil)) pa_nil)))))))), ?_⟩
  refine st_seq ?_
  refine ⟨_, rfl, _, rfl, a, room, rs, rfl, hR, hl, fun L ms fs H1 hst hla hfd s1 nL => ?_⟩
  obtain ⟨vs, eL, lv, hv⟩ := hfd
  obtain ⟨few1, few2⟩ := hst.few
  have lf := hst.len
  have hm : ms[ms.length - 1]? = some ms[ms.length - 1] := List.getElem?_eq_getElem (by omega)
  have mle := hst.le _ (List.mem_of_getElem? hm)
  generalize ms[ms.length - 1] = m at hm mle
  obtain ⟨b, eb, hb⟩ := hv _ m hm
  have ai : atI vs (-1) = some (.ref b) := atI_end (by rw [lv]; exact eb)
  refine st_seq ?_
  refine ⟨_, rfl, _, rfl, L, _, _, _, rfl, rfl, SqL.of eL, ai, b, _, _, _, rfl, rfl, SqT.of hb, rfl, ?_⟩
  refine st_seq ?_
  refine ⟨_, rfl, _, rfl, a, us, rfl, .inr (sqT_same s1 ha), _, _, rfl, rfl, _, rfl, ite2 (fun e => ?_) (fun e => ?_)⟩
  · have hlt : m < rs.length := by
      have z := of_decide_eq_true e
      omega
    refine ⟨_, rfl, (show 2 ≤ sizeLine by decide), fun p np => q p ms fs m _ hst hla hm (s1.trans (same_new np)) ⟨fun _ => SqT.of upd_same, fun e => by omega⟩⟩
  · have hge : m = rs.length := by
      have z : ¬ (((m : Nat) : Int) < ((us.length : Nat) : Int)) := fun q => e (decide_eq_true q)
      omega
    refine ⟨_, rfl, 1, rfl, ?_⟩
    refine noPart_ev ?_
    refine ⟨L, vs, rfl, SqL.of eL, fun C nC => ?_⟩
    rw [cut1]
    have eC : (upd H1 C (.lst (vs.drop 1))) C = some (.lst (vs.drop 1)) := upd_same
    have s2 : Same H1 (upd H1 C (.lst (vs.drop 1))) := same_new nC
    generalize upd H1 C (.lst (vs.drop 1)) = H2 at eC s2
    refine ⟨C, rfl, ⟨_, SqL.of eC⟩, fun D nD => ?_⟩
    refine lc_list (K := K) (a := C) (xs := vs.drop 1) (fun j H' => Same H2 H' ∧ H' D = some (.lst (((fs.take j).map fun f => ((f : Nat) : Int)).map V.int))) ?_ (fun j H' _ hP => ?_) (fun j y H' hy hP => ?_) (fun H3 hP => ?_)
    · exact ⟨same_new nD, upd_same⟩
    · exact SqL.of (hP.1 _ _ eC)
    · obtain ⟨s3, eD⟩ := hP
      have hj : j < fs.length := by
        have z := (List.getElem?_eq_some_iff.mp hy).1
        rw [List.length_drop] at z
        omega
      rw [List.getElem?_drop, show 1 + j = j + 1 by omega] at hy
      obtain ⟨b1, e1, e2⟩ := hv (j + 1) ms[j + 1] (List.getElem?_eq_getElem (by omega))
      rw [e1] at hy
      cases hy
      have es : sec fs (j + 1) = .int ((fs[j] : Nat) : Int) := by
        show (fs[j]?.map fun f => V.int (f : Nat)).getD .non = _
        rw [List.getElem?_eq_getElem hj]
        rfl
      rw [es] at e2
      refine ⟨b1, _, rfl, SqT.of (s3 _ _ (s2 _ _ e2)), rfl, _, _, rfl, _, _, rfl, rfl, rfl, ?_⟩
      refine ⟨_, rfl, _, eD, ?_, same_mut s3 nD, ?_⟩
      · rw [List.length_map, List.length_map, List.length_take]
        exact small1000 (by omega)
      · rw [upd_same, take_add1 _ _ hj, List.map_append, List.map_append]
        rfl
    · obtain ⟨s3, eD⟩ := hP
      rw [List.length_drop, lv, show ms.length - 1 = fs.length by omega, List.take_length] at eD
      refine ⟨D, _, rfl, .inl ⟨SqL.of eD, fun t nt => ?_⟩⟩
      refine ⟨(show 2 ≤ sizeLine by decide), fun p np => q p ms fs m _ hst hla hm (s1.trans (s2.trans (s3.trans ((same_new nt).trans (same_new np))))) ⟨fun e => by omega, fun _ => ⟨t, SqT.of upd_same, SqT.of (same_new np _ _ upd_same)⟩⟩⟩
end
theorem inV_inn (ys : List Int) : (fun k : Nat => inV (.int (k : Nat)) (ys.map V.int)) = inn ys := by
  funext k
  unfold inV inn
  induction ys with
  | nil => rfl
  | cons y ys ih =>
    rw [List.map_cons, List.any_cons, ih]
    have e : eqV (.int y) (.int (k : Nat)) = (y == (k : Int)) := rfl
    rw [e]
    by_cases c : (k : Int) = y
    · have c1 : (k : Int) ∈ y :: ys := by
        rw [c]
        exact List.mem_cons_self ..
      rw [decide_eq_true c1, ← c]
      simp
    · have c2 : (y == (k : Int)) = false := by
        simp
        omega
      rw [c2, Bool.false_or]
      by_cases d : (k : Int) ∈ ys
      · rw [decide_eq_true d, decide_eq_true (List.mem_cons_of_mem _ d)]
      · rw [decide_eq_false d, decide_eq_false (fun z => by rcases List.mem_cons.mp z with z | z <;> contradiction)]
def spPassed (K : PySem.W.Frag) : Sp := fun vs H Q _ => ∃ (a b : Addr) (room : Int) (rs : List (Int × Int)) (ys : List Int), vs = [.ref a, .ref b, .int room] ∧ Rs K H a rs ∧ rs.length ≤ 500 ∧ SqT K H b (ys.map V.int) ∧ ∀ H', Same H H' → Q (.int (Psd (inn ys) room rs : Nat)) H'
section
variable {P : Program} {w : World} {K : PySem.W.Frag} {mg : Str → Option Value} {base : Heap}
theorem ok_passed (T : Tx K mg) (c_l_steps : C8.Cal P w K mg base 1 "_law_steps" (spStepsL K) []) : BodyOk P w K mg base "_law_passed" s_l_passed N_l_passed 1 (spPassed K) := by
  intro f cdv A outer s H vs Q E hr h
  obtain ⟨a, b, room, rs, ys, rfl, hR, hl, hb, q⟩ := h
  refine ⟨_, (pss_one (ps_ret (pe_callB call_len_seq (gl_of gl_l_passed_len) T.len bb_len (pa_cons (pe_lc (own := [("_law_one", 3)]) (g := gName 3) rfl sc_l_passed.nd (pi_list (C8.pe_c c_l_steps hr (by decide) (gl_of gl_l_passed_l_steps) (pa_cons (pv 0) (pa_cons (pv 1) (pa_cons (pv 2) pa_nil))))) (blkOk_by (own := [("_law_one", 3)]) (N := N_l_passed) (sc := defScope s_l_passed) (by decide +kernel)) (fun _ _ _ _ _ => pg_name (i := 3) sc_l_passed.nd rfl (Or.inl rfl)) (fun _ _ _ _ _ => (pts_one (pt_cmpR op_le (pv 3) (pv 2) (nomark _)))) (fun _ _ _ _ _ => (pv 3))) pa_nil)))), ?_⟩
  refine ⟨_, rfl, _, rfl, _, rfl, a, b, room, rs, ys, rfl, hR, by omega, hb, fun L H1 nL s1 eL => ?_⟩
  have lp := pas_len (fun k => inV (.int (k : Nat)) (ys.map V.int)) room rs 0 0
  have ef : ((pas (fun k => inV (.int (k : Nat)) (ys.map V.int)) room rs 0 0).filter fun x => decide (x ≤ room)).length = Psd (inn ys) room rs := by
    rw [inV_inn]
    exact pas_filter (inn ys) room rs 0 0
  generalize pas (fun k => inV (.int (k : Nat)) (ys.map V.int)) room rs 0 0 = xs at eL lp ef
  refine ⟨L, rfl, ⟨_, SqL.of eL⟩, fun D nD => ?_⟩
  refine lc_list (K := K) (a := L) (xs := xs.map V.int) (fun j H' => Same H1 H' ∧ H' D = some (.lst (((xs.take j).filter fun x => decide (x ≤ room)).map V.int))) ?_ (fun j H' _ hP => ?_) (fun j y H' hy hP => ?_) (fun H' hP => ?_)
  · exact ⟨same_new nD, upd_same⟩
  · exact SqL.of (hP.1 _ _ eL)
  · obtain ⟨s2, eD⟩ := hP
    have hj : j < xs.length := by
      have z := (List.getElem?_eq_some_iff.mp hy).1
      rw [List.length_map] at z
      exact z
    rw [List.getElem?_map, List.getElem?_eq_getElem hj] at hy
    cases hy
    refine ⟨rfl, ?_⟩
    refine ⟨_, rfl, _, rfl, _, _, rfl, rfl, _, rfl, ite2 (fun e => ?_) (fun e => ?_)⟩
    · refine ⟨_, rfl, _, eD, ?_, same_mut s2 nD, ?_⟩
      · rw [List.length_map]
        have := List.length_filter_le (fun x => decide (x ≤ room)) (xs.take j)
        rw [List.length_take] at this
        exact small1000 (by omega)
      · rw [upd_same, take_add1 _ _ hj, List.filter_append, List.map_append]
        congr 3
        rw [List.filter_cons, if_pos e]
        rfl
    · refine ⟨s2, ?_⟩
      rw [eD, take_add1 _ _ hj, List.filter_append]
      congr 3
      rw [List.filter_cons, if_neg e]
      exact (List.append_nil _).symm
  · obtain ⟨s2, eD⟩ := hP
    rw [List.length_map, List.take_length] at eD
    refine ⟨D, _, rfl, .inl (SqL.of eD), ?_⟩
    rw [List.length_map, ef]
    exact q _ (s1.trans s2)
end
section
variable {P : Program} {w : World} {K : PySem.W.Frag} {mg : Str → Option Value} {base : Heap}
theorem ok_passes (T : Tx K mg) : BodyOk P w K mg base "passes" s_passes N_passes 0 (spPasses K) := by
  intro f cdv A outer s H vs Q E hr h
  obtain ⟨a, b, room, rs, ys, rfl, hR, hl, hb, q⟩ := h
  obtain ⟨us, ha, lu, hu⟩ := hR
  refine ⟨_, (pss_cons (ps_set (i := 3) sc_passes.nd rfl (Or.inl rfl) (pe_lst pa_nil))
      (pss_cons (ps_set (i := 4) sc_passes.nd rfl (Or.inl rfl) pe_int)
      (pss_cons (ps_for PassesOwn.never rfl (pi_enumT (by rfl) T.enumerate (pa_cons (pv 0) pa_nil)) (pg_tup rfl (pgs_cons (pg_name (i := 5) sc_passes.nd rfl (Or.inl rfl)) (pgs_cons (pg_tup rfl (pgs_cons (pg_name (i := 6) sc_passes.nd rfl (Or.inl rfl)) (pgs_cons (pg_name (i := 7) sc_passes.nd rfl (Or.inl rfl)) pgs_nil))) pgs_nil))) (pss_cons (ps_if (pt_cmpR op_in_seq (pv 5) (pv 1) (by rfl)) (pss_one (ps_set (i := 4) sc_passes.nd rfl (Or.inl rfl) (pe_callB (call_min2 rfl) (gl_of gl_passes_min) T.min bb_min (pa_cons (pv 4) (pa_cons (pv 7) pa_nil))))) pss_nil)
      (pss_cons (ps_aug (i := 4) sc_passes.nd rfl (Or.inl rfl) (pv 6) ip_add)
      (pss_cons (ps_expr (pe_bm PySem.F.plainAttrs_list PySem.F.slot_list_append PySem.F.type_list_append mt_append (pv 3) (pa_cons (pv 4) pa_nil)))
      (pss_one (ps_if (pt_cmpR op_gt (pv 4) (pv 2) (nomark _)) (pss_one ps_break) pss_nil))))))
      (pss_one (ps_ret (pe_callTy call_tuple_of (gl_of gl_passes_tuple) T.tuple bt_tuple (pa_cons (pv 3) pa_nil))))))), ?_⟩
  refine st_seq ⟨(show 0 ≤ sizeLine by decide), fun L nL => ?_⟩
  refine st_seq ?_
  refine st_seq ?_
  refine ⟨_, rfl, a, us, rfl, sqT_same (same_new nL) ha, ?_⟩
  generalize htot : pas (fun k => inV (.int (k : Nat)) (ys.map V.int)) room rs 0 0 = tot at q
  have fin : ∀ (Hx : Hp), Same H Hx → Hx L = some (.lst (tot.map V.int)) → ∀ p, Hx p = none → Q (.ref p) (upd Hx p (.tup (tot.map V.int))) := fun Hx sx _ p np => q p _ (sx.trans (same_new np)) (SqT.of upd_same)
  refine for_it (walk_enumT (K := K) (a := a) (xs := us)) (fun i σ H' => ∃ (st : Int) (acc : List Int) (y5 y6 y7 : Option V), σ = [some (.ref a), some (.ref b), some (.int room), some (.ref L), some (.int st), y5, y6, y7] ∧ Same H H' ∧ H' L = some (.lst (acc.map V.int)) ∧ acc.length = i ∧ tot = acc ++ pas (fun k => inV (.int (k : Nat)) (ys.map V.int)) room (rs.drop i) i st) ?_ (fun i σ H1 _ hP => ?_) (fun i x σ H1 H2 hi hP hy => ?_) (fun σ H1 hP => ?_)
  · exact ⟨0, [], none, none, none, rfl, same_new nL, upd_same, rfl, by rw [← htot]; rfl⟩
  · obtain ⟨st, acc, y5, y6, y7, rfl, sm, _⟩ := hP
    exact sqT_same sm ha
  · obtain ⟨st, acc, y5, y6, y7, rfl, sm, eL, la, et⟩ := hP
    obtain ⟨T0, x0, y0, rfl, nT, rfl, ex, ey⟩ := hy
    cases ex
    have hi2 : i < rs.length := by omega
    obtain ⟨c, ec, hc⟩ := hu i rs[i] (List.getElem?_eq_getElem hi2)
    have ey2 : us[i]? = some y0 := ey
    rw [ec] at ey2
    cases ey2
    have s2 : Same H (upd H1 T0 (.tup [.int (i : Nat), .ref c])) := sm.trans (same_new nT)
    have eL2 : (upd H1 T0 (.tup [.int (i : Nat), .ref c])) L = some (.lst (acc.map V.int)) := same_new nT _ _ eL
    have eT : (upd H1 T0 (.tup [.int (i : Nat), .ref c])) T0 = some (.tup [.int (i : Nat), .ref c]) := upd_same
    generalize upd H1 T0 (.tup [.int (i : Nat), .ref c]) = H2 at s2 eL2 eT
    obtain ⟨tt1, tt2⟩ := pas_turn (List.getElem?_eq_getElem hi2) et
    generalize hst : lft (inV (.int (i : Nat)) (ys.map V.int)) rs[i].2 st = st2 at tt1 tt2
    refine ⟨T0, _, rfl, SqT.of eT, rfl, _, _, rfl, _, _, rfl, c, _, rfl, sqT_same s2 hc, rfl, _, _, rfl, _, _, rfl, rfl, rfl, ?_⟩
    refine st_seq ?_
    refine if_join (fun σ' H' => σ' = [some (.ref a), some (.ref b), some (.int room), some (.ref L), some (.int st2), some (.int (i : Nat)), some (.int rs[i].1), some (.int rs[i].2)] ∧ H' = H2) (fun N hN => ?_) (fun σ' H' hJ => ?_)
    · refine ⟨_, rfl, _, rfl, b, _, rfl, .inr (sqT_same s2 hb), rfl, flat_ints ys, _, rfl, ite2 (fun e => ?_) (fun e => ?_)⟩
      · refine ⟨_, rfl, _, rfl, _, _, rfl, hN _ _ ⟨?_, rfl⟩⟩
        rw [← hst]
        unfold lft
        have e1 : inV (.int (i : Nat)) (ys.map V.int) = true := e
        show [some (V.ref a), some (.ref b), some (.int room), some (.ref L), some (.int (if rs[i].2 < st then rs[i].2 else st)), some (.int (i : Nat)), some (.int rs[i].1), some (.int rs[i].2)] = _
        rw [e1]
        simp
      · refine hN _ _ ⟨?_, rfl⟩
        have e1 : inV (.int (i : Nat)) (ys.map V.int) = false := Bool.eq_false_iff.mpr e
        rw [← hst, e1]
        unfold lft
        rw [if_neg (fun z => Bool.false_ne_true z.1)]
        rfl
    · obtain ⟨rfl, rfl⟩ := hJ
      refine st_seq ?_
      refine ⟨_, rfl, _, rfl, _, _, rfl, rfl, ?_⟩
      refine st_seq ?_
      refine ⟨_, rfl, .inl ⟨rfl, _, SqL.of eL2⟩, _, rfl, L, _, _, rfl, rfl, eL2, ?_, ?_⟩
      · rw [List.length_map]
        exact small1000 (by omega)
      have eL3 : (upd H' L (.lst (acc.map V.int ++ [.int (st2 + rs[i].1)]))) L = some (.lst ((acc ++ [st2 + rs[i].1]).map V.int)) := by
        rw [upd_same, List.map_append]
        rfl
      have s3 : Same H (upd H' L (.lst (acc.map V.int ++ [.int (st2 + rs[i].1)]))) := same_mut s2 nL
      generalize upd H' L (.lst (acc.map V.int ++ [.int (st2 + rs[i].1)])) = H3 at eL3 s3
      refine ⟨_, rfl, _, rfl, _, _, rfl, rfl, _, rfl, ite2 (fun e => ?_) (fun e => ?_)⟩
      · have e1 : room < st2 + rs[i].1 := of_decide_eq_true e
        rw [← tt1 e1] at eL3
        exact ⟨_, rfl, L, _, rfl, .inl ⟨SqL.of eL3, fin H3 s3 eL3⟩⟩
      · have e1 : ¬ room < st2 + rs[i].1 := fun z => e (decide_eq_true z)
        refine ⟨_, _, _, _, _, rfl, s3, eL3, ?_, tt2 e1⟩
        rw [List.length_append, la]
        rfl
  · obtain ⟨st, acc, y5, y6, y7, rfl, sm, eL, la, et⟩ := hP
    rw [lu, List.drop_length] at et
    have et2 : tot = acc := by
      rw [et]
      exact List.append_nil _
    rw [← et2] at eL
    exact ⟨_, rfl, L, _, rfl, .inl ⟨SqL.of eL, fin H1 sm eL⟩⟩
end
theorem lay_ints : ∀ ns : List Int, PyData.canLayAll0 (ns.map PyData.int) = true
  | [] => rfl
  | n :: r => by
    show (PyData.canLay0 (.int n) && PyData.canLayAll0 (r.map PyData.int)) = true
    rw [lay_ints r]
    rfl
theorem dep_ints : ∀ ns : List Int, PyData.depthAll (ns.map PyData.int) = 0
  | [] => rfl
  | n :: r => by
    show max (PyData.depth (.int n)) (PyData.depthAll (r.map PyData.int)) = 0
    rw [dep_ints r]
    rfl
theorem shape_ints (ns : List Int) : SeqAt.shaped (.list (ns.map PyData.int)) = true ∧ SeqAt.shaped (.tuple (ns.map PyData.int)) = true := by
  refine ⟨?_, ?_⟩
  · show (PyData.canLayAll0 (ns.map PyData.int) && decide (PyData.depthAll (ns.map PyData.int) + 1 ≤ 64)) = true
    rw [lay_ints, dep_ints]
    rfl
  · show (PyData.canLayAll0 (ns.map PyData.int) && decide (PyData.depthAll (ns.map PyData.int) + 1 ≤ 64)) = true
    rw [lay_ints, dep_ints]
    rfl
theorem eqv_nil (ns : List Int) : PyData.eqv (.list (ns.map PyData.int)) (.list []) = ns.isEmpty := by
  cases ns <;> simp [PyData.eqv, PyData.eqvAll]
/-! ### stages: there are some, and no others -/
theorem Pl.best_g (f : Nat → Nat) : ∀ m : Nat, ∃ g, g ≤ m ∧ ∀ g', g' ≤ m → f g' ≤ f g
  | 0 => ⟨0, Nat.le_refl _, fun g' h => by rw [Nat.le_zero.mp h]; exact Nat.le_refl _⟩
  | m + 1 => by
    obtain ⟨g, hg, h⟩ := Pl.best_g f m
    by_cases c : f g ≤ f (m + 1)
    · refine ⟨m + 1, Nat.le_refl _, fun g' hg' => ?_⟩
      by_cases d : g' ≤ m
      · exact Nat.le_trans (h g' d) c
      · rw [show g' = m + 1 by omega]
        exact Nat.le_refl _
    · refine ⟨g, by omega, fun g' hg' => ?_⟩
      by_cases d : g' ≤ m
      · exact h g' d
      · rw [show g' = m + 1 by omega]
        omega
theorem Pl.Stg.go_on {room : Int} {rs : List (Int × Int)} : ∀ (d : Nat) (ms fs : List Nat) (m : Nat), Stg room rs ms fs → ms[ms.length - 1]? = some m → rs.length - m ≤ d → ∃ ms' fs', Stg room rs ms' fs' ∧ Last room rs ms'
  | d, ms, fs, m, s, hm, hd => by
    have mle := s.le m (List.mem_of_getElem? hm)
    by_cases c : m = rs.length
    · refine ⟨ms, fs, s, fun m1 h1 => ?_⟩
      rw [hm] at h1
      cases h1
      exact .inl c
    · obtain ⟨g, hg, hx⟩ := Pl.best_g (En room rs) m
      by_cases e : En room rs g ≤ m
      · refine ⟨ms, fs, s, fun m1 h1 => ?_⟩
        rw [hm] at h1
        cases h1
        exact .inr fun g' hg' => Nat.le_trans (hx g' hg') e
      · cases d with
        | zero => omega
        | succ d =>
          refine Pl.Stg.go_on d (ms ++ [En room rs g]) (fs ++ [g]) (En room rs g) (s.snoc hm (by omega) hg (by omega) hx) ?_ (by omega)
          rw [List.length_append, List.getElem?_append_right (by simp)]
          simp
theorem Pl.Stg.exist (room : Int) (rs : List (Int × Int)) : ∃ ms fs, Stg room rs ms fs ∧ Last room rs ms := Pl.Stg.go_on _ _ _ _ (Pl.Stg.init room rs) rfl (Nat.le_refl _)
theorem Pl.Stg.agree {room : Int} {rs : List (Int × Int)} {ms fs ms' fs' : List Nat} (s : Stg room rs ms fs) (s' : Stg room rs ms' fs') : ∀ (j m m' : Nat), ms[j]? = some m → ms'[j]? = some m' → m = m'
  | 0, m, m', h, h' => by
    have a := s.zero
    have b := s'.zero
    rw [h] at a
    rw [h'] at b
    exact (Option.some.inj a).trans (Option.some.inj b).symm
  | j + 1, m, m', h, h' => by
    have l := (List.getElem?_eq_some_iff.mp h).1
    have l' := (List.getElem?_eq_some_iff.mp h').1
    have lf := s.len
    have lf' := s'.len
    have ih := s.agree s' j ms[j] ms'[j] (List.getElem?_eq_getElem (by omega)) (List.getElem?_eq_getElem (by omega))
    obtain ⟨a1, a2, a3, a4, a5⟩ := s.step j fs[j] ms[j] m (List.getElem?_eq_getElem (by omega)) (List.getElem?_eq_getElem (by omega)) h
    obtain ⟨b1, b2, b3, b4, b5⟩ := s'.step j fs'[j] ms'[j] m' (List.getElem?_eq_getElem (by omega)) (List.getElem?_eq_getElem (by omega)) h'
    have x1 := a5 fs'[j] (by omega)
    have x2 := b5 fs[j] (by omega)
    omega
theorem Pl.Stg.longer {room : Int} {rs : List (Int × Int)} {ms fs ms' fs' : List Nat} (s : Stg room rs ms fs) (hl : Last room rs ms) (s' : Stg room rs ms' fs') : ms'.length ≤ ms.length := by
  have lf := s.len
  have lf' := s'.len
  by_cases c : ms.length < ms'.length
  · have hm : ms[ms.length - 1]? = some ms[ms.length - 1] := List.getElem?_eq_getElem (by omega)
    have ag := s.agree s' (ms.length - 1) ms[ms.length - 1] ms'[ms.length - 1] hm (List.getElem?_eq_getElem (by omega))
    obtain ⟨b1, b2, b3, b4, b5⟩ := s'.step (ms.length - 1) fs'[ms.length - 1] ms'[ms.length - 1] ms'[ms.length - 1 + 1] (List.getElem?_eq_getElem (by omega)) (List.getElem?_eq_getElem (by omega)) (List.getElem?_eq_getElem (by omega))
    rcases hl _ hm with e | e
    · omega
    · have := e fs'[ms.length - 1] (by omega)
      omega
  · omega
theorem Pl.Stg.uniq {room : Int} {rs : List (Int × Int)} {ms fs ms' fs' : List Nat} (s : Stg room rs ms fs) (hl : Last room rs ms) (s' : Stg room rs ms' fs') (hl' : Last room rs ms') : ms = ms' := by
  have a := s.longer hl s'
  have b := s'.longer hl' s
  refine List.ext_getElem (by omega) fun j h1 h2 => ?_
  exact s.agree s' j _ _ (List.getElem?_eq_getElem h1) (List.getElem?_eq_getElem h2)
/-- what stands ahead of each round, whatever the room -/
def stn (sm : Nat → Bool) (rs : List (Int × Int)) : Nat → Int
  | 0 => 0
  | k + 1 => lft (sm k) ((rs[k]?.map (·.2)).getD 0) (stn sm rs k) + ((rs[k]?.map (·.1)).getD 0)
theorem lft_mono {b b' : Bool} {l s s' : Int} (hb : b = true → b' = true) (h : s' ≤ s) : lft b' l s' ≤ lft b l s := by
  unfold lft
  by_cases c : b = true ∧ l < s
  · rw [if_pos c]
    split
    · exact Int.le_refl _
    · rename_i d
      have : ¬ l < s' := fun z => d ⟨hb c.1, z⟩
      omega
  · rw [if_neg c]
    split
    · rename_i d
      omega
    · exact h
theorem stn_mono {sm sm' : Nat → Bool} (rs : List (Int × Int)) (h : ∀ k, sm k = true → sm' k = true) : ∀ k, stn sm' rs k ≤ stn sm rs k
  | 0 => Int.le_refl _
  | k + 1 => by
    have := lft_mono (l := (rs[k]?.map (·.2)).getD 0) (h k) (stn_mono rs h k)
    show lft _ _ _ + _ ≤ lft _ _ _ + _
    omega
theorem psd_stn (sm : Nat → Bool) (room : Int) (rs : List (Int × Int)) : ∀ (d k : Nat), k + d = rs.length → (∀ j, j < psd sm room (rs.drop k) k (stn sm rs k) → stn sm rs (k + j + 1) ≤ room) ∧ (psd sm room (rs.drop k) k (stn sm rs k) < d → room < stn sm rs (k + psd sm room (rs.drop k) k (stn sm rs k) + 1))
  | 0, k, hk => by
    rw [show rs.drop k = [] from List.drop_eq_nil_of_le (by omega)]
    exact ⟨fun j hj => absurd hj (Nat.not_lt_zero _), fun h => absurd h (Nat.not_lt_zero _)⟩
  | d + 1, k, hk => by
    have hlt : k < rs.length := by omega
    have ed : rs.drop k = rs[k] :: rs.drop (k + 1) := List.drop_eq_getElem_cons hlt
    have es : stn sm rs (k + 1) = lft (sm k) rs[k].2 (stn sm rs k) + rs[k].1 := by
      show lft (sm k) ((rs[k]?.map (·.2)).getD 0) (stn sm rs k) + ((rs[k]?.map (·.1)).getD 0) = _
      rw [List.getElem?_eq_getElem hlt]
      rfl
    have ep : psd sm room (rs.drop k) k (stn sm rs k) = if room < stn sm rs (k + 1) then 0 else psd sm room (rs.drop (k + 1)) (k + 1) (stn sm rs (k + 1)) + 1 := by
      rw [ed, es]
      rfl
    obtain ⟨ih1, ih2⟩ := psd_stn sm room rs d (k + 1) (by omega)
    rw [ep]
    by_cases c : room < stn sm rs (k + 1)
    · rw [if_pos c]
      exact ⟨fun j hj => absurd hj (Nat.not_lt_zero _), fun _ => c⟩
    · rw [if_neg c]
      refine ⟨fun j hj => ?_, fun h => ?_⟩
      · cases j with
        | zero => exact Int.not_lt.mp c
        | succ j =>
          have := ih1 j (by omega)
          rw [show k + (j + 1) + 1 = k + 1 + j + 1 by omega]
          exact this
      · have := ih2 (by omega)
        rw [show k + (psd sm room (rs.drop (k + 1)) (k + 1) (stn sm rs (k + 1)) + 1) + 1 = k + 1 + psd sm room (rs.drop (k + 1)) (k + 1) (stn sm rs (k + 1)) + 1 by omega]
        exact this
theorem Psd_stn {sm : Nat → Bool} {room : Int} {rs : List (Int × Int)} {p : Nat} (hp : p ≤ rs.length) (h1 : ∀ j, j < p → stn sm rs (j + 1) ≤ room) (h2 : p < rs.length → room < stn sm rs (p + 1)) : Psd sm room rs = p := by
  obtain ⟨a, b⟩ := psd_stn sm room rs rs.length 0 (by omega)
  have e : psd sm room (rs.drop 0) 0 (stn sm rs 0) = Psd sm room rs := rfl
  rw [e] at a b
  have le := Psd_le sm room rs
  rcases Nat.lt_trichotomy (Psd sm room rs) p with c | c | c
  · have x := b (by omega)
    have y := h1 _ c
    rw [Nat.zero_add] at x
    omega
  · exact c
  · have x := a p c
    have y := h2 (by omega)
    rw [Nat.zero_add] at x
    omega
/-- rounds ahead of which the j-th freezing may be -/
def smi (ms : List Nat) : Nat → Nat → Bool
  | 0, _ => false
  | j + 1, k => decide (k ≤ ms.getD j 0)
theorem Pl.Stg.row {room : Int} {rs : List (Int × Int)} {ms fs : List Nat} (s : Stg room rs ms fs) (h0 : ∀ r ∈ rs, 0 ≤ r.1) {i m : Nat} (hm : ms[i]? = some m) : Psd (smi ms i) room rs = m := by
  have lf := s.len
  have li := (List.getElem?_eq_some_iff.mp hm).1
  refine Nat.le_antisymm ?_ (s.gain h0 _ i m hm fun j f hj hf => ?_)
  · by_cases c : m < Psd (smi ms i) room rs
    · have e0 := s.mono i m _ hm s.zero
      rcases Psd_cov h0 c with z | ⟨f, hf, _, hs, hE⟩
      · omega
      · cases i with
        | zero => cases hs
        | succ i =>
          have hs2 : f ≤ ms.getD i 0 := of_decide_eq_true hs
          have hi : ms[i]? = some ms[i] := List.getElem?_eq_getElem (by omega)
          rw [List.getD_eq_getElem?_getD, hi] at hs2
          have := (s.step i fs[i] ms[i] m (List.getElem?_eq_getElem (by omega)) hi hm).2.2.2.2 f hs2
          omega
    · omega
  · cases i with
    | zero => omega
    | succ i =>
      have hj2 : ms[j]? = some ms[j] := List.getElem?_eq_getElem (by omega)
      have z := s.step j f ms[j] ms[j + 1] hf hj2 (List.getElem?_eq_getElem (by omega))
      have hi : ms[i]? = some ms[i] := List.getElem?_eq_getElem (by omega)
      refine decide_eq_true ?_
      rw [List.getD_eq_getElem?_getD, hi]
      show f ≤ ms[i]
      by_cases c : j = i
      · subst c
        omega
      · have e1 := s.step j f ms[j] ms[j + 1] hf hj2 (List.getElem?_eq_getElem (by omega))
        have up : ms[j] ≤ ms[i] := by
          have w : ∀ d, (hd : j + d < ms.length) → ms[j] ≤ ms[j + d] := fun d => by
            induction d with
            | zero => exact fun _ => Nat.le_refl _
            | succ d ih =>
              intro hd
              have a := ih (by omega)
              have b := s.step (j + d) fs[j + d] ms[j + d] ms[j + d + 1] (List.getElem?_eq_getElem (by omega)) (List.getElem?_eq_getElem (by omega)) (List.getElem?_eq_getElem (by omega))
              have e : ms[j + (d + 1)] = ms[j + d + 1] := rfl
              omega
          have := w (i - j) (by omega)
          simp only [show j + (i - j) = i by omega] at this
          exact this
        omega
section
variable {P : Program} {w : World} {K : PySem.W.Frag} {mg : Str → Option Value} {base : Heap}
theorem b62 {x : Int} (h0 : 0 ≤ x) (h1 : x ≤ 1000000) : x.natAbs < 2 ^ 62 := by
  have e : (2 : Nat) ^ 62 = 4611686018427387904 := by decide
  omega
theorem ok_int (x : Int) : PyData.strOk (PyData.shown (.int x)) = true := by
  unfold PyData.strOk
  rw [← Array.all_toList, List.all_eq_true]
  intro k hk
  refine decide_eq_true ?_
  by_cases c : k ≠ 45 ∧ (k < 48 ∨ 57 < k)
  · exact absurd hk (shown_int_free' c x)
  · omega
theorem shape_nev (x : Int) : SeqAt.shaped (.tuple [.str "never", .str (PyData.shown (.int x))]) = true := by
  show ((PyData.strOk "never" && (PyData.strOk (PyData.shown (.int x)) && true)) && decide (1 ≤ 64)) = true
  rw [ok_int, show PyData.strOk "never" = true by decide +kernel]
  rfl
theorem pw_ext : ∀ {xs ys : List Int}, xs.Pairwise (· < ·) → ys.Pairwise (· < ·) → (∀ k, k ∈ xs ↔ k ∈ ys) → xs = ys
  | [], [], _, _, _ => rfl
  | [], y :: ys, _, _, h => by cases (h y).mpr (List.mem_cons_self ..)
  | x :: xs, [], _, _, h => by cases (h x).mp (List.mem_cons_self ..)
  | x :: xs, y :: ys, hx, hy, h => by
    obtain ⟨a1, a2⟩ := List.pairwise_cons.mp hx
    obtain ⟨b1, b2⟩ := List.pairwise_cons.mp hy
    have e : x = y := by
      rcases List.mem_cons.mp ((h x).mp (List.mem_cons_self ..)) with q | q
      · exact q
      · rcases List.mem_cons.mp ((h y).mpr (List.mem_cons_self ..)) with r | r
        · exact r.symm
        · have := b1 x q
          have := a1 y r
          omega
    subst e
    rw [pw_ext a2 b2 fun k => ?_]
    constructor
    · intro hk
      rcases List.mem_cons.mp ((h k).mp (List.mem_cons_of_mem _ hk)) with q | q
      · have := a1 k hk
        omega
      · exact q
    · intro hk
      rcases List.mem_cons.mp ((h k).mpr (List.mem_cons_of_mem _ hk)) with q | q
      · have := b1 k hk
        omega
      · exact q
theorem inn_plan (fs : List Nat) (k : Nat) : inn (fs.map fun f => ((f : Nat) : Int)) k = decide (k ∈ fs) := by
  unfold inn
  refine decide_eq_decide.mpr ⟨fun h => ?_, fun h => List.mem_map.mpr ⟨k, h, rfl⟩⟩
  obtain ⟨f, hf, e⟩ := List.mem_map.mp h
  have : f = k := by omega
  rw [← this]
  exact hf
theorem Pl.Stg.full {room : Int} {rs : List (Int × Int)} {ms fs : List Nat} (s : Stg room rs ms fs) (h0 : ∀ r ∈ rs, 0 ≤ r.1) {m : Nat} (hm : ms[ms.length - 1]? = some m) : m ≤ Psd (inn (fs.map fun f => ((f : Nat) : Int))) room rs := by
  refine s.gain h0 _ _ m hm fun i f _ hf => ?_
  rw [inn_plan]
  exact decide_eq_true (List.mem_of_getElem? hf)
theorem Pl.Stg.plan {room : Int} {rs : List (Int × Int)} {ms fs : List Nat} (s : Stg room rs ms fs) : fs.Pairwise (· < ·) ∧ ∀ f ∈ fs, f < rs.length := by
  refine ⟨?_, fun f hf => ?_⟩
  · rw [List.pairwise_iff_getElem]
    intro i j hi hj hij
    have step : ∀ d (h : i + 1 + d < fs.length), fs[i] < fs[i + 1 + d] := fun d => by
      induction d with
      | zero => exact fun h => s.rise i fs[i] fs[i + 1] (List.getElem?_eq_getElem hi) (List.getElem?_eq_getElem h)
      | succ d ih =>
        intro h
        have a := ih (by omega)
        have b := s.rise (i + 1 + d) fs[i + 1 + d] fs[i + 1 + (d + 1)] (List.getElem?_eq_getElem (by omega)) (List.getElem?_eq_getElem h)
        omega
    have e : j = i + 1 + (j - i - 1) := by omega
    have := step (j - i - 1) (by omega)
    simp only [← e] at this
    exact this
  · obtain ⟨j, hj, e⟩ := List.mem_iff_getElem.mp hf
    have lf := s.len
    have z := s.step j fs[j] ms[j] ms[j + 1] (List.getElem?_eq_getElem hj) (List.getElem?_eq_getElem (by omega)) (List.getElem?_eq_getElem (by omega))
    omega
theorem plan_up {fs : List Nat} (h : fs.Pairwise (· < ·)) : (fs.map fun f => ((f : Nat) : Int)).Pairwise (· < ·) := by
  rw [List.pairwise_map]
  exact h.imp fun q => by omega
theorem ms_small {room : Int} {rs : List (Int × Int)} {ms fs : List Nat} (s : Stg room rs ms fs) (hl : rs.length ≤ 400) : (∀ x ∈ ms.map (fun m => ((m : Nat) : Int)), x.natAbs < 2 ^ 62) ∧ (ms.map (fun m => ((m : Nat) : Int))).length ≤ 1000 := by
  refine ⟨fun x hx => ?_, ?_⟩
  · obtain ⟨m, hm, rfl⟩ := List.mem_map.mp hx
    have := s.le m hm
    exact b62 (by omega) (by omega)
  · rw [List.length_map]
    have := s.few.1
    omega
end
/-! ### zip of two tuples in a comprehension, all of it so -/
theorem walk_zipT {K : PySem.W.Frag} {a b : Addr} {xs ys : List V} {n : Nat} (hn : n = min xs.length ys.length) : Walk (RZ.ItzT K a b) n (fun H => SqT K H a xs ∧ SqT K H b ys) (YPair (fun i => xs[i]?) (fun i => ys[i]?)) := by
  subst hn
  refine ⟨fun i _ hi z => ?_, fun _ z => ⟨xs, ys, z.1, z.2, by omega⟩, fun i H v H' _ z y => ?_⟩
  · exact ⟨xs, ys, xs[i]'(by omega), ys[i]'(by omega), z.1, z.2, List.getElem?_eq_getElem (by omega), List.getElem?_eq_getElem (by omega)⟩
  · obtain ⟨T, x, u, e1, e2, e3, e4, e5⟩ := y
    exact ⟨T, x, u, e1, e2, e3, e4 xs z.1, e5 ys z.2⟩
theorem zip_all {K : PySem.W.Frag} {a b D : Addr} {xs ys : List Int} {i j : Nat} {vs : List Nat} {te : TE} {σ : L2.St} {H : Hp} {Qd : Hp → Prop} (rel : Int → Int → Bool) (hx : SqT K H a (xs.map V.int)) (hy : SqT K H b (ys.map V.int)) (hl : xs.length ≤ 500) (nD : H D = none)
    (hrel : ∀ (k : Nat) (x y : Int), xs[k]? = some x → ys[k]? = some y → rel x y = true) (hw : ∀ u v, wipe (((wipe σ vs).set i u).set j v) vs = wipe σ vs)
    (hte : ∀ (x y : Int) (H3 : Hp) (Q : VK), Q (.bl (rel x y)) H3 → te (((wipe σ vs).set i (some (.int x))).set j (some (.int y))) H3 Q) (go : ∀ H' k, Same H H' → H' D = some (.lst ((List.replicate k true).map V.bl)) → Qd H') :
    ∃ W : Nat → Nat → Hp → Prop, (∃ m, W 0 m (upd H D (.lst []))) ∧ ∀ n m H, W n m H → ((RZ.ItzT K a b).stop n H ∧ Qd H) ∨ ((RZ.ItzT K a b).go n H ∧ ∃ Nx : Hp → Prop, (∀ H', Nx H' → ∃ m', m' < m ∧ W (n + 1) m' H') ∧ ∀ x H', (RZ.ItzT K a b).yld n H x H' → gTup K 2 (gCons (gName i) (gCons (gName j) gNil)) x (wipe σ vs) H' fun σ2 H2 => wipe σ2 vs = wipe σ vs ∧ tYes σ2 H2 fun b H3 =>
        if b = true then te σ2 H3 fun y H4 => ∃ acc, H4 D = some (.lst acc) ∧ acc.length < sizeLine ∧ Nx (upd H4 D (.lst (acc ++ [y]))) else Nx H3) := by
  refine lc_it (walk_zipT (K := K) (a := a) (b := b) (xs := xs.map V.int) (ys := ys.map V.int) rfl) (fun k H' => Same H H' ∧ H' D = some (.lst ((List.replicate k true).map V.bl))) ⟨same_new nD, upd_same⟩ (fun k H' _ hP => ⟨sqT_same hP.1 hx, sqT_same hP.1 hy⟩) (fun k x H1 H2 hk hP hY => ?_) (fun H' hP => go H' _ hP.1 hP.2)
  obtain ⟨s1, eD⟩ := hP
  obtain ⟨T0, x0, y0, rfl, nT, rfl, ex, ey⟩ := hY
  rw [List.length_map, List.length_map] at hk
  have ex2 : (xs.map V.int)[k]? = some x0 := ex
  have ey2 : (ys.map V.int)[k]? = some y0 := ey
  rw [List.getElem?_map, List.getElem?_eq_getElem (show k < xs.length by omega)] at ex2
  rw [List.getElem?_map, List.getElem?_eq_getElem (show k < ys.length by omega)] at ey2
  cases ex2
  cases ey2
  refine ⟨T0, _, rfl, SqT.of upd_same, rfl, _, _, rfl, _, _, rfl, rfl, hw _ _, ?_⟩
  refine hte _ _ _ _ ?_
  refine ⟨_, same_new nT _ _ eD, ?_, same_mut (s1.trans (same_new nT)) nD, ?_⟩
  · rw [List.length_map, List.length_replicate]
    exact small1000 (by omega)
  · rw [upd_same, List.replicate_succ', List.map_append, hrel k _ _ (List.getElem?_eq_getElem (show k < xs.length by omega)) (List.getElem?_eq_getElem (show k < ys.length by omega))]
    rfl
/-! ### k56: more freezings, fewer rounds, more room -/
theorem pas_mono {sm sm' : Nat → Bool} {room : Int} (h : ∀ k, sm k = true → sm' k = true) : ∀ (rs : List (Int × Int)) (k : Nat) (st st' : Int), st' ≤ st → (pas sm room rs k st).length ≤ (pas sm' room rs k st').length ∧ ∀ (i : Nat) (x y : Int), (pas sm' room rs k st')[i]? = some x → (pas sm room rs k st)[i]? = some y → x ≤ y
  | [], _, _, _, _ => ⟨Nat.le_refl _, fun i x y hx => by cases hx⟩
  | r :: rs, k, st, st', hs => by
    have lm := lft_mono (l := r.2) (h k) hs
    unfold pas
    by_cases c : room < lft (sm k) r.2 st + r.1
    · rw [if_pos c]
      refine ⟨?_, fun i x y hx hy => ?_⟩
      · split
        · exact Nat.le_refl _
        · rw [List.length_cons, List.length_cons, List.length_nil]
          omega
      · cases i with
        | zero =>
          cases hy
          split at hx
          · cases hx
            omega
          · cases hx
            omega
        | succ i => cases hy
    · rw [if_neg c, if_neg (show ¬ room < lft (sm' k) r.2 st' + r.1 by omega)]
      obtain ⟨ih1, ih2⟩ := pas_mono (room := room) h rs (k + 1) (lft (sm k) r.2 st + r.1) (lft (sm' k) r.2 st' + r.1) (by omega)
      refine ⟨by rw [List.length_cons, List.length_cons]; omega, fun i x y hx hy => ?_⟩
      cases i with
      | zero =>
        cases hx
        cases hy
        omega
      | succ i => exact ih2 i x y hx hy
theorem psd_room {sm : Nat → Bool} {room room' : Int} (h : room ≤ room') : ∀ (rs : List (Int × Int)) (k : Nat) (st : Int), psd sm room rs k st ≤ psd sm room' rs k st
  | [], _, _ => Nat.le_refl _
  | r :: rs, k, st => by
    unfold psd
    by_cases c : room < lft (sm k) r.2 st + r.1
    · rw [if_pos c]
      exact Nat.zero_le _
    · rw [if_neg c, if_neg (show ¬ room' < lft (sm k) r.2 st + r.1 by omega)]
      have := psd_room (sm := sm) h rs (k + 1) (lft (sm k) r.2 st + r.1)
      omega
theorem psd_take {sm : Nat → Bool} {room : Int} : ∀ (rs : List (Int × Int)) (n k : Nat) (st : Int), psd sm room (rs.take n) k st = min (psd sm room rs k st) n
  | [], n, _, _ => by
    rw [List.take_nil]
    show 0 = min 0 n
    omega
  | r :: rs, 0, k, st => by
    rw [List.take_zero]
    show 0 = min _ 0
    omega
  | r :: rs, n + 1, k, st => by
    rw [List.take_succ_cons]
    unfold psd
    by_cases c : room < lft (sm k) r.2 st + r.1
    · rw [if_pos c, if_pos c]
      omega
    · rw [if_neg c, if_neg c, psd_take rs n (k + 1)]
      omega
theorem pas_psd {sm : Nat → Bool} {room : Int} {rs : List (Int × Int)} (hl : (pas sm room rs 0 0).length = rs.length) (hb : ∀ x ∈ pas sm room rs 0 0, x ≤ room) : Psd sm room rs = rs.length := by
  have e := pas_filter sm room rs 0 0
  rw [List.filter_eq_self.mpr (fun x hx => decide_eq_true (hb x hx)), hl] at e
  exact e.symm
theorem Pl.Stg.lt {room : Int} {rs : List (Int × Int)} {ms fs : List Nat} (s : Stg room rs ms fs) (i : Nat) : ∀ (d m m' : Nat), ms[i]? = some m → ms[i + 1 + d]? = some m' → m < m'
  | 0, m, m', h, h' => by
    have l := (List.getElem?_eq_some_iff.mp h').1
    have lf := s.len
    exact (s.step i fs[i] m m' (List.getElem?_eq_getElem (by omega)) h h').2.2.2.1
  | d + 1, m, m', h, h' => by
    have l := (List.getElem?_eq_some_iff.mp h').1
    have lf := s.len
    have a := s.lt i d m ms[i + 1 + d] h (List.getElem?_eq_getElem (by omega))
    have b := (s.step (i + 1 + d) fs[i + 1 + d] ms[i + 1 + d] m' (List.getElem?_eq_getElem (by omega)) (List.getElem?_eq_getElem (by omega)) h').2.2.2.1
    omega
theorem Pl.Stg.least {room : Int} {rs : List (Int × Int)} {ms fs : List Nat} (s : Stg room rs ms fs) (h0 : ∀ r ∈ rs, 0 ≤ r.1) {m : Nat} (hm : ms[ms.length - 1]? = some m) {t : List Int} (ht : m ≤ Psd (inn t) room rs) : fs.length ≤ t.length := by
  have lf := s.len
  by_cases c : t.length < fs.length
  · have b := s.bound h0 t t.length ms[t.length] (List.getElem?_eq_getElem (by omega)) (Nat.le_refl _)
    have l := s.lt t.length (ms.length - 1 - t.length - 1) ms[t.length] m (List.getElem?_eq_getElem (by omega)) (by rw [show t.length + 1 + (ms.length - 1 - t.length - 1) = ms.length - 1 by omega]; exact hm)
    omega
  · omega
/-- the first j told freezings come just so far -/
theorem Pl.Stg.some_j {room : Int} {rs : List (Int × Int)} {ms fs : List Nat} (s : Stg room rs ms fs) (h0 : ∀ r ∈ rs, 0 ≤ r.1) {j m : Nat} (hm : ms[j]? = some m) : ∃ t : List Int, t.length = j ∧ m ≤ Psd (inn t) room rs := by
  have lf := s.len
  have lj := (List.getElem?_eq_some_iff.mp hm).1
  refine ⟨(fs.take j).map fun f => ((f : Nat) : Int), by rw [List.length_map, List.length_take]; omega, s.gain h0 _ j m hm fun i f hi hf => ?_⟩
  rw [inn_plan]
  refine decide_eq_true (List.mem_of_getElem? (i := i) ?_)
  rw [List.getElem?_take, if_pos hi]
  exact hf
theorem early_is {room : Int} {rs : List (Int × Int)} {n : Nat} {ms fs ms' fs' : List Nat} (h0 : ∀ r ∈ rs, 0 ≤ r.1) (s : Stg room rs ms fs) (s' : Stg room (rs.take n) ms' fs') {j m m' : Nat} (h : ms[j]? = some m) (h' : ms'[j]? = some m') : m' = min m n := by
  have h0' : ∀ r ∈ rs.take n, 0 ≤ r.1 := fun r hr => h0 r (List.mem_of_mem_take hr)
  obtain ⟨t, ht, gt⟩ := s.some_j h0 h
  obtain ⟨t', ht', gt'⟩ := s'.some_j h0' h'
  have b := s.bound h0 t' j m h (by omega)
  have b' := s'.bound h0' t j m' h' (by omega)
  have e := psd_take (sm := inn t) (room := room) rs n 0 0
  have e' := psd_take (sm := inn t') (room := room) rs n 0 0
  unfold Psd at gt gt' b b'
  omega
theorem early_len {room : Int} {rs : List (Int × Int)} {n : Nat} {ms fs ms' fs' : List Nat} (h0 : ∀ r ∈ rs, 0 ≤ r.1) (s : Stg room rs ms fs) (hl : Last room rs ms) (s' : Stg room (rs.take n) ms' fs') (hn : n ≤ rs.length) : ms'.length ≤ ms.length := by
  have h0' : ∀ r ∈ rs.take n, 0 ≤ r.1 := fun r hr => h0 r (List.mem_of_mem_take hr)
  have lf := s.len
  have lf' := s'.len
  by_cases c : ms.length < ms'.length
  · have hm : ms[ms.length - 1]? = some ms[ms.length - 1] := List.getElem?_eq_getElem (by omega)
    have hm' : ms'[ms.length - 1]? = some ms'[ms.length - 1] := List.getElem?_eq_getElem (by omega)
    have e1 := early_is h0 s s' hm hm'
    have st := s'.step (ms.length - 1) fs'[ms.length - 1] ms'[ms.length - 1] ms'[ms.length - 1 + 1] (List.getElem?_eq_getElem (by omega)) hm' (List.getElem?_eq_getElem (by omega))
    have lt := st.2.1
    rw [List.length_take] at lt
    obtain ⟨t', ht', gt'⟩ := s'.some_j h0' (show ms'[ms.length - 1 + 1]? = some ms'[ms.length - 1 + 1] from List.getElem?_eq_getElem (by omega))
    have f := s.far hl h0 (inn t') _ hm
    have e' := psd_take (sm := inn t') (room := room) rs n 0 0
    unfold Psd at gt' f
    have := st.2.2.2.1
    omega
  · omega
theorem wider_is {room room' : Int} {rs : List (Int × Int)} {ms fs ms' fs' : List Nat} (h0 : ∀ r ∈ rs, 0 ≤ r.1) (hr : room ≤ room') (s : Stg room rs ms fs) (s' : Stg room' rs ms' fs') {j m m' : Nat} (h : ms[j]? = some m) (h' : ms'[j]? = some m') : m ≤ m' := by
  obtain ⟨t, ht, gt⟩ := s.some_j h0 h
  have b' := s'.bound h0 t j m' h' (by omega)
  have e := psd_room (sm := inn t) hr rs 0 0
  unfold Psd at gt b'
  omega
/-! ### rounds made greater, an idle round, harder rounds -/
def scl (c : Int) (rs : List (Int × Int)) : List (Int × Int) := rs.map fun r => (r.1 * c, r.2 * c)
theorem lft_scl {c : Int} (hc : 0 < c) (b : Bool) (l st : Int) : lft b (l * c) (st * c) = lft b l st * c := by
  have e : (l * c < st * c) ↔ l < st := Int.mul_lt_mul_right hc
  unfold lft
  by_cases h : b = true ∧ l < st
  · rw [if_pos h, if_pos ⟨h.1, e.mpr h.2⟩]
  · rw [if_neg h, if_neg fun z => h ⟨z.1, e.mp z.2⟩]
theorem pas_scl {c : Int} (hc : 0 < c) (sm : Nat → Bool) (room : Int) : ∀ (rs : List (Int × Int)) (k : Nat) (st : Int), pas sm (room * c) (scl c rs) k (st * c) = (pas sm room rs k st).map (· * c)
  | [], _, _ => rfl
  | r :: rs, k, st => by
    have ih := pas_scl hc sm room rs (k + 1) (lft (sm k) r.2 st + r.1)
    have e : lft (sm k) (r.2 * c) (st * c) + r.1 * c = (lft (sm k) r.2 st + r.1) * c := by rw [lft_scl hc, Int.add_mul]
    show (if room * c < lft (sm k) (r.2 * c) (st * c) + r.1 * c then [lft (sm k) (r.2 * c) (st * c) + r.1 * c] else (lft (sm k) (r.2 * c) (st * c) + r.1 * c) :: pas sm (room * c) (scl c rs) (k + 1) (lft (sm k) (r.2 * c) (st * c) + r.1 * c)) = _
    show _ = List.map (· * c) (if room < lft (sm k) r.2 st + r.1 then [lft (sm k) r.2 st + r.1] else (lft (sm k) r.2 st + r.1) :: pas sm room rs (k + 1) (lft (sm k) r.2 st + r.1))
    rw [e, ih]
    by_cases h : room < lft (sm k) r.2 st + r.1
    · rw [if_pos h, if_pos ((Int.mul_lt_mul_right hc).mpr h)]
      rfl
    · rw [if_neg h, if_neg fun z => h ((Int.mul_lt_mul_right hc).mp z)]
      rfl
theorem enI_scl {c : Int} (hc : 0 < c) (room : Int) : ∀ (rs : List (Int × Int)) (k : Nat) (st : Int), enI (room * c) (scl c rs) k (st * c) = enI room rs k st
  | [], _, _ => rfl
  | r :: rs, k, st => by
    have ih := enI_scl hc room rs (k + 1) (st + r.1)
    show (if room * c < st * c + r.1 * c then k else enI (room * c) (scl c rs) (k + 1) (st * c + r.1 * c)) = _
    show _ = if room < st + r.1 then k else enI room rs (k + 1) (st + r.1)
    rw [← Int.add_mul, ih]
    by_cases h : room < st + r.1
    · rw [if_pos h, if_pos ((Int.mul_lt_mul_right hc).mpr h)]
    · rw [if_neg h, if_neg fun z => h ((Int.mul_lt_mul_right hc).mp z)]
theorem En_scl {c : Int} (hc : 0 < c) (room : Int) (rs : List (Int × Int)) (f : Nat) : En (room * c) (scl c rs) f = En room rs f := by
  unfold En
  have e : (((scl c rs)[f]?.map (·.2)).getD 0) = ((rs[f]?.map (·.2)).getD 0) * c := by
    unfold scl
    rw [List.getElem?_map]
    cases rs[f]? with
    | none => exact (Int.zero_mul c).symm
    | some r => rfl
  have e2 : (scl c rs).drop f = scl c (rs.drop f) := by
    unfold scl
    rw [List.map_drop]
  rw [e, e2, enI_scl hc]
theorem Stg_scl {c : Int} (hc : 0 < c) {room : Int} {rs : List (Int × Int)} {ms fs : List Nat} (s : Stg (room * c) (scl c rs) ms fs) (hl : Last (room * c) (scl c rs) ms) : Stg room rs ms fs ∧ Last room rs ms := by
  have ll : (scl c rs).length = rs.length := List.length_map ..
  have z := enI_scl hc room rs 0 0
  rw [Int.zero_mul] at z
  refine ⟨⟨s.len, ?_, ?_, ?_⟩, ?_⟩
  · rw [← z]
    exact s.zero
  · rw [← ll]
    exact s.le
  · intro j f m m' h1 h2 h3
    have q := s.step j f m m' h1 h2 h3
    rw [ll, En_scl hc] at q
    refine ⟨q.1, q.2.1, q.2.2.1, q.2.2.2.1, fun g hg => ?_⟩
    have := q.2.2.2.2 g hg
    rw [En_scl hc] at this
    exact this
  · intro m hm
    have q := hl m hm
    rw [ll] at q
    rcases q with e | e
    · exact .inl e
    · refine .inr fun g hg => ?_
      have := e g hg
      rw [En_scl hc] at this
      exact this
/-- the freezings of an idle round left out -/
def skp (sm : Nat → Bool) (a : Nat) (j : Nat) : Bool := if j < a then sm j else sm (j + 1)
theorem psd_shift {sm sm' : Nat → Bool} (room : Int) : ∀ (rs : List (Int × Int)) (k : Nat) (st : Int), (∀ j, k ≤ j → sm' j = sm (j + 1)) → psd sm room rs (k + 1) st = psd sm' room rs k st
  | [], _, _, _ => rfl
  | r :: rs, k, st, h => by
    unfold psd
    rw [h k (Nat.le_refl _), psd_shift room rs (k + 1) _ fun j hj => h j (by omega)]
def put1 (rs : List (Int × Int)) (a : Nat) (i : Int × Int) : List (Int × Int) := rs.take a ++ i :: rs.drop a
theorem psd_idle {room lag : Int} (hl : room ≤ lag) (sm : Nat → Bool) : ∀ (rs : List (Int × Int)) (a k : Nat) (st : Int), a ≤ rs.length → st ≤ room → psd sm room (put1 rs a (0, lag)) k st = if a ≤ psd (skp sm (k + a)) room rs k st then psd (skp sm (k + a)) room rs k st + 1 else psd (skp sm (k + a)) room rs k st
  | rs, 0, k, st, _, hs => by
    have e : lft (sm k) lag st = st := by
      unfold lft
      rw [if_neg fun z => by omega]
    show psd sm room ((0, lag) :: rs) k st = _
    rw [if_pos (Nat.zero_le _)]
    show (if room < lft (sm k) lag st + 0 then 0 else psd sm room rs (k + 1) (lft (sm k) lag st + 0) + 1) = _
    rw [e, Int.add_zero, if_neg (by omega), psd_shift (sm' := skp sm (k + 0)) room rs k st fun j hj => by
      unfold skp
      rw [if_neg (by omega)]]
  | [], a + 1, k, st, h, _ => by cases h
  | r :: rs, a + 1, k, st, h, hs => by
    have e : skp sm (k + (a + 1)) k = sm k := by
      unfold skp
      rw [if_pos (by omega)]
    show (if room < lft (sm k) r.2 st + r.1 then 0 else psd sm room (put1 rs a (0, lag)) (k + 1) (lft (sm k) r.2 st + r.1) + 1) = _
    have u : psd (skp sm (k + (a + 1))) room (r :: rs) k st = if room < lft (sm k) r.2 st + r.1 then 0 else psd (skp sm (k + (a + 1))) room rs (k + 1) (lft (sm k) r.2 st + r.1) + 1 := by
      show (if room < lft (skp sm (k + (a + 1)) k) r.2 st + r.1 then 0 else psd (skp sm (k + (a + 1))) room rs (k + 1) (lft (skp sm (k + (a + 1)) k) r.2 st + r.1) + 1) = _
      rw [e]
    rw [u]
    by_cases c : room < lft (sm k) r.2 st + r.1
    · rw [if_pos c, if_pos c, if_neg (by omega)]
    · rw [if_neg c, if_neg c]
      have ih := psd_idle hl sm rs a (k + 1) (lft (sm k) r.2 st + r.1) (Nat.le_of_succ_le_succ h) (by omega)
      rw [show k + 1 + a = k + (a + 1) by omega] at ih
      rw [ih]
      split <;> split <;> omega
def idl (a p : Nat) : Nat := if a ≤ p then p + 1 else p
theorem Psd_idle {room lag : Int} (h0 : 0 ≤ room) (hl : room ≤ lag) (sm : Nat → Bool) {rs : List (Int × Int)} {a : Nat} (ha : a ≤ rs.length) : Psd sm room (put1 rs a (0, lag)) = idl a (Psd (skp sm a) room rs) := by
  have e := psd_idle hl sm rs a 0 0 ha h0
  rw [Nat.zero_add] at e
  exact e
theorem skp_in (a : Nat) (t : List Int) : skp (inn (t.map fun y => if y < (a : Int) then y else y + 1)) a = inn t := by
  funext j
  have key : ∀ i : Int, (i ∈ t.map fun y => if y < (a : Int) then y else y + 1) ↔ ∃ y ∈ t, (if y < (a : Int) then y else y + 1) = i := fun i => by simp [List.mem_map]
  unfold skp inn
  by_cases c : j < a
  · rw [if_pos c]
    refine decide_eq_decide.mpr ?_
    rw [key]
    constructor
    · rintro ⟨y, hy, e⟩
      split at e
      · exact e ▸ hy
      · omega
    · intro h
      exact ⟨_, h, by rw [if_pos (by omega)]⟩
  · rw [if_neg c]
    refine decide_eq_decide.mpr ?_
    rw [key]
    constructor
    · rintro ⟨y, hy, e⟩
      split at e
      · omega
      · have : y = (j : Int) := by omega
        exact this ▸ hy
    · intro h
      exact ⟨_, h, by rw [if_neg (by omega)]; omega⟩
theorem skp_out (a : Nat) (t : List Int) : ∃ t2 : List Int, t2.length ≤ t.length ∧ skp (inn t) a = inn t2 := by
  refine ⟨(t.filter fun y => decide (y ≠ (a : Int))).map fun y => if y < (a : Int) then y else y - 1, ?_, ?_⟩
  · rw [List.length_map]
    exact List.length_filter_le _ _
  · funext j
    have key : ∀ i : Int, (i ∈ (t.filter fun y => decide (y ≠ (a : Int))).map fun y => if y < (a : Int) then y else y - 1) ↔ ∃ y, (y ∈ t ∧ y ≠ (a : Int)) ∧ (if y < (a : Int) then y else y - 1) = i := fun i => by simp [List.mem_map, List.mem_filter]
    unfold skp inn
    by_cases c : j < a
    · rw [if_pos c]
      refine decide_eq_decide.mpr ?_
      rw [key]
      constructor
      · intro h
        exact ⟨_, ⟨h, by omega⟩, by rw [if_pos (by omega)]⟩
      · rintro ⟨y, ⟨hy, ne⟩, e⟩
        split at e
        · exact e ▸ hy
        · omega
    · rw [if_neg c]
      refine decide_eq_decide.mpr ?_
      rw [key]
      constructor
      · intro h
        exact ⟨_, ⟨h, by omega⟩, by rw [if_neg (by omega)]; omega⟩
      · rintro ⟨y, ⟨hy, ne⟩, e⟩
        split at e
        · omega
        · have : y = ((j + 1 : Nat) : Int) := by omega
          exact this ▸ hy
theorem put1_pos {rs : List (Int × Int)} {a : Nat} {lag : Int} (h0 : ∀ r ∈ rs, 0 ≤ r.1) : ∀ r ∈ put1 rs a (0, lag), 0 ≤ r.1 := fun r hr => by
  rcases List.mem_append.mp hr with h | h
  · exact h0 r (List.mem_of_mem_take h)
  · rcases List.mem_cons.mp h with e | e
    · rw [e]
      exact Int.le_refl _
    · exact h0 r (List.mem_of_mem_drop e)
theorem put1_len {rs : List (Int × Int)} {a : Nat} {i : Int × Int} (h : a ≤ rs.length) : (put1 rs a i).length = rs.length + 1 := by
  unfold put1
  rw [List.length_append, List.length_cons, List.length_take, List.length_drop]
  omega
theorem idle_is {room lag : Int} {rs : List (Int × Int)} {a : Nat} {ms fs ms' fs' : List Nat} {m m' : Nat} (hr : 0 ≤ room) (hl : room ≤ lag) (ha : a ≤ rs.length) (h0 : ∀ r ∈ rs, 0 ≤ r.1) (s : Stg room rs ms fs) (la : Last room rs ms) (hm : ms[ms.length - 1]? = some m) (s' : Stg room (put1 rs a (0, lag)) ms' fs') (la' : Last room (put1 rs a (0, lag)) ms') (hm' : ms'[ms'.length - 1]? = some m') : m' = idl a m ∧ fs'.length = fs.length := by
  have h0' := put1_pos (a := a) (lag := lag) h0
  have lf := s.len
  have lf' := s'.len
  obtain ⟨t, ht, gt⟩ := s.some_j h0 hm
  obtain ⟨t', ht', gt'⟩ := s'.some_j h0' hm'
  obtain ⟨u, hu, eu⟩ := skp_out a t'
  have i1 := Psd_idle hr hl (inn (t.map fun y => if y < (a : Int) then y else y + 1)) ha
  rw [skp_in] at i1
  have i2 := Psd_idle hr hl (inn t') ha
  rw [eu] at i2
  have f1 := s.far la h0 (inn t) m hm
  have f2 := s.far la h0 (inn u) m hm
  have f1' := s'.far la' h0' (inn (t.map fun y => if y < (a : Int) then y else y + 1)) m' hm'
  have f2' := s'.far la' h0' (inn t') m' hm'
  have em : m' = idl a m := by
    unfold idl at i1 i2 ⊢
    split at i1 <;> split at i2 <;> split <;> omega
  refine ⟨em, ?_⟩
  have e1 := s'.least h0' hm' (t := t.map fun y => if y < (a : Int) then y else y + 1) (by
    rw [em, i1]
    unfold idl
    split <;> split <;> omega)
  have e2 := s.least h0 hm (t := u) (by
    unfold idl at i2 em
    split at i2 <;> split at em <;> omega)
  rw [List.length_map] at e1
  omega
/-- harder rounds -/
def Hard (rs rs' : List (Int × Int)) : Prop := rs'.length = rs.length ∧ ∀ (i : Nat) (r r' : Int × Int), rs[i]? = some r → rs'[i]? = some r' → r.1 ≤ r'.1 ∧ r.2 ≤ r'.2
theorem psd_hard {sm : Nat → Bool} {room : Int} : ∀ (rs rs' : List (Int × Int)) (k : Nat) (st st' : Int), Hard rs rs' → st ≤ st' → psd sm room rs' k st' ≤ psd sm room rs k st
  | rs, [], _, _, _, _, _ => Nat.zero_le _
  | [], _ :: _, _, _, _, h, _ => by cases h.1
  | r :: rs, r' :: rs', k, st, st', h, hs => by
    obtain ⟨h1, h2⟩ := h.2 0 r r' rfl rfl
    have t : Hard rs rs' := ⟨Nat.succ.inj h.1, fun i x y hx hy => h.2 (i + 1) x y hx hy⟩
    have e : lft (sm k) r.2 st ≤ lft (sm k) r'.2 st' := by
      unfold lft
      cases sm k with
      | false =>
        rw [if_neg fun z => (by cases z.1), if_neg fun z => (by cases z.1)]
        exact hs
      | true =>
        simp only [eq_self_iff_true, true_and]
        split <;> split <;> omega
    have ih := psd_hard (sm := sm) (room := room) rs rs' (k + 1) (lft (sm k) r.2 st + r.1) (lft (sm k) r'.2 st' + r'.1) t (by omega)
    unfold psd
    split
    · exact Nat.zero_le _
    · rw [if_neg (by omega)]
      omega
theorem harder_at {room : Int} {rs rs' : List (Int × Int)} {ms fs ms' fs' : List Nat} (h0 : ∀ r ∈ rs, 0 ≤ r.1) (h0' : ∀ r ∈ rs', 0 ≤ r.1) (hh : Hard rs rs') (s : Stg room rs ms fs) (s' : Stg room rs' ms' fs') {j m m' : Nat} (h : ms[j]? = some m) (h' : ms'[j]? = some m') : m' ≤ m := by
  obtain ⟨t, ht, gt⟩ := s'.some_j h0' h'
  have b := s.bound h0 t j m h (by omega)
  have e := psd_hard (sm := inn t) (room := room) rs rs' 0 0 0 hh (Int.le_refl _)
  unfold Psd at gt b
  omega
theorem harder_is {room : Int} {rs rs' : List (Int × Int)} {ms fs ms' fs' : List Nat} {m m' : Nat} (h0 : ∀ r ∈ rs, 0 ≤ r.1) (h0' : ∀ r ∈ rs', 0 ≤ r.1) (hh : Hard rs rs') (s : Stg room rs ms fs) (la : Last room rs ms) (hm : ms[ms.length - 1]? = some m) (s' : Stg room rs' ms' fs') (hm' : ms'[ms'.length - 1]? = some m') : m' ≤ m ∧ (m' = rs.length → fs.length ≤ fs'.length) := by
  have lf' := s'.len
  obtain ⟨t, ht, gt⟩ := s'.some_j h0' hm'
  have e := psd_hard (sm := inn t) (room := room) rs rs' 0 0 0 hh (Int.le_refl _)
  have f := s.far la h0 (inn t) m hm
  refine ⟨by unfold Psd at gt f; omega, fun z => ?_⟩
  have mle := s.le m (List.mem_of_getElem? hm)
  have l := s.least h0 hm (t := t) (by unfold Psd at gt ⊢; omega)
  omega
section
variable {P : Program} {w : World} {K : PySem.W.Frag} {mg : Str → Option Value} {base : Heap}
/-- rounds(hand, many, limit) -/
def spRounds (K : PySem.W.Frag) : Sp := fun vs H Q _ => ∃ (h : Addr) (m : Nat) (lm : Int) (n : Nat), vs = [.ref h, .int m, .int lm] ∧ HS h n H ∧ n + 7 * m < lim ∧ m ≤ 100 ∧ 0 ≤ lm ∧ lm ≤ 1000 ∧
  ∀ p rs H', Rs K H' p rs → rs.length = m → (∀ r ∈ rs, 0 ≤ r.1 ∧ r.1 ≤ lm + 2 ∧ 0 ≤ r.2 ∧ r.2 ≤ lm + 5) → HS h (n + 7 * m) H' → Fr h H H' → Q (.ref p) H'
theorem ok_rounds (T : Tx K mg) (c_l_take : C8.Cal P w K mg base 1 "_law_take" spTake []) (c_l_of : C8.Cal P w K mg base 2 "_law_of" (spOf K) []) : BodyOk P w K mg base "_law_rounds" s_l_rounds N_l_rounds 2 (spRounds K) := by
  intro f cdv A outer s H vs Q E hr h
  obtain ⟨h, m, lm, n, rfl, hs, hn, hm, lm0, lm1, q⟩ := h
  have hn2 : n + 7 * m < 100000 := hn
  have z18 : (10 : Int) ^ 18 = 1000000000000000000 := by decide
  refine ⟨_, (pss_cons (ps_set (i := 3) sc_l_rounds.nd rfl (Or.inl rfl) (pe_lst pa_nil))
      (pss_cons (ps_for PassesOwn.never rfl (pi_range1 (by rfl) T.range (pa_cons (pv 1) pa_nil)) (pg_name (i := 4) sc_l_rounds.nd rfl (Or.inl rfl)) (pss_cons (ps_set (i := 5) sc_l_rounds.nd rfl (Or.inl rfl) (C8.pe_c c_l_of hr (by decide) (gl_of gl_l_rounds_l_of) (pa_cons (pv 0) (pa_cons (pe_lst (pa_cons pe_int (pa_cons pe_int (pa_cons pe_int (pa_cons (C8.pe_c c_l_take hr (by decide) (gl_of gl_l_rounds_l_take) (pa_cons (pv 0) (pa_cons (pe_op op_add (pv 2) pe_int) pa_nil))) (pa_cons (C8.pe_c c_l_take hr (by decide) (gl_of gl_l_rounds_l_take) (pa_cons (pv 0) (pa_cons (pe_op op_add (pv 2) pe_int) pa_nil))) (pa_cons (pv 2) pa_nil))))))) pa_nil))))
      (pss_cons (ps_set (i := 6) sc_l_rounds.nd rfl (Or.inl rfl) (C8.pe_c c_l_of hr (by decide) (gl_of gl_l_rounds_l_of) (pa_cons (pv 0) (pa_cons (pe_lst (pa_cons pe_int (pa_cons pe_int (pa_cons pe_int (pa_cons (C8.pe_c c_l_take hr (by decide) (gl_of gl_l_rounds_l_take) (pa_cons (pv 0) (pa_cons (pe_op op_add (pv 2) pe_int) pa_nil))) (pa_cons (C8.pe_c c_l_take hr (by decide) (gl_of gl_l_rounds_l_take) (pa_cons (pv 0) (pa_cons (pe_op op_add (pv 2) pe_int) pa_nil))) (pa_cons (pe_op op_add (pv 2) pe_int) pa_nil))))))) pa_nil))))
      (pss_cons (ps_set (i := 5) sc_l_rounds.nd rfl (Or.inl rfl) (C8.pe_c c_l_of hr (by decide) (gl_of gl_l_rounds_l_of) (pa_cons (pv 0) (pa_cons (pe_lst (pa_cons (pv 5) (pa_cons (pv 5) (pa_cons (pv 5) (pa_cons (pv 5) (pa_cons (pv 5) (pa_cons (pv 5) (pa_cons (pv 5) (pa_cons (pe_op op_add (pv 2) pe_int) pa_nil))))))))) pa_nil))))
      (pss_one (ps_expr (pe_bm PySem.F.plainAttrs_list PySem.F.slot_list_append PySem.F.type_list_append mt_append (pv 3) (pa_cons (pe_tup (pa_cons (pv 5) (pa_cons (pv 6) pa_nil))) pa_nil))))))))
      (pss_one (ps_ret (pe_callTy call_tuple_of (gl_of gl_l_rounds_tuple) T.tuple bt_tuple (pa_cons (pv 3) pa_nil)))))), ?_⟩
  refine st_seq ⟨(show 0 ≤ sizeLine by decide), fun L nL => ?_⟩
  have nLh : L ≠ h := hs.ne nL
  refine st_seq ?_
  refine ⟨_, rfl, _, rfl, by omega, by omega, ?_⟩
  refine for_range (lo := 0) (fun i σ H' => ∃ (y4 y5 y6 : Option V) (us : List V) (rs : List (Int × Int)), σ = [some (.ref h), some (.int m), some (.int lm), some (.ref L), y4, y5, y6] ∧ HS h (n + 7 * i) H' ∧ Fr h H H' ∧ H' L = some (.lst us) ∧ us.length = i ∧ rs.length = i ∧ (∀ r ∈ rs, 0 ≤ r.1 ∧ r.1 ≤ lm + 2 ∧ 0 ≤ r.2 ∧ r.2 ≤ lm + 5) ∧ ∀ (j : Nat) (r : Int × Int), rs[j]? = some r → ∃ b : Addr, us[j]? = some (V.ref b) ∧ b ≠ L ∧ H' b = some (.tup [.int r.1, .int r.2])) ?_ (fun i σ H1 hi hP => ?_) (fun σ H1 hP => ?_)
  · exact ⟨none, none, none, [], [], rfl, hs.new nL, Fr.new nL, upd_same, rfl, rfl, (fun r hr => by cases hr), fun j r hr => by cases hr⟩
  · obtain ⟨y4, y5, y6, us, rs, rfl, hs1, f1, eL, lu, lr, br, hr1⟩ := hP
    have hi2 : i < m := by
      have z : i < ((m : Int)).toNat := hi
      omega
    -- takes
    refine st_seq ?_
    refine ⟨_, rfl, _, rfl, _, rfl, _, _, rfl, rfl, h, lm + 1, n + 7 * i, rfl, hs1, (show n + 7 * i < 100000 by omega), by omega, by omega, fun d1 H2 d10 d11 hs2 f2 => ?_⟩
    refine ⟨_, rfl, _, rfl, _, _, rfl, rfl, h, lm + 1, n + 7 * i + 1, rfl, hs2, (show n + 7 * i + 1 < 100000 by omega), by omega, by omega, fun d2 H3 d20 d21 hs3 f3 => ?_⟩
    refine ⟨_, rfl, (show 6 ≤ sizeLine by decide), fun p1 np1 => ?_⟩
    refine ⟨h, p1, _, n + 7 * i + 1 + 1, rfl, hs3.new np1, (show n + 7 * i + 1 + 1 < 100000 by omega), hs3.ne np1, SqL.of upd_same, (show 0 < 6 by decide), (show 6 ≤ 1000 by decide), fun v1 H4 hv1 hs4 f4 => ?_⟩
    have hx : ∃ z : Int, v1 = .int z ∧ 0 ≤ z ∧ z ≤ lm + 2 := by
      simp only [List.mem_cons, List.not_mem_nil, or_false] at hv1
      rcases hv1 with rfl | rfl | rfl | rfl | rfl | rfl <;> exact ⟨_, rfl, by omega, by omega⟩
    obtain ⟨t1, rfl, t10, t11⟩ := hx
    have g4 : Fr h H1 H4 := f2.trans (f3.trans ((Fr.new np1).trans f4))
    -- lag
    refine st_seq ?_
    refine ⟨_, rfl, _, rfl, _, rfl, _, _, rfl, rfl, h, lm + 2, n + 7 * i + 3, rfl, hs4, (show n + 7 * i + 3 < 100000 by omega), by omega, by omega, fun d3 H5 d30 d31 hs5 f5 => ?_⟩
    refine ⟨_, rfl, _, rfl, _, _, rfl, rfl, h, lm + 2, n + 7 * i + 4, rfl, hs5, (show n + 7 * i + 4 < 100000 by omega), by omega, by omega, fun d4 H6 d40 d41 hs6 f6 => ?_⟩
    refine ⟨_, rfl, _, _, rfl, rfl, (show 6 ≤ sizeLine by decide), fun p2 np2 => ?_⟩
    refine ⟨h, p2, _, n + 7 * i + 5, rfl, hs6.new np2, (show n + 7 * i + 5 < 100000 by omega), hs6.ne np2, SqL.of upd_same, (show 0 < 6 by decide), (show 6 ≤ 1000 by decide), fun v2 H7 hv2 hs7 f7 => ?_⟩
    have hx : ∃ z : Int, v2 = .int z ∧ 0 ≤ z ∧ z ≤ lm + 5 := by
      simp only [List.mem_cons, List.not_mem_nil, or_false] at hv2
      rcases hv2 with rfl | rfl | rfl | rfl | rfl | rfl <;> exact ⟨_, rfl, by omega, by omega⟩
    obtain ⟨g, rfl, g0, g1⟩ := hx
    have g7 : Fr h H1 H7 := g4.trans (f5.trans (f6.trans ((Fr.new np2).trans f7)))
    -- takes again
    refine st_seq ?_
    refine ⟨_, rfl, _, rfl, _, rfl, _, rfl, _, rfl, _, rfl, _, rfl, _, rfl, _, rfl, _, _, rfl, rfl, (show 8 ≤ sizeLine by decide), fun p3 np3 => ?_⟩
    refine ⟨h, p3, _, n + 7 * i + 6, rfl, hs7.new np3, (show n + 7 * i + 6 < 100000 by omega), hs7.ne np3, SqL.of upd_same, (show 0 < 8 by decide), (show 8 ≤ 1000 by decide), fun v3 H8 hv3 hs8 f8 => ?_⟩
    have hx : ∃ z : Int, v3 = .int z ∧ 0 ≤ z ∧ z ≤ lm + 2 := by
      simp only [List.mem_cons, List.not_mem_nil, or_false] at hv3
      rcases hv3 with rfl | rfl | rfl | rfl | rfl | rfl | rfl | rfl <;> exact ⟨_, rfl, by omega, by omega⟩
    obtain ⟨t, rfl, t0, t1'⟩ := hx
    have g8 : Fr h H1 H8 := g7.trans ((Fr.new np3).trans f8)
    have eL8 := g8 _ _ nLh eL
    -- append
    refine ⟨_, rfl, .inl ⟨rfl, _, SqL.of eL8⟩, _, rfl, _, rfl, (show 2 ≤ sizeLine by decide), fun u nu => ?_⟩
    have nuL : u ≠ L := (ne_of_none eL8 nu).symm
    have eL9 : (upd H8 u (.tup [.int t, .int g])) L = some (.lst us) := same_new nu _ _ eL8
    refine ⟨L, _, _, rfl, rfl, eL9, small1000 (by omega), ?_⟩
    have hs9 : HS h (n + 7 * (i + 1)) (upd (upd H8 u (.tup [.int t, .int g])) L (.lst (us ++ [.ref u]))) := ((hs8.new nu).upd nLh).mono (by omega)
    refine ⟨_, _, _, us ++ [.ref u], rs ++ [(t, g)], rfl, hs9, Fr.mut (f1.trans (g8.trans (Fr.new nu))) nL, upd_same, ?_, ?_, ?_, ?_⟩
    · rw [List.length_append, lu]
      rfl
    · rw [List.length_append, lr]
      rfl
    · intro r hr
      rcases List.mem_append.mp hr with e | e
      · exact br r e
      · rw [List.mem_singleton.mp e]
        exact ⟨t0, t1', g0, g1⟩
    · intro j r hj
      by_cases c : j < i
      · rw [List.getElem?_append_left (by omega)] at hj
        obtain ⟨b, eb, nb, hb⟩ := hr1 j r hj
        refine ⟨b, ?_, nb, ?_⟩
        · rw [List.getElem?_append_left (by omega)]
          exact eb
        · rw [upd_ne nb]
          exact same_new nu _ _ (g8 _ _ (hs1.neT hb) hb)
      · have ej : j = i := by
          have z := (List.getElem?_eq_some_iff.mp hj).1
          rw [List.length_append, lr] at z
          have z2 : j < i + 1 := z
          omega
        subst ej
        rw [List.getElem?_append_right (by omega), lr, Nat.sub_self] at hj
        cases hj
        refine ⟨u, ?_, nuL, ?_⟩
        · rw [List.getElem?_append_right (by omega), lu, Nat.sub_self]
          rfl
        · rw [upd_ne nuL]
          exact upd_same
  · obtain ⟨y4, y5, y6, us, rs, rfl, hs1, f1, eL, lu, lr, br, hr1⟩ := hP
    refine ⟨_, rfl, L, _, rfl, .inl ⟨SqL.of eL, fun p np => ?_⟩⟩
    have em : ((m : Int) - 0).toNat = m := by omega
    refine q p rs _ ⟨us, SqT.of upd_same, by rw [lu, lr], fun j r hj => ?_⟩ (by rw [lr]; omega) br ?_ (f1.trans (Fr.new np))
    · obtain ⟨b, eb, _, hb⟩ := hr1 j r hj
      exact ⟨b, eb, SqT.of (same_new np _ _ hb)⟩
    · refine (hs1.new np).mono ?_
      omega
theorem ok_steps5 (T : Tx K mg) : BodyOk P w K mg base "_law_steps" s_l_steps N_l_steps 0 (spStepsL K) := by
  intro f cdv A outer s H vs Q E hr h
  obtain ⟨a, b, room, rs, ys, rfl, hR, hl, hb, q⟩ := h
  obtain ⟨us, ha, lu, hu⟩ := hR
  refine ⟨_, (pss_cons (ps_par (i := 3) (j := 4) (by rfl) sc_l_steps.nd rfl rfl (by decide) rfl rfl (pa_cons (pe_lst pa_nil) (pa_cons pe_int pa_nil)) (by rfl))
      (pss_cons (ps_for PassesOwn.never rfl (pi_range1 (by rfl) T.range (pa_cons (pe_callB call_len_seq (gl_of gl_l_steps_len) T.len bb_len (pa_cons (pv 0) pa_nil)) pa_nil)) (pg_name (i := 5) sc_l_steps.nd rfl (Or.inl rfl)) (pss_cons (ps_if (PW.pt (pw_and (pt_cmpR op_in_seq (pv 5) (pv 1) (by rfl)) (pw_and1 (pt_cmpR op_lt (pe_ix ix_tup (pe_ix ix_tup (pv 0) (pv 5) (fun _ _ => rfl)) pe_int (fun _ _ => rfl)) (pv 4) (nomark _))))) (pss_one (ps_set (i := 4) sc_l_steps.nd rfl (Or.inl rfl) (pe_ix ix_tup (pe_ix ix_tup (pv 0) (pv 5) (fun _ _ => rfl)) pe_int (fun _ _ => rfl)))) pss_nil)
      (pss_cons (ps_set (i := 4) sc_l_steps.nd rfl (Or.inl rfl) (pe_op op_add (pv 4) (pe_ix ix_tup (pe_ix ix_tup (pv 0) (pv 5) (fun _ _ => rfl)) pe_int (fun _ _ => rfl))))
      (pss_cons (ps_expr (pe_bm PySem.F.plainAttrs_list PySem.F.slot_list_append PySem.F.type_list_append mt_append (pv 3) (pa_cons (pv 4) pa_nil)))
      (pss_one (ps_if (pt_cmpR op_gt (pv 4) (pv 2) (nomark _)) (pss_one (ps_ret (pv 3))) pss_nil))))))
      (pss_one (ps_ret (pv 3))))), ?_⟩
  refine st_seq ?_
  refine ⟨(show 0 ≤ sizeLine by decide), fun L nL => ?_⟩
  refine ⟨_, _, rfl, ?_⟩
  generalize htot : pas (fun k => inV (.int (k : Nat)) (ys.map V.int)) room rs 0 0 = tot at q
  refine st_seq ?_
  refine ⟨_, rfl, a, us, rfl, .inr (sqT_same (same_new nL) ha), _, rfl, by omega, by omega, ?_⟩
  refine for_range (lo := 0) (fun i σ H' => ∃ (st : Int) (acc : List Int) (y5 : Option V), σ = [some (.ref a), some (.ref b), some (.int room), some (.ref L), some (.int st), y5] ∧ Same H H' ∧ H' L = some (.lst (acc.map V.int)) ∧ acc.length = i ∧ tot = acc ++ pas (fun k => inV (.int (k : Nat)) (ys.map V.int)) room (rs.drop i) i st) ?_ (fun i σ H1 hi hP => ?_) (fun σ H1 hP => ?_)
  · exact ⟨0, [], none, rfl, same_new nL, upd_same, rfl, by rw [← htot]; rfl⟩
  · obtain ⟨st, acc, y5, rfl, sm, eL, la, et⟩ := hP
    have hi2 : i < rs.length := by
      have z : i < ((us.length : Int) - 0).toNat := hi
      omega
    have hi3 : i < us.length := by omega
    obtain ⟨c, ec, hc⟩ := hu i rs[i] (List.getElem?_eq_getElem hi2)
    obtain ⟨tt1, tt2⟩ := pas_turn (List.getElem?_eq_getElem hi2) et
    generalize hst : lft (inV (.int (i : Nat)) (ys.map V.int)) rs[i].2 st = st2 at tt1 tt2
    unfold lft at hst
    have ha1 := sqT_same sm ha
    have hc1 := sqT_same sm hc
    have ei : V.int (0 + (i : Int)) = V.int (i : Nat) := by rw [Int.zero_add]
    rw [ei]
    have ai : atI us (i : Nat) = some (.ref c) := atI_nat ec
    refine st_seq ?_
    refine if_join (fun σ' H' => σ' = [some (.ref a), some (.ref b), some (.int room), some (.ref L), some (.int st2), some (.int (i : Nat))] ∧ H' = H1) (fun N hN => ?_) (fun σ' H' hJ => ?_)
    · refine ⟨_, rfl, _, rfl, b, _, rfl, .inr (sqT_same sm hb), rfl, flat_ints ys, _, rfl, ite2 (fun e => ?_) (fun e => ?_)⟩
      · have e1 : inV (.int (i : Nat)) (ys.map V.int) = true := e
        rw [e1] at hst
        refine ⟨_, rfl, _, rfl, a, _, _, _, rfl, rfl, ha1, ai, c, _, _, _, rfl, rfl, hc1, rfl, _, rfl, _, _, rfl, rfl, _, rfl, ite2 (fun e => ?_) (fun e => ?_)⟩
        · have e2 : rs[i].2 < st := of_decide_eq_true e
          refine ⟨_, rfl, _, rfl, a, _, _, _, rfl, rfl, ha1, ai, c, _, _, _, rfl, rfl, hc1, rfl, hN _ _ ⟨?_, rfl⟩⟩
          rw [if_pos ⟨rfl, e2⟩] at hst
          rw [← hst]
          rfl
        · have e2 : ¬ rs[i].2 < st := fun z => e (decide_eq_true z)
          refine hN _ _ ⟨?_, rfl⟩
          rw [if_neg (fun z => e2 z.2)] at hst
          rw [← hst]
          rfl
      · have e1 : inV (.int (i : Nat)) (ys.map V.int) = false := Bool.eq_false_iff.mpr e
        refine hN _ _ ⟨?_, rfl⟩
        rw [e1, if_neg (fun z => Bool.false_ne_true z.1)] at hst
        rw [← hst]
        rfl
    · obtain ⟨rfl, rfl⟩ := hJ
      refine st_seq ?_
      refine ⟨_, rfl, _, rfl, _, rfl, a, _, _, _, rfl, rfl, ha1, ai, c, _, _, _, rfl, rfl, hc1, rfl, _, _, rfl, rfl, ?_⟩
      refine st_seq ?_
      refine ⟨_, rfl, .inl ⟨rfl, _, SqL.of eL⟩, _, rfl, L, _, _, rfl, rfl, eL, ?_, ?_⟩
      · rw [List.length_map]
        exact small1000 (by omega)
      have eL3 : (upd H' L (.lst (acc.map V.int ++ [.int (st2 + rs[i].1)]))) L = some (.lst ((acc ++ [st2 + rs[i].1]).map V.int)) := by
        rw [upd_same, List.map_append]
        rfl
      have s3 : Same H (upd H' L (.lst (acc.map V.int ++ [.int (st2 + rs[i].1)]))) := same_mut sm nL
      generalize upd H' L (.lst (acc.map V.int ++ [.int (st2 + rs[i].1)])) = H3 at eL3 s3
      refine ⟨_, rfl, _, rfl, _, _, rfl, rfl, _, rfl, ite2 (fun e => ?_) (fun e => ?_)⟩
      · have e1 : room < st2 + rs[i].1 := of_decide_eq_true e
        rw [← tt1 e1] at eL3
        exact ⟨_, rfl, q L H3 nL s3 eL3⟩
      · have e1 : ¬ room < st2 + rs[i].1 := fun z => e (decide_eq_true z)
        refine ⟨_, _, _, rfl, s3, eL3, ?_, tt2 e1⟩
        rw [List.length_append, la]
        rfl
  · obtain ⟨st, acc, y5, rfl, sm, eL, la, et⟩ := hP
    have z : ((us.length : Int)).toNat = rs.length := by omega
    rw [z, List.drop_length] at et
    have et2 : tot = acc := by
      rw [et]
      exact List.append_nil _
    rw [← et2] at eL
    exact ⟨_, rfl, q L H1 nL sm eL⟩
def mw (n m : Nat) : Str := if m < n then "never" else "plan"
def mn (n m k : Nat) : Int := if m < n then (m : Int) else (k : Int)
def spMany (K : PySem.W.Frag) : Sp := fun vs H Q _ => ∃ (r : Addr) (room : Int) (rs : List (Int × Int)), vs = [.ref r, .int room] ∧ Rs K H r rs ∧ rs.length ≤ 400 ∧ (∀ r ∈ rs, 0 ≤ r.1) ∧ ∀ p ms fs m H', Stg room rs ms fs → Last room rs ms → ms[ms.length - 1]? = some m → Same H H' → SqT K H' p [.str (mw rs.length m), .int (mn rs.length m fs.length)] → Q (.ref p) H'
theorem ok_many (T : Tx K mg) (c_l_passed : C8.Cal P w K mg base 2 "_law_passed" (spPassed K) []) (k_fewest : CalK P w K mg base 3 "fewest" 1 ["room"] (spFewest K)) : BodyOk P w K mg base "_law_many" s_l_many N_l_many 3 (spMany K) := by
  intro f cdv A outer s H vs Q E hr h
  obtain ⟨r, room, rs, rfl, hR, hl, pos, q⟩ := h
  refine ⟨_, (pss_cons (ps_asg (pe_ck k_fewest hr (by decide) (gl_of gl_l_many_fewest) (pa_cons (pv 0) pa_nil) (pk_cons (pv 1) pk_nil)) (pg_tup rfl (pgs_cons (pg_name (i := 2) sc_l_many.nd rfl (Or.inl rfl)) (pgs_cons (pg_name (i := 3) sc_l_many.nd rfl (Or.inl rfl)) pgs_nil))))
      (pss_cons (ps_if (pt_cmpR op_eq (pv 2) pe_str (nomark _)) (pss_one (ps_ret (pe_tup (pa_cons (pv 2) (pa_cons (pv 3) pa_nil))))) pss_nil)
      (pss_cons (ps_if (pt_cmpR op_ne (C8.pe_c c_l_passed hr (by decide) (gl_of gl_l_many_l_passed) (pa_cons (pv 0) (pa_cons (pv 3) (pa_cons (pv 1) pa_nil)))) (pe_callB call_len_seq (gl_of gl_l_many_len) T.len bb_len (pa_cons (pv 0) pa_nil)) (nomark _)) (pss_one (ps_ret (pe_tup (pa_cons pe_str (pa_cons (pv 3) pa_nil))))) pss_nil)
      (pss_one (ps_ret (pe_tup (pa_cons (pv 2) (pa_cons (pe_callB call_len_seq (gl_of gl_l_many_len) T.len bb_len (pa_cons (pv 3) pa_nil)) pa_nil)))))))), ?_⟩
  refine st_seq ?_
  refine ⟨_, rfl, _, rfl, rfl, rfl, r, room, rs, rfl, hR, by omega, fun p2 ms fs m H1 hst hla hm s1 hfw => ?_⟩
  have mle := hst.le m (List.mem_of_getElem? hm)
  by_cases hlt : m < rs.length
  · have hp := hfw.1 hlt
    refine ⟨p2, _, rfl, hp, rfl, _, _, rfl, _, _, rfl, rfl, ?_⟩
    dsimp only [gName]
    refine st_seq ?_
    refine ⟨_, rfl, rfl, _, rfl, ?_⟩
    rw [dec_refl]
    refine iteT ?_
    refine ⟨_, rfl, _, rfl, (show 2 ≤ sizeLine by decide), fun t nt => ?_⟩
    refine q t ms fs m _ hst hla hm (s1.trans (same_new nt)) ?_
    unfold mw mn
    rw [if_pos hlt, if_pos hlt]
    exact SqT.of upd_same
  · obtain ⟨t, hp, ht⟩ := hfw.2 (by omega)
    refine ⟨p2, _, rfl, hp, rfl, _, _, rfl, _, _, rfl, rfl, ?_⟩
    dsimp only [gName]
    refine st_seq ?_
    refine ⟨_, rfl, rfl, _, rfl, ite2 (fun e => ?_) (fun _ => ?_)⟩
    · exact absurd (V.str.inj (of_decide_eq_true e)) (by decide)
    dsimp only [gName, tNext]
    refine st_seq ?_
    have hR1 := hR.same s1
    obtain ⟨us, hrT, lu, hu⟩ := id hR1
    have full := hst.full pos hm
    have le5 := Psd_le (inn (fs.map fun f => ((f : Nat) : Int))) room rs
    refine ⟨_, rfl, _, rfl, _, rfl, r, t, room, rs, _, rfl, hR1, by omega, ht, fun H2 s2 => ?_⟩
    refine ⟨_, rfl, r, us, rfl, .inr (sqT_same s2 hrT), rfl, _, rfl, ite2 (fun e => ?_) (fun _ => ?_)⟩
    · refine absurd e ?_
      rw [show Psd (inn (fs.map fun f => ((f : Nat) : Int))) room rs = us.length by omega, dec_refl]
      exact Bool.false_ne_true
    dsimp only [gName, tNext]
    refine ⟨_, rfl, _, rfl, t, _, rfl, .inr (sqT_same s2 ht), (show 2 ≤ sizeLine by decide), fun t nt => ?_⟩
    refine q t ms fs m _ hst hla hm (s1.trans (s2.trans (same_new nt))) ?_
    unfold mw mn
    rw [if_neg hlt, if_neg hlt]
    refine SqT.of ?_
    rw [upd_same, List.length_map, List.length_map]
theorem many_data {K : PySem.W.Frag} {H : Hp} {p : Addr} {n m k : Nat} (h : SqT K H p [.str (mw n m), .int (mn n m k)]) (hk : k ≤ 1000) (hm : m ≤ 1000) : Dp K H (.ref p) (.tuple [.str (mw n m), .int (mn n m k)]) ∧ Small 200 (.tuple [.str (mw n m), .int (mn n m k)]) := by
  have l1 : Lf (.str (mw n m)) (.str (mw n m)) := by
    unfold mw
    split
    · exact lf_str (by decide) (by decide)
    · exact lf_str (by decide) (by decide)
  have hx : (mn n m k).natAbs < 2 ^ 62 := by
    unfold mn
    split
    · exact b62 (by omega) (by omega)
    · exact b62 (by omega) (by omega)
  have l2 := lf_int hx
  have z : SmallA 200 2 [.str (mw n m), .int (mn n m k)] := (SmallA.cons l1.small (by rw [l1.dp]; decide) (SmallA.cons l2.small (by rw [l2.dp]; decide) (SmallA.nil (m := 0)))).mono (by decide)
  exact ⟨.tup h (.cons (.str _) (.cons (.int _) .nil)), SmallA.tup z⟩
def spScaled (K : PySem.W.Frag) : Sp := fun vs H Q _ => ∃ (h r : Addr) (lm : Int) (k : Nat) (rs : List (Int × Int)), vs = [.ref h, .ref r, .int lm] ∧ Rs K H r rs ∧ rs.length ≤ 20 ∧ (∀ r ∈ rs, 0 ≤ r.1 ∧ r.1 ≤ 100 ∧ 0 ≤ r.2 ∧ r.2 ≤ 200) ∧ 0 ≤ lm ∧ lm ≤ 100 ∧ HS h k H ∧ k + 30 < lim ∧ ∀ H', HS h (k + 30) H' → Fr h H H' → Q (.bl true) H'
theorem ok_scaled (T : Tx K mg) (c_l_take : C8.Cal P w K mg base 1 "_law_take" spTake []) (c_l_of : C8.Cal P w K mg base 2 "_law_of" (spOf K) []) (c_l_many : C8.Cal P w K mg base 4 "_law_many" (spMany K) []) (k_reached : CalK P w K mg base 3 "reached" 1 ["room"] (spReached K)) (k_passes : CalK P w K mg base 1 "passes" 2 ["room"] (spPasses K)) : BodyG P w K mg base "_law_scaled_right" s_l_scaled_right N_l_scaled_right 4 (spScaled K) := by
  intro f cdv A outer s H vs Q E hgd hr h
  obtain ⟨h, r, lm, k, rs, rfl, hR, hl, br, lm0, lm1, hs, hk, q⟩ := h
  have hk2 : k + 30 < 100000 := hk
  have p15 : (10 : Int) ^ 15 = 1000000000000000 := by decide
  have p18' : (10 : Int) ^ 18 = 1000000000000000000 := by decide
  refine ⟨_, (pss_cons (ps_set (i := 3) sc_l_scaled_right.nd rfl (Or.inr rfl) (C8.pe_c c_l_of hr (by decide) (gl_of gl_l_scaled_right_l_of) (pa_cons (pv 0) (pa_cons (pe_lst (pa_cons (pe_op op_pow pe_int pe_int) (pa_cons pe_int (pa_cons (pe_op op_add pe_int (C8.pe_c c_l_take hr (by decide) (gl_of gl_l_scaled_right_l_take) (pa_cons (pv 0) (pa_cons (pe_op op_pow pe_int pe_int) pa_nil)))) pa_nil)))) pa_nil))))
      (pss_cons (ps_set (i := 4) sc_l_scaled_right.nd rfl (Or.inl rfl) (pe_callTy call_tuple_of (gl_of gl_l_scaled_right_tuple) T.tuple bt_tuple (pa_cons (pe_lc (own := [("_law_takes", 7), ("_law_lag", 8)]) (g := gTup K 2 (gCons (gName 7) (gCons (gName 8) gNil))) (tt := tYes) rfl sc_l_scaled_right.nd (pi_tup (pv 1)) (blkOk_by (own := [("_law_takes", 7), ("_law_lag", 8)]) (N := N_l_scaled_right) (sc := defScope s_l_scaled_right) (by decide +kernel)) (fun _ _ _ _ _ => pg_tup rfl (pgs_cons (pg_name (i := 7) sc_l_scaled_right.nd rfl (Or.inl rfl)) (pgs_cons (pg_name (i := 8) sc_l_scaled_right.nd rfl (Or.inl rfl)) pgs_nil))) (fun _ _ _ _ _ => pts_nil) (fun _ _ _ _ _ => (pe_tup (pa_cons (pe_op op_mul (pv 7) (pv 3)) (pa_cons (pe_op op_mul (pv 8) (pv 3)) pa_nil))))) pa_nil)))
      (pss_cons (ps_if (pt_cmpR op_ne (pe_callB (call_reprK (K1 := K) rfl hgd hr.units) (gl_of gl_l_scaled_right_repr) T.repr bb_repr (pa_cons (pe_ck k_reached hr (by decide) (gl_of gl_l_scaled_right_reached) (pa_cons (pv 4) pa_nil) (pk_cons (pe_op op_mul (pv 2) (pv 3)) pk_nil)) pa_nil)) (pe_callB (call_reprK (K1 := K) rfl hgd hr.units) (gl_of gl_l_scaled_right_repr) T.repr bb_repr (pa_cons (pe_ck k_reached hr (by decide) (gl_of gl_l_scaled_right_reached) (pa_cons (pv 1) pa_nil) (pk_cons (pv 2) pk_nil)) pa_nil)) (nomark _)) (pss_one (ps_ret pe_bl)) pss_nil)
      (pss_cons (ps_if (pt_cmpR op_ne (pe_callB (call_reprK (K1 := K) rfl hgd hr.units) (gl_of gl_l_scaled_right_repr) T.repr bb_repr (pa_cons (C8.pe_c c_l_many hr (by decide) (gl_of gl_l_scaled_right_l_many) (pa_cons (pv 4) (pa_cons (pe_op op_mul (pv 2) (pv 3)) pa_nil))) pa_nil)) (pe_callB (call_reprK (K1 := K) rfl hgd hr.units) (gl_of gl_l_scaled_right_repr) T.repr bb_repr (pa_cons (C8.pe_c c_l_many hr (by decide) (gl_of gl_l_scaled_right_l_many) (pa_cons (pv 1) (pa_cons (pv 2) pa_nil))) pa_nil)) (nomark _)) (pss_one (ps_ret pe_bl)) pss_nil)
      (pss_cons (ps_set (i := 5) sc_l_scaled_right.nd rfl (Or.inl rfl) (pe_callTy call_tuple_of (gl_of gl_l_scaled_right_tuple) T.tuple bt_tuple (pa_cons (pe_lc (own := [("_law_one", 9)]) (g := gName 9) rfl sc_l_scaled_right.nd (pi_range1 (by rfl) T.range (pa_cons (pe_callB call_len_seq (gl_of gl_l_scaled_right_len) T.len bb_len (pa_cons (pv 1) pa_nil)) pa_nil)) (blkOk_by (own := [("_law_one", 9)]) (N := N_l_scaled_right) (sc := defScope s_l_scaled_right) (by decide +kernel)) (fun _ _ _ _ _ => pg_name (i := 9) sc_l_scaled_right.nd rfl (Or.inl rfl)) (fun _ _ _ _ _ => (pts_one (pt_cmpR op_eq (C8.pe_c c_l_take hr (by decide) (by rfl) (pa_cons (pv 0) (pa_cons pe_int pa_nil))) pe_int (nomark _)))) (fun _ _ _ _ _ => (pv 9))) pa_nil)))
      (pss_cons (ps_set (i := 6) sc_l_scaled_right.nd rfl (Or.inl rfl) (pe_ck k_passes hr (by decide) (gl_of gl_l_scaled_right_passes) (pa_cons (pv 1) (pa_cons (pv 5) pa_nil)) (pk_cons (pv 2) pk_nil)))
      (pss_one (ps_ret (pe_cmpR op_eq (pe_callB (call_reprK (K1 := K) rfl hgd hr.units) (gl_of gl_l_scaled_right_repr) T.repr bb_repr (pa_cons (pe_ck k_passes hr (by decide) (gl_of gl_l_scaled_right_passes) (pa_cons (pv 4) (pa_cons (pv 5) pa_nil)) (pk_cons (pe_op op_mul (pv 2) (pv 3)) pk_nil)) pa_nil)) (pe_callB (call_reprK (K1 := K) rfl hgd hr.units) (gl_of gl_l_scaled_right_repr) T.repr bb_repr (pa_cons (pe_callTy call_tuple_of (gl_of gl_l_scaled_right_tuple) T.tuple bt_tuple (pa_cons (pe_lc (own := [("_law_one", 9)]) (g := gName 9) (tt := tYes) rfl sc_l_scaled_right.nd (pi_tup (pv 6)) (blkOk_by (own := [("_law_one", 9)]) (N := N_l_scaled_right) (sc := defScope s_l_scaled_right) (by decide +kernel)) (fun _ _ _ _ _ => pg_name (i := 9) sc_l_scaled_right.nd rfl (Or.inl rfl)) (fun _ _ _ _ _ => pts_nil) (fun _ _ _ _ _ => (pe_op op_mul (pv 9) (pv 3)))) pa_nil)) pa_nil)) (nomark _)))))))))), ?_⟩
  refine st_seq ?_
  -- times
  refine ⟨_, rfl, _, _, rfl, rfl, pow_ok (by decide), _, rfl, _, _, rfl, rfl, pow_ok (by decide), h, _, k, rfl, hs, (show k < 100000 by omega), by decide, by decide, fun d H1 d0 d1 hs1 f1 => ?_⟩
  refine ⟨_, _, rfl, rfl, (show 3 ≤ sizeLine by decide), fun l1 nl1 => ?_⟩
  refine ⟨h, l1, _, k + 1, rfl, hs1.new nl1, (show k + 1 < 100000 by omega), hs1.ne nl1, SqL.of upd_same, (show 0 < 3 by decide), (show 3 ≤ 1000 by decide), fun v H2 hv hs2 f2 => ?_⟩
  have hx : ∃ z : Int, v = .int z ∧ 0 < z ∧ z ≤ 1000000000000000 := by
    have d2 : d < 1000000000000000 := d1
    simp only [List.mem_cons, List.not_mem_nil, or_false] at hv
    rcases hv with rfl | rfl | rfl
    · exact ⟨_, rfl, by decide, by decide⟩
    · exact ⟨_, rfl, by decide, by decide⟩
    · exact ⟨_, rfl, by omega, by omega⟩
  obtain ⟨c, rfl, c0, c1⟩ := hx
  have f02 : Fr h H H2 := f1.trans ((Fr.new nl1).trans f2)
  have hR2 : Rs K H2 r rs := hR.fr hs f02
  clear hv d0 d1 f1 f2 hs1 nl1
  have cm : ∀ x : Int, CMul x c := fun x => .inr ⟨by omega, by omega⟩
  obtain ⟨us, hrT, lu, hu⟩ := id hR2
  -- greater
  dsimp only [gName]
  refine st_seq ?_
  refine ⟨_, rfl, r, rfl, ⟨_, hrT⟩, fun D nD => ?_⟩
  refine lc_tup (K := K) (a := r) (xs := us) (fun j H' => Same H2 H' ∧ ∃ ws : List V, H' D = some (.lst ws) ∧ ws.length = j ∧ ∀ (i : Nat) (x : Int × Int), i < j → (scl c rs)[i]? = some x → ∃ b : Addr, ws[i]? = some (.ref b) ∧ b ≠ D ∧ H' b = some (.tup [.int x.1, .int x.2])) ?_ (fun j H' _ hP => ?_) (fun j y H' hy hP => ?_) (fun H3 hP => ?_)
  · exact ⟨same_new nD, [], upd_same, rfl, fun i x hi => absurd hi (Nat.not_lt_zero _)⟩
  · exact sqT_same hP.1 hrT
  · obtain ⟨s3, ws, eD, lw, hw⟩ := hP
    have hj : j < rs.length := by
      have z := (List.getElem?_eq_some_iff.mp hy).1
      omega
    obtain ⟨b, e1, e2⟩ := hu j rs[j] (List.getElem?_eq_getElem hj)
    rw [e1] at hy
    cases hy
    refine ⟨b, _, rfl, sqT_same s3 e2, rfl, _, _, rfl, _, _, rfl, rfl, rfl, ?_⟩
    refine ⟨_, rfl, _, rfl, _, _, rfl, rfl, cm _, _, rfl, _, rfl, _, _, rfl, rfl, cm _, (show 2 ≤ sizeLine by decide), fun p np => ?_⟩
    have nDp : p ≠ D := (ne_of_none eD np).symm
    refine ⟨_, same_new np _ _ eD, small1000 (by omega), same_mut (s3.trans (same_new np)) nD, ws ++ [.ref p], upd_same, ?_, fun i x hi hx => ?_⟩
    · rw [List.length_append, lw]
      rfl
    · by_cases z : i < j
      · obtain ⟨p', e1, e2, e3⟩ := hw i x z hx
        refine ⟨p', ?_, e2, ?_⟩
        · rw [List.getElem?_append_left (by omega)]
          exact e1
        · rw [upd_ne e2]
          exact same_new np _ _ e3
      · have eg : i = j := by omega
        subst eg
        refine ⟨p, ?_, nDp, ?_⟩
        · rw [List.getElem?_append_right (by omega), lw, Nat.sub_self]
          rfl
        · rw [upd_ne nDp, upd_same]
          unfold scl at hx
          rw [List.getElem?_map, List.getElem?_eq_getElem hj] at hx
          cases hx
          rfl
  obtain ⟨s3, ws, eD, lw, hw⟩ := hP
  refine ⟨D, _, rfl, .inl ⟨SqL.of eD, fun g ng => ?_⟩⟩
  have ls : (scl c rs).length = rs.length := List.length_map ..
  have s4 : Same H2 (upd H3 g (.tup ws)) := s3.trans (same_new ng)
  have hG : Rs K (upd H3 g (.tup ws)) g (scl c rs) := by
    refine ⟨ws, SqT.of upd_same, by omega, fun i x hx => ?_⟩
    obtain ⟨b, e1, e2, e3⟩ := hw i x (by have := (List.getElem?_eq_some_iff.mp hx).1; omega) hx
    exact ⟨b, e1, SqT.of (same_new ng _ _ e3)⟩
  generalize upd H3 g (.tup ws) = H4 at s4 hG
  have hs4 := hs2.same s4
  have hR4 := hR2.same s4
  have f04 := f02.trans (Fr.same s4)
  clear hw eD lw s3 ng nD hrT hu
  have posG : ∀ x ∈ scl c rs, 0 ≤ x.1 := fun x hx => by
    obtain ⟨y, hy, rfl⟩ := List.mem_map.mp hx
    exact Int.mul_nonneg (br y hy).1 (Int.le_of_lt c0)
  have pos : ∀ x ∈ rs, 0 ≤ x.1 := fun x hx => (br x hx).1
  -- reached
  dsimp only [gName]
  refine st_seq ?_
  refine ⟨_, rfl, _, rfl, _, rfl, _, _, rfl, rfl, cm _, rfl, rfl, g, lm * c, scl c rs, rfl, hG, by omega, fun p1 ms fs H5 hst' hla' s5 h1 => ?_⟩
  obtain ⟨hst, hla⟩ := Stg_scl c0 hst' hla'
  obtain ⟨b1, b2⟩ := ms_small hst (by omega)
  obtain ⟨d1, sm1⟩ := ints_data h1 b1 b2
  obtain ⟨u1, u2, u3, u4⟩ := sm1.fits (by decide)
  refine ⟨_, _, rfl, d1, u1, u2, u3, u4, ?_⟩
  refine ⟨_, rfl, _, rfl, rfl, rfl, r, lm, rs, rfl, hR4.same s5, by omega, fun p2 ms2 fs2 H6 hst2 hla2 s6 h2 => ?_⟩
  obtain rfl := hst.uniq hla hst2 hla2
  obtain ⟨d2, _⟩ := ints_data h2 b1 b2
  refine ⟨_, _, rfl, d2, u1, u2, u3, u4, rfl, _, rfl, ?_⟩
  rw [dec_refl]
  refine iteF ?_
  dsimp only [gName, tNext]
  have s46 : Same H4 H6 := s5.trans s6
  have hs6 := hs4.same s46
  have hR6 := hR4.same s46
  have hG6 := hG.same s46
  have f06 := f04.trans (Fr.same s46)
  -- many
  refine st_seq ?_
  refine ⟨_, rfl, _, rfl, _, rfl, _, _, rfl, rfl, cm _, g, lm * c, scl c rs, rfl, hG6, by omega, posG, fun p3 ms3 fs3 m3 H7 hst3' hla3' hm3 s7 h3 => ?_⟩
  obtain ⟨hst3, hla3⟩ := Stg_scl c0 hst3' hla3'
  obtain rfl := hst.uniq hla hst3 hla3
  have le3 := hst.le m3 (List.mem_of_getElem? hm3)
  have few := hst3.few.2
  rw [ls] at h3
  obtain ⟨d3, sm3⟩ := many_data h3 (by omega) (by omega)
  obtain ⟨v1, v2, v3, v4⟩ := sm3.fits (by decide)
  refine ⟨_, _, rfl, d3, v1, v2, v3, v4, ?_⟩
  refine ⟨_, rfl, _, rfl, r, lm, rs, rfl, hR6.same s7, by omega, pos, fun p4 ms4 fs4 m4 H8 hst4 hla4 hm4 s8 h4 => ?_⟩
  obtain rfl := hst.uniq hla hst4 hla4
  obtain rfl : m3 = m4 := Option.some.inj (hm3.symm.trans hm4)
  have lf3 := hst3.len
  have lf4 := hst4.len
  rw [show fs4.length = fs3.length by omega] at h4
  obtain ⟨d4, _⟩ := many_data h4 (by omega) (by omega)
  refine ⟨_, _, rfl, d4, v1, v2, v3, v4, rfl, _, rfl, ?_⟩
  rw [dec_refl]
  refine iteF ?_
  dsimp only [gName, tNext]
  have s68 : Same H6 H8 := s7.trans s8
  have hs8 := hs6.same s68
  have hR8 := hR6.same s68
  have hG8 := hG6.same s68
  have f08 := f06.trans (Fr.same s68)
  obtain ⟨us8, hrT8, lu8, hu8⟩ := id hR8
  -- some
  refine st_seq ?_
  refine ⟨_, rfl, r, us8, rfl, .inr hrT8, _, rfl, by omega, by omega, fun D nD => ?_⟩
  have nDh : D ≠ h := hs8.ne nD
  refine lc_range (lo := 0) (fun j H'' => HS h (k + 2 + j) H'' ∧ Fr h H8 H'' ∧ ∃ zs : List Int, zs.length ≤ j ∧ H'' D = some (.lst (zs.map V.int))) ?_ (fun j H'' hj hP => ?_) (fun H9 hP => ?_)
  · exact ⟨(hs8.new nD).mono (by omega), Fr.new nD, [], Nat.le_refl _, upd_same⟩
  · obtain ⟨hsb, fb, zs, lz, eD⟩ := hP
    have hj2 : j < 20 := by
      have z : j < ((us8.length : Nat) : Int).toNat := hj
      omega
    refine ⟨rfl, ?_⟩
    refine ⟨_, rfl, h, 2, k + 2 + j, rfl, hsb, (show k + 2 + j < 100000 by omega), by decide, by decide, fun d8 Ha d80 d81 hsa fa => ?_⟩
    have eDa := fa _ _ nDh eD
    refine ⟨rfl, _, rfl, ite2 (fun e => ?_) (fun e => ?_)⟩
    · refine ⟨_, rfl, _, eDa, ?_, hsa.upd nDh, Fr.mut (fb.trans fa) nD, zs ++ [0 + (j : Int)], ?_, ?_⟩
      · rw [List.length_map]
        exact small1000 (by omega)
      · rw [List.length_append]
        show zs.length + 1 ≤ j + 1
        omega
      · rw [upd_same, List.map_append]
        rfl
    · exact ⟨hsa, fb.trans fa, zs, by omega, eDa⟩
  obtain ⟨hs9, f9, zs, lz, eD⟩ := hP
  have zz : (((us8.length : Nat) : Int) - 0).toNat = us8.length := by omega
  have hsx : HS h (k + 30) H9 := hs9.mono (by omega)
  refine ⟨D, _, rfl, .inl ⟨SqL.of eD, fun ts nts => ?_⟩⟩
  have eTs : (upd H9 ts (.tup (zs.map V.int))) ts = some (.tup (zs.map V.int)) := upd_same
  have sx : Same H9 (upd H9 ts (.tup (zs.map V.int))) := same_new nts
  have hsy := hsx.same sx
  have hRx := (hR8.fr hs8 f9).same sx
  have hGx := (hG8.fr hs8 f9).same sx
  have f0x := f08.trans (f9.trans (Fr.same sx))
  generalize upd H9 ts (.tup (zs.map V.int)) = Hx at eTs sx hsy hRx hGx f0x
  -- told
  dsimp only [gName]
  refine st_seq ?_
  refine ⟨_, rfl, _, rfl, _, rfl, rfl, rfl, r, ts, lm, rs, zs, rfl, hRx, by omega, SqT.of eTs, fun p5 Hy sy h5 => ?_⟩
  rw [inV_inn] at h5
  have pl := pas_len (inn zs) lm rs 0 0
  have ps := pas_scl c0 (inn zs) lm rs 0 0
  rw [Int.zero_mul] at ps
  have pb := pas_bound (inn zs) lm 100 rs 0 0 (Int.le_refl _) fun x hx => ⟨(br x hx).1, (br x hx).2.1, (br x hx).2.2.1⟩
  generalize pas (inn zs) lm rs 0 0 = ys at h5 pl ps pb
  have bd : ∀ x ∈ ys.map (· * c), x.natAbs < 2 ^ 62 := fun x hx => by
    obtain ⟨y, hy, rfl⟩ := List.mem_map.mp hx
    obtain ⟨y0, y1⟩ := pb y hy
    have y2 : y ≤ 2000 := by omega
    have y3 : y * c ≤ 2000 * 1000000000000000 := Int.mul_le_mul y2 c1 (Int.le_of_lt c0) (by decide)
    have y4 : 0 ≤ y * c := Int.mul_nonneg y0 (Int.le_of_lt c0)
    show (y * c).natAbs < 4611686018427387904
    omega
  have bl : (ys.map (· * c)).length ≤ 1000 := by
    rw [List.length_map]
    omega
  -- the last
  dsimp only [gName]
  refine ⟨_, rfl, _, rfl, _, rfl, _, rfl, _, _, rfl, rfl, cm _, rfl, rfl, g, ts, lm * c, scl c rs, zs, rfl, hGx.same sy, by omega, SqT.of (sy _ _ eTs), fun p6 Hz sz h6 => ?_⟩
  rw [inV_inn, ps] at h6
  obtain ⟨e1, sme⟩ := ints_data h6 bd bl
  obtain ⟨w1, w2, w3, w4⟩ := sme.fits (by decide)
  refine ⟨_, _, rfl, e1, w1, w2, w3, w4, ?_⟩
  have h5z := sqT_same sz h5
  refine ⟨_, rfl, p5, rfl, ⟨_, h5z⟩, fun D2 nD2 => ?_⟩
  refine lc_tup (K := K) (a := p5) (xs := ys.map V.int) (fun j H' => Same Hz H' ∧ H' D2 = some (.lst (((ys.take j).map (· * c)).map V.int))) ?_ (fun j H' _ hP => ?_) (fun j y H' hy hP => ?_) (fun H' hP => ?_)
  · exact ⟨same_new nD2, upd_same⟩
  · exact sqT_same hP.1 h5z
  · obtain ⟨s7, eG⟩ := hP
    have hj : j < ys.length := by
      have z := (List.getElem?_eq_some_iff.mp hy).1
      rw [List.length_map] at z
      exact z
    rw [List.getElem?_map, List.getElem?_eq_getElem hj] at hy
    cases hy
    refine ⟨rfl, ?_⟩
    refine ⟨_, rfl, _, rfl, _, _, rfl, rfl, cm _, _, eG, ?_, same_mut s7 nD2, ?_⟩
    · rw [List.length_map, List.length_map, List.length_take]
      exact small1000 (by omega)
    · rw [upd_same, take_add1 _ _ hj, List.map_append, List.map_append]
      rfl
  · obtain ⟨s7, eG⟩ := hP
    rw [List.length_map, List.take_length] at eG
    refine ⟨D2, _, rfl, .inl ⟨SqL.of eG, fun tz ntz => ?_⟩⟩
    obtain ⟨e2, _⟩ := ints_data (K := K) (H := upd H' tz (.tup ((ys.map (· * c)).map V.int))) (p := tz) (SqT.of upd_same) bd bl
    refine ⟨_, _, rfl, e2, w1, w2, w3, w4, rfl, ?_⟩
    rw [dec_refl]
    have sl : Same Hx (upd H' tz (.tup ((ys.map (· * c)).map V.int))) := sy.trans (sz.trans (s7.trans (same_new ntz)))
    exact q _ (hsy.same sl) (f0x.trans (Fr.same sl))
theorem cutN5 (xs : List V) (k : Nat) : cutV xs none (some (k : Int)) = xs.take k := by
  have e : HT.sIx xs.length xs.length (some ((k : Nat) : Int)) = min k xs.length := HT.sIx_nat _ _ _
  have e2 : HT.sIx xs.length 0 none = 0 := rfl
  unfold cutV
  rw [e, e2, List.drop_zero, Nat.sub_zero]
  by_cases c : k ≤ xs.length
  · rw [show min k xs.length = k by omega]
  · rw [show min k xs.length = xs.length by omega, List.take_length, List.take_of_length_le (by omega)]
theorem cutD5 (xs : List V) (k : Nat) (h : k ≤ xs.length) : cutV xs (some (k : Int)) none = xs.drop k := by
  have e : HT.sIx xs.length 0 (some ((k : Nat) : Int)) = min k xs.length := HT.sIx_nat _ _ _
  have e2 : HT.sIx xs.length xs.length none = xs.length := rfl
  unfold cutV
  rw [e, e2, show min k xs.length = k by omega]
  exact List.take_of_length_le (by rw [List.length_drop]; omega)
/-- a part of the rounds, one round in the middle, a part -/
theorem Rs.mid {K : PySem.W.Frag} {H : Hp} {p b : Addr} {us : List V} {rs : List (Int × Int)} {x : Int × Int} {i j : Nat} (lu : us.length = rs.length) (hu : ∀ (i : Nat) (r : Int × Int), rs[i]? = some r → ∃ b : Addr, us[i]? = some (V.ref b) ∧ SqT K H b [.int r.1, .int r.2]) (hi : i ≤ rs.length) (hb : SqT K H b [.int x.1, .int x.2]) (hp : SqT K H p (us.take i ++ [.ref b] ++ us.drop j)) : Rs K H p (rs.take i ++ x :: rs.drop j) := by
  refine ⟨_, hp, ?_, fun k r hr => ?_⟩
  · simp only [List.length_append, List.length_cons, List.length_take, List.length_drop, List.length_nil, lu]
    omega
  have lt : (us.take i).length = i := by
    rw [List.length_take]
    omega
  have lt2 : (rs.take i).length = i := by
    rw [List.length_take]
    omega
  rw [List.append_assoc]
  by_cases c : k < i
  · rw [List.getElem?_append_left (by omega), List.getElem?_take, if_pos c] at hr ⊢
    exact hu k r hr
  · rw [List.getElem?_append_right (by omega)] at hr ⊢
    rw [lt2] at hr
    rw [lt]
    cases z : k - i with
    | zero =>
      rw [z] at hr
      cases hr
      exact ⟨b, rfl, hb⟩
    | succ n =>
      rw [z] at hr
      have hr2 : (rs.drop j)[n]? = some r := hr
      show ∃ b, (us.drop j)[n]? = some (V.ref b) ∧ _
      rw [List.getElem?_drop] at hr2 ⊢
      exact hu _ r hr2
theorem shape_many (n m : Nat) (x : Int) : SeqAt.shaped (.tuple [.str (mw n m), .int x]) = true := by
  have e : PyData.strOk (mw n m) = true := by
    unfold mw
    split <;> decide +kernel
  show ((PyData.strOk (mw n m) && (true && true)) && decide (1 ≤ 64)) = true
  rw [e]
  rfl
theorem eqv_two (s : Str) (x : Int) : PyData.eqv (.tuple [.str s, .int x]) (.tuple [.str s, .int x]) = true := by
  simp [PyData.eqv, PyData.eqvAll]
theorem mw_idle {n m a : Nat} (hm : m ≤ n) (ha : a ≤ n) : mw (n + 1) (idl a m) = mw n m := by
  unfold mw idl
  split <;> split <;> split <;> first | rfl | omega
def spIdle (K : PySem.W.Frag) : Sp := fun vs H Q _ => ∃ (h r : Addr) (lm : Int) (k : Nat) (rs : List (Int × Int)), vs = [.ref h, .ref r, .int lm] ∧ Rs K H r rs ∧ rs.length ≤ 20 ∧ (∀ r ∈ rs, 0 ≤ r.1) ∧ 0 ≤ lm ∧ lm ≤ 100 ∧ HS h k H ∧ k + 10 < lim ∧ ∀ H', HS h (k + 10) H' → Fr h H H' → Q (.bl true) H'
theorem ok_idle (T : Tx K mg) (c_l_take : C8.Cal P w K mg base 1 "_law_take" spTake []) (c_l_of : C8.Cal P w K mg base 2 "_law_of" (spOf K) []) (c_l_many : C8.Cal P w K mg base 4 "_law_many" (spMany K) []) : BodyOk P w K mg base "_law_idle_right" s_l_idle_right N_l_idle_right 4 (spIdle K) := by
  intro f cdv A outer s H vs Q E hr h
  obtain ⟨h, r, lm, k, rs, rfl, hR, hl, pos, lm0, lm1, hs, hk, q⟩ := h
  have hk2 : k + 10 < 100000 := hk
  have p18' : (10 : Int) ^ 18 = 1000000000000000000 := by decide
  obtain ⟨us0, hrT0, lu0, _⟩ := id hR
  refine ⟨_, (pss_cons (ps_par (i := 3) (j := 4) (by rfl) sc_l_idle_right.nd rfl rfl (by decide) rfl rfl (pa_cons (C8.pe_c c_l_take hr (by decide) (gl_of gl_l_idle_right_l_take) (pa_cons (pv 0) (pa_cons (pe_op op_add (pe_callB call_len_seq (gl_of gl_l_idle_right_len) T.len bb_len (pa_cons (pv 1) pa_nil)) pe_int) pa_nil))) (pa_cons (C8.pe_c c_l_of hr (by decide) (gl_of gl_l_idle_right_l_of) (pa_cons (pv 0) (pa_cons (pe_lst (pa_cons (pv 2) (pa_cons (pe_op op_add (pv 2) pe_int) (pa_cons (pe_op op_pow pe_int pe_int) pa_nil)))) pa_nil))) pa_nil)) (by rfl))
      (pss_cons (ps_set (i := 5) sc_l_idle_right.nd rfl (Or.inl rfl) (pe_op op_catA (pe_op op_catA (pe_slice sl_tupA (pv 1) po_none (po_some (pv 3))) (pe_tup (pa_cons (pe_tup (pa_cons pe_int (pa_cons (pv 4) pa_nil))) pa_nil))) (pe_slice sl_tupA (pv 1) (po_some (pv 3)) po_none)))
      (pss_cons (ps_par (i := 6) (j := 7) (by rfl) sc_l_idle_right.nd rfl rfl (by decide) rfl rfl (pa_cons (C8.pe_c c_l_many hr (by decide) (gl_of gl_l_idle_right_l_many) (pa_cons (pv 1) (pa_cons (pv 2) pa_nil))) (pa_cons (C8.pe_c c_l_many hr (by decide) (gl_of gl_l_idle_right_l_many) (pa_cons (pv 5) (pa_cons (pv 2) pa_nil))) pa_nil)) (by rfl))
      (pss_cons (ps_if (pt_cmpR op_eq (pe_ix ix_tup (pv 6) pe_int (fun _ _ => rfl)) pe_str (nomark _)) (pss_one (ps_ret (pe_cmpR (op_eqD hr.units) (pv 7) (pe_tup (pa_cons pe_str (pa_cons (pe_op op_add (pe_ix ix_tup (pv 6) pe_int (fun _ _ => rfl)) (pe_callTy call_int1 (gl_of gl_l_idle_right_int) T.int bt_int (pa_cons (pe_cmpR op_le (pv 3) (pe_ix ix_tup (pv 6) pe_int (fun _ _ => rfl)) (nomark _)) pa_nil))) pa_nil))) (nomark _)))) pss_nil)
      (pss_one (ps_ret (pe_cmpR (op_eqD hr.units) (pv 7) (pv 6) (nomark _)))))))), ?_⟩
  refine st_seq ?_
  refine ⟨_, rfl, _, rfl, r, us0, rfl, .inr hrT0, _, _, rfl, rfl, h, _, k, rfl, hs, (show k < 100000 by omega), by omega, by omega, fun d H1 d0 d1 hs1 f1 => ?_⟩
  obtain ⟨a, rfl⟩ := Int.eq_ofNat_of_zero_le d0
  have ha : a ≤ rs.length := by omega
  refine ⟨_, rfl, _, rfl, _, rfl, _, _, rfl, rfl, _, _, rfl, rfl, pow_ok (by decide), (show 3 ≤ sizeLine by decide), fun l1 nl1 => ?_⟩
  refine ⟨h, l1, _, k + 1, rfl, hs1.new nl1, (show k + 1 < 100000 by omega), hs1.ne nl1, SqL.of upd_same, (show 0 < 3 by decide), (show 3 ≤ 1000 by decide), fun v H2 hv hs2 f2 => ?_⟩
  have hx : ∃ z : Int, v = .int z ∧ lm ≤ z := by
    simp only [List.mem_cons, List.not_mem_nil, or_false] at hv
    rcases hv with rfl | rfl | rfl
    · exact ⟨_, rfl, Int.le_refl _⟩
    · exact ⟨_, rfl, by omega⟩
    · exact ⟨_, rfl, Int.le_trans lm1 (by decide)⟩
  obtain ⟨lag, rfl, hlag⟩ := hx
  refine ⟨_, _, rfl, ?_⟩
  have f02 : Fr h H H2 := f1.trans ((Fr.new nl1).trans f2)
  have hR2 : Rs K H2 r rs := hR.fr hs f02
  clear hv d0 d1 f1 f2 hs1 nl1
  obtain ⟨us, hrT, lu, hu⟩ := id hR2
  -- more
  dsimp only [gName]
  refine st_seq ?_
  refine ⟨_, rfl, ?_⟩
  refine noPart_ev ?_
  refine ⟨_, rfl, _, rfl, ?_⟩
  refine slA_ev hrT (fun c H4 s4 hc => ?_)
  rw [cutN5] at hc
  refine ⟨_, rfl, (show 2 ≤ sizeLine by decide), fun t nt => ?_⟩
  refine ⟨(show 1 ≤ sizeLine by decide), fun t1 nt1 => ?_⟩
  have ht5 : (upd (upd H4 t (.tup [.int 0, .int lag])) t1 (.tup [.ref t])) t = some (.tup [.int 0, .int lag]) := same_new nt1 _ _ upd_same
  have ht1 : (upd (upd H4 t (.tup [.int 0, .int lag])) t1 (.tup [.ref t])) t1 = some (.tup [.ref t]) := upd_same
  have s5 : Same H4 (upd (upd H4 t (.tup [.int 0, .int lag])) t1 (.tup [.ref t])) := (same_new nt).trans (same_new nt1)
  generalize upd (upd H4 t (.tup [.int 0, .int lag])) t1 (.tup [.ref t]) = H5 at ht5 ht1 s5
  refine catA_ev (xs := us.take a) (ys := [.ref t]) (sqT_same s5 hc) (SqT.of ht1) ?_ (fun g1 H6 s6 hg1 => ?_)
  · rw [List.length_take]
    show min a us.length + 1 ≤ 1000
    omega
  have s26 : Same H2 H6 := s4.trans (s5.trans s6)
  refine ⟨_, rfl, _, rfl, _, rfl, ?_⟩
  refine noPart_ev ?_
  refine slA_ev (sqT_same s26 hrT) (fun c2 H7 s7 hc2 => ?_)
  rw [cutD5 _ _ (by omega)] at hc2
  refine catA_ev (xs := us.take a ++ [.ref t]) (ys := us.drop a) (sqT_same s7 hg1) hc2 ?_ (fun g H8 s8 hg => ?_)
  · rw [List.length_append, List.length_take, List.length_drop]
    show min a us.length + 1 + (us.length - a) ≤ 1000
    omega
  have s28 : Same H2 H8 := s26.trans (s7.trans s8)
  have hG : Rs K H8 g (put1 rs a (0, lag)) := Rs.mid lu (fun i x hx => by
    obtain ⟨b, e1, e2⟩ := hu i x hx
    exact ⟨b, e1, sqT_same s28 e2⟩) ha (SqT.of (s8 _ _ (s7 _ _ (s6 _ _ ht5)))) hg
  have hR8 := hR2.same s28
  have hs8 := hs2.same s28
  have f08 := f02.trans (Fr.same s28)
  have lg := put1_len (i := (0, lag)) ha
  -- one, other
  dsimp only [gName]
  refine st_seq ?_
  refine ⟨_, rfl, _, rfl, r, lm, rs, rfl, hR8, by omega, pos, fun p1 ms1 fs1 m1 H9 hst1 hla1 hm1 s9 h1 => ?_⟩
  refine ⟨_, rfl, _, rfl, g, lm, put1 rs a (0, lag), rfl, hG.same s9, by omega, put1_pos pos, fun p2 ms2 fs2 m2 Ha hst2 hla2 hm2 s10 h2 => ?_⟩
  refine ⟨_, _, rfl, ?_⟩
  have le1 := hst1.le m1 (List.mem_of_getElem? hm1)
  obtain ⟨em, ef⟩ := idle_is lm0 hlag ha pos hst1 hla1 hm1 hst2 hla2 hm2
  rw [lg, em, ef, mw_idle le1 ha] at h2
  have h1a := sqT_same s10 h1
  have few := hst1.few.2
  have s8a : Same H8 Ha := s9.trans s10
  have hsa := (hs8.same s8a).mono (show k + 1 + 1 ≤ k + 10 by omega)
  have f0a := f08.trans (Fr.same s8a)
  -- never
  dsimp only [gName]
  refine st_seq ?_
  by_cases hlt : m1 < rs.length
  · have ew : mw rs.length m1 = "never" := by
      unfold mw
      rw [if_pos hlt]
    have en : mn rs.length m1 fs1.length = (m1 : Int) := by
      unfold mn
      rw [if_pos hlt]
    have en2 : mn (rs.length + 1) (idl a m1) fs1.length = (m1 : Int) + (if decide ((a : Int) ≤ (m1 : Int)) = true then 1 else 0) := by
      unfold mn idl
      by_cases z : a ≤ m1
      · rw [if_pos z, if_pos (by omega), if_pos (decide_eq_true (by omega))]
        rfl
      · rw [if_neg z, if_pos (by omega), if_neg (fun y => z (by have := of_decide_eq_true y; omega))]
        omega
    have sh := shape_many rs.length m1 (mn (rs.length + 1) (idl a m1) fs1.length)
    rw [ew, en] at h1a
    rw [ew, en2] at sh h2
    refine ⟨_, rfl, p1, _, _, _, rfl, rfl, h1a, rfl, rfl, _, rfl, ?_⟩
    rw [dec_refl]
    refine iteT ?_
    refine ⟨_, rfl, _, rfl, p1, _, _, _, rfl, rfl, h1a, rfl, _, rfl, _, rfl, p1, _, _, _, rfl, rfl, h1a, rfl, _, _, rfl, rfl, .inr ⟨_, rfl, _, _, rfl, rfl, (show 2 ≤ sizeLine by decide), fun t2 nt2 => ?_⟩⟩
    refine ⟨.tuple [.str "never", .int _], .tuple [.str "never", .int _], .tup (sqT_same (same_new nt2) h2) (.cons (.str _) (.cons (.int _) .nil)), .tup (SqT.of upd_same) (.cons (.str _) (.cons (.int _) .nil)), sh, sh, ?_⟩
    rw [eqv_two]
    exact q _ (hsa.same (same_new nt2)) (f0a.trans (Fr.same (same_new nt2)))
  · have ew : mw rs.length m1 = "plan" := by
      unfold mw
      rw [if_neg hlt]
    have en : mn (rs.length + 1) (idl a m1) fs1.length = mn rs.length m1 fs1.length := by
      unfold mn idl
      rw [if_neg hlt, if_pos (show a ≤ m1 by omega), if_neg (by omega)]
    have sh := shape_many rs.length m1 (mn rs.length m1 fs1.length)
    rw [en] at h2
    rw [ew] at sh h2 h1a
    refine ⟨_, rfl, p1, _, _, _, rfl, rfl, h1a, rfl, rfl, _, rfl, ite2 (fun e => ?_) (fun _ => ?_)⟩
    · exact absurd (V.str.inj (of_decide_eq_true e)) (by decide)
    dsimp only [gName, tNext]
    refine ⟨_, rfl, _, rfl, .tuple [.str "plan", .int _], .tuple [.str "plan", .int _], .tup h2 (.cons (.str _) (.cons (.int _) .nil)), .tup h1a (.cons (.str _) (.cons (.int _) .nil)), sh, sh, ?_⟩
    rw [eqv_two]
    exact q _ hsa f0a
theorem lay_rs : ∀ rs : List (Int × Int), PyData.canLayAll0 (rsD rs) = true
  | [] => rfl
  | r :: t => by
    show (PyData.canLay0 (.tuple [.int r.1, .int r.2]) && PyData.canLayAll0 (rsD t)) = true
    rw [lay_rs t]
    rfl
theorem dep_rs : ∀ rs : List (Int × Int), PyData.depthAll (rsD rs) ≤ 1
  | [] => Nat.zero_le _
  | r :: t => by
    show max (PyData.depth (.tuple [.int r.1, .int r.2])) (PyData.depthAll (rsD t)) ≤ 1
    have a : PyData.depth (.tuple [.int r.1, .int r.2]) = 1 := rfl
    have b := dep_rs t
    omega
theorem shape_rs (rs : List (Int × Int)) : SeqAt.shaped (.tuple (rsD rs)) = true := by
  show (PyData.canLayAll0 (rsD rs) && decide (PyData.depthAll (rsD rs) + 1 ≤ 64)) = true
  have b := dep_rs rs
  rw [lay_rs, decide_eq_true (show PyData.depthAll (rsD rs) + 1 ≤ 64 by omega)]
  rfl
theorem eqv_rs (rs : List (Int × Int)) : PyData.eqv (.tuple (rsD rs)) (.tuple []) = rs.isEmpty := by
  cases rs <;> simp [PyData.eqv, PyData.eqvAll, rsD]
theorem hard_at {rs : List (Int × Int)} {a : Nat} {r : Int × Int} {x : Int × Int} (hr : rs[a]? = some r) (h1 : r.1 ≤ x.1) (h2 : r.2 ≤ x.2) : Hard rs (rs.take a ++ x :: rs.drop (a + 1)) := by
  have ha := (List.getElem?_eq_some_iff.mp hr).1
  have lt : (rs.take a).length = a := by
    rw [List.length_take]
    omega
  refine ⟨?_, fun i y y' hy hy' => ?_⟩
  · simp only [List.length_append, List.length_cons, List.length_take, List.length_drop]
    omega
  · by_cases c : i < a
    · rw [List.getElem?_append_left (by omega), List.getElem?_take, if_pos c, hy] at hy'
      cases hy'
      exact ⟨Int.le_refl _, Int.le_refl _⟩
    · rw [List.getElem?_append_right (by omega), lt] at hy'
      cases z : i - a with
      | zero =>
        rw [z] at hy'
        cases hy'
        rw [show i = a by omega, hr] at hy
        cases hy
        exact ⟨h1, h2⟩
      | succ n =>
        rw [z] at hy'
        have hy2 : (rs.drop (a + 1))[n]? = some y' := hy'
        rw [List.getElem?_drop, show a + 1 + n = i by omega, hy] at hy2
        cases hy2
        exact ⟨Int.le_refl _, Int.le_refl _⟩
theorem castL_at5 {ms : List Nat} {k : Nat} {x : Int} (h : (ms.map fun m => ((m : Nat) : Int))[k]? = some x) : ∃ m : Nat, ms[k]? = some m ∧ x = (m : Int) := by
  rw [List.getElem?_map] at h
  obtain ⟨m, h1, h2⟩ := Option.map_eq_some_iff.mp h
  exact ⟨m, h1, h2.symm⟩
theorem ok_harder (T : Tx K mg) (c_l_take : C8.Cal P w K mg base 1 "_law_take" spTake []) (c_l_many : C8.Cal P w K mg base 4 "_law_many" (spMany K) []) (k_reached : CalK P w K mg base 3 "reached" 1 ["room"] (spReached K)) : BodyOk P w K mg base "_law_harder_right" s_l_harder_right N_l_harder_right 4 (spIdle K) := by
  intro f cdv A outer s H vs Q E hr h
  obtain ⟨h, r, lm, k, rs, rfl, hR, hl, pos, lm0, lm1, hs, hk, q⟩ := h
  have hk2 : k + 10 < 100000 := hk
  have p18' : (10 : Int) ^ 18 = 1000000000000000000 := by decide
  obtain ⟨us0, hrT0, lu0, hu0⟩ := id hR
  refine ⟨_, (pss_cons (ps_if (pt_cmpR (op_eqD hr.units) (pv 1) (pe_tup pa_nil) (nomark _)) (pss_one (ps_ret pe_bl)) pss_nil)
      (pss_cons (ps_par (i := 3) (j := 4) (by rfl) sc_l_harder_right.nd rfl rfl (by decide) rfl rfl (pa_cons (C8.pe_c c_l_take hr (by decide) (gl_of gl_l_harder_right_l_take) (pa_cons (pv 0) (pa_cons (pe_callB call_len_seq (gl_of gl_l_harder_right_len) T.len bb_len (pa_cons (pv 1) pa_nil)) pa_nil))) (pa_cons (C8.pe_c c_l_take hr (by decide) (gl_of gl_l_harder_right_l_take) (pa_cons (pv 0) (pa_cons pe_int pa_nil))) pa_nil)) (by rfl))
      (pss_cons (ps_set (i := 5) sc_l_harder_right.nd rfl (Or.inl rfl) (pe_tup (pa_cons (pe_op op_sub (pe_op op_add (pe_ix ix_tup (pe_ix ix_tup (pv 1) (pv 3) (fun _ _ => rfl)) pe_int (fun _ _ => rfl)) pe_int) (pv 4)) (pa_cons (pe_op op_add (pe_ix ix_tup (pe_ix ix_tup (pv 1) (pv 3) (fun _ _ => rfl)) pe_int (fun _ _ => rfl)) (pv 4)) pa_nil))))
      (pss_cons (ps_set (i := 6) sc_l_harder_right.nd rfl (Or.inl rfl) (pe_op op_catA (pe_op op_catA (pe_slice sl_tupA (pv 1) po_none (po_some (pv 3))) (pe_tup (pa_cons (pv 5) pa_nil))) (pe_slice sl_tupA (pv 1) (po_some (pe_op op_add (pv 3) pe_int)) po_none)))
      (pss_cons (ps_par (i := 7) (j := 8) (by rfl) sc_l_harder_right.nd rfl rfl (by decide) rfl rfl (pa_cons (pe_ck k_reached hr (by decide) (gl_of gl_l_harder_right_reached) (pa_cons (pv 1) pa_nil) (pk_cons (pv 2) pk_nil)) (pa_cons (pe_ck k_reached hr (by decide) (gl_of gl_l_harder_right_reached) (pa_cons (pv 6) pa_nil) (pk_cons (pv 2) pk_nil)) pa_nil)) (by rfl))
      (pss_cons (ps_if (pt_not (pt_val (pe_callB (cr_all rfl) (gl_of gl_l_harder_right_all) T.all bb_all (pa_cons (pe_lc (own := [("_law_here", 11), ("_law_there", 12)]) (g := gTup K 2 (gCons (gName 11) (gCons (gName 12) gNil))) (tt := tYes) rfl sc_l_harder_right.nd (RZ.pi_zipA (by rfl) T.zip (pa_cons (pv 8) (pa_cons (pv 7) pa_nil))) (blkOk_by (own := [("_law_here", 11), ("_law_there", 12)]) (N := N_l_harder_right) (sc := defScope s_l_harder_right) (by decide +kernel)) (fun _ _ _ _ _ => pg_tup rfl (pgs_cons (pg_name (i := 11) sc_l_harder_right.nd rfl (Or.inl rfl)) (pgs_cons (pg_name (i := 12) sc_l_harder_right.nd rfl (Or.inl rfl)) pgs_nil))) (fun _ _ _ _ _ => pts_nil) (fun _ _ _ _ _ => (pe_cmpR op_le (pv 11) (pv 12) (nomark _)))) pa_nil)))) (pss_one (ps_ret pe_bl)) pss_nil)
      (pss_cons (ps_par (i := 9) (j := 10) (by rfl) sc_l_harder_right.nd rfl rfl (by decide) rfl rfl (pa_cons (C8.pe_c c_l_many hr (by decide) (gl_of gl_l_harder_right_l_many) (pa_cons (pv 1) (pa_cons (pv 2) pa_nil))) (pa_cons (C8.pe_c c_l_many hr (by decide) (gl_of gl_l_harder_right_l_many) (pa_cons (pv 6) (pa_cons (pv 2) pa_nil))) pa_nil)) (by rfl))
      (pss_cons (ps_if (pt_cmpR op_eq (pe_ix ix_tup (pv 9) pe_int (fun _ _ => rfl)) pe_str (nomark _)) (pss_one (ps_ret (pe_and (pe_cmpR op_eq (pe_ix ix_tup (pv 10) pe_int (fun _ _ => rfl)) pe_str (nomark _)) (pe_one (pe_cmpR op_le (pe_ix ix_tup (pv 10) pe_int (fun _ _ => rfl)) (pe_ix ix_tup (pv 9) pe_int (fun _ _ => rfl)) (nomark _)))))) pss_nil)
      (pss_one (ps_ret (pe_or (pe_cmpR op_eq (pe_ix ix_tup (pv 10) pe_int (fun _ _ => rfl)) pe_str (nomark _)) (pe_one (pe_and (pe_cmpR op_eq (pe_ix ix_tup (pv 10) pe_int (fun _ _ => rfl)) pe_str (nomark _)) (pe_one (pe_cmpR op_ge (pe_ix ix_tup (pv 10) pe_int (fun _ _ => rfl)) (pe_ix ix_tup (pv 9) pe_int (fun _ _ => rfl)) (nomark _)))))))))))))))), ?_⟩
  refine st_seq ?_
  refine ⟨_, rfl, (show 0 ≤ sizeLine by decide), fun z nz => ?_⟩
  have s1 : Same H (upd H z (.tup [])) := same_new nz
  have ez : (upd H z (.tup [])) z = some (.tup []) := upd_same
  generalize upd H z (.tup []) = H1 at s1 ez
  have hR1 := hR.same s1
  have hs1 := hs.same s1
  obtain ⟨us1, hrT1, lu1, hu1⟩ := id hR1
  refine ⟨.tuple (rsD rs), .tuple [], .tup hrT1 (rs_all lu1 hu1), .tup (SqT.of ez) .nil, shape_rs _, rfl, _, rfl, ?_⟩
  rw [eqv_rs]
  refine ite2 (fun e => ?_) (fun e => ?_)
  · exact q _ (hs1.mono (by omega)) (Fr.same s1)
  have hn : 0 < rs.length := by
    cases rs with
    | nil => exact absurd rfl e
    | cons x t => exact Nat.succ_pos _
  dsimp only [gName, tNext]
  refine st_seq ?_
  -- at, side
  refine ⟨_, rfl, _, rfl, r, us1, rfl, .inr hrT1, h, _, k, rfl, hs1, (show k < 100000 by omega), by omega, by omega, fun d H2 d0 d1 hs2 f2 => ?_⟩
  obtain ⟨a, rfl⟩ := Int.eq_ofNat_of_zero_le d0
  have ha : a < rs.length := by omega
  refine ⟨_, rfl, h, 2, k + 1, rfl, hs2, (show k + 1 < 100000 by omega), by decide, by decide, fun sd H3 sd0 sd1 hs3 f3 => ?_⟩
  refine ⟨_, _, rfl, ?_⟩
  have f03 : Fr h H H3 := (Fr.same s1).trans (f2.trans f3)
  have hR3 : Rs K H3 r rs := hR.fr hs f03
  obtain ⟨us, hrT, lu, hu⟩ := id hR3
  obtain ⟨b, eb, hb⟩ := hu a rs[a] (List.getElem?_eq_getElem ha)
  have ab : atI us ((a : Nat) : Int) = some (.ref b) := atI_nat eb
  generalize hra : rs[a] = ra at hb
  have hra2 : rs[a]? = some ra := by rw [List.getElem?_eq_getElem ha, hra]
  have pra := pos ra (hra ▸ List.getElem_mem ha)
  clear d0 d1 f2 f3 hs2
  -- one
  dsimp only [gName]
  refine st_seq ?_
  refine ⟨_, rfl, _, rfl, r, _, _, _, rfl, rfl, hrT, ab, b, _, _, _, rfl, rfl, hb, rfl, _, _, rfl, rfl, _, rfl, _, _, rfl, rfl, _, rfl, _, rfl, r, _, _, _, rfl, rfl, hrT, ab, b, _, _, _, rfl, rfl, hb, rfl, _, rfl, _, _, rfl, rfl, (show 2 ≤ sizeLine by decide), fun o no => ?_⟩
  have s4 : Same H3 (upd H3 o (.tup [.int (ra.1 + 1 - sd), .int (ra.2 + sd)])) := same_new no
  have eo : (upd H3 o (.tup [.int (ra.1 + 1 - sd), .int (ra.2 + sd)])) o = some (.tup [.int (ra.1 + 1 - sd), .int (ra.2 + sd)]) := upd_same
  generalize upd H3 o (.tup [.int (ra.1 + 1 - sd), .int (ra.2 + sd)]) = H4 at s4 eo
  have hrT4 := sqT_same s4 hrT
  -- harder
  dsimp only [gName]
  refine st_seq ?_
  refine ⟨_, rfl, ?_⟩
  refine noPart_ev ?_
  refine ⟨_, rfl, _, rfl, ?_⟩
  refine slA_ev hrT4 (fun c H5 s5 hc => ?_)
  rw [cutN5] at hc
  refine ⟨_, rfl, (show 1 ≤ sizeLine by decide), fun t1 nt1 => ?_⟩
  have ht1 : (upd H5 t1 (.tup [.ref o])) t1 = some (.tup [.ref o]) := upd_same
  have s6 : Same H5 (upd H5 t1 (.tup [.ref o])) := same_new nt1
  generalize upd H5 t1 (.tup [.ref o]) = H6 at ht1 s6
  refine catA_ev (xs := us.take a) (ys := [.ref o]) (sqT_same s6 hc) (SqT.of ht1) ?_ (fun g1 H7 s7 hg1 => ?_)
  · rw [List.length_take]
    show min a us.length + 1 ≤ 1000
    omega
  have s47 : Same H4 H7 := s5.trans (s6.trans s7)
  refine ⟨_, rfl, _, rfl, _, _, rfl, rfl, _, rfl, ?_⟩
  refine noPart_ev ?_
  refine slA_ev (sqT_same s47 hrT4) (fun c2 H8 s8 hc2 => ?_)
  rw [show ((a : Nat) : Int) + 1 = ((a + 1 : Nat) : Int) by omega, cutD5 _ _ (by omega)] at hc2
  refine catA_ev (xs := us.take a ++ [.ref o]) (ys := us.drop (a + 1)) (sqT_same s8 hg1) hc2 ?_ (fun g H9 s9 hg => ?_)
  · rw [List.length_append, List.length_take, List.length_drop]
    show min a us.length + 1 + (us.length - (a + 1)) ≤ 1000
    omega
  have s49 : Same H4 H9 := s47.trans (s8.trans s9)
  have s39 : Same H3 H9 := s4.trans s49
  have hG : Rs K H9 g (rs.take a ++ (ra.1 + 1 - sd, ra.2 + sd) :: rs.drop (a + 1)) := Rs.mid lu (fun i x hx => by
    obtain ⟨b, e1, e2⟩ := hu i x hx
    exact ⟨b, e1, sqT_same s39 e2⟩) (Nat.le_of_lt ha) (SqT.of (s49 _ _ eo)) hg
  have hh : Hard rs (rs.take a ++ (ra.1 + 1 - sd, ra.2 + sd) :: rs.drop (a + 1)) := hard_at hra2 (show ra.1 ≤ ra.1 + 1 - sd by omega) (show ra.2 ≤ ra.2 + sd by omega)
  have posG : ∀ x ∈ rs.take a ++ (ra.1 + 1 - sd, ra.2 + sd) :: rs.drop (a + 1), 0 ≤ x.1 := fun x hx => by
    rcases List.mem_append.mp hx with y | y
    · exact pos x (List.mem_of_mem_take y)
    · rcases List.mem_cons.mp y with y | y
      · rw [y]
        show 0 ≤ ra.1 + 1 - sd
        omega
      · exact pos x (List.mem_of_mem_drop y)
  generalize rs.take a ++ (ra.1 + 1 - sd, ra.2 + sd) :: rs.drop (a + 1) = gs at hG hh posG
  have lg := hh.1
  have hR9 := hR3.same s39
  have hs9 := hs3.same s39
  have f09 := f03.trans (Fr.same s39)
  -- mine, its
  dsimp only [gName]
  refine st_seq ?_
  refine ⟨_, rfl, _, rfl, rfl, rfl, r, lm, rs, rfl, hR9, by omega, fun p1 ms1 fs1 Ha hst1 hla1 s10 h1 => ?_⟩
  refine ⟨_, rfl, _, rfl, rfl, rfl, g, lm, gs, rfl, hG.same s10, by omega, fun p2 ms2 fs2 Hb hst2 hla2 s11 h2 => ?_⟩
  refine ⟨_, _, rfl, ?_⟩
  have h1b := sqT_same s11 h1
  have few1 := hst1.few.1
  have few2 := hst2.few.1
  -- all
  dsimp only [gName]
  refine st_seq ?_
  refine ⟨_, rfl, _, rfl, p2, p1, _, _, rfl, .inr ⟨h2, h1b, fun G nG => ?_⟩⟩
  refine zip_all (fun x y => decide (x ≤ y)) h2 h1b (by rw [List.length_map]; omega) nG (fun i x y hx hy => by
    obtain ⟨m, e1, rfl⟩ := castL_at5 hx
    obtain ⟨m', e2, rfl⟩ := castL_at5 hy
    have := harder_at pos posG hh hst1 hst2 e2 e1
    exact decide_eq_true (by omega)) (fun _ _ => rfl) (fun x y H5 Q2 q2 => ⟨_, rfl, _, rfl, _, _, rfl, rfl, q2⟩) (fun Hc k' s12 eG => ?_)
  refine ⟨G, _, rfl, SqL.of eG, ?_⟩
  rw [all_rep]
  refine ⟨_, rfl, ?_⟩
  refine iteF ?_
  dsimp only [gName, tNext]
  have s9c : Same H9 Hc := s10.trans (s11.trans s12)
  have hRc := hR9.same s9c
  have hGc := hG.same s9c
  -- first, second
  refine st_seq ?_
  refine ⟨_, rfl, _, rfl, r, lm, rs, rfl, hRc, by omega, pos, fun p3 ms3 fs3 m3 Hd hst3 hla3 hm3 s13 h3 => ?_⟩
  refine ⟨_, rfl, _, rfl, g, lm, gs, rfl, hGc.same s13, by omega, posG, fun p4 ms4 fs4 m4 He hst4 hla4 hm4 s14 h4 => ?_⟩
  refine ⟨_, _, rfl, ?_⟩
  have h3e := sqT_same s14 h3
  rw [lg] at h4
  obtain ⟨le5, le6⟩ := harder_is pos posG hh hst3 hla3 hm3 hst4 hm4
  have le3 := hst3.le m3 (List.mem_of_getElem? hm3)
  have s9e : Same H9 He := s9c.trans (s13.trans s14)
  have hse := (hs9.same s9e).mono (show k + 1 + 1 ≤ k + 10 by omega)
  have f0e := f09.trans (Fr.same s9e)
  dsimp only [gName]
  refine st_seq ?_
  have nev : ∀ {m : Nat} {j : Nat}, m < rs.length → mw rs.length m = "never" ∧ mn rs.length m j = (m : Int) := fun c => by
    unfold mw mn
    rw [if_pos c, if_pos c]
    exact ⟨rfl, rfl⟩
  have pla : ∀ {m : Nat} {j : Nat}, ¬ m < rs.length → mw rs.length m = "plan" ∧ mn rs.length m j = (j : Int) := fun c => by
    unfold mw mn
    rw [if_neg c, if_neg c]
    exact ⟨rfl, rfl⟩
  by_cases c3 : m3 < rs.length
  · obtain ⟨e1, e2⟩ := nev (j := fs3.length) c3
    obtain ⟨e3, e4⟩ := nev (j := fs4.length) (show m4 < rs.length by omega)
    rw [e1, e2] at h3e
    rw [e3, e4] at h4
    refine ⟨_, rfl, p3, _, _, _, rfl, rfl, h3e, rfl, rfl, _, rfl, ?_⟩
    rw [dec_refl]
    refine iteT ?_
    refine ⟨_, rfl, p4, _, _, _, rfl, rfl, h4, rfl, rfl, _, rfl, ?_⟩
    rw [dec_refl]
    refine iteT ?_
    refine ⟨_, rfl, p4, _, _, _, rfl, rfl, h4, rfl, _, rfl, p3, _, _, _, rfl, rfl, h3e, rfl, _, _, rfl, rfl, ?_⟩
    show Q (.bl (decide ((m4 : Int) ≤ (m3 : Int)))) He
    rw [decide_eq_true (show (m4 : Int) ≤ (m3 : Int) by omega)]
    exact q _ hse f0e
  · obtain ⟨e1, e2⟩ := pla (j := fs3.length) c3
    rw [e1, e2] at h3e
    refine ⟨_, rfl, p3, _, _, _, rfl, rfl, h3e, rfl, rfl, _, rfl, ite2 (fun e => ?_) (fun _ => ?_)⟩
    · exact absurd (V.str.inj (of_decide_eq_true e)) (by decide)
    dsimp only [gName, tNext]
    by_cases c4 : m4 < rs.length
    · obtain ⟨e3, e4⟩ := nev (j := fs4.length) c4
      rw [e3, e4] at h4
      refine ⟨_, rfl, p4, _, _, _, rfl, rfl, h4, rfl, rfl, _, rfl, ?_⟩
      rw [dec_refl]
      refine iteT ?_
      exact q _ hse f0e
    · obtain ⟨e3, e4⟩ := pla (j := fs4.length) c4
      rw [e3, e4] at h4
      refine ⟨_, rfl, p4, _, _, _, rfl, rfl, h4, rfl, rfl, _, rfl, ite2 (fun e => ?_) (fun _ => ?_)⟩
      · exact absurd (V.str.inj (of_decide_eq_true e)) (by decide)
      refine ⟨_, rfl, p4, _, _, _, rfl, rfl, h4, rfl, rfl, _, rfl, ?_⟩
      rw [dec_refl]
      refine iteT ?_
      refine ⟨_, rfl, p4, _, _, _, rfl, rfl, h4, rfl, _, rfl, p3, _, _, _, rfl, rfl, h3e, rfl, _, _, rfl, rfl, ?_⟩
      have := le6 (by omega)
      show Q (.bl (decide ((fs3.length : Int) ≤ (fs4.length : Int)))) He
      rw [decide_eq_true (show (fs3.length : Int) ≤ (fs4.length : Int) by omega)]
      exact q _ hse f0e
theorem ok_law (T : Tx K mg) (c_l_hand : C8.Cal P w K mg base 1 "_law_hand" (spHand K) []) (c_l_take : C8.Cal P w K mg base 1 "_law_take" spTake []) (c_l_of : C8.Cal P w K mg base 2 "_law_of" (spOf K) []) (c_l_rounds : C8.Cal P w K mg base 3 "_law_rounds" (spRounds K) []) (c_l_scaled_right : CalG P w K mg base 5 "_law_scaled_right" (spScaled K)) (c_l_idle_right : C8.Cal P w K mg base 5 "_law_idle_right" (spIdle K) []) (c_l_harder_right : C8.Cal P w K mg base 5 "_law_harder_right" (spIdle K) []) : BodyAt P w K mg base "law" s_law N_law 5 (spLaw K) := by
  intro f cdv s H vs Q E hr h
  obtain ⟨a, ns, rfl, hS, hl, q⟩ := h
  have p18' : (10 : Int) ^ 18 = 1000000000000000000 := by decide
  refine ⟨_, (pss_cons (ps_for PassesOwn.never rfl (pi_range1 (by rfl) T.range (pa_cons (pe_op op_add pe_int (pe_callB (call_min2 rfl) (gl_of gl_law_min) T.min bb_min (pa_cons pe_int (pa_cons (pe_callB call_len_seq (gl_of gl_law_len) T.len bb_len (pa_cons (pv 0) pa_nil)) pa_nil)))) pa_nil)) (pg_name (i := 1) sc_law.nd rfl (Or.inl rfl)) (pss_cons (ps_set (i := 2) sc_law.nd rfl (Or.inl rfl) (C8.pe_c c_l_hand hr (by decide) (gl_of gl_law_l_hand) (pa_cons (pv 0) (pa_cons (pv 1) pa_nil))))
      (pss_cons (ps_set (i := 3) sc_law.nd rfl (Or.inl rfl) (C8.pe_c c_l_of hr (by decide) (gl_of gl_law_l_of) (pa_cons (pv 2) (pa_cons (pe_lst (pa_cons pe_int (pa_cons pe_int (pa_cons pe_int (pa_cons pe_int (pa_cons (C8.pe_c c_l_take hr (by decide) (gl_of gl_law_l_take) (pa_cons (pv 2) (pa_cons pe_int pa_nil))) pa_nil)))))) pa_nil))))
      (pss_cons (ps_set (i := 4) sc_law.nd rfl (Or.inl rfl) (C8.pe_c c_l_rounds hr (by decide) (gl_of gl_law_l_rounds) (pa_cons (pv 2) (pa_cons (C8.pe_c c_l_of hr (by decide) (gl_of gl_law_l_of) (pa_cons (pv 2) (pa_cons (pe_lst (pa_cons pe_int (pa_cons pe_int (pa_cons pe_int (pa_cons pe_int (pa_cons pe_int pa_nil)))))) pa_nil))) (pa_cons (pv 3) pa_nil)))))
      (pss_cons (ps_if (PW.pt (pw_or (pt_not (pt_val (pe_cG c_l_scaled_right (by rfl) hr (by decide) (gl_of gl_law_l_scaled_right) (pa_cons (pv 2) (pa_cons (pv 4) (pa_cons (pv 3) pa_nil)))))) (pw_or1 (pt_not (pt_val (C8.pe_c c_l_idle_right hr (by decide) (gl_of gl_law_l_idle_right) (pa_cons (pv 2) (pa_cons (pv 4) (pa_cons (pv 3) pa_nil))))))))) (pss_one (ps_ret pe_bl)) pss_nil)
      (pss_one (ps_if (pt_not (pt_val (C8.pe_c c_l_harder_right hr (by decide) (gl_of gl_law_l_harder_right) (pa_cons (pv 2) (pa_cons (pv 4) (pa_cons (pv 3) pa_nil)))))) (pss_one (ps_ret pe_bl)) pss_nil)))))))
      (pss_one (ps_ret pe_bl))), ?_⟩
  refine st_seq ?_
  refine ⟨_, rfl, a, _, rfl, .inl hS, _, _, rfl, _, _, rfl, rfl, _, rfl, ?_, ?_, ?_⟩
  · split <;> omega
  · rw [List.length_map]
    split <;> omega
  · refine for_range (lo := 0) (fun i σ H' => (∃ y1 y2 y3 y4, σ = [some (.ref a), y1, y2, y3, y4]) ∧ SqL K H' a (ns.map V.int)) ⟨⟨none, none, none, none, rfl⟩, hS⟩ (fun i σ H1 hi hP => ?_) (fun σ H1 hP => ?_)
    · obtain ⟨⟨y1, y2, y3, y4, rfl⟩, hS1⟩ := hP
      have hi2 : i ≤ 8 := by
        rw [List.length_map] at hi
        split at hi <;> omega
      refine st_seq ?_
      refine ⟨_, rfl, _, rfl, a, ns, i, ?_, hS1, by omega, fun p H2 np ke hs => ?_⟩
      · show [V.ref a, V.int (0 + (i : Int))] = _
        rw [Int.zero_add]
      have fr2 : Fr p H1 H2 := fun b o _ e => ke b o e
      -- limit
      refine st_seq ?_
      refine ⟨_, rfl, _, rfl, p, 40, 0, rfl, hs, (show 0 < 100000 by decide), by decide, by decide, fun d H3 d0 d1 hs3 f3 => ?_⟩
      refine ⟨(show 5 ≤ sizeLine by decide), fun l1 nl1 => ?_⟩
      refine ⟨p, l1, _, 1, rfl, hs3.new nl1, (show 1 < 100000 by decide), hs3.ne nl1, SqL.of upd_same, (show 0 < 5 by decide), (show 5 ≤ 1000 by decide), fun v H4 hv hs4 f4 => ?_⟩
      have hx : ∃ z : Int, v = .int z ∧ 0 ≤ z ∧ z ≤ 40 := by
        simp only [List.mem_cons, List.not_mem_nil, or_false] at hv
        rcases hv with rfl | rfl | rfl | rfl | rfl <;> exact ⟨_, rfl, by omega, by omega⟩
      obtain ⟨lm, rfl, lm0, lm1⟩ := hx
      have g4 : Fr p H1 H4 := fr2.trans (f3.trans ((Fr.new nl1).trans f4))
      -- rounds
      refine st_seq ?_
      refine ⟨_, rfl, _, rfl, (show 5 ≤ sizeLine by decide), fun l2 nl2 => ?_⟩
      refine ⟨p, l2, _, 2, rfl, hs4.new nl2, (show 2 < 100000 by decide), hs4.ne nl2, SqL.of upd_same, (show 0 < 5 by decide), (show 5 ≤ 1000 by decide), fun v H5 hv hs5 f5 => ?_⟩
      have hx : ∃ z : Nat, v = .int z ∧ z ≤ 20 := by
        simp only [List.mem_cons, List.not_mem_nil, or_false] at hv
        rcases hv with rfl | rfl | rfl | rfl | rfl
        · exact ⟨0, rfl, by decide⟩
        · exact ⟨1, rfl, by decide⟩
        · exact ⟨5, rfl, by decide⟩
        · exact ⟨12, rfl, by decide⟩
        · exact ⟨20, rfl, by decide⟩
      obtain ⟨n, rfl, hn⟩ := hx
      have g5 : Fr p H1 H5 := g4.trans ((Fr.new nl2).trans f5)
      refine ⟨_, rfl, p, n, lm, 3, rfl, hs5, (show 3 + 7 * n < 100000 by omega), by omega, lm0, by omega, fun r rs H6 hR lr br hs6 f6 => ?_⟩
      have g6 : Fr p H1 H6 := g5.trans f6
      have pos : ∀ r ∈ rs, 0 ≤ r.1 := fun r hr => (br r hr).1
      have br2 : ∀ r ∈ rs, 0 ≤ r.1 ∧ r.1 ≤ 100 ∧ 0 ≤ r.2 ∧ r.2 ≤ 200 := fun r hr => by
        obtain ⟨a1, a2, a3, a4⟩ := br r hr
        exact ⟨a1, by omega, a3, by omega⟩
      -- scaled, idle
      dsimp only [gName]
      refine st_seq ?_
      refine ⟨_, rfl, _, rfl, _, rfl, p, r, lm, 3 + 7 * n, rs, rfl, hR, by omega, br2, lm0, by omega, hs6, (show 3 + 7 * n + 30 < 100000 by omega), fun H7 hs7 f7 => ?_⟩
      refine ⟨_, rfl, ?_⟩
      refine iteF ?_
      have hR7 := hR.fr hs6 f7
      refine ⟨_, rfl, _, rfl, _, rfl, p, r, lm, 3 + 7 * n + 30, rs, rfl, hR7, by omega, pos, lm0, by omega, hs7, (show 3 + 7 * n + 30 + 10 < 100000 by omega), fun H8 hs8 f8 => ?_⟩
      refine ⟨_, rfl, ?_⟩
      refine iteF ?_
      have hR8 := hR7.fr hs7 f8
      -- harder
      dsimp only [gName, tNext]
      refine ⟨_, rfl, _, rfl, _, rfl, p, r, lm, 3 + 7 * n + 30 + 10, rs, rfl, hR8, by omega, pos, lm0, by omega, hs8, (show 3 + 7 * n + 30 + 10 + 10 < 100000 by omega), fun H9 hs9 f9 => ?_⟩
      refine ⟨_, rfl, ?_⟩
      refine iteF ?_
      exact ⟨⟨_, _, _, _, rfl⟩, seq_new hS1 np (g6.trans (f7.trans (f8.trans f9)))⟩
    · exact q _
end
/-! ### the head -/
theorem def0_mk {K : PySem.W.Frag} {h : Heap} {mg : Str → Option Value} {x : Str} {st : Stmt} {ps : List Str} (X : K.In h) (G : h.Ns mainGlobals mg) (g : (He.Fa.glo x).ok K = true)
    (F : ∃ fd, FunD K x x (defArgs st) (defBody st) (defScope st) [] [] (He.ga K x) fd)
    (hb : ∀ (kV doc pm : Value) (an : Option Addr) (cdv ct : Value) (us : List Value), us.length = ps.length → bindArgs (PySem.W.fnOf x x (defArgs st) (defBody st) (defScope st) .none kV doc pm an cdv ct) ⟨us, []⟩ = pure (ps.zip us)) : Def0 K mg x st ps := by
  obtain ⟨fd, F⟩ := F
  exact ⟨_, fd, F, He.glo_ok X G g, F.bindsN hb⟩
theorem defK_mk {K : PySem.W.Frag} {h : Heap} {mg : Str → Option Value} {x : Str} {st : Stmt} {ps : List Str} {n : Nat} {y : Str} {v : V} (X : K.In h) (G : h.Ns mainGlobals mg) (g : (He.Fa.glo x).ok K = true)
    (F : ∃ fd, FunD K x x (defArgs st) (defBody st) (defScope st) [] [(y, v)] (He.ga K x) fd) (hn : n + 1 = ps.length)
    (hb : ∀ (D : Addr) (doc pm : Value) (an : Option Addr) (cdv ct : Value) (us ks : List Value), us.length = n → ks.length = 1 →
      KwChain D (([y] : List Str).zip ks) (bindArgs (PySem.W.fnOf x x (defArgs st) (defBody st) (defScope st) .none (.ref D) doc pm an cdv ct) ⟨us, []⟩) (ps.zip (us ++ ks)))
    (hk : ∀ (kV doc pm : Value) (an : Option Addr) (cdv ct : Value) (us ws : List Value), us.length = n → ws.length = 1 →
      bindArgs (PySem.W.fnOf x x (defArgs st) (defBody st) (defScope st) .none kV doc pm an cdv ct) ⟨us, ([y] : List Str).zip ws⟩ = pure (ps.zip (us ++ ws))) : DefK K mg x st ps n [(y, v)] := by
  obtain ⟨fd, F⟩ := F
  refine ⟨_, fd, F, He.glo_ok X G g, F.binds0 n (by simp) hn hb, fun us ws => us ++ ws, ⟨fun s us ws _ l1 l2 => ?_, fun r1 r2 => r1.append r2⟩⟩
  obtain ⟨oc, od, dV, kV, doc, pm, an, cdv, ct, osl, rfl, lk, hcd, hD, hK⟩ := F.ex
  rcases hD with ⟨_, rfl⟩ | ⟨e, _⟩
  · exact .of_eq (hk kV doc pm an cdv ct us ws l1 l2)
  · exact absurd rfl e
theorem int_g {K : PySem.W.Frag} {h : Heap} {mg : Str → Option Value} {x : Str} {i : Int} (X : K.In h) (G : h.Ns mainGlobals mg) (g : (He.Fa.int x i).ok K = true) : ∃ u, mg x = some u ∧ RelV (.int i) u := by
  obtain ⟨t, e⟩ := He.int_ok X G g
  exact ⟨_, e, t, rfl⟩
def d_fewest : He.DefD := ⟨("fewest", none), "fewest", "fewest", defArgs s_fewest, defBody s_fewest, defScope s_fewest, [], [("room", .int 28)]⟩
def d_reached : He.DefD := ⟨("reached", none), "reached", "reached", defArgs s_reached, defBody s_reached, defScope s_reached, [], [("room", .int 28)]⟩
def d_passes : He.DefD := ⟨("passes", none), "passes", "passes", defArgs s_passes, defBody s_passes, defScope s_passes, [], [("room", .int 28)]⟩
def d_stages : He.DefD := ⟨("stages", none), "stages", "stages", defArgs s_stages, defBody s_stages, defScope s_stages, [], []⟩
def d_end : He.DefD := ⟨("end", none), "end", "end", defArgs s_end, defBody s_end, defScope s_end, [], []⟩
def d_l_hand : He.DefD := ⟨("_law_hand", none), "_law_hand", "_law_hand", defArgs s_l_hand, defBody s_l_hand, defScope s_l_hand, [], []⟩
def d_l_take : He.DefD := ⟨("_law_take", none), "_law_take", "_law_take", defArgs s_l_take, defBody s_l_take, defScope s_l_take, [], []⟩
def d_l_of : He.DefD := ⟨("_law_of", none), "_law_of", "_law_of", defArgs s_l_of, defBody s_l_of, defScope s_l_of, [], []⟩
def d_l_rounds : He.DefD := ⟨("_law_rounds", none), "_law_rounds", "_law_rounds", defArgs s_l_rounds, defBody s_l_rounds, defScope s_l_rounds, [], []⟩
def d_l_steps : He.DefD := ⟨("_law_steps", none), "_law_steps", "_law_steps", defArgs s_l_steps, defBody s_l_steps, defScope s_l_steps, [], []⟩
def d_l_passed : He.DefD := ⟨("_law_passed", none), "_law_passed", "_law_passed", defArgs s_l_passed, defBody s_l_passed, defScope s_l_passed, [], []⟩
def d_l_many : He.DefD := ⟨("_law_many", none), "_law_many", "_law_many", defArgs s_l_many, defBody s_l_many, defScope s_l_many, [], []⟩
def d_l_scaled_right : He.DefD := ⟨("_law_scaled_right", none), "_law_scaled_right", "_law_scaled_right", defArgs s_l_scaled_right, defBody s_l_scaled_right, defScope s_l_scaled_right, [], []⟩
def d_l_idle_right : He.DefD := ⟨("_law_idle_right", none), "_law_idle_right", "_law_idle_right", defArgs s_l_idle_right, defBody s_l_idle_right, defScope s_l_idle_right, [], []⟩
def d_l_harder_right : He.DefD := ⟨("_law_harder_right", none), "_law_harder_right", "_law_harder_right", defArgs s_l_harder_right, defBody s_l_harder_right, defScope s_l_harder_right, [], []⟩
def d_law : He.DefD := ⟨("law", none), "law", "law", defArgs s_law, defBody s_law, defScope s_law, [], []⟩
def fn : List He.DefD := [d_fewest, d_reached, d_passes, d_stages, d_end, d_l_hand, d_l_take, d_l_of, d_l_rounds, d_l_steps, d_l_passed, d_l_many, d_l_scaled_right, d_l_idle_right, d_l_harder_right, d_law]
--@ level 6
def fa : List He.Fa := [.glo "fewest", .glo "reached", .glo "passes", .glo "stages", .glo "end", .glo "_law_hand", .glo "_law_take", .glo "_law_of", .glo "_law_rounds", .glo "_law_steps", .glo "_law_passed", .glo "_law_many", .glo "_law_scaled_right", .glo "_law_idle_right", .glo "_law_harder_right", .glo "law", .int "STOP" 28] ++ freeNames.map .free
abbrev R : PySem.W.OpenRow := PySem.W.OpenLaw.row PySem.Challenge.rw_roundstore_k55_rounds_made_greater_and_h
abbrev hk : PySem.W.Hook := He.hookD 4 fa fn
def ob (s : PySem.W.SharedT) : He.AlD := He.obsDG 4 fa fn (HandSHeadRun.getT s)
theorem ob_eq (s : PySem.W.SharedT) : ob s = hk.obs s.abs := He.obsDG_eq (HandSHeadRun.getT_eq s)
theorem run (w : World) : HandSHeadRun.RunEq R (PySem.W.view R.prog [18]) hk ob 2000 ["STOP", "fewest", "reached", "passes", "stages", "end", "_law_hand", "_law_take", "_law_of", "_law_rounds", "_law_steps", "_law_passed", "_law_many", "_law_scaled_right", "_law_idle_right", "_law_harder_right"] w := by
  intro os
  kernel_rfl
theorem facts {P : Program} {w : World} {K : PySem.W.Frag} {h : Heap} {mg : Str → Option Value} {f : Addr} (X : K.In h) (G : h.Ns mainGlobals mg) (hfa : mg ("law" : Str) = some (.ref f)) (c : He.SaysD fa fn K) :
    ∃ fd : FuncData, (∀ (s : Shared) (v : Value), BindsTo s fd ⟨[v], []⟩ [("_law_script", v)]) ∧ ∀ base : Heap, K.In base → base.Ns mainGlobals mg → FnAt callerA P w K mg base CX0 6 f fd ["_law_script"] (spLaw K) := by
  have T : Tx K mg := tx_mk fun x hx => He.free_ok X G (by
    obtain ⟨i, hi, e⟩ := List.mem_iff_getElem.mp hx
    exact c.fact (17 + i) (f := .free x) (by
      show ([.glo "fewest", .glo "reached", .glo "passes", .glo "stages", .glo "end", .glo "_law_hand", .glo "_law_take", .glo "_law_of", .glo "_law_rounds", .glo "_law_steps", .glo "_law_passed", .glo "_law_many", .glo "_law_scaled_right", .glo "_law_idle_right", .glo "_law_harder_right", .glo "law", .int "STOP" 28] ++ freeNames.map He.Fa.free)[17 + i]? = _
      rw [List.getElem?_append_right (by show 17 ≤ _; omega)]
      show (freeNames.map He.Fa.free)[17 + i - 17]? = _
      rw [Nat.add_sub_cancel_left, List.getElem?_map, List.getElem?_eq_getElem hi, e]
      rfl))
  have g_STOP := int_g X G (c.fact 16 (f := .int "STOP" 28) rfl)
  have D_end : Def0 K mg "end" s_end ["rounds", "start", "steps", "room"] := def0_mk X G (c.fact 4 (f := .glo "end") rfl) (c.def_ 4 (d := d_end) rfl) fun _ _ _ _ _ _ us hl => match us, hl with | [_, _, _, _], _ => rfl
  have D_stages : Def0 K mg "stages" s_stages ["rounds", "room"] := def0_mk X G (c.fact 3 (f := .glo "stages") rfl) (c.def_ 3 (d := d_stages) rfl) fun _ _ _ _ _ _ us hl => match us, hl with | [_, _], _ => rfl
  have D_reached : DefK K mg "reached" s_reached ["rounds", "room"] 1 [("room", .int 28)] := defK_mk X G (c.fact 1 (f := .glo "reached") rfl) (c.def_ 1 (d := d_reached) rfl) rfl
    (fun _ _ _ _ _ _ us ks l1 l2 => match us, ks, l1, l2 with | [_], [_], _, _ => ⟨_, _, _, _, _, _, rfl, rfl, rfl⟩) (fun _ _ _ _ _ _ us ws l1 l2 => match us, ws, l1, l2 with | [_], [_], _, _ => rfl)
  have D_fewest : DefK K mg "fewest" s_fewest ["rounds", "room"] 1 [("room", .int 28)] := defK_mk X G (c.fact 0 (f := .glo "fewest") rfl) (c.def_ 0 (d := d_fewest) rfl) rfl
    (fun _ _ _ _ _ _ us ks l1 l2 => match us, ks, l1, l2 with | [_], [_], _, _ => ⟨_, _, _, _, _, _, rfl, rfl, rfl⟩) (fun _ _ _ _ _ _ us ws l1 l2 => match us, ws, l1, l2 with | [_], [_], _, _ => rfl)
  have D_passes : DefK K mg "passes" s_passes ["rounds", "some", "room"] 2 [("room", .int 28)] := defK_mk X G (c.fact 2 (f := .glo "passes") rfl) (c.def_ 2 (d := d_passes) rfl) rfl
    (fun _ _ _ _ _ _ us ks l1 l2 => match us, ks, l1, l2 with | [_, _], [_], _, _ => ⟨_, _, _, _, _, _, rfl, rfl, rfl⟩) (fun _ _ _ _ _ _ us ws l1 l2 => match us, ws, l1, l2 with | [_, _], [_], _, _ => rfl)
  have D_l_hand : Def0 K mg "_law_hand" s_l_hand ["_law_script", "_law_k"] := def0_mk X G (c.fact 5 (f := .glo "_law_hand") rfl) (c.def_ 5 (d := d_l_hand) rfl) fun _ _ _ _ _ _ us hl => match us, hl with | [_, _], _ => rfl
  have D_l_take : Def0 K mg "_law_take" s_l_take ["_law_hand_here", "_law_many_here"] := def0_mk X G (c.fact 6 (f := .glo "_law_take") rfl) (c.def_ 6 (d := d_l_take) rfl) fun _ _ _ _ _ _ us hl => match us, hl with | [_, _], _ => rfl
  have D_l_of : Def0 K mg "_law_of" s_l_of ["_law_hand_here", "_law_some"] := def0_mk X G (c.fact 7 (f := .glo "_law_of") rfl) (c.def_ 7 (d := d_l_of) rfl) fun _ _ _ _ _ _ us hl => match us, hl with | [_, _], _ => rfl
  have D_l_rounds : Def0 K mg "_law_rounds" s_l_rounds ["_law_hand_here", "_law_many_here", "_law_limit"] := def0_mk X G (c.fact 8 (f := .glo "_law_rounds") rfl) (c.def_ 8 (d := d_l_rounds) rfl) fun _ _ _ _ _ _ us hl => match us, hl with | [_, _, _], _ => rfl
  have D_l_steps : Def0 K mg "_law_steps" s_l_steps ["_law_rounds_here", "_law_some", "_law_limit"] := def0_mk X G (c.fact 9 (f := .glo "_law_steps") rfl) (c.def_ 9 (d := d_l_steps) rfl) fun _ _ _ _ _ _ us hl => match us, hl with | [_, _, _], _ => rfl
  have D_l_passed : Def0 K mg "_law_passed" s_l_passed ["_law_rounds_here", "_law_some", "_law_limit"] := def0_mk X G (c.fact 10 (f := .glo "_law_passed") rfl) (c.def_ 10 (d := d_l_passed) rfl) fun _ _ _ _ _ _ us hl => match us, hl with | [_, _, _], _ => rfl
  have D_l_many : Def0 K mg "_law_many" s_l_many ["_law_rounds_here", "_law_limit"] := def0_mk X G (c.fact 11 (f := .glo "_law_many") rfl) (c.def_ 11 (d := d_l_many) rfl) fun _ _ _ _ _ _ us hl => match us, hl with | [_, _], _ => rfl
  have D_l_scaled_right : Def0 K mg "_law_scaled_right" s_l_scaled_right ["_law_hand_here", "_law_rounds_here", "_law_limit"] := def0_mk X G (c.fact 12 (f := .glo "_law_scaled_right") rfl) (c.def_ 12 (d := d_l_scaled_right) rfl) fun _ _ _ _ _ _ us hl => match us, hl with | [_, _, _], _ => rfl
  have D_l_idle_right : Def0 K mg "_law_idle_right" s_l_idle_right ["_law_hand_here", "_law_rounds_here", "_law_limit"] := def0_mk X G (c.fact 13 (f := .glo "_law_idle_right") rfl) (c.def_ 13 (d := d_l_idle_right) rfl) fun _ _ _ _ _ _ us hl => match us, hl with | [_, _, _], _ => rfl
  have D_l_harder_right : Def0 K mg "_law_harder_right" s_l_harder_right ["_law_hand_here", "_law_rounds_here", "_law_limit"] := def0_mk X G (c.fact 14 (f := .glo "_law_harder_right") rfl) (c.def_ 14 (d := d_l_harder_right) rfl) fun _ _ _ _ _ _ us hl => match us, hl with | [_, _, _], _ => rfl
  obtain ⟨fd, F⟩ := c.def_ 15 (d := d_law) rfl
  have e := hfa.symm.trans (He.glo_ok X G (c.fact 15 (f := .glo "law") rfl))
  cases e
  have b := FunD.bindsA (ps := ["_law_script"]) F fun _ _ _ _ _ _ us hl => match us, hl with | [_], _ => rfl
  refine ⟨fd, fun s v => b s [v] rfl, fun base _ _ => ?_⟩
  have C_end := D_end.cal (P := P) (w := w) (base := base) (sp := spEnd K) sc_end (fun vs H Q E h => by first | (rcases h with ⟨_, _, _, _, rfl, _⟩ | ⟨_, _, _, _, rfl, _⟩ <;> rfl) | (obtain ⟨rfl, _⟩ := h; rfl) | (obtain ⟨_, rfl, _⟩ := h; rfl) | (obtain ⟨_, _, rfl, _⟩ := h; rfl) | (obtain ⟨_, _, _, rfl, _⟩ := h; rfl) | (obtain ⟨_, _, _, _, rfl, _⟩ := h; rfl) | (obtain ⟨_, _, _, _, _, rfl, _⟩ := h; rfl) | (obtain ⟨_, _, _, _, _, _, rfl, _⟩ := h; rfl) | (obtain ⟨_, _, _, _, _, _, _, rfl, _⟩ := h; rfl) | (obtain ⟨_, _, _, _, _, _, _, _, rfl, _⟩ := h; rfl) | (obtain ⟨_, _, _, _, _, _, _, _, _, rfl, _⟩ := h; rfl) | (obtain ⟨_, _, _, _, _, _, _, _, _, _, rfl, _⟩ := h; rfl) | (obtain ⟨_, _, _, _, _, _, _, _, _, _, _, rfl, _⟩ := h; rfl) | (obtain ⟨_, _, _, _, _, _, _, _, _, _, _, _, rfl, _⟩ := h; rfl) | (obtain ⟨_, _, _, _, _, _, _, _, _, _, _, _, _, rfl, _⟩ := h; rfl) | (obtain ⟨_, _, _, _, _, _, _, _, _, _, _, _, _, _, rfl, _⟩ := h; rfl) | (obtain ⟨_, _, _, _, _, _, _, _, _, _, _, _, _, _, _, rfl, _⟩ := h; rfl) | (obtain ⟨_, _, _, _, _, _, _, _, _, _, _, _, _, _, _, _, rfl, _⟩ := h; rfl) | (obtain ⟨_, _, _, _, _, _, _, _, _, _, _, _, _, _, _, _, _, rfl, _⟩ := h; rfl)) (ok_end T)
  have C_stages := D_stages.cal (P := P) (w := w) (base := base) (sp := spStages K) sc_stages (fun vs H Q E h => by first | (rcases h with ⟨_, _, _, _, rfl, _⟩ | ⟨_, _, _, _, rfl, _⟩ <;> rfl) | (obtain ⟨rfl, _⟩ := h; rfl) | (obtain ⟨_, rfl, _⟩ := h; rfl) | (obtain ⟨_, _, rfl, _⟩ := h; rfl) | (obtain ⟨_, _, _, rfl, _⟩ := h; rfl) | (obtain ⟨_, _, _, _, rfl, _⟩ := h; rfl) | (obtain ⟨_, _, _, _, _, rfl, _⟩ := h; rfl) | (obtain ⟨_, _, _, _, _, _, rfl, _⟩ := h; rfl) | (obtain ⟨_, _, _, _, _, _, _, rfl, _⟩ := h; rfl) | (obtain ⟨_, _, _, _, _, _, _, _, rfl, _⟩ := h; rfl) | (obtain ⟨_, _, _, _, _, _, _, _, _, rfl, _⟩ := h; rfl) | (obtain ⟨_, _, _, _, _, _, _, _, _, _, rfl, _⟩ := h; rfl) | (obtain ⟨_, _, _, _, _, _, _, _, _, _, _, rfl, _⟩ := h; rfl) | (obtain ⟨_, _, _, _, _, _, _, _, _, _, _, _, rfl, _⟩ := h; rfl) | (obtain ⟨_, _, _, _, _, _, _, _, _, _, _, _, _, rfl, _⟩ := h; rfl) | (obtain ⟨_, _, _, _, _, _, _, _, _, _, _, _, _, _, rfl, _⟩ := h; rfl) | (obtain ⟨_, _, _, _, _, _, _, _, _, _, _, _, _, _, _, rfl, _⟩ := h; rfl) | (obtain ⟨_, _, _, _, _, _, _, _, _, _, _, _, _, _, _, _, rfl, _⟩ := h; rfl) | (obtain ⟨_, _, _, _, _, _, _, _, _, _, _, _, _, _, _, _, _, rfl, _⟩ := h; rfl)) (ok_stages T C_end)
  obtain ⟨K_reached, C_reached⟩ := D_reached.ok (P := P) (w := w) (base := base) (sp := spReached K) sc_reached (fun vs H Q E h => by first | (rcases h with ⟨_, _, _, _, rfl, _⟩ | ⟨_, _, _, _, rfl, _⟩ <;> rfl) | (obtain ⟨rfl, _⟩ := h; rfl) | (obtain ⟨_, rfl, _⟩ := h; rfl) | (obtain ⟨_, _, rfl, _⟩ := h; rfl) | (obtain ⟨_, _, _, rfl, _⟩ := h; rfl) | (obtain ⟨_, _, _, _, rfl, _⟩ := h; rfl) | (obtain ⟨_, _, _, _, _, rfl, _⟩ := h; rfl) | (obtain ⟨_, _, _, _, _, _, rfl, _⟩ := h; rfl) | (obtain ⟨_, _, _, _, _, _, _, rfl, _⟩ := h; rfl) | (obtain ⟨_, _, _, _, _, _, _, _, rfl, _⟩ := h; rfl) | (obtain ⟨_, _, _, _, _, _, _, _, _, rfl, _⟩ := h; rfl) | (obtain ⟨_, _, _, _, _, _, _, _, _, _, rfl, _⟩ := h; rfl) | (obtain ⟨_, _, _, _, _, _, _, _, _, _, _, rfl, _⟩ := h; rfl) | (obtain ⟨_, _, _, _, _, _, _, _, _, _, _, _, rfl, _⟩ := h; rfl) | (obtain ⟨_, _, _, _, _, _, _, _, _, _, _, _, _, rfl, _⟩ := h; rfl) | (obtain ⟨_, _, _, _, _, _, _, _, _, _, _, _, _, _, rfl, _⟩ := h; rfl) | (obtain ⟨_, _, _, _, _, _, _, _, _, _, _, _, _, _, _, rfl, _⟩ := h; rfl) | (obtain ⟨_, _, _, _, _, _, _, _, _, _, _, _, _, _, _, _, rfl, _⟩ := h; rfl) | (obtain ⟨_, _, _, _, _, _, _, _, _, _, _, _, _, _, _, _, _, rfl, _⟩ := h; rfl)) (ok_reached T C_stages)
  obtain ⟨K_fewest, C_fewest⟩ := D_fewest.ok (P := P) (w := w) (base := base) (sp := spFewest K) sc_fewest (fun vs H Q E h => by first | (rcases h with ⟨_, _, _, _, rfl, _⟩ | ⟨_, _, _, _, rfl, _⟩ <;> rfl) | (obtain ⟨rfl, _⟩ := h; rfl) | (obtain ⟨_, rfl, _⟩ := h; rfl) | (obtain ⟨_, _, rfl, _⟩ := h; rfl) | (obtain ⟨_, _, _, rfl, _⟩ := h; rfl) | (obtain ⟨_, _, _, _, rfl, _⟩ := h; rfl) | (obtain ⟨_, _, _, _, _, rfl, _⟩ := h; rfl) | (obtain ⟨_, _, _, _, _, _, rfl, _⟩ := h; rfl) | (obtain ⟨_, _, _, _, _, _, _, rfl, _⟩ := h; rfl) | (obtain ⟨_, _, _, _, _, _, _, _, rfl, _⟩ := h; rfl) | (obtain ⟨_, _, _, _, _, _, _, _, _, rfl, _⟩ := h; rfl) | (obtain ⟨_, _, _, _, _, _, _, _, _, _, rfl, _⟩ := h; rfl) | (obtain ⟨_, _, _, _, _, _, _, _, _, _, _, rfl, _⟩ := h; rfl) | (obtain ⟨_, _, _, _, _, _, _, _, _, _, _, _, rfl, _⟩ := h; rfl) | (obtain ⟨_, _, _, _, _, _, _, _, _, _, _, _, _, rfl, _⟩ := h; rfl) | (obtain ⟨_, _, _, _, _, _, _, _, _, _, _, _, _, _, rfl, _⟩ := h; rfl) | (obtain ⟨_, _, _, _, _, _, _, _, _, _, _, _, _, _, _, rfl, _⟩ := h; rfl) | (obtain ⟨_, _, _, _, _, _, _, _, _, _, _, _, _, _, _, _, rfl, _⟩ := h; rfl) | (obtain ⟨_, _, _, _, _, _, _, _, _, _, _, _, _, _, _, _, _, rfl, _⟩ := h; rfl)) (ok_fewest T C_stages)
  obtain ⟨K_passes, C_passes⟩ := D_passes.ok (P := P) (w := w) (base := base) (sp := spPasses K) sc_passes (fun vs H Q E h => by first | (rcases h with ⟨_, _, _, _, rfl, _⟩ | ⟨_, _, _, _, rfl, _⟩ <;> rfl) | (obtain ⟨rfl, _⟩ := h; rfl) | (obtain ⟨_, rfl, _⟩ := h; rfl) | (obtain ⟨_, _, rfl, _⟩ := h; rfl) | (obtain ⟨_, _, _, rfl, _⟩ := h; rfl) | (obtain ⟨_, _, _, _, rfl, _⟩ := h; rfl) | (obtain ⟨_, _, _, _, _, rfl, _⟩ := h; rfl) | (obtain ⟨_, _, _, _, _, _, rfl, _⟩ := h; rfl) | (obtain ⟨_, _, _, _, _, _, _, rfl, _⟩ := h; rfl) | (obtain ⟨_, _, _, _, _, _, _, _, rfl, _⟩ := h; rfl) | (obtain ⟨_, _, _, _, _, _, _, _, _, rfl, _⟩ := h; rfl) | (obtain ⟨_, _, _, _, _, _, _, _, _, _, rfl, _⟩ := h; rfl) | (obtain ⟨_, _, _, _, _, _, _, _, _, _, _, rfl, _⟩ := h; rfl) | (obtain ⟨_, _, _, _, _, _, _, _, _, _, _, _, rfl, _⟩ := h; rfl) | (obtain ⟨_, _, _, _, _, _, _, _, _, _, _, _, _, rfl, _⟩ := h; rfl) | (obtain ⟨_, _, _, _, _, _, _, _, _, _, _, _, _, _, rfl, _⟩ := h; rfl) | (obtain ⟨_, _, _, _, _, _, _, _, _, _, _, _, _, _, _, rfl, _⟩ := h; rfl) | (obtain ⟨_, _, _, _, _, _, _, _, _, _, _, _, _, _, _, _, rfl, _⟩ := h; rfl) | (obtain ⟨_, _, _, _, _, _, _, _, _, _, _, _, _, _, _, _, _, rfl, _⟩ := h; rfl)) (ok_passes T)
  have C_l_hand := D_l_hand.cal (P := P) (w := w) (base := base) (sp := spHand K) sc_l_hand (fun vs H Q E h => by first | (rcases h with ⟨_, _, _, _, rfl, _⟩ | ⟨_, _, _, _, rfl, _⟩ <;> rfl) | (obtain ⟨rfl, _⟩ := h; rfl) | (obtain ⟨_, rfl, _⟩ := h; rfl) | (obtain ⟨_, _, rfl, _⟩ := h; rfl) | (obtain ⟨_, _, _, rfl, _⟩ := h; rfl) | (obtain ⟨_, _, _, _, rfl, _⟩ := h; rfl) | (obtain ⟨_, _, _, _, _, rfl, _⟩ := h; rfl) | (obtain ⟨_, _, _, _, _, _, rfl, _⟩ := h; rfl) | (obtain ⟨_, _, _, _, _, _, _, rfl, _⟩ := h; rfl) | (obtain ⟨_, _, _, _, _, _, _, _, rfl, _⟩ := h; rfl) | (obtain ⟨_, _, _, _, _, _, _, _, _, rfl, _⟩ := h; rfl) | (obtain ⟨_, _, _, _, _, _, _, _, _, _, rfl, _⟩ := h; rfl) | (obtain ⟨_, _, _, _, _, _, _, _, _, _, _, rfl, _⟩ := h; rfl) | (obtain ⟨_, _, _, _, _, _, _, _, _, _, _, _, rfl, _⟩ := h; rfl) | (obtain ⟨_, _, _, _, _, _, _, _, _, _, _, _, _, rfl, _⟩ := h; rfl) | (obtain ⟨_, _, _, _, _, _, _, _, _, _, _, _, _, _, rfl, _⟩ := h; rfl) | (obtain ⟨_, _, _, _, _, _, _, _, _, _, _, _, _, _, _, rfl, _⟩ := h; rfl) | (obtain ⟨_, _, _, _, _, _, _, _, _, _, _, _, _, _, _, _, rfl, _⟩ := h; rfl) | (obtain ⟨_, _, _, _, _, _, _, _, _, _, _, _, _, _, _, _, _, rfl, _⟩ := h; rfl)) (ok_hand T)
  have C_l_take := D_l_take.cal (P := P) (w := w) (base := base) (sp := spTake) sc_l_take (fun vs H Q E h => by first | (rcases h with ⟨_, _, _, _, rfl, _⟩ | ⟨_, _, _, _, rfl, _⟩ <;> rfl) | (obtain ⟨rfl, _⟩ := h; rfl) | (obtain ⟨_, rfl, _⟩ := h; rfl) | (obtain ⟨_, _, rfl, _⟩ := h; rfl) | (obtain ⟨_, _, _, rfl, _⟩ := h; rfl) | (obtain ⟨_, _, _, _, rfl, _⟩ := h; rfl) | (obtain ⟨_, _, _, _, _, rfl, _⟩ := h; rfl) | (obtain ⟨_, _, _, _, _, _, rfl, _⟩ := h; rfl) | (obtain ⟨_, _, _, _, _, _, _, rfl, _⟩ := h; rfl) | (obtain ⟨_, _, _, _, _, _, _, _, rfl, _⟩ := h; rfl) | (obtain ⟨_, _, _, _, _, _, _, _, _, rfl, _⟩ := h; rfl) | (obtain ⟨_, _, _, _, _, _, _, _, _, _, rfl, _⟩ := h; rfl) | (obtain ⟨_, _, _, _, _, _, _, _, _, _, _, rfl, _⟩ := h; rfl) | (obtain ⟨_, _, _, _, _, _, _, _, _, _, _, _, rfl, _⟩ := h; rfl) | (obtain ⟨_, _, _, _, _, _, _, _, _, _, _, _, _, rfl, _⟩ := h; rfl) | (obtain ⟨_, _, _, _, _, _, _, _, _, _, _, _, _, _, rfl, _⟩ := h; rfl) | (obtain ⟨_, _, _, _, _, _, _, _, _, _, _, _, _, _, _, rfl, _⟩ := h; rfl) | (obtain ⟨_, _, _, _, _, _, _, _, _, _, _, _, _, _, _, _, rfl, _⟩ := h; rfl) | (obtain ⟨_, _, _, _, _, _, _, _, _, _, _, _, _, _, _, _, _, rfl, _⟩ := h; rfl)) (ok_take T)
  have C_l_of := D_l_of.cal (P := P) (w := w) (base := base) (sp := spOf K) sc_l_of (fun vs H Q E h => by first | (rcases h with ⟨_, _, _, _, rfl, _⟩ | ⟨_, _, _, _, rfl, _⟩ <;> rfl) | (obtain ⟨rfl, _⟩ := h; rfl) | (obtain ⟨_, rfl, _⟩ := h; rfl) | (obtain ⟨_, _, rfl, _⟩ := h; rfl) | (obtain ⟨_, _, _, rfl, _⟩ := h; rfl) | (obtain ⟨_, _, _, _, rfl, _⟩ := h; rfl) | (obtain ⟨_, _, _, _, _, rfl, _⟩ := h; rfl) | (obtain ⟨_, _, _, _, _, _, rfl, _⟩ := h; rfl) | (obtain ⟨_, _, _, _, _, _, _, rfl, _⟩ := h; rfl) | (obtain ⟨_, _, _, _, _, _, _, _, rfl, _⟩ := h; rfl) | (obtain ⟨_, _, _, _, _, _, _, _, _, rfl, _⟩ := h; rfl) | (obtain ⟨_, _, _, _, _, _, _, _, _, _, rfl, _⟩ := h; rfl) | (obtain ⟨_, _, _, _, _, _, _, _, _, _, _, rfl, _⟩ := h; rfl) | (obtain ⟨_, _, _, _, _, _, _, _, _, _, _, _, rfl, _⟩ := h; rfl) | (obtain ⟨_, _, _, _, _, _, _, _, _, _, _, _, _, rfl, _⟩ := h; rfl) | (obtain ⟨_, _, _, _, _, _, _, _, _, _, _, _, _, _, rfl, _⟩ := h; rfl) | (obtain ⟨_, _, _, _, _, _, _, _, _, _, _, _, _, _, _, rfl, _⟩ := h; rfl) | (obtain ⟨_, _, _, _, _, _, _, _, _, _, _, _, _, _, _, _, rfl, _⟩ := h; rfl) | (obtain ⟨_, _, _, _, _, _, _, _, _, _, _, _, _, _, _, _, _, rfl, _⟩ := h; rfl)) (ok_of T C_l_take)
  have C_l_rounds := D_l_rounds.cal (P := P) (w := w) (base := base) (sp := spRounds K) sc_l_rounds (fun vs H Q E h => by first | (rcases h with ⟨_, _, _, _, rfl, _⟩ | ⟨_, _, _, _, rfl, _⟩ <;> rfl) | (obtain ⟨rfl, _⟩ := h; rfl) | (obtain ⟨_, rfl, _⟩ := h; rfl) | (obtain ⟨_, _, rfl, _⟩ := h; rfl) | (obtain ⟨_, _, _, rfl, _⟩ := h; rfl) | (obtain ⟨_, _, _, _, rfl, _⟩ := h; rfl) | (obtain ⟨_, _, _, _, _, rfl, _⟩ := h; rfl) | (obtain ⟨_, _, _, _, _, _, rfl, _⟩ := h; rfl) | (obtain ⟨_, _, _, _, _, _, _, rfl, _⟩ := h; rfl) | (obtain ⟨_, _, _, _, _, _, _, _, rfl, _⟩ := h; rfl) | (obtain ⟨_, _, _, _, _, _, _, _, _, rfl, _⟩ := h; rfl) | (obtain ⟨_, _, _, _, _, _, _, _, _, _, rfl, _⟩ := h; rfl) | (obtain ⟨_, _, _, _, _, _, _, _, _, _, _, rfl, _⟩ := h; rfl) | (obtain ⟨_, _, _, _, _, _, _, _, _, _, _, _, rfl, _⟩ := h; rfl) | (obtain ⟨_, _, _, _, _, _, _, _, _, _, _, _, _, rfl, _⟩ := h; rfl) | (obtain ⟨_, _, _, _, _, _, _, _, _, _, _, _, _, _, rfl, _⟩ := h; rfl) | (obtain ⟨_, _, _, _, _, _, _, _, _, _, _, _, _, _, _, rfl, _⟩ := h; rfl) | (obtain ⟨_, _, _, _, _, _, _, _, _, _, _, _, _, _, _, _, rfl, _⟩ := h; rfl) | (obtain ⟨_, _, _, _, _, _, _, _, _, _, _, _, _, _, _, _, _, rfl, _⟩ := h; rfl)) (ok_rounds T C_l_take C_l_of)
  have C_l_steps := D_l_steps.cal (P := P) (w := w) (base := base) (sp := spStepsL K) sc_l_steps (fun vs H Q E h => by first | (rcases h with ⟨_, _, _, _, rfl, _⟩ | ⟨_, _, _, _, rfl, _⟩ <;> rfl) | (obtain ⟨rfl, _⟩ := h; rfl) | (obtain ⟨_, rfl, _⟩ := h; rfl) | (obtain ⟨_, _, rfl, _⟩ := h; rfl) | (obtain ⟨_, _, _, rfl, _⟩ := h; rfl) | (obtain ⟨_, _, _, _, rfl, _⟩ := h; rfl) | (obtain ⟨_, _, _, _, _, rfl, _⟩ := h; rfl) | (obtain ⟨_, _, _, _, _, _, rfl, _⟩ := h; rfl) | (obtain ⟨_, _, _, _, _, _, _, rfl, _⟩ := h; rfl) | (obtain ⟨_, _, _, _, _, _, _, _, rfl, _⟩ := h; rfl) | (obtain ⟨_, _, _, _, _, _, _, _, _, rfl, _⟩ := h; rfl) | (obtain ⟨_, _, _, _, _, _, _, _, _, _, rfl, _⟩ := h; rfl) | (obtain ⟨_, _, _, _, _, _, _, _, _, _, _, rfl, _⟩ := h; rfl) | (obtain ⟨_, _, _, _, _, _, _, _, _, _, _, _, rfl, _⟩ := h; rfl) | (obtain ⟨_, _, _, _, _, _, _, _, _, _, _, _, _, rfl, _⟩ := h; rfl) | (obtain ⟨_, _, _, _, _, _, _, _, _, _, _, _, _, _, rfl, _⟩ := h; rfl) | (obtain ⟨_, _, _, _, _, _, _, _, _, _, _, _, _, _, _, rfl, _⟩ := h; rfl) | (obtain ⟨_, _, _, _, _, _, _, _, _, _, _, _, _, _, _, _, rfl, _⟩ := h; rfl) | (obtain ⟨_, _, _, _, _, _, _, _, _, _, _, _, _, _, _, _, _, rfl, _⟩ := h; rfl)) (ok_steps5 T)
  have C_l_passed := D_l_passed.cal (P := P) (w := w) (base := base) (sp := spPassed K) sc_l_passed (fun vs H Q E h => by first | (rcases h with ⟨_, _, _, _, rfl, _⟩ | ⟨_, _, _, _, rfl, _⟩ <;> rfl) | (obtain ⟨rfl, _⟩ := h; rfl) | (obtain ⟨_, rfl, _⟩ := h; rfl) | (obtain ⟨_, _, rfl, _⟩ := h; rfl) | (obtain ⟨_, _, _, rfl, _⟩ := h; rfl) | (obtain ⟨_, _, _, _, rfl, _⟩ := h; rfl) | (obtain ⟨_, _, _, _, _, rfl, _⟩ := h; rfl) | (obtain ⟨_, _, _, _, _, _, rfl, _⟩ := h; rfl) | (obtain ⟨_, _, _, _, _, _, _, rfl, _⟩ := h; rfl) | (obtain ⟨_, _, _, _, _, _, _, _, rfl, _⟩ := h; rfl) | (obtain ⟨_, _, _, _, _, _, _, _, _, rfl, _⟩ := h; rfl) | (obtain ⟨_, _, _, _, _, _, _, _, _, _, rfl, _⟩ := h; rfl) | (obtain ⟨_, _, _, _, _, _, _, _, _, _, _, rfl, _⟩ := h; rfl) | (obtain ⟨_, _, _, _, _, _, _, _, _, _, _, _, rfl, _⟩ := h; rfl) | (obtain ⟨_, _, _, _, _, _, _, _, _, _, _, _, _, rfl, _⟩ := h; rfl) | (obtain ⟨_, _, _, _, _, _, _, _, _, _, _, _, _, _, rfl, _⟩ := h; rfl) | (obtain ⟨_, _, _, _, _, _, _, _, _, _, _, _, _, _, _, rfl, _⟩ := h; rfl) | (obtain ⟨_, _, _, _, _, _, _, _, _, _, _, _, _, _, _, _, rfl, _⟩ := h; rfl) | (obtain ⟨_, _, _, _, _, _, _, _, _, _, _, _, _, _, _, _, _, rfl, _⟩ := h; rfl)) (ok_passed T C_l_steps)
  have C_l_many := D_l_many.cal (P := P) (w := w) (base := base) (sp := spMany K) sc_l_many (fun vs H Q E h => by first | (rcases h with ⟨_, _, _, _, rfl, _⟩ | ⟨_, _, _, _, rfl, _⟩ <;> rfl) | (obtain ⟨rfl, _⟩ := h; rfl) | (obtain ⟨_, rfl, _⟩ := h; rfl) | (obtain ⟨_, _, rfl, _⟩ := h; rfl) | (obtain ⟨_, _, _, rfl, _⟩ := h; rfl) | (obtain ⟨_, _, _, _, rfl, _⟩ := h; rfl) | (obtain ⟨_, _, _, _, _, rfl, _⟩ := h; rfl) | (obtain ⟨_, _, _, _, _, _, rfl, _⟩ := h; rfl) | (obtain ⟨_, _, _, _, _, _, _, rfl, _⟩ := h; rfl) | (obtain ⟨_, _, _, _, _, _, _, _, rfl, _⟩ := h; rfl) | (obtain ⟨_, _, _, _, _, _, _, _, _, rfl, _⟩ := h; rfl) | (obtain ⟨_, _, _, _, _, _, _, _, _, _, rfl, _⟩ := h; rfl) | (obtain ⟨_, _, _, _, _, _, _, _, _, _, _, rfl, _⟩ := h; rfl) | (obtain ⟨_, _, _, _, _, _, _, _, _, _, _, _, rfl, _⟩ := h; rfl) | (obtain ⟨_, _, _, _, _, _, _, _, _, _, _, _, _, rfl, _⟩ := h; rfl) | (obtain ⟨_, _, _, _, _, _, _, _, _, _, _, _, _, _, rfl, _⟩ := h; rfl) | (obtain ⟨_, _, _, _, _, _, _, _, _, _, _, _, _, _, _, rfl, _⟩ := h; rfl) | (obtain ⟨_, _, _, _, _, _, _, _, _, _, _, _, _, _, _, _, rfl, _⟩ := h; rfl) | (obtain ⟨_, _, _, _, _, _, _, _, _, _, _, _, _, _, _, _, _, rfl, _⟩ := h; rfl)) (ok_many T C_l_passed K_fewest)
  have C_l_scaled_right := D_l_scaled_right.calG (P := P) (w := w) (base := base) (sp := spScaled K) sc_l_scaled_right (fun vs H Q E h => by first | (rcases h with ⟨_, _, _, _, rfl, _⟩ | ⟨_, _, _, _, rfl, _⟩ <;> rfl) | (obtain ⟨rfl, _⟩ := h; rfl) | (obtain ⟨_, rfl, _⟩ := h; rfl) | (obtain ⟨_, _, rfl, _⟩ := h; rfl) | (obtain ⟨_, _, _, rfl, _⟩ := h; rfl) | (obtain ⟨_, _, _, _, rfl, _⟩ := h; rfl) | (obtain ⟨_, _, _, _, _, rfl, _⟩ := h; rfl) | (obtain ⟨_, _, _, _, _, _, rfl, _⟩ := h; rfl) | (obtain ⟨_, _, _, _, _, _, _, rfl, _⟩ := h; rfl) | (obtain ⟨_, _, _, _, _, _, _, _, rfl, _⟩ := h; rfl) | (obtain ⟨_, _, _, _, _, _, _, _, _, rfl, _⟩ := h; rfl) | (obtain ⟨_, _, _, _, _, _, _, _, _, _, rfl, _⟩ := h; rfl) | (obtain ⟨_, _, _, _, _, _, _, _, _, _, _, rfl, _⟩ := h; rfl) | (obtain ⟨_, _, _, _, _, _, _, _, _, _, _, _, rfl, _⟩ := h; rfl) | (obtain ⟨_, _, _, _, _, _, _, _, _, _, _, _, _, rfl, _⟩ := h; rfl) | (obtain ⟨_, _, _, _, _, _, _, _, _, _, _, _, _, _, rfl, _⟩ := h; rfl) | (obtain ⟨_, _, _, _, _, _, _, _, _, _, _, _, _, _, _, rfl, _⟩ := h; rfl) | (obtain ⟨_, _, _, _, _, _, _, _, _, _, _, _, _, _, _, _, rfl, _⟩ := h; rfl) | (obtain ⟨_, _, _, _, _, _, _, _, _, _, _, _, _, _, _, _, _, rfl, _⟩ := h; rfl)) (ok_scaled T C_l_take C_l_of C_l_many K_reached K_passes)
  have C_l_idle_right := D_l_idle_right.cal (P := P) (w := w) (base := base) (sp := spIdle K) sc_l_idle_right (fun vs H Q E h => by first | (rcases h with ⟨_, _, _, _, rfl, _⟩ | ⟨_, _, _, _, rfl, _⟩ <;> rfl) | (obtain ⟨rfl, _⟩ := h; rfl) | (obtain ⟨_, rfl, _⟩ := h; rfl) | (obtain ⟨_, _, rfl, _⟩ := h; rfl) | (obtain ⟨_, _, _, rfl, _⟩ := h; rfl) | (obtain ⟨_, _, _, _, rfl, _⟩ := h; rfl) | (obtain ⟨_, _, _, _, _, rfl, _⟩ := h; rfl) | (obtain ⟨_, _, _, _, _, _, rfl, _⟩ := h; rfl) | (obtain ⟨_, _, _, _, _, _, _, rfl, _⟩ := h; rfl) | (obtain ⟨_, _, _, _, _, _, _, _, rfl, _⟩ := h; rfl) | (obtain ⟨_, _, _, _, _, _, _, _, _, rfl, _⟩ := h; rfl) | (obtain ⟨_, _, _, _, _, _, _, _, _, _, rfl, _⟩ := h; rfl) | (obtain ⟨_, _, _, _, _, _, _, _, _, _, _, rfl, _⟩ := h; rfl) | (obtain ⟨_, _, _, _, _, _, _, _, _, _, _, _, rfl, _⟩ := h; rfl) | (obtain ⟨_, _, _, _, _, _, _, _, _, _, _, _, _, rfl, _⟩ := h; rfl) | (obtain ⟨_, _, _, _, _, _, _, _, _, _, _, _, _, _, rfl, _⟩ := h; rfl) | (obtain ⟨_, _, _, _, _, _, _, _, _, _, _, _, _, _, _, rfl, _⟩ := h; rfl) | (obtain ⟨_, _, _, _, _, _, _, _, _, _, _, _, _, _, _, _, rfl, _⟩ := h; rfl) | (obtain ⟨_, _, _, _, _, _, _, _, _, _, _, _, _, _, _, _, _, rfl, _⟩ := h; rfl)) (ok_idle T C_l_take C_l_of C_l_many)
  have C_l_harder_right := D_l_harder_right.cal (P := P) (w := w) (base := base) (sp := spIdle K) sc_l_harder_right (fun vs H Q E h => by first | (rcases h with ⟨_, _, _, _, rfl, _⟩ | ⟨_, _, _, _, rfl, _⟩ <;> rfl) | (obtain ⟨rfl, _⟩ := h; rfl) | (obtain ⟨_, rfl, _⟩ := h; rfl) | (obtain ⟨_, _, rfl, _⟩ := h; rfl) | (obtain ⟨_, _, _, rfl, _⟩ := h; rfl) | (obtain ⟨_, _, _, _, rfl, _⟩ := h; rfl) | (obtain ⟨_, _, _, _, _, rfl, _⟩ := h; rfl) | (obtain ⟨_, _, _, _, _, _, rfl, _⟩ := h; rfl) | (obtain ⟨_, _, _, _, _, _, _, rfl, _⟩ := h; rfl) | (obtain ⟨_, _, _, _, _, _, _, _, rfl, _⟩ := h; rfl) | (obtain ⟨_, _, _, _, _, _, _, _, _, rfl, _⟩ := h; rfl) | (obtain ⟨_, _, _, _, _, _, _, _, _, _, rfl, _⟩ := h; rfl) | (obtain ⟨_, _, _, _, _, _, _, _, _, _, _, rfl, _⟩ := h; rfl) | (obtain ⟨_, _, _, _, _, _, _, _, _, _, _, _, rfl, _⟩ := h; rfl) | (obtain ⟨_, _, _, _, _, _, _, _, _, _, _, _, _, rfl, _⟩ := h; rfl) | (obtain ⟨_, _, _, _, _, _, _, _, _, _, _, _, _, _, rfl, _⟩ := h; rfl) | (obtain ⟨_, _, _, _, _, _, _, _, _, _, _, _, _, _, _, rfl, _⟩ := h; rfl) | (obtain ⟨_, _, _, _, _, _, _, _, _, _, _, _, _, _, _, _, rfl, _⟩ := h; rfl) | (obtain ⟨_, _, _, _, _, _, _, _, _, _, _, _, _, _, _, _, _, rfl, _⟩ := h; rfl)) (ok_harder T C_l_take C_l_many K_reached)
  refine fnat_of (CX := CX0) F sc_law (fun vs H Q E h => by first | (rcases h with ⟨_, _, _, _, rfl, _⟩ | ⟨_, _, _, _, rfl, _⟩ <;> rfl) | (obtain ⟨rfl, _⟩ := h; rfl) | (obtain ⟨_, rfl, _⟩ := h; rfl) | (obtain ⟨_, _, rfl, _⟩ := h; rfl) | (obtain ⟨_, _, _, rfl, _⟩ := h; rfl) | (obtain ⟨_, _, _, _, rfl, _⟩ := h; rfl) | (obtain ⟨_, _, _, _, _, rfl, _⟩ := h; rfl) | (obtain ⟨_, _, _, _, _, _, rfl, _⟩ := h; rfl) | (obtain ⟨_, _, _, _, _, _, _, rfl, _⟩ := h; rfl) | (obtain ⟨_, _, _, _, _, _, _, _, rfl, _⟩ := h; rfl) | (obtain ⟨_, _, _, _, _, _, _, _, _, rfl, _⟩ := h; rfl) | (obtain ⟨_, _, _, _, _, _, _, _, _, _, rfl, _⟩ := h; rfl) | (obtain ⟨_, _, _, _, _, _, _, _, _, _, _, rfl, _⟩ := h; rfl) | (obtain ⟨_, _, _, _, _, _, _, _, _, _, _, _, rfl, _⟩ := h; rfl) | (obtain ⟨_, _, _, _, _, _, _, _, _, _, _, _, _, rfl, _⟩ := h; rfl) | (obtain ⟨_, _, _, _, _, _, _, _, _, _, _, _, _, _, rfl, _⟩ := h; rfl) | (obtain ⟨_, _, _, _, _, _, _, _, _, _, _, _, _, _, _, rfl, _⟩ := h; rfl) | (obtain ⟨_, _, _, _, _, _, _, _, _, _, _, _, _, _, _, _, rfl, _⟩ := h; rfl) | (obtain ⟨_, _, _, _, _, _, _, _, _, _, _, _, _, _, _, _, _, rfl, _⟩ := h; rfl)) (fun cdv s H vs Q E hr h => ?_)
  obtain ⟨t, h1, h2⟩ := ok_law (P := P) (w := w) (base := base) T C_l_hand C_l_take C_l_of C_l_rounds C_l_scaled_right C_l_idle_right C_l_harder_right _ cdv s H vs Q E hr h
  exact ⟨t, h1.nox, h2⟩
end Rd
open PySem PySem.W PySem.Calls PyProof.Rows
theorem PySem.Challenge.cw_roundstore_k55_rounds_made_greater_and_h_holds : PySem.Challenge.rw_roundstore_k55_rounds_made_greater_and_h.Holds := by
  w_on; o_law
  refine HandSHeadRun.head_any (r := OpenLaw.row PySem.Challenge.rw_roundstore_k55_rounds_made_greater_and_h) (q := view (OpenLaw.row PySem.Challenge.rw_roundstore_k55_rounds_made_greater_and_h).prog [18]) (H := Rd.hk) (ob := Rd.ob) (M := 2000) (loose := ["STOP", "fewest", "reached", "passes", "stages", "end", "_law_hand", "_law_take", "_law_of", "_law_rounds", "_law_steps", "_law_passed", "_law_many", "_law_scaled_right", "_law_idle_right", "_law_harder_right"]) (d := HandSHeadRun.topDef (OpenLaw.row PySem.Challenge.rw_roundstore_k55_rounds_made_greater_and_h).prog 18) (kwd := []) Rd.ob_eq
    (by kernel_rfl) (fun s => by kernel_rfl) Rd.run (by kernel_rfl) (by kernel_rfl) (by kernel_rfl) (by rfl) (by first | assumption | decide +kernel) (by decide +kernel) ⟨rfl, rfl, rfl, rfl, rfl, by decide +kernel⟩ ?hw ?hc
  case hw => w_witness2
  case hc =>
    refine L2.walk_at (l := PySem.Challenge.rw_roundstore_k55_rounds_made_greater_and_h) (n := 63) (k := 6) (x := "_law_script") rfl (by decide) (by kernel_rfl) ⟨rfl, by decide, by decide⟩ ?F
    intro w mg fa h Y G hmg0
    obtain ⟨K, KX, c⟩ := Y
    have hmg : mg ("law" : PySem.Str) = some (.ref fa) := by
      have e : (HandSHeadRun.topDef (OpenLaw.row PySem.Challenge.rw_roundstore_k55_rounds_made_greater_and_h).prog 18).name = ("law" : PySem.Str) := by kernel_rfl
      rw [← e]
      exact hmg0
    obtain ⟨fd, hb, hF⟩ := Rd.facts (P := (PySem.Challenge.rw_roundstore_k55_rounds_made_greater_and_h).prog) (w := w) KX G hmg c
    exact ⟨K, fd, Rd.spLaw K, KX, hb, fun H a ns hl _ hS => ⟨a, ns, rfl, hS, hl, fun _ => rfl⟩, hF⟩
