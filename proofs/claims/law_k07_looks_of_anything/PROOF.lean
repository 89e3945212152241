import PyProof.Rows.All
import Wide.All
import OpenK.AllK
import Wide.FinOn
import KE.KStateDown
import KE.KDictPairs
import KE.KDictZip
import HandS.Star
import HandS.ForMost
import HandS.More
import HandS.Conv
import HandS.Flow
import HandS.Style
import HandS.Steps
import HandS.Codes
import HandS.IsInst
import HandS.TupAny
import HandS.NoneIn
import HandS.RaiseMore
import HandS.SortInts
import HandS.SetFor
import HandS.Strs
import HandS.Wide
import HandS.WordsExc
import HandS.Defaults
import HandS.Head0
import HandS.Head1
import HandS.Head2
import HandS.HeadEnd
import HandS.HeadHook1
import HandS.HeadHook2
import PySem.Challenge.RW_roundstore_k07_looks_of_anything
set_option Elab.async false
set_option linter.all false
set_option maxRecDepth 100000
set_option maxHeartbeats 8000000
/-! ### list(zip(xs, ys)) -/
namespace PySem.ZL
open PySem PySem.Calls PyProof.Rows PyProof.V PySem.Spec
theorem no_len : typeLookup (.type "zip") "__len__" = pure none := by rw [typeLookup_type, builtinLookup_eq_fast]; kernel_rfl
theorem no_hint : typeLookup (.type "zip") "__length_hint__" = pure none := by rw [typeLookup_type, builtinLookup_eq_fast]; kernel_rfl
def ZSt (h : Heap) (z TI TO i1 i2 l1 l2 S : Addr) (i : Nat) : Prop := PySem.IsPair h TI (.ref i1) (.ref i2) ∧ h.IsListIter i1 l1 i ∧ h.IsListIter i2 l2 i ∧ ((PySem.IsZip h z TI TO .none ∧ ∃ a b, PySem.IsPair h TO a b) ∨ ∃ T f oT, PySem.IsZipHeld h z TI TO T f ∧ h.get? T = some oT ∧ T ≠ z ∧ T ≠ i1 ∧ T ≠ i2 ∧ T ≠ S)
structure Gp (xs ys : Array Value) (lo : Addr) (h : Heap) (as : List Addr) : Prop where
  rise : as.Pairwise (· < ·)
  above : ∀ a ∈ as, lo < a
  pairs : ∀ (j : Nat) (a : Addr), as[j]? = some a → ∃ x y, xs[j]? = some x ∧ ys[j]? = some y ∧ PySem.IsPair h a x y
structure Below (S z TI TO i1 i2 l1 l2 : Addr) : Prop where
  z : z < S
  TI : TI < S
  TO : TO < S
  i1 : i1 < S
  i2 : i2 < S
  l1 : l1 < S
  l2 : l2 < S
theorem ZSt.keep {h h' : Heap} {z TI TO i1 i2 l1 l2 S : Addr} {i : Nat} (B : Below S z TI TO i1 i2 l1 l2) (x : ZSt h z TI TO i1 i2 l1 l2 S i) (hk : ∀ b o, b ≠ S → h.get? b = some o → h'.get? b = some o) : ZSt h' z TI TO i1 i2 l1 l2 S i := by
  obtain ⟨h1, h2, h3, h4⟩ := x
  refine ⟨hk _ _ (Nat.ne_of_lt B.TI) h1, h2.at fun o e => hk _ o (Nat.ne_of_lt B.i1) e, h3.at fun o e => hk _ o (Nat.ne_of_lt B.i2) e, ?_⟩
  rcases h4 with ⟨hz, a, b, ho⟩ | ⟨T, f, oT, hz, hT, n1, n2, n3, n4⟩
  · exact .inl ⟨hk _ _ (Nat.ne_of_lt B.z) hz, a, b, hk _ _ (Nat.ne_of_lt B.TO) ho⟩
  · exact .inr ⟨T, f, oT, hk _ _ (Nat.ne_of_lt B.z) hz, hk _ _ n4 hT, n1, n2, n3, n4⟩
section
variable {prog : Program} {w : World} {A : Around} {E : Value → Shared → Prop} {s : Shared} {z TI TO i1 i2 l1 l2 S : Addr} {i : Nat} {xs ys : Array Value}
theorem item {x y : Value} {Q : Option Value → Shared → Prop} (D : PySem.ZipApart z TI TO i1 i2 l1 l2) (B : Below S z TI TO i1 i2 l1 l2) (hst : ZSt s.heap z TI TO i1 i2 l1 l2 S i) (hS : S < s.heap.objs.size) (hl1 : s.heap.IsList l1 xs) (hl2 : s.heap.IsList l2 ys) (hx : xs[i]? = some x) (hy : ys[i]? = some y)
    (hQ : ∀ h', ZSt h' z TI TO i1 i2 l1 l2 S (i + 1) → PySem.IsPair h' s.heap.objs.size x y → h'.objs.size = s.heap.objs.size + 1 → (∀ c o, c ≠ z → c ≠ TO → c ≠ i1 → c ≠ i2 → s.heap.get? c = some o → h'.get? c = some o) → Q (some (.ref s.heap.objs.size)) { s with heap := h' }) :
    wpAny (model prog w) A (pyNext (.ref z)) Q E s := by
  obtain ⟨h1, h2, h3, h4⟩ := hst
  have bz := B.z
  have b1 := B.i1
  have b2 := B.i2
  rcases h4 with ⟨hz, a, b, ho⟩ | ⟨T, f, oT, hz, hT, n1, n2, n3, n4⟩
  · refine PySem.wpAny_pyNext_zip_item D hz h1 ho h2 h3 hl1 hl2 hx hy fun h' a1 a2 a3 a4 a5 a6 hk => hQ h' ⟨hk _ _ D.TIz D.TITO D.TIi1 D.TIi2 h1, a3, a4, .inr ⟨_, false, _, a1, a5, ?_, ?_, ?_, ?_⟩⟩ a5 a6 hk
    · exact Nat.ne_of_gt (Nat.lt_trans bz hS)
    · exact Nat.ne_of_gt (Nat.lt_trans b1 hS)
    · exact Nat.ne_of_gt (Nat.lt_trans b2 hS)
    · exact Nat.ne_of_gt hS
  · exact PySem.wpAny_pyNext_zip_item_held D hz hT h1 h2 h3 hl1 hl2 hx hy fun h' a1 a3 a4 a5 a6 hk => hQ h' ⟨hk _ _ D.TIz D.TIi1 D.TIi2 h1, a3, a4, .inr ⟨T, true, oT, a1, hk _ _ n1 n2 n3 hT, n1, n2, n3, n4⟩⟩ a5 a6 fun c o c1 _ c3 c4 e => hk c o c1 c3 c4 e
theorem done {Q : Option Value → Shared → Prop} (hh : A.handled = none) (D : PySem.ZipApart z TI TO i1 i2 l1 l2) (hst : ZSt s.heap z TI TO i1 i2 l1 l2 S i) (hl1 : s.heap.IsList l1 xs) (hl2 : s.heap.IsList l2 ys) (hend : xs[i]? = none ∨ ys[i]? = none)
    (hQ : ∀ h', (∀ c o, c ≠ z → c ≠ TO → c ≠ i1 → c ≠ i2 → s.heap.get? c = some o → h'.get? c = some o) → Q none { s with heap := h' }) : wpAny (model prog w) A (pyNext (.ref z)) Q E s := by
  obtain ⟨h1, h2, h3, h4⟩ := hst
  rcases h4 with ⟨hz, a, b, ho⟩ | ⟨T, f, oT, hz, hT, _⟩
  · exact PySem.wpAny_pyNext_zip_end hh D hz h1 ho h2 h3 hl1 hl2 hend hQ
  · exact PySem.wpAny_pyNext_zip_end_held hh D hz hT h1 h2 h3 hl1 hl2 hend fun h' hk => hQ h' fun c o c1 _ c3 c4 e => hk c o c1 c3 c4 e
end
section
variable {prog : Program} {w : World} {A : Around} {s : Shared} {R : Result → Shared → Prop} {z TI TO i1 i2 l1 l2 S : Addr} {xs ys : Array Value} {n : Nat}
theorem loop (hn0 : n = min xs.size ys.size) (D : PySem.ZipApart z TI TO i1 i2 l1 l2) (B : Below S z TI TO i1 i2 l1 l2) (hh : A.handled = none) (hn : n ≤ sizeLine) (res : Value) {h₁ : Heap}
    (hR : ∀ h' tk acc c as, (∀ b o, b ≠ S → b ≠ z → b ≠ TO → b ≠ i1 → b ≠ i2 → h₁.get? b = some o → h'.get? b = some o) → h'.get? S = some { cls := .type "list", dict := none, data := .seq acc c, slots := #[] } → as.length = n → Gp xs ys S h' as →
      acc.toList = as.map Value.ref → R (.ok (.ret res)) { s with heap := h', toks := tk }) :
    ∀ (k i : Nat) (h : Heap) (tk c : Nat) (acc : Array Value) (as : List Addr), n - i = k → i ≤ n → ZSt h z TI TO i1 i2 l1 l2 S i → h.IsList l1 xs → h.IsList l2 ys → (∀ b o, b ≠ S → b ≠ z → b ≠ TO → b ≠ i1 → b ≠ i2 → h₁.get? b = some o → h.get? b = some o) →
      h.get? S = some { cls := .type "list", dict := none, data := .seq acc c, slots := #[] } → acc.toList = as.map Value.ref → as.length = i → Gp xs ys S h as →
      codeAny (model prog w) A (.builtin "list.extend.loop" ⟨[.ref S, .ref z, res], []⟩) R { s with heap := h, toks := tk } := by
  have nz := Nat.ne_of_gt B.z
  have nTO := Nat.ne_of_gt B.TO
  have n1 := Nat.ne_of_gt B.i1
  have n2 := Nat.ne_of_gt B.i2
  intro k
  induction k with
  | zero =>
    intro i h tk c acc as hk hi hst hl1 hl2 hkeep hS hacc hal hG
    have hin : i = n := by omega
    refine codeAny_builtin PySem.F.entry_extend_loop ?_
    rw [Around.under_plainId PySem.F.plain_extend_loop _]
    show wpAny _ A.in1 (pyNext (.ref z) >>= _) _ _ _
    have hend : xs[i]? = none ∨ ys[i]? = none := by
      rcases Nat.le_total xs.size ys.size with c1 | c1
      · exact .inl (Array.getElem?_eq_none (by omega))
      · exact .inr (Array.getElem?_eq_none (by omega))
    refine wpAny_bind (done (s := { s with heap := h, toks := tk }) (A := A.in1) hh D hst hl1 hl2 hend fun h' he => ?_)
    refine wpAny_pure (hR h' tk acc c as (fun b o c0 c1 c2 c3 c4 e => he b o c1 c2 c3 c4 (hkeep b o c0 c1 c2 c3 c4 e)) (he S _ nz nTO n1 n2 hS) (by omega) ⟨hG.rise, hG.above, fun j a hj => ?_⟩ hacc)
    obtain ⟨x, y, e1, e2, e3⟩ := hG.pairs j a hj
    have ha := hG.above a (List.mem_of_getElem? hj)
    exact ⟨x, y, e1, e2, he a _ (Nat.ne_of_gt (Nat.lt_trans B.z ha)) (Nat.ne_of_gt (Nat.lt_trans B.TO ha)) (Nat.ne_of_gt (Nat.lt_trans B.i1 ha)) (Nat.ne_of_gt (Nat.lt_trans B.i2 ha)) e3⟩
  | succ k ih =>
    intro i h tk c acc as hk hi hst hl1 hl2 hkeep hS hacc hal hG
    have hlt : i < n := by omega
    have hx1 : i < xs.size := by omega
    have hy1 : i < ys.size := by omega
    have hsz : acc.size = i := by rw [← Array.length_toList, hacc, List.length_map, hal]
    have hSl : S < h.objs.size := Heap.lt_size hS
    refine codeAny_builtin PySem.F.entry_extend_loop ?_
    rw [Around.under_plainId PySem.F.plain_extend_loop _]
    show wpAny _ A.in1 (pyNext (.ref z) >>= _) _ _ _
    refine wpAny_bind (item (s := { s with heap := h, toks := tk }) (S := S) D B hst hSl hl1 hl2 (Array.getElem?_eq_getElem hx1) (Array.getElem?_eq_getElem hy1) fun h' hst' ht hz hkp => ?_)
    dsimp only at ht hz hkp ⊢
    have hS' := hkp S _ nz nTO n1 n2 hS
    have up : ∀ b o, b ≠ S → h'.get? b = some o → (h'.update S (Obj.mapSeq (·.push (Value.ref h.objs.size)))).get? b = some o := fun b o hb e => (Heap.get?_update_other _ _ (Ne.symm hb)).trans e
    show wpAny _ A.in1 (updateSeq S (·.push (Value.ref h.objs.size)) >>= _) _ _ _
    refine wpAny_bind ?_
    refine wpAny_updateSeq hS' rfl (wpAny_pure ⟨plainId_quiet PySem.F.plain_extend_loop _, ih (i + 1) _ tk _ (acc.push (Value.ref h.objs.size)) (as ++ [h.objs.size]) (by omega) hlt (hst'.keep B up)
      (hl1.at fun o e => up _ o (Nat.ne_of_lt B.l1) (hkp _ o D.l1z D.l1TO D.l1i1 D.l1i2 e)) (hl2.at fun o e => up _ o (Nat.ne_of_lt B.l2) (hkp _ o D.l2z D.l2TO D.l2i1 D.l2i2 e))
      (fun b o c0 c1 c2 c3 c4 e => up b o c0 (hkp b o c1 c2 c3 c4 (hkeep b o c0 c1 c2 c3 c4 e))) (Heap.get?_update_self _ hS' rfl) (by rw [Array.toList_push, hacc, List.map_append]; rfl) (by rw [List.length_append, hal]; rfl) ⟨?_, ?_, ?_⟩⟩) (by rw [hsz]; omega) (by show (acc.push (Value.ref h.objs.size)).size ≤ sizeLine + 1; rw [Array.size_push, hsz]; omega)
    · refine List.pairwise_append.mpr ⟨hG.rise, List.pairwise_singleton _ _, fun a ha b hb => ?_⟩
      rw [List.mem_singleton.mp hb]
      obtain ⟨j, hj⟩ := List.mem_iff_getElem?.mp ha
      obtain ⟨_, _, _, _, e⟩ := hG.pairs j a hj
      exact Heap.lt_size e
    · intro a ha
      rcases List.mem_append.mp ha with ha | ha
      · exact hG.above a ha
      · rw [List.mem_singleton.mp ha]; exact hSl
    · intro j b hj
      rcases Nat.lt_trichotomy j as.length with c1 | c1 | c1
      · rw [List.getElem?_append_left c1] at hj
        obtain ⟨x', y', e1, e2, e3⟩ := hG.pairs j b hj
        have hb := hG.above b (List.mem_of_getElem? hj)
        exact ⟨x', y', e1, e2, up b _ (Nat.ne_of_gt hb) (hkp b _ (Nat.ne_of_gt (Nat.lt_trans B.z hb)) (Nat.ne_of_gt (Nat.lt_trans B.TO hb)) (Nat.ne_of_gt (Nat.lt_trans B.i1 hb)) (Nat.ne_of_gt (Nat.lt_trans B.i2 hb)) e3)⟩
      · subst c1
        have hb : h.objs.size = b := by simpa using hj
        subst hb
        exact ⟨xs[i], ys[i], by rw [hal]; exact Array.getElem?_eq_getElem hx1, by rw [hal]; exact Array.getElem?_eq_getElem hy1, up _ _ (Nat.ne_of_gt hSl) ht⟩
      · have hnone : (as ++ [h.objs.size])[j]? = none := List.getElem?_eq_none (by rw [List.length_append, List.length_singleton]; omega)
        rw [hnone] at hj; cases hj
end
section
variable {prog : Program} {w : World} {A : Around} {E : Value → Shared → Prop} {s : Shared} {z TI TO i1 i2 l1 l2 S : Addr} {xs ys : Array Value} {n : Nat}
theorem extend {R : Result → Shared → Prop} (hn0 : n = min xs.size ys.size) (D : PySem.ZipApart z TI TO i1 i2 l1 l2) (B : Below S z TI TO i1 i2 l1 l2) (hh : A.handled = none) (hn : n ≤ sizeLine) (hz : PySem.IsZip s.heap z TI TO .none) (hst : ZSt s.heap z TI TO i1 i2 l1 l2 S 0) (hl1 : s.heap.IsList l1 xs) (hl2 : s.heap.IsList l2 ys) (res : Value) (c₀ : Nat)
    (hS : s.heap.get? S = some { cls := .type "list", data := .seq #[] c₀ })
    (hR : ∀ h' tk acc c as, (∀ b o, b ≠ S → b ≠ z → b ≠ TO → b ≠ i1 → b ≠ i2 → s.heap.get? b = some o → h'.get? b = some o) → h'.get? S = some { cls := .type "list", dict := none, data := .seq acc c, slots := #[] } → as.length = n → Gp xs ys S h' as →
      acc.toList = as.map Value.ref → R (.ok (.ret res)) { s with heap := h', toks := tk }) :
    wpAny (model prog w) A.in1 (Builtin.List.listExtendWith (.ref S) (.ref z) res)
      (fun fin s' => match fin with | .done f => R (.ok f) s' | .again c' => c'.quiet = true ∧ codeAny (model prog w) A c' R s') (fun e s' => R (.error e) s') s := by
  have hT : s.TypeIs (.ref z) "zip" := ⟨_, hz, rfl⟩
  unfold Builtin.List.listExtendWith
  refine wpAny_bind (wpAny_typeOf hT ?_)
  have h1 : Builtin.List.listSameRef (.ref S) (.ref z) = false := by simp [Builtin.List.listSameRef, Nat.ne_of_gt B.z]
  have h2 : (Value.type "zip" == Value.type "list") = false := by decide
  have h3 : (Value.type "zip" == Value.type "tuple") = false := by decide
  simp only [h1, h2, h3, Bool.or_false, Bool.false_eq_true, if_false]
  refine wpAny_bind (PySem.wpAny_pyIter_zip hz ?_)
  refine wpAny_bind (wpAny_holding ?_)
  unfold Builtin.List.listLengthHint
  refine wpAny_bind (wpAny_specialOf hT no_len ?_)
  show wpAny _ A.in1 (specialOf (Value.ref z) (Str.ofString "__length_hint__") >>= _) _ _ _
  refine wpAny_bind (wpAny_specialOf hT no_hint ?_)
  refine wpAny_pure ?_
  show wpAny _ A.in1 (rule "list.extend.makes-room" >>= fun _ => Builtin.List.listTouch (.ref S) >>= fun _ =>
    again (.builtin "list.extend.loop" ⟨[.ref S, .ref z, res], []⟩)) _ _ _
  refine wpAny_bind (wpAny_rule ?_)
  refine wpAny_bind ?_
  show wpAny _ A.in1 (updateSeq S (·.push .none) >>= fun _ => updateSeq S (·.pop)) _ _ _
  refine wpAny_bind (wpAny_updateSeq hS rfl ?_)
  have hS₂ := Heap.get?_update_self (Obj.mapSeq (·.push Value.none)) hS rfl
  refine wpAny_updateSeq (hz := by seq_fits) hS₂ rfl ?_
  have hS₃ := Heap.get?_update_self (Obj.mapSeq (·.pop)) hS₂ rfl
  have oth : ∀ b o, b ≠ S → s.heap.get? b = some o → ((s.heap.update S (Obj.mapSeq (·.push Value.none))).update S (Obj.mapSeq (·.pop))).get? b = some o :=
    fun b o hb e => (Heap.get?_update_other _ _ (Ne.symm hb)).trans ((Heap.get?_update_other _ _ (Ne.symm hb)).trans e)
  refine wpAny_pure ⟨plainId_quiet PySem.F.plain_extend_loop _, ?_⟩
  exact loop (s := s) (h₁ := s.heap) hn0 D B hh hn res hR n 0 _ s.toks _ #[] [] (Nat.sub_zero _) (Nat.zero_le _) (hst.keep B oth) (hl1.at fun o e => oth _ o (Nat.ne_of_lt B.l1) e) (hl2.at fun o e => oth _ o (Nat.ne_of_lt B.l2) e)
    (fun b o c0 _ _ _ _ e => oth b o c0 e) hS₃ rfl rfl ⟨List.Pairwise.nil, (fun a ha => by cases ha), fun j a hj => by simp at hj⟩
theorem call_ {Q : Value → Shared → Prop} (hn0 : n = min xs.size ys.size) (D : PySem.ZipApart z TI TO i1 i2 l1 l2) (hh : A.handled = none) (hn : n ≤ sizeLine) (hz : PySem.IsZip s.heap z TI TO .none) (hTI : PySem.IsPair s.heap TI (.ref i1) (.ref i2)) {a0 b0 : Value} (hTO : PySem.IsPair s.heap TO a0 b0) (hi1 : s.heap.IsListIter i1 l1 0) (hi2 : s.heap.IsListIter i2 l2 0) (hl1 : s.heap.IsList l1 xs) (hl2 : s.heap.IsList l2 ys)
    (hQ : ∀ h' tk acc c as, (∀ b o, b ≠ z → b ≠ TO → b ≠ i1 → b ≠ i2 → s.heap.get? b = some o → h'.get? b = some o) → h'.get? s.heap.objs.size = some { cls := .type "list", dict := none, data := .seq acc c, slots := #[] } → as.length = n → Gp xs ys s.heap.objs.size h' as →
      acc.toList = as.map Value.ref → Q (.ref s.heap.objs.size) { s with heap := h', toks := tk }) :
    wpAny (model prog w) A (call (.type "list") [.ref z]) Q E s := by
  have B : Below s.heap.objs.size z TI TO i1 i2 l1 l2 := ⟨Heap.lt_size hz, Heap.lt_size hTI, Heap.lt_size hTO, (let ⟨_, e, _⟩ := hi1; Heap.lt_size e), (let ⟨_, e, _⟩ := hi2; Heap.lt_size e), (let ⟨_, e, _⟩ := hl1; Heap.lt_size e), (let ⟨_, e, _⟩ := hl2; Heap.lt_size e)⟩
  refine callType_codes (Q₁ := fun obj s₁ => obj = .ref s.heap.objs.size ∧ s₁ = { s with heap := s.heap.push { cls := .type "list", data := .seq #[] } }) PySem.F.called_list (PySem.F.typeCall_list_1 _) PySem.F.entry_list_init
    (code_list_new _ ⟨rfl, rfl⟩) fun obj s₁ h₁ => ?_
  obtain ⟨rfl, rfl⟩ := h₁
  have hS : (s.heap.push { cls := .type "list", data := .seq #[] }).get? s.heap.objs.size = some { cls := .type "list", data := .seq #[] } := Heap.get?_push_size _ rfl
  refine ⟨⟨_, hS, rfl⟩, PySem.F.args_list_init_2 _ _, ?_⟩
  show wpAny _ _ (do let old ← Builtin.List.listItems (.ref s.heap.objs.size); Builtin.List.listUpdate (.ref s.heap.objs.size) (fun _ => #[]); letGo old.toList.reverse; Builtin.List.listExtendWith (.ref s.heap.objs.size) (.ref z) .none) _ _ _
  refine wpAny_bind ?_
  unfold Builtin.List.listItems
  refine wpAny_bind (wpAny_seqItems hS rfl (wpAny_pure ?_))
  show wpAny _ _ (updateSeq s.heap.objs.size (fun _ => #[]) >>= fun _ => letGo (#[] : Array Value).toList.reverse >>= fun _ => Builtin.List.listExtendWith (.ref s.heap.objs.size) (.ref z) .none) _ _ _
  refine wpAny_bind (wpAny_updateSeq hS rfl ?_)
  have hS₂ := Heap.get?_update_self (Obj.mapSeq (fun _ => (#[] : Array Value))) hS rfl
  have oth : ∀ b o, s.heap.get? b = some o → ((s.heap.push { cls := .type "list", data := .seq #[] }).update s.heap.objs.size (Obj.mapSeq (fun _ => (#[] : Array Value)))).get? b = some o :=
    fun b o e => (Heap.get?_update_other _ _ (Nat.ne_of_gt (Heap.lt_size e))).trans (Heap.get?_push_of_some _ e)
  refine wpAny_bind (wpAny_letGo ?_)
  refine extend (A := A.in1) hn0 D B hh hn (oth _ _ hz) ⟨oth _ _ hTI, hi1.at fun o e => oth _ o e, hi2.at fun o e => oth _ o e, .inl ⟨oth _ _ hz, _, _, oth _ _ hTO⟩⟩ (hl1.at fun o e => oth _ o e) (hl2.at fun o e => oth _ o e) .none _ hS₂ fun h' tk acc c as hk hS' hl hG hacc => ?_
  exact ⟨rfl, hQ h' tk acc c as (fun b o c1 c2 c3 c4 e => hk b o (Nat.ne_of_lt (Heap.lt_size e)) c1 c2 c3 c4 (oth b o e)) hS' hl hG hacc⟩
end
end PySem.ZL
namespace L2
open PySem PySem.Spec PyProof.Rows
/-- several new objects laid and tracked at once -/
def mrg (F H : Hp) : Hp := fun b => match F b with
  | some o => some o
  | none => H b
theorem mrg_new {F H : Hp} {b : Addr} {o : HO} (h : F b = some o) : mrg F H b = some o := by
  unfold mrg
  rw [h]
theorem mrg_old {F H : Hp} {b : Addr} (h : F b = none) : mrg F H b = H b := by
  unfold mrg
  rw [h]
theorem Inv.laids {X : Cx} {pins : List (Addr × Obj)} {σ : St} {H : Hp} {s : Shared} {h' : Heap} {t' : Nat} {F : Hp} (I : Inv X pins σ H s) (k : ∀ b u, s.heap.get? b = some u → h'.get? b = some u) (hp : ∀ b o, F b = some o → s.heap.objs.size ≤ b) (new : ∀ b o, F b = some o → ObjOk X.prog X.w (mrg F H) h' b o) :
    Inv X pins σ (mrg F H) { s with heap := h', toks := t' } := by
  have fr : ∀ c o, H c = some o → F c = none := fun c o e => by
    cases q : F c with
    | none => rfl
    | some u =>
      rw [I.hok.fresh (hp c u q)] at e
      cases e
  have st : ∀ c o, H c = some o → mrg F H c = some o := fun c o e => (mrg_old (fr c o e)).trans e
  refine I.un ⟨fun b u q _ _ _ => k b u q, fun b u q _ _ _ => ⟨u.slots, k b u q⟩, fun b u q n _ => ?_, fun b u q _ => ⟨u, k b u q⟩, fun b xs q => st _ _ q, fun b u xs q => st _ _ q, fun b ps q => ⟨#[], by rw [st _ _ q]; simp⟩⟩ fun b u e => ?_
  · cases z : F b with
    | none => rw [mrg_old z]; exact n
    | some o => exact absurd (Heap.lt_size q) (Nat.not_lt.mpr (hp b o z))
  · cases z : F b with
    | some o =>
      rw [mrg_new z] at e
      cases e
      exact new b _ z
    | none =>
      rw [mrg_old z] at e
      exact (I.hok b u e).stay (fun c v _ q => k c v q) (fun c q => st _ _ q) fun c xs q => st _ _ q
theorem find_nodup {β : Type} : ∀ (l : List (Addr × β)), (l.map (·.1)).Nodup → ∀ q ∈ l, l.find? (fun r => decide (r.1 = q.1)) = some q
  | [], _, q, h => by cases h
  | r :: l, hn, q, h => by
    rw [List.map_cons, List.nodup_cons] at hn
    rcases List.mem_cons.mp h with e | e
    · subst e
      exact List.find?_cons_of_pos (by simp)
    · rw [List.find?_cons_of_neg, find_nodup l hn.2 q e]
      intro z
      have z2 : r.1 = q.1 := by simpa using z
      exact hn.1 (z2 ▸ List.mem_map_of_mem e)
theorem paired_of {α β : Type} {R : α → β → Prop} : ∀ {as : List α} {bs : List β}, as.length = bs.length → (∀ (j : Nat) (a : α) (b : β), as[j]? = some a → bs[j]? = some b → R a b) → Paired R as bs
  | [], [], _, _ => .nil
  | [], _ :: _, l, _ => by cases l
  | _ :: _, [], l, _ => by cases l
  | a :: as, b :: bs, l, h => .cons (h 0 a b rfl rfl) (paired_of (Nat.succ.inj l) fun j x y e1 e2 => h (j + 1) x y (by simpa using e1) (by simpa using e2))
section
variable {X : Cx} {e e2 : Expr} {ta : TA} {p p1 pos pos1 : Pos}
/-- list(zip(xs, ys)), two lists -/
def tLstZip (K : PySem.W.Frag) (ta : TA) : TE := fun σ H Q => ta σ H fun vs H1 => ∃ a b xs ys, vs = [.ref a, .ref b] ∧ SqL K H1 a xs ∧ SqL K H1 b ys ∧
  ∀ (L : Addr) (ps : List Addr) (H2 : Hp), Same H1 H2 → H1 L = none → H2 L = some (.lst (ps.map V.ref)) → Paired (fun q (r : V × V) => H2 q = some (.tup [r.1, r.2])) ps (xs.zip ys) → Q (.ref L) H2
theorem pe_listZip (hc : X.calm = true) (hgl : Gl X "list") (hml : X.mg "list" = none) (hgz : Gl X "zip") (hmz : X.mg "zip" = none) (ha : PA X [e, e2] ta)
    (hs : starEach [e, e2] X.env = (false, eval e X.env) :: starEach [e2] X.env := by rfl) (hpl : (backTo pos (starEach [e2] X.env)).any (·.1) = false := by rfl)
    (na : starEach [Expr.Call (.Name "zip" p) [e, e2] [] pos] X.env = (false, eval (Expr.Call (.Name "zip" p) [e, e2] [] pos) X.env) :: starEach [] X.env := by rfl) :
    PE X (.Call (.Name "list" p1) [.Call (.Name "zip" p) [e, e2] [] pos] [] pos1) (tLstZip X.K ta) := by
  refine ⟨fun pins s σ H Q I h => ?_⟩
  refine Call_ (ld_blt I hgl hml boot_list (PyProof.Rows.callWith_type1 (args_cons ?_ na) na))
  refine Call_ (ld_blt I hgz hmz PyProof.Rows.boot_zip (PyProof.Rows.callWith_type1 (thn (ha.run pos pins s σ H _ I h) fun us s1 ⟨vs, H1, I1, r1, q1⟩ => ?_) hs hpl))
  obtain ⟨a, b, xs, ys, ex, hqx, hqy, q⟩ := q1
  subst ex
  cases r1 with
  | cons r rr =>
    cases rr with
    | cons r' rr =>
      cases rr
      cases r
      cases r'
      obtain ⟨its, rv, p1', z1⟩ := I1.list hqx
      obtain ⟨its2, rv2, p2', z2⟩ := I1.list hqy
      have la : a < s1.heap.objs.size := p1'.lt
      have lb : b < s1.heap.objs.size := p2'.lt
      refine call_zip_2 p1'.isList p2'.isList fun h' hz hTI hTO h1 h2 hsz hk => args_nil ?_
      have kz : ∀ b o, s1.heap.get? b = some o → h'.get? b = some o := hk
      have l1 : h'.IsList a its.toArray := p1'.isList.at fun o e => kz _ o e
      have l2 : h'.IsList b its2.toArray := p2'.isList.at fun o e => kz _ o e
      refine PySem.ZL.call_ (s := { s1 with heap := h' }) (n := min its.toArray.size its2.toArray.size) rfl (PySem.W.ktu_apart s1.heap.objs.size a b la lb) (I1.ok.hd hc) ?_ hz hTI hTO h1 h2 l1 l2 fun h3 tk acc c as k3 e3 l3 g3 ha3 => ?_
      · rw [List.size_toArray, ← rv.length]
        exact Nat.le_trans (Nat.min_le_left _ _) z1
      have kk : ∀ b o, s1.heap.get? b = some o → h3.get? b = some o := fun b o e => by
        have lt := Heap.lt_size e
        exact k3 b o (Nat.ne_of_lt (Nat.lt_of_lt_of_le lt (Nat.le_add_right _ _))) (Nat.ne_of_lt (Nat.lt_of_lt_of_le lt (Nat.le_add_right _ _))) (Nat.ne_of_lt lt) (Nat.ne_of_lt (Nat.lt_of_lt_of_le lt (Nat.le_add_right _ _))) (kz b o e)
      have hz3 : ({ s1 with heap := h' } : Shared).heap.objs.size = s1.heap.objs.size + 5 := hsz
      generalize hSS : ({ s1 with heap := h' } : Shared).heap.objs.size = S at e3 g3 hz3 ⊢
      have lx := rv.length
      have ly := rv2.length
      have las : as.length = (xs.zip ys).length := by
        rw [l3, List.length_zip, lx, ly, List.size_toArray, List.size_toArray]
      have kf : (as.zip (xs.zip ys)).map (·.1) = as := List.map_fst_zip (by omega)
      have nd : ((as.zip (xs.zip ys)).map (·.1)).Nodup := by
        rw [kf]
        exact g3.rise.imp fun h => Nat.ne_of_lt h
      let F : Hp := fun b => if b = S then some (.lst (as.map V.ref)) else ((as.zip (xs.zip ys)).find? fun r => decide (r.1 = b)).map fun q => .tup [q.2.1, q.2.2]
      have nS : ∀ a ∈ as, a ≠ S := fun a ha => Nat.ne_of_gt (g3.above a ha)
      have hmem : ∀ q ∈ as.zip (xs.zip ys), ∃ j, as[j]? = some q.1 ∧ xs[j]? = some q.2.1 ∧ ys[j]? = some q.2.2 := fun q hq => by
        obtain ⟨j, hj⟩ := List.mem_iff_getElem?.mp hq
        obtain ⟨e1, e2⟩ := List.getElem?_zip_eq_some.mp hj
        obtain ⟨e3, e4⟩ := List.getElem?_zip_eq_some.mp e2
        exact ⟨j, e1, e3, e4⟩
      have hF : ∀ b o, F b = some o → (b = S ∧ o = .lst (as.map V.ref)) ∨ ∃ q ∈ as.zip (xs.zip ys), q.1 = b ∧ o = .tup [q.2.1, q.2.2] := fun b o hb => by
        by_cases c1 : b = S
        · have : F b = some (.lst (as.map V.ref)) := if_pos c1
          rw [this] at hb
          cases hb
          exact .inl ⟨c1, rfl⟩
        · have e5 : F b = ((as.zip (xs.zip ys)).find? fun r => decide (r.1 = b)).map fun q => .tup [q.2.1, q.2.2] := if_neg c1
          rw [e5] at hb
          cases hq : (as.zip (xs.zip ys)).find? fun r => decide (r.1 = b) with
          | none => rw [hq] at hb; cases hb
          | some q =>
            rw [hq] at hb
            cases hb
            exact .inr ⟨q, List.mem_of_find?_eq_some hq, by simpa using List.find?_some hq, rfl⟩
      have hge : ∀ b o, F b = some o → s1.heap.objs.size ≤ b := fun b o hb => by
        rcases hF b o hb with ⟨e1, _⟩ | ⟨q, hq, e1, _⟩
        · rw [e1, hz3]
          exact Nat.le_add_right _ _
        · obtain ⟨j, e2, _⟩ := hmem q hq
          have ab := g3.above q.1 (List.mem_of_getElem? e2)
          rw [← e1]
          refine Nat.le_trans ?_ (Nat.le_of_lt ab)
          rw [hz3]
          exact Nat.le_add_right _ _
      have hvr : ∀ l : List Addr, Vals (l.map V.ref) (l.map Value.ref) := fun l => by
        induction l with
        | nil => exact .nil
        | cons c r ih => exact .cons rfl ih
      have I3 : Inv X pins σ (mrg F H1) { s1 with heap := h3, toks := tk } := by
        refine I1.laids kk hge fun b o hb => ?_
        rcases hF b o hb with ⟨e1, rfl⟩ | ⟨q, hq, e1, rfl⟩
        · subst e1
          refine ⟨?_, as.map Value.ref, c, hvr as, ?_⟩
          · rw [List.length_map, las, List.length_zip]
            exact Nat.le_trans (Nat.min_le_left _ _) z1
          · rw [← ha3, Array.toArray_toList]
            exact e3
        · obtain ⟨j, e2, e4, e5⟩ := hmem q hq
          obtain ⟨x, y, f1, f2, f3⟩ := g3.pairs j q.1 e2
          obtain ⟨u1, g1, r1⟩ := rv.get e4
          obtain ⟨u2, g2, r2⟩ := rv2.get e5
          have ex : x = u1 := by
            rw [List.getElem?_toArray, g1] at f1
            exact (Option.some.inj f1).symm
          have ey : y = u2 := by
            rw [List.getElem?_toArray, g2] at f2
            exact (Option.some.inj f2).symm
          subst ex ey e1
          exact ⟨(show 2 ≤ sizeLine by decide), [x, y], .cons r1 (.cons r2 .nil), _, f3, rfl, _, rfl⟩
      refine ⟨.ref S, mrg F H1, I3, rfl, q S as (mrg F H1) (fun c o hc => ?_) ?_ (mrg_new (if_pos rfl)) ?_⟩
      · refine (mrg_old ?_).trans hc
        cases hq : F c with
        | none => rfl
        | some u =>
          rw [I1.hok.fresh (hge c u hq)] at hc
          cases hc
      · exact I1.hok.fresh (by rw [hz3]; exact Nat.le_add_right _ _)
      · refine paired_of las fun j a r e1 e2 => mrg_new ?_
        have hm : (a, r) ∈ as.zip (xs.zip ys) := List.mem_of_getElem? (List.getElem?_zip_eq_some.mpr ⟨e1, e2⟩)
        have ef := find_nodup _ nd (a, r) hm
        show (if a = S then some (HO.lst (as.map V.ref)) else ((as.zip (xs.zip ys)).find? fun r => decide (r.1 = a)).map fun q => HO.tup [q.2.1, q.2.2]) = _
        rw [if_neg (nS a (List.mem_of_getElem? e1))]
        rw [ef]
        rfl
end
end L2
/-! ### a tuple with its object told; dict of a tuple of pairs; get of what may be None -/
namespace L2
open PySem PySem.Spec PyProof.Rows
section
variable {X : Cx}
theorem call_tupleF : CallR X (.type "tuple") (fun xs H Q => ∃ p ys, xs = [.ref p] ∧ SqL X.K H p ys ∧ ∀ l o, H l = none → o.dict = none → Q (.ref l) (upd H l (.frz o (.tup ys)))) := by
  intro pins s σ H xs us Q I r h
  obtain ⟨p, ys, rfl, hq, q⟩ := h
  obtain ⟨u, rfl, rx⟩ := vals1 r
  cases rx
  obtain ⟨its, r', pl, hz⟩ := I.list hq
  have hlen := r'.length
  refine call_tuple_list pl.isList (fun h' kp => ?_) (by simp only [List.size_toArray] <;> omega)
  have I1 : Inv X pins σ H { s with heap := h' } := I.kept (t' := s.toks) kp
  have I2 : Inv X pins σ (upd H h'.objs.size (.frz { cls := .type "tuple", data := .seq its.toArray } (.tup ys))) { s with heap := h'.push { cls := .type "tuple", data := .seq its.toArray } } :=
    I1.laid (t' := s.toks) (fun b o e => Heap.get?_push_of_some _ e) (Nat.le_refl _) (show ObjOk X.prog X.w _ _ _ (.frz _ (.tup ys)) from ⟨Heap.get?_push_size _ rfl, hz, its, r', IsTup.new _ _⟩)
  exact ⟨.ref h'.objs.size, _, I2, rfl, q _ _ (I1.hok.fresh (Nat.le_refl _)) rfl⟩
/-- dict(t), t a tuple of pairs whose object is told -/
theorem call_dictT (hcalm : X.calm = true) : CallR X (.type "dict") (fun xs H Q => ∃ (a : Addr) (o : Obj) (ps : List Addr) (kvs : List (Key × V)), xs = [.ref a] ∧ H a = some (.frz o (.tup (ps.map V.ref))) ∧ o.dict = none ∧ Paired (fun p kv => SqT X.K H p [kV kv.1, kv.2]) ps kvs ∧
    ∀ p, H p = none → Q (.ref p) (upd H p (.dK (mergeK [] kvs)))) := by
  intro pins s σ H xs us Q I r q
  obtain ⟨a, o, ps, kvs, ex, hq, hdn, hp, q⟩ := q
  subst ex
  obtain ⟨u, eu, rx⟩ := vals1 r
  subst eu
  cases rx
  obtain ⟨ho, hz, its, rv, ht⟩ := (show ObjOk X.prog X.w H s.heap a (.frz o (.tup (ps.map V.ref))) from I.hok a _ hq)
  have ei := refs_at rv
  subst ei
  rw [List.length_map] at hz
  obtain ⟨prs, rel, hl, hpr⟩ := pairs_of I hp
  obtain ⟨o2, ho2, hc, n, hdat⟩ := ht
  rw [ho] at ho2
  cases ho2
  have hpair : ∀ (j : Nat) (q' : Key × Value), prs[j]? = some q' → ∃ (b : Addr) (u : Value), ps[j]? = some b ∧ IsTup s.heap b #[u, q'.2] ∧ keyIs q'.1 u = true := hpr
  -- the pairs by their values
  have hvals : ∃ vs : List (Value × Value), vs.length = ps.length ∧ ∀ (j : Nat) (q' : Key × Value), prs[j]? = some q' → ∃ (b : Addr) (u : Value), ps[j]? = some b ∧ vs[j]? = some (u, q'.2) ∧ IsTup s.heap b #[u, q'.2] ∧ keyIs q'.1 u = true := by
    clear rel hp q
    have key : ∀ (prs : List (Key × Value)) (ps : List Addr), prs.length = ps.length → (∀ (j : Nat) (q' : Key × Value), prs[j]? = some q' → ∃ (b : Addr) (u : Value), ps[j]? = some b ∧ IsTup s.heap b #[u, q'.2] ∧ keyIs q'.1 u = true) →
        ∃ vs : List (Value × Value), vs.length = ps.length ∧ ∀ (j : Nat) (q' : Key × Value), prs[j]? = some q' → ∃ (b : Addr) (u : Value), ps[j]? = some b ∧ vs[j]? = some (u, q'.2) ∧ IsTup s.heap b #[u, q'.2] ∧ keyIs q'.1 u = true := by
      intro prs
      induction prs with
      | nil =>
        intro ps l _
        exact ⟨[], l, fun j q' e => by simp at e⟩
      | cons p r ih =>
        intro ps l hh
        cases ps with
        | nil => cases l
        | cons b bs =>
          obtain ⟨vs, l1, h1⟩ := ih bs (Nat.succ.inj l) (fun j q' e => by
            obtain ⟨b', u, e1, e2, e3⟩ := hh (j + 1) q' (by simpa using e)
            exact ⟨b', u, by simpa using e1, e2, e3⟩)
          obtain ⟨b0, u0, e1, e2, e3⟩ := hh 0 p rfl
          refine ⟨(u0, p.2) :: vs, congrArg Nat.succ l1, fun j q' e => ?_⟩
          cases j with
          | zero =>
            have e' : p = q' := Option.some.inj e
            subst e'
            exact ⟨b0, u0, e1, rfl, e2, e3⟩
          | succ j =>
            obtain ⟨b', u, f1, f2, f3, f4⟩ := h1 j q' (by simpa using e)
            exact ⟨b', u, by simpa using f1, by simpa using f2, f3, f4⟩
    exact key prs ps hl hpair
  obtain ⟨vs, lv, hv⟩ := hvals
  have lp : prs.length = vs.length := hl.trans lv.symm
  refine PySem.call_dict_pairs (knd := mixKind X.prog X.w) (kvs := prs) (PairArg.tuple a (ps.map Value.ref).toArray (fun j => ps.getD j 0) vs) (I.ok.hd hcalm) ⟨⟨o, n, ho, hc, hdn, hdat⟩, by simp [lv], fun j k v e => ?_⟩ ⟨lp, fun j k v e => ?_⟩ (by rw [lv]; exact hz) fun h' tk hd' k => ?_
  · have hj : j < prs.length := by
      rw [lp]
      exact (List.getElem?_eq_some_iff.mp e).1
    obtain ⟨b, u, e1, e2, e3, e4⟩ := hv j prs[j] (List.getElem?_eq_getElem hj)
    rw [e] at e2
    injection e2 with e5
    injection e5 with e6 e7
    subst e6 e7
    refine ⟨by simp [e1, List.getD_eq_getElem?_getD], ?_⟩
    show PairAt s.heap (ps.getD j 0) k prs[j].snd
    rw [List.getD_eq_getElem?_getD, e1]
    exact .inl e3
  · have hj : j < prs.length := by
      rw [lp]
      exact (List.getElem?_eq_some_iff.mp e).1
    obtain ⟨b, u, e1, e2, e3, e4⟩ := hv j prs[j] (List.getElem?_eq_getElem hj)
    rw [e] at e2
    injection e2 with e5
    injection e5 with e6 e7
    subst e6
    refine ⟨prs[j].1, ?_, e4⟩
    rw [List.getElem?_eq_getElem hj, e7]
  · have hm : (s.heap.objs.size == sysModules) = false := beq_eq_false_iff_ne.mpr (Nat.ne_of_gt I.big)
    have hlen : (mergeK [] kvs).length ≤ sizeLine := by
      refine Nat.le_trans (length_mergeK kvs []) ?_
      rw [List.length_nil, Nat.zero_add, rel.length, hl]
      exact hz
    exact ⟨.ref s.heap.objs.size, upd H s.heap.objs.size (.dK (mergeK [] kvs)), I.laid (t' := tk) (fun b o e => k b o (by simp) e) (Nat.le_refl _) (show ObjOk X.prog X.w _ _ _ (.dK (mergeK [] kvs)) from ⟨hlen, hm, merged [] prs, KV.merge rel .nil, hd'⟩), rfl, q _ (I.hok.fresh (Nat.le_refl _))⟩
/-- d.get(y), d.get(y, x): y may be None -/
def DGetN (H : Hp) (a : Addr) (y : V) (r : Option V) : Prop := DGet H a y r ∨ (y = .non ∧ r = none ∧ ∃ kvs, Rd H a (.dK kvs))
def tDGetN1 (td ty : TE) : TE := fun σ H Q => td σ H fun x H1 => ∃ a, x = .ref a ∧ IsD H1 a ∧ ty σ H1 fun y H2 => ∃ o, DGetN H2 a y o ∧ Q (o.getD .non) H2
def tDGetN2 (td ty tx : TE) : TE := fun σ H Q => td σ H fun x H1 => ∃ a, x = .ref a ∧ IsD H1 a ∧ ty σ H1 fun y H2 => tx σ H2 fun z H3 => ∃ o, DGetN H3 a y o ∧ Q (o.getD z) H3
variable {o e f : Expr} {apos cpos : Pos} {td ty tx : TE}
theorem pe_dgetN1 (hu : X.A.units + 1 < cLine) (ho : PE X o td) (he : PE X e ty) (m : M1 X o "get" apos e cpos) : PE X (.Call (.Attribute o "get" apos) [e] [] cpos) (tDGetN1 td ty) := by
  refine ⟨fun pins s σ H Q I h => ?_⟩
  refine wpAny_Call_method m.base m.few m.line PySem.F.plainAttrs_dict PySem.F.slot_dict_get PySem.F.type_dict_get (thn (ho.run pins s σ H _ I h) fun u s1 ⟨x, H1, I1, rx, a, ex, d, q1⟩ => ?_)
  subst ex
  obtain rfl : u = Value.ref a := rx
  obtain ⟨t1, t2, _⟩ := isD_at I1 d
  refine ⟨t1, t2, ?_⟩
  rw [m.trees]
  refine Calls.callWith_builtin rfl (Calls.evalArgs_plain (Calls.spliced_cons (thn (he.run pins s1 σ H1 _ I1 q1) fun iv s2 ⟨y, H2, I2, ry, ov, g, q2⟩ => Calls.spliced_nil ?_)))
  rcases g with g | ⟨rfl, rfl, kvs, g⟩
  · exact d_get1 hu I2 g ry fun w' s3 I3 rw' => ⟨_, H2, I3, rw', q2⟩
  · obtain rfl : iv = Value.none := ry
    obtain ⟨_, hd, vs, _, dd⟩ := dk_rd I2.hok g
    obtain ⟨f, hm, hf⟩ := none_map dd
    refine call_meetsIn PySem.F.slot_dict_get dd.typeIs PySem.F.entry_dict_get (PySem.F.args_dict_get_2 _ _) (meets_dict_get (noneKind X.prog X.w) a (show (noneKind X.prog X.w).is none .none = true from rfl) hd) ⟨f, hm, ?_⟩
    rw [hf]
    exact ⟨.non, H2, I2.tok _, rfl, q2⟩
theorem pe_dgetN2 (hu : X.A.units + 1 < cLine) (ho : PE X o td) (he : PE X e ty) (hf : PE X f tx) (m : M2 X o "get" apos e f cpos) : PE X (.Call (.Attribute o "get" apos) [e, f] [] cpos) (tDGetN2 td ty tx) := by
  refine ⟨fun pins s σ H Q I h => ?_⟩
  refine wpAny_Call_method m.base m.few m.line PySem.F.plainAttrs_dict PySem.F.slot_dict_get PySem.F.type_dict_get (thn (ho.run pins s σ H _ I h) fun u s1 ⟨x, H1, I1, rx, a, ex, d, q1⟩ => ?_)
  subst ex
  obtain rfl : u = Value.ref a := rx
  obtain ⟨t1, t2, _⟩ := isD_at I1 d
  refine ⟨t1, t2, ?_⟩
  rw [m.trees]
  refine Calls.callWith_builtin rfl (Calls.evalArgs_plain (Calls.spliced_cons (thn (he.run pins s1 σ H1 _ I1 q1) fun iv s2 ⟨y, H2, I2, ry, q2⟩ => Calls.spliced_cons (thn (hf.run pins s2 σ H2 _ I2 q2) fun zv s3 ⟨z, H3, I3, rz, ov, g, q3⟩ => Calls.spliced_nil ?_))))
  rcases g with g | ⟨rfl, rfl, kvs, g⟩
  · exact d_get2 hu I3 g ry rz fun w' s3 I3 rw' => ⟨_, H3, I3, rw', q3⟩
  · obtain rfl : iv = Value.none := ry
    obtain ⟨_, hd, vs, _, dd⟩ := dk_rd I3.hok g
    obtain ⟨f, hm, hf⟩ := none_map dd
    refine call_meetsIn PySem.F.slot_dict_get dd.typeIs PySem.F.entry_dict_get (PySem.F.args_dict_get_3 _ _ _) (meets_dict_get_default (noneKind X.prog X.w) a (show (noneKind X.prog X.w).is none .none = true from rfl) hd zv) ⟨f, hm, ?_⟩
    rw [hf]
    exact ⟨z, H3, I3.tok _, rz, q3⟩
end
end L2
/-! ### repr of data, whatever it is -/
namespace L2
open PySem PySem.Spec PyProof.Rows
section
variable {X : Cx} {K1 : PySem.W.Frag}
def rReprA (K : PySem.W.Frag) : List V → Hp → VK → Prop := fun xs H Q => ∃ (v : V) (d : PyData), xs = [v] ∧ Dp K H v d ∧ d.showable = true ∧ d.hasDict = false ∧ d.depth ≤ 60 ∧ d.shown.length ≤ sizeLine ∧ Q (.str d.shown) H
theorem call_reprK (hK : X.K = K1) (hg : X.A.guards = some []) (hu : X.A.units + 64 < cLine) : CallR X (.builtin "repr") (rReprA K1) := by
  subst hK
  intro pins s σ H xs us Q I r h
  obtain ⟨v, d, rfl, hd, hs, hnd, hdp, hsz, q⟩ := h
  obtain ⟨u, rfl, rv⟩ := vals1 r
  cases hd with
  | non =>
    cases rv
    exact PySem.P.repr_of_none ⟨.str _, H, I.tok _, ⟨_, rfl⟩, q⟩
  | bl b =>
    cases rv
    exact PySem.P.repr_of_bool ⟨.str _, H, I.tok _, ⟨_, rfl⟩, q⟩
  | int i =>
    obtain ⟨t, rfl⟩ := rv
    exact PySem.P.repr_of_int (of_decide_eq_true hs) ⟨.str _, H, I.tok _, ⟨_, rfl⟩, q⟩
  | str x =>
    obtain ⟨t, rfl⟩ := rv
    exact PySem.P.repr_of_str ⟨.str _, H, I.tok _, ⟨_, rfl⟩, q⟩ hsz
  | lst a1 a2 =>
    cases rv
    obtain ⟨as, hr⟩ := Dp.reads I _ _ _ (.lst a1 a2) rfl
    exact repr_of_reads' hr hs (PyData.noDict_hsm hnd) hg (by omega) (fun _ _ e => e) (fun h' u tk hk => ⟨.str _, H, I.kept (t' := tk) hk, ⟨u, rfl⟩, q⟩) hsz
  | tup a1 a2 =>
    cases rv
    obtain ⟨as, hr⟩ := Dp.reads I _ _ _ (.tup a1 a2) rfl
    exact repr_of_reads' hr hs (PyData.noDict_hsm hnd) hg (by omega) (fun _ _ e => e) (fun h' u tk hk => ⟨.str _, H, I.kept (t' := tk) hk, ⟨u, rfl⟩, q⟩) hsz
theorem ix_listK (hK : X.K = K1) : IxR X (rIxL K1) := by
  subst hK
  exact ix_list
theorem ix_tupK (hK : X.K = K1) : IxR X (rIxT K1) := by
  subst hK
  exact ix_tup
theorem op_in_seqK (hK : X.K = K1) : OpR X (compareOp .In) (rIn K1 false) := by
  subst hK
  exact op_in_seq
end
end L2
/-! ### the law's own call, what runs around it told: nothing is being shown -/
namespace L2
open PySem PySem.Spec PyProof.Rows
/-- the promise of the def at f, called where A runs around -/
def FnAt (A : Around) (P : Program) (w : World) (K : PySem.W.Frag) (mg : Str → Option Value) (base : Heap) (CX : CXT) (k : Nat) (f : Addr) (fd : FuncData) (ps : List Str) (sp : Sp) : Prop :=
  ∀ (s : Shared) (H : Hp) (args : Args) (us : List Value) (vs : List V) (Q : VK) (E : XK), Room k A → Env0 P w K mg base A [] s H → BindsTo s fd args (ps.zip us) → Vals vs us → sp vs H Q E → codeAny (model P w) A (.call (.ref f) args) (CR CX [] P w H s Q E) s
theorem fnat_of {A : Around} {CX : CXT} {P : Program} {w : World} {K : PySem.W.Frag} {mg : Str → Option Value} {base : Heap} {k : Nat} {f : Addr} {fd : FuncData} {x qual : Str} {params : Arguments} {body : List Stmt} {scope : Scope} {N ps : List Str} {sp : Sp} {dvs : List V} {kws : List (Str × V)}
    (F : FunD K x qual params body scope dvs kws f fd) (S : FnScope N ps scope) (len : ∀ vs H Q E, sp vs H Q E → vs.length = ps.length)
    (hb : ∀ (cdv : Value) (s : Shared) (H : Hp) (vs : List V) (Q : VK) (E : XK), Room k (A.deeper (envOfC qual scope s.heap.objs.size f cdv)) → sp vs H Q E → ∃ t, PSs (cxOf CX P w K mg base N qual scope f cdv A [] s H E) body t ∧ t { nx := fun _ H' => Q .non H', rt := Q } (start N vs) H) :
    FnAt A P w K mg base CX (k + 1) f fd ps sp := by
  obtain ⟨oc, od, dV, kV, doc, pm, an, cdv, ct, osl, rfl, lk, hcd, _, _⟩ := F.ex
  intro s H args us vs Q E hr e0 bt r hsp
  have lv := len _ _ _ _ hsp
  have inK : K.In s.heap := e0.mod.kin.keeps fun b o e => (e0.bs b o e).1
  have nolim : s.heap.NoLimit := e0.mod.nolimit.keeps fun b o e => (e0.bs b o e).1
  have kinds : ∀ y ∈ ps.zip us, scope.names.lookup y.1 = some .local ∨ (scope.names.lookup y.1 = some .cell ∧ ((cellsFrom (s.heap.objs.size + 1) scope.names []).lookup y.1).isSome = true) := fun ⟨n, v⟩ hy =>
    (S.par n (List.of_mem_zip hy).1).elim .inl fun q => .inr ⟨q, PySem.W.cellsFrom_some _ _ _ (.inl q)⟩
  refine codeAny_call_function hr.depth (inK _ _ lk) rfl S.co S.gen rfl (PySem.W.codeRec_of inK hcd) (bt _ _ _ _ (wpAny_newFunctionEnv_cells S.kind kinds fun env he s1 x => ?_))
  subst he
  obtain ⟨t, ht, hq⟩ := hb cdv s H vs Q E (hr.deeper _) hsp
  have I : Inv (cxOf CX P w K mg base N qual scope f cdv A [] s H E) [] (start N vs) H s1 := inv_start S hr.hd e0 lv r x
  refine ⟨nolim.keeps x.toInCall.keep, codeAny_func (wpAny_mono (ht.run [] s1 (start N vs) H _ I hq) (fun fl s' hs => ?_) fun e s' hs => hs)⟩
  match fl, hs with
  | .ret u, ⟨v, σ', H', J, rv, q⟩ => exact ⟨v, H', J.os, J.bare, J.base, J.hok, rv, q⟩
  | .next, ⟨σ', H', J, q⟩ => exact ⟨V.non, H', J.os, J.bare, J.base, J.hok, rfl, q⟩
  | .brk, ⟨_, _, _, q⟩ => exact False.elim q
  | .cont, ⟨_, _, _, q⟩ => exact False.elim q
theorem law_at {P : Program} {w : World} {K : PySem.W.Frag} {mg mb : Str → Option Value} {k : Nat} {fa a : Addr} {fd : FuncData} {x : Str} {sp : Sp} {s1 : Shared} {vs : List Value} {ns : List Int} (KX : K.In s1.heap) (hns : s1.heap.Ns mainGlobals mg) (hb : s1.heap.Ns builtinsNs mb) (hbb : ∀ x : Str, x ≠ "__name__" → mb x = bootBuiltins x)
    (hlim : s1.heap.NoLimit) (hg : s1.gens = #[]) (ha : s1.heap.get? a = some { cls := .type "list", data := .seq vs.toArray }) (hi : IntsAre vs ns) (hl : ns.length ≤ sizeLine) (hr : Room k callerA)
    (F : ∀ base : Heap, K.In base → base.Ns mainGlobals mg → FnAt callerA P w K mg base CX0 k fa fd [x] sp) (hbind : ∀ (s : Shared) (u : Value), BindsTo s fd ⟨[u], []⟩ [(x, u)]) (hsp : ∀ H : Hp, Only H → SqL K H a (ns.map V.int) → sp [.ref a] H (fun v _ => v = .bl true) fun _ _ _ => False) :
    codeAny (model P w) callerA (.call (.ref fa) ⟨[.ref a], []⟩) (fun r s' => r = .ok (.ret (.bool true)) ∧ OldK s1.heap s'.heap ∧ s'.os = s1.os ∧ AllBare s'.gens) s1 := by
  have rv := vals_ints hi
  have core : ∀ H : Hp, Only H → SqL K H a (ns.map V.int) → HOk P w H s1.heap → (∀ b, H b ≠ none → b = a) → (H a ≠ none → K.lookup a = none) → codeAny (model P w) callerA (.call (.ref fa) ⟨[.ref a], []⟩) (fun r s' => r = .ok (.ret (.bool true)) ∧ OldK s1.heap s'.heap ∧ s'.os = s1.os ∧ AllBare s'.gens) s1 := by
    intro H only hS hok alone out
    have stays : ∀ {b : Addr} {o : Obj}, s1.heap.get? b = some o → H b = none → (hidT s1.heap H).get? b = some o := fun e n => hidT_get e n
    have free : ∀ {b : Addr} {o : Obj} {es : Array DictEntry} {ep : Nat}, s1.heap.get? b = some o → o.data = .dict es ep → H b = none := fun {b o es ep} e dd => by
      cases q : H b with
      | none => rfl
      | some u =>
        have eb : b = a := alone b fun z => by rw [q] at z; cases z
        subst eb
        rw [ha] at e
        cases e
        cases (show Data.seq vs.toArray _ = Data.dict es ep from dd)
    have names : ∀ {b : Addr} {m : Str → Option Value}, s1.heap.Ns b m → (hidT s1.heap H).Ns b m := fun {b m} ⟨o, es, ep, e, dd, r⟩ => ⟨o, es, ep, stays e (free e dd), dd, r⟩
    have inB : K.In (hidT s1.heap H) := fun b o e => stays (KX b o e) (by
      cases q : H b with
      | none => rfl
      | some u =>
        have eb : b = a := alone b fun z => by rw [q] at z; cases z
        subst eb
        rw [out fun z => by rw [q] at z; cases z] at e
        cases e)
    have modB : Mod K mg (hidT s1.heap H) := ⟨inB, names hns, ⟨mb, names hb, hbb⟩, let ⟨mc, h1, h2⟩ := hlim; ⟨mc, names h1, h2⟩⟩
    have env : Env0 P w K mg (hidT s1.heap H) callerA [] s1 H := ⟨rfl, modB, fun b o e => of_hidT e, Nat.le_of_eq (hidT_size _ _), trivial, fun b z => (nomatch (show b ∈ ([] : List Addr) from z)), hok, .of_eq hg⟩
    refine codeAny_mono (F _ inB (names hns) s1 H ⟨[.ref a], []⟩ [.ref a] [.ref a] _ _ hr env (hbind s1 (.ref a)) (.cons rfl .nil) (hsp H only hS)) fun r s' h => ?_
    match r, h with
    | .error e, h => exact (show False from h).elim
    | .ok .next, h => exact (show False from h).elim
    | .ok .brk, h => exact (show False from h).elim
    | .ok .cont, h => exact (show False from h).elim
    | .ok (.ret u), ⟨v, H', os, bare, un, hok', r', q⟩ =>
      have q' : v = .bl true := q
      subst q'
      obtain rfl : u = Value.bool true := r'
      refine ⟨rfl, OldK.of_keep fun b o e => ?_, os, bare⟩
      cases q : H b with
      | none => exact un.keep b o e q (fun z => nomatch (show b ∈ ([] : List Addr) from z)) (by simp)
      | some u =>
        rcases only b with z | ⟨ob, xs, z⟩
        · rw [q] at z; cases z
        · obtain ⟨e1, _⟩ := hok b _ z; obtain ⟨e2, _⟩ := hok' b _ (un.frzs b ob _ z)
          rw [e] at e1; cases e1; exact e2
  cases hk : K.lookup a with
  | some o =>
    have e := KX a o hk; rw [ha] at e; cases e
    exact core (fun _ => none) (fun _ => .inl rfl) (.inr ⟨_, vs.toArray, _, hk, rfl, rfl, rfl, by rw [List.size_toArray, hi.length]; exact hl, by simpa using rv⟩) (fun b u z => (nomatch (show (none : Option HO) = some u from z))) (fun b z => absurd rfl z) fun z => absurd rfl z
  | none =>
    refine core (fun b => if b = a then some (.frz { cls := .type "list", data := .seq vs.toArray } (.lst (ns.map V.int))) else none) (fun b => ?_) (.inl (.inr ⟨_, if_pos rfl⟩)) (fun b u z => ?_) (fun b z => Decidable.byContradiction fun hb => z (if_neg hb)) fun _ => hk
    · by_cases eb : b = a
      · exact .inr ⟨_, _, if_pos eb⟩
      · exact .inl (if_neg eb)
    · by_cases eb : b = a
      · cases (if_pos eb).symm.trans z
        subst eb
        exact ⟨ha, by rw [List.length_map]; exact hl, vs, _, rv, ha⟩
      · cases (if_neg eb).symm.trans z
theorem walk_at {l : PySem.W.OpenLaw} {n k : Nat} {q : Program} {loose : List Str} {XP : (Str → Option Value) → Heap → Prop} {YP : World → Heap → Prop} {d : DefRec} {x : Str} (hn : l.most = some n) (hn2 : n ≤ sizeLine) (hdf : d.params.defaults = []) (hr : Room k callerA)
    (F : ∀ (w : World) (mg : Str → Option Value) (fa : Addr) (h : Heap), YP w h → h.Ns mainGlobals mg → mg d.name = some (.ref fa) → ∃ (K : PySem.W.Frag) (fd : FuncData) (sp : Sp), K.In h ∧ (∀ (s : Shared) (u : Value), BindsTo s fd ⟨[u], []⟩ [(x, u)]) ∧
        (∀ (H : Hp) (a : Addr) (ns : List Int), ns.length ≤ n → Only H → SqL K H a (ns.map V.int) → sp [.ref a] H (fun v _ => v = .bl true) fun _ _ _ => False) ∧ ∀ base : Heap, K.In base → base.Ns mainGlobals mg → FnAt callerA l.prog w K mg base CX0 k fa fd [x] sp) :
    PySem.W.WalkO q loose XP YP l.row.toRowW d [] (fun f vs => PySem.call f vs) := by
  refine Att.attach_call hn hdf fun w s₀ s1 mg mb fa o pm cd doc a vs ns G Y ho hd hcd hmg hobj hints hlen hg => ?_
  obtain ⟨K, fd, sp, KX, hb, hsp, hF⟩ := F w mg fa _ Y G.T.g hmg
  exact law_at KX G.T.g G.T.b G.T.builtins G.T.nolimit hg hobj hints (Nat.le_trans hlen hn2) hr hF hb fun H hO hS => hsp H a ns hlen hO hS
/-- repr of data, where nothing is being shown -/
def rRepr (K : PySem.W.Frag) : List V → Hp → VK → Prop := fun xs H Q => ∃ (a : Addr) (d : PyData), xs = [.ref a] ∧ Dp K H (.ref a) d ∧ d.showable = true ∧ d.hasDict = false ∧ d.depth ≤ 60 ∧ d.shown.length ≤ sizeLine ∧ Q (.str d.shown) H
theorem call_repr {X : Cx} (hg : X.A.guards = some []) (hu : X.A.units + 64 < cLine) : CallR X (.builtin "repr") (rRepr X.K) := by
  intro pins s σ H xs us Q I r h
  obtain ⟨a, d, rfl, hd, hs, hnd, hdp, hsz, q⟩ := h
  rw [Vals.ref1 r]
  obtain ⟨as, hr⟩ := Dp.reads I d (.ref a) (.ref a) hd rfl
  exact repr_of_reads' hr hs (PyData.noDict_hsm hnd) hg (by omega) (fun _ _ e => e) (fun h' u tk hk => ⟨.str d.shown, H, I.kept (t' := tk) hk, ⟨u, rfl⟩, q⟩) hsz
end L2
/-! ### t[::-1], a tuple -/
namespace RvT
open PySem PySem.Spec PyProof.Rows L2 HT
section
variable {prog : Program} {w : World} {A : Around} {E : Value → Shared → Prop} {s : Shared}
theorem adjust_rev (n : Nat) : Builtin.Slice.sliceAdjust none none (-1) (n : Int) = ((n : Int) - 1, -1) := by
  unfold Builtin.Slice.sliceAdjust
  simp
theorem places_rev (n : Nat) : Builtin.Slice.slicePlaces ((n : Int) - 1) (-1) (-1) = n := by
  unfold Builtin.Slice.slicePlaces
  have h1 : ¬ ((-1 : Int) > 0) := by decide
  simp only [h1, if_false]
  by_cases h : (n : Int) - 1 > -1
  · rw [if_pos h, show (- -1 : Int) = 1 by decide, Int.ediv_one]
    omega
  · rw [if_neg h]
    omega
theorem sliceApplied_rev {sl : Addr} {vl vu vs : Value} {n : Nat} {Q : Int × Int × Nat → Shared → Prop} (hs : s.heap.IsSliceOf sl vl vu vs) (pl : IsPart vl none) (pu : IsPart vu none) (ps : IsPart vs (some (-1)))
    (h : Q ((n : Int) - 1, -1, n) s) : wpAny (model prog w) A (Builtin.Slice.sliceApplied (.ref sl) (pure (n : Int))) Q E s := by
  obtain ⟨os, hos, hcs, hds⟩ := id hs
  unfold Builtin.Slice.sliceApplied Builtin.Slice.sliceFields
  refine wpAny_bind (wpAny_bind (wpAny_field hos hds (x := vl) rfl (wpAny_bind (wpAny_field hos hds (x := vu) rfl (wpAny_bind (wpAny_field hos hds (x := vs) rfl (wpAny_pure ?_)))))))
  refine wpAny_bind (slicePart_ ps ?_)
  show wpAny _ _ (if ((-1 : Int) == 0) = true then _ else _) _ _ s
  rw [if_neg (by decide)]
  refine wpAny_bind (slicePart_ pl (wpAny_bind (slicePart_ pu (wpAny_bind (wpAny_pure ?_)))))
  show wpAny _ _ (match Builtin.Slice.sliceAdjust none none (-1) (n : Int) with | (lo, hi) => pure (lo, (-1 : Int), Builtin.Slice.slicePlaces lo hi (-1))) _ _ s
  rw [adjust_rev n]
  show wpAny _ _ (pure ((n : Int) - 1, (-1 : Int), Builtin.Slice.slicePlaces ((n : Int) - 1) (-1) (-1))) _ _ s
  rw [places_rev]
  exact wpAny_pure h
theorem pick_rev (xs : Array Value) : ((List.range xs.size).filterMap fun (m : Nat) => xs[(((xs.size : Nat) : Int) - 1 + (m : Int) * -1).toNat]?).toArray = xs.toList.reverse.toArray := by
  have e : (List.range xs.size).filterMap (fun (m : Nat) => xs[(((xs.size : Nat) : Int) - 1 + (m : Int) * -1).toNat]?) = xs.toList.reverse := by
    apply List.ext_getElem?
    intro i
    by_cases hi : i < xs.size
    · have h1 : ∀ (l : List Nat), (∀ m ∈ l, m < xs.size) → l.filterMap (fun (m : Nat) => xs[(((xs.size : Nat) : Int) - 1 + (m : Int) * -1).toNat]?) = l.map (fun m => xs.toList.reverse.getD m default) := fun l hl => by
        induction l with
        | nil => rfl
        | cons m r ih =>
          have hm := hl m (List.mem_cons_self ..)
          have e1 : xs[(((xs.size : Nat) : Int) - 1 + (m : Int) * -1).toNat]? = some (xs.toList.reverse.getD m default) := by
            have e2 : (((xs.size : Nat) : Int) - 1 + (m : Int) * -1).toNat = xs.size - 1 - m := by omega
            rw [e2, ← Array.getElem?_toList, List.getD_eq_getElem?_getD, List.getElem?_reverse (by rw [Array.length_toList]; exact hm), Array.length_toList]
            rw [List.getElem?_eq_getElem (by rw [Array.length_toList]; omega)]
            rfl
          rw [List.filterMap_cons, e1, ih fun k hk => hl k (List.mem_cons_of_mem _ hk)]
          rfl
      rw [h1 _ (fun m hm => List.mem_range.mp hm), List.getElem?_map, List.getElem?_range hi]
      have hl : i < xs.toList.reverse.length := by
        rw [List.length_reverse, Array.length_toList]
        exact hi
      show some (xs.toList.reverse.getD i default) = _
      rw [List.getElem?_eq_getElem hl, List.getD_eq_getElem?_getD, List.getElem?_eq_getElem hl]
      rfl
    · have r1 : xs.toList.reverse[i]? = none := List.getElem?_eq_none (by rw [List.length_reverse, Array.length_toList]; omega)
      rw [r1]
      refine List.getElem?_eq_none (Nat.le_trans (List.length_filterMap_le _ _) ?_)
      rw [List.length_range]
      omega
  rw [e]
theorem getItem_tuple_rev {t sl : Addr} {items : Array Value} {vl vu vs : Value} {Q : Value → Shared → Prop} (ht : IsTup s.heap t items) (hs : s.heap.IsSliceOf sl vl vu vs) (pl : IsPart vl none) (pu : IsPart vu none) (ps : IsPart vs (some (-1)))
    (h : Q (.ref s.heap.objs.size) { s with heap := s.heap.push { cls := .type "tuple", data := .seq items.toList.reverse.toArray } })
    (hsz : items.size ≤ sizeLine) : wpAny (model prog w) A (getItem (.ref t) (.ref sl)) Q E s := by
  have htake : sizeOk (.seq items.toList.reverse.toArray) := by
    show items.toList.reverse.toArray.size ≤ sizeLine
    rw [List.size_toArray, List.length_reverse, Array.length_toList]
    exact hsz
  obtain ⟨os, hos, hcs, hds⟩ := id hs
  have hTs : s.TypeIs (.ref sl) "slice" := ⟨os, hos, hcs⟩
  unfold getItem
  try with_reducible refine wpAny_holding ?_
  first | refine wpAny_bind (wpAny_pure ?_) | skip
  refine wpAny_bind (wpAny_sequenceKey ht.typeIs (by decide) ?_)
  refine wpAny_bind (wpAny_callSpecial?_slot (name := Str.ofString "__getitem__") ht.typeIs PyProof.Rows.slot_tuple_getitem
    (wpAny_call_entry PyProof.Rows.slot_tuple_getitem ht.typeIs entry_tuple_getitem ?_ (args_tuple_getitem _ _)))
  show wpAny _ _ (Builtin.Tuple.tupleItemsOf (.ref t) >>= _) _ _ s
  refine wpAny_bind (tupleItemsOf_ ht ?_)
  refine wpAny_bind (wpAny_typeOf hTs ?_)
  rw [if_pos (by decide)]
  refine wpAny_bind (sliceApplied_rev hs pl pu ps ?_)
  have hno : ¬ ((((items.size : Nat) : Int) - 1 == 0 && (-1 : Int) == 1 && items.size == items.size) = true) := by
    intro q
    rw [Bool.and_eq_true, Bool.and_eq_true] at q
    exact absurd q.1.2 (by decide)
  show wpAny _ _ (if ((((items.size : Nat) : Int) - 1 == 0 && (-1 : Int) == 1 && items.size == items.size) = true) then _ else _) _ _ s
  rw [if_neg hno, pick_rev]
  first
    | exact wpAny_bind (m := Builtin.Tuple.tupleExact _) (wpAny_newObj_type (wpAny_pure ⟨_, rfl, wpAny_pure h⟩) htake)
    | exact wpAny_bind (m := Builtin.Tuple.tupleExact _) (wpAny_newObj_type (wpAny_bind (wpAny_pure (wpAny_pure ⟨_, rfl, wpAny_pure h⟩))) htake)
    | exact wpAny_bind (wpAny_bind (m := Builtin.Tuple.tupleExact _) (wpAny_newObj_type (wpAny_pure (wpAny_pure ⟨_, rfl, wpAny_pure h⟩)) htake))
    | exact wpAny_bind (wpAny_bind (m := Builtin.Tuple.tupleExact _) (wpAny_newObj_type (wpAny_pure ⟨_, rfl, wpAny_pure h⟩) htake))
end
section
variable {X : Cx}
def tRevT (K : PySem.W.Frag) (te : TE) : TE := fun σ H Q => te σ H fun x H1 => ∃ a xs, x = .ref a ∧ SqT K H1 a xs ∧ ∀ p, H1 p = none → Q (.ref p) (upd H1 p (.tup xs.reverse))
theorem pe_revT {e : Expr} {te : TE} {k : Nat} {p1 p2 p3 pos : Pos} (he : PE X e te) : PE X (.Subscript e (.Slice none none (some (.UnaryOp .USub (.Constant (.int 1) k p1) p2)) p3) pos) (tRevT X.K te) := by
  refine ⟨fun pins s σ H Q I h => ?_⟩
  refine Subscript_ (thn (he.run pins s σ H _ I h) fun v s1 ⟨x, H1, I1, r1, q1⟩ => ?_)
  obtain ⟨a, xs, ex, hx, q⟩ := q1
  subst ex
  cases r1
  have hst : PO X (some (.UnaryOp .USub (.Constant (.int 1) k p1) p2)) (tPart (tUn (rU fun i => .int (-i)) (tC (.int 1)))) := po_some (pe_un un_neg pe_int)
  refine wpAny_Slice (thn (po_none.run pins s1 σ H1 (fun o H2 => o = none ∧ H2 = H1) I1 ⟨rfl, rfl⟩) fun vl s2 ⟨l, H2, I2, pl, el, e2⟩ => ?_)
  subst el e2
  refine thn (po_none.run pins s2 σ H2 (fun o H3 => o = none ∧ H3 = H2) I2 ⟨rfl, rfl⟩) fun vu s3 ⟨u, H3, I3, pu, eu, e3⟩ => ?_
  subst eu e3
  refine thn (hst.run pins s3 σ H3 (fun o H4 => o = some (-1) ∧ H4 = H3) I3 ⟨1, rfl, -1, rfl, rfl, rfl⟩) fun vs s4 ⟨o, H4, I4, ps, eo, e4⟩ => ?_
  subst eo e4
  have I5 : Inv X pins σ H4 { s4 with heap := s4.heap.push { cls := .type "slice", data := .fields #[vl, vu, vs] } } := I4.kept (t' := s4.toks) fun b ob q => Heap.get?_push_of_some _ q
  obtain ⟨its, r, ht, hz⟩ := I5.tuple hx
  have hlen := r.length
  show wpAny (model X.prog X.w) X.A (subscriptTail e (.Slice none none (some (.UnaryOp .USub (.Constant (.int 1) k p1) p2)) p3) (.ref a) (.ref s4.heap.objs.size)) (EP X pins σ Q) X.xe { s4 with heap := s4.heap.push { cls := .type "slice", data := .fields #[vl, vu, vs] } }
  refine tail_any (ops := [.ref a, .ref s4.heap.objs.size]) ht.typeIs (PyProof.Rows.slot_tuple_getitem.lookup) ?_ (by with_unfolding_all rfl)
  refine getItem_tuple_rev ht (Heap.IsSliceOf.new _ vl vu vs) pl pu ps ?_ (by rw [List.size_toArray]; omega)
  refine ⟨.ref _, _, I5.laid (t' := s4.toks) (o := .tup xs.reverse) (fun b ob q => Heap.get?_push_of_some _ q) (Nat.le_refl _) ?_, rfl, q _ (I5.hok.fresh (Nat.le_refl _))⟩
  exact ⟨by rw [List.length_reverse]; exact hz, _, r.reverse, IsTup.new _ _⟩
end
end RvT
namespace Rd
open PySem PySem.Spec PyProof.Rows L2
def top (i : Nat) : Stmt := PySem.Challenge.pw_roundstore_k07_looks_of_anything.main.body.getD i (.Pass ⟨0, 0, 0, 0⟩)
abbrev s_is_whole : Stmt := top 1
abbrev N_is_whole : List Str := ["thing"]
theorem sc_is_whole : FnScope N_is_whole ["thing"] (defScope s_is_whole) := ⟨rfl, rfl, rfl, by decide +kernel, rfl, by decide +kernel, by decide +kernel⟩
abbrev s_is_number : Stmt := top 2
abbrev N_is_number : List Str := ["thing", "ring"]
theorem sc_is_number : FnScope N_is_number ["thing", "ring"] (defScope s_is_number) := ⟨rfl, rfl, rfl, by decide +kernel, rfl, by decide +kernel, by decide +kernel⟩
abbrev s_steps : Stmt := top 5
abbrev N_steps : List Str := ["one", "other", "ring"]
theorem sc_steps : FnScope N_steps ["one", "other", "ring"] (defScope s_steps) := ⟨rfl, rfl, rfl, by decide +kernel, rfl, by decide +kernel, by decide +kernel⟩
abbrev s_before : Stmt := top 6
abbrev N_before : List Str := ["one", "other", "ring"]
theorem sc_before : FnScope N_before ["one", "other", "ring"] (defScope s_before) := ⟨rfl, rfl, rfl, by decide +kernel, rfl, by decide +kernel, by decide +kernel⟩
abbrev s_is_look : Stmt := top 8
abbrev N_is_look : List Str := ["thing", "ring", "coming", "others", "one"]
theorem sc_is_look : FnScope N_is_look ["thing", "ring"] (defScope s_is_look) := ⟨rfl, rfl, rfl, by decide +kernel, rfl, by decide +kernel, by decide +kernel⟩
abbrev s_in_order : Stmt := top 9
abbrev N_in_order : List Str := ["numbers", "ring", "pairs", "one", "other"]
theorem sc_in_order : FnScope N_in_order ["numbers", "ring"] (defScope s_in_order) := ⟨rfl, rfl, rfl, by decide +kernel, rfl, by decide +kernel, by decide +kernel⟩
abbrev s_l_hand : Stmt := top 11
abbrev N_l_hand : List Str := ["_law_script", "_law_k", "_law_cell", "_law_great"]
theorem sc_l_hand : FnScope N_l_hand ["_law_script", "_law_k"] (defScope s_l_hand) := ⟨rfl, rfl, rfl, by decide +kernel, rfl, by decide +kernel, by decide +kernel⟩
abbrev s_l_take : Stmt := top 12
abbrev N_l_take : List Str := ["_law_hand_here", "_law_many", "_law_digit", "_law_primes", "_law_prime", "_law_drawn"]
theorem sc_l_take : FnScope N_l_take ["_law_hand_here", "_law_many"] (defScope s_l_take) := ⟨rfl, rfl, rfl, by decide +kernel, rfl, by decide +kernel, by decide +kernel⟩
abbrev s_l_of : Stmt := top 13
abbrev N_l_of : List Str := ["_law_hand_here", "_law_some"]
theorem sc_l_of : FnScope N_l_of ["_law_hand_here", "_law_some"] (defScope s_l_of) := ⟨rfl, rfl, rfl, by decide +kernel, rfl, by decide +kernel, by decide +kernel⟩
abbrev s_l_size : Stmt := top 14
abbrev N_l_size : List Str := ["_law_hand_here", "_law_few"]
theorem sc_l_size : FnScope N_l_size ["_law_hand_here"] (defScope s_l_size) := ⟨rfl, rfl, rfl, by decide +kernel, rfl, by decide +kernel, by decide +kernel⟩
abbrev s_l_look : Stmt := top 15
abbrev N_l_look : List Str := ["_law_hand_here", "_law_size_here", "_law_coming", "_law_back", "_law_some", "_law_turn"]
theorem sc_l_look : FnScope N_l_look ["_law_hand_here", "_law_size_here"] (defScope s_l_look) := ⟨rfl, rfl, rfl, by decide +kernel, rfl, by decide +kernel, by decide +kernel⟩
abbrev s_l_is_on : Stmt := top 16
abbrev N_l_is_on : List Str := ["_law_thing", "_law_size_here"]
theorem sc_l_is_on : FnScope N_l_is_on ["_law_thing", "_law_size_here"] (defScope s_l_is_on) := ⟨rfl, rfl, rfl, by decide +kernel, rfl, by decide +kernel, by decide +kernel⟩
abbrev s_l_is_look : Stmt := top 17
abbrev N_l_is_look : List Str := ["_law_thing", "_law_size_here", "_law_back", "_law_number_here", "_law_many"]
theorem sc_l_is_look : FnScope N_l_is_look ["_law_thing", "_law_size_here"] (defScope s_l_is_look) := ⟨rfl, rfl, rfl, by decide +kernel, rfl, by decide +kernel, by decide +kernel⟩
abbrev s_l_odd : Stmt := top 18
abbrev N_l_odd : List Str := ["_law_hand_here", "_law_thing", "_law_turn"]
theorem sc_l_odd : FnScope N_l_odd ["_law_hand_here"] (defScope s_l_odd) := ⟨rfl, rfl, rfl, by decide +kernel, rfl, by decide +kernel, by decide +kernel⟩
abbrev s_l_number : Stmt := top 19
abbrev N_l_number : List Str := ["_law_hand_here", "_law_number_here", "_law_size_here", "_law_half", "_law_some"]
theorem sc_l_number : FnScope N_l_number ["_law_hand_here", "_law_number_here", "_law_size_here"] (defScope s_l_number) := ⟨rfl, rfl, rfl, by decide +kernel, rfl, by decide +kernel, by decide +kernel⟩
abbrev s_l_bent : Stmt := top 20
abbrev N_l_bent : List Str := ["_law_hand_here", "_law_look_here", "_law_size_here", "_law_coming", "_law_some", "_law_way", "_law_at", "_law_half", "_law_far", "_law_others"]
theorem sc_l_bent : FnScope N_l_bent ["_law_hand_here", "_law_look_here", "_law_size_here"] (defScope s_l_bent) := ⟨rfl, rfl, rfl, by decide +kernel, rfl, by decide +kernel, by decide +kernel⟩
abbrev s_l_told : Stmt := top 21
abbrev N_l_told : List Str := ["_law_thing", "_law_size_here"]
theorem sc_l_told : FnScope N_l_told ["_law_thing", "_law_size_here"] (defScope s_l_told) := ⟨rfl, rfl, rfl, by decide +kernel, rfl, by decide +kernel, by decide +kernel⟩
abbrev s_law : Stmt := top 22
abbrev N_law : List Str := ["_law_script", "_law_k", "_law_hand_here", "_law_size_here", "_law_look_here", "_law_turn", "_law_bent_here", "_law_told_here"]
theorem sc_law : FnScope N_law ["_law_script"] (defScope s_law) := ⟨rfl, rfl, rfl, by decide +kernel, rfl, by decide +kernel, by decide +kernel⟩
theorem gl_of {X : Cx} {x : Str} {sc : Scope} (h : sc.names.lookup x = some .globalImplicit) (e : X.env.scope = sc := by rfl) : Gl X x := by
  unfold Gl Env.kindOf
  rw [e]
  exact h
theorem gl_is_whole_isinstance : (defScope s_is_whole).names.lookup ("isinstance" : Str) = some .globalImplicit := by decide +kernel
theorem gl_is_whole_bool : (defScope s_is_whole).names.lookup ("bool" : Str) = some .globalImplicit := by decide +kernel
theorem gl_is_whole_int : (defScope s_is_whole).names.lookup ("int" : Str) = some .globalImplicit := by decide +kernel
theorem gl_is_number_is_whole : (defScope s_is_number).names.lookup ("is_whole" : Str) = some .globalImplicit := by decide +kernel
theorem gl_before_steps : (defScope s_before).names.lookup ("steps" : Str) = some .globalImplicit := by decide +kernel
theorem gl_is_look_len : (defScope s_is_look).names.lookup ("len" : Str) = some .globalImplicit := by decide +kernel
theorem gl_is_look_isinstance : (defScope s_is_look).names.lookup ("isinstance" : Str) = some .globalImplicit := by decide +kernel
theorem gl_is_look_tuple : (defScope s_is_look).names.lookup ("tuple" : Str) = some .globalImplicit := by decide +kernel
theorem gl_is_look_is_number : (defScope s_is_look).names.lookup ("is_number" : Str) = some .globalImplicit := by decide +kernel
theorem gl_is_look_in_order : (defScope s_is_look).names.lookup ("in_order" : Str) = some .globalImplicit := by decide +kernel
theorem gl_is_look_all : (defScope s_is_look).names.lookup ("all" : Str) = some .globalImplicit := by decide +kernel
theorem gl_in_order_list : (defScope s_in_order).names.lookup ("list" : Str) = some .globalImplicit := by decide +kernel
theorem gl_in_order_zip : (defScope s_in_order).names.lookup ("zip" : Str) = some .globalImplicit := by decide +kernel
theorem gl_in_order_all : (defScope s_in_order).names.lookup ("all" : Str) = some .globalImplicit := by decide +kernel
theorem gl_l_hand_len : (defScope s_l_hand).names.lookup ("len" : Str) = some .globalImplicit := by decide +kernel
theorem gl_l_hand_abs : (defScope s_l_hand).names.lookup ("abs" : Str) = some .globalImplicit := by decide +kernel
theorem gl_l_hand_int : (defScope s_l_hand).names.lookup ("int" : Str) = some .globalImplicit := by decide +kernel
theorem gl_l_of_l_take : (defScope s_l_of).names.lookup ("_law_take" : Str) = some .globalImplicit := by decide +kernel
theorem gl_l_of_len : (defScope s_l_of).names.lookup ("len" : Str) = some .globalImplicit := by decide +kernel
theorem gl_l_size_l_of : (defScope s_l_size).names.lookup ("_law_of" : Str) = some .globalImplicit := by decide +kernel
theorem gl_l_size_l_take : (defScope s_l_size).names.lookup ("_law_take" : Str) = some .globalImplicit := by decide +kernel
theorem gl_l_look_l_of : (defScope s_l_look).names.lookup ("_law_of" : Str) = some .globalImplicit := by decide +kernel
theorem gl_l_look_l_take : (defScope s_l_look).names.lookup ("_law_take" : Str) = some .globalImplicit := by decide +kernel
theorem gl_l_look_tuple : (defScope s_l_look).names.lookup ("tuple" : Str) = some .globalImplicit := by decide +kernel
theorem gl_l_is_on_isinstance : (defScope s_l_is_on).names.lookup ("isinstance" : Str) = some .globalImplicit := by decide +kernel
theorem gl_l_is_on_bool : (defScope s_l_is_on).names.lookup ("bool" : Str) = some .globalImplicit := by decide +kernel
theorem gl_l_is_on_int : (defScope s_l_is_on).names.lookup ("int" : Str) = some .globalImplicit := by decide +kernel
theorem gl_l_is_look_isinstance : (defScope s_l_is_look).names.lookup ("isinstance" : Str) = some .globalImplicit := by decide +kernel
theorem gl_l_is_look_tuple : (defScope s_l_is_look).names.lookup ("tuple" : Str) = some .globalImplicit := by decide +kernel
theorem gl_l_is_look_len : (defScope s_l_is_look).names.lookup ("len" : Str) = some .globalImplicit := by decide +kernel
theorem gl_l_is_look_all : (defScope s_l_is_look).names.lookup ("all" : Str) = some .globalImplicit := by decide +kernel
theorem gl_l_is_look_sorted : (defScope s_l_is_look).names.lookup ("sorted" : Str) = some .globalImplicit := by decide +kernel
theorem gl_l_is_look_set : (defScope s_l_is_look).names.lookup ("set" : Str) = some .globalImplicit := by decide +kernel
theorem gl_l_odd_l_of : (defScope s_l_odd).names.lookup ("_law_of" : Str) = some .globalImplicit := by decide +kernel
theorem gl_l_number_str : (defScope s_l_number).names.lookup ("str" : Str) = some .globalImplicit := by decide +kernel
theorem gl_l_number_l_of : (defScope s_l_number).names.lookup ("_law_of" : Str) = some .globalImplicit := by decide +kernel
theorem gl_l_number_l_odd : (defScope s_l_number).names.lookup ("_law_odd" : Str) = some .globalImplicit := by decide +kernel
theorem gl_l_bent_l_take : (defScope s_l_bent).names.lookup ("_law_take" : Str) = some .globalImplicit := by decide +kernel
theorem gl_l_bent_len : (defScope s_l_bent).names.lookup ("len" : Str) = some .globalImplicit := by decide +kernel
theorem gl_l_bent_l_number : (defScope s_l_bent).names.lookup ("_law_number" : Str) = some .globalImplicit := by decide +kernel
theorem gl_l_bent_l_of : (defScope s_l_bent).names.lookup ("_law_of" : Str) = some .globalImplicit := by decide +kernel
theorem gl_l_bent_list : (defScope s_l_bent).names.lookup ("list" : Str) = some .globalImplicit := by decide +kernel
theorem gl_l_bent_l_odd : (defScope s_l_bent).names.lookup ("_law_odd" : Str) = some .globalImplicit := by decide +kernel
theorem gl_l_told_is_look : (defScope s_l_told).names.lookup ("is_look" : Str) = some .globalImplicit := by decide +kernel
theorem gl_law_max : (defScope s_law).names.lookup ("max" : Str) = some .globalImplicit := by decide +kernel
theorem gl_law_min : (defScope s_law).names.lookup ("min" : Str) = some .globalImplicit := by decide +kernel
theorem gl_law_len : (defScope s_law).names.lookup ("len" : Str) = some .globalImplicit := by decide +kernel
theorem gl_law_l_is_look : (defScope s_law).names.lookup ("_law_is_look" : Str) = some .globalImplicit := by decide +kernel
theorem gl_law_isinstance : (defScope s_law).names.lookup ("isinstance" : Str) = some .globalImplicit := by decide +kernel
theorem gl_law_bool : (defScope s_law).names.lookup ("bool" : Str) = some .globalImplicit := by decide +kernel
theorem gl_law_l_bent : (defScope s_law).names.lookup ("_law_bent" : Str) = some .globalImplicit := by decide +kernel
theorem gl_law_l_told : (defScope s_law).names.lookup ("_law_told" : Str) = some .globalImplicit := by decide +kernel
theorem gl_law_l_hand : (defScope s_law).names.lookup ("_law_hand" : Str) = some .globalImplicit := by decide +kernel
theorem gl_law_l_size : (defScope s_law).names.lookup ("_law_size" : Str) = some .globalImplicit := by decide +kernel
theorem gl_law_l_look : (defScope s_law).names.lookup ("_law_look" : Str) = some .globalImplicit := by decide +kernel
theorem bb_isinstance : bootBuiltins "isinstance" = some (.builtin "isinstance") := by decide +kernel
theorem bb_len : bootBuiltins "len" = some (.builtin "len") := by decide +kernel
theorem bb_all : bootBuiltins "all" = some (.builtin "all") := by decide +kernel
theorem bb_abs : bootBuiltins "abs" = some (.builtin "abs") := by decide +kernel
theorem bb_sorted : bootBuiltins "sorted" = some (.builtin "sorted") := by decide +kernel
theorem bb_max : bootBuiltins "max" = some (.builtin "max") := by decide +kernel
theorem bb_min : bootBuiltins "min" = some (.builtin "min") := by decide +kernel
theorem bt_bool : bootBuiltins "bool" = some (.type "bool") := by decide +kernel
theorem bt_int : bootBuiltins "int" = some (.type "int") := by decide +kernel
theorem bt_tuple : bootBuiltins "tuple" = some (.type "tuple") := by decide +kernel
theorem bt_set : bootBuiltins "set" = some (.type "set") := by decide +kernel
theorem bt_str : bootBuiltins "str" = some (.type "str") := by decide +kernel
theorem bt_list : bootBuiltins "list" = some (.type "list") := by decide +kernel
/-! ### what the top leaves, and what a def keeps -/
structure Tx (K : PySem.W.Frag) (mg : Str → Option Value) : Prop where
  len : mg "len" = none
  abs : mg "abs" = none
  int : mg "int" = none
  bool : mg "bool" = none
  min : mg "min" = none
  max : mg "max" = none
  all : mg "all" = none
  isinstance : mg "isinstance" = none
  range : mg "range" = none
  list : mg "list" = none
  tuple : mg "tuple" = none
  sorted : mg "sorted" = none
  set : mg "set" = none
  enumerate : mg "enumerate" = none
  repr : mg "repr" = none
  dict : mg "dict" = none
  zip : mg "zip" = none
  str : mg "str" = none
def freeNames : List Str := ["len", "abs", "int", "bool", "min", "max", "all", "isinstance", "range", "list", "tuple", "sorted", "set", "enumerate", "repr", "dict", "zip", "str"]
theorem tx_mk {K : PySem.W.Frag} {mg : Str → Option Value} (h : ∀ x ∈ freeNames, mg x = none) : Tx K mg :=
  ⟨h _ (by decide), h _ (by decide), h _ (by decide), h _ (by decide), h _ (by decide), h _ (by decide), h _ (by decide), h _ (by decide), h _ (by decide), h _ (by decide), h _ (by decide), h _ (by decide), h _ (by decide), h _ (by decide), h _ (by decide), h _ (by decide), h _ (by decide), h _ (by decide)⟩
/-- a def without defaults -/
structure Def0 (K : PySem.W.Frag) (mg : Str → Option Value) (x : Str) (st : Stmt) (ps : List Str) : Prop where
  ex : ∃ (f : Addr) (fd : FuncData), FunD K x x (defArgs st) (defBody st) (defScope st) [] [] f fd ∧ mg x = some (.ref f) ∧ Binds K fd ps []
/-- a def with keyword-only defaults: n values by place, the rest by name or left out -/
structure DefK (K : PySem.W.Frag) (mg : Str → Option Value) (x : Str) (st : Stmt) (ps : List Str) (n : Nat) (kws : List (Str × V)) : Prop where
  ex : ∃ (f : Addr) (fd : FuncData), FunD K x x (defArgs st) (defBody st) (defScope st) [] kws f fd ∧ mg x = some (.ref f) ∧ (∃ ds, Vals (kws.map (·.2)) ds ∧ Binds K fd ps ds) ∧ ∃ g, KBn K fd ps n (kws.map (·.1)) g (fun vs zs => vs ++ zs)
structure CalK (P : Program) (w : World) (K : PySem.W.Frag) (mg : Str → Option Value) (base : Heap) (k : Nat) (x : Str) (n : Nat) (ks : List Str) (sp : Sp) : Prop where
  ex : ∃ (f : Addr) (fd : FuncData) (ps : List Str) (g : List Value → List Value → List Value), FnOk P w K mg base CX0 k f fd ps sp ∧ mg x = some (.ref f) ∧ PySem.W.keepIn K (.ref f) = true ∧ KBn K fd ps n ks g (fun vs zs => vs ++ zs)
section
variable {P : Program} {w : World} {K : PySem.W.Frag} {mg : Str → Option Value} {base : Heap} {x : Str} {st : Stmt} {N ps : List Str} {k n : Nat} {sp : Sp} {kws : List (Str × V)}
/-- the body of a def, as its rule asks it -/
def BodyOk (P : Program) (w : World) (K : PySem.W.Frag) (mg : Str → Option Value) (base : Heap) (x : Str) (st : Stmt) (N : List Str) (k : Nat) (sp : Sp) : Prop :=
  ∀ (f : Addr) (cdv : Value) (A : Around) (outer : List Env) (s : Shared) (H : Hp) (vs : List V) (Q : VK) (E : XK), Room k (A.deeper (envOfC x (defScope st) s.heap.objs.size f cdv)) → sp vs H Q E →
      ∃ t, PSs (cxOf CX0 P w K mg base N x (defScope st) f cdv A outer s H E).nox (defBody st) t ∧ t { nx := fun _ H' => Q .non H', rt := Q } (start N vs) H
theorem Def0.cal (D : Def0 K mg x st ps) (S : FnScope N ps (defScope st)) (len : ∀ vs H Q E, sp vs H Q E → vs.length = ps.length) (hb : BodyOk P w K mg base x st N k sp) : C8.Cal P w K mg base (k + 1) x sp [] := by
  obtain ⟨f, fd, F, g, b⟩ := D.ex
  refine ⟨f, fd, ps, [], F.ok (CX := CX0) S len (fun cdv A outer s H vs Q E hr h => ?_), g, F.kp, b, .nil⟩
  obtain ⟨t, h1, h2⟩ := hb f cdv A outer s H vs Q E hr h
  exact ⟨t, h1.nox, h2⟩
theorem DefK.ok (D : DefK K mg x st ps n kws) (S : FnScope N ps (defScope st)) (len : ∀ vs H Q E, sp vs H Q E → vs.length = ps.length) (hb : BodyOk P w K mg base x st N k sp) :
    CalK P w K mg base (k + 1) x n (kws.map (·.1)) sp ∧ C8.Cal P w K mg base (k + 1) x sp (kws.map (·.2)) := by
  obtain ⟨f, fd, F, g, ⟨ds, hd, b⟩, gg, kb⟩ := D.ex
  have h : FnOk P w K mg base CX0 (k + 1) f fd ps sp := F.ok (CX := CX0) S len (fun cdv A outer s H vs Q E hr h => by
    obtain ⟨t, h1, h2⟩ := hb f cdv A outer s H vs Q E hr h
    exact ⟨t, h1.nox, h2⟩)
  exact ⟨⟨f, fd, ps, gg, h, g, F.kp, kb⟩, ⟨f, fd, ps, ds, h, g, F.kp, b, hd⟩⟩
end
section
variable {X : Cx} {k j n : Nat} {ks : List Str} {sp : Sp} {x : Str} {p pos : Pos} {e : Expr} {es : List Expr} {kws : List Keyword} {t tk : TA}
theorem pe_ck (c : CalK X.prog X.w X.K X.mg X.base k x n ks sp) (hr : Room j X.A) (hk : k ≤ j) (hg : Gl X x) (ha : PA X (e :: es) t) (hkw : PK X kws tk) (hall : (backToKw pos (keywordEach kws X.env)).all (·.1.isSome) = true := by rfl) (hks : (backToKw pos (keywordEach kws X.env)).filterMap (·.1) = ks := by rfl)
    (hdb : (x == ("__debug__" : Str)) = false := by decide) (he : starEach (e :: es) X.env = (false, eval e X.env) :: starEach es X.env := by rfl)
    (hpl : ((backTo pos (starEach (e :: es) X.env)).any (·.1) || (backToKw pos (keywordEach kws X.env)).any (·.1.isNone)) = false := by rfl) :
    PE X (.Call (.Name x p) (e :: es) kws pos) (tCallN n ks.length sp (fun vs zs => vs ++ zs) E0 t tk) := by
  obtain ⟨f, fd, ps, g, F, hm, kp, kb⟩ := c.ex
  exact pe_callN F (hr.mono hk) hg hm kp kb pass0 ha hkw hall hks hdb he hpl
end
/-! ### heaps: all but the drawing hand stands -/
def Fr (h : Addr) (H H' : Hp) : Prop := ∀ a o, a ≠ h → H a = some o → H' a = some o
theorem Fr.refl (h : Addr) (H : Hp) : Fr h H H := fun _ _ _ e => e
theorem Fr.trans {h : Addr} {H H1 H2 : Hp} (a : Fr h H H1) (b : Fr h H1 H2) : Fr h H H2 := fun x o n e => b x o n (a x o n e)
theorem Fr.new {h : Addr} {H : Hp} {p : Addr} {o : HO} (e : H p = none) : Fr h H (upd H p o) := fun a u _ q => by
  rw [upd_ne (ne_of_none q e)]
  exact q
/-- what h did not know may change -/
theorem Fr.mut {h : Addr} {H H' : Hp} {p : Addr} {o : HO} (f : Fr h H H') (e : H p = none) : Fr h H (upd H' p o) := fun a u n q => by
  rw [upd_ne (ne_of_none q e)]
  exact f a u n q
theorem Fr.hand {h : Addr} {H : Hp} {o : HO} : Fr h H (upd H h o) := fun a u n q => by
  rw [upd_ne n]
  exact q
theorem Fr.seq {h : Addr} {K : PySem.W.Frag} {H H' : Hp} {a : Addr} {xs : List V} (f : Fr h H H') (n : a ≠ h) (q : SqL K H a xs) : SqL K H' a xs := by
  rcases q with (q | ⟨o, q⟩) | q
  · exact .inl (.inl (f _ _ n q))
  · exact .inl (.inr ⟨o, f _ _ n q⟩)
  · exact .inr q
theorem Fr.seqT {h : Addr} {K : PySem.W.Frag} {H H' : Hp} {a : Addr} {xs : List V} (f : Fr h H H') (n : a ≠ h) (q : SqT K H a xs) : SqT K H' a xs := by
  rcases q with (q | ⟨o, q⟩) | q
  · exact .inl (.inl (f _ _ n q))
  · exact .inl (.inr ⟨o, f _ _ n q⟩)
  · exact .inr q
/-- the hand: three numbers; n bounds how often it drew -/
def HS (h : Addr) (n : Nat) (H : Hp) : Prop := ∃ g b c : Int, H h = some (.lst [.int g, .int b, .int c]) ∧ 0 ≤ g ∧ g < 10 ^ 90 ∧ 0 ≤ b ∧ b < 2 ^ 62 ∧ 0 ≤ c ∧ c ≤ n
theorem HS.mono {h : Addr} {n m : Nat} {H : Hp} (q : HS h n H) (l : n ≤ m) : HS h m H := by
  obtain ⟨g, b, c, e, g0, g1, b0, b1, c0, c1⟩ := q
  exact ⟨g, b, c, e, g0, g1, b0, b1, c0, by omega⟩
theorem HS.new {h : Addr} {n : Nat} {H : Hp} {p : Addr} {o : HO} (q : HS h n H) (e : H p = none) : HS h n (upd H p o) := by
  obtain ⟨g, b, c, eh, r⟩ := q
  exact ⟨g, b, c, (by rw [upd_ne (ne_of_none eh e)]; exact eh), r⟩
theorem HS.at {h : Addr} {n : Nat} {H : Hp} (q : HS h n H) : ∃ o, H h = some o := by
  obtain ⟨g, b, c, e, _⟩ := q
  exact ⟨_, e⟩
theorem HS.ne {h : Addr} {n : Nat} {H : Hp} {p : Addr} (q : HS h n H) (e : H p = none) : p ≠ h := by
  obtain ⟨g, b, c, eh, _⟩ := q
  exact fun z => by
    rw [z, eh] at e
    cases e
/-! ### the drawing defs of the law -/
def lim : Nat := 100000
/-- hand(script, k) -/
def spHand (K : PySem.W.Frag) : Sp := fun vs H Q _ => ∃ (a : Addr) (ns : List Int) (k : Nat), vs = [.ref a, .int k] ∧ SqL K H a (ns.map V.int) ∧ k ≤ 100 ∧ ∀ p H', H p = none → (∀ q o, H q = some o → H' q = some o) → HS p 0 H' → Q (.ref p) H'
/-- take(hand, many): some number below many -/
def spTake : Sp := fun vs H Q _ => ∃ (h : Addr) (m : Int) (n : Nat), vs = [.ref h, .int m] ∧ HS h n H ∧ n < lim ∧ 0 < m ∧ m ≤ 10 ^ 18 ∧ ∀ d H', 0 ≤ d → d < m → HS h (n + 1) H' → Fr h H H' → Q (.int d) H'
/-- of(hand, some) -/
def spOf (K : PySem.W.Frag) : Sp := fun vs H Q _ => ∃ (h a : Addr) (xs : List V) (n : Nat), vs = [.ref h, .ref a] ∧ HS h n H ∧ n < lim ∧ a ≠ h ∧ SqL K H a xs ∧ 0 < xs.length ∧ xs.length ≤ 1000 ∧ ∀ v H', v ∈ xs → HS h (n + 1) H' → Fr h H H' → Q v H'
theorem pow_ok {i j : Int} (h : 0 ≤ j ∧ j ≤ 1000000 ∧ i.natAbs < 2 ^ 64) : CPow i j := h
theorem atI_in {xs : List V} {i : Int} (h0 : 0 ≤ i) (h1 : i < xs.length) : ∃ v, atI xs i = some v ∧ v ∈ xs := by
  have h2 : i.toNat < xs.length := by omega
  refine ⟨xs[i.toNat], ?_, List.getElem_mem h2⟩
  have e := atI_nat (xs := xs) (j := i.toNat) (List.getElem?_eq_getElem h2)
  rw [Int.toNat_of_nonneg h0] at e
  exact e
theorem if01 (b : Bool) : 0 ≤ (if b = true then (1 : Int) else 0) ∧ (if b = true then (1 : Int) else 0) ≤ 1 := by
  cases b <;> decide
theorem w45 : (((10 : Int) ^ (45 : Int).toNat).natAbs) < 2 ^ 150 := by decide +kernel
theorem e90 : ((10 : Int) ^ (45 : Int).toNat) * ((10 : Int) ^ (45 : Int).toNat) = 10 ^ 90 := by decide +kernel
theorem p17 : ((10 : Int) ^ (17 : Int).toNat) = 100000000000000000 := by decide +kernel
theorem p18 : ((10 : Int) ^ (18 : Int).toNat) = 1000000000000000000 := by decide +kernel
theorem p19 : ((2 : Int) ^ (19 : Int).toNat) = 524288 := by decide +kernel
theorem p20 : ((2 : Int) ^ (20 : Int).toNat) = 1048576 := by decide +kernel
theorem cdw {i j : Int} (h : 0 < j) (h1 : j ≤ 1000000000000000000) : CDivW i j := wide_div (b := 64) h (by omega) (by decide) (by decide)
section
variable {P : Program} {w : World} {K : PySem.W.Frag} {mg : Str → Option Value} {base : Heap}
theorem ok_hand (T : Tx K mg) : BodyOk P w K mg base "_law_hand" s_l_hand N_l_hand 0 (spHand K) := by
  intro f cdv A outer s H vs Q E hr h
  obtain ⟨a, ns, k, rfl, hS, hk, q⟩ := h
  refine ⟨_, (pss_cons (ps_set (i := 2) sc_l_hand.nd rfl (Or.inl rfl) (pe_ifExp (pt_cmpR op_lt (pv 1) (pe_callB call_len_seq (gl_of gl_l_hand_len) T.len bb_len (pa_cons (pv 0) pa_nil)) (nomark _)) (pe_ix ix_list (pv 0) (pv 1) (fun _ _ => rfl)) pe_int))
      (pss_cons (ps_set (i := 3) sc_l_hand.nd rfl (Or.inl rfl) (pe_op op_mul (pe_op op_mod (pe_callB call_abs (gl_of gl_l_hand_abs) T.abs bb_abs (pa_cons (pv 2) pa_nil)) (pe_op op_mulW (pe_op op_pow pe_int pe_int) (pe_op op_pow pe_int pe_int))) (pe_callTy call_int1 (gl_of gl_l_hand_int) T.int bt_int (pa_cons (pe_cmpR op_ge (pe_callB call_abs (gl_of gl_l_hand_abs) T.abs bb_abs (pa_cons (pv 2) pa_nil)) (pe_op op_pow pe_int pe_int) (nomark _)) pa_nil))))
      (pss_one (ps_ret (pe_lst (pa_cons (pv 3) (pa_cons (pe_op op_add (pe_op op_add (pe_op op_mod (pv 2) pe_int) (pe_op op_mul pe_int (pv 1))) pe_int) (pa_cons pe_int pa_nil)))))))), ?_⟩
  refine st_seq (st_setH (PV := fun v H' => H' = H ∧ ∃ c : Int, v = .int c) (fun Q2 q2 => ?_) (fun v H' hv => ?_))
  · refine ⟨_, rfl, _, rfl, a, _, rfl, .inl hS, _, _, rfl, rfl, _, rfl, ite2 (fun e => ?_) (fun e => ?_)⟩
    · have e1 := of_decide_eq_true e
      rw [List.length_map] at e1
      have e2 : k < ns.length := by omega
      refine ⟨_, rfl, _, rfl, a, _, _, .int ns[k], rfl, rfl, hS, ?_, q2 _ _ ⟨rfl, _, rfl⟩⟩
      refine atI_nat ?_
      rw [List.getElem?_map, List.getElem?_eq_getElem e2]
      rfl
    · exact q2 _ _ ⟨rfl, _, rfl⟩
  · obtain ⟨rfl, c, rfl⟩ := hv
    refine st_seq ?_
    refine ⟨_, rfl, _, rfl, _, _, rfl, rfl, pow_ok (by decide), _, _, rfl, rfl, pow_ok (by decide), _, _, rfl, rfl, wide_mul w45 w45 (by decide) (by decide) (by decide), _, _, rfl, rfl, ?_, ?_⟩
    · rw [e90]
      show (0 : Int) < 10 ^ 90
      decide
    · refine ⟨_, rfl, _, rfl, _, _, rfl, rfl, pow_ok (by decide), _, _, rfl, rfl, .inr ⟨_, rfl, _, _, rfl, rfl, .inr ?_, ?_⟩⟩
      · have z := if01 (decide (((10 : Int) ^ (18 : Int).toNat) ≤ (if c < 0 then -c else c)))
        exact ⟨Int.lt_of_lt_of_le (by decide) z.1, Int.lt_of_le_of_lt z.2 (by decide)⟩
      · refine ⟨_, rfl, _, rfl, _, _, rfl, rfl, (show (0 : Int) < 2305843009213693951 by decide), _, rfl, _, _, rfl, rfl, .inl (by decide), _, _, rfl, rfl, _, _, rfl, rfl, by show 3 ≤ sizeLine; decide, fun p np => ?_⟩
        refine q _ _ np (fun b o e => ?_) ⟨_, _, _, upd_same, ?_, ?_, ?_, ?_, ?_, ?_⟩
        · rw [upd_ne (ne_of_none e np)]
          exact e
        · rw [e90]
          exact Int.mul_nonneg (Int.emod_nonneg _ (by decide)) (if01 _).1
        · rw [e90]
          have h1 : (if c < 0 then -c else c) % (10 ^ 90) < 10 ^ 90 := Int.emod_lt_of_pos _ (by decide)
          have h0 : 0 ≤ (if c < 0 then -c else c) % (10 ^ 90) := Int.emod_nonneg _ (by decide)
          cases (decide (((10 : Int) ^ (18 : Int).toNat) ≤ (if c < 0 then -c else c))) with
          | true =>
            rw [if_pos rfl, Int.mul_one]
            exact h1
          | false =>
            rw [if_neg Bool.false_ne_true, Int.mul_zero]
            decide
        · have h1 : 0 ≤ c % 2305843009213693951 := Int.emod_nonneg _ (by decide)
          omega
        · have h1 : c % 2305843009213693951 < 2305843009213693951 := Int.emod_lt_of_pos _ (by decide)
          have h2 : (2 : Int) ^ 62 = 4611686018427387904 := by decide
          omega
        · decide
        · decide
def primes : List V := [.int 2147483647, .int 2147483629, .int 2147483587, .int 2147483579, .int 2147483563, .int 2147483549, .int 2147483543, .int 2147483497]
theorem primes_in : ∀ v ∈ primes, ∃ q : Int, v = .int q ∧ 0 < q ∧ q < 2147483648 := by
  intro v hv
  simp only [primes, List.mem_cons, List.not_mem_nil, or_false] at hv
  rcases hv with rfl | rfl | rfl | rfl | rfl | rfl | rfl | rfl <;> exact ⟨_, rfl, by decide, by decide⟩
theorem ok_take (T : Tx K mg) : BodyOk P w K mg base "_law_take" s_l_take N_l_take 0 spTake := by
  intro f cdv A outer s H vs Q E hr h
  obtain ⟨h, m, n, rfl, ⟨g, b, c, eh, g0, g1, b0, b1, c0, c1⟩, hn, m0, m1, q⟩ := h
  refine ⟨_, (pss_cons (ps_if (pt_cmpR op_gt (pe_ix ix_list (pv 0) pe_int (fun _ _ => rfl)) pe_int (nomark _)) (pss_cons (ps_set (i := 2) sc_l_take.nd rfl (Or.inl rfl) (pe_op op_mod (pe_ix ix_list (pv 0) pe_int (fun _ _ => rfl)) (pv 1)))
      (pss_cons (ps_asg (pe_op op_fdivW (pe_ix ix_list (pv 0) pe_int (fun _ _ => rfl)) (pv 1)) (pg_sub (pv 0) pe_int set_list))
      (pss_one (ps_ret (pv 2))))) pss_nil)
      (pss_cons (ps_asg (pe_op op_add (pe_ix ix_list (pv 0) pe_int (fun _ _ => rfl)) pe_int) (pg_sub (pv 0) pe_int set_list))
      (pss_cons (ps_set (i := 3) sc_l_take.nd rfl (Or.inl rfl) (pe_lst (pa_cons pe_int (pa_cons pe_int (pa_cons pe_int (pa_cons pe_int (pa_cons pe_int (pa_cons pe_int (pa_cons pe_int (pa_cons pe_int pa_nil))))))))))
      (pss_cons (ps_set (i := 4) sc_l_take.nd rfl (Or.inl rfl) (pe_ix ix_list (pv 3) (pe_op op_mod (pe_ix ix_list (pv 0) pe_int (fun _ _ => rfl)) pe_int) (fun _ _ => rfl)))
      (pss_cons (ps_set (i := 5) sc_l_take.nd rfl (Or.inl rfl) (pe_op op_mod (pe_op op_pow (pe_op op_add (pe_ix ix_list (pv 0) pe_int (fun _ _ => rfl)) (pe_op op_mul pe_int (pe_ix ix_list (pv 0) pe_int (fun _ _ => rfl)))) pe_int) (pv 4)))
      (pss_one (ps_ret (pe_op op_mod (pe_op op_fdivW (pe_op op_mod (pe_op op_mul (pv 5) (pe_op op_add (pe_op op_mod (pv 5) pe_int) (pe_ix ix_list (pv 0) pe_int (fun _ _ => rfl)))) (pv 4)) pe_int) (pv 1))))))))), ?_⟩
  have hn2 : (n : Int) < 100000 := by
    have z : n < 100000 := hn
    omega
  have p18' : (10 : Int) ^ 18 = 1000000000000000000 := by decide
  have p62 : (2 : Int) ^ 62 = 4611686018427387904 := by decide
  refine st_seq ?_
  refine ⟨_, rfl, h, _, _, _, rfl, rfl, SqL.of eh, rfl, _, _, rfl, rfl, _, rfl, ite2 (fun z => ?_) (fun z => ?_)⟩
  · refine ⟨_, rfl, h, _, _, _, rfl, rfl, SqL.of eh, rfl, _, rfl, _, _, rfl, rfl, m0, ?_⟩
    refine ⟨_, rfl, h, _, _, _, rfl, rfl, SqL.of eh, rfl, _, rfl, _, _, rfl, rfl, cdw m0 (by omega), ?_⟩
    refine ⟨_, rfl, h, _, _, 0, rfl, rfl, eh, rfl, ?_⟩
    refine ⟨_, rfl, q _ _ (Int.emod_nonneg _ (by omega)) (Int.emod_lt_of_pos _ m0) ⟨_, b, c, upd_same, ?_, ?_, b0, b1, c0, ?_⟩ Fr.hand⟩
    · exact Int.ediv_nonneg g0 (by omega)
    · exact Int.lt_of_le_of_lt (Int.ediv_le_self _ g0) g1
    · omega
  · refine st_seq ?_
    refine ⟨_, rfl, h, _, _, _, rfl, rfl, SqL.of eh, rfl, _, _, rfl, rfl, _, rfl, h, _, _, 2, rfl, rfl, eh, rfl, ?_⟩
    have e2 : (upd H h (.lst [.int g, .int b, .int (c + 1)])) h = some (.lst [.int g, .int b, .int (c + 1)]) := upd_same
    refine st_seq ⟨by show 8 ≤ sizeLine; decide, fun p np => ?_⟩
    have hpn : h ≠ p := ne_of_none e2 np
    have e3 : (upd (upd H h (.lst [.int g, .int b, .int (c + 1)])) p (.lst primes)) h = some (.lst [.int g, .int b, .int (c + 1)]) := by
      rw [upd_ne hpn]
      exact e2
    obtain ⟨v, ev, hv⟩ := atI_in (xs := primes) (i := (c + 1) % 8) (Int.emod_nonneg _ (by decide)) (Int.emod_lt_of_pos _ (by decide))
    obtain ⟨r, rfl, r0, r1⟩ := primes_in v hv
    refine st_seq ?_
    refine ⟨_, rfl, _, rfl, h, _, _, _, rfl, rfl, SqL.of e3, rfl, _, _, rfl, rfl, (show (0 : Int) < 8 by decide), p, _, _, _, rfl, rfl, SqL.of upd_same, ev, ?_⟩
    refine st_seq ?_
    refine ⟨_, rfl, h, _, _, _, rfl, rfl, SqL.of e3, rfl, _, rfl, h, _, _, _, rfl, rfl, SqL.of e3, rfl, _, _, rfl, rfl, .inl (by decide), _, _, rfl, rfl, _, _, rfl, rfl, pow_ok ⟨by decide, by decide, by omega⟩, _, rfl, _, _, rfl, rfl, r0, ?_⟩
    refine ⟨_, rfl, _, rfl, _, _, rfl, rfl, (show (0 : Int) < 1009 by decide), _, rfl, h, _, _, _, rfl, rfl, SqL.of e3, rfl, _, _, rfl, rfl, _, _, rfl, rfl, .inl ?_, _, rfl, _, _, rfl, rfl, r0, _, _, rfl, rfl, cdw (by decide) (by decide), _, rfl, _, _, rfl, rfl, m0, ?_⟩
    · have h1 : 0 ≤ (b + 7919 * (c + 1)) ^ (5 : Int).toNat % r := Int.emod_nonneg _ (by omega)
      have h2 : (b + 7919 * (c + 1)) ^ (5 : Int).toNat % r < r := Int.emod_lt_of_pos _ r0
      have h3 : (2 : Int) ^ 64 = 18446744073709551616 := by decide
      rw [h3]
      exact ⟨by omega, by omega⟩
    · refine q _ _ (Int.emod_nonneg _ (by omega)) (Int.emod_lt_of_pos _ m0) ⟨g, b, c + 1, e3, g0, g1, b0, b1, by omega, by omega⟩ (Fr.trans Fr.hand (Fr.new np))
end
/-! ### the law's own going round -/
def wayI (x y s : Int) : Int := if x ≤ y then y - x else y - x + s
theorem way_eq {x y s : Int} (x0 : 0 ≤ x) (x1 : x < s) (y0 : 0 ≤ y) (y1 : y < s) : (y - x) % s = wayI x y s := by
  unfold wayI
  split
  · rw [Int.emod_eq_of_lt (by omega) (by omega)]
  · have z : (y - x) % s = (y - x + s) % s := by
      rw [Int.add_emod_right]
    rw [z, Int.emod_eq_of_lt (by omega) (by omega)]
theorem HS.same {h : Addr} {n : Nat} {H H' : Hp} (q : HS h n H) (e : Same H H') : HS h n H' := by
  obtain ⟨g, b, c, eh, r⟩ := q
  exact ⟨g, b, c, e _ _ eh, r⟩
theorem Fr.same {h : Addr} {H H' : Hp} (e : Same H H') : Fr h H H' := fun a o _ q => e a o q
theorem same_new {H : Hp} {p : Addr} {o : HO} (h : H p = none) : Same H (upd H p o) := fun b x e => by
  rw [upd_ne (ne_of_none e h)]
  exact e
theorem seq_new {K : PySem.W.Frag} {H H' : Hp} {a p : Addr} {xs : List V} (q : SqL K H a xs) (e : H p = none) (f : Fr p H H') : SqL K H' a xs := by
  rcases q with (q | ⟨o, q⟩) | q
  · exact .inl (.inl (f _ _ (ne_of_none q e) q))
  · exact .inl (.inr ⟨o, f _ _ (ne_of_none q e) q⟩)
  · exact .inr q
theorem all_rep (n : Nat) : (List.replicate n true).all id = true := by
  rw [List.all_eq_true]
  intro x hx
  exact (List.eq_of_mem_replicate hx)
theorem if_join {c : TT} {t1 t2 : TS} {D : Ends} {σ : L2.St} {H : Hp} (J : L2.St → Hp → Prop) (h : ∀ (N : L2.St → Hp → Prop), (∀ σ' H', J σ' H' → N σ' H') → tIfS c t1 t2 { D with nx := N } σ H) (q : ∀ σ' H', J σ' H' → D.nx σ' H') : tIfS c t1 t2 D σ H := h D.nx q
def spLaw (K : PySem.W.Frag) : Sp := fun vs H Q _ => ∃ (a : Addr) (ns : List Int), vs = [.ref a] ∧ SqL K H a (ns.map V.int) ∧ ns.length ≤ 63 ∧ ∀ H', Q (.bl true) H'
section
variable {P : Program} {w : World} {K : PySem.W.Frag} {mg : Str → Option Value} {base : Heap}
def spSize : Sp := fun vs H Q _ => ∃ (h : Addr) (n : Nat), vs = [.ref h] ∧ HS h n H ∧ n + 3 < lim ∧ ∀ s H', 8 ≤ s → s ≤ 1048576 → s % 2 = 0 → HS h (n + 3) H' → Fr h H H' → Q (.int s) H'
theorem ok_size (T : Tx K mg) (c_l_take : C8.Cal P w K mg base 1 "_law_take" spTake []) (c_l_of : C8.Cal P w K mg base 2 "_law_of" (spOf K) []) : BodyOk P w K mg base "_law_size" s_l_size N_l_size 2 spSize := by
  intro f cdv A outer s H vs Q E hr h
  obtain ⟨h, n, rfl, hs, hn, q⟩ := h
  have hn2 : n + 3 < 100000 := hn
  refine ⟨_, (pss_cons (ps_set (i := 1) sc_l_size.nd rfl (Or.inl rfl) (C8.pe_c c_l_of hr (by decide) (gl_of gl_l_size_l_of) (pa_cons (pv 0) (pa_cons (pe_lst (pa_cons pe_int (pa_cons pe_int (pa_cons pe_int (pa_cons pe_int (pa_cons pe_int (pa_cons pe_int pa_nil))))))) pa_nil))))
      (pss_one (ps_ret (C8.pe_c c_l_of hr (by decide) (gl_of gl_l_size_l_of) (pa_cons (pv 0) (pa_cons (pe_lst (pa_cons (pv 1) (pa_cons (pv 1) (pa_cons (pv 1) (pa_cons pe_int (pa_cons (pe_op op_pow pe_int pe_int) (pa_cons (pe_op op_add pe_int (pe_op op_mul pe_int (C8.pe_c c_l_take hr (by decide) (gl_of gl_l_size_l_take) (pa_cons (pv 0) (pa_cons pe_int pa_nil))))) pa_nil))))))) pa_nil)))))), ?_⟩
  refine st_seq ?_
  refine ⟨_, rfl, (show 6 ≤ sizeLine by decide), fun p np => ?_⟩
  refine ⟨h, p, _, n, rfl, hs.new np, (show n < 100000 by omega), hs.ne np, SqL.of upd_same, (show 0 < 6 by decide), (show 6 ≤ 1000 by decide), fun v H1 hv hs1 f1 => ?_⟩
  have hx : ∃ z : Int, v = .int z ∧ 8 ≤ z ∧ z ≤ 1048576 ∧ z % 2 = 0 := by
    simp only [List.mem_cons, List.not_mem_nil, or_false] at hv
    rcases hv with rfl | rfl | rfl | rfl | rfl | rfl <;> exact ⟨_, rfl, by decide, by decide, by decide⟩
  obtain ⟨z, rfl, z0, z1, z2⟩ := hx
  have f01 : Fr h H H1 := (Fr.new np).trans f1
  refine ⟨_, rfl, _, rfl, _, rfl, _, rfl, _, _, rfl, rfl, pow_ok (by decide), _, rfl, h, 300, n + 1, rfl, hs1, (show n + 1 < 100000 by omega), by decide, by decide, fun d H2 d0 d1 hs2 f2 => ?_⟩
  refine ⟨_, _, rfl, rfl, .inl (by decide), _, _, rfl, rfl, (show 6 ≤ sizeLine by decide), fun p2 np2 => ?_⟩
  refine ⟨h, p2, [.int z, .int z, .int z, .int 64, .int (2 ^ (20 : Int).toNat), .int (8 + 2 * d)], n + 1 + 1, rfl, hs2.new np2, (show n + 1 + 1 < 100000 by omega), hs2.ne np2, SqL.of upd_same, (show 0 < 6 by decide), (show 6 ≤ 1000 by decide), fun v H4 hv hs4 f4 => ?_⟩
  have hx : ∃ z : Int, v = .int z ∧ 8 ≤ z ∧ z ≤ 1048576 ∧ z % 2 = 0 := by
    simp only [p20, List.mem_cons, List.not_mem_nil, or_false] at hv
    rcases hv with rfl | rfl | rfl | rfl | rfl | rfl <;> exact ⟨_, rfl, by omega, by omega, by omega⟩
  obtain ⟨y, rfl, y0, y1, y2⟩ := hx
  exact q y H4 y0 y1 y2 hs4 ((f01.trans f2).trans ((Fr.new np2).trans f4))
end
/-! ### the ring's defs -/
def spOn : Sp := fun vs H Q _ => ∃ x m s : Int, vs = [.int x, .int m, .int s] ∧ 0 < s ∧ Q (.int ((x + m) % s)) H
def spSteps : Sp := fun vs H Q _ => ∃ x y s : Int, vs = [.int x, .int y, .int s] ∧ 0 < s ∧ Q (.int ((y - x) % s)) H
section
variable {P : Program} {w : World} {K : PySem.W.Frag} {mg : Str → Option Value} {base : Heap}
theorem ok_steps : BodyOk P w K mg base "steps" s_steps N_steps 0 spSteps := by
  intro f cdv A outer s H vs Q E hr h
  obtain ⟨x, y, s, rfl, s0, q⟩ := h
  refine ⟨_, (pss_one (ps_ret (pe_op op_mod (pe_op op_sub (pv 1) (pv 0)) (pv 2)))), ?_⟩
  exact ⟨_, rfl, _, rfl, _, _, rfl, rfl, _, rfl, _, _, rfl, rfl, s0, q⟩
def spBefore : Sp := fun vs H Q _ => ∃ x y s : Int, vs = [.int x, .int y, .int s] ∧ 0 < s ∧ s ≤ 1048576 ∧ Q (.bl (decide (0 < (y - x) % s) && decide ((y - x) % s < s / 2))) H
theorem ok_before (k_steps : CalK P w K mg base 1 "steps" 2 ["ring"] spSteps) : BodyOk P w K mg base "before" s_before N_before 1 spBefore := by
  intro f cdv A outer s H vs Q E hr h
  obtain ⟨x, y, s, rfl, s0, s1, q⟩ := h
  refine ⟨_, (pss_one (ps_ret (pe_chain op_lt op_lt pe_int (pe_ck k_steps hr (by decide) (gl_of gl_before_steps) (pa_cons (pv 0) (pa_cons (pv 1) pa_nil)) (pk_cons (pv 2) pk_nil)) (pe_op op_fdivW (pv 2) pe_int)))), ?_⟩
  refine ⟨_, rfl, _, rfl, _, rfl, rfl, rfl, x, y, s, rfl, s0, _, _, rfl, rfl, _, rfl, ite2 (fun z => ?_) (fun z => ?_)⟩
  · refine ⟨_, rfl, _, _, rfl, rfl, cdw (by decide) (by decide), _, _, rfl, rfl, ?_⟩
    rw [z, Bool.true_and] at q
    exact q
  · rw [Bool.eq_false_iff.mpr z, Bool.false_and] at q
    exact q
end
/-! ### looks -/
def bef (x y s : Int) : Bool := decide (0 < (y - x) % s) && decide ((y - x) % s < s / 2)
def don (z : Str) (c : Int) (xs : List Int) (n s : Int) : Bool := decide (V.str z = V.str "done") && (bef n c s && !inV (.int n) (xs.map V.int))
theorem Fr.free {h : Addr} {H H' : Hp} {p : Addr} (f : Fr h H H') (n : p ≠ h) (e : H' p = none) : H p = none := by
  cases q : H p with
  | none => rfl
  | some o =>
    rw [f _ _ n q] at e
    cases e
/-- a look at a: its next number, its open ones -/
def Lk (K : PySem.W.Frag) (H : Hp) (a : Addr) (c : Int) (xs : List Int) : Prop := ∃ t, SqT K H a [.int c, .ref t] ∧ SqT K H t (xs.map V.int)
theorem ne_tl {H : Hp} {a b : Addr} {xs ys : List V} (h1 : H a = some (.tup xs)) (h2 : H b = some (.lst ys)) : a ≠ b := fun e => by
  rw [e, h2] at h1
  cases h1
theorem HS.neT {h : Addr} {n : Nat} {H : Hp} {p : Addr} {xs : List V} (q : HS h n H) (e : H p = some (.tup xs)) : p ≠ h := by
  obtain ⟨g, b, c, eh, _⟩ := q
  exact ne_tl e eh
theorem HS.sqT {h : Addr} {n : Nat} {K : PySem.W.Frag} {H H' : Hp} {a : Addr} {xs : List V} (q : HS h n H) (f : Fr h H H') (s : SqT K H a xs) : SqT K H' a xs := by
  obtain ⟨g, b, c, eh, _⟩ := q
  rcases s with (s | ⟨o, s⟩) | s
  · exact .inl (.inl (f _ _ (fun e => by rw [e, eh] at s; cases s) s))
  · exact .inl (.inr ⟨o, f _ _ (fun e => by rw [e, eh] at s; cases s) s⟩)
  · exact .inr s
theorem HS.lk {h : Addr} {n : Nat} {K : PySem.W.Frag} {H H' : Hp} {a : Addr} {c : Int} {xs : List Int} (q : HS h n H) (f : Fr h H H') (l : Lk K H a c xs) : Lk K H' a c xs := by
  obtain ⟨t, h1, h2⟩ := l
  exact ⟨t, q.sqT f h1, q.sqT f h2⟩
theorem sqT_same {K : PySem.W.Frag} {H H' : Hp} {a : Addr} {xs : List V} (s : Same H H') (h : SqT K H a xs) : SqT K H' a xs := by
  rcases h with (h | ⟨o, h⟩) | h
  · exact .inl (.inl (s _ _ h))
  · exact .inl (.inr ⟨o, s _ _ h⟩)
  · exact .inr h
theorem Lk.same {K : PySem.W.Frag} {H H' : Hp} {a : Addr} {c : Int} {xs : List Int} (s : Same H H') (l : Lk K H a c xs) : Lk K H' a c xs := by
  obtain ⟨t, h1, h2⟩ := l
  exact ⟨t, sqT_same s h1, sqT_same s h2⟩
theorem flat_ints : ∀ ks : List Int, (ks.map V.int).all flatV = true
  | [] => rfl
  | k :: r => by
    show (flatV (.int k) && (r.map V.int).all flatV) = true
    rw [flat_ints r]
    rfl
/-- how far back the open ones stand: the eldest first -/
structure Back (s : Int) (bs : List Int) : Prop where
  dec : bs.Pairwise (· > ·)
  pos : ∀ b ∈ bs, 0 < b ∧ b < s / 2
  len : bs.length ≤ 6
def spLook (K : PySem.W.Frag) : Sp := fun vs H Q _ => ∃ (h : Addr) (s : Int) (n : Nat), vs = [.ref h, .int s] ∧ HS h n H ∧ n + 21 < lim ∧ 8 ≤ s ∧ s ≤ 1048576 ∧
  ∀ a c bs H', Back s bs → 0 ≤ c → c < s → Lk K H' a c (bs.map fun b => (c - b) % s) → HS h (n + 21) H' → Fr h H H' → Q (.ref a) H'
def spLow (K : PySem.W.Frag) : Sp := fun vs H Q _ => ∃ (a : Addr) (c : Int) (xs : List Int), vs = [.ref a] ∧ Lk K H a c xs ∧ Q (.int (xs.headD c)) H
def spSees (K : PySem.W.Frag) : Sp := fun vs H Q _ => ∃ (a : Addr) (c : Int) (xs : List Int) (n : Int) (z : Str) (s : Int), vs = [.ref a, .int n, .str z, .int s] ∧ Lk K H a c xs ∧ 0 < s ∧ s ≤ 1048576 ∧ Q (.bl (don z c xs n s)) H
/-! ### tuples: sums, slices, whatever they share -/
theorem catA_ev {K : PySem.W.Frag} {H : Hp} {a b : Addr} {xs ys : List V} {Q : VK} (ha : SqT K H a xs) (hb : SqT K H b ys) (hz : xs.length + ys.length ≤ 1000) (go : ∀ p H', Same H H' → SqT K H' p (xs ++ ys) → Q (.ref p) H') : rCatA K (.ref a) (.ref b) H Q := by
  refine ⟨a, b, xs, ys, rfl, rfl, ha, hb, Nat.le_of_lt (small1000 hz), fun e => ?_, fun e1 e2 => ?_, fun e1 e2 p np => ?_⟩
  · subst e
    exact go b H (fun _ _ q => q) hb
  · subst e2
    refine go a H (fun _ _ q => q) ?_
    rw [List.append_nil]
    exact ha
  · exact go p _ (same_new np) (SqT.of upd_same)
theorem slA_ev {K : PySem.W.Frag} {H : Hp} {a : Addr} {xs : List V} {lo hi : Option Int} {Q : VK} (ha : SqT K H a xs) (go : ∀ p H', Same H H' → SqT K H' p (cutV xs lo hi) → Q (.ref p) H') : rSlA K (.ref a) lo hi H Q := by
  refine ⟨a, xs, rfl, ha, fun e => ?_, fun e p np => ?_⟩
  · refine go a H (fun _ _ q => q) ?_
    unfold cutV
    rw [e.1, e.2, List.drop_zero, Nat.sub_zero, List.take_length]
    exact ha
  · exact go p _ (same_new np) (SqT.of upd_same)
theorem sqT_fr {K : PySem.W.Frag} {L : Addr} {H H' : Hp} {a : Addr} {xs zs : List V} (eL : H L = some (.lst zs)) (f : Fr L H H') (s : SqT K H a xs) : SqT K H' a xs := by
  rcases s with (s | ⟨o, s⟩) | s
  · exact .inl (.inl (f _ _ (fun e => by rw [e, eL] at s; cases s) s))
  · exact .inl (.inr ⟨o, f _ _ (fun e => by rw [e, eL] at s; cases s) s⟩)
  · exact .inr s
theorem HS.fr {h L : Addr} {n : Nat} {H H' : Hp} (q : HS h n H) (f : Fr L H H') (ne : L ≠ h) : HS h n H' := by
  obtain ⟨g, b, c, eh, r⟩ := q
  exact ⟨g, b, c, f _ _ ne.symm eh, r⟩
theorem HS.upd {h L : Addr} {n : Nat} {H : Hp} {o : HO} (q : HS h n H) (ne : L ≠ h) : HS h n (upd H L o) := by
  obtain ⟨g, b, c, eh, r⟩ := q
  exact ⟨g, b, c, (by rw [upd_ne ne.symm]; exact eh), r⟩
theorem lg {i : Int} (h : i.natAbs < 2 ^ 64) : i.natAbs.log2 < 1920 := by
  by_cases z : i.natAbs = 0
  · rw [z]
    decide
  · rw [Nat.log2_lt z]
    exact Nat.lt_trans h (Nat.pow_lt_pow_right (by decide) (by decide))
theorem same_mut {H H' : Hp} {p : Addr} {o : HO} (e : Same H H') (h : H p = none) : Same H (upd H' p o) := fun b x q => by
  rw [upd_ne (ne_of_none q h)]
  exact e b x q
theorem dec_refl (v : V) : decide (v = v) = true := decide_eq_true rfl
theorem take_add1 {α : Type} (l : List α) (i : Nat) (h : i < l.length) : l.take (i + 1) = l.take i ++ [l[i]] := by
  rw [List.take_succ, List.getElem?_eq_getElem h]
  rfl
/-! ### small data -/
structure Small (m : Nat) (d : PyData) : Prop where
  sh : d.showable = true
  nd : d.hasDict = false
  dp : d.depth ≤ 3
  ls : d.leavesShort 20 = true
  wt : d.weight ≤ m
theorem Small.fits {m : Nat} {d : PyData} (s : Small m d) (h : m ≤ 100000) : d.showable = true ∧ d.hasDict = false ∧ d.depth ≤ 60 ∧ d.shown.length ≤ sizeLine := by
  have o3 := s.dp
  have o5 := s.wt
  refine ⟨s.sh, s.nd, by omega, ?_⟩
  have z := PyData.shown_le 20 (by decide) d s.ls
  have e : sizeLine = 16777216 := sizeLine_eq
  omega
/-- a thing without parts, and its data -/
structure Lf (v : V) (d : PyData) : Prop where
  at_ : ∀ (K : PySem.W.Frag) (H : Hp), Dp K H v d
  sh : d.showable = true
  nd : d.hasDict = false
  dp : d.depth = 0
  ls : d.leavesShort 20 = true
  wt : d.weight ≤ 64
theorem Lf.small {v : V} {d : PyData} (l : Lf v d) : Small 64 d := ⟨l.sh, l.nd, by rw [l.dp]; decide, l.ls, l.wt⟩
theorem lf_non : Lf .non .none := ⟨fun _ _ => .non, rfl, rfl, rfl, rfl, by decide⟩
theorem lf_int {i : Int} (h : i.natAbs < 2 ^ 62) : Lf (.int i) (.int i) := by
  have e62 : (2 : Nat) ^ 62 = 4611686018427387904 := by decide
  refine ⟨fun _ _ => .int i, decide_eq_true (lg (Nat.lt_trans h (by decide))), rfl, rfl, ?_, ?_⟩
  · show decide ((PyData.shown (.int i)).length ≤ 20) = true
    refine decide_eq_true ?_
    have e := int_text_length_le10 (k := 19) (a := i) (by decide) (by omega)
    show (Str.ofString (toString i)).length ≤ 20
    rw [PySem.ofString_length]
    exact e
  · show (if i == 0 then 0 else i.natAbs.log2 + 1) ≤ 64
    split
    · decide
    · rename_i z
      have z1 : i.natAbs ≠ 0 := fun e => z (by simpa using e)
      have z2 := (Nat.log2_lt z1).mpr h
      omega
theorem lf_str {z : Str} (h : z.cps.size ≤ 64) (ha : (z.cps.toList.all fun c => decide (c < 16 ^ 8)) = true) : Lf (.str z) (.str z) := ⟨fun _ _ => .str z, rfl, rfl, rfl, ha, h⟩
def onV : Option Int → V
  | none => .non
  | some i => .int i
def onD : Option Int → PyData
  | none => .none
  | some i => .int i
theorem lf_on {x : Option Int} (h : ∀ i, x = some i → 0 ≤ i ∧ i < 1048576) : Lf (onV x) (onD x) := by
  cases x with
  | none => exact lf_non
  | some i =>
    have z := h i rfl
    have e62 : (2 : Nat) ^ 62 = 4611686018427387904 := by decide
    exact lf_int (by omega)
theorem small_tup4 {K : PySem.W.Frag} {H : Hp} {p : Addr} {a b c d : V} {da db dc dd : PyData} (h : SqT K H p [a, b, c, d]) (la : Lf a da) (lb : Lf b db) (lc : Lf c dc) (ld : Lf d dd) :
    Dp K H (.ref p) (.tuple [da, db, dc, dd]) ∧ Small 300 (.tuple [da, db, dc, dd]) := by
  refine ⟨.tup h (.cons (la.at_ K H) (.cons (lb.at_ K H) (.cons (lc.at_ K H) (.cons (ld.at_ K H) .nil)))), ?_, ?_, ?_, ?_, ?_⟩
  · simp only [PyData.showable, PyData.showableAll, la.sh, lb.sh, lc.sh, ld.sh, Bool.and_self]
  · simp only [PyData.hasDict, PyData.hasDictAll, la.nd, lb.nd, lc.nd, ld.nd, Bool.or_self]
  · simp only [PyData.depth, PyData.depthAll, la.dp, lb.dp, lc.dp, ld.dp]
    decide
  · simp only [PyData.leavesShort, PyData.leavesShortAll, la.ls, lb.ls, lc.ls, ld.ls, Bool.and_self]
  · simp only [PyData.weight, PyData.weightAll]
    have := la.wt
    have := lb.wt
    have := lc.wt
    have := ld.wt
    omega
/-! ### fates: a tuple of pairs, each number once -/
def dk (fs : List (Int × Str)) : List (Key × V) := fs.map fun p => (Sum.inl p.1, V.str p.2)
def fte (fs : List (Int × Str)) (x : Option Int) : Option Str := x.bind fun i => (fs.find? fun p => decide (p.1 = i)).map (·.2)
def oS (o : Option Str) : V := (o.map V.str).getD .non
def isS (o : Option Str) (z : Str) : Bool := decide (oS o = V.str z)
/-- the fates at F -/
def Ft (K : PySem.W.Frag) (H : Hp) (F : Addr) (fs : List (Int × Str)) : Prop := ∃ (o : Obj) (ps : List Addr), H F = some (.frz o (.tup (ps.map V.ref))) ∧ o.dict = none ∧ Paired (fun p f => SqT K H p [.int f.1, .str f.2]) ps fs
theorem paired_mono {α β : Type} {R S : α → β → Prop} (h : ∀ a b, R a b → S a b) : ∀ {as : List α} {bs : List β}, Paired R as bs → Paired S as bs
  | _, _, .nil => .nil
  | _, _, .cons a t => .cons (h _ _ a) (paired_mono h t)
theorem paired_len {α β : Type} {R : α → β → Prop} : ∀ {as : List α} {bs : List β}, Paired R as bs → as.length = bs.length
  | _, _, .nil => rfl
  | _, _, .cons _ t => congrArg Nat.succ (paired_len t)
theorem paired_at {α β : Type} {R : α → β → Prop} : ∀ {as : List α} {bs : List β} {j : Nat} (_ : Paired R as bs) (h1 : j < as.length) (h2 : j < bs.length), R as[j] bs[j]
  | _, _, 0, .cons q _, _, _ => q
  | _, _, j + 1, .cons _ t, h1, h2 => paired_at t (Nat.lt_of_succ_lt_succ h1) (Nat.lt_of_succ_lt_succ h2)
theorem Ft.same {K : PySem.W.Frag} {H H' : Hp} {F : Addr} {fs : List (Int × Str)} (s : Same H H') (f : Ft K H F fs) : Ft K H' F fs := by
  obtain ⟨o, ps, h1, h2, h3⟩ := f
  exact ⟨o, ps, s _ _ h1, h2, paired_mono (fun _ _ q => sqT_same s q) h3⟩
theorem Ft.fr {K : PySem.W.Frag} {h : Addr} {n : Nat} {H H' : Hp} {F : Addr} {fs : List (Int × Str)} (q : HS h n H) (fr : Fr h H H') (f : Ft K H F fs) : Ft K H' F fs := by
  obtain ⟨o, ps, h1, h2, h3⟩ := f
  refine ⟨o, ps, fr _ _ (fun e => ?_) h1, h2, paired_mono (fun _ _ z => q.sqT fr z) h3⟩
  obtain ⟨g, b, c, eh, _⟩ := q
  rw [e, eh] at h1
  cases h1
theorem paired_dk {K : PySem.W.Frag} {H : Hp} : ∀ {ps : List Addr} {fs : List (Int × Str)}, Paired (fun p f => SqT K H p [.int f.1, .str f.2]) ps fs → Paired (fun p (kv : Key × V) => SqT K H p [kV kv.1, kv.2]) ps (dk fs)
  | _, _, .nil => .nil
  | _, _, .cons a t => .cons a (paired_dk t)
theorem putK_new {acc : List (Key × V)} {k : Key} {v : V} (h : k ∉ acc.map (·.1)) : putK acc k v = acc ++ [(k, v)] := by
  unfold putK
  rw [if_neg]
  intro e
  obtain ⟨x, hx, e2⟩ := List.any_eq_true.mp e
  exact h (of_decide_eq_true e2 ▸ List.mem_map_of_mem hx)
theorem mergeK_new : ∀ (more acc : List (Key × V)), ((acc ++ more).map (·.1)).Nodup → mergeK acc more = acc ++ more
  | [], acc, _ => (List.append_nil acc).symm
  | p :: r, acc, h => by
    show mergeK (putK acc p.1 p.2) r = _
    have h2 : p.1 ∉ acc.map (·.1) := by
      rw [List.map_append, List.nodup_append] at h
      intro hm
      exact h.2.2 _ hm _ (List.mem_map_of_mem (List.mem_cons_self ..)) rfl
    rw [putK_new h2, mergeK_new r (acc ++ [(p.1, p.2)]) (by rw [List.append_assoc]; exact h), List.append_assoc]
    rfl
theorem dk_keys (fs : List (Int × Str)) : (dk fs).map (·.1) = (fs.map (·.1)).map Sum.inl := by
  unfold dk
  rw [List.map_map, List.map_map]
  rfl
theorem nodup_inl : ∀ {xs : List Int}, xs.Nodup → (xs.map (Sum.inl : Int → Key)).Nodup
  | [], _ => List.nodup_nil
  | x :: r, h => by
    rw [List.nodup_cons] at h
    rw [List.map_cons, List.nodup_cons]
    refine ⟨fun hm => ?_, nodup_inl h.2⟩
    obtain ⟨y, hy, e⟩ := List.mem_map.mp hm
    injection e with e2
    exact h.1 (e2 ▸ hy)
theorem merge_dk {fs : List (Int × Str)} (h : (fs.map (·.1)).Nodup) : mergeK [] (dk fs) = dk fs := by
  rw [mergeK_new (dk fs) [] (by rw [List.nil_append, dk_keys]; exact nodup_inl h), List.nil_append]
theorem val_dk : ∀ (fs : List (Int × Str)) (i : Int), valV (dk fs) (Sum.inl i) = ((fs.find? fun p => decide (p.1 = i)).map (·.2)).map V.str
  | [], _ => rfl
  | p :: r, i => by
    have ih := val_dk r i
    unfold valV at ih ⊢
    have e : dk (p :: r) = (Sum.inl p.1, V.str p.2) :: dk r := rfl
    rw [e]
    by_cases z : p.1 = i
    · subst z
      rw [List.find?_cons_of_pos (by simp), List.find?_cons_of_pos (by simp)]
      rfl
    · rw [List.find?_cons_of_neg (by simpa using z), List.find?_cons_of_neg (by simpa using z)]
      exact ih
theorem dgetN {H : Hp} {d : Addr} {fs : List (Int × Str)} (e : H d = some (.dK (dk fs))) (x : Option Int) : DGetN H d (onV x) ((fte fs x).map V.str) := by
  cases x with
  | none => exact .inr ⟨rfl, rfl, _, .inl e⟩
  | some i =>
    refine .inl ?_
    have z := DGet.k (k := (Sum.inl i : Key)) e
    rw [val_dk] at z
    exact z
theorem isD_dk {H : Hp} {d : Addr} {kvs : List (Key × V)} (e : H d = some (.dK kvs)) : IsD H d := .inl ⟨_, .inl e⟩
theorem isS_some {fs : List (Int × Str)} {x : Option Int} {z : Str} (h : isS (fte fs x) z = true) : ∃ i, x = some i := by
  cases x with
  | none => exact absurd (of_decide_eq_true h) (by intro e; cases e)
  | some i => exact ⟨i, rfl⟩
theorem isS_eq {o : Option Str} {z : Str} : isS o z = decide (o = some z) := by
  unfold isS oS
  refine decide_eq_decide.mpr ⟨fun e => ?_, fun e => by rw [e]; rfl⟩
  cases o with
  | none => cases e
  | some y =>
    injection e with e2
    rw [e2]
/-- what a fate may be -/
def Fate (z : Str) : Prop := z = "done" ∨ z = "open" ∨ z = "fell"
structure Fates (fs : List (Int × Str)) : Prop where
  nd : (fs.map (·.1)).Nodup
  ok : ∀ f ∈ fs, Fate f.2
theorem fa_has {fs : List (Int × Str)} (h : Fates fs) {i : Int} (hi : i ∈ fs.map (·.1)) : ∃ z, fte fs (some i) = some z ∧ Fate z := by
  obtain ⟨f, hf, e⟩ := List.mem_map.mp hi
  have q : (fs.find? fun p => decide (p.1 = i)).isSome = true := by
    rw [List.find?_isSome]
    exact ⟨f, hf, decide_eq_true e⟩
  obtain ⟨g, hg⟩ := Option.isSome_iff_exists.mp q
  exact ⟨g.2, by unfold fte; rw [Option.bind_some, hg]; rfl, h.ok g (List.mem_of_find?_eq_some hg)⟩
theorem inV_int (x : Int) : ∀ ks : List Int, inV (.int x) (ks.map V.int) = decide (x ∈ ks)
  | [] => rfl
  | k :: r => by
    show ((k == x) || inV (.int x) (r.map V.int)) = _
    rw [inV_int x r, Bool.eq_iff_iff]
    simp only [Bool.or_eq_true, beq_iff_eq, decide_eq_true_eq, List.mem_cons]
    exact ⟨fun e => e.imp (fun z => z.symm) id, fun e => e.imp (fun z => z.symm) id⟩
section
variable {P : Program} {w : World} {K : PySem.W.Frag} {mg : Str → Option Value} {base : Heap}
theorem cal_weak {k : Nat} {x : Str} {sp sp' : Sp} {ds : List V} (c : C8.Cal P w K mg base k x sp ds) (h : ∀ vs H Q E, sp' vs H Q E → sp vs H Q E) : C8.Cal P w K mg base k x sp' ds := by
  obtain ⟨f, fd, ps, dv, F, g, kp, b, v⟩ := c
  exact ⟨f, fd, ps, dv, ⟨fun vs H Q E q => F.len _ _ _ _ (h _ _ _ _ q), fun A outer s H args us vs Q E hr e0 bt r hsp => F.run A outer s H args us vs Q E hr e0 bt r (h _ _ _ _ hsp)⟩, g, kp, b, v⟩
def spOfT (K : PySem.W.Frag) : Sp := fun vs H Q _ => ∃ (h a : Addr) (xs : List V) (n : Nat), vs = [.ref h, .ref a] ∧ HS h n H ∧ n < lim ∧ SqT K H a xs ∧ 0 < xs.length ∧ xs.length ≤ 1000 ∧ ∀ v H', v ∈ xs → HS h (n + 1) H' → Fr h H H' → Q v H'
def spOf2 (K : PySem.W.Frag) : Sp := fun vs H Q E => spOf K vs H Q E ∨ spOfT K vs H Q E
theorem ok_of2 (T : Tx K mg) (c_l_take : C8.Cal P w K mg base 1 "_law_take" spTake []) : BodyOk P w K mg base "_law_of" s_l_of N_l_of 1 (spOf2 K) := by
  intro f cdv A outer s H vs Q E hr h
  have z18 : (10 : Int) ^ 18 = 1000000000000000000 := by decide
  refine ⟨_, (pss_one (ps_ret (pe_ix ix_seq (pv 1) (C8.pe_c c_l_take hr (by decide) (gl_of gl_l_of_l_take) (pa_cons (pv 0) (pa_cons (pe_callB call_len_seq (gl_of gl_l_of_len) T.len bb_len (pa_cons (pv 1) pa_nil)) pa_nil))) (fun _ _ => rfl)))), ?_⟩
  rcases h with ⟨h, a, xs, n, rfl, hs, hn, ne, hS, l0, l1, q⟩ | ⟨h, a, xs, n, rfl, hs, hn, hS, l0, l1, q⟩
  · refine ⟨_, rfl, _, rfl, _, rfl, a, xs, rfl, .inl hS, h, _, n, rfl, hs, hn, by omega, by omega, fun d H1 d0 d1 hs1 f1 => ?_⟩
    obtain ⟨v, ev, hv⟩ := atI_in d0 d1
    exact .inl ⟨a, xs, d, v, rfl, rfl, f1.seq ne hS, ev, q v H1 hv hs1 f1⟩
  · refine ⟨_, rfl, _, rfl, _, rfl, a, xs, rfl, .inr hS, h, _, n, rfl, hs, hn, by omega, by omega, fun d H1 d0 d1 hs1 f1 => ?_⟩
    obtain ⟨v, ev, hv⟩ := atI_in d0 d1
    exact .inr (.inl ⟨a, xs, d, v, rfl, rfl, hs.sqT f1 hS, ev, q v H1 hv hs1 f1⟩)
theorem ok_look (T : Tx K mg) (c_l_take : C8.Cal P w K mg base 1 "_law_take" spTake []) (c_l_of : C8.Cal P w K mg base 2 "_law_of" (spOf K) []) : BodyOk P w K mg base "_law_look" s_l_look N_l_look 2 (spLook K) := by
  intro f cdv A outer s H vs Q E hr h
  obtain ⟨h, s, n, rfl, hs, hn, s0, s1, q⟩ := h
  have hn2 : n + 21 < 100000 := hn
  have p18' : (10 : Int) ^ 18 = 1000000000000000000 := by decide
  refine ⟨_, (pss_cons (ps_par3 (i := 2) (j := 3) (l := 4) (by rfl) sc_l_look.nd rfl rfl rfl (by decide) (by decide) (by decide) rfl rfl rfl (pa_cons (C8.pe_c c_l_of hr (by decide) (gl_of gl_l_look_l_of) (pa_cons (pv 0) (pa_cons (pe_lst (pa_cons pe_int (pa_cons (pe_op op_sub (pv 1) pe_int) (pa_cons pe_int (pa_cons (C8.pe_c c_l_take hr (by decide) (gl_of gl_l_look_l_take) (pa_cons (pv 0) (pa_cons (pv 1) pa_nil))) pa_nil))))) pa_nil))) (pa_cons pe_int (pa_cons (pe_lst pa_nil) pa_nil))) (by rfl))
      (pss_cons (ps_for PassesOwn.never rfl (pi_range1 (by rfl) T.range (pa_cons (C8.pe_c c_l_of hr (by decide) (gl_of gl_l_look_l_of) (pa_cons (pv 0) (pa_cons (pe_lst (pa_cons pe_int (pa_cons pe_int (pa_cons pe_int (pa_cons pe_int (pa_cons pe_int pa_nil)))))) pa_nil))) pa_nil)) (pg_name (i := 5) sc_l_look.nd rfl (Or.inl rfl)) (pss_cons (ps_set (i := 3) sc_l_look.nd rfl (Or.inl rfl) (pe_op op_add (pe_op op_add (pv 3) pe_int) (C8.pe_c c_l_of hr (by decide) (gl_of gl_l_look_l_of) (pa_cons (pv 0) (pa_cons (pe_lst (pa_cons pe_int (pa_cons pe_int (pa_cons (C8.pe_c c_l_take hr (by decide) (gl_of gl_l_look_l_take) (pa_cons (pv 0) (pa_cons pe_int pa_nil))) (pa_cons (C8.pe_c c_l_take hr (by decide) (gl_of gl_l_look_l_take) (pa_cons (pv 0) (pa_cons (pe_op op_fdivW (pv 1) pe_int) pa_nil))) pa_nil))))) pa_nil)))))
      (pss_one (ps_if (pt_cmpR op_lt (pv 3) (pe_op op_fdivW (pv 1) pe_int) (nomark _)) (pss_one (ps_expr (pe_bm PySem.F.plainAttrs_list PySem.F.slot_list_append PySem.F.type_list_append mt_append (pv 4) (pa_cons (pe_op op_mod (pe_op op_sub (pv 2) (pv 3)) (pv 1)) pa_nil)))) pss_nil))))
      (pss_one (ps_ret (pe_tup (pa_cons (pv 2) (pa_cons (pe_callTy call_tuple_of (gl_of gl_l_look_tuple) T.tuple bt_tuple (pa_cons (pe_revL (pv 4)) pa_nil)) pa_nil))))))), ?_⟩
  refine st_seq ?_
  refine ⟨_, rfl, _, rfl, _, _, rfl, rfl, _, rfl, _, rfl, h, s, n, rfl, hs, (show n < 100000 by omega), by omega, by omega, fun d H1 d0 d1 hs1 f1 => ?_⟩
  refine ⟨(show 4 ≤ sizeLine by decide), fun l1 nl1 => ?_⟩
  refine ⟨h, l1, [.int 0, .int (s - 1), .int 1, .int d], n + 1, rfl, hs1.new nl1, (show n + 1 < 100000 by omega), hs1.ne nl1, SqL.of upd_same, (show 0 < 4 by decide), (show 4 ≤ 1000 by decide), fun v H2 hv hs2 f2 => ?_⟩
  have hx : ∃ x : Int, v = .int x ∧ 0 ≤ x ∧ x < s := by
    simp only [List.mem_cons, List.not_mem_nil, or_false] at hv
    rcases hv with rfl | rfl | rfl | rfl <;> exact ⟨_, rfl, by omega, by omega⟩
  obtain ⟨c, rfl, c0, c1⟩ := hx
  have f02 : Fr h H H2 := f1.trans ((Fr.new nl1).trans f2)
  refine ⟨(show 0 ≤ sizeLine by decide), fun L nL => ?_⟩
  refine ⟨_, _, _, rfl, ?_⟩
  have eL : (upd H2 L (.lst [])) L = some (.lst []) := upd_same
  have hs3 : HS h (n + 1 + 1) (upd H2 L (.lst [])) := hs2.new nL
  have nLh : L ≠ h := hs2.ne nL
  have f3 : Fr h H2 (upd H2 L (.lst [])) := Fr.new nL
  generalize upd H2 L (.lst []) = H3 at eL hs3 f3
  refine st_seq ?_
  refine ⟨_, rfl, (show 5 ≤ sizeLine by decide), fun l2 nl2 => ?_⟩
  refine ⟨h, l2, [.int 2, .int 1, .int 3, .int 0, .int 6], n + 1 + 1, rfl, hs3.new nl2, (show n + 1 + 1 < 100000 by omega), hs3.ne nl2, SqL.of upd_same, (show 0 < 5 by decide), (show 5 ≤ 1000 by decide), fun v H4 hv hs4 f4 => ?_⟩
  have hx : ∃ x : Nat, v = .int x ∧ x ≤ 6 := by
    simp only [List.mem_cons, List.not_mem_nil, or_false] at hv
    rcases hv with rfl | rfl | rfl | rfl | rfl
    · exact ⟨2, rfl, by decide⟩
    · exact ⟨1, rfl, by decide⟩
    · exact ⟨3, rfl, by decide⟩
    · exact ⟨0, rfl, by decide⟩
    · exact ⟨6, rfl, by decide⟩
  obtain ⟨m, rfl, m6⟩ := hx
  have eL4 : H4 L = some (.lst []) := f4 _ _ nLh (Fr.new (h := h) nl2 _ _ nLh eL)
  have f34 : Fr h H2 H4 := f3.trans ((Fr.new nl2).trans f4)
  refine ⟨(m : Int), rfl, by omega, by omega, ?_⟩
  refine for_range (lo := 0) (n := ((m : Int)).toNat) (fun i σ H' => ∃ (b : Int) (y5 : Option V) (cs : List Int), σ = [some (.ref h), some (.int s), some (.int c), some (.int b), some (.ref L), y5] ∧ 0 ≤ b ∧ cs.Pairwise (· < ·) ∧ (∀ x ∈ cs, 0 < x ∧ x < s / 2 ∧ x ≤ b) ∧ cs.length ≤ i ∧ H' L = some (.lst ((cs.map fun b => (c - b) % s).map V.int)) ∧ HS h (n + 3 + 3 * i) H' ∧ Fr h H H') ⟨0, none, [], rfl, by decide, List.Pairwise.nil, (fun x hx => by cases hx), Nat.le_refl 0, eL4, hs4.mono (by omega), f02.trans f34⟩ (fun i σ H5 hi hP => ?_) (fun σ H5 hP => ?_)
  · obtain ⟨b, y5, cs, rfl, b0, pw, hc, lc, eL5, hs5, f5⟩ := hP
    have hi2 : i < 6 := by omega
    refine st_seq ?_
    refine ⟨_, rfl, _, _, rfl, rfl, _, rfl, _, rfl, h, 3, n + 3 + 3 * i, rfl, hs5, (show n + 3 + 3 * i < 100000 by omega), by decide, by decide, fun d2 H6 d20 d21 hs6 f6 => ?_⟩
    refine ⟨_, rfl, _, rfl, _, _, rfl, rfl, cdw (by decide) (by decide), h, s / 2, n + 3 + 3 * i + 1, rfl, hs6, (show n + 3 + 3 * i + 1 < 100000 by omega), by omega, by omega, fun d3 H7 d30 d31 hs7 f7 => ?_⟩
    refine ⟨(show 4 ≤ sizeLine by decide), fun l3 nl3 => ?_⟩
    refine ⟨h, l3, [.int 0, .int 0, .int d2, .int d3], n + 3 + 3 * i + 1 + 1, rfl, hs7.new nl3, (show n + 3 + 3 * i + 1 + 1 < 100000 by omega), hs7.ne nl3, SqL.of upd_same, (show 0 < 4 by decide), (show 4 ≤ 1000 by decide), fun v H8 hv hs8 f8 => ?_⟩
    have hx : ∃ x : Int, v = .int x ∧ 0 ≤ x := by
      simp only [List.mem_cons, List.not_mem_nil, or_false] at hv
      rcases hv with rfl | rfl | rfl | rfl <;> exact ⟨_, rfl, by omega⟩
    obtain ⟨e, rfl, e0⟩ := hx
    have f58 : Fr h H5 H8 := (f6.trans f7).trans ((Fr.new nl3).trans f8)
    have eL8 := f58 _ _ nLh eL5
    refine ⟨_, _, rfl, rfl, ?_⟩
    refine ⟨_, rfl, _, rfl, _, _, rfl, rfl, cdw (by decide) (by decide), _, _, rfl, rfl, _, rfl, ite2 (fun y => ?_) (fun y => ?_)⟩
    · have y2 : b + 1 + e < s / 2 := of_decide_eq_true y
      refine ⟨_, rfl, .inl ⟨rfl, _, SqL.of eL8⟩, _, rfl, _, rfl, _, _, rfl, rfl, _, rfl, _, _, rfl, rfl, (show 0 < s by omega), L, _, _, rfl, rfl, eL8, ?_, ?_⟩
      · rw [List.length_map, List.length_map]
        exact small1000 (by omega)
      · refine ⟨b + 1 + e, _, cs ++ [b + 1 + e], rfl, by omega, ?_, ?_, ?_, ?_, ?_, ?_⟩
        · rw [List.pairwise_append]
          refine ⟨pw, List.pairwise_singleton _ _, fun x hx y hy => ?_⟩
          rw [List.mem_singleton.mp hy]
          have := hc x hx
          omega
        · intro x hx
          rcases List.mem_append.mp hx with e1 | e1
          · have := hc x e1
            omega
          · rw [List.mem_singleton.mp e1]
            omega
        · rw [List.length_append]
          show cs.length + 1 ≤ i + 1
          omega
        · rw [upd_same, List.map_append, List.map_append]
          rfl
        · obtain ⟨g, bb, cc, eh, r⟩ := hs8.mono (m := n + 3 + 3 * (i + 1)) (by omega)
          exact ⟨g, bb, cc, (by rw [upd_ne nLh.symm]; exact eh), r⟩
        · exact Fr.mut (f5.trans f58) (f02.free nLh nL)
    · refine ⟨b + 1 + e, _, cs, rfl, by omega, pw, fun x hx => ?_, by omega, eL8, hs8.mono (by omega), f5.trans f58⟩
      have := hc x hx
      omega
  · obtain ⟨b, y5, cs, rfl, b0, pw, hc, lc, eL5, hs5, f5⟩ := hP
    refine ⟨_, rfl, _, rfl, L, _, rfl, SqL.of eL5, fun l4 nl4 => ?_⟩
    refine ⟨l4, _, rfl, .inl ⟨SqL.of upd_same, fun t2 nt2 => ?_⟩⟩
    refine ⟨(show 2 ≤ sizeLine by decide), fun a na => ?_⟩
    have et2 : (upd (upd H5 l4 (.lst ((cs.map fun b => (c - b) % s).map V.int).reverse)) t2 (.tup ((cs.map fun b => (c - b) % s).map V.int).reverse)) t2 = some (.tup ((cs.map fun b => (c - b) % s).map V.int).reverse) := upd_same
    refine q a c cs.reverse _ ⟨?_, ?_, ?_⟩ c0 c1 ⟨t2, SqT.of upd_same, SqT.of ?_⟩ ?_ ?_
    · rw [List.pairwise_reverse]
      exact pw
    · intro x hx
      have := hc x (List.mem_reverse.mp hx)
      omega
    · rw [List.length_reverse]
      omega
    · rw [same_new na _ _ et2, List.map_reverse, List.map_reverse]
    · exact (((hs5.new nl4).new nt2).new na).mono (by omega)
    · exact f5.trans ((Fr.new nl4).trans ((Fr.new nt2).trans (Fr.new na)))
end
/-! ### frozen -/
def befO (x : Option Int) (u s : Int) : Bool := match x with
  | none => false
  | some i => bef i u s
def froz (fs : List (Int × Str)) (m e : Option Int) (u s : Int) : Option (Option Int × Option Int) :=
  if (isS (fte fs m) "fell" || (isS (fte fs e) "done" && befO e u s)) = true then none
  else some (if (isS (fte fs m) "done" && befO m u s) = true then none else m, if isS (fte fs e) "fell" = true then none else e)
def Res (K : PySem.W.Frag) (H : Hp) (k wv v : V) : Option (Option Int × Option Int) → Prop
  | none => v = .non
  | some r => ∃ p, v = .ref p ∧ SqT K H p [k, wv, onV r.1, onV r.2]
theorem Res.same {K : PySem.W.Frag} {H H' : Hp} {k wv v : V} {r : Option (Option Int × Option Int)} (s : Same H H') (h : Res K H k wv v r) : Res K H' k wv v r := by
  cases r with
  | none => exact h
  | some r =>
    obtain ⟨p, e, q⟩ := h
    exact ⟨p, e, sqT_same s q⟩
def spFroA (K : PySem.W.Frag) : Sp := fun vs H Q _ => ∃ (v : Addr) (k wv : V) (m e : Option Int) (u s : Int) (d : Addr) (fs : List (Int × Str)), vs = [.ref v, .int u, .ref d, .int s] ∧ SqT K H v [k, wv, onV m, onV e] ∧ H d = some (.dK (dk fs)) ∧ 0 < s ∧ s ≤ 1048576 ∧
  ∀ (y : V) (H' : Hp), Same H H' → Res K H' k wv y (froz fs m e u s) → Q y H'
def spFro (K : PySem.W.Frag) : Sp := fun vs H Q _ => ∃ (v : Addr) (k wv : V) (m e : Option Int) (u s : Int) (F : Addr) (fs : List (Int × Str)), vs = [.ref v, .int u, .ref F, .int s] ∧ SqT K H v [k, wv, onV m, onV e] ∧ Ft K H F fs ∧ (fs.map (·.1)).Nodup ∧ 0 < s ∧ s ≤ 1048576 ∧
  ∀ (y : V) (H' : Hp), Same H H' → Res K H' k wv y (froz fs m e u s) → Q y H'
theorem oS_get (o : Option Str) : (o.map V.str).getD .non = oS o := rfl
theorem scal_oS (o : Option Str) (z : Str) : scal (oS o) (.str z) = true := by
  cases o <;> rfl
theorem st_ifA {c : TT} {t1 t2 : TS} {D : Ends} {σ : L2.St} {H : Hp} (b : Bool) (h : Ans c σ H b) (y : b = true → t1 D σ H) (n : b = false → t2 D σ H) : tIfS c t1 t2 D σ H := by
  cases b with
  | true => exact st_yes h (y rfl)
  | false => exact st_no h (n rfl)
/-- the law's body, called by the caller itself -/
def BodyAt (P : Program) (w : World) (K : PySem.W.Frag) (mg : Str → Option Value) (base : Heap) (x : Str) (st : Stmt) (N : List Str) (k : Nat) (sp : Sp) : Prop :=
  ∀ (f : Addr) (cdv : Value) (s : Shared) (H : Hp) (vs : List V) (Q : VK) (E : XK), Room k (callerA.deeper (envOfC x (defScope st) s.heap.objs.size f cdv)) → sp vs H Q E →
      ∃ t, PSs (cxOf CX0 P w K mg base N x (defScope st) f cdv callerA [] s H E).nox (defBody st) t ∧ t { nx := fun _ H' => Q .non H', rt := Q } (start N vs) H
theorem lk_new {K : PySem.W.Frag} {H : Hp} {t0 t1 : Addr} {c : Int} (n1 : (upd H t0 (.tup [])) t1 = none) : Lk K (upd (upd H t0 (.tup [])) t1 (.tup [.int c, .ref t0])) t1 c [] :=
  ⟨t0, SqT.of upd_same, SqT.of (same_new n1 _ _ upd_same)⟩
def resD (kd wd : PyData) : Option (Option Int × Option Int) → PyData
  | none => .none
  | some r => .tuple [kd, wd, onD r.1, onD r.2]
theorem res_data {K : PySem.W.Frag} {H : Hp} {k wv y : V} {kd wd : PyData} {r : Option (Option Int × Option Int)} (h : Res K H k wv y r) (lk : Lf k kd) (lw : Lf wv wd) (hb : ∀ q, r = some q → (∀ i, q.1 = some i → 0 ≤ i ∧ i < 1048576) ∧ ∀ i, q.2 = some i → 0 ≤ i ∧ i < 1048576) :
    Dp K H y (resD kd wd r) ∧ Small 300 (resD kd wd r) := by
  cases r with
  | none =>
    have e : y = .non := h
    subst e
    exact ⟨.non, rfl, rfl, (show 0 ≤ 3 by decide), rfl, (show 0 ≤ 300 by decide)⟩
  | some q =>
    obtain ⟨p, rfl, e⟩ := h
    obtain ⟨b1, b2⟩ := hb q rfl
    exact small_tup4 e lk lw (lf_on b1) (lf_on b2)
theorem froz_bounds {fs : List (Int × Str)} {m e : Option Int} {u s : Int} (hm : ∀ i, m = some i → 0 ≤ i ∧ i < 1048576) (he : ∀ i, e = some i → 0 ≤ i ∧ i < 1048576) : ∀ q, froz fs m e u s = some q → (∀ i, q.1 = some i → 0 ≤ i ∧ i < 1048576) ∧ ∀ i, q.2 = some i → 0 ≤ i ∧ i < 1048576 := by
  intro q h
  unfold froz at h
  split at h
  · cases h
  · cases h
    refine ⟨fun i hi => ?_, fun i hi => ?_⟩
    · dsimp only at hi
      split at hi
      · cases hi
      · exact hm i hi
    · dsimp only at hi
      split at hi
      · cases hi
      · exact he i hi
/-! ### what is a look, of anything -/
def odds7 : List String := ["NoneType", "bool", "str", "list", "dict"]
/-- a thing of another type than int and tuple -/
def Odd7 (K : PySem.W.Frag) (H : Hp) (v : V) : Prop := ∃ T, T ∈ odds7 ∧ TyX K H v (.type T)
def Num (v : V) (s : Int) : Prop := ∃ i, v = .int i ∧ 0 ≤ i ∧ i < s
def NoNum (K : PySem.W.Frag) (H : Hp) (v : V) (s : Int) : Prop := Odd7 K H v ∨ (∃ a xs, v = .ref a ∧ SqT K H a xs) ∨ ∃ i, v = .int i ∧ ¬ (0 ≤ i ∧ i < s)
theorem ty_sqT {K : PySem.W.Frag} {H : Hp} {a : Addr} {xs : List V} (h : SqT K H a xs) : TyX K H (.ref a) (.type "tuple") := by
  rcases h with (h | ⟨o, h⟩) | ⟨o, its, n, hk, hc, hs, hz, r⟩
  · exact .base (.tup h)
  · exact .fTuple h
  · exact .kTuple hk hc
def inOrd (ns : List Int) (l : Int) (s : Int) : Bool := ((ns ++ [l]).zip ((ns ++ [l]).drop 1)).all (fun p => bef p.1 p.2 s) && ns.all fun x => bef x l s
/-- a look's second part: no tuple, or one of numbers and others -/
def Part (K : PySem.W.Frag) (H : Hp) (s : Int) (y : V) : Prop := (Odd7 K H y ∨ ∃ i, y = .int i) ∨ ∃ t ys, y = .ref t ∧ SqT K H t ys ∧ ys.length ≤ 60 ∧ ∀ e ∈ ys, Num e s ∨ NoNum K H e s
inductive LkR (K : PySem.W.Frag) (H : Hp) (s : Int) : V → Bool → Prop
  | odd {v : V} : Odd7 K H v → LkR K H s v false
  | int (i : Int) : LkR K H s (.int i) false
  | len {a : Addr} {xs : List V} : SqT K H a xs → xs.length ≠ 2 → LkR K H s (.ref a) false
  | fst {a : Addr} {x y : V} : SqT K H a [x, y] → NoNum K H x s → Part K H s y → LkR K H s (.ref a) false
  | snd {a : Addr} {x y : V} : SqT K H a [x, y] → Num x s → (Odd7 K H y ∨ ∃ i, y = .int i) → LkR K H s (.ref a) false
  | thd {a t : Addr} {x : V} {ys : List V} : SqT K H a [x, .ref t] → Num x s → SqT K H t ys → ys.length ≤ 60 → (∀ y ∈ ys, Num y s ∨ NoNum K H y s) → (∃ y ∈ ys, NoNum K H y s) → LkR K H s (.ref a) false
  | yes {a : Addr} {c : Int} {xs : List Int} : Lk K H a c xs → xs.length ≤ 60 → 0 ≤ c → c < s → (∀ x ∈ xs, 0 ≤ x ∧ x < s) → LkR K H s (.ref a) (inOrd xs c s)
def spWhole (K : PySem.W.Frag) : Sp := fun vs H Q _ => ∃ v, vs = [v] ∧ (((Odd7 K H v ∨ ∃ a xs, v = .ref a ∧ SqT K H a xs) ∧ Q (.bl false) H) ∨ ∃ i, v = .int i ∧ Q (.bl true) H)
def spNumber (K : PySem.W.Frag) : Sp := fun vs H Q _ => ∃ v s, vs = [v, .int s] ∧ ((Num v s ∧ Q (.bl true) H) ∨ (NoNum K H v s ∧ Q (.bl false) H))
def spOrder (K : PySem.W.Frag) : Sp := fun vs H Q _ => ∃ (L : Addr) (ns : List Int) (l s : Int), vs = [.ref L, .int s] ∧ SqL K H L ((ns ++ [l]).map V.int) ∧ ns.length ≤ 100 ∧ 0 < s ∧ s ≤ 1048576 ∧ ∀ H', Same H H' → Q (.bl (inOrd ns l s)) H'
def spIsLook (K : PySem.W.Frag) : Sp := fun vs H Q _ => ∃ (v : V) (s : Int) (b : Bool), vs = [v, .int s] ∧ LkR K H s v b ∧ 0 < s ∧ s ≤ 1048576 ∧ ∀ H', Same H H' → Q (.bl b) H'
theorem kb {T U : String} {r : Bool} {K : PySem.W.Frag} (h : kitB T U = some r) : PySem.W.kitOne K (.type T) (.type U) = some r := kit_ty h
theorem odd_int {T : String} (h : T ∈ odds7) : ∃ b : Bool, kitB T "int" = some b ∧ kitB T "tuple" = some false ∧ (b = true → kitB T "bool" = some true) := by
  simp only [odds7, List.mem_cons, List.not_mem_nil, or_false] at h
  rcases h with rfl | rfl | rfl | rfl | rfl
  · exact ⟨false, by decide +kernel, by decide +kernel, by intro z; cases z⟩
  · exact ⟨true, by decide +kernel, by decide +kernel, by intro z; decide +kernel⟩
  · exact ⟨false, by decide +kernel, by decide +kernel, by intro z; cases z⟩
  · exact ⟨false, by decide +kernel, by decide +kernel, by intro z; cases z⟩
  · exact ⟨false, by decide +kernel, by decide +kernel, by intro z; cases z⟩
section
variable {P : Program} {w : World} {K : PySem.W.Frag} {mg : Str → Option Value} {base : Heap}
theorem ok_whole (T : Tx K mg) : BodyOk P w K mg base "is_whole" s_is_whole N_is_whole 0 (spWhole K) := by
  intro f cdv A outer s H vs Q E hr h
  obtain ⟨v, rfl, h⟩ := h
  refine ⟨_, (pss_one (ps_ret (pe_and (pe_callB call_isi (gl_of gl_is_whole_isinstance) T.isinstance bb_isinstance (pa_cons (pv 0) (pa_cons (pe_bltn (v := .ty "int") (gl_of gl_is_whole_int) T.int bt_int rfl) pa_nil))) (pe_one (pe_not (pe_callB call_isi (gl_of gl_is_whole_isinstance) T.isinstance bb_isinstance (pa_cons (pv 0) (pa_cons (pe_bltn (v := .ty "bool") (gl_of gl_is_whole_bool) T.bool bt_bool rfl) pa_nil)))))))), ?_⟩
  rcases h with ⟨h | ⟨a, xs, rfl, hT⟩, q⟩ | ⟨i, rfl, q⟩
  · obtain ⟨T', hT', ty⟩ := h
    obtain ⟨b, k1, k2, k3⟩ := odd_int hT'
    refine ⟨_, rfl, _, _, _, _, b, rfl, .ty "int", ty, kb k1, _, rfl, ite2 (fun y => ?_) (fun y => q)⟩
    exact ⟨_, rfl, _, _, _, _, true, rfl, .ty "bool", ty, kb (k3 y), _, rfl, q⟩
  · refine ⟨_, rfl, _, _, _, _, false, rfl, .ty "int", ty_sqT hT, kb (by decide +kernel), _, rfl, iteF q⟩
  · refine ⟨_, rfl, _, _, _, _, true, rfl, .ty "int", .base (.int i), kb (by decide +kernel), _, rfl, iteT ?_⟩
    exact ⟨_, rfl, _, _, _, _, false, rfl, .ty "bool", .base (.int i), kb (by decide +kernel), _, rfl, q⟩
theorem ok_number (T : Tx K mg) (c_is_whole : C8.Cal P w K mg base 1 "is_whole" (spWhole K) []) : BodyOk P w K mg base "is_number" s_is_number N_is_number 1 (spNumber K) := by
  intro f cdv A outer s H vs Q E hr h
  obtain ⟨v, s, rfl, h⟩ := h
  refine ⟨_, (pss_one (ps_ret (pe_and (C8.pe_c c_is_whole hr (by decide) (gl_of gl_is_number_is_whole) (pa_cons (pv 0) pa_nil)) (pe_one (pe_chain op_le op_lt pe_int (pv 0) (pv 1)))))), ?_⟩
  rcases h with ⟨⟨i, rfl, i0, i1⟩, q⟩ | ⟨h | h | ⟨i, rfl, hi⟩, q⟩
  · refine ⟨_, rfl, _, rfl, .inr ⟨i, rfl, true, rfl, iteT ?_⟩⟩
    refine ⟨_, rfl, _, _, rfl, rfl, _, rfl, ?_⟩
    rw [decide_eq_true i0]
    refine iteT ⟨_, rfl, _, _, rfl, rfl, ?_⟩
    show Q (.bl (decide (i < s))) H
    rw [decide_eq_true i1]
    exact q
  · exact ⟨_, rfl, _, rfl, .inl ⟨.inl h, false, rfl, iteF q⟩⟩
  · exact ⟨_, rfl, _, rfl, .inl ⟨.inr h, false, rfl, iteF q⟩⟩
  · refine ⟨_, rfl, _, rfl, .inr ⟨i, rfl, true, rfl, iteT ?_⟩⟩
    refine ⟨_, rfl, _, _, rfl, rfl, _, rfl, ite2 (fun y => ?_) (fun y => q)⟩
    have y2 : 0 ≤ i := of_decide_eq_true y
    refine ⟨_, rfl, _, _, rfl, rfl, ?_⟩
    show Q (.bl (decide (i < s))) H
    rw [decide_eq_false (fun z => hi ⟨y2, z⟩)]
    exact q
theorem cut1 (ns : List Int) : cutV (ns.map V.int) (some 1) none = (ns.drop 1).map V.int := by
  unfold cutV
  rw [show HT.sIx (ns.map V.int).length 0 (some 1) = min 1 (ns.map V.int).length from HT.sIx_nat _ _ 1, HT.sIx_none, List.length_map, ← List.map_drop, ← List.map_take]
  congr 1
  cases ns with
  | nil => rfl
  | cons x r =>
    rw [show min 1 (x :: r).length = 1 from by rw [List.length_cons]; omega]
    refine List.take_of_length_le ?_
    rw [List.length_drop]
    exact Nat.le_refl _
theorem cutL (ns : List Int) (l : Int) : cutV ((ns ++ [l]).map V.int) none (some (-1)) = ns.map V.int := by
  unfold cutV
  have e1 : HT.sIx ((ns ++ [l]).map V.int).length ((ns ++ [l]).map V.int).length (some (-1)) = ns.length := by
    unfold HT.sIx
    dsimp only
    rw [if_pos (by decide), List.length_map, List.length_append]
    show (-1 + ((ns.length + 1 : Nat) : Int)).toNat = ns.length
    omega
  rw [e1, HT.sIx_none, List.drop_zero, Nat.sub_zero, List.map_append]
  exact List.take_left' (by rw [List.length_map])
theorem zip_ints : ∀ (xs ys : List Int), (xs.map V.int).zip (ys.map V.int) = (xs.zip ys).map fun p => (V.int p.1, V.int p.2)
  | [], _ => rfl
  | _ :: _, [] => rfl
  | x :: xs, y :: ys => by
    show (V.int x, V.int y) :: (xs.map V.int).zip (ys.map V.int) = _
    rw [zip_ints xs ys]
    rfl
theorem paired_map {α β γ : Type} {R : α → β → Prop} {g : γ → β} : ∀ {as : List α} {cs : List γ}, Paired R as (cs.map g) → Paired (fun a c => R a (g c)) as cs
  | _, [], .nil => .nil
  | _, _ :: _, .cons h t => .cons h (paired_map t)
theorem paired_app {α β : Type} {R : α → β → Prop} : ∀ {as : List α} {bs : List β} {cs : List α} {ds : List β}, Paired R as bs → Paired R cs ds → Paired R (as ++ cs) (bs ++ ds)
  | _, _, _, _, .nil, h => h
  | _, _, _, _, .cons a t, h => .cons a (paired_app t h)
theorem ok_order (T : Tx K mg) (k_before : CalK P w K mg base 2 "before" 2 ["ring"] spBefore) : BodyOk P w K mg base "in_order" s_in_order N_in_order 2 (spOrder K) := by
  intro f cdv A outer s H vs Q E hr h
  obtain ⟨L, ns, l, s, rfl, hL, ln, s0, s1, q⟩ := h
  refine ⟨_, (pss_cons (ps_set (i := 2) sc_in_order.nd rfl (Or.inl rfl) (pe_listZip rfl (gl_of gl_in_order_list) T.list (gl_of gl_in_order_zip) T.zip (pa_cons (pv 0) (pa_cons (pe_slice sl_list (pv 0) (po_some pe_int) po_none) pa_nil))))
      (pss_cons (ps_aug (i := 2) sc_in_order.nd rfl (Or.inl rfl) (pe_lc (own := [("one", 3)]) (g := gName 3) (tt := tYes) rfl sc_in_order.nd (pi_list (pe_slice sl_list (pv 0) po_none (po_some (pe_un un_neg pe_int)))) (blkOk_by (own := [("one", 3)]) (N := N_in_order) (sc := defScope s_in_order) (by decide +kernel)) (fun _ _ _ _ _ => pg_name (i := 3) sc_in_order.nd rfl (Or.inl rfl)) (fun _ _ _ _ _ => pts_nil) (fun _ _ _ _ _ => (pe_tup (pa_cons (pv 3) (pa_cons (pe_ix (ix_listK (K1 := K) rfl) (pv 0) (pe_un un_neg pe_int) (fun _ _ => rfl)) pa_nil))))) iop_ext)
      (pss_one (ps_ret (pe_callB (cr_all rfl) (gl_of gl_in_order_all) T.all bb_all (pa_cons (pe_lc (own := [("one", 3), ("other", 4)]) (g := gTup K 2 (gCons (gName 3) (gCons (gName 4) gNil))) (tt := tYes) rfl sc_in_order.nd (pi_list (pv 2)) (blkOk_by (own := [("one", 3), ("other", 4)]) (N := N_in_order) (sc := defScope s_in_order) (by decide +kernel)) (fun _ _ _ _ _ => pg_tup rfl (pgs_cons (pg_name (i := 3) sc_in_order.nd rfl (Or.inl rfl)) (pgs_cons (pg_name (i := 4) sc_in_order.nd rfl (Or.inl rfl)) pgs_nil))) (fun _ _ _ _ _ => pts_nil) (fun _ _ _ _ _ => (pe_ck k_before hr (by decide) (by rfl) (pa_cons (pv 3) (pa_cons (pv 4) pa_nil)) (pk_cons (pv 1) pk_nil)))) pa_nil)))))), ?_⟩
  refine st_seq ?_
  refine ⟨_, rfl, _, rfl, _, rfl, ?_⟩
  dsimp only [tNoPart]
  refine ⟨L, _, rfl, hL, fun L1 nL1 => ?_⟩
  rw [cut1]
  have s1' : Same H (upd H L1 (.lst (((ns ++ [l]).drop 1).map V.int))) := same_new nL1
  have e1 : (upd H L1 (.lst (((ns ++ [l]).drop 1).map V.int))) L1 = some (.lst (((ns ++ [l]).drop 1).map V.int)) := upd_same
  generalize upd H L1 (.lst (((ns ++ [l]).drop 1).map V.int)) = H1 at s1' e1
  refine ⟨L, L1, _, _, rfl, s1'.seq hL, SqL.of e1, fun Z ps H2 s2 nZ eZ hp => ?_⟩
  rw [zip_ints] at hp
  have hp2 := paired_map hp
  have lz : ((ns ++ [l]).zip ((ns ++ [l]).drop 1)).length ≤ 101 := by
    rw [List.length_zip, List.length_append]
    show min (ns.length + 1) _ ≤ 101
    omega
  unfold inOrd at q
  generalize (ns ++ [l]).zip ((ns ++ [l]).drop 1) = zs at hp2 lz q
  have lps : ps.length = zs.length := paired_len hp2
  have s02 : Same H H2 := s1'.trans s2
  have hL2 := s02.seq hL
  have nZH : H Z = none := by
    cases hq : H Z with
    | none => rfl
    | some o =>
      rw [s1' _ _ hq] at nZ
      cases nZ
  -- the second pairs
  try dsimp only [gName]
  refine st_seq ?_
  refine ⟨_, rfl, _, rfl, ?_⟩
  dsimp only [tNoPart]
  refine ⟨_, rfl, _, rfl, L, _, rfl, hL2, fun L2' nL2 => ?_⟩
  rw [cutL]
  have s3 : Same H2 (upd H2 L2' (.lst (ns.map V.int))) := same_new nL2
  have e3 : (upd H2 L2' (.lst (ns.map V.int))) L2' = some (.lst (ns.map V.int)) := upd_same
  generalize upd H2 L2' (.lst (ns.map V.int)) = H3 at s3 e3
  refine ⟨L2', rfl, ⟨_, SqL.of e3⟩, fun D nD => ?_⟩
  have hL3 := s3.seq hL2
  refine lc_list (K := K) (a := L2') (xs := ns.map V.int) (fun j H'' => Same H3 H'' ∧ ∃ qs : List Addr, H'' D = some (.lst (qs.map V.ref)) ∧ Paired (fun q (r : Int × Int) => H'' q = some (.tup [.int r.1, .int r.2])) qs ((ns.take j).map fun x => (x, l))) ?_ (fun j H'' _ hP => ?_) (fun j v H'' hv hP => ?_) (fun H4 hP => ?_)
  · exact ⟨same_new nD, [], upd_same, by rw [List.take_zero]; exact .nil⟩
  · exact SqL.of (hP.1 _ _ e3)
  · obtain ⟨sD, qs, eD, hq⟩ := hP
    have hjl : j < ns.length := by
      have z := (List.getElem?_eq_some_iff.mp hv).1
      rw [List.length_map] at z
      exact z
    rw [List.getElem?_map, List.getElem?_eq_getElem hjl] at hv
    have ev : v = .int ns[j] := (Option.some.inj hv).symm
    subst ev
    have lq := paired_len hq
    rw [List.length_map, List.length_take] at lq
    refine ⟨rfl, ?_⟩
    refine ⟨_, rfl, _, rfl, _, rfl, L, _, -1, .int l, rfl, rfl, sD.seq hL3, ?_, (show 2 ≤ sizeLine by decide), fun t nt => ?_⟩
    · rw [List.map_append]
      exact atI_last _ _
    have eDt := same_new (o := .tup [.int ns[j], .int l]) nt _ _ eD
    have et : (upd H'' t (.tup [.int ns[j], .int l])) t = some (.tup [.int ns[j], .int l]) := upd_same
    have st : Same H'' (upd H'' t (.tup [.int ns[j], .int l])) := same_new nt
    generalize upd H'' t (.tup [.int ns[j], .int l]) = H5 at eDt et st
    have tD : t ≠ D := ne_tl et eDt
    refine ⟨_, eDt, ?_, same_mut (sD.trans st) nD, qs ++ [t], ?_, ?_⟩
    · rw [List.length_map]
      exact small1000 (by omega)
    · rw [upd_same, List.map_append]
      rfl
    · rw [take_add1 ns j hjl, List.map_append]
      refine paired_app (paired_mono (fun a b z => ?_) hq) (.cons ?_ .nil)
      · have za := st _ _ z
        rw [upd_ne (ne_tl za eDt)]
        exact za
      · rw [upd_ne tD]
        exact et
  obtain ⟨sD, qs, eD, hq⟩ := hP
  rw [List.length_map, List.take_length] at hq
  have lq := paired_len hq
  rw [List.length_map] at lq
  have s24 : Same H2 H4 := s3.trans sD
  have eZ4 := s24 _ _ eZ
  refine ⟨Z, D, _, _, rfl, rfl, eZ4, eD, ?_, ?_⟩
  · rw [List.length_map, List.length_map]
    exact Nat.le_of_lt (small1000 (by omega))
  have eZ5 : (upd H4 Z (.lst (ps.map V.ref ++ qs.map V.ref))) Z = some (.lst ((ps ++ qs).map V.ref)) := by
    rw [upd_same, List.map_append]
  have s05 : Same H (upd H4 Z (.lst (ps.map V.ref ++ qs.map V.ref))) := same_mut (s02.trans s24) nZH
  have hpq : Paired (fun q (r : Int × Int) => (upd H4 Z (.lst (ps.map V.ref ++ qs.map V.ref))) q = some (.tup [.int r.1, .int r.2])) (ps ++ qs) (zs ++ ns.map fun x => (x, l)) := by
    refine paired_app (paired_mono (fun a b z => ?_) hp2) (paired_mono (fun a b z => ?_) hq)
    · have za := s24 _ _ z
      rw [upd_ne (ne_tl za eZ4)]
      exact za
    · rw [upd_ne (ne_tl z eZ4)]
      exact z
  generalize upd H4 Z (.lst (ps.map V.ref ++ qs.map V.ref)) = H5 at eZ5 s05 hpq
  have lpq : (ps ++ qs).length ≤ 300 := by
    rw [List.length_append]
    omega
  have q2 : ∀ H', Same H H' → Q (.bl (((zs ++ ns.map fun x => (x, l)).map fun p => bef p.1 p.2 s).all id)) H' := fun H' sm => by
    have z := q H' sm
    have e1 : ((zs ++ ns.map fun x => (x, l)).map fun p => bef p.1 p.2 s).all id = (zs.all (fun p => bef p.1 p.2 s) && ns.all fun x => bef x l s) := by
      rw [List.map_append, List.all_append, List.all_map, List.map_map, List.all_map]
      rfl
    rw [e1]
    exact z
  generalize zs ++ ns.map (fun x => (x, l)) = rs at hpq q2
  generalize ps ++ qs = as at eZ5 hpq lpq
  have las := paired_len hpq
  -- all of them
  refine ⟨_, rfl, Z, rfl, ⟨_, SqL.of eZ5⟩, fun B nB => ?_⟩
  refine lc_list (K := K) (a := Z) (xs := as.map V.ref) (fun j H'' => Same H5 H'' ∧ H'' B = some (.lst (((rs.map fun p => bef p.1 p.2 s).take j).map V.bl))) ?_ (fun j H'' _ hP => ?_) (fun j v H'' hv hP => ?_) (fun H6 hP => ?_)
  · exact ⟨same_new nB, upd_same⟩
  · exact SqL.of (hP.1 _ _ eZ5)
  · obtain ⟨sB, eB⟩ := hP
    have hjl : j < as.length := by
      have z := (List.getElem?_eq_some_iff.mp hv).1
      rw [List.length_map] at z
      exact z
    have hjr : j < rs.length := by omega
    rw [List.getElem?_map, List.getElem?_eq_getElem hjl] at hv
    have ev : v = .ref as[j] := (Option.some.inj hv).symm
    subst ev
    have et := sB _ _ (paired_at hpq hjl hjr)
    refine ⟨as[j], _, rfl, SqT.of et, rfl, _, _, rfl, _, _, rfl, rfl, rfl, ?_⟩
    refine ⟨_, rfl, _, rfl, _, rfl, rfl, rfl, rs[j].1, rs[j].2, s, rfl, s0, s1, _, eB, ?_, same_mut sB nB, ?_⟩
    · rw [List.length_map, List.length_take]
      exact small1000 (by omega)
    · have hjm : j < (rs.map fun p => bef p.1 p.2 s).length := by
        rw [List.length_map]
        exact hjr
      rw [upd_same, take_add1 _ j hjm, List.map_append, List.getElem_map]
      rfl
  obtain ⟨sB, eB⟩ := hP
  have etk : (rs.map fun p => bef p.1 p.2 s).take (as.map V.ref).length = rs.map fun p => bef p.1 p.2 s := by
    refine List.take_of_length_le ?_
    rw [List.length_map, List.length_map]
    omega
  rw [etk] at eB
  exact ⟨B, _, rfl, SqL.of eB, q2 _ (s05.trans sB)⟩
theorem inV_ints (x : Int) (ks : List Int) : True := trivial
theorem nums_of {s : Int} : ∀ {ys : List V}, (∀ y ∈ ys, Num y s) → ∃ xs : List Int, ys = xs.map V.int ∧ ∀ x ∈ xs, 0 ≤ x ∧ x < s
  | [], _ => ⟨[], rfl, fun x hx => by cases hx⟩
  | y :: r, h => by
    obtain ⟨i, rfl, hi⟩ := h y (List.mem_cons_self ..)
    obtain ⟨xs, rfl, hx⟩ := nums_of (ys := r) fun z hz => h z (List.mem_cons_of_mem _ hz)
    refine ⟨i :: xs, rfl, fun x hx' => ?_⟩
    rcases List.mem_cons.mp hx' with e | e
    · rw [e]
      exact hi
    · exact hx x e
theorem NoNum.same {K : PySem.W.Frag} {H H' : Hp} {v : V} {s : Int} (sm : Same H H') (h : NoNum K H v s) : NoNum K H' v s := by
  rcases h with ⟨T, hT, ty⟩ | ⟨a, xs, rfl, h⟩ | h
  · refine .inl ⟨T, hT, ?_⟩
    simp only [odds7, List.mem_cons, List.not_mem_nil, or_false] at hT
    cases ty with
    | base b =>
      cases b with
      | non => exact .base .non
      | bl x => exact .base (.bl x)
      | int i => exact .base (.int i)
      | str x => exact .base (.str x)
      | flt x => exact .base (.flt x)
      | lst e => exact .base (.lst (sm _ _ e))
      | frz e => exact .base (.frz (sm _ _ e))
      | tup e => exact .base (.tup (sm _ _ e))
      | dK e => exact .base (.dK (sm _ _ e))
      | dT e => exact .base (.dT (sm _ _ e))
    | byt b => exact .byt b
    | set e => exact .set (sm _ _ e)
    | kList e c => exact .kList e c
    | kTuple e c => exact .kTuple e c
    | kDict e c => exact .kDict e c
    | fTuple e => exact .fTuple (sm _ _ e)
    | fDict e => exact .fDict (sm _ _ e)
  · exact .inr (.inl ⟨a, xs, rfl, sqT_same sm h⟩)
  · exact .inr (.inr h)
theorem ok_isLook (T : Tx K mg) (c_is_number : C8.Cal P w K mg base 2 "is_number" (spNumber K) []) (c_in_order : C8.Cal P w K mg base 3 "in_order" (spOrder K) []) : BodyOk P w K mg base "is_look" s_is_look N_is_look 3 (spIsLook K) := by
  intro f cdv A outer s H vs Q E hr h
  obtain ⟨v, s, b, rfl, hR, s0, s1, q⟩ := h
  refine ⟨_, (pss_cons (ps_if (PW.pt (pw_or (pt_not (pt_val (pe_callB call_isi (gl_of gl_is_look_isinstance) T.isinstance bb_isinstance (pa_cons (pv 0) (pa_cons (pe_bltn (v := .ty "tuple") (gl_of gl_is_look_tuple) T.tuple bt_tuple rfl) pa_nil))))) (pw_or1 (pt_cmpR op_ne (pe_callB call_len_seq (gl_of gl_is_look_len) T.len bb_len (pa_cons (pv 0) pa_nil)) pe_int (nomark _))))) (pss_one (ps_ret pe_bl)) pss_nil)
      (pss_cons (ps_asg (pv 0) (pg_tup rfl (pgs_cons (pg_name (i := 2) sc_is_look.nd rfl (Or.inl rfl)) (pgs_cons (pg_name (i := 3) sc_is_look.nd rfl (Or.inl rfl)) pgs_nil))))
      (pss_cons (ps_if (PW.pt (pw_or (pt_not (pt_val (C8.pe_c c_is_number hr (by decide) (gl_of gl_is_look_is_number) (pa_cons (pv 2) (pa_cons (pv 1) pa_nil))))) (pw_or1 (pt_not (pt_val (pe_callB call_isi (gl_of gl_is_look_isinstance) T.isinstance bb_isinstance (pa_cons (pv 3) (pa_cons (pe_bltn (v := .ty "tuple") (gl_of gl_is_look_tuple) T.tuple bt_tuple rfl) pa_nil)))))))) (pss_one (ps_ret pe_bl)) pss_nil)
      (pss_one (ps_ret (pe_and (pe_callB (cr_all rfl) (gl_of gl_is_look_all) T.all bb_all (pa_cons (pe_lc (own := [("one", 4)]) (g := gName 4) (tt := tYes) rfl sc_is_look.nd (pi_tup (pv 3)) (blkOk_by (own := [("one", 4)]) (N := N_is_look) (sc := defScope s_is_look) (by decide +kernel)) (fun _ _ _ _ _ => pg_name (i := 4) sc_is_look.nd rfl (Or.inl rfl)) (fun _ _ _ _ _ => pts_nil) (fun _ _ _ _ _ => (C8.pe_c c_is_number hr (by decide) (by rfl) (pa_cons (pv 4) (pa_cons (pv 1) pa_nil))))) pa_nil)) (pe_one (C8.pe_c c_in_order hr (by decide) (gl_of gl_is_look_in_order) (pa_cons (pe_lst (StX.pa_star (pv 3) (pa_cons (pv 2) pa_nil))) (pa_cons (pv 1) pa_nil)))))))))), ?_⟩
  have sr : Same H H := fun _ _ e => e
  -- the second half, for a pair
  refine st_seq ?_
  cases hR with
  | odd h =>
    obtain ⟨T', hT', ty⟩ := h
    obtain ⟨b, k1, k2, k3⟩ := odd_int hT'
    exact ⟨_, rfl, _, _, _, _, false, rfl, .ty "tuple", ty, kb k2, _, rfl, iteT (iteT (q _ sr))⟩
  | int i => exact ⟨_, rfl, _, _, _, _, false, rfl, .ty "tuple", .base (.int i), kb (by decide +kernel), _, rfl, iteT (iteT (q _ sr))⟩
  | @len a xs h hl =>
    refine ⟨_, rfl, _, _, _, _, true, rfl, .ty "tuple", ty_sqT h, kb (by decide +kernel), _, rfl, iteF ?_⟩
    refine ⟨_, rfl, a, xs, rfl, .inr h, rfl, true, ?_, iteT (q _ sr)⟩
    show V.bl (!decide (V.int (xs.length : Nat) = V.int 2)) = _
    rw [decide_eq_false (fun z => hl (by have := V.int.inj z; omega))]
    rfl
  | @fst a x y h hn hpart =>
    refine ⟨_, rfl, _, _, _, _, true, rfl, .ty "tuple", ty_sqT h, kb (by decide +kernel), _, rfl, iteF ?_⟩
    refine ⟨_, rfl, a, _, rfl, .inr h, rfl, false, rfl, iteF ?_⟩
    refine st_next ?_
    try dsimp only
    refine st_seq ?_
    refine ⟨_, rfl, a, _, rfl, h, rfl, _, _, rfl, _, _, rfl, rfl, ?_⟩
    try dsimp only
    refine st_seq ?_
    exact ⟨_, rfl, _, rfl, x, s, rfl, .inr ⟨hn, _, rfl, iteT (iteT (q _ sr))⟩⟩
  | @snd a x y h hx hy =>
    refine ⟨_, rfl, _, _, _, _, true, rfl, .ty "tuple", ty_sqT h, kb (by decide +kernel), _, rfl, iteF ?_⟩
    refine ⟨_, rfl, a, _, rfl, .inr h, rfl, false, rfl, iteF ?_⟩
    refine st_next ?_
    try dsimp only
    refine st_seq ?_
    refine ⟨_, rfl, a, _, rfl, h, rfl, _, _, rfl, _, _, rfl, rfl, ?_⟩
    try dsimp only
    refine st_seq ?_
    refine ⟨_, rfl, _, rfl, x, s, rfl, .inl ⟨hx, _, rfl, iteF ?_⟩⟩
    rcases hy with ⟨T', hT', ty⟩ | ⟨i, rfl⟩
    · obtain ⟨b, k1, k2, k3⟩ := odd_int hT'
      exact ⟨_, rfl, _, _, _, _, false, rfl, .ty "tuple", ty, kb k2, _, rfl, iteT (q _ sr)⟩
    · exact ⟨_, rfl, _, _, _, _, false, rfl, .ty "tuple", .base (.int i), kb (by decide +kernel), _, rfl, iteT (q _ sr)⟩
  | @thd a t x ys h hx ht lys hall hex =>
    refine ⟨_, rfl, _, _, _, _, true, rfl, .ty "tuple", ty_sqT h, kb (by decide +kernel), _, rfl, iteF ?_⟩
    refine ⟨_, rfl, a, _, rfl, .inr h, rfl, false, rfl, iteF ?_⟩
    refine st_next ?_
    try dsimp only
    refine st_seq ?_
    refine ⟨_, rfl, a, _, rfl, h, rfl, _, _, rfl, _, _, rfl, rfl, ?_⟩
    try dsimp only
    refine st_seq ?_
    refine ⟨_, rfl, _, rfl, x, s, rfl, .inl ⟨hx, _, rfl, iteF ?_⟩⟩
    refine ⟨_, rfl, _, _, _, _, true, rfl, .ty "tuple", ty_sqT ht, kb (by decide +kernel), _, rfl, iteF ?_⟩
    refine st_next ?_
    try dsimp only
    refine ⟨_, rfl, t, rfl, ⟨_, ht⟩, fun D nD => ?_⟩
    refine lc_tup (K := K) (a := t) (xs := ys) (fun j H'' => Same H H'' ∧ ∃ bs : List Bool, bs.length = j ∧ H'' D = some (.lst (bs.map V.bl)) ∧ (bs.all id = true → ∀ y ∈ ys.take j, Num y s)) ?_ (fun j H'' _ hP => ?_) (fun j v H'' hv hP => ?_) (fun H'' hP => ?_)
    · exact ⟨same_new nD, [], rfl, upd_same, fun _ y hy => by rw [List.take_zero] at hy; cases hy⟩
    · exact sqT_same hP.1 ht
    · obtain ⟨sD, bs, lb, eD, hb⟩ := hP
      have hjl : j < ys.length := (List.getElem?_eq_some_iff.mp hv).1
      have hvm := List.mem_of_getElem? hv
      refine ⟨rfl, ?_⟩
      have step : ∀ b : Bool, (b = true → Num v s) → ∃ acc, H'' D = some (.lst acc) ∧ acc.length < sizeLine ∧ (Same H (upd H'' D (.lst (acc ++ [.bl b]))) ∧ ∃ bs : List Bool, bs.length = j + 1 ∧ (upd H'' D (.lst (acc ++ [.bl b]))) D = some (.lst (bs.map V.bl)) ∧ (bs.all id = true → ∀ y ∈ ys.take (j + 1), Num y s)) := fun b hbn => by
        refine ⟨_, eD, ?_, same_mut sD nD, bs ++ [b], ?_, ?_, fun hall2 y hy => ?_⟩
        · rw [List.length_map]
          exact small1000 (by omega)
        · rw [List.length_append, lb]
          rfl
        · rw [upd_same, List.map_append]
          rfl
        · rw [List.all_append, Bool.and_eq_true] at hall2
          rw [take_add1 ys j hjl] at hy
          rcases List.mem_append.mp hy with e | e
          · exact hb hall2.1 y e
          · rw [List.mem_singleton.mp e]
            have ev : ys[j] = v := by
              rw [List.getElem?_eq_getElem hjl] at hv
              exact Option.some.inj hv
            rw [ev]
            refine hbn ?_
            have z := hall2.2
            simpa using z
      rcases hall v hvm with h1 | h1
      · exact ⟨_, rfl, _, rfl, v, s, rfl, .inl ⟨h1, step true fun _ => h1⟩⟩
      · exact ⟨_, rfl, _, rfl, v, s, rfl, .inr ⟨h1.same sD, step false fun z => by cases z⟩⟩
    · obtain ⟨sD, bs, lb, eD, hb⟩ := hP
      have hno : bs.all id = false := by
        refine Bool.eq_false_iff.mpr fun z => ?_
        obtain ⟨y, hy, hn⟩ := hex
        have hn2 := hb z y (by rw [List.take_length]; exact hy)
        obtain ⟨i, rfl, hi⟩ := hn2
        rcases hn with ⟨T', hT', ty⟩ | ⟨a', xs', e, _⟩ | ⟨i', e, hi'⟩
        · simp only [odds7, List.mem_cons, List.not_mem_nil, or_false] at hT'
          cases ty with
          | base b => cases b; simp at hT'
        · cases e
        · cases e
          exact hi' hi
      refine ⟨D, _, rfl, SqL.of eD, _, rfl, ?_⟩
      rw [hno]
      exact iteF (q _ sD)
  | @yes a c xs h lx c0 c1 hx =>
    obtain ⟨t, h, ht⟩ := h
    refine ⟨_, rfl, _, _, _, _, true, rfl, .ty "tuple", ty_sqT h, kb (by decide +kernel), _, rfl, iteF ?_⟩
    refine ⟨_, rfl, a, _, rfl, .inr h, rfl, false, rfl, iteF ?_⟩
    refine st_next ?_
    try dsimp only
    refine st_seq ?_
    refine ⟨_, rfl, a, _, rfl, h, rfl, _, _, rfl, _, _, rfl, rfl, ?_⟩
    try dsimp only
    refine st_seq ?_
    refine ⟨_, rfl, _, rfl, .int c, s, rfl, .inl ⟨⟨c, rfl, c0, c1⟩, _, rfl, iteF ?_⟩⟩
    refine ⟨_, rfl, _, _, _, _, true, rfl, .ty "tuple", ty_sqT ht, kb (by decide +kernel), _, rfl, iteF ?_⟩
    refine st_next ?_
    try dsimp only
    refine ⟨_, rfl, t, rfl, ⟨_, ht⟩, fun D nD => ?_⟩
    refine lc_tup (K := K) (a := t) (xs := xs.map V.int) (fun j H'' => Same H H'' ∧ H'' D = some (.lst ((List.replicate j true).map V.bl))) ?_ (fun j H'' _ hP => ?_) (fun j v H'' hv hP => ?_) (fun H'' hP => ?_)
    · exact ⟨same_new nD, upd_same⟩
    · exact sqT_same hP.1 ht
    · obtain ⟨sD, eD⟩ := hP
      have hjl : j < xs.length := by
        have z := (List.getElem?_eq_some_iff.mp hv).1
        rw [List.length_map] at z
        exact z
      rw [List.getElem?_map, List.getElem?_eq_getElem hjl] at hv
      have ev : v = .int xs[j] := (Option.some.inj hv).symm
      subst ev
      refine ⟨rfl, ?_⟩
      refine ⟨_, rfl, _, rfl, _, s, rfl, .inl ⟨⟨xs[j], rfl, hx _ (List.getElem_mem hjl)⟩, _, eD, ?_, same_mut sD nD, ?_⟩⟩
      · rw [List.length_map, List.length_replicate]
        exact small1000 (by omega)
      · rw [upd_same, List.replicate_succ', List.map_append]
        rfl
    · obtain ⟨sD, eD⟩ := hP
      refine ⟨D, _, rfl, SqL.of eD, _, rfl, ?_⟩
      rw [all_rep]
      refine iteT ?_
      refine ⟨_, rfl, t, _, rfl, .inl (sqT_same sD ht), _, rfl, ?_⟩
      have el : xs.map V.int ++ [V.int c] = (xs ++ [c]).map V.int := by
        rw [List.map_append]
        rfl
      refine ⟨?_, fun L nL => ?_⟩
      · rw [List.length_append, List.length_map]
        exact Nat.le_of_lt (small1000 (show xs.length + 1 ≤ 1000 by omega))
      · refine ⟨_, rfl, L, xs, c, s, rfl, SqL.of ?_, by omega, s0, s1, fun H3 s3 => q _ (sD.trans ((same_new nL).trans s3))⟩
        rw [upd_same, ← el]
end
/-! ### numbers told by how far back they stand -/
def nb (c s b : Int) : Int := (c - b) % s
theorem nb_range {c s b : Int} (hs : 0 < s) : 0 ≤ nb c s b ∧ nb c s b < s := ⟨Int.emod_nonneg _ (by omega), Int.emod_lt_of_pos _ hs⟩
theorem nb_sub (c s g b : Int) : (nb c s g - nb c s b) % s = (b - g) % s := by
  unfold nb
  rw [← Int.sub_emod]
  congr 1
  omega
theorem bef_nb {c s g b : Int} (g0 : 0 ≤ g) (g1 : g < s / 2) (b0 : 0 ≤ b) (b1 : b < s / 2) : bef (nb c s b) (nb c s g) s = decide (g < b) := by
  unfold bef
  rw [nb_sub]
  by_cases z : g < b
  · rw [Int.emod_eq_of_lt (by omega) (by omega), decide_eq_true z, decide_eq_true (show 0 < b - g by omega), decide_eq_true (show b - g < s / 2 by omega)]
    rfl
  · rw [decide_eq_false z]
    by_cases z2 : b = g
    · subst z2
      rw [Int.sub_self, Int.zero_emod]
      rfl
    · have e : (b - g) % s = b - g + s := by
        rw [← Int.add_emod_right, Int.emod_eq_of_lt (by omega) (by omega)]
      rw [e, decide_eq_false (show ¬ b - g + s < s / 2 by omega), Bool.and_false]
theorem nb_inj {c s b b' : Int} (b0 : 0 ≤ b) (b1 : b < s) (c0 : 0 ≤ b') (c1 : b' < s) (h : nb c s b = nb c s b') : b = b' := by
  have e := nb_sub c s b b'
  rw [h, Int.sub_self, Int.zero_emod] at e
  have e2 := Int.emod_emod_of_dvd (b' - b) (Int.dvd_refl s)
  have hd : s ∣ (b' - b) := Int.dvd_of_emod_eq_zero e.symm
  obtain ⟨k, hk⟩ := hd
  have hk0 : k = 0 := by
    rcases Int.lt_trichotomy k 0 with h1 | h1 | h1
    · have : s * k ≤ s * (-1) := Int.mul_le_mul_of_nonneg_left (by omega) (by omega)
      omega
    · exact h1
    · have : s * 1 ≤ s * k := Int.mul_le_mul_of_nonneg_left (by omega) (by omega)
      omega
  rw [hk0, Int.mul_zero] at hk
  omega
theorem nb_self {c s : Int} (c0 : 0 ≤ c) (c1 : c < s) : nb c s 0 = c := by
  unfold nb
  rw [Int.sub_zero, Int.emod_eq_of_lt c0 c1]
theorem nb_shift (c s g b : Int) : nb (nb c s g) s b = nb c s (g + b) := by
  unfold nb
  rw [Int.emod_sub_emod]
  congr 1
  omega
theorem inOrd_true {c s : Int} {bs : List Int} (c0 : 0 ≤ c) (c1 : c < s) (hp : bs.Pairwise (· > ·)) (hb : ∀ b ∈ bs, 0 < b ∧ b < s / 2) : inOrd (bs.map (nb c s)) c s = true := by
  have s8 : ∀ b ∈ bs, 0 < s / 2 := fun b h => by have := hb b h; omega
  unfold inOrd
  rw [Bool.and_eq_true]
  constructor
  · rw [List.all_eq_true]
    intro p hpm
    obtain ⟨i, hi⟩ := List.mem_iff_getElem?.mp hpm
    obtain ⟨e1, e2⟩ := List.getElem?_zip_eq_some.mp hi
    have el : bs.map (nb c s) ++ [c] = (bs ++ [0]).map (nb c s) := by
      rw [List.map_append]
      show _ = _ ++ [nb c s 0]
      rw [nb_self c0 c1]
    rw [el] at e1 e2
    rw [List.getElem?_drop, List.getElem?_map] at e2
    rw [List.getElem?_map] at e1
    have hp2 : (bs ++ [0]).Pairwise (· > ·) := by
      rw [List.pairwise_append]
      refine ⟨hp, List.pairwise_singleton _ _, fun x hx y hy => ?_⟩
      rw [List.mem_singleton.mp hy]
      exact (hb x hx).1
    cases h1 : (bs ++ [0])[i]? with
    | none => rw [h1] at e1; cases e1
    | some b1 =>
      cases h2 : (bs ++ [0])[1 + i]? with
      | none => rw [h2] at e2; cases e2
      | some b2 =>
        rw [h1] at e1
        rw [h2] at e2
        have f1 : nb c s b1 = p.1 := Option.some.inj e1
        have f2 : nb c s b2 = p.2 := Option.some.inj e2
        obtain ⟨l1, g1⟩ := List.getElem?_eq_some_iff.mp h1
        obtain ⟨l2, g2⟩ := List.getElem?_eq_some_iff.mp h2
        have gt : b1 > b2 := by
          have z := List.pairwise_iff_getElem.mp hp2 i (1 + i) l1 l2 (by omega)
          rw [g1, g2] at z
          exact z
        have r : ∀ b ∈ bs ++ [0], 0 ≤ b ∧ (b < s / 2 ∨ bs = []) := fun b hbm => by
          rcases List.mem_append.mp hbm with e | e
          · have := hb b e
            exact ⟨by omega, .inl (by omega)⟩
          · rw [List.mem_singleton.mp e]
            refine ⟨by omega, ?_⟩
            cases bs with
            | nil => exact .inr rfl
            | cons x t =>
              have := hb x (List.mem_cons_self ..)
              exact .inl (by omega)
        have r1 := r b1 (List.mem_of_getElem? h1)
        have r2 := r b2 (List.mem_of_getElem? h2)
        have ne : bs ≠ [] := fun z => by
          subst z
          simp at l2
        have q1 : b1 < s / 2 := r1.2.elim id fun z => absurd z ne
        have q2 : b2 < s / 2 := r2.2.elim id fun z => absurd z ne
        rw [← f1, ← f2, bef_nb r2.1 q2 r1.1 q1]
        exact decide_eq_true gt
  · rw [List.all_eq_true]
    intro x hx
    obtain ⟨b, hbm, rfl⟩ := List.mem_map.mp hx
    have z := hb b hbm
    have e := bef_nb (c := c) (s := s) (g := 0) (b := b) (by omega) (by omega) (by omega) z.2
    rw [nb_self c0 c1] at e
    rw [e]
    exact decide_eq_true z.1
/-! ### k07: the law's own count -/
def chk (l : List Int) : Bool := (l.zip (l.drop 1)).all fun p => decide (p.2 < p.1)
theorem chk_iff : ∀ l : List Int, chk l = true ↔ l.Pairwise (· > ·)
  | [] => ⟨fun _ => List.Pairwise.nil, fun _ => rfl⟩
  | [a] => ⟨fun _ => List.pairwise_singleton _ _, fun _ => rfl⟩
  | a :: b :: r => by
    have e : chk (a :: b :: r) = (decide (b < a) && chk (b :: r)) := rfl
    rw [e, Bool.and_eq_true, decide_eq_true_iff, chk_iff (b :: r), List.pairwise_cons (a := a)]
    constructor
    · rintro ⟨h1, h2⟩
      refine ⟨fun x hx => ?_, h2⟩
      rcases List.mem_cons.mp hx with e | e
      · rw [e]
        exact h1
      · have := (List.pairwise_cons.mp h2).1 x e
        omega
    · rintro ⟨h1, h2⟩
      exact ⟨h1 b (List.mem_cons_self ..), h2⟩
theorem nb_back {c s x : Int} (x0 : 0 ≤ x) (x1 : x < s) : nb c s ((c - x) % s) = x := by
  unfold nb
  rw [Int.sub_emod, Int.emod_emod_of_dvd _ (Int.dvd_refl s), ← Int.sub_emod]
  rw [show c - (c - x) = x by omega]
  exact Int.emod_eq_of_lt x0 x1
theorem inOrd_eq {c s : Int} {xs : List Int} (c0 : 0 ≤ c) (c1 : c < s) (s0 : 2 ≤ s) (hx : ∀ x ∈ xs, 0 ≤ x ∧ x < s) :
    inOrd xs c s = (decide ((xs.map fun x => (c - x) % s).Pairwise (· > ·)) && (xs.map fun x => (c - x) % s).all fun b => decide (0 < b) && decide (b < s / 2)) := by
  unfold inOrd
  have eR : (xs.all fun x => bef x c s) = (xs.map fun x => (c - x) % s).all fun b => decide (0 < b) && decide (b < s / 2) := by
    rw [List.all_map]
    rfl
  rw [eR]
  cases hR : (xs.map fun x => (c - x) % s).all fun b => decide (0 < b) && decide (b < s / 2) with
  | false => rw [Bool.and_false, Bool.and_false]
  | true =>
    rw [Bool.and_true, Bool.and_true]
    have hb : ∀ b ∈ xs.map (fun x => (c - x) % s), 0 < b ∧ b < s / 2 := fun b hb => by
      have z := List.all_eq_true.mp hR b hb
      rw [Bool.and_eq_true, decide_eq_true_iff, decide_eq_true_iff] at z
      exact z
    have ex : xs = (xs.map fun x => (c - x) % s).map (nb c s) := by
      rw [List.map_map]
      have : xs.map (nb c s ∘ fun x => (c - x) % s) = xs.map id := List.map_congr_left fun x hxm => nb_back (hx x hxm).1 (hx x hxm).2
      rw [this, List.map_id]
    generalize (xs.map fun x => (c - x) % s) = bk at hb ex
    have el : xs ++ [c] = (bk ++ [0]).map (nb c s) := by
      rw [List.map_append, ← ex]
      show _ = _ ++ [nb c s 0]
      rw [nb_self c0 c1]
    have hr : ∀ b ∈ bk ++ [0], 0 ≤ b ∧ b < s / 2 := fun b hbm => by
      rcases List.mem_append.mp hbm with e | e
      · have := hb b e
        omega
      · rw [List.mem_singleton.mp e]
        omega
    rw [el, ← List.map_drop, List.zip_map, List.all_map]
    have e1 : ((bk ++ [0]).zip ((bk ++ [0]).drop 1)).all ((fun p : Int × Int => bef p.1 p.2 s) ∘ Prod.map (nb c s) (nb c s)) = chk (bk ++ [0]) := by
      unfold chk
      rw [Bool.eq_iff_iff, List.all_eq_true, List.all_eq_true]
      have key : ∀ p ∈ (bk ++ [0]).zip ((bk ++ [0]).drop 1), bef (nb c s p.1) (nb c s p.2) s = decide (p.2 < p.1) := fun p hp => by
        obtain ⟨m1, m2⟩ := List.of_mem_zip (a := p.1) (b := p.2) hp
        have z1 := hr p.1 m1
        have z2 := hr p.2 (List.mem_of_mem_drop m2)
        exact bef_nb z2.1 z2.2 z1.1 z1.2
      refine ⟨fun h p hp => ?_, fun h p hp => ?_⟩
      · rw [← key p hp]
        exact h p hp
      · show bef (nb c s p.1) (nb c s p.2) s = true
        rw [key p hp]
        exact h p hp
    rw [e1, Bool.eq_iff_iff, chk_iff, decide_eq_true_iff, List.pairwise_append]
    constructor
    · exact fun h => h.1
    · intro h
      refine ⟨h, List.pairwise_singleton _ _, fun x hx y hy => ?_⟩
      rw [List.mem_singleton.mp hy]
      exact (hb x hx).1
theorem dec_unique : ∀ {l r : List Int}, l.Pairwise (· > ·) → r.Pairwise (· > ·) → (∀ x, x ∈ l ↔ x ∈ r) → l = r
  | [], [], _, _, _ => rfl
  | [], b :: r, _, _, h => by cases (h b).mpr (List.mem_cons_self ..)
  | a :: l, [], _, _, h => by cases (h a).mp (List.mem_cons_self ..)
  | a :: l, b :: r, hl, hr, h => by
    rw [List.pairwise_cons] at hl hr
    have eab : a = b := by
      rcases List.mem_cons.mp ((h a).mp (List.mem_cons_self ..)) with e | e
      · exact e
      · rcases List.mem_cons.mp ((h b).mpr (List.mem_cons_self ..)) with e2 | e2
        · exact e2.symm
        · have z1 := hr.1 a e
          have z2 := hl.1 b e2
          omega
    subst eab
    congr 1
    refine dec_unique hl.2 hr.2 fun x => ⟨fun hx => ?_, fun hx => ?_⟩
    · rcases List.mem_cons.mp ((h x).mp (List.mem_cons_of_mem _ hx)) with e | e
      · have := hl.1 x hx
        omega
      · exact e
    · rcases List.mem_cons.mp ((h x).mpr (List.mem_cons_of_mem _ hx)) with e | e
      · have := hr.1 x hx
        omega
      · exact e
theorem dec_iff {bk ss : List Int} (hs : ss.Pairwise (· < ·)) (hm : ∀ k, k ∈ ss ↔ k ∈ bk) : bk = ss.reverse ↔ bk.Pairwise (· > ·) := by
  have hr : ss.reverse.Pairwise (· > ·) := by
    rw [List.pairwise_reverse]
    exact hs
  constructor
  · intro e
    rw [e]
    exact hr
  · intro h
    refine dec_unique h hr fun x => ?_
    rw [List.mem_reverse]
    exact (hm x).symm
theorem eqv_ints : ∀ xs ys : List Int, PyData.eqvAll (xs.map PyData.int) (ys.map PyData.int) = decide (xs = ys)
  | [], [] => by
    rw [List.map_nil, PyData.eqvAll]
    rfl
  | [], y :: ys => by
    rw [List.map_nil, List.map_cons, PyData.eqvAll]
    · rfl
    all_goals simp
  | x :: xs, [] => by
    rw [List.map_nil, List.map_cons, PyData.eqvAll]
    · rfl
    all_goals simp
  | x :: xs, y :: ys => by
    rw [List.map_cons, List.map_cons, PyData.eqvAll, eqv_ints xs ys, PyData.eqv]
    rw [Bool.eq_iff_iff]
    simp
theorem shape_ints (xs : List Int) : SeqAt.shaped (.list (xs.map PyData.int)) = true := by
  have l1 : ∀ xs : List Int, PyData.canLayAll0 (xs.map PyData.int) = true := fun xs => by
    induction xs with
    | nil => rfl
    | cons x r ih =>
      show (true && PyData.canLayAll0 (r.map PyData.int)) = true
      rw [ih]
      rfl
  have l2 : ∀ xs : List Int, PyData.depthAll (xs.map PyData.int) = 0 := fun xs => by
    induction xs with
    | nil => rfl
    | cons x r ih =>
      show max 0 (PyData.depthAll (r.map PyData.int)) = 0
      rw [ih]
      rfl
  show (PyData.canLayAll0 (xs.map PyData.int) && decide (PyData.depthAll (xs.map PyData.int) + 1 ≤ 64)) = true
  rw [l1, l2]
  rfl
theorem dp_ints {K : PySem.W.Frag} {H : Hp} : ∀ xs : List Int, DpAll K H (xs.map V.int) (xs.map PyData.int)
  | [] => .nil
  | x :: r => .cons (.int x) (dp_ints r)
theorem num_no {K : PySem.W.Frag} {H : Hp} {v : V} {s : Int} (h : Num v s) (hn : NoNum K H v s) : False := by
  obtain ⟨i, rfl, hi⟩ := h
  rcases hn with ⟨T', hT', ty⟩ | ⟨a', xs', e, _⟩ | ⟨i', e, hi'⟩
  · simp only [odds7, List.mem_cons, List.not_mem_nil, or_false] at hT'
    cases ty with
    | base b => cases b; simp at hT'
  · cases e
  · cases e
    exact hi' hi
/-- of what is told of a thing: it is no pair with a tuple, or such a pair -/
theorem LkR.two {K : PySem.W.Frag} {H : Hp} {s : Int} {v : V} {b : Bool} (h : LkR K H s v b) :
    (b = false ∧ ((Odd7 K H v ∨ ∃ i, v = .int i) ∨ (∃ a xs, v = .ref a ∧ SqT K H a xs ∧ xs.length ≠ 2) ∨ ∃ a x y, v = .ref a ∧ SqT K H a [x, y] ∧ (Odd7 K H y ∨ ∃ i, y = .int i))) ∨
    ∃ a x t ys, v = .ref a ∧ SqT K H a [x, .ref t] ∧ SqT K H t ys ∧ ys.length ≤ 60 ∧ (∀ e ∈ ys ++ [x], Num e s ∨ NoNum K H e s) ∧ ((∃ e ∈ ys ++ [x], NoNum K H e s) → b = false) ∧ ((∀ e ∈ ys ++ [x], Num e s) → ∃ c xs, x = .int c ∧ ys = xs.map V.int ∧ 0 ≤ c ∧ c < s ∧ (∀ x ∈ xs, 0 ≤ x ∧ x < s) ∧ b = inOrd xs c s) := by
  cases h with
  | odd h => exact .inl ⟨rfl, .inl (.inl h)⟩
  | int i => exact .inl ⟨rfl, .inl (.inr ⟨i, rfl⟩)⟩
  | @len a xs h hl => exact .inl ⟨rfl, .inr (.inl ⟨a, xs, rfl, h, hl⟩)⟩
  | @fst a x y h hn hp =>
    rcases hp with hp | ⟨t, ys, rfl, ht, ly, hall⟩
    · exact .inl ⟨rfl, .inr (.inr ⟨a, x, y, rfl, h, hp⟩)⟩
    · refine .inr ⟨a, x, t, ys, rfl, h, ht, ly, fun e he => ?_, fun _ => rfl, fun ha => ?_⟩
      · rcases List.mem_append.mp he with z | z
        · exact hall e z
        · rw [List.mem_singleton.mp z]
          exact .inr hn
      · exact (num_no (ha x (List.mem_append_right _ (List.mem_singleton.mpr rfl))) hn).elim
  | @snd a x y h hx hy => exact .inl ⟨rfl, .inr (.inr ⟨a, x, y, rfl, h, hy⟩)⟩
  | @thd a t x ys h hx ht ly hall hex =>
    refine .inr ⟨a, x, t, ys, rfl, h, ht, ly, fun e he => ?_, fun _ => rfl, fun ha => ?_⟩
    · rcases List.mem_append.mp he with z | z
      · exact hall e z
      · rw [List.mem_singleton.mp z]
        exact .inl hx
    · obtain ⟨e, he, hn⟩ := hex
      exact (num_no (ha e (List.mem_append_left _ he)) hn).elim
  | @yes a c xs h lx c0 c1 hx =>
    obtain ⟨t, h1, h2⟩ := h
    have hall : ∀ e ∈ xs.map V.int ++ [V.int c], Num e s := fun e he => by
      rcases List.mem_append.mp he with z | z
      · obtain ⟨x, hxm, rfl⟩ := List.mem_map.mp z
        exact ⟨x, rfl, hx x hxm⟩
      · rw [List.mem_singleton.mp z]
        exact ⟨c, rfl, c0, c1⟩
    refine .inr ⟨a, _, t, _, rfl, h1, h2, by rw [List.length_map]; exact lx, fun e he => .inl (hall e he), fun ⟨e, he, hn⟩ => (num_no (hall e he) hn).elim, fun _ => ⟨c, xs, rfl, rfl, c0, c1, hx, rfl⟩⟩
/-! ### sorted(set(xs)), xs a list of whole numbers -/
abbrev noSet (w : World) : Obj := { cls := .type "set", dict := none, data := .set #[] 0 (.fresh 0 0 (!w.params.followText "set-order")) }
section
variable {P : Program} {w : World} {A : Around} {E : Value → Shared → Prop} {s : Shared}
set_option maxHeartbeats 16000000 in
theorem set_from {l : Addr} {its : Array Value} {ns : List Int} {Q : Value → Shared → Prop} (calm : A.handled = none) (isL : s.heap.IsList l its) (are : IntsAre its.toList ns) (few : ns.length + 1 < scanBound)
    (go : ∀ (h' : Heap) (tk c : Nat), SetR w h' s.heap.objs.size (fun j => decide (j ∈ ns)) c → c ≤ ns.length → (∀ b o, s.heap.get? b = some o → h'.get? b = some o) → Q (.ref s.heap.objs.size) { s with heap := h', toks := tk }) : wpAny (model P w) A (call (.type "set") [.ref l]) Q E s := by
  have size : its.size = ns.length := (Array.length_toList (xs := its)).symm.trans (IntsAre.length are)
  have lt : l < s.heap.objs.size := by obtain ⟨o, e, _⟩ := isL; exact Heap.lt_size e
  obtain ⟨kc, kt, k1⟩ := PySem.F.called_set.mro; have k2 := PySem.F.called_set.made; have k3 := PySem.F.called_set.sub; have k4 := PySem.F.called_set.notType; have k5 := PySem.F.called_set.canCreate; have k6 := PySem.F.typeCall_set_1 (.ref l)
  refine wpAny_call (codeAny_of_tree (show wpAny _ _ (callAny (.type "set") _) _ _ _ from wpAny_pure ⟨Code.quiet_builtin _ (by decide +kernel), codeAny_builtin PySem.F.entry_type_call ?_⟩))
  rw [Around.under_plain (weight_type_call_type "set" [.ref l] []) rfl] <;> skip
  repeat (any_goals first | assumption | wp_step)
  refine codeAny_mono (code_set_led1 (.ref l) (E := E) (Q₁ := fun o s1 => o = .ref s.heap.objs.size ∧ s1 = { s with heap := s.heap.push (noSet w) }) ⟨rfl, rfl⟩) fun res s1 hres => ?_
  match res, hres with
  | .error _, hres => exact hres
  | .ok .next, hres => exact hres.elim
  | .ok .brk, hres => exact hres.elim
  | .ok .cont, hres => exact hres.elim
  | .ok (.ret o), hres =>
    obtain ⟨rfl, rfl⟩ := hres
    have new : (s.heap.push (noSet w)).get? s.heap.objs.size = some (noSet w) := Heap.get?_push_size _ rfl
    have isT : Shared.TypeIs { s with heap := s.heap.push (noSet w) } (.ref s.heap.objs.size) "set" := ⟨_, new, rfl⟩
    have k7 := PySem.F.called_set.init.lookup; have k8 := PySem.F.called_set.init.bind (.ref s.heap.objs.size)
    repeat (any_goals first | assumption | wp_step)
    refine codeAny_mono (codeAny_call_builtin (R := wants (fun r s2 => r = .none ∧ ∃ h' tk c, s2 = { s with heap := h', toks := tk } ∧ SetR w h' s.heap.objs.size (fun j => decide (j ∈ ns)) c ∧ c ≤ ns.length ∧ (∀ b o, s.heap.get? b = some o → h'.get? b = some o)) E)
      PySem.F.called_set.init.plain PySem.F.entry_set_init (check_set_init_1 isT ?_)) fun res2 s2 hres2 => ?_
    · obtain ⟨⟨oc, od, odt, osl⟩, eo, ec, on, ed⟩ := isL
      simp only at ec ed
      subst ec ed
      have eo2 : (s.heap.push (noSet w)).get? l = some { cls := .type "list", dict := od, data := .seq its on, slots := osl } := Heap.get?_push_of_some _ eo
      have k9 := PySem.F.sub_list_set; have ka := PySem.F.sub_list_frozenset; have kb : (Value.type "list" == Value.type "dict") = false := by decide
      have isL2 : (s.heap.push (noSet w)).IsList l its := ⟨_, eo2, rfl, on, rfl⟩
      unfold Builtin.«set.__init__» noKeywords Builtin.Frozenset.updateFrom <;> generalize hG : pyIter = G <;> wp_walk <;> subst hG
      refine wpAny_pyIter_list isL2 (wpAny_bind (wpAny_runValue ?_))
      have sz : (s.heap.push (noSet w)).objs.size = s.heap.objs.size + 1 := Heap.size_push ..
      have cal3 : A.in1.in1.in1.handled = none := by simp [calm]
      have n1 : l ≠ (s.heap.push (noSet w)).objs.size := by rw [sz]; exact Nat.ne_of_lt (Nat.lt_succ_of_lt lt)
      have n2 : s.heap.objs.size ∉ [(s.heap.push (noSet w)).objs.size, l] := fun z => by
        rcases List.mem_cons.mp z with z | z
        · exact absurd (z.trans sz) (Nat.ne_of_lt (Nat.lt_succ_self _))
        · exact absurd (List.mem_singleton.mp z) (Nat.ne_of_gt lt)
      have vals : ∀ (i : Nat) (v : Value), its[i]? = some v → ∃ k t, ns[i]? = some k ∧ v = .int k t := fun i v hv => by
        have hi : i < its.size := (Array.getElem?_eq_some_iff.mp hv).1
        have hi2 : i < ns.length := by omega
        obtain ⟨t, e⟩ := IntsAre.int_at are i v (by rw [Array.getElem?_toList, hv])
        rw [List.getD_eq_getElem?_getD, List.getElem?_eq_getElem hi2] at e
        exact ⟨ns[i], t, List.getElem?_eq_getElem hi2, e⟩
      refine set_update_ints ((Walks.list cal3 _ l n1 its).toS) s.heap.objs.size n2 ns size few vals (its.size - 0) 0 _ (by omega) (Nat.zero_le _) ⟨⟨_, Heap.get?_push_size _ rfl, rfl, rfl⟩, isL2.push _⟩ ⟨0, Nat.le_refl 0, setR_new_at (Heap.get?_push_of_some _ new)⟩ fun s3 c mv hc R => ?_
      obtain ⟨h3, g3, d3, t3, o3⟩ := s3
      have e1 : g3 = s.gens := mv.gens; have e2 : d3 = s.drawn := mv.drawn; have e3 : o3 = s.os := mv.os
      subst e1 e2 e3
      refine (show wpAny _ _ _ _ _ _ from wpAny_pure (show wpAny _ _ (ret Value.none) _ _ _ from wpAny_pure ⟨rfl, h3, t3, c, rfl, R, by omega, fun b o e => ?_⟩))
      have lb : b < s.heap.objs.size := Heap.lt_size e
      refine mv.heap b o (fun z => ?_) (Heap.get?_push_of_some _ (Heap.get?_push_of_some _ e))
      rcases List.mem_cons.mp z with z | z
      · exact absurd z (Nat.ne_of_lt lb)
      · exact absurd ((List.mem_singleton.mp z).trans sz) (Nat.ne_of_lt (Nat.lt_succ_of_lt lb))
    · match res2, hres2 with
      | .error _, hres2 => exact hres2
      | .ok .next, hres2 => exact hres2.elim
      | .ok .brk, hres2 => exact hres2.elim
      | .ok .cont, hres2 => exact hres2.elim
      | .ok (.ret r), hres2 =>
        obtain ⟨rfl, h3, t3, c, rfl, R, hc, keep⟩ := hres2
        repeat (any_goals first | assumption | wp_step)
        exact go _ _ _ R hc keep
end
def rSetI (K : PySem.W.Frag) (w : World) : List V → Hp → VK → Prop := fun vs H Q => ∃ (l : Addr) (ns : List Int), vs = [V.ref l] ∧ SqL K H l (ns.map V.int) ∧ ns.length ≤ 1000 ∧ ∀ p c, c ≤ ns.length → H p = none → Q (.ref p) (upd H p (SetO w p (fun j => decide (j ∈ ns)) c))
theorem cr_setI {X : Cx} (hc : X.calm = true) : CallR X (.type "set") (rSetI X.K X.w) := by
  intro pins s σ H vs us Q I r h
  obtain ⟨l, ns, rfl, hq, hl, q⟩ := h
  rw [Vals.ref1 r]
  obtain ⟨its, rv, pl, hz⟩ := I.list hq
  refine set_from (ns := ns) (I.ok.hd hc) pl.isList (by simpa using rv.ints) (by unfold scanBound; omega) fun h' tk c R hcn keep => ?_
  exact ⟨.ref _, upd H s.heap.objs.size (SetO X.w s.heap.objs.size (fun j => decide (j ∈ ns)) c), I.laid (t' := tk) keep (Nat.le_refl _) (setO_new R), rfl, q _ c hcn (I.hok.fresh (Nat.le_refl _))⟩
/-! ### things, down through their tuples -/
inductive Th (K : PySem.W.Frag) (H : Hp) : V → Prop
  | odd {v : V} : Odd7 K H v → Th K H v
  | int (i : Int) : Th K H (.int i)
  | tup {a : Addr} {xs : List V} : SqT K H a xs → xs.length ≤ 60 → (∀ e ∈ xs, Th K H e) → Th K H (.ref a)
theorem Odd7.fr {h : Addr} {n m : Nat} {K : PySem.W.Frag} {H H' : Hp} {v : V} (q : HS h n H) (q' : HS h m H') (f : Fr h H H') (o : Odd7 K H v) : Odd7 K H' v := by
  obtain ⟨T, hT, ty⟩ := o
  obtain ⟨g, b, c, eh, _⟩ := q
  obtain ⟨g', b', c', eh', _⟩ := q'
  refine ⟨T, hT, ?_⟩
  simp only [odds7, List.mem_cons, List.not_mem_nil, or_false] at hT
  cases ty with
  | base b =>
    cases b with
    | non => exact .base .non
    | bl x => exact .base (.bl x)
    | int i => exact .base (.int i)
    | str x => exact .base (.str x)
    | flt x => exact .base (.flt x)
    | @lst a xs e =>
      by_cases z : a = h
      · rw [z]
        exact .base (.lst eh')
      · exact .base (.lst (f _ _ z e))
    | frz e => exact .base (.frz (f _ _ (fun z => by rw [z, eh] at e; cases e) e))
    | tup e => exact .base (.tup (f _ _ (fun z => by rw [z, eh] at e; cases e) e))
    | dK e => exact .base (.dK (f _ _ (fun z => by rw [z, eh] at e; cases e) e))
    | dT e => exact .base (.dT (f _ _ (fun z => by rw [z, eh] at e; cases e) e))
  | byt b => exact .byt b
  | set e => exact .set (f _ _ (fun z => by rw [z, eh] at e; cases e) e)
  | kList e c => exact .kList e c
  | kTuple e c => exact .kTuple e c
  | kDict e c => exact .kDict e c
  | fTuple e => exact .fTuple (f _ _ (fun z => by rw [z, eh] at e; cases e) e)
  | fDict e => exact .fDict (f _ _ (fun z => by rw [z, eh] at e; cases e) e)
theorem Th.fr {h : Addr} {n m : Nat} {K : PySem.W.Frag} {H H' : Hp} {v : V} (q : HS h n H) (q' : HS h m H') (f : Fr h H H') (o : Th K H v) : Th K H' v := by
  induction o with
  | odd o => exact .odd (o.fr q q' f)
  | int i => exact .int i
  | tup hs hl _ ih => exact .tup (q.sqT f hs) hl ih
theorem Odd7.same {K : PySem.W.Frag} {H H' : Hp} {v : V} (sm : Same H H') (o : Odd7 K H v) : Odd7 K H' v := by
  obtain ⟨T, hT, ty⟩ := o
  refine ⟨T, hT, ?_⟩
  simp only [odds7, List.mem_cons, List.not_mem_nil, or_false] at hT
  cases ty with
  | base b =>
    cases b with
    | non => exact .base .non
    | bl x => exact .base (.bl x)
    | int i => exact .base (.int i)
    | str x => exact .base (.str x)
    | flt x => exact .base (.flt x)
    | lst e => exact .base (.lst (sm _ _ e))
    | frz e => exact .base (.frz (sm _ _ e))
    | tup e => exact .base (.tup (sm _ _ e))
    | dK e => exact .base (.dK (sm _ _ e))
    | dT e => exact .base (.dT (sm _ _ e))
  | byt b => exact .byt b
  | set e => exact .set (sm _ _ e)
  | kList e c => exact .kList e c
  | kTuple e c => exact .kTuple e c
  | kDict e c => exact .kDict e c
  | fTuple e => exact .fTuple (sm _ _ e)
  | fDict e => exact .fDict (sm _ _ e)
theorem numo_same {K : PySem.W.Frag} {H H' : Hp} {s : Int} (sm : Same H H') {v : V} (h : Num v s ∨ NoNum K H v s) : Num v s ∨ NoNum K H' v s := by
  rcases h with h | h
  · exact .inl h
  · exact .inr (h.same sm)
theorem oddi_same {K : PySem.W.Frag} {H H' : Hp} (sm : Same H H') {y : V} (h : Odd7 K H y ∨ ∃ i, y = .int i) : Odd7 K H' y ∨ ∃ i, y = .int i := by
  rcases h with h | h
  · exact .inl (h.same sm)
  · exact .inr h
theorem LkR.same {K : PySem.W.Frag} {H H' : Hp} {s : Int} {v : V} {b : Bool} (sm : Same H H') (h : LkR K H s v b) : LkR K H' s v b := by
  cases h with
  | odd h => exact .odd (h.same sm)
  | int i => exact .int i
  | len h hl => exact .len (sqT_same sm h) hl
  | fst h hn hp =>
    refine .fst (sqT_same sm h) (hn.same sm) ?_
    rcases hp with hp | ⟨t, ys, e, ht, ly, hall⟩
    · exact .inl (oddi_same sm hp)
    · exact .inr ⟨t, ys, e, sqT_same sm ht, ly, fun e he => numo_same sm (hall e he)⟩
  | snd h hx hy => exact .snd (sqT_same sm h) hx (oddi_same sm hy)
  | thd h hx ht ly hall hex =>
    obtain ⟨e, he, hn⟩ := hex
    exact .thd (sqT_same sm h) hx (sqT_same sm ht) ly (fun e he => numo_same sm (hall e he)) ⟨e, he, hn.same sm⟩
  | yes h lx c0 c1 hx => exact .yes (h.same sm) lx c0 c1 hx
theorem Th.same {K : PySem.W.Frag} {H H' : Hp} {v : V} (sm : Same H H') (o : Th K H v) : Th K H' v := by
  induction o with
  | odd o => exact .odd (o.same sm)
  | int i => exact .int i
  | tup hs hl _ ih => exact .tup (sqT_same sm hs) hl ih
theorem Th.num {K : PySem.W.Frag} {H : Hp} {s : Int} {v : V} (o : Th K H v) : Num v s ∨ NoNum K H v s := by
  cases o with
  | odd o => exact .inr (.inl o)
  | int i =>
    by_cases z : 0 ≤ i ∧ i < s
    · exact .inl ⟨i, rfl, z⟩
    · exact .inr (.inr (.inr ⟨i, rfl, z⟩))
  | tup hs hl _ => exact .inr (.inr (.inl ⟨_, _, rfl, hs⟩))
theorem Th.part {K : PySem.W.Frag} {H : Hp} {s : Int} {v : V} (o : Th K H v) : Part K H s v := by
  cases o with
  | odd o => exact .inl (.inl o)
  | int i => exact .inl (.inr ⟨i, rfl⟩)
  | tup hs hl ha => exact .inr ⟨_, _, rfl, hs, hl, fun e he => (ha e he).num⟩
theorem Th.look {K : PySem.W.Frag} {H : Hp} {s : Int} {v : V} (o : Th K H v) : ∃ b, LkR K H s v b := by
  cases o with
  | odd o => exact ⟨_, .odd o⟩
  | int i => exact ⟨_, .int i⟩
  | @tup a xs hs hl ha =>
    by_cases l2 : xs.length = 2
    · obtain ⟨x, y, rfl⟩ : ∃ x y, xs = [x, y] := by
        match xs, l2 with
        | [x, y], _ => exact ⟨x, y, rfl⟩
      have hx := ha x (List.mem_cons_self ..)
      have hy := ha y (List.mem_cons_of_mem _ (List.mem_cons_self ..))
      rcases hx.num (s := s) with h1 | h1
      · cases hy with
        | odd o => exact ⟨_, .snd hs h1 (.inl o)⟩
        | int i => exact ⟨_, .snd hs h1 (.inr ⟨i, rfl⟩)⟩
        | @tup t ys ht lt hat =>
          by_cases hex : ∃ e ∈ ys, NoNum K H e s
          · exact ⟨_, .thd hs h1 ht lt (fun e he => (hat e he).num) hex⟩
          · have hall : ∀ e ∈ ys, Num e s := fun e he => by
              rcases (hat e he).num (s := s) with z | z
              · exact z
              · exact absurd ⟨e, he, z⟩ hex
            obtain ⟨zs, rfl, hz⟩ := nums_of hall
            obtain ⟨c, rfl, c0, c1⟩ := h1
            exact ⟨_, .yes ⟨t, hs, ht⟩ (by rw [List.length_map] at lt; exact lt) c0 c1 hz⟩
      · exact ⟨_, .fst hs h1 hy.part⟩
    · exact ⟨_, .len hs l2⟩
theorem Th.lk {K : PySem.W.Frag} {H : Hp} {a : Addr} {c : Int} {xs : List Int} (l : Lk K H a c xs) (hx : xs.length ≤ 60) : Th K H (.ref a) := by
  obtain ⟨t, h1, h2⟩ := l
  refine .tup h1 (show 2 ≤ 60 by decide) fun e he => ?_
  simp only [List.mem_cons, List.not_mem_nil, or_false] at he
  rcases he with rfl | rfl
  · exact .int c
  · refine .tup h2 (by rw [List.length_map]; exact hx) fun e he => ?_
    obtain ⟨x, _, rfl⟩ := List.mem_map.mp he
    exact .int x
theorem th_non {K : PySem.W.Frag} {H : Hp} : Th K H .non := .odd ⟨"NoneType", by decide, .base .non⟩
theorem th_bl {K : PySem.W.Frag} {H : Hp} (b : Bool) : Th K H (.bl b) := .odd ⟨"bool", by decide, .base (.bl b)⟩
theorem th_str {K : PySem.W.Frag} {H : Hp} (z : Str) : Th K H (.str z) := .odd ⟨"str", by decide, .base (.str z)⟩
theorem th_lst {K : PySem.W.Frag} {H : Hp} {a : Addr} {xs : List V} (h : H a = some (.lst xs)) : Th K H (.ref a) := .odd ⟨"list", by decide, .base (.lst h)⟩
theorem th_dct {K : PySem.W.Frag} {H : Hp} {a : Addr} {kvs : List (Key × V)} (h : H a = some (.dK kvs)) : Th K H (.ref a) := .odd ⟨"dict", by decide, .base (.dK h)⟩
theorem th_tup {K : PySem.W.Frag} {H : Hp} {a : Addr} {xs : List V} (h : H a = some (.tup xs)) (l : xs.length ≤ 60) (ha : ∀ e ∈ xs, Th K H e) : Th K H (.ref a) := .tup (SqT.of h) l ha
theorem thn {K : PySem.W.Frag} {H : Hp} : ∀ e ∈ ([] : List V), Th K H e := fun e he => by cases he
theorem thc {K : PySem.W.Frag} {H : Hp} {a : V} {r : List V} (h : Th K H a) (t : ∀ e ∈ r, Th K H e) : ∀ e ∈ a :: r, Th K H e := fun e he => by
  rcases List.mem_cons.mp he with z | z
  · rw [z]
    exact h
  · exact t e z
theorem tha {K : PySem.W.Frag} {H : Hp} {l r : List V} (h : ∀ e ∈ l, Th K H e) (t : ∀ e ∈ r, Th K H e) : ∀ e ∈ l ++ r, Th K H e := fun e he => by
  rcases List.mem_append.mp he with z | z
  · exact h e z
  · exact t e z
theorem thi {K : PySem.W.Frag} {H : Hp} (xs : List Int) : ∀ e ∈ xs.map V.int, Th K H e := fun e he => by
  obtain ⟨x, _, rfl⟩ := List.mem_map.mp he
  exact .int x
theorem ths {K : PySem.W.Frag} {H H' : Hp} {r : List V} (sm : Same H H') (t : ∀ e ∈ r, Th K H e) : ∀ e ∈ r, Th K H' e := fun e he => (t e he).same sm
theorem cut_mem {xs : List V} {lo hi : Option Int} {e : V} (h : e ∈ cutV xs lo hi) : e ∈ xs := List.mem_of_mem_drop (List.mem_of_mem_take h)
theorem thcut {K : PySem.W.Frag} {H : Hp} {xs : List V} {lo hi : Option Int} (t : ∀ e ∈ xs, Th K H e) : ∀ e ∈ cutV xs lo hi, Th K H e := fun e he => t e (cut_mem he)
def spOdd (K : PySem.W.Frag) : Sp := fun vs H Q _ => ∃ (h : Addr) (n : Nat), vs = [.ref h] ∧ HS h n H ∧ n + 22 < lim ∧ ∀ v H', Th K H' v → HS h (n + 22) H' → Fr h H H' → Q v H'
def spNumR (K : PySem.W.Frag) : Sp := fun vs H Q _ => ∃ (h : Addr) (i s : Int) (n : Nat), vs = [.ref h, .int i, .int s] ∧ HS h n H ∧ n + 23 < lim ∧ 8 ≤ s ∧ s ≤ 1048576 ∧ 0 ≤ i ∧ i < s ∧ ∀ v H', Th K H' v → HS h (n + 23) H' → Fr h H H' → Q v H'
def spBent (K : PySem.W.Frag) : Sp := fun vs H Q _ => ∃ (h l : Addr) (c : Int) (xs : List Int) (s : Int) (n : Nat), vs = [.ref h, .ref l, .int s] ∧ Lk K H l c xs ∧ xs.length ≤ 6 ∧ (∀ x ∈ xs, 0 ≤ x ∧ x < s) ∧ 0 ≤ c ∧ c < s ∧ HS h n H ∧ n + 30 < lim ∧ 8 ≤ s ∧ s ≤ 1048576 ∧ ∀ v H', Th K H' v → HS h (n + 30) H' → Fr h H H' → Q v H'
section
variable {P : Program} {w : World} {K : PySem.W.Frag} {mg : Str → Option Value} {base : Heap}
def spLIsLook (K : PySem.W.Frag) : Sp := fun vs H Q _ => ∃ (v : V) (s : Int) (b : Bool), vs = [v, .int s] ∧ LkR K H s v b ∧ 8 ≤ s ∧ s ≤ 1048576 ∧ ∀ H', Same H H' → Q (.bl b) H'
theorem ok_ison (T : Tx K mg) : BodyOk P w K mg base "_law_is_on" s_l_is_on N_l_is_on 0 (spNumber K) := by
  intro f cdv A outer s H vs Q E hr h
  obtain ⟨v, s, rfl, h⟩ := h
  refine ⟨_, (pss_one (ps_ret (pe_and (pe_callB call_isi (gl_of gl_l_is_on_isinstance) T.isinstance bb_isinstance (pa_cons (pv 0) (pa_cons (pe_bltn (v := .ty "int") (gl_of gl_l_is_on_int) T.int bt_int rfl) pa_nil))) (pe_and (pe_not (pe_callB call_isi (gl_of gl_l_is_on_isinstance) T.isinstance bb_isinstance (pa_cons (pv 0) (pa_cons (pe_bltn (v := .ty "bool") (gl_of gl_l_is_on_bool) T.bool bt_bool rfl) pa_nil)))) (pe_one (pe_chain op_le op_lt pe_int (pv 0) (pv 1))))))), ?_⟩
  rcases h with ⟨⟨i, rfl, i0, i1⟩, q⟩ | ⟨h | ⟨a, xs, rfl, hT⟩ | ⟨i, rfl, hi⟩, q⟩
  · refine ⟨_, rfl, _, _, _, _, true, rfl, .ty "int", .base (.int i), kb (by decide +kernel), _, rfl, iteT ?_⟩
    refine ⟨_, rfl, _, _, _, _, false, rfl, .ty "bool", .base (.int i), kb (by decide +kernel), _, rfl, _, rfl, iteT ?_⟩
    refine ⟨_, rfl, _, _, rfl, rfl, _, rfl, ?_⟩
    rw [decide_eq_true i0]
    refine iteT ⟨_, rfl, _, _, rfl, rfl, ?_⟩
    show Q (.bl (decide (i < s))) H
    rw [decide_eq_true i1]
    exact q
  · obtain ⟨T', hT', ty⟩ := h
    obtain ⟨b, k1, k2, k3⟩ := odd_int hT'
    refine ⟨_, rfl, _, _, _, _, b, rfl, .ty "int", ty, kb k1, _, rfl, ite2 (fun y => ?_) (fun y => q)⟩
    exact ⟨_, rfl, _, _, _, _, true, rfl, .ty "bool", ty, kb (k3 y), _, rfl, _, rfl, iteF q⟩
  · exact ⟨_, rfl, _, _, _, _, false, rfl, .ty "int", ty_sqT hT, kb (by decide +kernel), _, rfl, iteF q⟩
  · refine ⟨_, rfl, _, _, _, _, true, rfl, .ty "int", .base (.int i), kb (by decide +kernel), _, rfl, iteT ?_⟩
    refine ⟨_, rfl, _, _, _, _, false, rfl, .ty "bool", .base (.int i), kb (by decide +kernel), _, rfl, _, rfl, iteT ?_⟩
    refine ⟨_, rfl, _, _, rfl, rfl, _, rfl, ite2 (fun y => ?_) (fun y => q)⟩
    have y2 : 0 ≤ i := of_decide_eq_true y
    refine ⟨_, rfl, _, _, rfl, rfl, ?_⟩
    show Q (.bl (decide (i < s))) H
    rw [decide_eq_false (fun z => hi ⟨y2, z⟩)]
    exact q
theorem ok_lIsLook (T : Tx K mg) (c_l_is_on : C8.Cal P w K mg base 1 "_law_is_on" (spNumber K) []) : BodyOk P w K mg base "_law_is_look" s_l_is_look N_l_is_look 1 (spLIsLook K) := by
  intro f cdv A outer s H vs Q E hr h
  obtain ⟨v, s, b, rfl, hR, s8, s1, q⟩ := h
  have s0 : 0 < s := by omega
  refine ⟨_, (pss_cons (ps_if (PW.pt (pw_or (pt_not (pt_val (pe_callB call_isi (gl_of gl_l_is_look_isinstance) T.isinstance bb_isinstance (pa_cons (pv 0) (pa_cons (pe_bltn (v := .ty "tuple") (gl_of gl_l_is_look_tuple) T.tuple bt_tuple rfl) pa_nil))))) (pw_or (pt_cmpR op_ne (pe_callB call_len_seq (gl_of gl_l_is_look_len) T.len bb_len (pa_cons (pv 0) pa_nil)) pe_int (nomark _)) (pw_or1 (pt_not (pt_val (pe_callB call_isi (gl_of gl_l_is_look_isinstance) T.isinstance bb_isinstance (pa_cons (pe_ix ix_tup (pv 0) pe_int (fun _ _ => rfl)) (pa_cons (pe_bltn (v := .ty "tuple") (gl_of gl_l_is_look_tuple) T.tuple bt_tuple rfl) pa_nil))))))))) (pss_one (ps_ret pe_bl)) pss_nil)
      (pss_cons (ps_if (pt_not (pt_val (pe_callB (cr_all rfl) (gl_of gl_l_is_look_all) T.all bb_all (pa_cons (pe_lc (own := [("_law_number_here", 3)]) (g := gName 3) (tt := tYes) rfl sc_l_is_look.nd (pi_tup (pe_op op_catA (pe_ix ix_tup (pv 0) pe_int (fun _ _ => rfl)) (pe_slice sl_tupA (pv 0) po_none (po_some pe_int)))) (blkOk_by (own := [("_law_number_here", 3)]) (N := N_l_is_look) (sc := defScope s_l_is_look) (by decide +kernel)) (fun _ _ _ _ _ => pg_name (i := 3) sc_l_is_look.nd rfl (Or.inl rfl)) (fun _ _ _ _ _ => pts_nil) (fun _ _ _ _ _ => (C8.pe_c c_l_is_on hr (by decide) (by rfl) (pa_cons (pv 3) (pa_cons (pv 1) pa_nil))))) pa_nil)))) (pss_one (ps_ret pe_bl)) pss_nil)
      (pss_cons (ps_setLc (i := 2) (own := [("_law_number_here", 3)]) (g := gName 3) (tt := tYes) rfl sc_l_is_look.nd rfl rfl (sw_true rfl rfl rfl (by decide +kernel)) (pi_tup (pe_ix ix_tup (pv 0) pe_int (fun _ _ => rfl))) (blkOk_by (own := [("_law_number_here", 3)]) (N := N_l_is_look) (sc := defScope s_l_is_look) (by decide +kernel)) (fun _ _ _ _ _ => pg_name (i := 3) sc_l_is_look.nd rfl (Or.inl rfl)) (fun _ _ _ _ _ => pts_nil) (fun _ _ _ _ _ => (pe_op op_mod (pe_op op_sub (pe_ix (ix_tupK (K1 := K) rfl) (pv 0) pe_int (fun _ _ => rfl)) (pv 3)) (pv 1))))
      (pss_one (ps_ret (pe_and (pe_cmpR (op_eqD hr.units) (pv 2) (pe_revL (pe_callB (cr_sortedSet rfl) (gl_of gl_l_is_look_sorted) T.sorted bb_sorted (pa_cons (pe_callTy (cr_setI rfl) (gl_of gl_l_is_look_set) T.set bt_set (pa_cons (pv 2) pa_nil)) pa_nil))) (nomark _)) (pe_one (pe_callB (cr_all rfl) (gl_of gl_l_is_look_all) T.all bb_all (pa_cons (pe_lc (own := [("_law_many", 4)]) (g := gName 4) (tt := tYes) rfl sc_l_is_look.nd (pi_list (pv 2)) (blkOk_by (own := [("_law_many", 4)]) (N := N_l_is_look) (sc := defScope s_l_is_look) (by decide +kernel)) (fun _ _ _ _ _ => pg_name (i := 4) sc_l_is_look.nd rfl (Or.inl rfl)) (fun _ _ _ _ _ => pts_nil) (fun _ _ _ _ _ => (pe_chain op_lt op_lt pe_int (pv 4) (pe_op op_fdivW (pv 1) pe_int)))) pa_nil))))))))), ?_⟩
  have sr : Same H H := fun _ _ e => e
  refine st_seq ?_
  rcases hR.two with ⟨rfl, (h | ⟨i, rfl⟩) | ⟨a, xs, rfl, h, hl⟩ | ⟨a, x, y, rfl, h, hy⟩⟩ | ⟨a, x, t, ys, rfl, h, ht, ly, hall, hno, hyes⟩
  · obtain ⟨T', hT', ty⟩ := h
    obtain ⟨b, k1, k2, k3⟩ := odd_int hT'
    exact ⟨_, rfl, _, _, _, _, false, rfl, .ty "tuple", ty, kb k2, _, rfl, iteT (iteT (q _ sr))⟩
  · exact ⟨_, rfl, _, _, _, _, false, rfl, .ty "tuple", .base (.int i), kb (by decide +kernel), _, rfl, iteT (iteT (q _ sr))⟩
  · refine ⟨_, rfl, _, _, _, _, true, rfl, .ty "tuple", ty_sqT h, kb (by decide +kernel), _, rfl, iteF ?_⟩
    refine ⟨_, rfl, a, xs, rfl, .inr h, rfl, true, ?_, iteT (iteT (q _ sr))⟩
    show V.bl (!decide (V.int (xs.length : Nat) = V.int 2)) = _
    rw [decide_eq_false (fun z => hl (by have := V.int.inj z; omega))]
    rfl
  · refine ⟨_, rfl, _, _, _, _, true, rfl, .ty "tuple", ty_sqT h, kb (by decide +kernel), _, rfl, iteF ?_⟩
    refine ⟨_, rfl, a, _, rfl, .inr h, rfl, false, rfl, iteF ?_⟩
    rcases hy with ⟨T', hT', ty⟩ | ⟨i, rfl⟩
    · obtain ⟨b, k1, k2, k3⟩ := odd_int hT'
      exact ⟨_, rfl, a, _, 1, y, rfl, rfl, h, rfl, _, _, _, _, false, rfl, .ty "tuple", ty, kb k2, _, rfl, iteT (q _ sr)⟩
    · exact ⟨_, rfl, a, _, 1, .int i, rfl, rfl, h, rfl, _, _, _, _, false, rfl, .ty "tuple", .base (.int i), kb (by decide +kernel), _, rfl, iteT (q _ sr)⟩
  · refine ⟨_, rfl, _, _, _, _, true, rfl, .ty "tuple", ty_sqT h, kb (by decide +kernel), _, rfl, iteF ?_⟩
    refine ⟨_, rfl, a, _, rfl, .inr h, rfl, false, rfl, iteF ?_⟩
    refine ⟨_, rfl, a, _, 1, .ref t, rfl, rfl, h, rfl, _, _, _, _, true, rfl, .ty "tuple", ty_sqT ht, kb (by decide +kernel), _, rfl, iteF ?_⟩
    refine st_next ?_
    try dsimp only
    refine st_seq ?_
    refine ⟨_, rfl, a, _, 1, .ref t, rfl, rfl, h, rfl, ?_⟩
    refine ⟨_, rfl, _, rfl, slA_ev h (fun p1 G1 sG1 hp1 => ?_)⟩
    refine catA_ev (sqT_same sG1 ht) hp1 (show ys.length + 1 ≤ 1000 by omega) (fun p2 G2 sG2 hp2 => ?_)
    have hp3 : SqT K G2 p2 (ys ++ [x]) := hp2
    have sG : Same H G2 := sG1.trans sG2
    refine ⟨p2, rfl, ⟨_, hp3⟩, fun D nD => ?_⟩
    refine lc_tup (K := K) (a := p2) (xs := ys ++ [x]) (fun j H'' => Same G2 H'' ∧ ∃ bs : List Bool, bs.length = j ∧ H'' D = some (.lst (bs.map V.bl)) ∧ (bs.all id = true → ∀ y ∈ (ys ++ [x]).take j, Num y s) ∧ (bs.all id = false → ∃ y ∈ ys ++ [x], NoNum K H y s)) ?_ (fun j H'' _ hP => ?_) (fun j v H'' hv hP => ?_) (fun H3 hP => ?_)
    · exact ⟨same_new nD, [], rfl, upd_same, (fun _ y hy => by rw [List.take_zero] at hy; cases hy), fun z => by cases z⟩
    · exact sqT_same hP.1 hp3
    · obtain ⟨sD, bs, lb, eD, hb, hb0⟩ := hP
      have hjl : j < (ys ++ [x]).length := (List.getElem?_eq_some_iff.mp hv).1
      have hjl2 : j < 100 := by
        rw [List.length_append] at hjl
        have : j < ys.length + 1 := hjl
        omega
      have hvm := List.mem_of_getElem? hv
      refine ⟨rfl, ?_⟩
      have step : ∀ b : Bool, (b = true → Num v s) → (b = false → NoNum K H v s) → ∃ acc, H'' D = some (.lst acc) ∧ acc.length < sizeLine ∧ (Same G2 (upd H'' D (.lst (acc ++ [.bl b]))) ∧ ∃ bs : List Bool, bs.length = j + 1 ∧ (upd H'' D (.lst (acc ++ [.bl b]))) D = some (.lst (bs.map V.bl)) ∧ (bs.all id = true → ∀ y ∈ (ys ++ [x]).take (j + 1), Num y s) ∧ (bs.all id = false → ∃ y ∈ ys ++ [x], NoNum K H y s)) := fun b hbn hbo => by
        refine ⟨_, eD, ?_, same_mut sD nD, bs ++ [b], ?_, ?_, fun hall2 y hy => ?_, fun h0 => ?_⟩
        · rw [List.length_map]
          exact small1000 (by omega)
        · rw [List.length_append, lb]
          rfl
        · rw [upd_same, List.map_append]
          rfl
        · rw [List.all_append, Bool.and_eq_true] at hall2
          rw [take_add1 (ys ++ [x]) j hjl] at hy
          rcases List.mem_append.mp hy with e | e
          · exact hb hall2.1 y e
          · rw [List.mem_singleton.mp e]
            have ev : (ys ++ [x])[j] = v := by
              rw [List.getElem?_eq_getElem hjl] at hv
              exact Option.some.inj hv
            rw [ev]
            refine hbn ?_
            have z := hall2.2
            simpa using z
        · rw [List.all_append, Bool.and_eq_false_iff] at h0
          rcases h0 with e | e
          · exact hb0 e
          · refine ⟨v, hvm, hbo ?_⟩
            simpa using e
      rcases hall v hvm with h1 | h1
      · exact ⟨_, rfl, _, rfl, v, s, rfl, .inl ⟨h1, step true (fun _ => h1) (fun z => by cases z)⟩⟩
      · exact ⟨_, rfl, _, rfl, v, s, rfl, .inr ⟨(h1.same sG).same sD, step false (fun z => by cases z) fun _ => h1⟩⟩
    obtain ⟨sD, bs, lb, eD, hb, hb0⟩ := hP
    rw [List.take_length] at hb
    refine ⟨D, _, rfl, SqL.of eD, _, rfl, ?_⟩
    have s03 : Same H H3 := sG.trans sD
    cases hA : bs.all id with
    | false =>
      rw [hno (hb0 hA)] at q
      exact iteT (q _ s03)
    | true =>
      obtain ⟨c, xs, rfl, rfl, c0, c1, hx, rfl⟩ := hyes (hb hA)
      refine iteF ?_
      refine st_next ?_
      rw [inOrd_eq c0 c1 (by omega) hx] at q
      try dsimp only
      refine st_seq ?_
      have h3 := sqT_same s03 h
      have ht3 := sqT_same s03 ht
      refine ⟨_, rfl, a, _, 1, .ref t, rfl, rfl, h3, rfl, ?_⟩
      refine ⟨t, rfl, ⟨_, ht3⟩, fun B nB => ?_⟩
      rw [List.length_map] at ly
      refine lc_tup (K := K) (a := t) (xs := xs.map V.int) (fun j H'' => Same H3 H'' ∧ H'' B = some (.lst (((xs.map fun x => (c - x) % s).take j).map V.int))) ?_ (fun j H'' _ hP => ?_) (fun j v H'' hv hP => ?_) (fun H4 hP => ?_)
      · exact ⟨same_new nB, upd_same⟩
      · exact sqT_same hP.1 ht3
      · obtain ⟨sB, eB⟩ := hP
        have hjl : j < xs.length := by
          have z := (List.getElem?_eq_some_iff.mp hv).1
          rw [List.length_map] at z
          exact z
        rw [List.getElem?_map, List.getElem?_eq_getElem hjl] at hv
        have ev : v = .int xs[j] := (Option.some.inj hv).symm
        subst ev
        refine ⟨rfl, ?_⟩
        refine ⟨_, rfl, a, _, 0, .int c, rfl, rfl, sqT_same sB h3, rfl, _, rfl, _, _, rfl, rfl, _, rfl, _, _, rfl, rfl, s0, _, eB, ?_, same_mut sB nB, ?_⟩
        · rw [List.length_map, List.length_take]
          exact small1000 (by omega)
        · have hjm : j < (xs.map fun x => (c - x) % s).length := by
            rw [List.length_map]
            exact hjl
          rw [upd_same, take_add1 _ j hjm, List.map_append, List.getElem_map]
          rfl
      obtain ⟨sB, eB⟩ := hP
      have lbk : (xs.map fun x => (c - x) % s).length ≤ 60 := by
        rw [List.length_map]
        exact ly
      have etk : (xs.map fun x => (c - x) % s).take (xs.map V.int).length = xs.map fun x => (c - x) % s := by
        refine List.take_of_length_le ?_
        rw [List.length_map, List.length_map]
        exact Nat.le_refl _
      rw [etk] at eB
      have s04 : Same H H4 := s03.trans sB
      generalize (xs.map fun x => (c - x) % s) = bk at eB q lbk
      try dsimp only [gName]
      refine ⟨_, rfl, _, rfl, B, bk, rfl, SqL.of eB, by omega, fun S n hn nS => ?_⟩
      refine ⟨S, _, n, rfl, upd_same, by omega, fun ss R hss hmem hlen nR => ?_⟩
      generalize SetO _ S (fun j => decide (j ∈ bk)) n = O at nR ⊢
      refine ⟨R, _, rfl, SqL.of upd_same, fun R2 nR2 => ?_⟩
      have e5 : (upd (upd (upd H4 S O) R (.lst (ss.map V.int))) R2 (.lst (ss.map V.int).reverse)) R2 = some (.lst (ss.reverse.map V.int)) := by
        rw [upd_same, List.map_reverse]
      have s45 : Same H4 (upd (upd (upd H4 S O) R (.lst (ss.map V.int))) R2 (.lst (ss.map V.int).reverse)) := (same_new nS).trans ((same_new nR).trans (same_new nR2))
      generalize upd (upd (upd H4 S O) R (.lst (ss.map V.int))) R2 (.lst (ss.map V.int).reverse) = H5 at e5 s45
      have eB5 := s45 _ _ eB
      have s05 : Same H H5 := s04.trans s45
      refine ⟨.list (bk.map PyData.int), .list (ss.reverse.map PyData.int), .lst (SqL.of eB5) (dp_ints _), .lst (SqL.of e5) (dp_ints _), shape_ints _, shape_ints _, _, rfl, ?_⟩
      have ee : PyData.eqv (.list (bk.map PyData.int)) (.list (ss.reverse.map PyData.int)) = decide (bk.Pairwise (· > ·)) := by
        rw [PyData.eqv, eqv_ints]
        refine decide_eq_decide.mpr (dec_iff hss fun k => ?_)
        rw [hmem k, decide_eq_true_iff]
      rw [ee]
      refine ite2 (fun y => ?_) (fun y => ?_)
      · rw [y, Bool.true_and] at q
        refine ⟨_, rfl, B, rfl, ⟨_, SqL.of eB5⟩, fun C nC => ?_⟩
        refine lc_list (K := K) (a := B) (xs := bk.map V.int) (fun j H'' => Same H5 H'' ∧ H'' C = some (.lst (((bk.map fun b => decide (0 < b) && decide (b < s / 2)).take j).map V.bl))) ?_ (fun j H'' _ hP => ?_) (fun j v H'' hv hP => ?_) (fun H6 hP => ?_)
        · exact ⟨same_new nC, upd_same⟩
        · exact SqL.of (hP.1 _ _ eB5)
        · obtain ⟨sC, eC⟩ := hP
          have hjl : j < bk.length := by
            have z := (List.getElem?_eq_some_iff.mp hv).1
            rw [List.length_map] at z
            exact z
          rw [List.getElem?_map, List.getElem?_eq_getElem hjl] at hv
          have ev : v = .int bk[j] := (Option.some.inj hv).symm
          subst ev
          have hjm : j < (bk.map fun b => decide (0 < b) && decide (b < s / 2)).length := by
            rw [List.length_map]
            exact hjl
          have step : ∀ b : Bool, b = (decide (0 < bk[j]) && decide (bk[j] < s / 2)) → ∃ acc, H'' C = some (.lst acc) ∧ acc.length < sizeLine ∧ (Same H5 (upd H'' C (.lst (acc ++ [.bl b]))) ∧ (upd H'' C (.lst (acc ++ [.bl b]))) C = some (.lst (((bk.map fun b => decide (0 < b) && decide (b < s / 2)).take (j + 1)).map V.bl))) := fun b hb => by
            refine ⟨_, eC, ?_, same_mut sC nC, ?_⟩
            · rw [List.length_map, List.length_take]
              exact small1000 (by omega)
            · rw [upd_same, take_add1 _ j hjm, List.map_append, List.getElem_map, hb]
              rfl
          refine ⟨rfl, ?_⟩
          refine ⟨_, rfl, _, _, rfl, rfl, _, rfl, ite2 (fun z => ?_) (fun z => ?_)⟩
          · refine ⟨_, rfl, _, _, rfl, rfl, cdw (by decide) (by decide), _, _, rfl, rfl, ?_⟩
            exact step _ (by rw [z, Bool.true_and])
          · exact step _ (by rw [Bool.eq_false_iff.mpr z, Bool.false_and])
        · obtain ⟨sC, eC⟩ := hP
          have etk : (bk.map fun b => decide (0 < b) && decide (b < s / 2)).take (bk.map V.int).length = bk.map fun b => decide (0 < b) && decide (b < s / 2) := by
            refine List.take_of_length_le ?_
            rw [List.length_map, List.length_map]
            exact Nat.le_refl _
          rw [etk] at eC
          refine ⟨C, _, rfl, SqL.of eC, ?_⟩
          have z := q H6 (s05.trans sC)
          rw [List.all_map]
          exact z
      · rw [Bool.eq_false_iff.mpr y, Bool.false_and] at q
        exact q _ s05
theorem ok_odd (T : Tx K mg) (c_l_of : C8.Cal P w K mg base 2 "_law_of" (spOf2 K) []) : BodyOk P w K mg base "_law_odd" s_l_odd N_l_odd 2 (spOdd K) := by
  intro f cdv A outer s H vs Q E hr h
  obtain ⟨h, n, rfl, hs, hn, q⟩ := h
  have hn2 : n + 22 < 100000 := hn
  refine ⟨_, (pss_cons (ps_set (i := 1) sc_l_odd.nd rfl (Or.inl rfl) (C8.pe_c c_l_of hr (by decide) (gl_of gl_l_odd_l_of) (pa_cons (pv 0) (pa_cons (pe_lst (pa_cons pe_non (pa_cons pe_bl (pa_cons pe_bl (pa_cons pe_str (pa_cons pe_str (pa_cons pe_int (pa_cons pe_int (pa_cons (pe_un un_neg pe_int) (pa_cons (pe_tup pa_nil) (pa_cons (pe_lst pa_nil) (pa_cons pe_dnewK (pa_cons (pe_tup (pa_cons pe_int pa_nil)) (pa_cons (pe_tup (pa_cons pe_int (pa_cons (pe_tup pa_nil) pa_nil))) (pa_cons (pe_tup (pa_cons pe_int (pa_cons (pe_tup pa_nil) (pa_cons (pe_tup pa_nil) pa_nil)))) (pa_cons (pe_lst (pa_cons pe_int (pa_cons (pe_tup pa_nil) pa_nil))) pa_nil)))))))))))))))) pa_nil))))
      (pss_cons (ps_for PassesOwn.never rfl (pi_range1 (by rfl) T.range (pa_cons (C8.pe_c c_l_of hr (by decide) (gl_of gl_l_odd_l_of) (pa_cons (pv 0) (pa_cons (pe_lst (pa_cons pe_int (pa_cons pe_int (pa_cons pe_int (pa_cons pe_int pa_nil))))) pa_nil))) pa_nil)) (pg_name (i := 2) sc_l_odd.nd rfl (Or.inl rfl)) (pss_one (ps_set (i := 1) sc_l_odd.nd rfl (Or.inl rfl) (C8.pe_c c_l_of hr (by decide) (gl_of gl_l_odd_l_of) (pa_cons (pv 0) (pa_cons (pe_lst (pa_cons (pe_tup (pa_cons (pv 1) pa_nil)) (pa_cons (pe_lst (pa_cons (pv 1) pa_nil)) (pa_cons (pe_tup (pa_cons (pv 1) (pa_cons (pe_tup pa_nil) pa_nil))) (pa_cons (pe_tup (pa_cons pe_int (pa_cons (pv 1) pa_nil))) pa_nil))))) pa_nil))))))
      (pss_one (ps_ret (pv 1))))), ?_⟩
  refine st_seq ?_
  refine ⟨_, rfl, _, rfl, (show 0 ≤ sizeLine by decide), fun t1 nt1 => ?_⟩
  have st1 : Same H (upd H t1 (.tup [])) := same_new nt1
  have et1 : Th K (upd H t1 (.tup [])) (.ref t1) := th_tup upd_same (show 0 ≤ 60 by decide) thn
  generalize upd H t1 (.tup []) = H1 at st1 et1
  refine ⟨(show 0 ≤ sizeLine by decide), fun l1 nl1 => ?_⟩
  have sl1 : Same H1 (upd H1 l1 (.lst [])) := same_new nl1
  have el1 : Th K (upd H1 l1 (.lst [])) (.ref l1) := th_lst upd_same
  generalize upd H1 l1 (.lst []) = H2 at sl1 el1
  intro d1 nd1
  have sd1 : Same H2 (upd H2 d1 (.dK [])) := same_new nd1
  have ed1 : Th K (upd H2 d1 (.dK [])) (.ref d1) := th_dct upd_same
  generalize upd H2 d1 (.dK []) = H3 at sd1 ed1
  refine ⟨(show 1 ≤ sizeLine by decide), fun t2 nt2 => ?_⟩
  have st2 : Same H3 (upd H3 t2 (.tup [.int 0])) := same_new nt2
  have et2 : Th K (upd H3 t2 (.tup [.int 0])) (.ref t2) := th_tup upd_same (show 1 ≤ 60 by decide) (thc (.int 0) thn)
  generalize upd H3 t2 (.tup [.int 0]) = H4 at st2 et2
  refine ⟨(show 0 ≤ sizeLine by decide), fun t3 nt3 => ?_⟩
  have st3 : Same H4 (upd H4 t3 (.tup [])) := same_new nt3
  have et3 : Th K (upd H4 t3 (.tup [])) (.ref t3) := th_tup upd_same (show 0 ≤ 60 by decide) thn
  generalize upd H4 t3 (.tup []) = H5 at st3 et3
  refine ⟨(show 2 ≤ sizeLine by decide), fun t4 nt4 => ?_⟩
  have st4 : Same H5 (upd H5 t4 (.tup [.int 0, .ref t3])) := same_new nt4
  have et4 : Th K (upd H5 t4 (.tup [.int 0, .ref t3])) (.ref t4) := th_tup upd_same (show 2 ≤ 60 by decide) (thc (.int 0) (thc (et3.same st4) thn))
  generalize upd H5 t4 (.tup [.int 0, .ref t3]) = H6 at st4 et4
  refine ⟨(show 0 ≤ sizeLine by decide), fun t5 nt5 => ?_⟩
  have st5 : Same H6 (upd H6 t5 (.tup [])) := same_new nt5
  have et5 : Th K (upd H6 t5 (.tup [])) (.ref t5) := th_tup upd_same (show 0 ≤ 60 by decide) thn
  generalize upd H6 t5 (.tup []) = H7 at st5 et5
  refine ⟨(show 0 ≤ sizeLine by decide), fun t6 nt6 => ?_⟩
  have st6 : Same H7 (upd H7 t6 (.tup [])) := same_new nt6
  have et6 : Th K (upd H7 t6 (.tup [])) (.ref t6) := th_tup upd_same (show 0 ≤ 60 by decide) thn
  generalize upd H7 t6 (.tup []) = H8 at st6 et6
  refine ⟨(show 3 ≤ sizeLine by decide), fun t7 nt7 => ?_⟩
  have st7 : Same H8 (upd H8 t7 (.tup [.int 0, .ref t5, .ref t6])) := same_new nt7
  have et7 : Th K (upd H8 t7 (.tup [.int 0, .ref t5, .ref t6])) (.ref t7) := th_tup upd_same (show 3 ≤ 60 by decide) (thc (.int 0) (thc ((et5.same st6).same st7) (thc (et6.same st7) thn)))
  generalize upd H8 t7 (.tup [.int 0, .ref t5, .ref t6]) = H9 at st7 et7
  refine ⟨(show 0 ≤ sizeLine by decide), fun t8 nt8 => ?_⟩
  have st8 : Same H9 (upd H9 t8 (.tup [])) := same_new nt8
  have et8 : Th K (upd H9 t8 (.tup [])) (.ref t8) := th_tup upd_same (show 0 ≤ 60 by decide) thn
  generalize upd H9 t8 (.tup []) = Ha at st8 et8
  refine ⟨(show 2 ≤ sizeLine by decide), fun l2 nl2 => ?_⟩
  have sl2 : Same Ha (upd Ha l2 (.lst [.int 0, .ref t8])) := same_new nl2
  have el2 : Th K (upd Ha l2 (.lst [.int 0, .ref t8])) (.ref l2) := th_lst upd_same
  generalize upd Ha l2 (.lst [.int 0, .ref t8]) = Hb at sl2 el2
  have all : ∀ e ∈ ([.non, .bl true, .bl false, .str "", .str "a", .int 0, .int 1, .int (-1), .ref t1, .ref l1, .ref d1, .ref t2, .ref t4, .ref t7, .ref l2] : List V), Th K Hb e := (thc th_non (thc (th_bl _) (thc (th_bl _) (thc (th_str _) (thc (th_str _) (thc (.int 0) (thc (.int 1) (thc (.int (-1)) (thc ((((((((((et1.same sl1).same sd1).same st2).same st3).same st4).same st5).same st6).same st7).same st8).same sl2) (thc (((((((((el1.same sd1).same st2).same st3).same st4).same st5).same st6).same st7).same st8).same sl2) (thc ((((((((ed1.same st2).same st3).same st4).same st5).same st6).same st7).same st8).same sl2) (thc (((((((et2.same st3).same st4).same st5).same st6).same st7).same st8).same sl2) (thc (((((et4.same st5).same st6).same st7).same st8).same sl2) (thc ((et7.same st8).same sl2) (thc el2 thn)))))))))))))))
  have fb : Fr h H Hb := ((((((((((((Fr.refl h H).trans (Fr.same st1)).trans (Fr.same sl1)).trans (Fr.same sd1)).trans (Fr.same st2)).trans (Fr.same st3)).trans (Fr.same st4)).trans (Fr.same st5)).trans (Fr.same st6)).trans (Fr.same st7)).trans (Fr.same st8)).trans (Fr.same sl2))
  have hsb : HS h n Hb := (((((((((((hs.same st1).same sl1).same sd1).same st2).same st3).same st4).same st5).same st6).same st7).same st8).same sl2)
  refine ⟨(show 15 ≤ sizeLine by decide), fun p np => ?_⟩
  refine .inl ⟨h, p, _, n, rfl, hsb.new np, (show n < 100000 by omega), hsb.ne np, SqL.of upd_same, (show 0 < 15 by decide), (show 15 ≤ 1000 by decide), fun v Hc hv hsc fc => ?_⟩
  have thv : Th K Hc v := ((all v hv).same (same_new np)).fr (hsb.new np) hsc fc
  have f0c : Fr h H Hc := fb.trans ((Fr.new np).trans fc)
  clear all
  try dsimp only [gName]
  refine st_seq ?_
  refine ⟨_, rfl, (show 4 ≤ sizeLine by decide), fun p2 np2 => ?_⟩
  refine .inl ⟨h, p2, [.int 0, .int 0, .int 1, .int 20], n + 1, rfl, hsc.new np2, (show n + 1 < 100000 by omega), hsc.ne np2, SqL.of upd_same, (show 0 < 4 by decide), (show 4 ≤ 1000 by decide), fun v2 Hd hv2 hsd fd => ?_⟩
  have hm : ∃ m : Nat, v2 = .int m ∧ m ≤ 20 := by
    simp only [List.mem_cons, List.not_mem_nil, or_false] at hv2
    rcases hv2 with rfl | rfl | rfl | rfl
    · exact ⟨0, rfl, by decide⟩
    · exact ⟨0, rfl, by decide⟩
    · exact ⟨1, rfl, by decide⟩
    · exact ⟨20, rfl, by decide⟩
  obtain ⟨m, rfl, m20⟩ := hm
  refine ⟨(m : Int), rfl, by omega, by omega, ?_⟩
  refine for_range (lo := 0) (n := ((m : Int)).toNat) (fun i σ H' => ∃ (v : V) (y2 : Option V), σ = [some (.ref h), some v, y2] ∧ Th K H' v ∧ HS h (n + 2 + i) H' ∧ Fr h H H') ⟨v, none, rfl, (thv.same (same_new np2)).fr (hsc.new np2) hsd fd, hsd, f0c.trans ((Fr.new np2).trans fd)⟩ (fun i σ H5 hi hP => ?_) (fun σ H5 hP => ?_)
  · clear thv hv
    obtain ⟨v, y2, rfl, thv, hs5, f5⟩ := hP
    have hi2 : i < 20 := by omega
    refine ⟨_, rfl, _, rfl, (show 1 ≤ sizeLine by decide), fun u1 nu1 => ?_⟩
    have su1 : Same H5 (upd H5 u1 (.tup [v])) := same_new nu1
    have eu1 : Th K (upd H5 u1 (.tup [v])) (.ref u1) := th_tup upd_same (show 1 ≤ 60 by decide) (thc (thv.same (same_new nu1)) thn)
    generalize upd H5 u1 (.tup [v]) = G1 at su1 eu1
    refine ⟨_, rfl, (show 1 ≤ sizeLine by decide), fun u2 nu2 => ?_⟩
    have su2 : Same G1 (upd G1 u2 (.lst [v])) := same_new nu2
    have eu2 : Th K (upd G1 u2 (.lst [v])) (.ref u2) := th_lst upd_same
    generalize upd G1 u2 (.lst [v]) = G2 at su2 eu2
    refine ⟨_, rfl, (show 0 ≤ sizeLine by decide), fun u3 nu3 => ?_⟩
    have su3 : Same G2 (upd G2 u3 (.tup [])) := same_new nu3
    have eu3 : Th K (upd G2 u3 (.tup [])) (.ref u3) := th_tup upd_same (show 0 ≤ 60 by decide) thn
    generalize upd G2 u3 (.tup []) = G3 at su3 eu3
    refine ⟨(show 2 ≤ sizeLine by decide), fun u4 nu4 => ?_⟩
    have su4 : Same G3 (upd G3 u4 (.tup [v, .ref u3])) := same_new nu4
    have eu4 : Th K (upd G3 u4 (.tup [v, .ref u3])) (.ref u4) := th_tup upd_same (show 2 ≤ 60 by decide) (thc ((((thv.same su1).same su2).same su3).same (same_new nu4)) (thc (eu3.same (same_new nu4)) thn))
    generalize upd G3 u4 (.tup [v, .ref u3]) = G4 at su4 eu4
    refine ⟨_, rfl, (show 2 ≤ sizeLine by decide), fun u5 nu5 => ?_⟩
    have su5 : Same G4 (upd G4 u5 (.tup [.int 0, v])) := same_new nu5
    have eu5 : Th K (upd G4 u5 (.tup [.int 0, v])) (.ref u5) := th_tup upd_same (show 2 ≤ 60 by decide) (thc (.int 0) (thc (((((thv.same su1).same su2).same su3).same su4).same (same_new nu5)) thn))
    generalize upd G4 u5 (.tup [.int 0, v]) = G5 at su5 eu5
    have all : ∀ e ∈ ([.ref u1, .ref u2, .ref u4, .ref u5] : List V), Th K G5 e := (thc ((((eu1.same su2).same su3).same su4).same su5) (thc (((eu2.same su3).same su4).same su5) (thc (eu4.same su5) (thc eu5 thn))))
    have f5b : Fr h H G5 := (((((f5.trans (Fr.same su1)).trans (Fr.same su2)).trans (Fr.same su3)).trans (Fr.same su4)).trans (Fr.same su5))
    have hs5b : HS h (n + 2 + i) G5 := (((((hs5.same su1).same su2).same su3).same su4).same su5)
    refine ⟨(show 4 ≤ sizeLine by decide), fun p3 np3 => ?_⟩
    refine .inl ⟨h, p3, _, n + 2 + i, rfl, hs5b.new np3, (show n + 2 + i < 100000 by omega), hs5b.ne np3, SqL.of upd_same, (show 0 < 4 by decide), (show 4 ≤ 1000 by decide), fun v3 G6 hv3 hs6 f6 => ?_⟩
    exact ⟨v3, _, rfl, ((all v3 hv3).same (same_new np3)).fr (hs5b.new np3) hs6 f6, hs6.mono (by omega), f5b.trans ((Fr.new np3).trans f6)⟩
  · obtain ⟨v, y2, rfl, thv, hs5, f5⟩ := hP
    exact ⟨_, rfl, q v H5 thv (hs5.mono (by omega)) f5⟩
theorem ok_numR (T : Tx K mg) (c_l_of : C8.Cal P w K mg base 2 "_law_of" (spOf2 K) []) (c_l_odd : C8.Cal P w K mg base 3 "_law_odd" (spOdd K) []) : BodyOk P w K mg base "_law_number" s_l_number N_l_number 3 (spNumR K) := by
  intro f cdv A outer s H vs Q E hr h
  obtain ⟨h, i, s, n, rfl, hs, hn, s0, s1, i0, i1, q⟩ := h
  have hn2 : n + 23 < 100000 := hn
  have sp : (0 : Int) < s := by omega
  refine ⟨_, (pss_cons (ps_set (i := 3) sc_l_number.nd rfl (Or.inl rfl) (pe_op op_fdivW (pv 2) pe_int))
      (pss_cons (ps_set (i := 4) sc_l_number.nd rfl (Or.inl rfl) (pe_lst (pa_cons (pe_op op_add (pv 1) pe_int) (pa_cons (pe_op op_sub (pv 1) pe_int) (pa_cons (pe_op op_mod (pe_op op_add (pv 1) pe_int) (pv 2)) (pa_cons (pe_op op_mod (pe_op op_sub (pv 1) pe_int) (pv 2)) (pa_cons (pe_op op_mod (pe_op op_add (pv 1) (pv 3)) (pv 2)) (pa_cons (pv 2) pa_nil))))))))
      (pss_cons (ps_set (i := 4) sc_l_number.nd rfl (Or.inl rfl) (pe_op op_cat (pv 4) (pe_lst (pa_cons (pe_op op_mod (pe_op op_sub (pe_op op_add (pv 1) (pv 3)) pe_int) (pv 2)) (pa_cons (pe_op op_mod (pe_op op_add (pe_op op_add (pv 1) (pv 3)) pe_int) (pv 2)) (pa_cons (pe_op op_add (pv 1) (pv 2)) (pa_cons (pe_op op_sub (pv 1) (pv 2)) (pa_cons (pe_callTy call_str_int (gl_of gl_l_number_str) T.str bt_str (pa_cons (pv 1) pa_nil)) pa_nil))))))))
      (pss_one (ps_ret (C8.pe_c c_l_of hr (by decide) (gl_of gl_l_number_l_of) (pa_cons (pv 0) (pa_cons (pe_op op_cat (pv 4) (pe_lst (pa_cons (pe_un un_neg pe_int) (pa_cons pe_bl (pa_cons pe_non (pa_cons (pe_tup (pa_cons (pv 1) pa_nil)) (pa_cons (C8.pe_c c_l_odd hr (by decide) (gl_of gl_l_number_l_odd) (pa_cons (pv 0) pa_nil)) pa_nil))))))) pa_nil)))))))), ?_⟩
  refine st_seq ?_
  refine ⟨_, rfl, _, _, rfl, rfl, cdw (by decide) (by decide), ?_⟩
  try dsimp only [gName]
  refine st_seq ?_
  refine ⟨_, rfl, _, _, rfl, rfl, _, rfl, _, _, rfl, rfl, _, rfl, _, _, rfl, rfl, _, rfl, _, _, rfl, rfl, sp, _, rfl, _, _, rfl, rfl, _, rfl, _, _, rfl, rfl, sp, _, rfl, _, rfl, _, _, rfl, rfl, _, rfl, _, _, rfl, rfl, sp, _, rfl, (show 6 ≤ sizeLine by decide), fun p1 np1 => ?_⟩
  have a1 : ∀ H', ∀ e ∈ ([.int (i + 1), .int (i - 1), .int ((i + 1) % s), .int ((i - 1) % s), .int ((i + s / 2) % s), .int s] : List V), Th K H' e := fun H' => (thc (.int _) (thc (.int _) (thc (.int _) (thc (.int _) (thc (.int _) (thc (.int _) thn))))))
  have k1 : ([.int (i + 1), .int (i - 1), .int ((i + 1) % s), .int ((i - 1) % s), .int ((i + s / 2) % s), .int s] : List V).length = 6 := rfl
  have s1' : Same H (upd H p1 (.lst [.int (i + 1), .int (i - 1), .int ((i + 1) % s), .int ((i - 1) % s), .int ((i + s / 2) % s), .int s])) := same_new np1
  have e1 : (upd H p1 (.lst [.int (i + 1), .int (i - 1), .int ((i + 1) % s), .int ((i - 1) % s), .int ((i + s / 2) % s), .int s])) p1 = some (.lst [.int (i + 1), .int (i - 1), .int ((i + 1) % s), .int ((i - 1) % s), .int ((i + s / 2) % s), .int s]) := upd_same
  generalize ([.int (i + 1), .int (i - 1), .int ((i + 1) % s), .int ((i - 1) % s), .int ((i + s / 2) % s), .int s] : List V) = X1 at a1 k1 s1' e1
  generalize upd H p1 (.lst X1) = H1 at s1' e1
  try dsimp only [gName]
  refine st_seq ?_
  refine ⟨_, rfl, _, rfl, _, rfl, _, _, rfl, rfl, _, _, rfl, rfl, _, rfl, _, _, rfl, rfl, sp, _, rfl, _, rfl, _, _, rfl, rfl, _, _, rfl, rfl, _, rfl, _, _, rfl, rfl, sp, _, rfl, _, rfl, _, _, rfl, rfl, _, rfl, _, rfl, _, _, rfl, rfl, _, rfl, i, rfl, lg (show i.natAbs < 2 ^ 64 by omega), (show 5 ≤ sizeLine by decide), fun p2 np2 => ?_⟩
  have a2 : ∀ H', ∀ e ∈ ([.int ((i + s / 2 - 1) % s), .int ((i + s / 2 + 1) % s), .int (i + s), .int (i - s), .str (Str.ofString (toString i))] : List V), Th K H' e := fun H' => (thc (.int _) (thc (.int _) (thc (.int _) (thc (.int _) (thc (th_str _) thn)))))
  have k2 : ([.int ((i + s / 2 - 1) % s), .int ((i + s / 2 + 1) % s), .int (i + s), .int (i - s), .str (Str.ofString (toString i))] : List V).length = 5 := rfl
  have s2' : Same H1 (upd H1 p2 (.lst [.int ((i + s / 2 - 1) % s), .int ((i + s / 2 + 1) % s), .int (i + s), .int (i - s), .str (Str.ofString (toString i))])) := same_new np2
  have e2 : (upd H1 p2 (.lst [.int ((i + s / 2 - 1) % s), .int ((i + s / 2 + 1) % s), .int (i + s), .int (i - s), .str (Str.ofString (toString i))])) p2 = some (.lst [.int ((i + s / 2 - 1) % s), .int ((i + s / 2 + 1) % s), .int (i + s), .int (i - s), .str (Str.ofString (toString i))]) := upd_same
  generalize ([.int ((i + s / 2 - 1) % s), .int ((i + s / 2 + 1) % s), .int (i + s), .int (i - s), .str (Str.ofString (toString i))] : List V) = X2 at a2 k2 s2' e2
  generalize upd H1 p2 (.lst X2) = H2 at s2' e2
  refine ⟨p1, p2, X1, X2, rfl, rfl, s2' _ _ e1, e2, ?_, fun p3 np3 => ?_⟩
  · rw [k1, k2]
    decide
  have s3' : Same H2 (upd H2 p3 (.lst (X1 ++ X2))) := same_new np3
  have e3 : (upd H2 p3 (.lst (X1 ++ X2))) p3 = some (.lst (X1 ++ X2)) := upd_same
  have a3 : ∀ H', ∀ e ∈ X1 ++ X2, Th K H' e := fun H' => tha (a1 H') (a2 H')
  have k3 : (X1 ++ X2).length = 11 := by
    rw [List.length_append, k1, k2]
  generalize X1 ++ X2 = X3 at s3' e3 a3 k3
  generalize upd H2 p3 (.lst X3) = H3 at s3' e3
  have n3 : p3 ≠ h := (hs.same (s1'.trans s2')).ne np3
  have hs3 := hs.same (s1'.trans (s2'.trans s3'))
  try dsimp only [gName]
  refine ⟨_, rfl, _, rfl, _, rfl, _, rfl, (show 1 ≤ sizeLine by decide), fun t1 nt1 => ?_⟩
  have s4' : Same H3 (upd H3 t1 (.tup [.int i])) := same_new nt1
  have e4 : Th K (upd H3 t1 (.tup [.int i])) (.ref t1) := th_tup upd_same (show 1 ≤ 60 by decide) (thc (.int i) thn)
  generalize upd H3 t1 (.tup [.int i]) = H4 at s4' e4
  have hs4 := hs3.same s4'
  refine ⟨_, rfl, h, n, rfl, hs4, (show n + 22 < 100000 by omega), fun v H5 th5 hs5 f5 => ?_⟩
  have e4b := e4.fr hs4 hs5 f5
  have e35 := f5 _ _ n3 (s4' _ _ e3)
  refine ⟨(show 5 ≤ sizeLine by decide), fun p4 np4 => ?_⟩
  have a5 : ∀ e ∈ ([.int (-1), .bl true, .non, .ref t1, v] : List V), Th K H5 e := (thc (.int _) (thc (th_bl _) (thc th_non (thc e4b (thc th5 thn)))))
  have k5 : ([.int (-1), .bl true, .non, .ref t1, v] : List V).length = 5 := rfl
  have s6 : Same H5 (upd H5 p4 (.lst [.int (-1), .bl true, .non, .ref t1, v])) := same_new np4
  have e6 : (upd H5 p4 (.lst [.int (-1), .bl true, .non, .ref t1, v])) p4 = some (.lst [.int (-1), .bl true, .non, .ref t1, v]) := upd_same
  generalize ([.int (-1), .bl true, .non, .ref t1, v] : List V) = X5 at a5 k5 s6 e6
  generalize upd H5 p4 (.lst X5) = H6 at s6 e6
  refine ⟨p3, p4, X3, X5, rfl, rfl, s6 _ _ e35, e6, ?_, fun p5 np5 => ?_⟩
  · rw [k3, k5]
    decide
  have hs6 := hs5.same s6
  have k7 : (X3 ++ X5).length = 16 := by
    rw [List.length_append, k3, k5]
  have f06 : Fr h H H6 := ((Fr.same (s1'.trans (s2'.trans (s3'.trans s4')))).trans f5).trans (Fr.same s6)
  refine .inl ⟨h, p5, X3 ++ X5, n + 22, rfl, hs6.new np5, (show n + 22 < 100000 by omega), hs6.ne np5, SqL.of upd_same, by omega, by omega, fun v2 H7 hv2 hs7 f7 => ?_⟩
  have th6 : Th K H6 v2 := tha (a3 H6) (ths s6 a5) v2 hv2
  exact q v2 H7 ((th6.same (same_new np5)).fr (hs6.new np5) hs7 f7) (hs7.mono (by omega)) (f06.trans ((Fr.new np5).trans f7))
theorem ok_bent (T : Tx K mg) (c_l_take : C8.Cal P w K mg base 1 "_law_take" spTake []) (c_l_of : C8.Cal P w K mg base 2 "_law_of" (spOf2 K) []) (c_l_odd : C8.Cal P w K mg base 3 "_law_odd" (spOdd K) []) (c_l_number : C8.Cal P w K mg base 4 "_law_number" (spNumR K) []) : BodyOk P w K mg base "_law_bent" s_l_bent N_l_bent 4 (spBent K) := by
  intro f cdv A outer s H vs Q E hr h
  obtain ⟨h, l, c, xs, s, n, rfl, hl, lx, hx, c0, c1, hs, hn, s0, s1, q⟩ := h
  have hn2 : n + 30 < 100000 := hn
  have sp : (0 : Int) < s := by omega
  have p18' : (10 : Int) ^ 18 = 1000000000000000000 := by decide
  obtain ⟨t, hlt, htt⟩ := hl
  refine ⟨_, (pss_cons (ps_asg (pv 1) (pg_tup rfl (pgs_cons (pg_name (i := 3) sc_l_bent.nd rfl (Or.inl rfl)) (pgs_cons (pg_name (i := 4) sc_l_bent.nd rfl (Or.inl rfl)) pgs_nil))))
      (pss_cons (ps_par3 (i := 5) (j := 6) (l := 7) (by rfl) sc_l_bent.nd rfl rfl rfl (by decide) (by decide) (by decide) rfl rfl rfl (pa_cons (C8.pe_c c_l_take hr (by decide) (gl_of gl_l_bent_l_take) (pa_cons (pv 0) (pa_cons pe_int pa_nil))) (pa_cons (C8.pe_c c_l_take hr (by decide) (gl_of gl_l_bent_l_take) (pa_cons (pv 0) (pa_cons (pe_op op_add (pe_callB call_len_seq (gl_of gl_l_bent_len) T.len bb_len (pa_cons (pv 4) pa_nil)) pe_int) pa_nil))) (pa_cons (pe_op op_fdivW (pv 2) pe_int) pa_nil))) (by rfl))
      (pss_cons (ps_if (pt_cmpR op_eq (pv 5) pe_int (nomark _)) (pss_one (ps_ret (pe_tup (pa_cons (C8.pe_c c_l_number hr (by decide) (gl_of gl_l_bent_l_number) (pa_cons (pv 0) (pa_cons (pv 3) (pa_cons (pv 2) pa_nil)))) (pa_cons (pv 4) pa_nil))))) pss_nil)
      (pss_cons (ps_if (PW.pt (pw_and (pt_cmpR op_eq (pv 5) pe_int (nomark _)) (pw_and1 (pt_cmpR op_lt (pv 6) (pe_callB call_len_seq (gl_of gl_l_bent_len) T.len bb_len (pa_cons (pv 4) pa_nil)) (nomark _))))) (pss_one (ps_ret (pe_tup (pa_cons (pv 3) (pa_cons (pe_op op_catA (pe_op op_catA (pe_slice sl_tupA (pv 4) po_none (po_some (pv 6))) (pe_tup (pa_cons (C8.pe_c c_l_number hr (by decide) (gl_of gl_l_bent_l_number) (pa_cons (pv 0) (pa_cons (pe_ix ix_tup (pv 4) (pv 6) (fun _ _ => rfl)) (pa_cons (pv 2) pa_nil)))) pa_nil))) (pe_slice sl_tupA (pv 4) (po_some (pe_op op_add (pv 6) pe_int)) po_none)) pa_nil))))) pss_nil)
      (pss_cons (ps_if (pt_cmpR op_eq (pv 5) pe_int (nomark _)) (pss_cons (ps_set (i := 8) sc_l_bent.nd rfl (Or.inl rfl) (C8.pe_c c_l_of hr (by decide) (gl_of gl_l_bent_l_of) (pa_cons (pv 0) (pa_cons (pe_lst (pa_cons (pv 7) (pa_cons (pe_op op_sub (pv 7) pe_int) (pa_cons (pe_op op_add (pv 7) pe_int) (pa_cons pe_int (pa_cons pe_int (pa_cons (pe_op op_sub (pv 2) pe_int) pa_nil))))))) pa_nil))))
      (pss_one (ps_ret (pe_tup (pa_cons (pv 3) (pa_cons (pe_op op_catA (pe_op op_catA (pe_slice sl_tupA (pv 4) po_none (po_some (pv 6))) (pe_tup (pa_cons (pe_op op_mod (pe_op op_sub (pv 3) (pv 8)) (pv 2)) pa_nil))) (pe_slice sl_tupA (pv 4) (po_some (pv 6)) po_none)) pa_nil)))))) pss_nil)
      (pss_cons (ps_if (pt_cmpR op_eq (pv 5) pe_int (nomark _)) (pss_cons (ps_set (i := 9) sc_l_bent.nd rfl (Or.inl rfl) (pe_lst (pa_cons (pe_op op_catA (pe_slice sl_tupA (pv 4) po_none (po_some (pv 6))) (pe_slice sl_tupA (pv 4) (po_some (pe_op op_add (pv 6) pe_int)) po_none)) (pa_cons (pe_op op_catA (pe_slice sl_tupA (pv 4) po_none (po_some (pe_op op_add (pv 6) pe_int))) (pe_slice sl_tupA (pv 4) (po_some (pv 6)) po_none)) (pa_cons (RvT.pe_revT (pv 4)) (pa_cons (pe_callTy call_list_of (gl_of gl_l_bent_list) T.list bt_list (pa_cons (pv 4) pa_nil)) (pa_cons (pe_op op_catA (pv 4) (pe_tup (pa_cons (pv 3) pa_nil))) pa_nil)))))))
      (pss_one (ps_ret (pe_tup (pa_cons (pv 3) (pa_cons (C8.pe_c c_l_of hr (by decide) (gl_of gl_l_bent_l_of) (pa_cons (pv 0) (pa_cons (pv 9) pa_nil))) pa_nil)))))) pss_nil)
      (pss_cons (ps_if (pt_cmpR op_eq (pv 5) pe_int (nomark _)) (pss_one (ps_ret (C8.pe_c c_l_of hr (by decide) (gl_of gl_l_bent_l_of) (pa_cons (pv 0) (pa_cons (pe_lst (pa_cons (pe_lst (pa_cons (pv 3) (pa_cons (pv 4) pa_nil))) (pa_cons (pe_tup (pa_cons (pv 3) (pa_cons (pv 4) (pa_cons (pe_tup pa_nil) pa_nil)))) (pa_cons (pe_tup (pa_cons (pv 3) pa_nil)) (pa_cons (pe_tup (pa_cons (pv 4) (pa_cons (pv 3) pa_nil))) (pa_cons (pe_op op_catA (pe_tup (pa_cons (pv 3) pa_nil)) (pv 4)) (pa_cons (pv 3) pa_nil))))))) pa_nil))))) pss_nil)
      (pss_one (ps_ret (C8.pe_c c_l_odd hr (by decide) (gl_of gl_l_bent_l_odd) (pa_cons (pv 0) pa_nil))))))))))), ?_⟩
  refine st_seq ?_
  refine ⟨_, rfl, l, _, rfl, hlt, rfl, _, _, rfl, _, _, rfl, rfl, ?_⟩
  try dsimp only
  refine st_seq ?_
  refine ⟨_, rfl, h, 6, n, rfl, hs, (show n < 100000 by omega), by decide, by decide, fun d H1 d0 d1 hs1 f1 => ?_⟩
  have ht1 := hs.sqT f1 htt
  refine ⟨_, rfl, _, rfl, t, _, rfl, .inr ht1, _, _, rfl, rfl, h, _, n + 1, rfl, hs1, (show n + 1 < 100000 by omega), by omega, by rw [List.length_map]; omega, fun k H2 k0 k1 hs2 f2 => ?_⟩
  rw [List.length_map] at k1
  have ht2 := hs1.sqT f2 ht1
  have f02 : Fr h H H2 := f1.trans f2
  refine ⟨_, rfl, _, _, rfl, rfl, cdw (by decide) (by decide), ?_⟩
  refine ⟨_, _, _, rfl, ?_⟩
  have Tt : Th K H2 (.ref t) := .tup ht2 (by rw [List.length_map]; omega) (thi xs)
  have lxs : (xs.map V.int).length ≤ 6 := by
    rw [List.length_map]
    exact lx
  -- 0
  try dsimp only
  refine st_seq ?_
  refine st_ifA (decide (V.int d = V.int 0)) (fun Q' q' => ⟨_, rfl, rfl, _, rfl, q'⟩) (fun _ => ?_) (fun _ => ?_)
  · refine ⟨_, rfl, _, rfl, _, rfl, h, c, s, n + 2, rfl, hs2, (show n + 2 + 23 < 100000 by omega), s0, s1, c0, c1, fun v H3 th3 hs3 f3 => ?_⟩
    have Tt3 := Tt.fr hs2 hs3 f3
    refine ⟨_, rfl, (show 2 ≤ sizeLine by decide), fun a na => ?_⟩
    have sa : Same H3 (upd H3 a (.tup [v, .ref t])) := same_new na
    exact q _ _ (th_tup upd_same (show 2 ≤ 60 by decide) (thc (th3.same sa) (thc (Tt3.same sa) thn))) ((hs3.same sa).mono (by omega)) ((f02.trans f3).trans (Fr.same sa))
  refine st_next ?_
  -- 1
  try dsimp only
  refine st_seq ?_
  refine st_ifA (decide (V.int d = V.int 1) && decide (k < ((xs.map V.int).length : Nat))) (fun Q' q' => ?_) (fun b1 => ?_) (fun _ => ?_)
  · refine ⟨_, rfl, rfl, _, rfl, ite2 (fun y => ?_) (fun y => ?_)⟩
    · rw [y, Bool.true_and] at q'
      exact ⟨_, rfl, _, rfl, t, _, rfl, .inr ht2, _, _, rfl, rfl, _, rfl, q'⟩
    · rw [Bool.eq_false_iff.mpr y, Bool.false_and] at q'
      exact q'
  · rw [Bool.and_eq_true] at b1
    have kl : k < ((xs.map V.int).length : Nat) := of_decide_eq_true b1.2
    rw [List.length_map] at kl
    obtain ⟨j, rfl⟩ : ∃ j : Nat, k = (j : Int) := ⟨k.toNat, by omega⟩
    have kn : j < xs.length := by omega
    have hxk := hx xs[j] (List.getElem_mem kn)
    refine ⟨_, rfl, _, rfl, _, rfl, _, rfl, slA_ev ht2 (fun pa G1 sG1 hpa => ?_)⟩
    have hsG := hs2.same sG1
    refine ⟨_, rfl, _, rfl, _, rfl, t, _, (j : Int), .int xs[j], rfl, rfl, sqT_same sG1 ht2, ?_, _, rfl, h, xs[j], s, n + 2, rfl, hsG, (show n + 2 + 23 < 100000 by omega), s0, s1, hxk.1, hxk.2, fun v H3 th3 hs3 f3 => ?_⟩
    · refine atI_nat (j := j) ?_
      rw [List.getElem?_map, List.getElem?_eq_getElem kn]
      rfl
    have hpa3 := hsG.sqT f3 hpa
    have ht3 := hsG.sqT f3 (sqT_same sG1 ht2)
    refine ⟨(show 1 ≤ sizeLine by decide), fun b nb => ?_⟩
    have sb : Same H3 (upd H3 b (.tup [v])) := same_new nb
    have eb : SqT K (upd H3 b (.tup [v])) b [v] := SqT.of upd_same
    generalize upd H3 b (.tup [v]) = H4 at sb eb
    have l1 := cutV_length (xs.map V.int) none (some (j : Int))
    refine catA_ev (sqT_same sb hpa3) eb (show (cutV (xs.map V.int) none (some (j : Int))).length + 1 ≤ 1000 by omega) (fun pc G2 sG2 hpc => ?_)
    refine ⟨_, rfl, _, rfl, _, _, rfl, rfl, _, rfl, ?_⟩
    dsimp only [tNoPart]
    refine slA_ev (sqT_same (sb.trans sG2) ht3) (fun pd G3 sG3 hpd => ?_)
    have l2 := cutV_length (xs.map V.int) (some ((j : Int) + 1)) none
    have l3 : (cutV (xs.map V.int) none (some (j : Int)) ++ [v]).length ≤ 7 := by
      rw [List.length_append]
      show _ + 1 ≤ 7
      omega
    refine catA_ev (sqT_same sG3 hpc) hpd (by omega) (fun pe G4 sG4 hpe => ?_)
    have s34 : Same H3 G4 := sb.trans (sG2.trans (sG3.trans sG4))
    have the : Th K G4 (.ref pe) := .tup hpe (by rw [List.length_append]; omega) (tha (tha (thcut (thi xs)) (thc (th3.same s34) thn)) (thcut (thi xs)))
    refine ⟨(show 2 ≤ sizeLine by decide), fun a na => ?_⟩
    have sa : Same G4 (upd G4 a (.tup [.int c, .ref pe])) := same_new na
    exact q _ _ (th_tup upd_same (show 2 ≤ 60 by decide) (thc (.int c) (thc (the.same sa) thn))) ((hs3.same (s34.trans sa)).mono (by omega)) ((f02.trans ((Fr.same sG1).trans f3)).trans (Fr.same (s34.trans sa)))
  refine st_next ?_
  -- 2
  try dsimp only
  refine st_seq ?_
  refine st_ifA (decide (V.int d = V.int 2)) (fun Q' q' => ⟨_, rfl, rfl, _, rfl, q'⟩) (fun _ => ?_) (fun _ => ?_)
  · refine st_seq ?_
    refine ⟨_, rfl, _, rfl, _, rfl, _, _, rfl, rfl, _, rfl, _, _, rfl, rfl, _, rfl, _, _, rfl, rfl, (show 6 ≤ sizeLine by decide), fun p np => ?_⟩
    refine .inl ⟨h, p, [.int (s / 2), .int (s / 2 - 1), .int (s / 2 + 1), .int 0, .int 1, .int (s - 1)], n + 2, rfl, hs2.new np, (show n + 2 < 100000 by omega), hs2.ne np, SqL.of upd_same, (show 0 < 6 by decide), (show 6 ≤ 1000 by decide), fun v H3 hv hs3 f3 => ?_⟩
    have hi : ∃ i : Int, v = .int i := by
      simp only [List.mem_cons, List.not_mem_nil, or_false] at hv
      rcases hv with rfl | rfl | rfl | rfl | rfl | rfl <;> exact ⟨_, rfl⟩
    obtain ⟨i, rfl⟩ := hi
    have f03 : Fr h H H3 := f02.trans ((Fr.new np).trans f3)
    have ht3 := (hs2.new np).sqT f3 (sqT_same (same_new np) ht2)
    try dsimp only [gName]
    refine ⟨_, rfl, _, rfl, _, rfl, _, rfl, slA_ev ht3 (fun pa G1 sG1 hpa => ?_)⟩
    refine ⟨_, rfl, _, rfl, _, _, rfl, rfl, _, rfl, _, _, rfl, rfl, sp, (show 1 ≤ sizeLine by decide), fun b nb => ?_⟩
    have sb : Same G1 (upd G1 b (.tup [.int ((c - i) % s)])) := same_new nb
    have eb : SqT K (upd G1 b (.tup [.int ((c - i) % s)])) b [.int ((c - i) % s)] := SqT.of upd_same
    generalize upd G1 b (.tup [.int ((c - i) % s)]) = H4 at sb eb
    have l1 := cutV_length (xs.map V.int) none (some k)
    refine catA_ev (sqT_same sb hpa) eb (show (cutV (xs.map V.int) none (some k)).length + 1 ≤ 1000 by omega) (fun pc G2 sG2 hpc => ?_)
    refine ⟨_, rfl, _, rfl, _, rfl, ?_⟩
    dsimp only [tNoPart]
    refine slA_ev (sqT_same (sG1.trans (sb.trans sG2)) ht3) (fun pd G3 sG3 hpd => ?_)
    have l2 := cutV_length (xs.map V.int) (some k) none
    have l3 : (cutV (xs.map V.int) none (some k) ++ [V.int ((c - i) % s)]).length ≤ 7 := by
      rw [List.length_append]
      show _ + 1 ≤ 7
      omega
    refine catA_ev (sqT_same sG3 hpc) hpd (by omega) (fun pe G4 sG4 hpe => ?_)
    have s34 : Same H3 G4 := sG1.trans (sb.trans (sG2.trans (sG3.trans sG4)))
    have the : Th K G4 (.ref pe) := .tup hpe (by rw [List.length_append]; omega) (tha (tha (thcut (thi xs)) (thc (.int _) thn)) (thcut (thi xs)))
    refine ⟨(show 2 ≤ sizeLine by decide), fun a na => ?_⟩
    have sa : Same G4 (upd G4 a (.tup [.int c, .ref pe])) := same_new na
    exact q _ _ (th_tup upd_same (show 2 ≤ 60 by decide) (thc (.int c) (thc (the.same sa) thn))) ((hs3.same (s34.trans sa)).mono (by omega)) (f03.trans (Fr.same (s34.trans sa)))
  refine st_next ?_
  -- 3
  try dsimp only
  refine st_seq ?_
  refine st_ifA (decide (V.int d = V.int 3)) (fun Q' q' => ⟨_, rfl, rfl, _, rfl, q'⟩) (fun _ => ?_) (fun _ => ?_)
  · refine st_seq ?_
    -- some[:at] + some[at + 1:]
    have l1 := cutV_length (xs.map V.int) none (some k)
    have l2 := cutV_length (xs.map V.int) (some (k + 1)) none
    have l3 := cutV_length (xs.map V.int) none (some (k + 1))
    have l4 := cutV_length (xs.map V.int) (some k) none
    refine ⟨_, rfl, _, rfl, _, rfl, slA_ev ht2 (fun pa G1 sG1 hpa => ?_)⟩
    refine ⟨_, rfl, _, rfl, _, _, rfl, rfl, _, rfl, ?_⟩
    dsimp only [tNoPart]
    refine slA_ev (sqT_same sG1 ht2) (fun pb G2 sG2 hpb => ?_)
    refine catA_ev (sqT_same sG2 hpa) hpb (by omega) (fun o1 G3 sG3 ho1 => ?_)
    have t1 : Th K G3 (.ref o1) := .tup ho1 (by rw [List.length_append]; omega) (tha (thcut (thi xs)) (thcut (thi xs)))
    have s23 : Same H2 G3 := sG1.trans (sG2.trans sG3)
    -- some[:at + 1] + some[at:]
    refine ⟨_, rfl, _, rfl, _, _, rfl, rfl, _, rfl, slA_ev (sqT_same s23 ht2) (fun pc G4 sG4 hpc => ?_)⟩
    refine ⟨_, rfl, _, rfl, _, rfl, ?_⟩
    dsimp only [tNoPart]
    refine slA_ev (sqT_same (s23.trans sG4) ht2) (fun pd G5 sG5 hpd => ?_)
    refine catA_ev (sqT_same sG5 hpc) hpd (by omega) (fun o2 G6 sG6 ho2 => ?_)
    have t2 : Th K G6 (.ref o2) := .tup ho2 (by rw [List.length_append]; omega) (tha (thcut (thi xs)) (thcut (thi xs)))
    have s36 : Same G3 G6 := sG4.trans (sG5.trans sG6)
    have s26 : Same H2 G6 := s23.trans s36
    -- some[::-1]
    refine ⟨_, rfl, t, _, rfl, sqT_same s26 ht2, fun o3 no3 => ?_⟩
    have s67 : Same G6 (upd G6 o3 (.tup (xs.map V.int).reverse)) := same_new no3
    have t3 : Th K (upd G6 o3 (.tup (xs.map V.int).reverse)) (.ref o3) := th_tup upd_same (by rw [List.length_reverse]; omega) (fun e he => thi xs e (List.mem_reverse.mp he))
    generalize upd G6 o3 (.tup (xs.map V.int).reverse) = G7 at s67 t3
    -- list(some)
    refine ⟨_, rfl, t, _, rfl, .inr (sqT_same (s26.trans s67) ht2), fun o4 no4 => ?_⟩
    have s78 : Same G7 (upd G7 o4 (.lst (xs.map V.int))) := same_new no4
    have t4 : Th K (upd G7 o4 (.lst (xs.map V.int))) (.ref o4) := th_lst upd_same
    generalize upd G7 o4 (.lst (xs.map V.int)) = G8 at s78 t4
    -- some + (coming,)
    have s28 : Same H2 G8 := s26.trans (s67.trans s78)
    refine ⟨_, rfl, _, rfl, (show 1 ≤ sizeLine by decide), fun b nb => ?_⟩
    have sb : Same G8 (upd G8 b (.tup [.int c])) := same_new nb
    have eb : SqT K (upd G8 b (.tup [.int c])) b [.int c] := SqT.of upd_same
    generalize upd G8 b (.tup [.int c]) = G9 at sb eb
    refine catA_ev (sqT_same (s28.trans sb) ht2) eb (show (xs.map V.int).length + 1 ≤ 1000 by omega) (fun o5 Ga sGa ho5 => ?_)
    have t5 : Th K Ga (.ref o5) := .tup ho5 (by rw [List.length_append]; show _ + 1 ≤ 60; omega) (tha (thi xs) (thc (.int c) thn))
    have s8a : Same G8 Ga := sb.trans sGa
    have all : ∀ e ∈ ([.ref o1, .ref o2, .ref o3, .ref o4, .ref o5] : List V), Th K Ga e := thc (t1.same (s36.trans (s67.trans (s78.trans s8a)))) (thc (t2.same (s67.trans (s78.trans s8a))) (thc (t3.same (s78.trans s8a)) (thc (t4.same s8a) (thc t5 thn))))
    have s2a : Same H2 Ga := s28.trans s8a
    have hsa := hs2.same s2a
    refine ⟨(show 5 ≤ sizeLine by decide), fun p np => ?_⟩
    have sp' : Same Ga (upd Ga p (.lst [.ref o1, .ref o2, .ref o3, .ref o4, .ref o5])) := same_new np
    have ep : (upd Ga p (.lst [.ref o1, .ref o2, .ref o3, .ref o4, .ref o5])) p = some (.lst [.ref o1, .ref o2, .ref o3, .ref o4, .ref o5]) := upd_same
    have nph : p ≠ h := hsa.ne np
    generalize upd Ga p (.lst [.ref o1, .ref o2, .ref o3, .ref o4, .ref o5]) = Gb at sp' ep
    have hsb := hsa.same sp'
    try dsimp only [gName]
    refine ⟨_, rfl, _, rfl, _, rfl, .inl ⟨h, p, _, n + 2, rfl, hsb, (show n + 2 < 100000 by omega), nph, SqL.of ep, (show 0 < 5 by decide), (show 5 ≤ 1000 by decide), fun v Gc hv hsc fc => ?_⟩⟩
    have thv : Th K Gc v := ((all v hv).same sp').fr hsb hsc fc
    refine ⟨(show 2 ≤ sizeLine by decide), fun a na => ?_⟩
    have sa : Same Gc (upd Gc a (.tup [.int c, v])) := same_new na
    exact q _ _ (th_tup upd_same (show 2 ≤ 60 by decide) (thc (.int c) (thc (thv.same sa) thn))) ((hsc.same sa).mono (by omega)) ((f02.trans ((Fr.same (s2a.trans sp')).trans fc)).trans (Fr.same sa))
  refine st_next ?_
  -- 4
  try dsimp only
  refine st_seq ?_
  refine st_ifA (decide (V.int d = V.int 4)) (fun Q' q' => ⟨_, rfl, rfl, _, rfl, q'⟩) (fun _ => ?_) (fun _ => ?_)
  · refine ⟨_, rfl, _, rfl, _, rfl, (show 2 ≤ sizeLine by decide), fun o1 no1 => ?_⟩
    have u1 : Same H2 (upd H2 o1 (.lst [.int c, .ref t])) := same_new no1
    have t1 : Th K (upd H2 o1 (.lst [.int c, .ref t])) (.ref o1) := th_lst upd_same
    generalize upd H2 o1 (.lst [.int c, .ref t]) = G1 at u1 t1
    refine ⟨_, rfl, _, rfl, (show 0 ≤ sizeLine by decide), fun o0 no0 => ?_⟩
    have u0 : Same G1 (upd G1 o0 (.tup [])) := same_new no0
    have t0 : Th K (upd G1 o0 (.tup [])) (.ref o0) := th_tup upd_same (show 0 ≤ 60 by decide) thn
    generalize upd G1 o0 (.tup []) = G2 at u0 t0
    refine ⟨(show 3 ≤ sizeLine by decide), fun o2 no2 => ?_⟩
    have u2 : Same G2 (upd G2 o2 (.tup [.int c, .ref t, .ref o0])) := same_new no2
    have t2 : Th K (upd G2 o2 (.tup [.int c, .ref t, .ref o0])) (.ref o2) := th_tup upd_same (show 3 ≤ 60 by decide) (thc (.int c) (thc (((Tt.same u1).same u0).same u2) (thc (t0.same u2) thn)))
    generalize upd G2 o2 (.tup [.int c, .ref t, .ref o0]) = G3 at u2 t2
    refine ⟨_, rfl, (show 1 ≤ sizeLine by decide), fun o3 no3 => ?_⟩
    have u3 : Same G3 (upd G3 o3 (.tup [.int c])) := same_new no3
    have t3 : Th K (upd G3 o3 (.tup [.int c])) (.ref o3) := th_tup upd_same (show 1 ≤ 60 by decide) (thc (.int c) thn)
    generalize upd G3 o3 (.tup [.int c]) = G4 at u3 t3
    have v4 : Same H2 G4 := u1.trans (u0.trans (u2.trans u3))
    refine ⟨_, rfl, _, rfl, (show 2 ≤ sizeLine by decide), fun o4 no4 => ?_⟩
    have u4 : Same G4 (upd G4 o4 (.tup [.ref t, .int c])) := same_new no4
    have t4 : Th K (upd G4 o4 (.tup [.ref t, .int c])) (.ref o4) := th_tup upd_same (show 2 ≤ 60 by decide) (thc (Tt.same (v4.trans u4)) (thc (.int c) thn))
    generalize upd G4 o4 (.tup [.ref t, .int c]) = G5 at u4 t4
    refine ⟨_, rfl, (show 1 ≤ sizeLine by decide), fun b nb => ?_⟩
    have sb : Same G5 (upd G5 b (.tup [.int c])) := same_new nb
    have eb : SqT K (upd G5 b (.tup [.int c])) b [.int c] := SqT.of upd_same
    generalize upd G5 b (.tup [.int c]) = G6 at sb eb
    have v6 : Same H2 G6 := v4.trans (u4.trans sb)
    refine ⟨_, rfl, catA_ev eb (sqT_same v6 ht2) (show 1 + (xs.map V.int).length ≤ 1000 by omega) (fun o5 G7 sG7 ho5 => ?_)⟩
    have t5 : Th K G7 (.ref o5) := .tup ho5 (by rw [List.length_append]; show 1 + _ ≤ 60; omega) (tha (thc (.int c) thn) (thi xs))
    have w5 : Same G5 G7 := sb.trans sG7
    have all : ∀ e ∈ ([.ref o1, .ref o2, .ref o3, .ref o4, .ref o5, .int c] : List V), Th K G7 e := thc (t1.same (u0.trans (u2.trans (u3.trans (u4.trans w5))))) (thc (t2.same (u3.trans (u4.trans w5))) (thc (t3.same (u4.trans w5)) (thc (t4.same w5) (thc t5 (thc (.int c) thn)))))
    have v7 : Same H2 G7 := v6.trans sG7
    have hs7 := hs2.same v7
    refine ⟨_, rfl, (show 6 ≤ sizeLine by decide), fun p np => ?_⟩
    refine .inl ⟨h, p, _, n + 2, rfl, hs7.new np, (show n + 2 < 100000 by omega), hs7.ne np, SqL.of upd_same, (show 0 < 6 by decide), (show 6 ≤ 1000 by decide), fun v G8 hv hs8 f8 => ?_⟩
    exact q v G8 (((all v hv).same (same_new np)).fr (hs7.new np) hs8 f8) (hs8.mono (by omega)) (f02.trans ((Fr.same v7).trans ((Fr.new np).trans f8)))
  refine st_next ?_
  -- 5
  try dsimp only
  exact ⟨_, rfl, h, n + 2, rfl, hs2, (show n + 2 + 22 < 100000 by omega), fun v H3 th3 hs3 f3 => q v H3 th3 (hs3.mono (by omega)) (f02.trans f3)⟩
theorem ok_told7 (T : Tx K mg) (k_is_look : CalK P w K mg base 4 "is_look" 1 ["ring"] (spIsLook K)) (c_is_look : C8.Cal P w K mg base 4 "is_look" (spIsLook K) [.int 64]) : BodyOk P w K mg base "_law_told" s_l_told N_l_told 4 (spIsLook K) := by
  intro f cdv A outer s H vs Q E hr h
  obtain ⟨v, s, b, rfl, hR, s0, s1, q⟩ := h
  refine ⟨_, (pss_cons (ps_if (PW.pt (pw_and (pt_cmpR op_eq (pv 1) pe_int (nomark _)) (pw_and1 (pt_cmpR op_ne (C8.pe_c c_is_look hr (by decide) (gl_of gl_l_told_is_look) (pa_cons (pv 0) pa_nil)) (pe_ck k_is_look hr (by decide) (gl_of gl_l_told_is_look) (pa_cons (pv 0) pa_nil) (pk_cons pe_int pk_nil)) (nomark _))))) (pss_one (ps_ret pe_str)) pss_nil)
      (pss_one (ps_ret (pe_ck k_is_look hr (by decide) (gl_of gl_l_told_is_look) (pa_cons (pv 0) pa_nil) (pk_cons (pv 1) pk_nil))))), ?_⟩
  refine st_seq ?_
  refine ⟨_, rfl, rfl, _, rfl, ite2 (fun y => ?_) (fun y => ?_)⟩
  · have es : s = 64 := V.int.inj (of_decide_eq_true y)
    subst es
    refine ⟨_, rfl, v, 64, b, rfl, hR, by decide, by decide, fun H1 sm1 => ?_⟩
    refine ⟨_, rfl, rfl, rfl, v, 64, b, rfl, hR.same sm1, by decide, by decide, fun H2 sm2 => ?_⟩
    refine ⟨rfl, _, rfl, ?_⟩
    rw [dec_refl]
    refine iteF ?_
    refine st_next ?_
    try dsimp only
    exact ⟨_, rfl, _, rfl, rfl, rfl, v, 64, b, rfl, hR.same (sm1.trans sm2), s0, s1, fun H3 sm3 => q H3 (sm1.trans (sm2.trans sm3))⟩
  · refine iteF ?_
    refine st_next ?_
    try dsimp only
    exact ⟨_, rfl, _, rfl, rfl, rfl, v, s, b, rfl, hR, s0, s1, q⟩
theorem ok_law (T : Tx K mg) (c_l_hand : C8.Cal P w K mg base 1 "_law_hand" (spHand K) []) (c_l_size : C8.Cal P w K mg base 3 "_law_size" spSize []) (c_l_look : C8.Cal P w K mg base 3 "_law_look" (spLook K) []) (c_l_is_look : C8.Cal P w K mg base 2 "_law_is_look" (spLIsLook K) []) (c_l_bent : C8.Cal P w K mg base 5 "_law_bent" (spBent K) []) (c_l_told : C8.Cal P w K mg base 5 "_law_told" (spIsLook K) []) : BodyAt P w K mg base "law" s_law N_law 5 (spLaw K) := by
  intro f cdv s H vs Q E hr h
  obtain ⟨a, ns, rfl, hS, hl, q⟩ := h
  refine ⟨_, (pss_cons (ps_for PassesOwn.never rfl (pi_range1 (by rfl) T.range (pa_cons (pe_callB (call_max2 rfl) (gl_of gl_law_max) T.max bb_max (pa_cons pe_int (pa_cons (pe_callB (call_min2 rfl) (gl_of gl_law_min) T.min bb_min (pa_cons pe_int (pa_cons (pe_callB call_len_seq (gl_of gl_law_len) T.len bb_len (pa_cons (pv 0) pa_nil)) pa_nil))) pa_nil))) pa_nil)) (pg_name (i := 1) sc_law.nd rfl (Or.inl rfl)) (pss_cons (ps_set (i := 2) sc_law.nd rfl (Or.inl rfl) (C8.pe_c c_l_hand hr (by decide) (gl_of gl_law_l_hand) (pa_cons (pv 0) (pa_cons (pv 1) pa_nil))))
      (pss_cons (ps_set (i := 3) sc_law.nd rfl (Or.inl rfl) (C8.pe_c c_l_size hr (by decide) (gl_of gl_law_l_size) (pa_cons (pv 2) pa_nil)))
      (pss_cons (ps_set (i := 4) sc_law.nd rfl (Or.inl rfl) (C8.pe_c c_l_look hr (by decide) (gl_of gl_law_l_look) (pa_cons (pv 2) (pa_cons (pv 3) pa_nil))))
      (pss_cons (ps_if (PW.pt (pw_or (pt_cmpR op_notBl (C8.pe_c c_l_told hr (by decide) (gl_of gl_law_l_told) (pa_cons (pv 4) (pa_cons (pv 3) pa_nil))) pe_bl (nomark _)) (pw_or1 (pt_not (pt_val (C8.pe_c c_l_is_look hr (by decide) (gl_of gl_law_l_is_look) (pa_cons (pv 4) (pa_cons (pv 3) pa_nil)))))))) (pss_one (ps_ret pe_bl)) pss_nil)
      (pss_one (ps_for PassesOwn.never rfl (pi_range1 (by rfl) T.range (pa_cons pe_int pa_nil)) (pg_name (i := 5) sc_law.nd rfl (Or.inl rfl)) (pss_cons (ps_set (i := 6) sc_law.nd rfl (Or.inl rfl) (C8.pe_c c_l_bent hr (by decide) (gl_of gl_law_l_bent) (pa_cons (pv 2) (pa_cons (pv 4) (pa_cons (pv 3) pa_nil)))))
      (pss_cons (ps_set (i := 7) sc_law.nd rfl (Or.inl rfl) (C8.pe_c c_l_told hr (by decide) (gl_of gl_law_l_told) (pa_cons (pv 6) (pa_cons (pv 3) pa_nil))))
      (pss_one (ps_if (PW.pt (pw_or (pt_not (pt_val (pe_callB call_isi (gl_of gl_law_isinstance) T.isinstance bb_isinstance (pa_cons (pv 7) (pa_cons (pe_bltn (v := .ty "bool") (gl_of gl_law_bool) T.bool bt_bool rfl) pa_nil))))) (pw_or1 (pt_cmpR op_ne (pv 7) (C8.pe_c c_l_is_look hr (by decide) (gl_of gl_law_l_is_look) (pa_cons (pv 6) (pa_cons (pv 3) pa_nil))) (nomark _))))) (pss_one (ps_ret pe_bl)) pss_nil)))))))))))
      (pss_one (ps_ret pe_bl))), ?_⟩
  refine st_seq ?_
  refine ⟨_, rfl, a, _, rfl, .inl hS, _, _, rfl, _, _, rfl, _, rfl, ?_, ?_, ?_⟩
  · split <;> split <;> omega
  · rw [List.length_map]
    split <;> split <;> omega
  · refine for_range (lo := 0) (fun i σ H' => (∃ y1 y2 y3 y4 y5 y6 y7, σ = [some (.ref a), y1, y2, y3, y4, y5, y6, y7]) ∧ SqL K H' a (ns.map V.int)) ⟨⟨none, none, none, none, none, none, none, rfl⟩, hS⟩ (fun i σ H1 hi hP => ?_) (fun σ H1 hP => ?_)
    · obtain ⟨⟨y1, y2, y3, y4, y5, y6, y7, rfl⟩, hS1⟩ := hP
      have hi2 : i ≤ 8 := by
        rw [List.length_map] at hi
        split at hi <;> split at hi <;> omega
      refine st_seq ?_
      refine ⟨_, rfl, _, rfl, a, ns, i, ?_, hS1, by omega, fun p H2 np ke hs => ?_⟩
      · show [V.ref a, V.int (0 + (i : Int))] = _
        rw [Int.zero_add]
      have fr2 : Fr p H1 H2 := fun b o _ e => ke b o e
      refine st_seq ?_
      refine ⟨_, rfl, p, 0, rfl, hs, (show 0 + 3 < 100000 by decide), fun z H3 z0 z1 z2 hs3 f3 => ?_⟩
      have sp : (0 : Int) < z := by omega
      try dsimp only [gName]
      refine st_seq ?_
      refine ⟨_, rfl, _, rfl, p, z, 3, rfl, hs3, (show 3 + 21 < 100000 by decide), z0, z1, fun la c bs H4 hb c0 c1 lk4 hs4 f4 => ?_⟩
      have g4 : Fr p H1 H4 := fr2.trans (f3.trans f4)
      have lbs := hb.len
      have hx : ∀ x ∈ bs.map (fun b => (c - b) % z), 0 ≤ x ∧ x < z := fun x hx => by
        obtain ⟨b, _, rfl⟩ := List.mem_map.mp hx
        exact ⟨Int.emod_nonneg _ (by omega), Int.emod_lt_of_pos _ (by omega)⟩
      have lxs6 : (bs.map fun b => (c - b) % z).length ≤ 6 := by
        rw [List.length_map]
        exact lbs
      have ho : inOrd (bs.map fun b => (c - b) % z) c z = true := inOrd_true c0 c1 hb.dec hb.pos
      generalize (bs.map fun b => (c - b) % z) = xs at lk4 hx lxs6 ho
      have hR : LkR K H4 z (.ref la) true := by
        rw [← ho]
        exact .yes lk4 (by omega) c0 c1 hx
      try dsimp only [gName]
      refine st_seq ?_
      refine ⟨_, rfl, _, rfl, .ref la, z, true, rfl, hR, sp, z1, fun H5 sm5 => ?_⟩
      refine ⟨_, _, rfl, rfl, _, rfl, iteF ?_⟩
      refine ⟨_, rfl, _, rfl, .ref la, z, true, rfl, hR.same sm5, z0, z1, fun H6 sm6 => ?_⟩
      refine ⟨_, rfl, iteF ?_⟩
      refine st_next ?_
      have s46 : Same H4 H6 := sm5.trans sm6
      try dsimp only
      refine ⟨30, rfl, by decide, by decide, ?_⟩
      refine for_range (lo := 0) (n := (30 : Int).toNat) (fun j σ H' => (∃ y1 y5 y6 y7, σ = [some (.ref a), y1, some (.ref p), some (.int z), some (.ref la), y5, y6, y7]) ∧ HS p (24 + 30 * j) H' ∧ Fr p H4 H') ⟨⟨_, _, _, _, rfl⟩, hs4.same s46, Fr.same s46⟩ (fun j σ H7 hj hP => ?_) (fun σ H7 hP => ?_)
      · obtain ⟨⟨y1, y5, y6, y7, rfl⟩, hs7, f7⟩ := hP
        have hj2 : j < 30 := hj
        have lk7 := hs4.lk f7 lk4
        refine st_seq ?_
        refine ⟨_, rfl, _, rfl, _, rfl, p, la, c, xs, z, 24 + 30 * j, rfl, lk7, lxs6, hx, c0, c1, hs7, (show 24 + 30 * j + 30 < 100000 by omega), z0, z1, fun v H8 th8 hs8 f8 => ?_⟩
        obtain ⟨b, hRb⟩ := th8.look (s := z)
        try dsimp only [gName]
        refine st_seq ?_
        refine ⟨_, rfl, _, rfl, v, z, b, rfl, hRb, sp, z1, fun H9 sm9 => ?_⟩
        try dsimp only [gName]
        refine ⟨_, rfl, _, _, _, _, true, rfl, .ty "bool", .base (.bl b), kb (by decide +kernel), _, rfl, iteF ?_⟩
        refine ⟨_, rfl, _, rfl, _, rfl, v, z, b, rfl, hRb.same sm9, z0, z1, fun Ha sma => ?_⟩
        refine ⟨rfl, _, rfl, ?_⟩
        rw [dec_refl]
        refine iteF ?_
        exact ⟨⟨_, _, _, _, rfl⟩, (hs8.same (sm9.trans sma)).mono (by omega), f7.trans (f8.trans (Fr.same (sm9.trans sma)))⟩
      · obtain ⟨⟨y1, y5, y6, y7, rfl⟩, hs7, f7⟩ := hP
        exact ⟨⟨_, _, _, _, _, _, _, rfl⟩, seq_new hS1 np (g4.trans f7)⟩
    · exact q _
end
/-! ### the head -/
theorem def0_mk {K : PySem.W.Frag} {h : Heap} {mg : Str → Option Value} {x : Str} {st : Stmt} {ps : List Str} (X : K.In h) (G : h.Ns mainGlobals mg) (g : (He.Fa.glo x).ok K = true)
    (F : ∃ fd, FunD K x x (defArgs st) (defBody st) (defScope st) [] [] (He.ga K x) fd)
    (hb : ∀ (kV doc pm : Value) (an : Option Addr) (cdv ct : Value) (us : List Value), us.length = ps.length → bindArgs (PySem.W.fnOf x x (defArgs st) (defBody st) (defScope st) .none kV doc pm an cdv ct) ⟨us, []⟩ = pure (ps.zip us)) : Def0 K mg x st ps := by
  obtain ⟨fd, F⟩ := F
  exact ⟨_, fd, F, He.glo_ok X G g, F.bindsN hb⟩
theorem defK_mk {K : PySem.W.Frag} {h : Heap} {mg : Str → Option Value} {x : Str} {st : Stmt} {ps : List Str} {n : Nat} {y : Str} {v : V} (X : K.In h) (G : h.Ns mainGlobals mg) (g : (He.Fa.glo x).ok K = true)
    (F : ∃ fd, FunD K x x (defArgs st) (defBody st) (defScope st) [] [(y, v)] (He.ga K x) fd) (hn : n + 1 = ps.length)
    (hb : ∀ (D : Addr) (doc pm : Value) (an : Option Addr) (cdv ct : Value) (us ks : List Value), us.length = n → ks.length = 1 →
      KwChain D (([y] : List Str).zip ks) (bindArgs (PySem.W.fnOf x x (defArgs st) (defBody st) (defScope st) .none (.ref D) doc pm an cdv ct) ⟨us, []⟩) (ps.zip (us ++ ks)))
    (hk : ∀ (kV doc pm : Value) (an : Option Addr) (cdv ct : Value) (us ws : List Value), us.length = n → ws.length = 1 →
      bindArgs (PySem.W.fnOf x x (defArgs st) (defBody st) (defScope st) .none kV doc pm an cdv ct) ⟨us, ([y] : List Str).zip ws⟩ = pure (ps.zip (us ++ ws))) : DefK K mg x st ps n [(y, v)] := by
  obtain ⟨fd, F⟩ := F
  refine ⟨_, fd, F, He.glo_ok X G g, F.binds0 n (by simp) hn hb, fun us ws => us ++ ws, ⟨fun s us ws _ l1 l2 => ?_, fun r1 r2 => r1.append r2⟩⟩
  obtain ⟨oc, od, dV, kV, doc, pm, an, cdv, ct, osl, rfl, lk, hcd, hD, hK⟩ := F.ex
  rcases hD with ⟨_, rfl⟩ | ⟨e, _⟩
  · exact .of_eq (hk kV doc pm an cdv ct us ws l1 l2)
  · exact absurd rfl e
theorem int_g {K : PySem.W.Frag} {h : Heap} {mg : Str → Option Value} {x : Str} {i : Int} (X : K.In h) (G : h.Ns mainGlobals mg) (g : (He.Fa.int x i).ok K = true) : ∃ u, mg x = some u ∧ RelV (.int i) u := by
  obtain ⟨t, e⟩ := He.int_ok X G g
  exact ⟨_, e, t, rfl⟩
def d_is_whole : He.DefD := ⟨("is_whole", none), "is_whole", "is_whole", defArgs s_is_whole, defBody s_is_whole, defScope s_is_whole, [], []⟩
def d_is_number : He.DefD := ⟨("is_number", none), "is_number", "is_number", defArgs s_is_number, defBody s_is_number, defScope s_is_number, [], []⟩
def d_steps : He.DefD := ⟨("steps", none), "steps", "steps", defArgs s_steps, defBody s_steps, defScope s_steps, [], [("ring", .int 64)]⟩
def d_before : He.DefD := ⟨("before", none), "before", "before", defArgs s_before, defBody s_before, defScope s_before, [], [("ring", .int 64)]⟩
def d_is_look : He.DefD := ⟨("is_look", none), "is_look", "is_look", defArgs s_is_look, defBody s_is_look, defScope s_is_look, [], [("ring", .int 64)]⟩
def d_in_order : He.DefD := ⟨("in_order", none), "in_order", "in_order", defArgs s_in_order, defBody s_in_order, defScope s_in_order, [], []⟩
def d_l_hand : He.DefD := ⟨("_law_hand", none), "_law_hand", "_law_hand", defArgs s_l_hand, defBody s_l_hand, defScope s_l_hand, [], []⟩
def d_l_take : He.DefD := ⟨("_law_take", none), "_law_take", "_law_take", defArgs s_l_take, defBody s_l_take, defScope s_l_take, [], []⟩
def d_l_of : He.DefD := ⟨("_law_of", none), "_law_of", "_law_of", defArgs s_l_of, defBody s_l_of, defScope s_l_of, [], []⟩
def d_l_size : He.DefD := ⟨("_law_size", none), "_law_size", "_law_size", defArgs s_l_size, defBody s_l_size, defScope s_l_size, [], []⟩
def d_l_look : He.DefD := ⟨("_law_look", none), "_law_look", "_law_look", defArgs s_l_look, defBody s_l_look, defScope s_l_look, [], []⟩
def d_l_is_on : He.DefD := ⟨("_law_is_on", none), "_law_is_on", "_law_is_on", defArgs s_l_is_on, defBody s_l_is_on, defScope s_l_is_on, [], []⟩
def d_l_is_look : He.DefD := ⟨("_law_is_look", none), "_law_is_look", "_law_is_look", defArgs s_l_is_look, defBody s_l_is_look, defScope s_l_is_look, [], []⟩
def d_l_odd : He.DefD := ⟨("_law_odd", none), "_law_odd", "_law_odd", defArgs s_l_odd, defBody s_l_odd, defScope s_l_odd, [], []⟩
def d_l_number : He.DefD := ⟨("_law_number", none), "_law_number", "_law_number", defArgs s_l_number, defBody s_l_number, defScope s_l_number, [], []⟩
def d_l_bent : He.DefD := ⟨("_law_bent", none), "_law_bent", "_law_bent", defArgs s_l_bent, defBody s_l_bent, defScope s_l_bent, [], []⟩
def d_l_told : He.DefD := ⟨("_law_told", none), "_law_told", "_law_told", defArgs s_l_told, defBody s_l_told, defScope s_l_told, [], []⟩
def d_law : He.DefD := ⟨("law", none), "law", "law", defArgs s_law, defBody s_law, defScope s_law, [], []⟩
def fn : List He.DefD := [d_is_whole, d_is_number, d_steps, d_before, d_is_look, d_in_order, d_l_hand, d_l_take, d_l_of, d_l_size, d_l_look, d_l_is_on, d_l_is_look, d_l_odd, d_l_number, d_l_bent, d_l_told, d_law]
--@ level 6
def fa : List He.Fa := [.glo "is_whole", .glo "is_number", .glo "steps", .glo "before", .glo "is_look", .glo "in_order", .glo "_law_hand", .glo "_law_take", .glo "_law_of", .glo "_law_size", .glo "_law_look", .glo "_law_is_on", .glo "_law_is_look", .glo "_law_odd", .glo "_law_number", .glo "_law_bent", .glo "_law_told", .glo "law", .int "RING" 64] ++ freeNames.map .free
abbrev R : PySem.W.OpenRow := PySem.W.OpenLaw.row PySem.Challenge.rw_roundstore_k07_looks_of_anything
abbrev hk : PySem.W.Hook := He.hookD 4 fa fn
def ob (s : PySem.W.SharedT) : He.AlD := He.obsDG 4 fa fn (HandSHeadRun.getT s)
theorem ob_eq (s : PySem.W.SharedT) : ob s = hk.obs s.abs := He.obsDG_eq (HandSHeadRun.getT_eq s)
theorem run (w : World) : HandSHeadRun.RunEq R (PySem.W.view R.prog [22]) hk ob 2000 ["is_whole", "is_number", "RING", "steps", "before", "is_look", "in_order", "_law_hand", "_law_take", "_law_of", "_law_size", "_law_look", "_law_is_on", "_law_is_look", "_law_odd", "_law_number", "_law_bent", "_law_told"] w := by
  intro os
  kernel_rfl
theorem facts {P : Program} {w : World} {K : PySem.W.Frag} {h : Heap} {mg : Str → Option Value} {f : Addr} (X : K.In h) (G : h.Ns mainGlobals mg) (hfa : mg ("law" : Str) = some (.ref f)) (c : He.SaysD fa fn K) :
    ∃ fd : FuncData, (∀ (s : Shared) (v : Value), BindsTo s fd ⟨[v], []⟩ [("_law_script", v)]) ∧ ∀ base : Heap, K.In base → base.Ns mainGlobals mg → FnAt callerA P w K mg base CX0 6 f fd ["_law_script"] (spLaw K) := by
  have T : Tx K mg := tx_mk fun x hx => He.free_ok X G (by
    obtain ⟨i, hi, e⟩ := List.mem_iff_getElem.mp hx
    exact c.fact (19 + i) (f := .free x) (by
      show ([.glo "is_whole", .glo "is_number", .glo "steps", .glo "before", .glo "is_look", .glo "in_order", .glo "_law_hand", .glo "_law_take", .glo "_law_of", .glo "_law_size", .glo "_law_look", .glo "_law_is_on", .glo "_law_is_look", .glo "_law_odd", .glo "_law_number", .glo "_law_bent", .glo "_law_told", .glo "law", .int "RING" 64] ++ freeNames.map He.Fa.free)[19 + i]? = _
      rw [List.getElem?_append_right (by show 19 ≤ _; omega)]
      show (freeNames.map He.Fa.free)[19 + i - 19]? = _
      rw [Nat.add_sub_cancel_left, List.getElem?_map, List.getElem?_eq_getElem hi, e]
      rfl))
  have g_RING := int_g X G (c.fact 18 (f := .int "RING" 64) rfl)
  have D_steps : DefK K mg "steps" s_steps ["one", "other", "ring"] 2 [("ring", .int 64)] := defK_mk X G (c.fact 2 (f := .glo "steps") rfl) (c.def_ 2 (d := d_steps) rfl) rfl
    (fun _ _ _ _ _ _ us ks l1 l2 => match us, ks, l1, l2 with | [_, _], [_], _, _ => ⟨_, _, _, _, _, _, rfl, rfl, rfl⟩) (fun _ _ _ _ _ _ us ws l1 l2 => match us, ws, l1, l2 with | [_, _], [_], _, _ => rfl)
  have D_before : DefK K mg "before" s_before ["one", "other", "ring"] 2 [("ring", .int 64)] := defK_mk X G (c.fact 3 (f := .glo "before") rfl) (c.def_ 3 (d := d_before) rfl) rfl
    (fun _ _ _ _ _ _ us ks l1 l2 => match us, ks, l1, l2 with | [_, _], [_], _, _ => ⟨_, _, _, _, _, _, rfl, rfl, rfl⟩) (fun _ _ _ _ _ _ us ws l1 l2 => match us, ws, l1, l2 with | [_, _], [_], _, _ => rfl)
  have D_is_whole : Def0 K mg "is_whole" s_is_whole ["thing"] := def0_mk X G (c.fact 0 (f := .glo "is_whole") rfl) (c.def_ 0 (d := d_is_whole) rfl) fun _ _ _ _ _ _ us hl => match us, hl with | [_], _ => rfl
  have D_is_number : Def0 K mg "is_number" s_is_number ["thing", "ring"] := def0_mk X G (c.fact 1 (f := .glo "is_number") rfl) (c.def_ 1 (d := d_is_number) rfl) fun _ _ _ _ _ _ us hl => match us, hl with | [_, _], _ => rfl
  have D_in_order : Def0 K mg "in_order" s_in_order ["numbers", "ring"] := def0_mk X G (c.fact 5 (f := .glo "in_order") rfl) (c.def_ 5 (d := d_in_order) rfl) fun _ _ _ _ _ _ us hl => match us, hl with | [_, _], _ => rfl
  have D_is_look : DefK K mg "is_look" s_is_look ["thing", "ring"] 1 [("ring", .int 64)] := defK_mk X G (c.fact 4 (f := .glo "is_look") rfl) (c.def_ 4 (d := d_is_look) rfl) rfl
    (fun _ _ _ _ _ _ us ks l1 l2 => match us, ks, l1, l2 with | [_], [_], _, _ => ⟨_, _, _, _, _, _, rfl, rfl, rfl⟩) (fun _ _ _ _ _ _ us ws l1 l2 => match us, ws, l1, l2 with | [_], [_], _, _ => rfl)
  have D_l_hand : Def0 K mg "_law_hand" s_l_hand ["_law_script", "_law_k"] := def0_mk X G (c.fact 6 (f := .glo "_law_hand") rfl) (c.def_ 6 (d := d_l_hand) rfl) fun _ _ _ _ _ _ us hl => match us, hl with | [_, _], _ => rfl
  have D_l_take : Def0 K mg "_law_take" s_l_take ["_law_hand_here", "_law_many"] := def0_mk X G (c.fact 7 (f := .glo "_law_take") rfl) (c.def_ 7 (d := d_l_take) rfl) fun _ _ _ _ _ _ us hl => match us, hl with | [_, _], _ => rfl
  have D_l_of : Def0 K mg "_law_of" s_l_of ["_law_hand_here", "_law_some"] := def0_mk X G (c.fact 8 (f := .glo "_law_of") rfl) (c.def_ 8 (d := d_l_of) rfl) fun _ _ _ _ _ _ us hl => match us, hl with | [_, _], _ => rfl
  have D_l_size : Def0 K mg "_law_size" s_l_size ["_law_hand_here"] := def0_mk X G (c.fact 9 (f := .glo "_law_size") rfl) (c.def_ 9 (d := d_l_size) rfl) fun _ _ _ _ _ _ us hl => match us, hl with | [_], _ => rfl
  have D_l_look : Def0 K mg "_law_look" s_l_look ["_law_hand_here", "_law_size_here"] := def0_mk X G (c.fact 10 (f := .glo "_law_look") rfl) (c.def_ 10 (d := d_l_look) rfl) fun _ _ _ _ _ _ us hl => match us, hl with | [_, _], _ => rfl
  have D_l_is_on : Def0 K mg "_law_is_on" s_l_is_on ["_law_thing", "_law_size_here"] := def0_mk X G (c.fact 11 (f := .glo "_law_is_on") rfl) (c.def_ 11 (d := d_l_is_on) rfl) fun _ _ _ _ _ _ us hl => match us, hl with | [_, _], _ => rfl
  have D_l_is_look : Def0 K mg "_law_is_look" s_l_is_look ["_law_thing", "_law_size_here"] := def0_mk X G (c.fact 12 (f := .glo "_law_is_look") rfl) (c.def_ 12 (d := d_l_is_look) rfl) fun _ _ _ _ _ _ us hl => match us, hl with | [_, _], _ => rfl
  have D_l_odd : Def0 K mg "_law_odd" s_l_odd ["_law_hand_here"] := def0_mk X G (c.fact 13 (f := .glo "_law_odd") rfl) (c.def_ 13 (d := d_l_odd) rfl) fun _ _ _ _ _ _ us hl => match us, hl with | [_], _ => rfl
  have D_l_number : Def0 K mg "_law_number" s_l_number ["_law_hand_here", "_law_number_here", "_law_size_here"] := def0_mk X G (c.fact 14 (f := .glo "_law_number") rfl) (c.def_ 14 (d := d_l_number) rfl) fun _ _ _ _ _ _ us hl => match us, hl with | [_, _, _], _ => rfl
  have D_l_bent : Def0 K mg "_law_bent" s_l_bent ["_law_hand_here", "_law_look_here", "_law_size_here"] := def0_mk X G (c.fact 15 (f := .glo "_law_bent") rfl) (c.def_ 15 (d := d_l_bent) rfl) fun _ _ _ _ _ _ us hl => match us, hl with | [_, _, _], _ => rfl
  have D_l_told : Def0 K mg "_law_told" s_l_told ["_law_thing", "_law_size_here"] := def0_mk X G (c.fact 16 (f := .glo "_law_told") rfl) (c.def_ 16 (d := d_l_told) rfl) fun _ _ _ _ _ _ us hl => match us, hl with | [_, _], _ => rfl
  obtain ⟨fd, F⟩ := c.def_ 17 (d := d_law) rfl
  have e := hfa.symm.trans (He.glo_ok X G (c.fact 17 (f := .glo "law") rfl))
  cases e
  have b := FunD.bindsA (ps := ["_law_script"]) F fun _ _ _ _ _ _ us hl => match us, hl with | [_], _ => rfl
  refine ⟨fd, fun s v => b s [v] rfl, fun base _ _ => ?_⟩
  obtain ⟨K_steps, C_steps⟩ := D_steps.ok (P := P) (w := w) (base := base) (sp := spSteps) sc_steps (fun vs H Q E h => by first | (rcases h with ⟨_, _, _, _, rfl, _⟩ | ⟨_, _, _, _, rfl, _⟩ <;> rfl) | (obtain ⟨rfl, _⟩ := h; rfl) | (obtain ⟨_, rfl, _⟩ := h; rfl) | (obtain ⟨_, _, rfl, _⟩ := h; rfl) | (obtain ⟨_, _, _, rfl, _⟩ := h; rfl) | (obtain ⟨_, _, _, _, rfl, _⟩ := h; rfl) | (obtain ⟨_, _, _, _, _, rfl, _⟩ := h; rfl) | (obtain ⟨_, _, _, _, _, _, rfl, _⟩ := h; rfl) | (obtain ⟨_, _, _, _, _, _, _, rfl, _⟩ := h; rfl) | (obtain ⟨_, _, _, _, _, _, _, _, rfl, _⟩ := h; rfl) | (obtain ⟨_, _, _, _, _, _, _, _, _, rfl, _⟩ := h; rfl) | (obtain ⟨_, _, _, _, _, _, _, _, _, _, rfl, _⟩ := h; rfl) | (obtain ⟨_, _, _, _, _, _, _, _, _, _, _, rfl, _⟩ := h; rfl) | (obtain ⟨_, _, _, _, _, _, _, _, _, _, _, _, rfl, _⟩ := h; rfl) | (obtain ⟨_, _, _, _, _, _, _, _, _, _, _, _, _, rfl, _⟩ := h; rfl) | (obtain ⟨_, _, _, _, _, _, _, _, _, _, _, _, _, _, rfl, _⟩ := h; rfl) | (obtain ⟨_, _, _, _, _, _, _, _, _, _, _, _, _, _, _, rfl, _⟩ := h; rfl) | (obtain ⟨_, _, _, _, _, _, _, _, _, _, _, _, _, _, _, _, rfl, _⟩ := h; rfl) | (obtain ⟨_, _, _, _, _, _, _, _, _, _, _, _, _, _, _, _, _, rfl, _⟩ := h; rfl)) (ok_steps)
  obtain ⟨K_before, C_before⟩ := D_before.ok (P := P) (w := w) (base := base) (sp := spBefore) sc_before (fun vs H Q E h => by first | (rcases h with ⟨_, _, _, _, rfl, _⟩ | ⟨_, _, _, _, rfl, _⟩ <;> rfl) | (obtain ⟨rfl, _⟩ := h; rfl) | (obtain ⟨_, rfl, _⟩ := h; rfl) | (obtain ⟨_, _, rfl, _⟩ := h; rfl) | (obtain ⟨_, _, _, rfl, _⟩ := h; rfl) | (obtain ⟨_, _, _, _, rfl, _⟩ := h; rfl) | (obtain ⟨_, _, _, _, _, rfl, _⟩ := h; rfl) | (obtain ⟨_, _, _, _, _, _, rfl, _⟩ := h; rfl) | (obtain ⟨_, _, _, _, _, _, _, rfl, _⟩ := h; rfl) | (obtain ⟨_, _, _, _, _, _, _, _, rfl, _⟩ := h; rfl) | (obtain ⟨_, _, _, _, _, _, _, _, _, rfl, _⟩ := h; rfl) | (obtain ⟨_, _, _, _, _, _, _, _, _, _, rfl, _⟩ := h; rfl) | (obtain ⟨_, _, _, _, _, _, _, _, _, _, _, rfl, _⟩ := h; rfl) | (obtain ⟨_, _, _, _, _, _, _, _, _, _, _, _, rfl, _⟩ := h; rfl) | (obtain ⟨_, _, _, _, _, _, _, _, _, _, _, _, _, rfl, _⟩ := h; rfl) | (obtain ⟨_, _, _, _, _, _, _, _, _, _, _, _, _, _, rfl, _⟩ := h; rfl) | (obtain ⟨_, _, _, _, _, _, _, _, _, _, _, _, _, _, _, rfl, _⟩ := h; rfl) | (obtain ⟨_, _, _, _, _, _, _, _, _, _, _, _, _, _, _, _, rfl, _⟩ := h; rfl) | (obtain ⟨_, _, _, _, _, _, _, _, _, _, _, _, _, _, _, _, _, rfl, _⟩ := h; rfl)) (ok_before K_steps)
  have C_is_whole := D_is_whole.cal (P := P) (w := w) (base := base) (sp := spWhole K) sc_is_whole (fun vs H Q E h => by first | (rcases h with ⟨_, _, _, _, rfl, _⟩ | ⟨_, _, _, _, rfl, _⟩ <;> rfl) | (obtain ⟨rfl, _⟩ := h; rfl) | (obtain ⟨_, rfl, _⟩ := h; rfl) | (obtain ⟨_, _, rfl, _⟩ := h; rfl) | (obtain ⟨_, _, _, rfl, _⟩ := h; rfl) | (obtain ⟨_, _, _, _, rfl, _⟩ := h; rfl) | (obtain ⟨_, _, _, _, _, rfl, _⟩ := h; rfl) | (obtain ⟨_, _, _, _, _, _, rfl, _⟩ := h; rfl) | (obtain ⟨_, _, _, _, _, _, _, rfl, _⟩ := h; rfl) | (obtain ⟨_, _, _, _, _, _, _, _, rfl, _⟩ := h; rfl) | (obtain ⟨_, _, _, _, _, _, _, _, _, rfl, _⟩ := h; rfl) | (obtain ⟨_, _, _, _, _, _, _, _, _, _, rfl, _⟩ := h; rfl) | (obtain ⟨_, _, _, _, _, _, _, _, _, _, _, rfl, _⟩ := h; rfl) | (obtain ⟨_, _, _, _, _, _, _, _, _, _, _, _, rfl, _⟩ := h; rfl) | (obtain ⟨_, _, _, _, _, _, _, _, _, _, _, _, _, rfl, _⟩ := h; rfl) | (obtain ⟨_, _, _, _, _, _, _, _, _, _, _, _, _, _, rfl, _⟩ := h; rfl) | (obtain ⟨_, _, _, _, _, _, _, _, _, _, _, _, _, _, _, rfl, _⟩ := h; rfl) | (obtain ⟨_, _, _, _, _, _, _, _, _, _, _, _, _, _, _, _, rfl, _⟩ := h; rfl) | (obtain ⟨_, _, _, _, _, _, _, _, _, _, _, _, _, _, _, _, _, rfl, _⟩ := h; rfl)) (ok_whole T)
  have C_is_number := D_is_number.cal (P := P) (w := w) (base := base) (sp := spNumber K) sc_is_number (fun vs H Q E h => by first | (rcases h with ⟨_, _, _, _, rfl, _⟩ | ⟨_, _, _, _, rfl, _⟩ <;> rfl) | (obtain ⟨rfl, _⟩ := h; rfl) | (obtain ⟨_, rfl, _⟩ := h; rfl) | (obtain ⟨_, _, rfl, _⟩ := h; rfl) | (obtain ⟨_, _, _, rfl, _⟩ := h; rfl) | (obtain ⟨_, _, _, _, rfl, _⟩ := h; rfl) | (obtain ⟨_, _, _, _, _, rfl, _⟩ := h; rfl) | (obtain ⟨_, _, _, _, _, _, rfl, _⟩ := h; rfl) | (obtain ⟨_, _, _, _, _, _, _, rfl, _⟩ := h; rfl) | (obtain ⟨_, _, _, _, _, _, _, _, rfl, _⟩ := h; rfl) | (obtain ⟨_, _, _, _, _, _, _, _, _, rfl, _⟩ := h; rfl) | (obtain ⟨_, _, _, _, _, _, _, _, _, _, rfl, _⟩ := h; rfl) | (obtain ⟨_, _, _, _, _, _, _, _, _, _, _, rfl, _⟩ := h; rfl) | (obtain ⟨_, _, _, _, _, _, _, _, _, _, _, _, rfl, _⟩ := h; rfl) | (obtain ⟨_, _, _, _, _, _, _, _, _, _, _, _, _, rfl, _⟩ := h; rfl) | (obtain ⟨_, _, _, _, _, _, _, _, _, _, _, _, _, _, rfl, _⟩ := h; rfl) | (obtain ⟨_, _, _, _, _, _, _, _, _, _, _, _, _, _, _, rfl, _⟩ := h; rfl) | (obtain ⟨_, _, _, _, _, _, _, _, _, _, _, _, _, _, _, _, rfl, _⟩ := h; rfl) | (obtain ⟨_, _, _, _, _, _, _, _, _, _, _, _, _, _, _, _, _, rfl, _⟩ := h; rfl)) (ok_number T C_is_whole)
  have C_in_order := D_in_order.cal (P := P) (w := w) (base := base) (sp := spOrder K) sc_in_order (fun vs H Q E h => by first | (rcases h with ⟨_, _, _, _, rfl, _⟩ | ⟨_, _, _, _, rfl, _⟩ <;> rfl) | (obtain ⟨rfl, _⟩ := h; rfl) | (obtain ⟨_, rfl, _⟩ := h; rfl) | (obtain ⟨_, _, rfl, _⟩ := h; rfl) | (obtain ⟨_, _, _, rfl, _⟩ := h; rfl) | (obtain ⟨_, _, _, _, rfl, _⟩ := h; rfl) | (obtain ⟨_, _, _, _, _, rfl, _⟩ := h; rfl) | (obtain ⟨_, _, _, _, _, _, rfl, _⟩ := h; rfl) | (obtain ⟨_, _, _, _, _, _, _, rfl, _⟩ := h; rfl) | (obtain ⟨_, _, _, _, _, _, _, _, rfl, _⟩ := h; rfl) | (obtain ⟨_, _, _, _, _, _, _, _, _, rfl, _⟩ := h; rfl) | (obtain ⟨_, _, _, _, _, _, _, _, _, _, rfl, _⟩ := h; rfl) | (obtain ⟨_, _, _, _, _, _, _, _, _, _, _, rfl, _⟩ := h; rfl) | (obtain ⟨_, _, _, _, _, _, _, _, _, _, _, _, rfl, _⟩ := h; rfl) | (obtain ⟨_, _, _, _, _, _, _, _, _, _, _, _, _, rfl, _⟩ := h; rfl) | (obtain ⟨_, _, _, _, _, _, _, _, _, _, _, _, _, _, rfl, _⟩ := h; rfl) | (obtain ⟨_, _, _, _, _, _, _, _, _, _, _, _, _, _, _, rfl, _⟩ := h; rfl) | (obtain ⟨_, _, _, _, _, _, _, _, _, _, _, _, _, _, _, _, rfl, _⟩ := h; rfl) | (obtain ⟨_, _, _, _, _, _, _, _, _, _, _, _, _, _, _, _, _, rfl, _⟩ := h; rfl)) (ok_order T K_before)
  obtain ⟨K_is_look, C_is_look⟩ := D_is_look.ok (P := P) (w := w) (base := base) (sp := spIsLook K) sc_is_look (fun vs H Q E h => by first | (rcases h with ⟨_, _, _, _, rfl, _⟩ | ⟨_, _, _, _, rfl, _⟩ <;> rfl) | (obtain ⟨rfl, _⟩ := h; rfl) | (obtain ⟨_, rfl, _⟩ := h; rfl) | (obtain ⟨_, _, rfl, _⟩ := h; rfl) | (obtain ⟨_, _, _, rfl, _⟩ := h; rfl) | (obtain ⟨_, _, _, _, rfl, _⟩ := h; rfl) | (obtain ⟨_, _, _, _, _, rfl, _⟩ := h; rfl) | (obtain ⟨_, _, _, _, _, _, rfl, _⟩ := h; rfl) | (obtain ⟨_, _, _, _, _, _, _, rfl, _⟩ := h; rfl) | (obtain ⟨_, _, _, _, _, _, _, _, rfl, _⟩ := h; rfl) | (obtain ⟨_, _, _, _, _, _, _, _, _, rfl, _⟩ := h; rfl) | (obtain ⟨_, _, _, _, _, _, _, _, _, _, rfl, _⟩ := h; rfl) | (obtain ⟨_, _, _, _, _, _, _, _, _, _, _, rfl, _⟩ := h; rfl) | (obtain ⟨_, _, _, _, _, _, _, _, _, _, _, _, rfl, _⟩ := h; rfl) | (obtain ⟨_, _, _, _, _, _, _, _, _, _, _, _, _, rfl, _⟩ := h; rfl) | (obtain ⟨_, _, _, _, _, _, _, _, _, _, _, _, _, _, rfl, _⟩ := h; rfl) | (obtain ⟨_, _, _, _, _, _, _, _, _, _, _, _, _, _, _, rfl, _⟩ := h; rfl) | (obtain ⟨_, _, _, _, _, _, _, _, _, _, _, _, _, _, _, _, rfl, _⟩ := h; rfl) | (obtain ⟨_, _, _, _, _, _, _, _, _, _, _, _, _, _, _, _, _, rfl, _⟩ := h; rfl)) (ok_isLook T C_is_number C_in_order)
  have C_l_hand := D_l_hand.cal (P := P) (w := w) (base := base) (sp := spHand K) sc_l_hand (fun vs H Q E h => by first | (rcases h with ⟨_, _, _, _, rfl, _⟩ | ⟨_, _, _, _, rfl, _⟩ <;> rfl) | (obtain ⟨rfl, _⟩ := h; rfl) | (obtain ⟨_, rfl, _⟩ := h; rfl) | (obtain ⟨_, _, rfl, _⟩ := h; rfl) | (obtain ⟨_, _, _, rfl, _⟩ := h; rfl) | (obtain ⟨_, _, _, _, rfl, _⟩ := h; rfl) | (obtain ⟨_, _, _, _, _, rfl, _⟩ := h; rfl) | (obtain ⟨_, _, _, _, _, _, rfl, _⟩ := h; rfl) | (obtain ⟨_, _, _, _, _, _, _, rfl, _⟩ := h; rfl) | (obtain ⟨_, _, _, _, _, _, _, _, rfl, _⟩ := h; rfl) | (obtain ⟨_, _, _, _, _, _, _, _, _, rfl, _⟩ := h; rfl) | (obtain ⟨_, _, _, _, _, _, _, _, _, _, rfl, _⟩ := h; rfl) | (obtain ⟨_, _, _, _, _, _, _, _, _, _, _, rfl, _⟩ := h; rfl) | (obtain ⟨_, _, _, _, _, _, _, _, _, _, _, _, rfl, _⟩ := h; rfl) | (obtain ⟨_, _, _, _, _, _, _, _, _, _, _, _, _, rfl, _⟩ := h; rfl) | (obtain ⟨_, _, _, _, _, _, _, _, _, _, _, _, _, _, rfl, _⟩ := h; rfl) | (obtain ⟨_, _, _, _, _, _, _, _, _, _, _, _, _, _, _, rfl, _⟩ := h; rfl) | (obtain ⟨_, _, _, _, _, _, _, _, _, _, _, _, _, _, _, _, rfl, _⟩ := h; rfl) | (obtain ⟨_, _, _, _, _, _, _, _, _, _, _, _, _, _, _, _, _, rfl, _⟩ := h; rfl)) (ok_hand T)
  have C_l_take := D_l_take.cal (P := P) (w := w) (base := base) (sp := spTake) sc_l_take (fun vs H Q E h => by first | (rcases h with ⟨_, _, _, _, rfl, _⟩ | ⟨_, _, _, _, rfl, _⟩ <;> rfl) | (obtain ⟨rfl, _⟩ := h; rfl) | (obtain ⟨_, rfl, _⟩ := h; rfl) | (obtain ⟨_, _, rfl, _⟩ := h; rfl) | (obtain ⟨_, _, _, rfl, _⟩ := h; rfl) | (obtain ⟨_, _, _, _, rfl, _⟩ := h; rfl) | (obtain ⟨_, _, _, _, _, rfl, _⟩ := h; rfl) | (obtain ⟨_, _, _, _, _, _, rfl, _⟩ := h; rfl) | (obtain ⟨_, _, _, _, _, _, _, rfl, _⟩ := h; rfl) | (obtain ⟨_, _, _, _, _, _, _, _, rfl, _⟩ := h; rfl) | (obtain ⟨_, _, _, _, _, _, _, _, _, rfl, _⟩ := h; rfl) | (obtain ⟨_, _, _, _, _, _, _, _, _, _, rfl, _⟩ := h; rfl) | (obtain ⟨_, _, _, _, _, _, _, _, _, _, _, rfl, _⟩ := h; rfl) | (obtain ⟨_, _, _, _, _, _, _, _, _, _, _, _, rfl, _⟩ := h; rfl) | (obtain ⟨_, _, _, _, _, _, _, _, _, _, _, _, _, rfl, _⟩ := h; rfl) | (obtain ⟨_, _, _, _, _, _, _, _, _, _, _, _, _, _, rfl, _⟩ := h; rfl) | (obtain ⟨_, _, _, _, _, _, _, _, _, _, _, _, _, _, _, rfl, _⟩ := h; rfl) | (obtain ⟨_, _, _, _, _, _, _, _, _, _, _, _, _, _, _, _, rfl, _⟩ := h; rfl) | (obtain ⟨_, _, _, _, _, _, _, _, _, _, _, _, _, _, _, _, _, rfl, _⟩ := h; rfl)) (ok_take T)
  have C_l_of := D_l_of.cal (P := P) (w := w) (base := base) (sp := spOf2 K) sc_l_of (fun vs H Q E h => by first | (rcases h with ⟨_, _, _, _, rfl, _⟩ | ⟨_, _, _, _, rfl, _⟩ <;> rfl) | (obtain ⟨rfl, _⟩ := h; rfl) | (obtain ⟨_, rfl, _⟩ := h; rfl) | (obtain ⟨_, _, rfl, _⟩ := h; rfl) | (obtain ⟨_, _, _, rfl, _⟩ := h; rfl) | (obtain ⟨_, _, _, _, rfl, _⟩ := h; rfl) | (obtain ⟨_, _, _, _, _, rfl, _⟩ := h; rfl) | (obtain ⟨_, _, _, _, _, _, rfl, _⟩ := h; rfl) | (obtain ⟨_, _, _, _, _, _, _, rfl, _⟩ := h; rfl) | (obtain ⟨_, _, _, _, _, _, _, _, rfl, _⟩ := h; rfl) | (obtain ⟨_, _, _, _, _, _, _, _, _, rfl, _⟩ := h; rfl) | (obtain ⟨_, _, _, _, _, _, _, _, _, _, rfl, _⟩ := h; rfl) | (obtain ⟨_, _, _, _, _, _, _, _, _, _, _, rfl, _⟩ := h; rfl) | (obtain ⟨_, _, _, _, _, _, _, _, _, _, _, _, rfl, _⟩ := h; rfl) | (obtain ⟨_, _, _, _, _, _, _, _, _, _, _, _, _, rfl, _⟩ := h; rfl) | (obtain ⟨_, _, _, _, _, _, _, _, _, _, _, _, _, _, rfl, _⟩ := h; rfl) | (obtain ⟨_, _, _, _, _, _, _, _, _, _, _, _, _, _, _, rfl, _⟩ := h; rfl) | (obtain ⟨_, _, _, _, _, _, _, _, _, _, _, _, _, _, _, _, rfl, _⟩ := h; rfl) | (obtain ⟨_, _, _, _, _, _, _, _, _, _, _, _, _, _, _, _, _, rfl, _⟩ := h; rfl)) (ok_of2 T C_l_take)
  have C_l_size := D_l_size.cal (P := P) (w := w) (base := base) (sp := spSize) sc_l_size (fun vs H Q E h => by first | (rcases h with ⟨_, _, _, _, rfl, _⟩ | ⟨_, _, _, _, rfl, _⟩ <;> rfl) | (obtain ⟨rfl, _⟩ := h; rfl) | (obtain ⟨_, rfl, _⟩ := h; rfl) | (obtain ⟨_, _, rfl, _⟩ := h; rfl) | (obtain ⟨_, _, _, rfl, _⟩ := h; rfl) | (obtain ⟨_, _, _, _, rfl, _⟩ := h; rfl) | (obtain ⟨_, _, _, _, _, rfl, _⟩ := h; rfl) | (obtain ⟨_, _, _, _, _, _, rfl, _⟩ := h; rfl) | (obtain ⟨_, _, _, _, _, _, _, rfl, _⟩ := h; rfl) | (obtain ⟨_, _, _, _, _, _, _, _, rfl, _⟩ := h; rfl) | (obtain ⟨_, _, _, _, _, _, _, _, _, rfl, _⟩ := h; rfl) | (obtain ⟨_, _, _, _, _, _, _, _, _, _, rfl, _⟩ := h; rfl) | (obtain ⟨_, _, _, _, _, _, _, _, _, _, _, rfl, _⟩ := h; rfl) | (obtain ⟨_, _, _, _, _, _, _, _, _, _, _, _, rfl, _⟩ := h; rfl) | (obtain ⟨_, _, _, _, _, _, _, _, _, _, _, _, _, rfl, _⟩ := h; rfl) | (obtain ⟨_, _, _, _, _, _, _, _, _, _, _, _, _, _, rfl, _⟩ := h; rfl) | (obtain ⟨_, _, _, _, _, _, _, _, _, _, _, _, _, _, _, rfl, _⟩ := h; rfl) | (obtain ⟨_, _, _, _, _, _, _, _, _, _, _, _, _, _, _, _, rfl, _⟩ := h; rfl) | (obtain ⟨_, _, _, _, _, _, _, _, _, _, _, _, _, _, _, _, _, rfl, _⟩ := h; rfl)) (ok_size T C_l_take (cal_weak C_l_of fun _ _ _ _ h => .inl h))
  have C_l_look := D_l_look.cal (P := P) (w := w) (base := base) (sp := spLook K) sc_l_look (fun vs H Q E h => by first | (rcases h with ⟨_, _, _, _, rfl, _⟩ | ⟨_, _, _, _, rfl, _⟩ <;> rfl) | (obtain ⟨rfl, _⟩ := h; rfl) | (obtain ⟨_, rfl, _⟩ := h; rfl) | (obtain ⟨_, _, rfl, _⟩ := h; rfl) | (obtain ⟨_, _, _, rfl, _⟩ := h; rfl) | (obtain ⟨_, _, _, _, rfl, _⟩ := h; rfl) | (obtain ⟨_, _, _, _, _, rfl, _⟩ := h; rfl) | (obtain ⟨_, _, _, _, _, _, rfl, _⟩ := h; rfl) | (obtain ⟨_, _, _, _, _, _, _, rfl, _⟩ := h; rfl) | (obtain ⟨_, _, _, _, _, _, _, _, rfl, _⟩ := h; rfl) | (obtain ⟨_, _, _, _, _, _, _, _, _, rfl, _⟩ := h; rfl) | (obtain ⟨_, _, _, _, _, _, _, _, _, _, rfl, _⟩ := h; rfl) | (obtain ⟨_, _, _, _, _, _, _, _, _, _, _, rfl, _⟩ := h; rfl) | (obtain ⟨_, _, _, _, _, _, _, _, _, _, _, _, rfl, _⟩ := h; rfl) | (obtain ⟨_, _, _, _, _, _, _, _, _, _, _, _, _, rfl, _⟩ := h; rfl) | (obtain ⟨_, _, _, _, _, _, _, _, _, _, _, _, _, _, rfl, _⟩ := h; rfl) | (obtain ⟨_, _, _, _, _, _, _, _, _, _, _, _, _, _, _, rfl, _⟩ := h; rfl) | (obtain ⟨_, _, _, _, _, _, _, _, _, _, _, _, _, _, _, _, rfl, _⟩ := h; rfl) | (obtain ⟨_, _, _, _, _, _, _, _, _, _, _, _, _, _, _, _, _, rfl, _⟩ := h; rfl)) (ok_look T C_l_take (cal_weak C_l_of fun _ _ _ _ h => .inl h))
  have C_l_is_on := D_l_is_on.cal (P := P) (w := w) (base := base) (sp := spNumber K) sc_l_is_on (fun vs H Q E h => by first | (rcases h with ⟨_, _, _, _, rfl, _⟩ | ⟨_, _, _, _, rfl, _⟩ <;> rfl) | (obtain ⟨rfl, _⟩ := h; rfl) | (obtain ⟨_, rfl, _⟩ := h; rfl) | (obtain ⟨_, _, rfl, _⟩ := h; rfl) | (obtain ⟨_, _, _, rfl, _⟩ := h; rfl) | (obtain ⟨_, _, _, _, rfl, _⟩ := h; rfl) | (obtain ⟨_, _, _, _, _, rfl, _⟩ := h; rfl) | (obtain ⟨_, _, _, _, _, _, rfl, _⟩ := h; rfl) | (obtain ⟨_, _, _, _, _, _, _, rfl, _⟩ := h; rfl) | (obtain ⟨_, _, _, _, _, _, _, _, rfl, _⟩ := h; rfl) | (obtain ⟨_, _, _, _, _, _, _, _, _, rfl, _⟩ := h; rfl) | (obtain ⟨_, _, _, _, _, _, _, _, _, _, rfl, _⟩ := h; rfl) | (obtain ⟨_, _, _, _, _, _, _, _, _, _, _, rfl, _⟩ := h; rfl) | (obtain ⟨_, _, _, _, _, _, _, _, _, _, _, _, rfl, _⟩ := h; rfl) | (obtain ⟨_, _, _, _, _, _, _, _, _, _, _, _, _, rfl, _⟩ := h; rfl) | (obtain ⟨_, _, _, _, _, _, _, _, _, _, _, _, _, _, rfl, _⟩ := h; rfl) | (obtain ⟨_, _, _, _, _, _, _, _, _, _, _, _, _, _, _, rfl, _⟩ := h; rfl) | (obtain ⟨_, _, _, _, _, _, _, _, _, _, _, _, _, _, _, _, rfl, _⟩ := h; rfl) | (obtain ⟨_, _, _, _, _, _, _, _, _, _, _, _, _, _, _, _, _, rfl, _⟩ := h; rfl)) (ok_ison T)
  have C_l_is_look := D_l_is_look.cal (P := P) (w := w) (base := base) (sp := spLIsLook K) sc_l_is_look (fun vs H Q E h => by first | (rcases h with ⟨_, _, _, _, rfl, _⟩ | ⟨_, _, _, _, rfl, _⟩ <;> rfl) | (obtain ⟨rfl, _⟩ := h; rfl) | (obtain ⟨_, rfl, _⟩ := h; rfl) | (obtain ⟨_, _, rfl, _⟩ := h; rfl) | (obtain ⟨_, _, _, rfl, _⟩ := h; rfl) | (obtain ⟨_, _, _, _, rfl, _⟩ := h; rfl) | (obtain ⟨_, _, _, _, _, rfl, _⟩ := h; rfl) | (obtain ⟨_, _, _, _, _, _, rfl, _⟩ := h; rfl) | (obtain ⟨_, _, _, _, _, _, _, rfl, _⟩ := h; rfl) | (obtain ⟨_, _, _, _, _, _, _, _, rfl, _⟩ := h; rfl) | (obtain ⟨_, _, _, _, _, _, _, _, _, rfl, _⟩ := h; rfl) | (obtain ⟨_, _, _, _, _, _, _, _, _, _, rfl, _⟩ := h; rfl) | (obtain ⟨_, _, _, _, _, _, _, _, _, _, _, rfl, _⟩ := h; rfl) | (obtain ⟨_, _, _, _, _, _, _, _, _, _, _, _, rfl, _⟩ := h; rfl) | (obtain ⟨_, _, _, _, _, _, _, _, _, _, _, _, _, rfl, _⟩ := h; rfl) | (obtain ⟨_, _, _, _, _, _, _, _, _, _, _, _, _, _, rfl, _⟩ := h; rfl) | (obtain ⟨_, _, _, _, _, _, _, _, _, _, _, _, _, _, _, rfl, _⟩ := h; rfl) | (obtain ⟨_, _, _, _, _, _, _, _, _, _, _, _, _, _, _, _, rfl, _⟩ := h; rfl) | (obtain ⟨_, _, _, _, _, _, _, _, _, _, _, _, _, _, _, _, _, rfl, _⟩ := h; rfl)) (ok_lIsLook T C_l_is_on)
  have C_l_odd := D_l_odd.cal (P := P) (w := w) (base := base) (sp := spOdd K) sc_l_odd (fun vs H Q E h => by first | (rcases h with ⟨_, _, _, _, rfl, _⟩ | ⟨_, _, _, _, rfl, _⟩ <;> rfl) | (obtain ⟨rfl, _⟩ := h; rfl) | (obtain ⟨_, rfl, _⟩ := h; rfl) | (obtain ⟨_, _, rfl, _⟩ := h; rfl) | (obtain ⟨_, _, _, rfl, _⟩ := h; rfl) | (obtain ⟨_, _, _, _, rfl, _⟩ := h; rfl) | (obtain ⟨_, _, _, _, _, rfl, _⟩ := h; rfl) | (obtain ⟨_, _, _, _, _, _, rfl, _⟩ := h; rfl) | (obtain ⟨_, _, _, _, _, _, _, rfl, _⟩ := h; rfl) | (obtain ⟨_, _, _, _, _, _, _, _, rfl, _⟩ := h; rfl) | (obtain ⟨_, _, _, _, _, _, _, _, _, rfl, _⟩ := h; rfl) | (obtain ⟨_, _, _, _, _, _, _, _, _, _, rfl, _⟩ := h; rfl) | (obtain ⟨_, _, _, _, _, _, _, _, _, _, _, rfl, _⟩ := h; rfl) | (obtain ⟨_, _, _, _, _, _, _, _, _, _, _, _, rfl, _⟩ := h; rfl) | (obtain ⟨_, _, _, _, _, _, _, _, _, _, _, _, _, rfl, _⟩ := h; rfl) | (obtain ⟨_, _, _, _, _, _, _, _, _, _, _, _, _, _, rfl, _⟩ := h; rfl) | (obtain ⟨_, _, _, _, _, _, _, _, _, _, _, _, _, _, _, rfl, _⟩ := h; rfl) | (obtain ⟨_, _, _, _, _, _, _, _, _, _, _, _, _, _, _, _, rfl, _⟩ := h; rfl) | (obtain ⟨_, _, _, _, _, _, _, _, _, _, _, _, _, _, _, _, _, rfl, _⟩ := h; rfl)) (ok_odd T C_l_of)
  have C_l_number := D_l_number.cal (P := P) (w := w) (base := base) (sp := spNumR K) sc_l_number (fun vs H Q E h => by first | (rcases h with ⟨_, _, _, _, rfl, _⟩ | ⟨_, _, _, _, rfl, _⟩ <;> rfl) | (obtain ⟨rfl, _⟩ := h; rfl) | (obtain ⟨_, rfl, _⟩ := h; rfl) | (obtain ⟨_, _, rfl, _⟩ := h; rfl) | (obtain ⟨_, _, _, rfl, _⟩ := h; rfl) | (obtain ⟨_, _, _, _, rfl, _⟩ := h; rfl) | (obtain ⟨_, _, _, _, _, rfl, _⟩ := h; rfl) | (obtain ⟨_, _, _, _, _, _, rfl, _⟩ := h; rfl) | (obtain ⟨_, _, _, _, _, _, _, rfl, _⟩ := h; rfl) | (obtain ⟨_, _, _, _, _, _, _, _, rfl, _⟩ := h; rfl) | (obtain ⟨_, _, _, _, _, _, _, _, _, rfl, _⟩ := h; rfl) | (obtain ⟨_, _, _, _, _, _, _, _, _, _, rfl, _⟩ := h; rfl) | (obtain ⟨_, _, _, _, _, _, _, _, _, _, _, rfl, _⟩ := h; rfl) | (obtain ⟨_, _, _, _, _, _, _, _, _, _, _, _, rfl, _⟩ := h; rfl) | (obtain ⟨_, _, _, _, _, _, _, _, _, _, _, _, _, rfl, _⟩ := h; rfl) | (obtain ⟨_, _, _, _, _, _, _, _, _, _, _, _, _, _, rfl, _⟩ := h; rfl) | (obtain ⟨_, _, _, _, _, _, _, _, _, _, _, _, _, _, _, rfl, _⟩ := h; rfl) | (obtain ⟨_, _, _, _, _, _, _, _, _, _, _, _, _, _, _, _, rfl, _⟩ := h; rfl) | (obtain ⟨_, _, _, _, _, _, _, _, _, _, _, _, _, _, _, _, _, rfl, _⟩ := h; rfl)) (ok_numR T C_l_of C_l_odd)
  have C_l_bent := D_l_bent.cal (P := P) (w := w) (base := base) (sp := spBent K) sc_l_bent (fun vs H Q E h => by first | (rcases h with ⟨_, _, _, _, rfl, _⟩ | ⟨_, _, _, _, rfl, _⟩ <;> rfl) | (obtain ⟨rfl, _⟩ := h; rfl) | (obtain ⟨_, rfl, _⟩ := h; rfl) | (obtain ⟨_, _, rfl, _⟩ := h; rfl) | (obtain ⟨_, _, _, rfl, _⟩ := h; rfl) | (obtain ⟨_, _, _, _, rfl, _⟩ := h; rfl) | (obtain ⟨_, _, _, _, _, rfl, _⟩ := h; rfl) | (obtain ⟨_, _, _, _, _, _, rfl, _⟩ := h; rfl) | (obtain ⟨_, _, _, _, _, _, _, rfl, _⟩ := h; rfl) | (obtain ⟨_, _, _, _, _, _, _, _, rfl, _⟩ := h; rfl) | (obtain ⟨_, _, _, _, _, _, _, _, _, rfl, _⟩ := h; rfl) | (obtain ⟨_, _, _, _, _, _, _, _, _, _, rfl, _⟩ := h; rfl) | (obtain ⟨_, _, _, _, _, _, _, _, _, _, _, rfl, _⟩ := h; rfl) | (obtain ⟨_, _, _, _, _, _, _, _, _, _, _, _, rfl, _⟩ := h; rfl) | (obtain ⟨_, _, _, _, _, _, _, _, _, _, _, _, _, rfl, _⟩ := h; rfl) | (obtain ⟨_, _, _, _, _, _, _, _, _, _, _, _, _, _, rfl, _⟩ := h; rfl) | (obtain ⟨_, _, _, _, _, _, _, _, _, _, _, _, _, _, _, rfl, _⟩ := h; rfl) | (obtain ⟨_, _, _, _, _, _, _, _, _, _, _, _, _, _, _, _, rfl, _⟩ := h; rfl) | (obtain ⟨_, _, _, _, _, _, _, _, _, _, _, _, _, _, _, _, _, rfl, _⟩ := h; rfl)) (ok_bent T C_l_take C_l_of C_l_odd C_l_number)
  have C_l_told := D_l_told.cal (P := P) (w := w) (base := base) (sp := spIsLook K) sc_l_told (fun vs H Q E h => by first | (rcases h with ⟨_, _, _, _, rfl, _⟩ | ⟨_, _, _, _, rfl, _⟩ <;> rfl) | (obtain ⟨rfl, _⟩ := h; rfl) | (obtain ⟨_, rfl, _⟩ := h; rfl) | (obtain ⟨_, _, rfl, _⟩ := h; rfl) | (obtain ⟨_, _, _, rfl, _⟩ := h; rfl) | (obtain ⟨_, _, _, _, rfl, _⟩ := h; rfl) | (obtain ⟨_, _, _, _, _, rfl, _⟩ := h; rfl) | (obtain ⟨_, _, _, _, _, _, rfl, _⟩ := h; rfl) | (obtain ⟨_, _, _, _, _, _, _, rfl, _⟩ := h; rfl) | (obtain ⟨_, _, _, _, _, _, _, _, rfl, _⟩ := h; rfl) | (obtain ⟨_, _, _, _, _, _, _, _, _, rfl, _⟩ := h; rfl) | (obtain ⟨_, _, _, _, _, _, _, _, _, _, rfl, _⟩ := h; rfl) | (obtain ⟨_, _, _, _, _, _, _, _, _, _, _, rfl, _⟩ := h; rfl) | (obtain ⟨_, _, _, _, _, _, _, _, _, _, _, _, rfl, _⟩ := h; rfl) | (obtain ⟨_, _, _, _, _, _, _, _, _, _, _, _, _, rfl, _⟩ := h; rfl) | (obtain ⟨_, _, _, _, _, _, _, _, _, _, _, _, _, _, rfl, _⟩ := h; rfl) | (obtain ⟨_, _, _, _, _, _, _, _, _, _, _, _, _, _, _, rfl, _⟩ := h; rfl) | (obtain ⟨_, _, _, _, _, _, _, _, _, _, _, _, _, _, _, _, rfl, _⟩ := h; rfl) | (obtain ⟨_, _, _, _, _, _, _, _, _, _, _, _, _, _, _, _, _, rfl, _⟩ := h; rfl)) (ok_told7 T K_is_look C_is_look)
  refine fnat_of (CX := CX0) F sc_law (fun vs H Q E h => by first | (rcases h with ⟨_, _, _, _, rfl, _⟩ | ⟨_, _, _, _, rfl, _⟩ <;> rfl) | (obtain ⟨rfl, _⟩ := h; rfl) | (obtain ⟨_, rfl, _⟩ := h; rfl) | (obtain ⟨_, _, rfl, _⟩ := h; rfl) | (obtain ⟨_, _, _, rfl, _⟩ := h; rfl) | (obtain ⟨_, _, _, _, rfl, _⟩ := h; rfl) | (obtain ⟨_, _, _, _, _, rfl, _⟩ := h; rfl) | (obtain ⟨_, _, _, _, _, _, rfl, _⟩ := h; rfl) | (obtain ⟨_, _, _, _, _, _, _, rfl, _⟩ := h; rfl) | (obtain ⟨_, _, _, _, _, _, _, _, rfl, _⟩ := h; rfl) | (obtain ⟨_, _, _, _, _, _, _, _, _, rfl, _⟩ := h; rfl) | (obtain ⟨_, _, _, _, _, _, _, _, _, _, rfl, _⟩ := h; rfl) | (obtain ⟨_, _, _, _, _, _, _, _, _, _, _, rfl, _⟩ := h; rfl) | (obtain ⟨_, _, _, _, _, _, _, _, _, _, _, _, rfl, _⟩ := h; rfl) | (obtain ⟨_, _, _, _, _, _, _, _, _, _, _, _, _, rfl, _⟩ := h; rfl) | (obtain ⟨_, _, _, _, _, _, _, _, _, _, _, _, _, _, rfl, _⟩ := h; rfl) | (obtain ⟨_, _, _, _, _, _, _, _, _, _, _, _, _, _, _, rfl, _⟩ := h; rfl) | (obtain ⟨_, _, _, _, _, _, _, _, _, _, _, _, _, _, _, _, rfl, _⟩ := h; rfl) | (obtain ⟨_, _, _, _, _, _, _, _, _, _, _, _, _, _, _, _, _, rfl, _⟩ := h; rfl)) (fun cdv s H vs Q E hr h => ?_)
  obtain ⟨t, h1, h2⟩ := ok_law (P := P) (w := w) (base := base) T C_l_hand C_l_size C_l_look C_l_is_look C_l_bent C_l_told _ cdv s H vs Q E hr h
  exact ⟨t, h1.nox, h2⟩
end Rd
open PySem PySem.W PySem.Calls PyProof.Rows
theorem PySem.Challenge.cw_roundstore_k07_looks_of_anything_holds : PySem.Challenge.rw_roundstore_k07_looks_of_anything.Holds := by
  w_on; o_law
  refine HandSHeadRun.head_any (r := OpenLaw.row PySem.Challenge.rw_roundstore_k07_looks_of_anything) (q := view (OpenLaw.row PySem.Challenge.rw_roundstore_k07_looks_of_anything).prog [22]) (H := Rd.hk) (ob := Rd.ob) (M := 2000) (loose := ["is_whole", "is_number", "RING", "steps", "before", "is_look", "in_order", "_law_hand", "_law_take", "_law_of", "_law_size", "_law_look", "_law_is_on", "_law_is_look", "_law_odd", "_law_number", "_law_bent", "_law_told"]) (d := HandSHeadRun.topDef (OpenLaw.row PySem.Challenge.rw_roundstore_k07_looks_of_anything).prog 22) (kwd := []) Rd.ob_eq
    (by kernel_rfl) (fun s => by kernel_rfl) Rd.run (by kernel_rfl) (by kernel_rfl) (by kernel_rfl) (by rfl) (by first | assumption | decide +kernel) (by decide +kernel) ⟨rfl, rfl, rfl, rfl, rfl, by decide +kernel⟩ ?hw ?hc
  case hw => w_witness2
  case hc =>
    refine L2.walk_at (l := PySem.Challenge.rw_roundstore_k07_looks_of_anything) (n := 63) (k := 6) (x := "_law_script") rfl (by decide) (by kernel_rfl) ⟨rfl, by decide, by decide⟩ ?F
    intro w mg fa h Y G hmg0
    obtain ⟨K, KX, c⟩ := Y
    have hmg : mg ("law" : PySem.Str) = some (.ref fa) := by
      have e : (HandSHeadRun.topDef (OpenLaw.row PySem.Challenge.rw_roundstore_k07_looks_of_anything).prog 22).name = ("law" : PySem.Str) := by kernel_rfl
      rw [← e]
      exact hmg0
    obtain ⟨fd, hb, hF⟩ := Rd.facts (P := (PySem.Challenge.rw_roundstore_k07_looks_of_anything).prog) (w := w) KX G hmg c
    exact ⟨K, fd, Rd.spLaw K, KX, hb, fun H a ns hl _ hS => ⟨a, ns, rfl, hS, hl, fun _ => rfl⟩, hF⟩
