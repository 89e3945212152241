import PyProof.Rows.All
import Wide.All
import OpenK.AllK
import Wide.FinOn
import KE.KStateDown
import KE.KDictPairs
import KE.KDictZip
import HandS.Star
import HandS.ForMost
import HandS.More
import HandS.Conv
import HandS.Flow
import HandS.Style
import HandS.Steps
import HandS.Codes
import HandS.IsInst
import HandS.TupAny
import HandS.NoneIn
import HandS.RaiseMore
import HandS.SortInts
import HandS.Strs
import HandS.Wide
import HandS.WordsExc
import HandS.Defaults
import HandS.Head0
import HandS.Head1
import HandS.Head2
import HandS.HeadEnd
import HandS.HeadHook1
import HandS.HeadHook2
import PySem.Challenge.RW_roundstore_k12_freezing_keeps_looks
set_option Elab.async false
set_option linter.all false
set_option maxRecDepth 100000
set_option maxHeartbeats 8000000
/-! ### list(zip(xs, ys)) -/
namespace PySem.ZL
open PySem PySem.Calls PyProof.Rows PyProof.V PySem.Spec
theorem no_len : typeLookup (.type "zip") "__len__" = pure none := by rw [typeLookup_type, builtinLookup_eq_fast]; kernel_rfl
theorem no_hint : typeLookup (.type "zip") "__length_hint__" = pure none := by rw [typeLookup_type, builtinLookup_eq_fast]; kernel_rfl
def ZSt (h : Heap) (z TI TO i1 i2 l1 l2 S : Addr) (i : Nat) : Prop := PySem.IsPair h TI (.ref i1) (.ref i2) ∧ h.IsListIter i1 l1 i ∧ h.IsListIter i2 l2 i ∧ ((PySem.IsZip h z TI TO .none ∧ ∃ a b, PySem.IsPair h TO a b) ∨ ∃ T f oT, PySem.IsZipHeld h z TI TO T f ∧ h.get? T = some oT ∧ T ≠ z ∧ T ≠ i1 ∧ T ≠ i2 ∧ T ≠ S)
structure Gp (xs ys : Array Value) (lo : Addr) (h : Heap) (as : List Addr) : Prop where
  rise : as.Pairwise (· < ·)
  above : ∀ a ∈ as, lo < a
  pairs : ∀ (j : Nat) (a : Addr), as[j]? = some a → ∃ x y, xs[j]? = some x ∧ ys[j]? = some y ∧ PySem.IsPair h a x y
structure Below (S z TI TO i1 i2 l1 l2 : Addr) : Prop where
  z : z < S
  TI : TI < S
  TO : TO < S
  i1 : i1 < S
  i2 : i2 < S
  l1 : l1 < S
  l2 : l2 < S
theorem ZSt.keep {h h' : Heap} {z TI TO i1 i2 l1 l2 S : Addr} {i : Nat} (B : Below S z TI TO i1 i2 l1 l2) (x : ZSt h z TI TO i1 i2 l1 l2 S i) (hk : ∀ b o, b ≠ S → h.get? b = some o → h'.get? b = some o) : ZSt h' z TI TO i1 i2 l1 l2 S i := by
  obtain ⟨h1, h2, h3, h4⟩ := x
  refine ⟨hk _ _ (Nat.ne_of_lt B.TI) h1, h2.at fun o e => hk _ o (Nat.ne_of_lt B.i1) e, h3.at fun o e => hk _ o (Nat.ne_of_lt B.i2) e, ?_⟩
  rcases h4 with ⟨hz, a, b, ho⟩ | ⟨T, f, oT, hz, hT, n1, n2, n3, n4⟩
  · exact .inl ⟨hk _ _ (Nat.ne_of_lt B.z) hz, a, b, hk _ _ (Nat.ne_of_lt B.TO) ho⟩
  · exact .inr ⟨T, f, oT, hk _ _ (Nat.ne_of_lt B.z) hz, hk _ _ n4 hT, n1, n2, n3, n4⟩
section
variable {prog : Program} {w : World} {A : Around} {E : Value → Shared → Prop} {s : Shared} {z TI TO i1 i2 l1 l2 S : Addr} {i : Nat} {xs ys : Array Value}
theorem item {x y : Value} {Q : Option Value → Shared → Prop} (D : PySem.ZipApart z TI TO i1 i2 l1 l2) (B : Below S z TI TO i1 i2 l1 l2) (hst : ZSt s.heap z TI TO i1 i2 l1 l2 S i) (hS : S < s.heap.objs.size) (hl1 : s.heap.IsList l1 xs) (hl2 : s.heap.IsList l2 ys) (hx : xs[i]? = some x) (hy : ys[i]? = some y)
    (hQ : ∀ h', ZSt h' z TI TO i1 i2 l1 l2 S (i + 1) → PySem.IsPair h' s.heap.objs.size x y → h'.objs.size = s.heap.objs.size + 1 → (∀ c o, c ≠ z → c ≠ TO → c ≠ i1 → c ≠ i2 → s.heap.get? c = some o → h'.get? c = some o) → Q (some (.ref s.heap.objs.size)) { s with heap := h' }) :
    wpAny (model prog w) A (pyNext (.ref z)) Q E s := by
  obtain ⟨h1, h2, h3, h4⟩ := hst
  have bz := B.z
  have b1 := B.i1
  have b2 := B.i2
  rcases h4 with ⟨hz, a, b, ho⟩ | ⟨T, f, oT, hz, hT, n1, n2, n3, n4⟩
  · refine PySem.wpAny_pyNext_zip_item D hz h1 ho h2 h3 hl1 hl2 hx hy fun h' a1 a2 a3 a4 a5 a6 hk => hQ h' ⟨hk _ _ D.TIz D.TITO D.TIi1 D.TIi2 h1, a3, a4, .inr ⟨_, false, _, a1, a5, ?_, ?_, ?_, ?_⟩⟩ a5 a6 hk
    · exact Nat.ne_of_gt (Nat.lt_trans bz hS)
    · exact Nat.ne_of_gt (Nat.lt_trans b1 hS)
    · exact Nat.ne_of_gt (Nat.lt_trans b2 hS)
    · exact Nat.ne_of_gt hS
  · exact PySem.wpAny_pyNext_zip_item_held D hz hT h1 h2 h3 hl1 hl2 hx hy fun h' a1 a3 a4 a5 a6 hk => hQ h' ⟨hk _ _ D.TIz D.TIi1 D.TIi2 h1, a3, a4, .inr ⟨T, true, oT, a1, hk _ _ n1 n2 n3 hT, n1, n2, n3, n4⟩⟩ a5 a6 fun c o c1 _ c3 c4 e => hk c o c1 c3 c4 e
theorem done {Q : Option Value → Shared → Prop} (hh : A.handled = none) (D : PySem.ZipApart z TI TO i1 i2 l1 l2) (hst : ZSt s.heap z TI TO i1 i2 l1 l2 S i) (hl1 : s.heap.IsList l1 xs) (hl2 : s.heap.IsList l2 ys) (hend : xs[i]? = none ∨ ys[i]? = none)
    (hQ : ∀ h', (∀ c o, c ≠ z → c ≠ TO → c ≠ i1 → c ≠ i2 → s.heap.get? c = some o → h'.get? c = some o) → Q none { s with heap := h' }) : wpAny (model prog w) A (pyNext (.ref z)) Q E s := by
  obtain ⟨h1, h2, h3, h4⟩ := hst
  rcases h4 with ⟨hz, a, b, ho⟩ | ⟨T, f, oT, hz, hT, _⟩
  · exact PySem.wpAny_pyNext_zip_end hh D hz h1 ho h2 h3 hl1 hl2 hend hQ
  · exact PySem.wpAny_pyNext_zip_end_held hh D hz hT h1 h2 h3 hl1 hl2 hend fun h' hk => hQ h' fun c o c1 _ c3 c4 e => hk c o c1 c3 c4 e
end
section
variable {prog : Program} {w : World} {A : Around} {s : Shared} {R : Result → Shared → Prop} {z TI TO i1 i2 l1 l2 S : Addr} {xs ys : Array Value} {n : Nat}
theorem loop (hn0 : n = min xs.size ys.size) (D : PySem.ZipApart z TI TO i1 i2 l1 l2) (B : Below S z TI TO i1 i2 l1 l2) (hh : A.handled = none) (hn : n ≤ sizeLine) (res : Value) {h₁ : Heap}
    (hR : ∀ h' tk acc c as, (∀ b o, b ≠ S → b ≠ z → b ≠ TO → b ≠ i1 → b ≠ i2 → h₁.get? b = some o → h'.get? b = some o) → h'.get? S = some { cls := .type "list", dict := none, data := .seq acc c, slots := #[] } → as.length = n → Gp xs ys S h' as →
      acc.toList = as.map Value.ref → R (.ok (.ret res)) { s with heap := h', toks := tk }) :
    ∀ (k i : Nat) (h : Heap) (tk c : Nat) (acc : Array Value) (as : List Addr), n - i = k → i ≤ n → ZSt h z TI TO i1 i2 l1 l2 S i → h.IsList l1 xs → h.IsList l2 ys → (∀ b o, b ≠ S → b ≠ z → b ≠ TO → b ≠ i1 → b ≠ i2 → h₁.get? b = some o → h.get? b = some o) →
      h.get? S = some { cls := .type "list", dict := none, data := .seq acc c, slots := #[] } → acc.toList = as.map Value.ref → as.length = i → Gp xs ys S h as →
      codeAny (model prog w) A (.builtin "list.extend.loop" ⟨[.ref S, .ref z, res], []⟩) R { s with heap := h, toks := tk } := by
  have nz := Nat.ne_of_gt B.z
  have nTO := Nat.ne_of_gt B.TO
  have n1 := Nat.ne_of_gt B.i1
  have n2 := Nat.ne_of_gt B.i2
  intro k
  induction k with
  | zero =>
    intro i h tk c acc as hk hi hst hl1 hl2 hkeep hS hacc hal hG
    have hin : i = n := by omega
    refine codeAny_builtin PySem.F.entry_extend_loop ?_
    rw [Around.under_plainId PySem.F.plain_extend_loop _]
    show wpAny _ A.in1 (pyNext (.ref z) >>= _) _ _ _
    have hend : xs[i]? = none ∨ ys[i]? = none := by
      rcases Nat.le_total xs.size ys.size with c1 | c1
      · exact .inl (Array.getElem?_eq_none (by omega))
      · exact .inr (Array.getElem?_eq_none (by omega))
    refine wpAny_bind (done (s := { s with heap := h, toks := tk }) (A := A.in1) hh D hst hl1 hl2 hend fun h' he => ?_)
    refine wpAny_pure (hR h' tk acc c as (fun b o c0 c1 c2 c3 c4 e => he b o c1 c2 c3 c4 (hkeep b o c0 c1 c2 c3 c4 e)) (he S _ nz nTO n1 n2 hS) (by omega) ⟨hG.rise, hG.above, fun j a hj => ?_⟩ hacc)
    obtain ⟨x, y, e1, e2, e3⟩ := hG.pairs j a hj
    have ha := hG.above a (List.mem_of_getElem? hj)
    exact ⟨x, y, e1, e2, he a _ (Nat.ne_of_gt (Nat.lt_trans B.z ha)) (Nat.ne_of_gt (Nat.lt_trans B.TO ha)) (Nat.ne_of_gt (Nat.lt_trans B.i1 ha)) (Nat.ne_of_gt (Nat.lt_trans B.i2 ha)) e3⟩
  | succ k ih =>
    intro i h tk c acc as hk hi hst hl1 hl2 hkeep hS hacc hal hG
    have hlt : i < n := by omega
    have hx1 : i < xs.size := by omega
    have hy1 : i < ys.size := by omega
    have hsz : acc.size = i := by rw [← Array.length_toList, hacc, List.length_map, hal]
    have hSl : S < h.objs.size := Heap.lt_size hS
    refine codeAny_builtin PySem.F.entry_extend_loop ?_
    rw [Around.under_plainId PySem.F.plain_extend_loop _]
    show wpAny _ A.in1 (pyNext (.ref z) >>= _) _ _ _
    refine wpAny_bind (item (s := { s with heap := h, toks := tk }) (S := S) D B hst hSl hl1 hl2 (Array.getElem?_eq_getElem hx1) (Array.getElem?_eq_getElem hy1) fun h' hst' ht hz hkp => ?_)
    dsimp only at ht hz hkp ⊢
    have hS' := hkp S _ nz nTO n1 n2 hS
    have up : ∀ b o, b ≠ S → h'.get? b = some o → (h'.update S (Obj.mapSeq (·.push (Value.ref h.objs.size)))).get? b = some o := fun b o hb e => (Heap.get?_update_other _ _ (Ne.symm hb)).trans e
    show wpAny _ A.in1 (updateSeq S (·.push (Value.ref h.objs.size)) >>= _) _ _ _
    refine wpAny_bind ?_
    refine wpAny_updateSeq hS' rfl (wpAny_pure ⟨plainId_quiet PySem.F.plain_extend_loop _, ih (i + 1) _ tk _ (acc.push (Value.ref h.objs.size)) (as ++ [h.objs.size]) (by omega) hlt (hst'.keep B up)
      (hl1.at fun o e => up _ o (Nat.ne_of_lt B.l1) (hkp _ o D.l1z D.l1TO D.l1i1 D.l1i2 e)) (hl2.at fun o e => up _ o (Nat.ne_of_lt B.l2) (hkp _ o D.l2z D.l2TO D.l2i1 D.l2i2 e))
      (fun b o c0 c1 c2 c3 c4 e => up b o c0 (hkp b o c1 c2 c3 c4 (hkeep b o c0 c1 c2 c3 c4 e))) (Heap.get?_update_self _ hS' rfl) (by rw [Array.toList_push, hacc, List.map_append]; rfl) (by rw [List.length_append, hal]; rfl) ⟨?_, ?_, ?_⟩⟩) (by rw [hsz]; omega) (by show (acc.push (Value.ref h.objs.size)).size ≤ sizeLine + 1; rw [Array.size_push, hsz]; omega)
    · refine List.pairwise_append.mpr ⟨hG.rise, List.pairwise_singleton _ _, fun a ha b hb => ?_⟩
      rw [List.mem_singleton.mp hb]
      obtain ⟨j, hj⟩ := List.mem_iff_getElem?.mp ha
      obtain ⟨_, _, _, _, e⟩ := hG.pairs j a hj
      exact Heap.lt_size e
    · intro a ha
      rcases List.mem_append.mp ha with ha | ha
      · exact hG.above a ha
      · rw [List.mem_singleton.mp ha]; exact hSl
    · intro j b hj
      rcases Nat.lt_trichotomy j as.length with c1 | c1 | c1
      · rw [List.getElem?_append_left c1] at hj
        obtain ⟨x', y', e1, e2, e3⟩ := hG.pairs j b hj
        have hb := hG.above b (List.mem_of_getElem? hj)
        exact ⟨x', y', e1, e2, up b _ (Nat.ne_of_gt hb) (hkp b _ (Nat.ne_of_gt (Nat.lt_trans B.z hb)) (Nat.ne_of_gt (Nat.lt_trans B.TO hb)) (Nat.ne_of_gt (Nat.lt_trans B.i1 hb)) (Nat.ne_of_gt (Nat.lt_trans B.i2 hb)) e3)⟩
      · subst c1
        have hb : h.objs.size = b := by simpa using hj
        subst hb
        exact ⟨xs[i], ys[i], by rw [hal]; exact Array.getElem?_eq_getElem hx1, by rw [hal]; exact Array.getElem?_eq_getElem hy1, up _ _ (Nat.ne_of_gt hSl) ht⟩
      · have hnone : (as ++ [h.objs.size])[j]? = none := List.getElem?_eq_none (by rw [List.length_append, List.length_singleton]; omega)
        rw [hnone] at hj; cases hj
end
section
variable {prog : Program} {w : World} {A : Around} {E : Value → Shared → Prop} {s : Shared} {z TI TO i1 i2 l1 l2 S : Addr} {xs ys : Array Value} {n : Nat}
theorem extend {R : Result → Shared → Prop} (hn0 : n = min xs.size ys.size) (D : PySem.ZipApart z TI TO i1 i2 l1 l2) (B : Below S z TI TO i1 i2 l1 l2) (hh : A.handled = none) (hn : n ≤ sizeLine) (hz : PySem.IsZip s.heap z TI TO .none) (hst : ZSt s.heap z TI TO i1 i2 l1 l2 S 0) (hl1 : s.heap.IsList l1 xs) (hl2 : s.heap.IsList l2 ys) (res : Value) (c₀ : Nat)
    (hS : s.heap.get? S = some { cls := .type "list", data := .seq #[] c₀ })
    (hR : ∀ h' tk acc c as, (∀ b o, b ≠ S → b ≠ z → b ≠ TO → b ≠ i1 → b ≠ i2 → s.heap.get? b = some o → h'.get? b = some o) → h'.get? S = some { cls := .type "list", dict := none, data := .seq acc c, slots := #[] } → as.length = n → Gp xs ys S h' as →
      acc.toList = as.map Value.ref → R (.ok (.ret res)) { s with heap := h', toks := tk }) :
    wpAny (model prog w) A.in1 (Builtin.List.listExtendWith (.ref S) (.ref z) res)
      (fun fin s' => match fin with | .done f => R (.ok f) s' | .again c' => c'.quiet = true ∧ codeAny (model prog w) A c' R s') (fun e s' => R (.error e) s') s := by
  have hT : s.TypeIs (.ref z) "zip" := ⟨_, hz, rfl⟩
  unfold Builtin.List.listExtendWith
  refine wpAny_bind (wpAny_typeOf hT ?_)
  have h1 : Builtin.List.listSameRef (.ref S) (.ref z) = false := by simp [Builtin.List.listSameRef, Nat.ne_of_gt B.z]
  have h2 : (Value.type "zip" == Value.type "list") = false := by decide
  have h3 : (Value.type "zip" == Value.type "tuple") = false := by decide
  simp only [h1, h2, h3, Bool.or_false, Bool.false_eq_true, if_false]
  refine wpAny_bind (PySem.wpAny_pyIter_zip hz ?_)
  refine wpAny_bind (wpAny_holding ?_)
  unfold Builtin.List.listLengthHint
  refine wpAny_bind (wpAny_specialOf hT no_len ?_)
  show wpAny _ A.in1 (specialOf (Value.ref z) (Str.ofString "__length_hint__") >>= _) _ _ _
  refine wpAny_bind (wpAny_specialOf hT no_hint ?_)
  refine wpAny_pure ?_
  show wpAny _ A.in1 (rule "list.extend.makes-room" >>= fun _ => Builtin.List.listTouch (.ref S) >>= fun _ =>
    again (.builtin "list.extend.loop" ⟨[.ref S, .ref z, res], []⟩)) _ _ _
  refine wpAny_bind (wpAny_rule ?_)
  refine wpAny_bind ?_
  show wpAny _ A.in1 (updateSeq S (·.push .none) >>= fun _ => updateSeq S (·.pop)) _ _ _
  refine wpAny_bind (wpAny_updateSeq hS rfl ?_)
  have hS₂ := Heap.get?_update_self (Obj.mapSeq (·.push Value.none)) hS rfl
  refine wpAny_updateSeq (hz := by seq_fits) hS₂ rfl ?_
  have hS₃ := Heap.get?_update_self (Obj.mapSeq (·.pop)) hS₂ rfl
  have oth : ∀ b o, b ≠ S → s.heap.get? b = some o → ((s.heap.update S (Obj.mapSeq (·.push Value.none))).update S (Obj.mapSeq (·.pop))).get? b = some o :=
    fun b o hb e => (Heap.get?_update_other _ _ (Ne.symm hb)).trans ((Heap.get?_update_other _ _ (Ne.symm hb)).trans e)
  refine wpAny_pure ⟨plainId_quiet PySem.F.plain_extend_loop _, ?_⟩
  exact loop (s := s) (h₁ := s.heap) hn0 D B hh hn res hR n 0 _ s.toks _ #[] [] (Nat.sub_zero _) (Nat.zero_le _) (hst.keep B oth) (hl1.at fun o e => oth _ o (Nat.ne_of_lt B.l1) e) (hl2.at fun o e => oth _ o (Nat.ne_of_lt B.l2) e)
    (fun b o c0 _ _ _ _ e => oth b o c0 e) hS₃ rfl rfl ⟨List.Pairwise.nil, (fun a ha => by cases ha), fun j a hj => by simp at hj⟩
theorem call_ {Q : Value → Shared → Prop} (hn0 : n = min xs.size ys.size) (D : PySem.ZipApart z TI TO i1 i2 l1 l2) (hh : A.handled = none) (hn : n ≤ sizeLine) (hz : PySem.IsZip s.heap z TI TO .none) (hTI : PySem.IsPair s.heap TI (.ref i1) (.ref i2)) {a0 b0 : Value} (hTO : PySem.IsPair s.heap TO a0 b0) (hi1 : s.heap.IsListIter i1 l1 0) (hi2 : s.heap.IsListIter i2 l2 0) (hl1 : s.heap.IsList l1 xs) (hl2 : s.heap.IsList l2 ys)
    (hQ : ∀ h' tk acc c as, (∀ b o, b ≠ z → b ≠ TO → b ≠ i1 → b ≠ i2 → s.heap.get? b = some o → h'.get? b = some o) → h'.get? s.heap.objs.size = some { cls := .type "list", dict := none, data := .seq acc c, slots := #[] } → as.length = n → Gp xs ys s.heap.objs.size h' as →
      acc.toList = as.map Value.ref → Q (.ref s.heap.objs.size) { s with heap := h', toks := tk }) :
    wpAny (model prog w) A (call (.type "list") [.ref z]) Q E s := by
  have B : Below s.heap.objs.size z TI TO i1 i2 l1 l2 := ⟨Heap.lt_size hz, Heap.lt_size hTI, Heap.lt_size hTO, (let ⟨_, e, _⟩ := hi1; Heap.lt_size e), (let ⟨_, e, _⟩ := hi2; Heap.lt_size e), (let ⟨_, e, _⟩ := hl1; Heap.lt_size e), (let ⟨_, e, _⟩ := hl2; Heap.lt_size e)⟩
  refine callType_codes (Q₁ := fun obj s₁ => obj = .ref s.heap.objs.size ∧ s₁ = { s with heap := s.heap.push { cls := .type "list", data := .seq #[] } }) PySem.F.called_list (PySem.F.typeCall_list_1 _) PySem.F.entry_list_init
    (code_list_new _ ⟨rfl, rfl⟩) fun obj s₁ h₁ => ?_
  obtain ⟨rfl, rfl⟩ := h₁
  have hS : (s.heap.push { cls := .type "list", data := .seq #[] }).get? s.heap.objs.size = some { cls := .type "list", data := .seq #[] } := Heap.get?_push_size _ rfl
  refine ⟨⟨_, hS, rfl⟩, PySem.F.args_list_init_2 _ _, ?_⟩
  show wpAny _ _ (do let old ← Builtin.List.listItems (.ref s.heap.objs.size); Builtin.List.listUpdate (.ref s.heap.objs.size) (fun _ => #[]); letGo old.toList.reverse; Builtin.List.listExtendWith (.ref s.heap.objs.size) (.ref z) .none) _ _ _
  refine wpAny_bind ?_
  unfold Builtin.List.listItems
  refine wpAny_bind (wpAny_seqItems hS rfl (wpAny_pure ?_))
  show wpAny _ _ (updateSeq s.heap.objs.size (fun _ => #[]) >>= fun _ => letGo (#[] : Array Value).toList.reverse >>= fun _ => Builtin.List.listExtendWith (.ref s.heap.objs.size) (.ref z) .none) _ _ _
  refine wpAny_bind (wpAny_updateSeq hS rfl ?_)
  have hS₂ := Heap.get?_update_self (Obj.mapSeq (fun _ => (#[] : Array Value))) hS rfl
  have oth : ∀ b o, s.heap.get? b = some o → ((s.heap.push { cls := .type "list", data := .seq #[] }).update s.heap.objs.size (Obj.mapSeq (fun _ => (#[] : Array Value)))).get? b = some o :=
    fun b o e => (Heap.get?_update_other _ _ (Nat.ne_of_gt (Heap.lt_size e))).trans (Heap.get?_push_of_some _ e)
  refine wpAny_bind (wpAny_letGo ?_)
  refine extend (A := A.in1) hn0 D B hh hn (oth _ _ hz) ⟨oth _ _ hTI, hi1.at fun o e => oth _ o e, hi2.at fun o e => oth _ o e, .inl ⟨oth _ _ hz, _, _, oth _ _ hTO⟩⟩ (hl1.at fun o e => oth _ o e) (hl2.at fun o e => oth _ o e) .none _ hS₂ fun h' tk acc c as hk hS' hl hG hacc => ?_
  exact ⟨rfl, hQ h' tk acc c as (fun b o c1 c2 c3 c4 e => hk b o (Nat.ne_of_lt (Heap.lt_size e)) c1 c2 c3 c4 (oth b o e)) hS' hl hG hacc⟩
end
end PySem.ZL
namespace L2
open PySem PySem.Spec PyProof.Rows
/-- several new objects laid and tracked at once -/
def mrg (F H : Hp) : Hp := fun b => match F b with
  | some o => some o
  | none => H b
theorem mrg_new {F H : Hp} {b : Addr} {o : HO} (h : F b = some o) : mrg F H b = some o := by
  unfold mrg
  rw [h]
theorem mrg_old {F H : Hp} {b : Addr} (h : F b = none) : mrg F H b = H b := by
  unfold mrg
  rw [h]
theorem Inv.laids {X : Cx} {pins : List (Addr × Obj)} {σ : St} {H : Hp} {s : Shared} {h' : Heap} {t' : Nat} {F : Hp} (I : Inv X pins σ H s) (k : ∀ b u, s.heap.get? b = some u → h'.get? b = some u) (hp : ∀ b o, F b = some o → s.heap.objs.size ≤ b) (new : ∀ b o, F b = some o → ObjOk X.prog X.w (mrg F H) h' b o) :
    Inv X pins σ (mrg F H) { s with heap := h', toks := t' } := by
  have fr : ∀ c o, H c = some o → F c = none := fun c o e => by
    cases q : F c with
    | none => rfl
    | some u =>
      rw [I.hok.fresh (hp c u q)] at e
      cases e
  have st : ∀ c o, H c = some o → mrg F H c = some o := fun c o e => (mrg_old (fr c o e)).trans e
  refine I.un ⟨fun b u q _ _ _ => k b u q, fun b u q _ _ _ => ⟨u.slots, k b u q⟩, fun b u q n _ => ?_, fun b u q _ => ⟨u, k b u q⟩, fun b xs q => st _ _ q, fun b u xs q => st _ _ q, fun b ps q => ⟨#[], by rw [st _ _ q]; simp⟩⟩ fun b u e => ?_
  · cases z : F b with
    | none => rw [mrg_old z]; exact n
    | some o => exact absurd (Heap.lt_size q) (Nat.not_lt.mpr (hp b o z))
  · cases z : F b with
    | some o =>
      rw [mrg_new z] at e
      cases e
      exact new b _ z
    | none =>
      rw [mrg_old z] at e
      exact (I.hok b u e).stay (fun c v _ q => k c v q) (fun c q => st _ _ q) fun c xs q => st _ _ q
theorem find_nodup {β : Type} : ∀ (l : List (Addr × β)), (l.map (·.1)).Nodup → ∀ q ∈ l, l.find? (fun r => decide (r.1 = q.1)) = some q
  | [], _, q, h => by cases h
  | r :: l, hn, q, h => by
    rw [List.map_cons, List.nodup_cons] at hn
    rcases List.mem_cons.mp h with e | e
    · subst e
      exact List.find?_cons_of_pos (by simp)
    · rw [List.find?_cons_of_neg, find_nodup l hn.2 q e]
      intro z
      have z2 : r.1 = q.1 := by simpa using z
      exact hn.1 (z2 ▸ List.mem_map_of_mem e)
theorem paired_of {α β : Type} {R : α → β → Prop} : ∀ {as : List α} {bs : List β}, as.length = bs.length → (∀ (j : Nat) (a : α) (b : β), as[j]? = some a → bs[j]? = some b → R a b) → Paired R as bs
  | [], [], _, _ => .nil
  | [], _ :: _, l, _ => by cases l
  | _ :: _, [], l, _ => by cases l
  | a :: as, b :: bs, l, h => .cons (h 0 a b rfl rfl) (paired_of (Nat.succ.inj l) fun j x y e1 e2 => h (j + 1) x y (by simpa using e1) (by simpa using e2))
section
variable {X : Cx} {e e2 : Expr} {ta : TA} {p p1 pos pos1 : Pos}
/-- list(zip(xs, ys)), two lists -/
def tLstZip (K : PySem.W.Frag) (ta : TA) : TE := fun σ H Q => ta σ H fun vs H1 => ∃ a b xs ys, vs = [.ref a, .ref b] ∧ SqL K H1 a xs ∧ SqL K H1 b ys ∧
  ∀ (L : Addr) (ps : List Addr) (H2 : Hp), Same H1 H2 → H1 L = none → H2 L = some (.lst (ps.map V.ref)) → Paired (fun q (r : V × V) => H2 q = some (.tup [r.1, r.2])) ps (xs.zip ys) → Q (.ref L) H2
theorem pe_listZip (hc : X.calm = true) (hgl : Gl X "list") (hml : X.mg "list" = none) (hgz : Gl X "zip") (hmz : X.mg "zip" = none) (ha : PA X [e, e2] ta)
    (hs : starEach [e, e2] X.env = (false, eval e X.env) :: starEach [e2] X.env := by rfl) (hpl : (backTo pos (starEach [e2] X.env)).any (·.1) = false := by rfl)
    (na : starEach [Expr.Call (.Name "zip" p) [e, e2] [] pos] X.env = (false, eval (Expr.Call (.Name "zip" p) [e, e2] [] pos) X.env) :: starEach [] X.env := by rfl) :
    PE X (.Call (.Name "list" p1) [.Call (.Name "zip" p) [e, e2] [] pos] [] pos1) (tLstZip X.K ta) := by
  refine ⟨fun pins s σ H Q I h => ?_⟩
  refine Call_ (ld_blt I hgl hml boot_list (PyProof.Rows.callWith_type1 (args_cons ?_ na) na))
  refine Call_ (ld_blt I hgz hmz PyProof.Rows.boot_zip (PyProof.Rows.callWith_type1 (thn (ha.run pos pins s σ H _ I h) fun us s1 ⟨vs, H1, I1, r1, q1⟩ => ?_) hs hpl))
  obtain ⟨a, b, xs, ys, ex, hqx, hqy, q⟩ := q1
  subst ex
  cases r1 with
  | cons r rr =>
    cases rr with
    | cons r' rr =>
      cases rr
      cases r
      cases r'
      obtain ⟨its, rv, p1', z1⟩ := I1.list hqx
      obtain ⟨its2, rv2, p2', z2⟩ := I1.list hqy
      have la : a < s1.heap.objs.size := p1'.lt
      have lb : b < s1.heap.objs.size := p2'.lt
      refine call_zip_2 p1'.isList p2'.isList fun h' hz hTI hTO h1 h2 hsz hk => args_nil ?_
      have kz : ∀ b o, s1.heap.get? b = some o → h'.get? b = some o := hk
      have l1 : h'.IsList a its.toArray := p1'.isList.at fun o e => kz _ o e
      have l2 : h'.IsList b its2.toArray := p2'.isList.at fun o e => kz _ o e
      refine PySem.ZL.call_ (s := { s1 with heap := h' }) (n := min its.toArray.size its2.toArray.size) rfl (PySem.W.ktu_apart s1.heap.objs.size a b la lb) (I1.ok.hd hc) ?_ hz hTI hTO h1 h2 l1 l2 fun h3 tk acc c as k3 e3 l3 g3 ha3 => ?_
      · rw [List.size_toArray, ← rv.length]
        exact Nat.le_trans (Nat.min_le_left _ _) z1
      have kk : ∀ b o, s1.heap.get? b = some o → h3.get? b = some o := fun b o e => by
        have lt := Heap.lt_size e
        exact k3 b o (Nat.ne_of_lt (Nat.lt_of_lt_of_le lt (Nat.le_add_right _ _))) (Nat.ne_of_lt (Nat.lt_of_lt_of_le lt (Nat.le_add_right _ _))) (Nat.ne_of_lt lt) (Nat.ne_of_lt (Nat.lt_of_lt_of_le lt (Nat.le_add_right _ _))) (kz b o e)
      have hz3 : ({ s1 with heap := h' } : Shared).heap.objs.size = s1.heap.objs.size + 5 := hsz
      generalize hSS : ({ s1 with heap := h' } : Shared).heap.objs.size = S at e3 g3 hz3 ⊢
      have lx := rv.length
      have ly := rv2.length
      have las : as.length = (xs.zip ys).length := by
        rw [l3, List.length_zip, lx, ly, List.size_toArray, List.size_toArray]
      have kf : (as.zip (xs.zip ys)).map (·.1) = as := List.map_fst_zip (by omega)
      have nd : ((as.zip (xs.zip ys)).map (·.1)).Nodup := by
        rw [kf]
        exact g3.rise.imp fun h => Nat.ne_of_lt h
      let F : Hp := fun b => if b = S then some (.lst (as.map V.ref)) else ((as.zip (xs.zip ys)).find? fun r => decide (r.1 = b)).map fun q => .tup [q.2.1, q.2.2]
      have nS : ∀ a ∈ as, a ≠ S := fun a ha => Nat.ne_of_gt (g3.above a ha)
      have hmem : ∀ q ∈ as.zip (xs.zip ys), ∃ j, as[j]? = some q.1 ∧ xs[j]? = some q.2.1 ∧ ys[j]? = some q.2.2 := fun q hq => by
        obtain ⟨j, hj⟩ := List.mem_iff_getElem?.mp hq
        obtain ⟨e1, e2⟩ := List.getElem?_zip_eq_some.mp hj
        obtain ⟨e3, e4⟩ := List.getElem?_zip_eq_some.mp e2
        exact ⟨j, e1, e3, e4⟩
      have hF : ∀ b o, F b = some o → (b = S ∧ o = .lst (as.map V.ref)) ∨ ∃ q ∈ as.zip (xs.zip ys), q.1 = b ∧ o = .tup [q.2.1, q.2.2] := fun b o hb => by
        by_cases c1 : b = S
        · have : F b = some (.lst (as.map V.ref)) := if_pos c1
          rw [this] at hb
          cases hb
          exact .inl ⟨c1, rfl⟩
        · have e5 : F b = ((as.zip (xs.zip ys)).find? fun r => decide (r.1 = b)).map fun q => .tup [q.2.1, q.2.2] := if_neg c1
          rw [e5] at hb
          cases hq : (as.zip (xs.zip ys)).find? fun r => decide (r.1 = b) with
          | none => rw [hq] at hb; cases hb
          | some q =>
            rw [hq] at hb
            cases hb
            exact .inr ⟨q, List.mem_of_find?_eq_some hq, by simpa using List.find?_some hq, rfl⟩
      have hge : ∀ b o, F b = some o → s1.heap.objs.size ≤ b := fun b o hb => by
        rcases hF b o hb with ⟨e1, _⟩ | ⟨q, hq, e1, _⟩
        · rw [e1, hz3]
          exact Nat.le_add_right _ _
        · obtain ⟨j, e2, _⟩ := hmem q hq
          have ab := g3.above q.1 (List.mem_of_getElem? e2)
          rw [← e1]
          refine Nat.le_trans ?_ (Nat.le_of_lt ab)
          rw [hz3]
          exact Nat.le_add_right _ _
      have hvr : ∀ l : List Addr, Vals (l.map V.ref) (l.map Value.ref) := fun l => by
        induction l with
        | nil => exact .nil
        | cons c r ih => exact .cons rfl ih
      have I3 : Inv X pins σ (mrg F H1) { s1 with heap := h3, toks := tk } := by
        refine I1.laids kk hge fun b o hb => ?_
        rcases hF b o hb with ⟨e1, rfl⟩ | ⟨q, hq, e1, rfl⟩
        · subst e1
          refine ⟨?_, as.map Value.ref, c, hvr as, ?_⟩
          · rw [List.length_map, las, List.length_zip]
            exact Nat.le_trans (Nat.min_le_left _ _) z1
          · rw [← ha3, Array.toArray_toList]
            exact e3
        · obtain ⟨j, e2, e4, e5⟩ := hmem q hq
          obtain ⟨x, y, f1, f2, f3⟩ := g3.pairs j q.1 e2
          obtain ⟨u1, g1, r1⟩ := rv.get e4
          obtain ⟨u2, g2, r2⟩ := rv2.get e5
          have ex : x = u1 := by
            rw [List.getElem?_toArray, g1] at f1
            exact (Option.some.inj f1).symm
          have ey : y = u2 := by
            rw [List.getElem?_toArray, g2] at f2
            exact (Option.some.inj f2).symm
          subst ex ey e1
          exact ⟨(show 2 ≤ sizeLine by decide), [x, y], .cons r1 (.cons r2 .nil), _, f3, rfl, _, rfl⟩
      refine ⟨.ref S, mrg F H1, I3, rfl, q S as (mrg F H1) (fun c o hc => ?_) ?_ (mrg_new (if_pos rfl)) ?_⟩
      · refine (mrg_old ?_).trans hc
        cases hq : F c with
        | none => rfl
        | some u =>
          rw [I1.hok.fresh (hge c u hq)] at hc
          cases hc
      · exact I1.hok.fresh (by rw [hz3]; exact Nat.le_add_right _ _)
      · refine paired_of las fun j a r e1 e2 => mrg_new ?_
        have hm : (a, r) ∈ as.zip (xs.zip ys) := List.mem_of_getElem? (List.getElem?_zip_eq_some.mpr ⟨e1, e2⟩)
        have ef := find_nodup _ nd (a, r) hm
        show (if a = S then some (HO.lst (as.map V.ref)) else ((as.zip (xs.zip ys)).find? fun r => decide (r.1 = a)).map fun q => HO.tup [q.2.1, q.2.2]) = _
        rw [if_neg (nS a (List.mem_of_getElem? e1))]
        rw [ef]
        rfl
end
end L2
/-! ### a tuple with its object told; dict of a tuple of pairs; get of what may be None -/
namespace L2
open PySem PySem.Spec PyProof.Rows
section
variable {X : Cx}
theorem call_tupleF : CallR X (.type "tuple") (fun xs H Q => ∃ p ys, xs = [.ref p] ∧ SqL X.K H p ys ∧ ∀ l o, H l = none → o.dict = none → Q (.ref l) (upd H l (.frz o (.tup ys)))) := by
  intro pins s σ H xs us Q I r h
  obtain ⟨p, ys, rfl, hq, q⟩ := h
  obtain ⟨u, rfl, rx⟩ := vals1 r
  cases rx
  obtain ⟨its, r', pl, hz⟩ := I.list hq
  have hlen := r'.length
  refine call_tuple_list pl.isList (fun h' kp => ?_) (by simp only [List.size_toArray] <;> omega)
  have I1 : Inv X pins σ H { s with heap := h' } := I.kept (t' := s.toks) kp
  have I2 : Inv X pins σ (upd H h'.objs.size (.frz { cls := .type "tuple", data := .seq its.toArray } (.tup ys))) { s with heap := h'.push { cls := .type "tuple", data := .seq its.toArray } } :=
    I1.laid (t' := s.toks) (fun b o e => Heap.get?_push_of_some _ e) (Nat.le_refl _) (show ObjOk X.prog X.w _ _ _ (.frz _ (.tup ys)) from ⟨Heap.get?_push_size _ rfl, hz, its, r', IsTup.new _ _⟩)
  exact ⟨.ref h'.objs.size, _, I2, rfl, q _ _ (I1.hok.fresh (Nat.le_refl _)) rfl⟩
/-- dict(t), t a tuple of pairs whose object is told -/
theorem call_dictT (hcalm : X.calm = true) : CallR X (.type "dict") (fun xs H Q => ∃ (a : Addr) (o : Obj) (ps : List Addr) (kvs : List (Key × V)), xs = [.ref a] ∧ H a = some (.frz o (.tup (ps.map V.ref))) ∧ o.dict = none ∧ Paired (fun p kv => SqT X.K H p [kV kv.1, kv.2]) ps kvs ∧
    ∀ p, H p = none → Q (.ref p) (upd H p (.dK (mergeK [] kvs)))) := by
  intro pins s σ H xs us Q I r q
  obtain ⟨a, o, ps, kvs, ex, hq, hdn, hp, q⟩ := q
  subst ex
  obtain ⟨u, eu, rx⟩ := vals1 r
  subst eu
  cases rx
  obtain ⟨ho, hz, its, rv, ht⟩ := (show ObjOk X.prog X.w H s.heap a (.frz o (.tup (ps.map V.ref))) from I.hok a _ hq)
  have ei := refs_at rv
  subst ei
  rw [List.length_map] at hz
  obtain ⟨prs, rel, hl, hpr⟩ := pairs_of I hp
  obtain ⟨o2, ho2, hc, n, hdat⟩ := ht
  rw [ho] at ho2
  cases ho2
  have hpair : ∀ (j : Nat) (q' : Key × Value), prs[j]? = some q' → ∃ (b : Addr) (u : Value), ps[j]? = some b ∧ IsTup s.heap b #[u, q'.2] ∧ keyIs q'.1 u = true := hpr
  -- the pairs by their values
  have hvals : ∃ vs : List (Value × Value), vs.length = ps.length ∧ ∀ (j : Nat) (q' : Key × Value), prs[j]? = some q' → ∃ (b : Addr) (u : Value), ps[j]? = some b ∧ vs[j]? = some (u, q'.2) ∧ IsTup s.heap b #[u, q'.2] ∧ keyIs q'.1 u = true := by
    clear rel hp q
    have key : ∀ (prs : List (Key × Value)) (ps : List Addr), prs.length = ps.length → (∀ (j : Nat) (q' : Key × Value), prs[j]? = some q' → ∃ (b : Addr) (u : Value), ps[j]? = some b ∧ IsTup s.heap b #[u, q'.2] ∧ keyIs q'.1 u = true) →
        ∃ vs : List (Value × Value), vs.length = ps.length ∧ ∀ (j : Nat) (q' : Key × Value), prs[j]? = some q' → ∃ (b : Addr) (u : Value), ps[j]? = some b ∧ vs[j]? = some (u, q'.2) ∧ IsTup s.heap b #[u, q'.2] ∧ keyIs q'.1 u = true := by
      intro prs
      induction prs with
      | nil =>
        intro ps l _
        exact ⟨[], l, fun j q' e => by simp at e⟩
      | cons p r ih =>
        intro ps l hh
        cases ps with
        | nil => cases l
        | cons b bs =>
          obtain ⟨vs, l1, h1⟩ := ih bs (Nat.succ.inj l) (fun j q' e => by
            obtain ⟨b', u, e1, e2, e3⟩ := hh (j + 1) q' (by simpa using e)
            exact ⟨b', u, by simpa using e1, e2, e3⟩)
          obtain ⟨b0, u0, e1, e2, e3⟩ := hh 0 p rfl
          refine ⟨(u0, p.2) :: vs, congrArg Nat.succ l1, fun j q' e => ?_⟩
          cases j with
          | zero =>
            have e' : p = q' := Option.some.inj e
            subst e'
            exact ⟨b0, u0, e1, rfl, e2, e3⟩
          | succ j =>
            obtain ⟨b', u, f1, f2, f3, f4⟩ := h1 j q' (by simpa using e)
            exact ⟨b', u, by simpa using f1, by simpa using f2, f3, f4⟩
    exact key prs ps hl hpair
  obtain ⟨vs, lv, hv⟩ := hvals
  have lp : prs.length = vs.length := hl.trans lv.symm
  refine PySem.call_dict_pairs (knd := mixKind X.prog X.w) (kvs := prs) (PairArg.tuple a (ps.map Value.ref).toArray (fun j => ps.getD j 0) vs) (I.ok.hd hcalm) ⟨⟨o, n, ho, hc, hdn, hdat⟩, by simp [lv], fun j k v e => ?_⟩ ⟨lp, fun j k v e => ?_⟩ (by rw [lv]; exact hz) fun h' tk hd' k => ?_
  · have hj : j < prs.length := by
      rw [lp]
      exact (List.getElem?_eq_some_iff.mp e).1
    obtain ⟨b, u, e1, e2, e3, e4⟩ := hv j prs[j] (List.getElem?_eq_getElem hj)
    rw [e] at e2
    injection e2 with e5
    injection e5 with e6 e7
    subst e6 e7
    refine ⟨by simp [e1, List.getD_eq_getElem?_getD], ?_⟩
    show PairAt s.heap (ps.getD j 0) k prs[j].snd
    rw [List.getD_eq_getElem?_getD, e1]
    exact .inl e3
  · have hj : j < prs.length := by
      rw [lp]
      exact (List.getElem?_eq_some_iff.mp e).1
    obtain ⟨b, u, e1, e2, e3, e4⟩ := hv j prs[j] (List.getElem?_eq_getElem hj)
    rw [e] at e2
    injection e2 with e5
    injection e5 with e6 e7
    subst e6
    refine ⟨prs[j].1, ?_, e4⟩
    rw [List.getElem?_eq_getElem hj, e7]
  · have hm : (s.heap.objs.size == sysModules) = false := beq_eq_false_iff_ne.mpr (Nat.ne_of_gt I.big)
    have hlen : (mergeK [] kvs).length ≤ sizeLine := by
      refine Nat.le_trans (length_mergeK kvs []) ?_
      rw [List.length_nil, Nat.zero_add, rel.length, hl]
      exact hz
    exact ⟨.ref s.heap.objs.size, upd H s.heap.objs.size (.dK (mergeK [] kvs)), I.laid (t' := tk) (fun b o e => k b o (by simp) e) (Nat.le_refl _) (show ObjOk X.prog X.w _ _ _ (.dK (mergeK [] kvs)) from ⟨hlen, hm, merged [] prs, KV.merge rel .nil, hd'⟩), rfl, q _ (I.hok.fresh (Nat.le_refl _))⟩
/-- d.get(y), d.get(y, x): y may be None -/
def DGetN (H : Hp) (a : Addr) (y : V) (r : Option V) : Prop := DGet H a y r ∨ (y = .non ∧ r = none ∧ ∃ kvs, Rd H a (.dK kvs))
def tDGetN1 (td ty : TE) : TE := fun σ H Q => td σ H fun x H1 => ∃ a, x = .ref a ∧ IsD H1 a ∧ ty σ H1 fun y H2 => ∃ o, DGetN H2 a y o ∧ Q (o.getD .non) H2
def tDGetN2 (td ty tx : TE) : TE := fun σ H Q => td σ H fun x H1 => ∃ a, x = .ref a ∧ IsD H1 a ∧ ty σ H1 fun y H2 => tx σ H2 fun z H3 => ∃ o, DGetN H3 a y o ∧ Q (o.getD z) H3
variable {o e f : Expr} {apos cpos : Pos} {td ty tx : TE}
theorem pe_dgetN1 (hu : X.A.units + 1 < cLine) (ho : PE X o td) (he : PE X e ty) (m : M1 X o "get" apos e cpos) : PE X (.Call (.Attribute o "get" apos) [e] [] cpos) (tDGetN1 td ty) := by
  refine ⟨fun pins s σ H Q I h => ?_⟩
  refine wpAny_Call_method m.base m.few m.line PySem.F.plainAttrs_dict PySem.F.slot_dict_get PySem.F.type_dict_get (thn (ho.run pins s σ H _ I h) fun u s1 ⟨x, H1, I1, rx, a, ex, d, q1⟩ => ?_)
  subst ex
  obtain rfl : u = Value.ref a := rx
  obtain ⟨t1, t2, _⟩ := isD_at I1 d
  refine ⟨t1, t2, ?_⟩
  rw [m.trees]
  refine Calls.callWith_builtin rfl (Calls.evalArgs_plain (Calls.spliced_cons (thn (he.run pins s1 σ H1 _ I1 q1) fun iv s2 ⟨y, H2, I2, ry, ov, g, q2⟩ => Calls.spliced_nil ?_)))
  rcases g with g | ⟨rfl, rfl, kvs, g⟩
  · exact d_get1 hu I2 g ry fun w' s3 I3 rw' => ⟨_, H2, I3, rw', q2⟩
  · obtain rfl : iv = Value.none := ry
    obtain ⟨_, hd, vs, _, dd⟩ := dk_rd I2.hok g
    obtain ⟨f, hm, hf⟩ := none_map dd
    refine call_meetsIn PySem.F.slot_dict_get dd.typeIs PySem.F.entry_dict_get (PySem.F.args_dict_get_2 _ _) (meets_dict_get (noneKind X.prog X.w) a (show (noneKind X.prog X.w).is none .none = true from rfl) hd) ⟨f, hm, ?_⟩
    rw [hf]
    exact ⟨.non, H2, I2.tok _, rfl, q2⟩
theorem pe_dgetN2 (hu : X.A.units + 1 < cLine) (ho : PE X o td) (he : PE X e ty) (hf : PE X f tx) (m : M2 X o "get" apos e f cpos) : PE X (.Call (.Attribute o "get" apos) [e, f] [] cpos) (tDGetN2 td ty tx) := by
  refine ⟨fun pins s σ H Q I h => ?_⟩
  refine wpAny_Call_method m.base m.few m.line PySem.F.plainAttrs_dict PySem.F.slot_dict_get PySem.F.type_dict_get (thn (ho.run pins s σ H _ I h) fun u s1 ⟨x, H1, I1, rx, a, ex, d, q1⟩ => ?_)
  subst ex
  obtain rfl : u = Value.ref a := rx
  obtain ⟨t1, t2, _⟩ := isD_at I1 d
  refine ⟨t1, t2, ?_⟩
  rw [m.trees]
  refine Calls.callWith_builtin rfl (Calls.evalArgs_plain (Calls.spliced_cons (thn (he.run pins s1 σ H1 _ I1 q1) fun iv s2 ⟨y, H2, I2, ry, q2⟩ => Calls.spliced_cons (thn (hf.run pins s2 σ H2 _ I2 q2) fun zv s3 ⟨z, H3, I3, rz, ov, g, q3⟩ => Calls.spliced_nil ?_))))
  rcases g with g | ⟨rfl, rfl, kvs, g⟩
  · exact d_get2 hu I3 g ry rz fun w' s3 I3 rw' => ⟨_, H3, I3, rw', q3⟩
  · obtain rfl : iv = Value.none := ry
    obtain ⟨_, hd, vs, _, dd⟩ := dk_rd I3.hok g
    obtain ⟨f, hm, hf⟩ := none_map dd
    refine call_meetsIn PySem.F.slot_dict_get dd.typeIs PySem.F.entry_dict_get (PySem.F.args_dict_get_3 _ _ _) (meets_dict_get_default (noneKind X.prog X.w) a (show (noneKind X.prog X.w).is none .none = true from rfl) hd zv) ⟨f, hm, ?_⟩
    rw [hf]
    exact ⟨z, H3, I3.tok _, rz, q3⟩
end
end L2
/-! ### repr of data, whatever it is -/
namespace L2
open PySem PySem.Spec PyProof.Rows
section
variable {X : Cx} {K1 : PySem.W.Frag}
def rReprA (K : PySem.W.Frag) : List V → Hp → VK → Prop := fun xs H Q => ∃ (v : V) (d : PyData), xs = [v] ∧ Dp K H v d ∧ d.showable = true ∧ d.hasDict = false ∧ d.depth ≤ 60 ∧ d.shown.length ≤ sizeLine ∧ Q (.str d.shown) H
theorem call_reprK (hK : X.K = K1) (hg : X.A.guards = some []) (hu : X.A.units + 64 < cLine) : CallR X (.builtin "repr") (rReprA K1) := by
  subst hK
  intro pins s σ H xs us Q I r h
  obtain ⟨v, d, rfl, hd, hs, hnd, hdp, hsz, q⟩ := h
  obtain ⟨u, rfl, rv⟩ := vals1 r
  cases hd with
  | non =>
    cases rv
    exact PySem.P.repr_of_none ⟨.str _, H, I.tok _, ⟨_, rfl⟩, q⟩
  | bl b =>
    cases rv
    exact PySem.P.repr_of_bool ⟨.str _, H, I.tok _, ⟨_, rfl⟩, q⟩
  | int i =>
    obtain ⟨t, rfl⟩ := rv
    exact PySem.P.repr_of_int (of_decide_eq_true hs) ⟨.str _, H, I.tok _, ⟨_, rfl⟩, q⟩
  | str x =>
    obtain ⟨t, rfl⟩ := rv
    exact PySem.P.repr_of_str ⟨.str _, H, I.tok _, ⟨_, rfl⟩, q⟩ hsz
  | lst a1 a2 =>
    cases rv
    obtain ⟨as, hr⟩ := Dp.reads I _ _ _ (.lst a1 a2) rfl
    exact repr_of_reads' hr hs (PyData.noDict_hsm hnd) hg (by omega) (fun _ _ e => e) (fun h' u tk hk => ⟨.str _, H, I.kept (t' := tk) hk, ⟨u, rfl⟩, q⟩) hsz
  | tup a1 a2 =>
    cases rv
    obtain ⟨as, hr⟩ := Dp.reads I _ _ _ (.tup a1 a2) rfl
    exact repr_of_reads' hr hs (PyData.noDict_hsm hnd) hg (by omega) (fun _ _ e => e) (fun h' u tk hk => ⟨.str _, H, I.kept (t' := tk) hk, ⟨u, rfl⟩, q⟩) hsz
theorem ix_listK (hK : X.K = K1) : IxR X (rIxL K1) := by
  subst hK
  exact ix_list
theorem ix_tupK (hK : X.K = K1) : IxR X (rIxT K1) := by
  subst hK
  exact ix_tup
theorem op_in_seqK (hK : X.K = K1) : OpR X (compareOp .In) (rIn K1 false) := by
  subst hK
  exact op_in_seq
end
end L2
/-! ### the law's own call, what runs around it told: nothing is being shown -/
namespace L2
open PySem PySem.Spec PyProof.Rows
/-- the promise of the def at f, called where A runs around -/
def FnAt (A : Around) (P : Program) (w : World) (K : PySem.W.Frag) (mg : Str → Option Value) (base : Heap) (CX : CXT) (k : Nat) (f : Addr) (fd : FuncData) (ps : List Str) (sp : Sp) : Prop :=
  ∀ (s : Shared) (H : Hp) (args : Args) (us : List Value) (vs : List V) (Q : VK) (E : XK), Room k A → Env0 P w K mg base A [] s H → BindsTo s fd args (ps.zip us) → Vals vs us → sp vs H Q E → codeAny (model P w) A (.call (.ref f) args) (CR CX [] P w H s Q E) s
theorem fnat_of {A : Around} {CX : CXT} {P : Program} {w : World} {K : PySem.W.Frag} {mg : Str → Option Value} {base : Heap} {k : Nat} {f : Addr} {fd : FuncData} {x qual : Str} {params : Arguments} {body : List Stmt} {scope : Scope} {N ps : List Str} {sp : Sp} {dvs : List V} {kws : List (Str × V)}
    (F : FunD K x qual params body scope dvs kws f fd) (S : FnScope N ps scope) (len : ∀ vs H Q E, sp vs H Q E → vs.length = ps.length)
    (hb : ∀ (cdv : Value) (s : Shared) (H : Hp) (vs : List V) (Q : VK) (E : XK), Room k (A.deeper (envOfC qual scope s.heap.objs.size f cdv)) → sp vs H Q E → ∃ t, PSs (cxOf CX P w K mg base N qual scope f cdv A [] s H E) body t ∧ t { nx := fun _ H' => Q .non H', rt := Q } (start N vs) H) :
    FnAt A P w K mg base CX (k + 1) f fd ps sp := by
  obtain ⟨oc, od, dV, kV, doc, pm, an, cdv, ct, osl, rfl, lk, hcd, _, _⟩ := F.ex
  intro s H args us vs Q E hr e0 bt r hsp
  have lv := len _ _ _ _ hsp
  have inK : K.In s.heap := e0.mod.kin.keeps fun b o e => (e0.bs b o e).1
  have nolim : s.heap.NoLimit := e0.mod.nolimit.keeps fun b o e => (e0.bs b o e).1
  have kinds : ∀ y ∈ ps.zip us, scope.names.lookup y.1 = some .local ∨ (scope.names.lookup y.1 = some .cell ∧ ((cellsFrom (s.heap.objs.size + 1) scope.names []).lookup y.1).isSome = true) := fun ⟨n, v⟩ hy =>
    (S.par n (List.of_mem_zip hy).1).elim .inl fun q => .inr ⟨q, PySem.W.cellsFrom_some _ _ _ (.inl q)⟩
  refine codeAny_call_function hr.depth (inK _ _ lk) rfl S.co S.gen rfl (PySem.W.codeRec_of inK hcd) (bt _ _ _ _ (wpAny_newFunctionEnv_cells S.kind kinds fun env he s1 x => ?_))
  subst he
  obtain ⟨t, ht, hq⟩ := hb cdv s H vs Q E (hr.deeper _) hsp
  have I : Inv (cxOf CX P w K mg base N qual scope f cdv A [] s H E) [] (start N vs) H s1 := inv_start S hr.hd e0 lv r x
  refine ⟨nolim.keeps x.toInCall.keep, codeAny_func (wpAny_mono (ht.run [] s1 (start N vs) H _ I hq) (fun fl s' hs => ?_) fun e s' hs => hs)⟩
  match fl, hs with
  | .ret u, ⟨v, σ', H', J, rv, q⟩ => exact ⟨v, H', J.os, J.bare, J.base, J.hok, rv, q⟩
  | .next, ⟨σ', H', J, q⟩ => exact ⟨V.non, H', J.os, J.bare, J.base, J.hok, rfl, q⟩
  | .brk, ⟨_, _, _, q⟩ => exact False.elim q
  | .cont, ⟨_, _, _, q⟩ => exact False.elim q
theorem law_at {P : Program} {w : World} {K : PySem.W.Frag} {mg mb : Str → Option Value} {k : Nat} {fa a : Addr} {fd : FuncData} {x : Str} {sp : Sp} {s1 : Shared} {vs : List Value} {ns : List Int} (KX : K.In s1.heap) (hns : s1.heap.Ns mainGlobals mg) (hb : s1.heap.Ns builtinsNs mb) (hbb : ∀ x : Str, x ≠ "__name__" → mb x = bootBuiltins x)
    (hlim : s1.heap.NoLimit) (hg : s1.gens = #[]) (ha : s1.heap.get? a = some { cls := .type "list", data := .seq vs.toArray }) (hi : IntsAre vs ns) (hl : ns.length ≤ sizeLine) (hr : Room k callerA)
    (F : ∀ base : Heap, K.In base → base.Ns mainGlobals mg → FnAt callerA P w K mg base CX0 k fa fd [x] sp) (hbind : ∀ (s : Shared) (u : Value), BindsTo s fd ⟨[u], []⟩ [(x, u)]) (hsp : ∀ H : Hp, Only H → SqL K H a (ns.map V.int) → sp [.ref a] H (fun v _ => v = .bl true) fun _ _ _ => False) :
    codeAny (model P w) callerA (.call (.ref fa) ⟨[.ref a], []⟩) (fun r s' => r = .ok (.ret (.bool true)) ∧ OldK s1.heap s'.heap ∧ s'.os = s1.os ∧ AllBare s'.gens) s1 := by
  have rv := vals_ints hi
  have core : ∀ H : Hp, Only H → SqL K H a (ns.map V.int) → HOk P w H s1.heap → (∀ b, H b ≠ none → b = a) → (H a ≠ none → K.lookup a = none) → codeAny (model P w) callerA (.call (.ref fa) ⟨[.ref a], []⟩) (fun r s' => r = .ok (.ret (.bool true)) ∧ OldK s1.heap s'.heap ∧ s'.os = s1.os ∧ AllBare s'.gens) s1 := by
    intro H only hS hok alone out
    have stays : ∀ {b : Addr} {o : Obj}, s1.heap.get? b = some o → H b = none → (hidT s1.heap H).get? b = some o := fun e n => hidT_get e n
    have free : ∀ {b : Addr} {o : Obj} {es : Array DictEntry} {ep : Nat}, s1.heap.get? b = some o → o.data = .dict es ep → H b = none := fun {b o es ep} e dd => by
      cases q : H b with
      | none => rfl
      | some u =>
        have eb : b = a := alone b fun z => by rw [q] at z; cases z
        subst eb
        rw [ha] at e
        cases e
        cases (show Data.seq vs.toArray _ = Data.dict es ep from dd)
    have names : ∀ {b : Addr} {m : Str → Option Value}, s1.heap.Ns b m → (hidT s1.heap H).Ns b m := fun {b m} ⟨o, es, ep, e, dd, r⟩ => ⟨o, es, ep, stays e (free e dd), dd, r⟩
    have inB : K.In (hidT s1.heap H) := fun b o e => stays (KX b o e) (by
      cases q : H b with
      | none => rfl
      | some u =>
        have eb : b = a := alone b fun z => by rw [q] at z; cases z
        subst eb
        rw [out fun z => by rw [q] at z; cases z] at e
        cases e)
    have modB : Mod K mg (hidT s1.heap H) := ⟨inB, names hns, ⟨mb, names hb, hbb⟩, let ⟨mc, h1, h2⟩ := hlim; ⟨mc, names h1, h2⟩⟩
    have env : Env0 P w K mg (hidT s1.heap H) callerA [] s1 H := ⟨rfl, modB, fun b o e => of_hidT e, Nat.le_of_eq (hidT_size _ _), trivial, fun b z => (nomatch (show b ∈ ([] : List Addr) from z)), hok, .of_eq hg⟩
    refine codeAny_mono (F _ inB (names hns) s1 H ⟨[.ref a], []⟩ [.ref a] [.ref a] _ _ hr env (hbind s1 (.ref a)) (.cons rfl .nil) (hsp H only hS)) fun r s' h => ?_
    match r, h with
    | .error e, h => exact (show False from h).elim
    | .ok .next, h => exact (show False from h).elim
    | .ok .brk, h => exact (show False from h).elim
    | .ok .cont, h => exact (show False from h).elim
    | .ok (.ret u), ⟨v, H', os, bare, un, hok', r', q⟩ =>
      have q' : v = .bl true := q
      subst q'
      obtain rfl : u = Value.bool true := r'
      refine ⟨rfl, OldK.of_keep fun b o e => ?_, os, bare⟩
      cases q : H b with
      | none => exact un.keep b o e q (fun z => nomatch (show b ∈ ([] : List Addr) from z)) (by simp)
      | some u =>
        rcases only b with z | ⟨ob, xs, z⟩
        · rw [q] at z; cases z
        · obtain ⟨e1, _⟩ := hok b _ z; obtain ⟨e2, _⟩ := hok' b _ (un.frzs b ob _ z)
          rw [e] at e1; cases e1; exact e2
  cases hk : K.lookup a with
  | some o =>
    have e := KX a o hk; rw [ha] at e; cases e
    exact core (fun _ => none) (fun _ => .inl rfl) (.inr ⟨_, vs.toArray, _, hk, rfl, rfl, rfl, by rw [List.size_toArray, hi.length]; exact hl, by simpa using rv⟩) (fun b u z => (nomatch (show (none : Option HO) = some u from z))) (fun b z => absurd rfl z) fun z => absurd rfl z
  | none =>
    refine core (fun b => if b = a then some (.frz { cls := .type "list", data := .seq vs.toArray } (.lst (ns.map V.int))) else none) (fun b => ?_) (.inl (.inr ⟨_, if_pos rfl⟩)) (fun b u z => ?_) (fun b z => Decidable.byContradiction fun hb => z (if_neg hb)) fun _ => hk
    · by_cases eb : b = a
      · exact .inr ⟨_, _, if_pos eb⟩
      · exact .inl (if_neg eb)
    · by_cases eb : b = a
      · cases (if_pos eb).symm.trans z
        subst eb
        exact ⟨ha, by rw [List.length_map]; exact hl, vs, _, rv, ha⟩
      · cases (if_neg eb).symm.trans z
theorem walk_at {l : PySem.W.OpenLaw} {n k : Nat} {q : Program} {loose : List Str} {XP : (Str → Option Value) → Heap → Prop} {YP : World → Heap → Prop} {d : DefRec} {x : Str} (hn : l.most = some n) (hn2 : n ≤ sizeLine) (hdf : d.params.defaults = []) (hr : Room k callerA)
    (F : ∀ (w : World) (mg : Str → Option Value) (fa : Addr) (h : Heap), YP w h → h.Ns mainGlobals mg → mg d.name = some (.ref fa) → ∃ (K : PySem.W.Frag) (fd : FuncData) (sp : Sp), K.In h ∧ (∀ (s : Shared) (u : Value), BindsTo s fd ⟨[u], []⟩ [(x, u)]) ∧
        (∀ (H : Hp) (a : Addr) (ns : List Int), ns.length ≤ n → Only H → SqL K H a (ns.map V.int) → sp [.ref a] H (fun v _ => v = .bl true) fun _ _ _ => False) ∧ ∀ base : Heap, K.In base → base.Ns mainGlobals mg → FnAt callerA l.prog w K mg base CX0 k fa fd [x] sp) :
    PySem.W.WalkO q loose XP YP l.row.toRowW d [] (fun f vs => PySem.call f vs) := by
  refine Att.attach_call hn hdf fun w s₀ s1 mg mb fa o pm cd doc a vs ns G Y ho hd hcd hmg hobj hints hlen hg => ?_
  obtain ⟨K, fd, sp, KX, hb, hsp, hF⟩ := F w mg fa _ Y G.T.g hmg
  exact law_at KX G.T.g G.T.b G.T.builtins G.T.nolimit hg hobj hints (Nat.le_trans hlen hn2) hr hF hb fun H hO hS => hsp H a ns hlen hO hS
/-- repr of data, where nothing is being shown -/
def rRepr (K : PySem.W.Frag) : List V → Hp → VK → Prop := fun xs H Q => ∃ (a : Addr) (d : PyData), xs = [.ref a] ∧ Dp K H (.ref a) d ∧ d.showable = true ∧ d.hasDict = false ∧ d.depth ≤ 60 ∧ d.shown.length ≤ sizeLine ∧ Q (.str d.shown) H
theorem call_repr {X : Cx} (hg : X.A.guards = some []) (hu : X.A.units + 64 < cLine) : CallR X (.builtin "repr") (rRepr X.K) := by
  intro pins s σ H xs us Q I r h
  obtain ⟨a, d, rfl, hd, hs, hnd, hdp, hsz, q⟩ := h
  rw [Vals.ref1 r]
  obtain ⟨as, hr⟩ := Dp.reads I d (.ref a) (.ref a) hd rfl
  exact repr_of_reads' hr hs (PyData.noDict_hsm hnd) hg (by omega) (fun _ _ e => e) (fun h' u tk hk => ⟨.str d.shown, H, I.kept (t' := tk) hk, ⟨u, rfl⟩, q⟩) hsz
end L2
namespace Rd
open PySem PySem.Spec PyProof.Rows L2
def top (i : Nat) : Stmt := PySem.Challenge.pw_roundstore_k12_freezing_keeps_looks.main.body.getD i (.Pass ⟨0, 0, 0, 0⟩)
abbrev s_is_whole : Stmt := top 1
abbrev N_is_whole : List Str := ["thing"]
theorem sc_is_whole : FnScope N_is_whole ["thing"] (defScope s_is_whole) := ⟨rfl, rfl, rfl, by decide +kernel, rfl, by decide +kernel, by decide +kernel⟩
abbrev s_is_number : Stmt := top 2
abbrev N_is_number : List Str := ["thing", "ring"]
theorem sc_is_number : FnScope N_is_number ["thing", "ring"] (defScope s_is_number) := ⟨rfl, rfl, rfl, by decide +kernel, rfl, by decide +kernel, by decide +kernel⟩
abbrev s_steps : Stmt := top 5
abbrev N_steps : List Str := ["one", "other", "ring"]
theorem sc_steps : FnScope N_steps ["one", "other", "ring"] (defScope s_steps) := ⟨rfl, rfl, rfl, by decide +kernel, rfl, by decide +kernel, by decide +kernel⟩
abbrev s_before : Stmt := top 6
abbrev N_before : List Str := ["one", "other", "ring"]
theorem sc_before : FnScope N_before ["one", "other", "ring"] (defScope s_before) := ⟨rfl, rfl, rfl, by decide +kernel, rfl, by decide +kernel, by decide +kernel⟩
abbrev s_is_look : Stmt := top 8
abbrev N_is_look : List Str := ["thing", "ring", "coming", "others", "one"]
theorem sc_is_look : FnScope N_is_look ["thing", "ring"] (defScope s_is_look) := ⟨rfl, rfl, rfl, by decide +kernel, rfl, by decide +kernel, by decide +kernel⟩
abbrev s_in_order : Stmt := top 9
abbrev N_in_order : List Str := ["numbers", "ring", "pairs", "one", "other"]
theorem sc_in_order : FnScope N_in_order ["numbers", "ring"] (defScope s_in_order) := ⟨rfl, rfl, rfl, by decide +kernel, rfl, by decide +kernel, by decide +kernel⟩
abbrev s_low : Stmt := top 10
abbrev N_low : List Str := ["look", "coming", "others"]
theorem sc_low : FnScope N_low ["look"] (defScope s_low) := ⟨rfl, rfl, rfl, by decide +kernel, rfl, by decide +kernel, by decide +kernel⟩
abbrev s_sees : Stmt := top 11
abbrev N_sees : List Str := ["look", "number", "fate", "ring", "coming", "others"]
theorem sc_sees : FnScope N_sees ["look", "number", "fate", "ring"] (defScope s_sees) := ⟨rfl, rfl, rfl, by decide +kernel, rfl, by decide +kernel, by decide +kernel⟩
abbrev s_state : Stmt := top 13
abbrev N_state : List Str := ["version", "look", "fates", "own", "ring"]
theorem sc_state : FnScope N_state ["version", "look", "fates", "own", "ring"] (defScope s_state) := ⟨rfl, rfl, rfl, by decide +kernel, rfl, by decide +kernel, by decide +kernel⟩
abbrev s_frozen : Stmt := top 14
abbrev N_frozen : List Str := ["version", "upto", "fates", "ring"]
theorem sc_frozen : FnScope N_frozen ["version", "upto", "fates", "ring"] (defScope s_frozen) := ⟨rfl, rfl, rfl, by decide +kernel, rfl, by decide +kernel, by decide +kernel⟩
abbrev s_state_among : Stmt := top 15
abbrev N_state_among : List Str := ["version", "look", "fates", "own", "ring", "maker", "ender", "made"]
theorem sc_state_among : FnScope N_state_among ["version", "look", "fates", "own", "ring"] (defScope s_state_among) := ⟨rfl, rfl, rfl, by decide +kernel, rfl, by decide +kernel, by decide +kernel⟩
abbrev s_frozen_among : Stmt := top 16
abbrev N_frozen_among : List Str := ["version", "upto", "fates", "ring", "key", "worth", "maker", "ender", "made", "ended"]
theorem sc_frozen_among : FnScope N_frozen_among ["version", "upto", "fates", "ring"] (defScope s_frozen_among) := ⟨rfl, rfl, rfl, by decide +kernel, rfl, by decide +kernel, by decide +kernel⟩
abbrev s_l_hand : Stmt := top 18
abbrev N_l_hand : List Str := ["_law_script", "_law_k", "_law_cell", "_law_great"]
theorem sc_l_hand : FnScope N_l_hand ["_law_script", "_law_k"] (defScope s_l_hand) := ⟨rfl, rfl, rfl, by decide +kernel, rfl, by decide +kernel, by decide +kernel⟩
abbrev s_l_take : Stmt := top 19
abbrev N_l_take : List Str := ["_law_hand_here", "_law_many", "_law_digit", "_law_primes", "_law_prime", "_law_drawn"]
theorem sc_l_take : FnScope N_l_take ["_law_hand_here", "_law_many"] (defScope s_l_take) := ⟨rfl, rfl, rfl, by decide +kernel, rfl, by decide +kernel, by decide +kernel⟩
abbrev s_l_of : Stmt := top 20
abbrev N_l_of : List Str := ["_law_hand_here", "_law_some"]
theorem sc_l_of : FnScope N_l_of ["_law_hand_here", "_law_some"] (defScope s_l_of) := ⟨rfl, rfl, rfl, by decide +kernel, rfl, by decide +kernel, by decide +kernel⟩
abbrev s_l_size : Stmt := top 21
abbrev N_l_size : List Str := ["_law_hand_here", "_law_few"]
theorem sc_l_size : FnScope N_l_size ["_law_hand_here"] (defScope s_l_size) := ⟨rfl, rfl, rfl, by decide +kernel, rfl, by decide +kernel, by decide +kernel⟩
abbrev s_l_world : Stmt := top 22
abbrev N_l_world : List Str := ["_law_hand_here", "_law_size_here", "_law_coming", "_law_far", "_law_first", "_law_second"]
theorem sc_l_world : FnScope N_l_world ["_law_hand_here", "_law_size_here"] (defScope s_l_world) := ⟨rfl, rfl, rfl, by decide +kernel, rfl, by decide +kernel, by decide +kernel⟩
abbrev s_l_looks : Stmt := top 23
abbrev N_l_looks : List Str := ["_law_hand_here", "_law_world_here", "_law_size_here", "_law_coming", "_law_far", "_law_first", "_law_second", "_law_looks_here", "_law_turn", "_law_back", "_law_some", "_law_begun", "_law_more"]
theorem sc_l_looks : FnScope N_l_looks ["_law_hand_here", "_law_world_here", "_law_size_here"] (defScope s_l_looks) := ⟨rfl, rfl, rfl, by decide +kernel, rfl, by decide +kernel, by decide +kernel⟩
abbrev s_l_fates : Stmt := top 24
abbrev N_l_fates : List Str := ["_law_hand_here", "_law_world_here", "_law_size_here", "_law_coming", "_law_far", "_law_first", "_law_second", "_law_rows", "_law_back", "_law_fate"]
theorem sc_l_fates : FnScope N_l_fates ["_law_hand_here", "_law_world_here", "_law_size_here"] (defScope s_l_fates) := ⟨rfl, rfl, rfl, by decide +kernel, rfl, by decide +kernel, by decide +kernel⟩
abbrev s_l_kept : Stmt := top 25
abbrev N_l_kept : List Str := ["_law_version", "_law_looks_here", "_law_fates_here", "_law_edge", "_law_mine", "_law_size_here", "_law_made", "_law_look", "_law_seen", "_law_again_here"]
theorem sc_l_kept : FnScope N_l_kept ["_law_version", "_law_looks_here", "_law_fates_here", "_law_edge", "_law_mine", "_law_size_here"] (defScope s_l_kept) := ⟨rfl, rfl, rfl, by decide +kernel, rfl, by decide +kernel, by decide +kernel⟩
abbrev s_l_again : Stmt := top 26
abbrev N_l_again : List Str := ["_law_version", "_law_fates_here", "_law_early", "_law_late", "_law_size_here", "_law_once", "_law_twice"]
theorem sc_l_again : FnScope N_l_again ["_law_version", "_law_fates_here", "_law_early", "_law_late", "_law_size_here"] (defScope s_l_again) := ⟨rfl, rfl, rfl, by decide +kernel, rfl, by decide +kernel, by decide +kernel⟩
abbrev s_l_clean : Stmt := top 27
abbrev N_l_clean : List Str := ["_law_version", "_law_fates_here", "_law_edge", "_law_coming", "_law_size_here", "_law_made", "_law_back", "_law_number"]
theorem sc_l_clean : FnScope N_l_clean ["_law_version", "_law_fates_here", "_law_edge", "_law_coming", "_law_size_here"] (defScope s_l_clean) := ⟨rfl, rfl, rfl, by decide +kernel, rfl, by decide +kernel, by decide +kernel⟩
abbrev s_law : Stmt := top 28
abbrev N_law : List Str := ["_law_script", "_law_k", "_law_hand_here", "_law_size_here", "_law_world_here", "_law_coming", "_law_far", "_law_first", "_law_second", "_law_early", "_law_late", "_law_looks_here", "_law_fates_here", "_law_turn", "_law_numbers", "_law_version", "_law_mine", "_law_edge", "_law_look", "_law_row"]
theorem sc_law : FnScope N_law ["_law_script"] (defScope s_law) := ⟨rfl, rfl, rfl, by decide +kernel, rfl, by decide +kernel, by decide +kernel⟩
theorem gl_of {X : Cx} {x : Str} {sc : Scope} (h : sc.names.lookup x = some .globalImplicit) (e : X.env.scope = sc := by rfl) : Gl X x := by
  unfold Gl Env.kindOf
  rw [e]
  exact h
theorem gl_is_whole_isinstance : (defScope s_is_whole).names.lookup ("isinstance" : Str) = some .globalImplicit := by decide +kernel
theorem gl_is_whole_bool : (defScope s_is_whole).names.lookup ("bool" : Str) = some .globalImplicit := by decide +kernel
theorem gl_is_whole_int : (defScope s_is_whole).names.lookup ("int" : Str) = some .globalImplicit := by decide +kernel
theorem gl_is_number_is_whole : (defScope s_is_number).names.lookup ("is_whole" : Str) = some .globalImplicit := by decide +kernel
theorem gl_before_steps : (defScope s_before).names.lookup ("steps" : Str) = some .globalImplicit := by decide +kernel
theorem gl_is_look_len : (defScope s_is_look).names.lookup ("len" : Str) = some .globalImplicit := by decide +kernel
theorem gl_is_look_isinstance : (defScope s_is_look).names.lookup ("isinstance" : Str) = some .globalImplicit := by decide +kernel
theorem gl_is_look_tuple : (defScope s_is_look).names.lookup ("tuple" : Str) = some .globalImplicit := by decide +kernel
theorem gl_is_look_is_number : (defScope s_is_look).names.lookup ("is_number" : Str) = some .globalImplicit := by decide +kernel
theorem gl_is_look_in_order : (defScope s_is_look).names.lookup ("in_order" : Str) = some .globalImplicit := by decide +kernel
theorem gl_is_look_all : (defScope s_is_look).names.lookup ("all" : Str) = some .globalImplicit := by decide +kernel
theorem gl_in_order_list : (defScope s_in_order).names.lookup ("list" : Str) = some .globalImplicit := by decide +kernel
theorem gl_in_order_zip : (defScope s_in_order).names.lookup ("zip" : Str) = some .globalImplicit := by decide +kernel
theorem gl_in_order_all : (defScope s_in_order).names.lookup ("all" : Str) = some .globalImplicit := by decide +kernel
theorem gl_low_len : (defScope s_low).names.lookup ("len" : Str) = some .globalImplicit := by decide +kernel
theorem gl_sees_before : (defScope s_sees).names.lookup ("before" : Str) = some .globalImplicit := by decide +kernel
theorem gl_state_state_among : (defScope s_state).names.lookup ("state_among" : Str) = some .globalImplicit := by decide +kernel
theorem gl_state_dict : (defScope s_state).names.lookup ("dict" : Str) = some .globalImplicit := by decide +kernel
theorem gl_frozen_frozen_among : (defScope s_frozen).names.lookup ("frozen_among" : Str) = some .globalImplicit := by decide +kernel
theorem gl_frozen_dict : (defScope s_frozen).names.lookup ("dict" : Str) = some .globalImplicit := by decide +kernel
theorem gl_state_among_sees : (defScope s_state_among).names.lookup ("sees" : Str) = some .globalImplicit := by decide +kernel
theorem gl_frozen_among_before : (defScope s_frozen_among).names.lookup ("before" : Str) = some .globalImplicit := by decide +kernel
theorem gl_l_hand_len : (defScope s_l_hand).names.lookup ("len" : Str) = some .globalImplicit := by decide +kernel
theorem gl_l_hand_abs : (defScope s_l_hand).names.lookup ("abs" : Str) = some .globalImplicit := by decide +kernel
theorem gl_l_hand_int : (defScope s_l_hand).names.lookup ("int" : Str) = some .globalImplicit := by decide +kernel
theorem gl_l_of_l_take : (defScope s_l_of).names.lookup ("_law_take" : Str) = some .globalImplicit := by decide +kernel
theorem gl_l_of_len : (defScope s_l_of).names.lookup ("len" : Str) = some .globalImplicit := by decide +kernel
theorem gl_l_size_l_of : (defScope s_l_size).names.lookup ("_law_of" : Str) = some .globalImplicit := by decide +kernel
theorem gl_l_size_l_take : (defScope s_l_size).names.lookup ("_law_take" : Str) = some .globalImplicit := by decide +kernel
theorem gl_l_world_l_take : (defScope s_l_world).names.lookup ("_law_take" : Str) = some .globalImplicit := by decide +kernel
theorem gl_l_world_min : (defScope s_l_world).names.lookup ("min" : Str) = some .globalImplicit := by decide +kernel
theorem gl_l_world_l_of : (defScope s_l_world).names.lookup ("_law_of" : Str) = some .globalImplicit := by decide +kernel
theorem gl_l_looks_tuple : (defScope s_l_looks).names.lookup ("tuple" : Str) = some .globalImplicit := by decide +kernel
theorem gl_l_looks_l_take : (defScope s_l_looks).names.lookup ("_law_take" : Str) = some .globalImplicit := by decide +kernel
theorem gl_l_fates_l_of : (defScope s_l_fates).names.lookup ("_law_of" : Str) = some .globalImplicit := by decide +kernel
theorem gl_l_fates_int : (defScope s_l_fates).names.lookup ("int" : Str) = some .globalImplicit := by decide +kernel
theorem gl_l_fates_tuple : (defScope s_l_fates).names.lookup ("tuple" : Str) = some .globalImplicit := by decide +kernel
theorem gl_l_kept_frozen : (defScope s_l_kept).names.lookup ("frozen" : Str) = some .globalImplicit := by decide +kernel
theorem gl_l_kept_state : (defScope s_l_kept).names.lookup ("state" : Str) = some .globalImplicit := by decide +kernel
theorem gl_l_again_frozen : (defScope s_l_again).names.lookup ("frozen" : Str) = some .globalImplicit := by decide +kernel
theorem gl_l_clean_frozen : (defScope s_l_clean).names.lookup ("frozen" : Str) = some .globalImplicit := by decide +kernel
theorem gl_l_clean_all : (defScope s_l_clean).names.lookup ("all" : Str) = some .globalImplicit := by decide +kernel
theorem gl_law_max : (defScope s_law).names.lookup ("max" : Str) = some .globalImplicit := by decide +kernel
theorem gl_law_min : (defScope s_law).names.lookup ("min" : Str) = some .globalImplicit := by decide +kernel
theorem gl_law_len : (defScope s_law).names.lookup ("len" : Str) = some .globalImplicit := by decide +kernel
theorem gl_law_l_again : (defScope s_law).names.lookup ("_law_again" : Str) = some .globalImplicit := by decide +kernel
theorem gl_law_l_of : (defScope s_law).names.lookup ("_law_of" : Str) = some .globalImplicit := by decide +kernel
theorem gl_law_l_clean : (defScope s_law).names.lookup ("_law_clean" : Str) = some .globalImplicit := by decide +kernel
theorem gl_law_l_kept : (defScope s_law).names.lookup ("_law_kept" : Str) = some .globalImplicit := by decide +kernel
theorem gl_law_l_hand : (defScope s_law).names.lookup ("_law_hand" : Str) = some .globalImplicit := by decide +kernel
theorem gl_law_l_size : (defScope s_law).names.lookup ("_law_size" : Str) = some .globalImplicit := by decide +kernel
theorem gl_law_l_world : (defScope s_law).names.lookup ("_law_world" : Str) = some .globalImplicit := by decide +kernel
theorem gl_law_l_fates : (defScope s_law).names.lookup ("_law_fates" : Str) = some .globalImplicit := by decide +kernel
theorem gl_law_l_looks : (defScope s_law).names.lookup ("_law_looks" : Str) = some .globalImplicit := by decide +kernel
theorem gl_law_all : (defScope s_law).names.lookup ("all" : Str) = some .globalImplicit := by decide +kernel
theorem bb_isinstance : bootBuiltins "isinstance" = some (.builtin "isinstance") := by decide +kernel
theorem bb_len : bootBuiltins "len" = some (.builtin "len") := by decide +kernel
theorem bb_all : bootBuiltins "all" = some (.builtin "all") := by decide +kernel
theorem bb_abs : bootBuiltins "abs" = some (.builtin "abs") := by decide +kernel
theorem bb_min : bootBuiltins "min" = some (.builtin "min") := by decide +kernel
theorem bb_max : bootBuiltins "max" = some (.builtin "max") := by decide +kernel
theorem bt_bool : bootBuiltins "bool" = some (.type "bool") := by decide +kernel
theorem bt_int : bootBuiltins "int" = some (.type "int") := by decide +kernel
theorem bt_tuple : bootBuiltins "tuple" = some (.type "tuple") := by decide +kernel
theorem bt_dict : bootBuiltins "dict" = some (.type "dict") := by decide +kernel
/-! ### what the top leaves, and what a def keeps -/
structure Tx (K : PySem.W.Frag) (mg : Str → Option Value) : Prop where
  len : mg "len" = none
  abs : mg "abs" = none
  int : mg "int" = none
  bool : mg "bool" = none
  min : mg "min" = none
  max : mg "max" = none
  all : mg "all" = none
  isinstance : mg "isinstance" = none
  range : mg "range" = none
  list : mg "list" = none
  tuple : mg "tuple" = none
  sorted : mg "sorted" = none
  set : mg "set" = none
  enumerate : mg "enumerate" = none
  repr : mg "repr" = none
  dict : mg "dict" = none
  zip : mg "zip" = none
  str : mg "str" = none
def freeNames : List Str := ["len", "abs", "int", "bool", "min", "max", "all", "isinstance", "range", "list", "tuple", "sorted", "set", "enumerate", "repr", "dict", "zip", "str"]
theorem tx_mk {K : PySem.W.Frag} {mg : Str → Option Value} (h : ∀ x ∈ freeNames, mg x = none) : Tx K mg :=
  ⟨h _ (by decide), h _ (by decide), h _ (by decide), h _ (by decide), h _ (by decide), h _ (by decide), h _ (by decide), h _ (by decide), h _ (by decide), h _ (by decide), h _ (by decide), h _ (by decide), h _ (by decide), h _ (by decide), h _ (by decide), h _ (by decide), h _ (by decide), h _ (by decide)⟩
/-- a def without defaults -/
structure Def0 (K : PySem.W.Frag) (mg : Str → Option Value) (x : Str) (st : Stmt) (ps : List Str) : Prop where
  ex : ∃ (f : Addr) (fd : FuncData), FunD K x x (defArgs st) (defBody st) (defScope st) [] [] f fd ∧ mg x = some (.ref f) ∧ Binds K fd ps []
/-- a def with keyword-only defaults: n values by place, the rest by name or left out -/
structure DefK (K : PySem.W.Frag) (mg : Str → Option Value) (x : Str) (st : Stmt) (ps : List Str) (n : Nat) (kws : List (Str × V)) : Prop where
  ex : ∃ (f : Addr) (fd : FuncData), FunD K x x (defArgs st) (defBody st) (defScope st) [] kws f fd ∧ mg x = some (.ref f) ∧ (∃ ds, Vals (kws.map (·.2)) ds ∧ Binds K fd ps ds) ∧ ∃ g, KBn K fd ps n (kws.map (·.1)) g (fun vs zs => vs ++ zs)
structure CalK (P : Program) (w : World) (K : PySem.W.Frag) (mg : Str → Option Value) (base : Heap) (k : Nat) (x : Str) (n : Nat) (ks : List Str) (sp : Sp) : Prop where
  ex : ∃ (f : Addr) (fd : FuncData) (ps : List Str) (g : List Value → List Value → List Value), FnOk P w K mg base CX0 k f fd ps sp ∧ mg x = some (.ref f) ∧ PySem.W.keepIn K (.ref f) = true ∧ KBn K fd ps n ks g (fun vs zs => vs ++ zs)
section
variable {P : Program} {w : World} {K : PySem.W.Frag} {mg : Str → Option Value} {base : Heap} {x : Str} {st : Stmt} {N ps : List Str} {k n : Nat} {sp : Sp} {kws : List (Str × V)}
/-- the body of a def, as its rule asks it -/
def BodyOk (P : Program) (w : World) (K : PySem.W.Frag) (mg : Str → Option Value) (base : Heap) (x : Str) (st : Stmt) (N : List Str) (k : Nat) (sp : Sp) : Prop :=
  ∀ (f : Addr) (cdv : Value) (A : Around) (outer : List Env) (s : Shared) (H : Hp) (vs : List V) (Q : VK) (E : XK), Room k (A.deeper (envOfC x (defScope st) s.heap.objs.size f cdv)) → sp vs H Q E →
      ∃ t, PSs (cxOf CX0 P w K mg base N x (defScope st) f cdv A outer s H E).nox (defBody st) t ∧ t { nx := fun _ H' => Q .non H', rt := Q } (start N vs) H
theorem Def0.cal (D : Def0 K mg x st ps) (S : FnScope N ps (defScope st)) (len : ∀ vs H Q E, sp vs H Q E → vs.length = ps.length) (hb : BodyOk P w K mg base x st N k sp) : C8.Cal P w K mg base (k + 1) x sp [] := by
  obtain ⟨f, fd, F, g, b⟩ := D.ex
  refine ⟨f, fd, ps, [], F.ok (CX := CX0) S len (fun cdv A outer s H vs Q E hr h => ?_), g, F.kp, b, .nil⟩
  obtain ⟨t, h1, h2⟩ := hb f cdv A outer s H vs Q E hr h
  exact ⟨t, h1.nox, h2⟩
theorem DefK.ok (D : DefK K mg x st ps n kws) (S : FnScope N ps (defScope st)) (len : ∀ vs H Q E, sp vs H Q E → vs.length = ps.length) (hb : BodyOk P w K mg base x st N k sp) :
    CalK P w K mg base (k + 1) x n (kws.map (·.1)) sp ∧ C8.Cal P w K mg base (k + 1) x sp (kws.map (·.2)) := by
  obtain ⟨f, fd, F, g, ⟨ds, hd, b⟩, gg, kb⟩ := D.ex
  have h : FnOk P w K mg base CX0 (k + 1) f fd ps sp := F.ok (CX := CX0) S len (fun cdv A outer s H vs Q E hr h => by
    obtain ⟨t, h1, h2⟩ := hb f cdv A outer s H vs Q E hr h
    exact ⟨t, h1.nox, h2⟩)
  exact ⟨⟨f, fd, ps, gg, h, g, F.kp, kb⟩, ⟨f, fd, ps, ds, h, g, F.kp, b, hd⟩⟩
end
section
variable {X : Cx} {k j n : Nat} {ks : List Str} {sp : Sp} {x : Str} {p pos : Pos} {e : Expr} {es : List Expr} {kws : List Keyword} {t tk : TA}
theorem pe_ck (c : CalK X.prog X.w X.K X.mg X.base k x n ks sp) (hr : Room j X.A) (hk : k ≤ j) (hg : Gl X x) (ha : PA X (e :: es) t) (hkw : PK X kws tk) (hall : (backToKw pos (keywordEach kws X.env)).all (·.1.isSome) = true := by rfl) (hks : (backToKw pos (keywordEach kws X.env)).filterMap (·.1) = ks := by rfl)
    (hdb : (x == ("__debug__" : Str)) = false := by decide) (he : starEach (e :: es) X.env = (false, eval e X.env) :: starEach es X.env := by rfl)
    (hpl : ((backTo pos (starEach (e :: es) X.env)).any (·.1) || (backToKw pos (keywordEach kws X.env)).any (·.1.isNone)) = false := by rfl) :
    PE X (.Call (.Name x p) (e :: es) kws pos) (tCallN n ks.length sp (fun vs zs => vs ++ zs) E0 t tk) := by
  obtain ⟨f, fd, ps, g, F, hm, kp, kb⟩ := c.ex
  exact pe_callN F (hr.mono hk) hg hm kp kb pass0 ha hkw hall hks hdb he hpl
end
/-! ### heaps: all but the drawing hand stands -/
def Fr (h : Addr) (H H' : Hp) : Prop := ∀ a o, a ≠ h → H a = some o → H' a = some o
theorem Fr.refl (h : Addr) (H : Hp) : Fr h H H := fun _ _ _ e => e
theorem Fr.trans {h : Addr} {H H1 H2 : Hp} (a : Fr h H H1) (b : Fr h H1 H2) : Fr h H H2 := fun x o n e => b x o n (a x o n e)
theorem Fr.new {h : Addr} {H : Hp} {p : Addr} {o : HO} (e : H p = none) : Fr h H (upd H p o) := fun a u _ q => by
  rw [upd_ne (ne_of_none q e)]
  exact q
/-- what h did not know may change -/
theorem Fr.mut {h : Addr} {H H' : Hp} {p : Addr} {o : HO} (f : Fr h H H') (e : H p = none) : Fr h H (upd H' p o) := fun a u n q => by
  rw [upd_ne (ne_of_none q e)]
  exact f a u n q
theorem Fr.hand {h : Addr} {H : Hp} {o : HO} : Fr h H (upd H h o) := fun a u n q => by
  rw [upd_ne n]
  exact q
theorem Fr.seq {h : Addr} {K : PySem.W.Frag} {H H' : Hp} {a : Addr} {xs : List V} (f : Fr h H H') (n : a ≠ h) (q : SqL K H a xs) : SqL K H' a xs := by
  rcases q with (q | ⟨o, q⟩) | q
  · exact .inl (.inl (f _ _ n q))
  · exact .inl (.inr ⟨o, f _ _ n q⟩)
  · exact .inr q
theorem Fr.seqT {h : Addr} {K : PySem.W.Frag} {H H' : Hp} {a : Addr} {xs : List V} (f : Fr h H H') (n : a ≠ h) (q : SqT K H a xs) : SqT K H' a xs := by
  rcases q with (q | ⟨o, q⟩) | q
  · exact .inl (.inl (f _ _ n q))
  · exact .inl (.inr ⟨o, f _ _ n q⟩)
  · exact .inr q
/-- the hand: three numbers; n bounds how often it drew -/
def HS (h : Addr) (n : Nat) (H : Hp) : Prop := ∃ g b c : Int, H h = some (.lst [.int g, .int b, .int c]) ∧ 0 ≤ g ∧ g < 10 ^ 90 ∧ 0 ≤ b ∧ b < 2 ^ 62 ∧ 0 ≤ c ∧ c ≤ n
theorem HS.mono {h : Addr} {n m : Nat} {H : Hp} (q : HS h n H) (l : n ≤ m) : HS h m H := by
  obtain ⟨g, b, c, e, g0, g1, b0, b1, c0, c1⟩ := q
  exact ⟨g, b, c, e, g0, g1, b0, b1, c0, by omega⟩
theorem HS.new {h : Addr} {n : Nat} {H : Hp} {p : Addr} {o : HO} (q : HS h n H) (e : H p = none) : HS h n (upd H p o) := by
  obtain ⟨g, b, c, eh, r⟩ := q
  exact ⟨g, b, c, (by rw [upd_ne (ne_of_none eh e)]; exact eh), r⟩
theorem HS.at {h : Addr} {n : Nat} {H : Hp} (q : HS h n H) : ∃ o, H h = some o := by
  obtain ⟨g, b, c, e, _⟩ := q
  exact ⟨_, e⟩
theorem HS.ne {h : Addr} {n : Nat} {H : Hp} {p : Addr} (q : HS h n H) (e : H p = none) : p ≠ h := by
  obtain ⟨g, b, c, eh, _⟩ := q
  exact fun z => by
    rw [z, eh] at e
    cases e
/-! ### the drawing defs of the law -/
def lim : Nat := 100000
/-- hand(script, k) -/
def spHand (K : PySem.W.Frag) : Sp := fun vs H Q _ => ∃ (a : Addr) (ns : List Int) (k : Nat), vs = [.ref a, .int k] ∧ SqL K H a (ns.map V.int) ∧ k ≤ 100 ∧ ∀ p H', H p = none → (∀ q o, H q = some o → H' q = some o) → HS p 0 H' → Q (.ref p) H'
/-- take(hand, many): some number below many -/
def spTake : Sp := fun vs H Q _ => ∃ (h : Addr) (m : Int) (n : Nat), vs = [.ref h, .int m] ∧ HS h n H ∧ n < lim ∧ 0 < m ∧ m ≤ 10 ^ 18 ∧ ∀ d H', 0 ≤ d → d < m → HS h (n + 1) H' → Fr h H H' → Q (.int d) H'
/-- of(hand, some) -/
def spOf (K : PySem.W.Frag) : Sp := fun vs H Q _ => ∃ (h a : Addr) (xs : List V) (n : Nat), vs = [.ref h, .ref a] ∧ HS h n H ∧ n < lim ∧ a ≠ h ∧ SqL K H a xs ∧ 0 < xs.length ∧ xs.length ≤ 1000 ∧ ∀ v H', v ∈ xs → HS h (n + 1) H' → Fr h H H' → Q v H'
/-! ### calls by any of the keywords -/
structure CalW (P : Program) (w : World) (K : PySem.W.Frag) (mg : Str → Option Value) (base : Heap) (k : Nat) (x : Str) (n : Nat) (ks : List Str) (gV : List V → List V → List V) (sp : Sp) : Prop where
  ex : ∃ (f : Addr) (fd : FuncData) (ps : List Str) (g : List Value → List Value → List Value), FnOk P w K mg base CX0 k f fd ps sp ∧ mg x = some (.ref f) ∧ PySem.W.keepIn K (.ref f) = true ∧ KBn K fd ps n ks g gV
section
variable {X : Cx} {k j n : Nat} {ks : List Str} {gV : List V → List V → List V} {sp : Sp} {x : Str} {p pos : Pos} {e : Expr} {es : List Expr} {kws : List Keyword} {t tk : TA}
theorem pe_cw (c : CalW X.prog X.w X.K X.mg X.base k x n ks gV sp) (hr : Room j X.A) (hk : k ≤ j) (hg : Gl X x) (ha : PA X (e :: es) t) (hkw : PK X kws tk) (hall : (backToKw pos (keywordEach kws X.env)).all (·.1.isSome) = true := by rfl) (hks : (backToKw pos (keywordEach kws X.env)).filterMap (·.1) = ks := by rfl)
    (hdb : (x == ("__debug__" : Str)) = false := by decide) (he : starEach (e :: es) X.env = (false, eval e X.env) :: starEach es X.env := by rfl)
    (hpl : ((backTo pos (starEach (e :: es) X.env)).any (·.1) || (backToKw pos (keywordEach kws X.env)).any (·.1.isNone)) = false := by rfl) :
    PE X (.Call (.Name x p) (e :: es) kws pos) (tCallN n ks.length sp gV E0 t tk) := by
  obtain ⟨f, fd, ps, g, F, hm, kp, kb⟩ := c.ex
  exact pe_callN F (hr.mono hk) hg hm kp kb pass0 ha hkw hall hks hdb he hpl
end
theorem vals_getD {zs : List V} {ws : List Value} (r : Vals zs ws) (i : Nat) : RelV (zs.getD i .non) (ws.getD i .none) := by
  induction r generalizing i with
  | nil => exact rfl
  | cons h t ih =>
    cases i with
    | zero => exact h
    | succ i => exact ih i
theorem kw_mk {K : PySem.W.Frag} {x qual : Str} {params : Arguments} {body : List Stmt} {scope : Scope} {kws : List (Str × V)} {f : Addr} {fd : FuncData} {ps : List Str} (F : FunD K x qual params body scope [] kws f fd) (hk : kws ≠ []) (n : Nat) (ks : List Str) (miss : List (Str × V)) (hm : ∀ q ∈ miss, q ∈ kws)
    (mix : List Value → List Value → List Value → List Value) (mixV : List V → List V → List V → List V) (hr : ∀ {vs : List V} {us : List Value} {zs : List V} {ws : List Value} {es : List V} {ds : List Value}, Vals vs us → Vals zs ws → Vals es ds → Vals (mixV vs zs es) (mix us ws ds))
    (h : ∀ (D : Addr) (doc pm : Value) (an : Option Addr) (cdv ct : Value) (us ws ds : List Value), us.length = n → ws.length = ks.length → ds.length = miss.length →
      KwChain D ((miss.map (·.1)).zip ds) (bindArgs (PySem.W.fnOf x qual params body scope .none (.ref D) doc pm an cdv ct) ⟨us, ks.zip ws⟩) (ps.zip (mix us ws ds))) : ∃ g, KBn K fd ps n ks g (fun vs zs => mixV vs zs (miss.map (·.2))) := by
  obtain ⟨oc, od, dV, kV, doc, pm, an, cdv, ct, osl, rfl, lk, hcd, hD, hK⟩ := F.ex
  rcases hD with ⟨_, rfl⟩ | ⟨e, _⟩
  · rcases hK with e | ⟨D, rfl, hq⟩
    · exact absurd e hk
    · obtain ⟨ds, hl, rk, hks⟩ := kwd_vals (ms := miss) fun q hq' => hq q (hm q hq')
      refine ⟨fun us ws => mix us ws ds, ⟨fun s us ws X l1 l2 => ?_, fun r1 r2 => hr r1 r2 rk⟩⟩
      exact BindsTo.of_looks fun M => KwChain.looks X hks (h D doc pm an cdv ct us ws ds l1 l2 hl)
  · exact absurd rfl e
theorem pow_ok {i j : Int} (h : 0 ≤ j ∧ j ≤ 1000000 ∧ i.natAbs < 2 ^ 64) : CPow i j := h
theorem atI_in {xs : List V} {i : Int} (h0 : 0 ≤ i) (h1 : i < xs.length) : ∃ v, atI xs i = some v ∧ v ∈ xs := by
  have h2 : i.toNat < xs.length := by omega
  refine ⟨xs[i.toNat], ?_, List.getElem_mem h2⟩
  have e := atI_nat (xs := xs) (j := i.toNat) (List.getElem?_eq_getElem h2)
  rw [Int.toNat_of_nonneg h0] at e
  exact e
theorem if01 (b : Bool) : 0 ≤ (if b = true then (1 : Int) else 0) ∧ (if b = true then (1 : Int) else 0) ≤ 1 := by
  cases b <;> decide
theorem w45 : (((10 : Int) ^ (45 : Int).toNat).natAbs) < 2 ^ 150 := by decide +kernel
theorem e90 : ((10 : Int) ^ (45 : Int).toNat) * ((10 : Int) ^ (45 : Int).toNat) = 10 ^ 90 := by decide +kernel
theorem p17 : ((10 : Int) ^ (17 : Int).toNat) = 100000000000000000 := by decide +kernel
theorem p18 : ((10 : Int) ^ (18 : Int).toNat) = 1000000000000000000 := by decide +kernel
theorem p19 : ((2 : Int) ^ (19 : Int).toNat) = 524288 := by decide +kernel
theorem p20 : ((2 : Int) ^ (20 : Int).toNat) = 1048576 := by decide +kernel
theorem cdw {i j : Int} (h : 0 < j) (h1 : j ≤ 1000000000000000000) : CDivW i j := wide_div (b := 64) h (by omega) (by decide) (by decide)
section
variable {P : Program} {w : World} {K : PySem.W.Frag} {mg : Str → Option Value} {base : Heap}
theorem ok_hand (T : Tx K mg) : BodyOk P w K mg base "_law_hand" s_l_hand N_l_hand 0 (spHand K) := by
  intro f cdv A outer s H vs Q E hr h
  obtain ⟨a, ns, k, rfl, hS, hk, q⟩ := h
  refine ⟨_, (pss_cons (ps_set (i := 2) sc_l_hand.nd rfl (Or.inl rfl) (pe_ifExp (pt_cmpR op_lt (pv 1) (pe_callB call_len_seq (gl_of gl_l_hand_len) T.len bb_len (pa_cons (pv 0) pa_nil)) (nomark _)) (pe_ix ix_list (pv 0) (pv 1) (fun _ _ => rfl)) pe_int))
      (pss_cons (ps_set (i := 3) sc_l_hand.nd rfl (Or.inl rfl) (pe_op op_mul (pe_op op_mod (pe_callB call_abs (gl_of gl_l_hand_abs) T.abs bb_abs (pa_cons (pv 2) pa_nil)) (pe_op op_mulW (pe_op op_pow pe_int pe_int) (pe_op op_pow pe_int pe_int))) (pe_callTy call_int1 (gl_of gl_l_hand_int) T.int bt_int (pa_cons (pe_cmpR op_ge (pe_callB call_abs (gl_of gl_l_hand_abs) T.abs bb_abs (pa_cons (pv 2) pa_nil)) (pe_op op_pow pe_int pe_int) (nomark _)) pa_nil))))
      (pss_one (ps_ret (pe_lst (pa_cons (pv 3) (pa_cons (pe_op op_add (pe_op op_add (pe_op op_mod (pv 2) pe_int) (pe_op op_mul pe_int (pv 1))) pe_int) (pa_cons pe_int pa_nil)))))))), ?_⟩
  refine st_seq (st_setH (PV := fun v H' => H' = H ∧ ∃ c : Int, v = .int c) (fun Q2 q2 => ?_) (fun v H' hv => ?_))
  · refine ⟨_, rfl, _, rfl, a, _, rfl, .inl hS, _, _, rfl, rfl, _, rfl, ite2 (fun e => ?_) (fun e => ?_)⟩
    · have e1 := of_decide_eq_true e
      rw [List.length_map] at e1
      have e2 : k < ns.length := by omega
      refine ⟨_, rfl, _, rfl, a, _, _, .int ns[k], rfl, rfl, hS, ?_, q2 _ _ ⟨rfl, _, rfl⟩⟩
      refine atI_nat ?_
      rw [List.getElem?_map, List.getElem?_eq_getElem e2]
      rfl
    · exact q2 _ _ ⟨rfl, _, rfl⟩
  · obtain ⟨rfl, c, rfl⟩ := hv
    refine st_seq ?_
    refine ⟨_, rfl, _, rfl, _, _, rfl, rfl, pow_ok (by decide), _, _, rfl, rfl, pow_ok (by decide), _, _, rfl, rfl, wide_mul w45 w45 (by decide) (by decide) (by decide), _, _, rfl, rfl, ?_, ?_⟩
    · rw [e90]
      show (0 : Int) < 10 ^ 90
      decide
    · refine ⟨_, rfl, _, rfl, _, _, rfl, rfl, pow_ok (by decide), _, _, rfl, rfl, .inr ⟨_, rfl, _, _, rfl, rfl, .inr ?_, ?_⟩⟩
      · have z := if01 (decide (((10 : Int) ^ (18 : Int).toNat) ≤ (if c < 0 then -c else c)))
        exact ⟨Int.lt_of_lt_of_le (by decide) z.1, Int.lt_of_le_of_lt z.2 (by decide)⟩
      · refine ⟨_, rfl, _, rfl, _, _, rfl, rfl, (show (0 : Int) < 2305843009213693951 by decide), _, rfl, _, _, rfl, rfl, .inl (by decide), _, _, rfl, rfl, _, _, rfl, rfl, by show 3 ≤ sizeLine; decide, fun p np => ?_⟩
        refine q _ _ np (fun b o e => ?_) ⟨_, _, _, upd_same, ?_, ?_, ?_, ?_, ?_, ?_⟩
        · rw [upd_ne (ne_of_none e np)]
          exact e
        · rw [e90]
          exact Int.mul_nonneg (Int.emod_nonneg _ (by decide)) (if01 _).1
        · rw [e90]
          have h1 : (if c < 0 then -c else c) % (10 ^ 90) < 10 ^ 90 := Int.emod_lt_of_pos _ (by decide)
          have h0 : 0 ≤ (if c < 0 then -c else c) % (10 ^ 90) := Int.emod_nonneg _ (by decide)
          cases (decide (((10 : Int) ^ (18 : Int).toNat) ≤ (if c < 0 then -c else c))) with
          | true =>
            rw [if_pos rfl, Int.mul_one]
            exact h1
          | false =>
            rw [if_neg Bool.false_ne_true, Int.mul_zero]
            decide
        · have h1 : 0 ≤ c % 2305843009213693951 := Int.emod_nonneg _ (by decide)
          omega
        · have h1 : c % 2305843009213693951 < 2305843009213693951 := Int.emod_lt_of_pos _ (by decide)
          have h2 : (2 : Int) ^ 62 = 4611686018427387904 := by decide
          omega
        · decide
        · decide
def primes : List V := [.int 2147483647, .int 2147483629, .int 2147483587, .int 2147483579, .int 2147483563, .int 2147483549, .int 2147483543, .int 2147483497]
theorem primes_in : ∀ v ∈ primes, ∃ q : Int, v = .int q ∧ 0 < q ∧ q < 2147483648 := by
  intro v hv
  simp only [primes, List.mem_cons, List.not_mem_nil, or_false] at hv
  rcases hv with rfl | rfl | rfl | rfl | rfl | rfl | rfl | rfl <;> exact ⟨_, rfl, by decide, by decide⟩
theorem ok_take (T : Tx K mg) : BodyOk P w K mg base "_law_take" s_l_take N_l_take 0 spTake := by
  intro f cdv A outer s H vs Q E hr h
  obtain ⟨h, m, n, rfl, ⟨g, b, c, eh, g0, g1, b0, b1, c0, c1⟩, hn, m0, m1, q⟩ := h
  refine ⟨_, (pss_cons (ps_if (pt_cmpR op_gt (pe_ix ix_list (pv 0) pe_int (fun _ _ => rfl)) pe_int (nomark _)) (pss_cons (ps_set (i := 2) sc_l_take.nd rfl (Or.inl rfl) (pe_op op_mod (pe_ix ix_list (pv 0) pe_int (fun _ _ => rfl)) (pv 1)))
      (pss_cons (ps_asg (pe_op op_fdivW (pe_ix ix_list (pv 0) pe_int (fun _ _ => rfl)) (pv 1)) (pg_sub (pv 0) pe_int set_list))
      (pss_one (ps_ret (pv 2))))) pss_nil)
      (pss_cons (ps_asg (pe_op op_add (pe_ix ix_list (pv 0) pe_int (fun _ _ => rfl)) pe_int) (pg_sub (pv 0) pe_int set_list))
      (pss_cons (ps_set (i := 3) sc_l_take.nd rfl (Or.inl rfl) (pe_lst (pa_cons pe_int (pa_cons pe_int (pa_cons pe_int (pa_cons pe_int (pa_cons pe_int (pa_cons pe_int (pa_cons pe_int (pa_cons pe_int pa_nil))))))))))
      (pss_cons (ps_set (i := 4) sc_l_take.nd rfl (Or.inl rfl) (pe_ix ix_list (pv 3) (pe_op op_mod (pe_ix ix_list (pv 0) pe_int (fun _ _ => rfl)) pe_int) (fun _ _ => rfl)))
      (pss_cons (ps_set (i := 5) sc_l_take.nd rfl (Or.inl rfl) (pe_op op_mod (pe_op op_pow (pe_op op_add (pe_ix ix_list (pv 0) pe_int (fun _ _ => rfl)) (pe_op op_mul pe_int (pe_ix ix_list (pv 0) pe_int (fun _ _ => rfl)))) pe_int) (pv 4)))
      (pss_one (ps_ret (pe_op op_mod (pe_op op_fdivW (pe_op op_mod (pe_op op_mul (pv 5) (pe_op op_add (pe_op op_mod (pv 5) pe_int) (pe_ix ix_list (pv 0) pe_int (fun _ _ => rfl)))) (pv 4)) pe_int) (pv 1))))))))), ?_⟩
  have hn2 : (n : Int) < 100000 := by
    have z : n < 100000 := hn
    omega
  have p18' : (10 : Int) ^ 18 = 1000000000000000000 := by decide
  have p62 : (2 : Int) ^ 62 = 4611686018427387904 := by decide
  refine st_seq ?_
  refine ⟨_, rfl, h, _, _, _, rfl, rfl, SqL.of eh, rfl, _, _, rfl, rfl, _, rfl, ite2 (fun z => ?_) (fun z => ?_)⟩
  · refine ⟨_, rfl, h, _, _, _, rfl, rfl, SqL.of eh, rfl, _, rfl, _, _, rfl, rfl, m0, ?_⟩
    refine ⟨_, rfl, h, _, _, _, rfl, rfl, SqL.of eh, rfl, _, rfl, _, _, rfl, rfl, cdw m0 (by omega), ?_⟩
    refine ⟨_, rfl, h, _, _, 0, rfl, rfl, eh, rfl, ?_⟩
    refine ⟨_, rfl, q _ _ (Int.emod_nonneg _ (by omega)) (Int.emod_lt_of_pos _ m0) ⟨_, b, c, upd_same, ?_, ?_, b0, b1, c0, ?_⟩ Fr.hand⟩
    · exact Int.ediv_nonneg g0 (by omega)
    · exact Int.lt_of_le_of_lt (Int.ediv_le_self _ g0) g1
    · omega
  · refine st_seq ?_
    refine ⟨_, rfl, h, _, _, _, rfl, rfl, SqL.of eh, rfl, _, _, rfl, rfl, _, rfl, h, _, _, 2, rfl, rfl, eh, rfl, ?_⟩
    have e2 : (upd H h (.lst [.int g, .int b, .int (c + 1)])) h = some (.lst [.int g, .int b, .int (c + 1)]) := upd_same
    refine st_seq ⟨by show 8 ≤ sizeLine; decide, fun p np => ?_⟩
    have hpn : h ≠ p := ne_of_none e2 np
    have e3 : (upd (upd H h (.lst [.int g, .int b, .int (c + 1)])) p (.lst primes)) h = some (.lst [.int g, .int b, .int (c + 1)]) := by
      rw [upd_ne hpn]
      exact e2
    obtain ⟨v, ev, hv⟩ := atI_in (xs := primes) (i := (c + 1) % 8) (Int.emod_nonneg _ (by decide)) (Int.emod_lt_of_pos _ (by decide))
    obtain ⟨r, rfl, r0, r1⟩ := primes_in v hv
    refine st_seq ?_
    refine ⟨_, rfl, _, rfl, h, _, _, _, rfl, rfl, SqL.of e3, rfl, _, _, rfl, rfl, (show (0 : Int) < 8 by decide), p, _, _, _, rfl, rfl, SqL.of upd_same, ev, ?_⟩
    refine st_seq ?_
    refine ⟨_, rfl, h, _, _, _, rfl, rfl, SqL.of e3, rfl, _, rfl, h, _, _, _, rfl, rfl, SqL.of e3, rfl, _, _, rfl, rfl, .inl (by decide), _, _, rfl, rfl, _, _, rfl, rfl, pow_ok ⟨by decide, by decide, by omega⟩, _, rfl, _, _, rfl, rfl, r0, ?_⟩
    refine ⟨_, rfl, _, rfl, _, _, rfl, rfl, (show (0 : Int) < 1009 by decide), _, rfl, h, _, _, _, rfl, rfl, SqL.of e3, rfl, _, _, rfl, rfl, _, _, rfl, rfl, .inl ?_, _, rfl, _, _, rfl, rfl, r0, _, _, rfl, rfl, cdw (by decide) (by decide), _, rfl, _, _, rfl, rfl, m0, ?_⟩
    · have h1 : 0 ≤ (b + 7919 * (c + 1)) ^ (5 : Int).toNat % r := Int.emod_nonneg _ (by omega)
      have h2 : (b + 7919 * (c + 1)) ^ (5 : Int).toNat % r < r := Int.emod_lt_of_pos _ r0
      have h3 : (2 : Int) ^ 64 = 18446744073709551616 := by decide
      rw [h3]
      exact ⟨by omega, by omega⟩
    · refine q _ _ (Int.emod_nonneg _ (by omega)) (Int.emod_lt_of_pos _ m0) ⟨g, b, c + 1, e3, g0, g1, b0, b1, by omega, by omega⟩ (Fr.trans Fr.hand (Fr.new np))
end
/-! ### the law's own going round -/
def wayI (x y s : Int) : Int := if x ≤ y then y - x else y - x + s
theorem way_eq {x y s : Int} (x0 : 0 ≤ x) (x1 : x < s) (y0 : 0 ≤ y) (y1 : y < s) : (y - x) % s = wayI x y s := by
  unfold wayI
  split
  · rw [Int.emod_eq_of_lt (by omega) (by omega)]
  · have z : (y - x) % s = (y - x + s) % s := by
      rw [Int.add_emod_right]
    rw [z, Int.emod_eq_of_lt (by omega) (by omega)]
theorem HS.same {h : Addr} {n : Nat} {H H' : Hp} (q : HS h n H) (e : Same H H') : HS h n H' := by
  obtain ⟨g, b, c, eh, r⟩ := q
  exact ⟨g, b, c, e _ _ eh, r⟩
theorem Fr.same {h : Addr} {H H' : Hp} (e : Same H H') : Fr h H H' := fun a o _ q => e a o q
theorem same_new {H : Hp} {p : Addr} {o : HO} (h : H p = none) : Same H (upd H p o) := fun b x e => by
  rw [upd_ne (ne_of_none e h)]
  exact e
theorem seq_new {K : PySem.W.Frag} {H H' : Hp} {a p : Addr} {xs : List V} (q : SqL K H a xs) (e : H p = none) (f : Fr p H H') : SqL K H' a xs := by
  rcases q with (q | ⟨o, q⟩) | q
  · exact .inl (.inl (f _ _ (ne_of_none q e) q))
  · exact .inl (.inr ⟨o, f _ _ (ne_of_none q e) q⟩)
  · exact .inr q
theorem all_rep (n : Nat) : (List.replicate n true).all id = true := by
  rw [List.all_eq_true]
  intro x hx
  exact (List.eq_of_mem_replicate hx)
theorem if_join {c : TT} {t1 t2 : TS} {D : Ends} {σ : L2.St} {H : Hp} (J : L2.St → Hp → Prop) (h : ∀ (N : L2.St → Hp → Prop), (∀ σ' H', J σ' H' → N σ' H') → tIfS c t1 t2 { D with nx := N } σ H) (q : ∀ σ' H', J σ' H' → D.nx σ' H') : tIfS c t1 t2 D σ H := h D.nx q
def spLaw (K : PySem.W.Frag) : Sp := fun vs H Q _ => ∃ (a : Addr) (ns : List Int), vs = [.ref a] ∧ SqL K H a (ns.map V.int) ∧ ns.length ≤ 63 ∧ ∀ H', Q (.bl true) H'
section
variable {P : Program} {w : World} {K : PySem.W.Frag} {mg : Str → Option Value} {base : Heap}
def spSize : Sp := fun vs H Q _ => ∃ (h : Addr) (n : Nat), vs = [.ref h] ∧ HS h n H ∧ n + 3 < lim ∧ ∀ s H', 8 ≤ s → s ≤ 1048576 → s % 2 = 0 → HS h (n + 3) H' → Fr h H H' → Q (.int s) H'
theorem ok_size (T : Tx K mg) (c_l_take : C8.Cal P w K mg base 1 "_law_take" spTake []) (c_l_of : C8.Cal P w K mg base 2 "_law_of" (spOf K) []) : BodyOk P w K mg base "_law_size" s_l_size N_l_size 2 spSize := by
  intro f cdv A outer s H vs Q E hr h
  obtain ⟨h, n, rfl, hs, hn, q⟩ := h
  have hn2 : n + 3 < 100000 := hn
  refine ⟨_, (pss_cons (ps_set (i := 1) sc_l_size.nd rfl (Or.inl rfl) (C8.pe_c c_l_of hr (by decide) (gl_of gl_l_size_l_of) (pa_cons (pv 0) (pa_cons (pe_lst (pa_cons pe_int (pa_cons pe_int (pa_cons pe_int (pa_cons pe_int (pa_cons pe_int (pa_cons pe_int pa_nil))))))) pa_nil))))
      (pss_one (ps_ret (C8.pe_c c_l_of hr (by decide) (gl_of gl_l_size_l_of) (pa_cons (pv 0) (pa_cons (pe_lst (pa_cons (pv 1) (pa_cons (pv 1) (pa_cons (pv 1) (pa_cons pe_int (pa_cons (pe_op op_pow pe_int pe_int) (pa_cons (pe_op op_add pe_int (pe_op op_mul pe_int (C8.pe_c c_l_take hr (by decide) (gl_of gl_l_size_l_take) (pa_cons (pv 0) (pa_cons pe_int pa_nil))))) pa_nil))))))) pa_nil)))))), ?_⟩
  refine st_seq ?_
  refine ⟨_, rfl, (show 6 ≤ sizeLine by decide), fun p np => ?_⟩
  refine ⟨h, p, _, n, rfl, hs.new np, (show n < 100000 by omega), hs.ne np, SqL.of upd_same, (show 0 < 6 by decide), (show 6 ≤ 1000 by decide), fun v H1 hv hs1 f1 => ?_⟩
  have hx : ∃ z : Int, v = .int z ∧ 8 ≤ z ∧ z ≤ 1048576 ∧ z % 2 = 0 := by
    simp only [List.mem_cons, List.not_mem_nil, or_false] at hv
    rcases hv with rfl | rfl | rfl | rfl | rfl | rfl <;> exact ⟨_, rfl, by decide, by decide, by decide⟩
  obtain ⟨z, rfl, z0, z1, z2⟩ := hx
  have f01 : Fr h H H1 := (Fr.new np).trans f1
  refine ⟨_, rfl, _, rfl, _, rfl, _, rfl, _, _, rfl, rfl, pow_ok (by decide), _, rfl, h, 300, n + 1, rfl, hs1, (show n + 1 < 100000 by omega), by decide, by decide, fun d H2 d0 d1 hs2 f2 => ?_⟩
  refine ⟨_, _, rfl, rfl, .inl (by decide), _, _, rfl, rfl, (show 6 ≤ sizeLine by decide), fun p2 np2 => ?_⟩
  refine ⟨h, p2, [.int z, .int z, .int z, .int 64, .int (2 ^ (20 : Int).toNat), .int (8 + 2 * d)], n + 1 + 1, rfl, hs2.new np2, (show n + 1 + 1 < 100000 by omega), hs2.ne np2, SqL.of upd_same, (show 0 < 6 by decide), (show 6 ≤ 1000 by decide), fun v H4 hv hs4 f4 => ?_⟩
  have hx : ∃ z : Int, v = .int z ∧ 8 ≤ z ∧ z ≤ 1048576 ∧ z % 2 = 0 := by
    simp only [p20, List.mem_cons, List.not_mem_nil, or_false] at hv
    rcases hv with rfl | rfl | rfl | rfl | rfl | rfl <;> exact ⟨_, rfl, by omega, by omega, by omega⟩
  obtain ⟨y, rfl, y0, y1, y2⟩ := hx
  exact q y H4 y0 y1 y2 hs4 ((f01.trans f2).trans ((Fr.new np2).trans f4))
end
/-! ### the ring's defs -/
def spOn : Sp := fun vs H Q _ => ∃ x m s : Int, vs = [.int x, .int m, .int s] ∧ 0 < s ∧ Q (.int ((x + m) % s)) H
def spSteps : Sp := fun vs H Q _ => ∃ x y s : Int, vs = [.int x, .int y, .int s] ∧ 0 < s ∧ Q (.int ((y - x) % s)) H
section
variable {P : Program} {w : World} {K : PySem.W.Frag} {mg : Str → Option Value} {base : Heap}
theorem ok_steps : BodyOk P w K mg base "steps" s_steps N_steps 0 spSteps := by
  intro f cdv A outer s H vs Q E hr h
  obtain ⟨x, y, s, rfl, s0, q⟩ := h
  refine ⟨_, (pss_one (ps_ret (pe_op op_mod (pe_op op_sub (pv 1) (pv 0)) (pv 2)))), ?_⟩
  exact ⟨_, rfl, _, rfl, _, _, rfl, rfl, _, rfl, _, _, rfl, rfl, s0, q⟩
def spBefore : Sp := fun vs H Q _ => ∃ x y s : Int, vs = [.int x, .int y, .int s] ∧ 0 < s ∧ s ≤ 1048576 ∧ Q (.bl (decide (0 < (y - x) % s) && decide ((y - x) % s < s / 2))) H
theorem ok_before (k_steps : CalK P w K mg base 1 "steps" 2 ["ring"] spSteps) : BodyOk P w K mg base "before" s_before N_before 1 spBefore := by
  intro f cdv A outer s H vs Q E hr h
  obtain ⟨x, y, s, rfl, s0, s1, q⟩ := h
  refine ⟨_, (pss_one (ps_ret (pe_chain op_lt op_lt pe_int (pe_ck k_steps hr (by decide) (gl_of gl_before_steps) (pa_cons (pv 0) (pa_cons (pv 1) pa_nil)) (pk_cons (pv 2) pk_nil)) (pe_op op_fdivW (pv 2) pe_int)))), ?_⟩
  refine ⟨_, rfl, _, rfl, _, rfl, rfl, rfl, x, y, s, rfl, s0, _, _, rfl, rfl, _, rfl, ite2 (fun z => ?_) (fun z => ?_)⟩
  · refine ⟨_, rfl, _, _, rfl, rfl, cdw (by decide) (by decide), _, _, rfl, rfl, ?_⟩
    rw [z, Bool.true_and] at q
    exact q
  · rw [Bool.eq_false_iff.mpr z, Bool.false_and] at q
    exact q
end
/-! ### looks -/
def bef (x y s : Int) : Bool := decide (0 < (y - x) % s) && decide ((y - x) % s < s / 2)
def don (z : Str) (c : Int) (xs : List Int) (n s : Int) : Bool := decide (V.str z = V.str "done") && (bef n c s && !inV (.int n) (xs.map V.int))
theorem Fr.free {h : Addr} {H H' : Hp} {p : Addr} (f : Fr h H H') (n : p ≠ h) (e : H' p = none) : H p = none := by
  cases q : H p with
  | none => rfl
  | some o =>
    rw [f _ _ n q] at e
    cases e
/-- a look at a: its next number, its open ones -/
def Lk (K : PySem.W.Frag) (H : Hp) (a : Addr) (c : Int) (xs : List Int) : Prop := ∃ t, SqT K H a [.int c, .ref t] ∧ SqT K H t (xs.map V.int)
theorem ne_tl {H : Hp} {a b : Addr} {xs ys : List V} (h1 : H a = some (.tup xs)) (h2 : H b = some (.lst ys)) : a ≠ b := fun e => by
  rw [e, h2] at h1
  cases h1
theorem HS.neT {h : Addr} {n : Nat} {H : Hp} {p : Addr} {xs : List V} (q : HS h n H) (e : H p = some (.tup xs)) : p ≠ h := by
  obtain ⟨g, b, c, eh, _⟩ := q
  exact ne_tl e eh
theorem HS.sqT {h : Addr} {n : Nat} {K : PySem.W.Frag} {H H' : Hp} {a : Addr} {xs : List V} (q : HS h n H) (f : Fr h H H') (s : SqT K H a xs) : SqT K H' a xs := by
  obtain ⟨g, b, c, eh, _⟩ := q
  rcases s with (s | ⟨o, s⟩) | s
  · exact .inl (.inl (f _ _ (fun e => by rw [e, eh] at s; cases s) s))
  · exact .inl (.inr ⟨o, f _ _ (fun e => by rw [e, eh] at s; cases s) s⟩)
  · exact .inr s
theorem HS.lk {h : Addr} {n : Nat} {K : PySem.W.Frag} {H H' : Hp} {a : Addr} {c : Int} {xs : List Int} (q : HS h n H) (f : Fr h H H') (l : Lk K H a c xs) : Lk K H' a c xs := by
  obtain ⟨t, h1, h2⟩ := l
  exact ⟨t, q.sqT f h1, q.sqT f h2⟩
theorem sqT_same {K : PySem.W.Frag} {H H' : Hp} {a : Addr} {xs : List V} (s : Same H H') (h : SqT K H a xs) : SqT K H' a xs := by
  rcases h with (h | ⟨o, h⟩) | h
  · exact .inl (.inl (s _ _ h))
  · exact .inl (.inr ⟨o, s _ _ h⟩)
  · exact .inr h
theorem Lk.same {K : PySem.W.Frag} {H H' : Hp} {a : Addr} {c : Int} {xs : List Int} (s : Same H H') (l : Lk K H a c xs) : Lk K H' a c xs := by
  obtain ⟨t, h1, h2⟩ := l
  exact ⟨t, sqT_same s h1, sqT_same s h2⟩
theorem flat_ints : ∀ ks : List Int, (ks.map V.int).all flatV = true
  | [] => rfl
  | k :: r => by
    show (flatV (.int k) && (r.map V.int).all flatV) = true
    rw [flat_ints r]
    rfl
/-- how far back the open ones stand: the eldest first -/
structure Back (s : Int) (bs : List Int) : Prop where
  dec : bs.Pairwise (· > ·)
  pos : ∀ b ∈ bs, 0 < b ∧ b < s / 2
  len : bs.length ≤ 6
def spLook (K : PySem.W.Frag) : Sp := fun vs H Q _ => ∃ (h : Addr) (s : Int) (n : Nat), vs = [.ref h, .int s] ∧ HS h n H ∧ n + 21 < lim ∧ 8 ≤ s ∧ s ≤ 1048576 ∧
  ∀ a c bs H', Back s bs → 0 ≤ c → c < s → Lk K H' a c (bs.map fun b => (c - b) % s) → HS h (n + 21) H' → Fr h H H' → Q (.ref a) H'
def spLow (K : PySem.W.Frag) : Sp := fun vs H Q _ => ∃ (a : Addr) (c : Int) (xs : List Int), vs = [.ref a] ∧ Lk K H a c xs ∧ Q (.int (xs.headD c)) H
def spSees (K : PySem.W.Frag) : Sp := fun vs H Q _ => ∃ (a : Addr) (c : Int) (xs : List Int) (n : Int) (z : Str) (s : Int), vs = [.ref a, .int n, .str z, .int s] ∧ Lk K H a c xs ∧ 0 < s ∧ s ≤ 1048576 ∧ Q (.bl (don z c xs n s)) H
/-! ### tuples: sums, slices, whatever they share -/
theorem catA_ev {K : PySem.W.Frag} {H : Hp} {a b : Addr} {xs ys : List V} {Q : VK} (ha : SqT K H a xs) (hb : SqT K H b ys) (hz : xs.length + ys.length ≤ 1000) (go : ∀ p H', Same H H' → SqT K H' p (xs ++ ys) → Q (.ref p) H') : rCatA K (.ref a) (.ref b) H Q := by
  refine ⟨a, b, xs, ys, rfl, rfl, ha, hb, Nat.le_of_lt (small1000 hz), fun e => ?_, fun e1 e2 => ?_, fun e1 e2 p np => ?_⟩
  · subst e
    exact go b H (fun _ _ q => q) hb
  · subst e2
    refine go a H (fun _ _ q => q) ?_
    rw [List.append_nil]
    exact ha
  · exact go p _ (same_new np) (SqT.of upd_same)
theorem slA_ev {K : PySem.W.Frag} {H : Hp} {a : Addr} {xs : List V} {lo hi : Option Int} {Q : VK} (ha : SqT K H a xs) (go : ∀ p H', Same H H' → SqT K H' p (cutV xs lo hi) → Q (.ref p) H') : rSlA K (.ref a) lo hi H Q := by
  refine ⟨a, xs, rfl, ha, fun e => ?_, fun e p np => ?_⟩
  · refine go a H (fun _ _ q => q) ?_
    unfold cutV
    rw [e.1, e.2, List.drop_zero, Nat.sub_zero, List.take_length]
    exact ha
  · exact go p _ (same_new np) (SqT.of upd_same)
theorem sqT_fr {K : PySem.W.Frag} {L : Addr} {H H' : Hp} {a : Addr} {xs zs : List V} (eL : H L = some (.lst zs)) (f : Fr L H H') (s : SqT K H a xs) : SqT K H' a xs := by
  rcases s with (s | ⟨o, s⟩) | s
  · exact .inl (.inl (f _ _ (fun e => by rw [e, eL] at s; cases s) s))
  · exact .inl (.inr ⟨o, f _ _ (fun e => by rw [e, eL] at s; cases s) s⟩)
  · exact .inr s
theorem HS.fr {h L : Addr} {n : Nat} {H H' : Hp} (q : HS h n H) (f : Fr L H H') (ne : L ≠ h) : HS h n H' := by
  obtain ⟨g, b, c, eh, r⟩ := q
  exact ⟨g, b, c, f _ _ ne.symm eh, r⟩
theorem HS.upd {h L : Addr} {n : Nat} {H : Hp} {o : HO} (q : HS h n H) (ne : L ≠ h) : HS h n (upd H L o) := by
  obtain ⟨g, b, c, eh, r⟩ := q
  exact ⟨g, b, c, (by rw [upd_ne ne.symm]; exact eh), r⟩
theorem lg {i : Int} (h : i.natAbs < 2 ^ 64) : i.natAbs.log2 < 1920 := by
  by_cases z : i.natAbs = 0
  · rw [z]
    decide
  · rw [Nat.log2_lt z]
    exact Nat.lt_trans h (Nat.pow_lt_pow_right (by decide) (by decide))
theorem same_mut {H H' : Hp} {p : Addr} {o : HO} (e : Same H H') (h : H p = none) : Same H (upd H' p o) := fun b x q => by
  rw [upd_ne (ne_of_none q h)]
  exact e b x q
theorem dec_refl (v : V) : decide (v = v) = true := decide_eq_true rfl
theorem take_add1 {α : Type} (l : List α) (i : Nat) (h : i < l.length) : l.take (i + 1) = l.take i ++ [l[i]] := by
  rw [List.take_succ, List.getElem?_eq_getElem h]
  rfl
/-! ### small data -/
structure Small (m : Nat) (d : PyData) : Prop where
  sh : d.showable = true
  nd : d.hasDict = false
  dp : d.depth ≤ 3
  ls : d.leavesShort 20 = true
  wt : d.weight ≤ m
theorem Small.fits {m : Nat} {d : PyData} (s : Small m d) (h : m ≤ 100000) : d.showable = true ∧ d.hasDict = false ∧ d.depth ≤ 60 ∧ d.shown.length ≤ sizeLine := by
  have o3 := s.dp
  have o5 := s.wt
  refine ⟨s.sh, s.nd, by omega, ?_⟩
  have z := PyData.shown_le 20 (by decide) d s.ls
  have e : sizeLine = 16777216 := sizeLine_eq
  omega
/-- a thing without parts, and its data -/
structure Lf (v : V) (d : PyData) : Prop where
  at_ : ∀ (K : PySem.W.Frag) (H : Hp), Dp K H v d
  sh : d.showable = true
  nd : d.hasDict = false
  dp : d.depth = 0
  ls : d.leavesShort 20 = true
  wt : d.weight ≤ 64
theorem Lf.small {v : V} {d : PyData} (l : Lf v d) : Small 64 d := ⟨l.sh, l.nd, by rw [l.dp]; decide, l.ls, l.wt⟩
theorem lf_non : Lf .non .none := ⟨fun _ _ => .non, rfl, rfl, rfl, rfl, by decide⟩
theorem lf_int {i : Int} (h : i.natAbs < 2 ^ 62) : Lf (.int i) (.int i) := by
  have e62 : (2 : Nat) ^ 62 = 4611686018427387904 := by decide
  refine ⟨fun _ _ => .int i, decide_eq_true (lg (Nat.lt_trans h (by decide))), rfl, rfl, ?_, ?_⟩
  · show decide ((PyData.shown (.int i)).length ≤ 20) = true
    refine decide_eq_true ?_
    have e := int_text_length_le10 (k := 19) (a := i) (by decide) (by omega)
    show (Str.ofString (toString i)).length ≤ 20
    rw [PySem.ofString_length]
    exact e
  · show (if i == 0 then 0 else i.natAbs.log2 + 1) ≤ 64
    split
    · decide
    · rename_i z
      have z1 : i.natAbs ≠ 0 := fun e => z (by simpa using e)
      have z2 := (Nat.log2_lt z1).mpr h
      omega
theorem lf_str {z : Str} (h : z.cps.size ≤ 64) (ha : (z.cps.toList.all fun c => decide (c < 16 ^ 8)) = true) : Lf (.str z) (.str z) := ⟨fun _ _ => .str z, rfl, rfl, rfl, ha, h⟩
def onV : Option Int → V
  | none => .non
  | some i => .int i
def onD : Option Int → PyData
  | none => .none
  | some i => .int i
theorem lf_on {x : Option Int} (h : ∀ i, x = some i → 0 ≤ i ∧ i < 1048576) : Lf (onV x) (onD x) := by
  cases x with
  | none => exact lf_non
  | some i =>
    have z := h i rfl
    have e62 : (2 : Nat) ^ 62 = 4611686018427387904 := by decide
    exact lf_int (by omega)
theorem small_tup4 {K : PySem.W.Frag} {H : Hp} {p : Addr} {a b c d : V} {da db dc dd : PyData} (h : SqT K H p [a, b, c, d]) (la : Lf a da) (lb : Lf b db) (lc : Lf c dc) (ld : Lf d dd) :
    Dp K H (.ref p) (.tuple [da, db, dc, dd]) ∧ Small 300 (.tuple [da, db, dc, dd]) := by
  refine ⟨.tup h (.cons (la.at_ K H) (.cons (lb.at_ K H) (.cons (lc.at_ K H) (.cons (ld.at_ K H) .nil)))), ?_, ?_, ?_, ?_, ?_⟩
  · simp only [PyData.showable, PyData.showableAll, la.sh, lb.sh, lc.sh, ld.sh, Bool.and_self]
  · simp only [PyData.hasDict, PyData.hasDictAll, la.nd, lb.nd, lc.nd, ld.nd, Bool.or_self]
  · simp only [PyData.depth, PyData.depthAll, la.dp, lb.dp, lc.dp, ld.dp]
    decide
  · simp only [PyData.leavesShort, PyData.leavesShortAll, la.ls, lb.ls, lc.ls, ld.ls, Bool.and_self]
  · simp only [PyData.weight, PyData.weightAll]
    have := la.wt
    have := lb.wt
    have := lc.wt
    have := ld.wt
    omega
/-! ### fates: a tuple of pairs, each number once -/
def dk (fs : List (Int × Str)) : List (Key × V) := fs.map fun p => (Sum.inl p.1, V.str p.2)
def fte (fs : List (Int × Str)) (x : Option Int) : Option Str := x.bind fun i => (fs.find? fun p => decide (p.1 = i)).map (·.2)
def oS (o : Option Str) : V := (o.map V.str).getD .non
def isS (o : Option Str) (z : Str) : Bool := decide (oS o = V.str z)
/-- the fates at F -/
def Ft (K : PySem.W.Frag) (H : Hp) (F : Addr) (fs : List (Int × Str)) : Prop := ∃ (o : Obj) (ps : List Addr), H F = some (.frz o (.tup (ps.map V.ref))) ∧ o.dict = none ∧ Paired (fun p f => SqT K H p [.int f.1, .str f.2]) ps fs
theorem paired_mono {α β : Type} {R S : α → β → Prop} (h : ∀ a b, R a b → S a b) : ∀ {as : List α} {bs : List β}, Paired R as bs → Paired S as bs
  | _, _, .nil => .nil
  | _, _, .cons a t => .cons (h _ _ a) (paired_mono h t)
theorem paired_len {α β : Type} {R : α → β → Prop} : ∀ {as : List α} {bs : List β}, Paired R as bs → as.length = bs.length
  | _, _, .nil => rfl
  | _, _, .cons _ t => congrArg Nat.succ (paired_len t)
theorem paired_at {α β : Type} {R : α → β → Prop} : ∀ {as : List α} {bs : List β} {j : Nat} (_ : Paired R as bs) (h1 : j < as.length) (h2 : j < bs.length), R as[j] bs[j]
  | _, _, 0, .cons q _, _, _ => q
  | _, _, j + 1, .cons _ t, h1, h2 => paired_at t (Nat.lt_of_succ_lt_succ h1) (Nat.lt_of_succ_lt_succ h2)
theorem Ft.same {K : PySem.W.Frag} {H H' : Hp} {F : Addr} {fs : List (Int × Str)} (s : Same H H') (f : Ft K H F fs) : Ft K H' F fs := by
  obtain ⟨o, ps, h1, h2, h3⟩ := f
  exact ⟨o, ps, s _ _ h1, h2, paired_mono (fun _ _ q => sqT_same s q) h3⟩
theorem Ft.fr {K : PySem.W.Frag} {h : Addr} {n : Nat} {H H' : Hp} {F : Addr} {fs : List (Int × Str)} (q : HS h n H) (fr : Fr h H H') (f : Ft K H F fs) : Ft K H' F fs := by
  obtain ⟨o, ps, h1, h2, h3⟩ := f
  refine ⟨o, ps, fr _ _ (fun e => ?_) h1, h2, paired_mono (fun _ _ z => q.sqT fr z) h3⟩
  obtain ⟨g, b, c, eh, _⟩ := q
  rw [e, eh] at h1
  cases h1
theorem paired_dk {K : PySem.W.Frag} {H : Hp} : ∀ {ps : List Addr} {fs : List (Int × Str)}, Paired (fun p f => SqT K H p [.int f.1, .str f.2]) ps fs → Paired (fun p (kv : Key × V) => SqT K H p [kV kv.1, kv.2]) ps (dk fs)
  | _, _, .nil => .nil
  | _, _, .cons a t => .cons a (paired_dk t)
theorem putK_new {acc : List (Key × V)} {k : Key} {v : V} (h : k ∉ acc.map (·.1)) : putK acc k v = acc ++ [(k, v)] := by
  unfold putK
  rw [if_neg]
  intro e
  obtain ⟨x, hx, e2⟩ := List.any_eq_true.mp e
  exact h (of_decide_eq_true e2 ▸ List.mem_map_of_mem hx)
theorem mergeK_new : ∀ (more acc : List (Key × V)), ((acc ++ more).map (·.1)).Nodup → mergeK acc more = acc ++ more
  | [], acc, _ => (List.append_nil acc).symm
  | p :: r, acc, h => by
    show mergeK (putK acc p.1 p.2) r = _
    have h2 : p.1 ∉ acc.map (·.1) := by
      rw [List.map_append, List.nodup_append] at h
      intro hm
      exact h.2.2 _ hm _ (List.mem_map_of_mem (List.mem_cons_self ..)) rfl
    rw [putK_new h2, mergeK_new r (acc ++ [(p.1, p.2)]) (by rw [List.append_assoc]; exact h), List.append_assoc]
    rfl
theorem dk_keys (fs : List (Int × Str)) : (dk fs).map (·.1) = (fs.map (·.1)).map Sum.inl := by
  unfold dk
  rw [List.map_map, List.map_map]
  rfl
theorem nodup_inl : ∀ {xs : List Int}, xs.Nodup → (xs.map (Sum.inl : Int → Key)).Nodup
  | [], _ => List.nodup_nil
  | x :: r, h => by
    rw [List.nodup_cons] at h
    rw [List.map_cons, List.nodup_cons]
    refine ⟨fun hm => ?_, nodup_inl h.2⟩
    obtain ⟨y, hy, e⟩ := List.mem_map.mp hm
    injection e with e2
    exact h.1 (e2 ▸ hy)
theorem merge_dk {fs : List (Int × Str)} (h : (fs.map (·.1)).Nodup) : mergeK [] (dk fs) = dk fs := by
  rw [mergeK_new (dk fs) [] (by rw [List.nil_append, dk_keys]; exact nodup_inl h), List.nil_append]
theorem val_dk : ∀ (fs : List (Int × Str)) (i : Int), valV (dk fs) (Sum.inl i) = ((fs.find? fun p => decide (p.1 = i)).map (·.2)).map V.str
  | [], _ => rfl
  | p :: r, i => by
    have ih := val_dk r i
    unfold valV at ih ⊢
    have e : dk (p :: r) = (Sum.inl p.1, V.str p.2) :: dk r := rfl
    rw [e]
    by_cases z : p.1 = i
    · subst z
      rw [List.find?_cons_of_pos (by simp), List.find?_cons_of_pos (by simp)]
      rfl
    · rw [List.find?_cons_of_neg (by simpa using z), List.find?_cons_of_neg (by simpa using z)]
      exact ih
theorem dgetN {H : Hp} {d : Addr} {fs : List (Int × Str)} (e : H d = some (.dK (dk fs))) (x : Option Int) : DGetN H d (onV x) ((fte fs x).map V.str) := by
  cases x with
  | none => exact .inr ⟨rfl, rfl, _, .inl e⟩
  | some i =>
    refine .inl ?_
    have z := DGet.k (k := (Sum.inl i : Key)) e
    rw [val_dk] at z
    exact z
theorem isD_dk {H : Hp} {d : Addr} {kvs : List (Key × V)} (e : H d = some (.dK kvs)) : IsD H d := .inl ⟨_, .inl e⟩
theorem isS_some {fs : List (Int × Str)} {x : Option Int} {z : Str} (h : isS (fte fs x) z = true) : ∃ i, x = some i := by
  cases x with
  | none => exact absurd (of_decide_eq_true h) (by intro e; cases e)
  | some i => exact ⟨i, rfl⟩
theorem isS_eq {o : Option Str} {z : Str} : isS o z = decide (o = some z) := by
  unfold isS oS
  refine decide_eq_decide.mpr ⟨fun e => ?_, fun e => by rw [e]; rfl⟩
  cases o with
  | none => cases e
  | some y =>
    injection e with e2
    rw [e2]
/-- what a fate may be -/
def Fate (z : Str) : Prop := z = "done" ∨ z = "open" ∨ z = "fell"
structure Fates (fs : List (Int × Str)) : Prop where
  nd : (fs.map (·.1)).Nodup
  ok : ∀ f ∈ fs, Fate f.2
theorem fa_has {fs : List (Int × Str)} (h : Fates fs) {i : Int} (hi : i ∈ fs.map (·.1)) : ∃ z, fte fs (some i) = some z ∧ Fate z := by
  obtain ⟨f, hf, e⟩ := List.mem_map.mp hi
  have q : (fs.find? fun p => decide (p.1 = i)).isSome = true := by
    rw [List.find?_isSome]
    exact ⟨f, hf, decide_eq_true e⟩
  obtain ⟨g, hg⟩ := Option.isSome_iff_exists.mp q
  exact ⟨g.2, by unfold fte; rw [Option.bind_some, hg]; rfl, h.ok g (List.mem_of_find?_eq_some hg)⟩
theorem inV_int (x : Int) : ∀ ks : List Int, inV (.int x) (ks.map V.int) = decide (x ∈ ks)
  | [] => rfl
  | k :: r => by
    show ((k == x) || inV (.int x) (r.map V.int)) = _
    rw [inV_int x r, Bool.eq_iff_iff]
    simp only [Bool.or_eq_true, beq_iff_eq, decide_eq_true_eq, List.mem_cons]
    exact ⟨fun e => e.imp (fun z => z.symm) id, fun e => e.imp (fun z => z.symm) id⟩
section
variable {P : Program} {w : World} {K : PySem.W.Frag} {mg : Str → Option Value} {base : Heap}
theorem cal_weak {k : Nat} {x : Str} {sp sp' : Sp} {ds : List V} (c : C8.Cal P w K mg base k x sp ds) (h : ∀ vs H Q E, sp' vs H Q E → sp vs H Q E) : C8.Cal P w K mg base k x sp' ds := by
  obtain ⟨f, fd, ps, dv, F, g, kp, b, v⟩ := c
  exact ⟨f, fd, ps, dv, ⟨fun vs H Q E q => F.len _ _ _ _ (h _ _ _ _ q), fun A outer s H args us vs Q E hr e0 bt r hsp => F.run A outer s H args us vs Q E hr e0 bt r (h _ _ _ _ hsp)⟩, g, kp, b, v⟩
def spOfT (K : PySem.W.Frag) : Sp := fun vs H Q _ => ∃ (h a : Addr) (xs : List V) (n : Nat), vs = [.ref h, .ref a] ∧ HS h n H ∧ n < lim ∧ SqT K H a xs ∧ 0 < xs.length ∧ xs.length ≤ 1000 ∧ ∀ v H', v ∈ xs → HS h (n + 1) H' → Fr h H H' → Q v H'
def spOf2 (K : PySem.W.Frag) : Sp := fun vs H Q E => spOf K vs H Q E ∨ spOfT K vs H Q E
theorem ok_of2 (T : Tx K mg) (c_l_take : C8.Cal P w K mg base 1 "_law_take" spTake []) : BodyOk P w K mg base "_law_of" s_l_of N_l_of 1 (spOf2 K) := by
  intro f cdv A outer s H vs Q E hr h
  have z18 : (10 : Int) ^ 18 = 1000000000000000000 := by decide
  refine ⟨_, (pss_one (ps_ret (pe_ix ix_seq (pv 1) (C8.pe_c c_l_take hr (by decide) (gl_of gl_l_of_l_take) (pa_cons (pv 0) (pa_cons (pe_callB call_len_seq (gl_of gl_l_of_len) T.len bb_len (pa_cons (pv 1) pa_nil)) pa_nil))) (fun _ _ => rfl)))), ?_⟩
  rcases h with ⟨h, a, xs, n, rfl, hs, hn, ne, hS, l0, l1, q⟩ | ⟨h, a, xs, n, rfl, hs, hn, hS, l0, l1, q⟩
  · refine ⟨_, rfl, _, rfl, _, rfl, a, xs, rfl, .inl hS, h, _, n, rfl, hs, hn, by omega, by omega, fun d H1 d0 d1 hs1 f1 => ?_⟩
    obtain ⟨v, ev, hv⟩ := atI_in d0 d1
    exact .inl ⟨a, xs, d, v, rfl, rfl, f1.seq ne hS, ev, q v H1 hv hs1 f1⟩
  · refine ⟨_, rfl, _, rfl, _, rfl, a, xs, rfl, .inr hS, h, _, n, rfl, hs, hn, by omega, by omega, fun d H1 d0 d1 hs1 f1 => ?_⟩
    obtain ⟨v, ev, hv⟩ := atI_in d0 d1
    exact .inr (.inl ⟨a, xs, d, v, rfl, rfl, hs.sqT f1 hS, ev, q v H1 hv hs1 f1⟩)
theorem ok_sees (k_before : CalK P w K mg base 2 "before" 2 ["ring"] spBefore) : BodyOk P w K mg base "sees" s_sees N_sees 2 (spSees K) := by
  intro f cdv A outer s H vs Q E hr h
  obtain ⟨a, c, xs, n, z, s, rfl, ⟨t, h1, h2⟩, s0, s1, q⟩ := h
  refine ⟨_, (pss_cons (ps_asg (pv 0) (pg_tup rfl (pgs_cons (pg_name (i := 4) sc_sees.nd rfl (Or.inl rfl)) (pgs_cons (pg_name (i := 5) sc_sees.nd rfl (Or.inl rfl)) pgs_nil))))
      (pss_one (ps_ret (pe_and (pe_cmpR op_eq (pv 2) pe_str (nomark _)) (pe_and (pe_ck k_before hr (by decide) (gl_of gl_sees_before) (pa_cons (pv 1) (pa_cons (pv 4) pa_nil)) (pk_cons (pv 3) pk_nil)) (pe_one (pe_cmpR op_notIn_seq (pv 1) (pv 5) (by rfl)))))))), ?_⟩
  refine st_seq ?_
  refine ⟨_, rfl, a, _, rfl, h1, rfl, _, _, rfl, _, _, rfl, rfl, ?_⟩
  refine ⟨_, rfl, rfl, _, rfl, ite2 (fun y => ?_) (fun y => ?_)⟩
  · refine ⟨_, rfl, _, rfl, _, rfl, rfl, rfl, n, c, s, rfl, s0, s1, _, rfl, ite2 (fun y2 => ?_) (fun y2 => ?_)⟩
    · refine ⟨_, rfl, _, rfl, t, _, rfl, .inr h2, rfl, flat_ints xs, ?_⟩
      unfold don bef at q
      rw [y, y2] at q
      exact q
    · unfold don bef at q
      rw [y, Bool.eq_false_iff.mpr y2] at q
      exact q
  · unfold don at q
    rw [Bool.eq_false_iff.mpr y] at q
    exact q
theorem ok_low (T : Tx K mg) : BodyOk P w K mg base "low" s_low N_low 0 (spLow K) := by
  intro f cdv A outer s H vs Q E hr h
  obtain ⟨a, c, xs, rfl, ⟨t, h1, h2⟩, q⟩ := h
  refine ⟨_, (pss_cons (ps_asg (pv 0) (pg_tup rfl (pgs_cons (pg_name (i := 1) sc_low.nd rfl (Or.inl rfl)) (pgs_cons (pg_name (i := 2) sc_low.nd rfl (Or.inl rfl)) pgs_nil))))
      (pss_one (ps_ret (pe_ifExp (pt_cmpR op_gt (pe_callB call_len_seq (gl_of gl_low_len) T.len bb_len (pa_cons (pv 2) pa_nil)) pe_int (nomark _)) (pe_ix ix_tup (pv 2) pe_int (fun _ _ => rfl)) (pv 1))))), ?_⟩
  refine st_seq ?_
  refine ⟨_, rfl, a, _, rfl, h1, rfl, _, _, rfl, _, _, rfl, rfl, ?_⟩
  refine ⟨_, rfl, t, _, rfl, .inr h2, _, _, rfl, rfl, _, rfl, ite2 (fun y => ?_) (fun y => ?_)⟩
  · cases xs with
    | nil => cases y
    | cons x r => exact ⟨_, rfl, t, _, 0, .int x, rfl, rfl, h2, atI_nat (j := 0) rfl, q⟩
  · cases xs with
    | nil => exact ⟨_, rfl, q⟩
    | cons x r =>
      refine absurd ?_ y
      refine decide_eq_true ?_
      rw [List.length_map, List.length_cons]
      omega
end
/-! ### frozen -/
def befO (x : Option Int) (u s : Int) : Bool := match x with
  | none => false
  | some i => bef i u s
def froz (fs : List (Int × Str)) (m e : Option Int) (u s : Int) : Option (Option Int × Option Int) :=
  if (isS (fte fs m) "fell" || (isS (fte fs e) "done" && befO e u s)) = true then none
  else some (if (isS (fte fs m) "done" && befO m u s) = true then none else m, if isS (fte fs e) "fell" = true then none else e)
def Res (K : PySem.W.Frag) (H : Hp) (k wv v : V) : Option (Option Int × Option Int) → Prop
  | none => v = .non
  | some r => ∃ p, v = .ref p ∧ SqT K H p [k, wv, onV r.1, onV r.2]
theorem Res.same {K : PySem.W.Frag} {H H' : Hp} {k wv v : V} {r : Option (Option Int × Option Int)} (s : Same H H') (h : Res K H k wv v r) : Res K H' k wv v r := by
  cases r with
  | none => exact h
  | some r =>
    obtain ⟨p, e, q⟩ := h
    exact ⟨p, e, sqT_same s q⟩
def spFroA (K : PySem.W.Frag) : Sp := fun vs H Q _ => ∃ (v : Addr) (k wv : V) (m e : Option Int) (u s : Int) (d : Addr) (fs : List (Int × Str)), vs = [.ref v, .int u, .ref d, .int s] ∧ SqT K H v [k, wv, onV m, onV e] ∧ H d = some (.dK (dk fs)) ∧ 0 < s ∧ s ≤ 1048576 ∧
  ∀ (y : V) (H' : Hp), Same H H' → Res K H' k wv y (froz fs m e u s) → Q y H'
def spFro (K : PySem.W.Frag) : Sp := fun vs H Q _ => ∃ (v : Addr) (k wv : V) (m e : Option Int) (u s : Int) (F : Addr) (fs : List (Int × Str)), vs = [.ref v, .int u, .ref F, .int s] ∧ SqT K H v [k, wv, onV m, onV e] ∧ Ft K H F fs ∧ (fs.map (·.1)).Nodup ∧ 0 < s ∧ s ≤ 1048576 ∧
  ∀ (y : V) (H' : Hp), Same H H' → Res K H' k wv y (froz fs m e u s) → Q y H'
theorem oS_get (o : Option Str) : (o.map V.str).getD .non = oS o := rfl
theorem scal_oS (o : Option Str) (z : Str) : scal (oS o) (.str z) = true := by
  cases o <;> rfl
theorem st_ifA {c : TT} {t1 t2 : TS} {D : Ends} {σ : L2.St} {H : Hp} (b : Bool) (h : Ans c σ H b) (y : b = true → t1 D σ H) (n : b = false → t2 D σ H) : tIfS c t1 t2 D σ H := by
  cases b with
  | true => exact st_yes h (y rfl)
  | false => exact st_no h (n rfl)
section
variable {P : Program} {w : World} {K : PySem.W.Frag} {mg : Str → Option Value} {base : Heap}
theorem ok_froA (k_before : CalK P w K mg base 2 "before" 2 ["ring"] spBefore) : BodyOk P w K mg base "frozen_among" s_frozen_among N_frozen_among 2 (spFroA K) := by
  intro f cdv A outer s H vs Q E hr h
  obtain ⟨v, k, wv, m, e, u, s, d, fs, rfl, hv, hd, s0, s1, q⟩ := h
  refine ⟨_, (pss_cons (ps_asg (pv 0) (pg_tup rfl (pgs_cons (pg_name (i := 4) sc_frozen_among.nd rfl (Or.inl rfl)) (pgs_cons (pg_name (i := 5) sc_frozen_among.nd rfl (Or.inl rfl)) (pgs_cons (pg_name (i := 6) sc_frozen_among.nd rfl (Or.inl rfl)) (pgs_cons (pg_name (i := 7) sc_frozen_among.nd rfl (Or.inl rfl)) pgs_nil))))))
      (pss_cons (ps_par (i := 8) (j := 9) (by rfl) sc_frozen_among.nd rfl rfl (by decide) rfl rfl (pa_cons (pe_dgetN1 (hu_of hr) (pv 2) (pv 6) ⟨rfl, rfl, rfl, rfl⟩) (pa_cons (pe_dgetN1 (hu_of hr) (pv 2) (pv 7) ⟨rfl, rfl, rfl, rfl⟩) pa_nil)) (by rfl))
      (pss_cons (ps_if (PW.pt (pw_or (pt_cmpR op_eq (pv 8) pe_str (nomark _)) (pw_or1 (PW.pt (pw_and (pt_cmpR op_eq (pv 9) pe_str (nomark _)) (pw_and1 (pt_val (pe_ck k_before hr (by decide) (gl_of gl_frozen_among_before) (pa_cons (pv 7) (pa_cons (pv 1) pa_nil)) (pk_cons (pv 3) pk_nil))))))))) (pss_one (ps_ret pe_non)) pss_nil)
      (pss_cons (ps_if (PW.pt (pw_and (pt_cmpR op_eq (pv 8) pe_str (nomark _)) (pw_and1 (pt_val (pe_ck k_before hr (by decide) (gl_of gl_frozen_among_before) (pa_cons (pv 6) (pa_cons (pv 1) pa_nil)) (pk_cons (pv 3) pk_nil)))))) (pss_one (ps_set (i := 6) sc_frozen_among.nd rfl (Or.inl rfl) pe_non)) pss_nil)
      (pss_cons (ps_if (pt_cmpR op_eq (pv 9) pe_str (nomark _)) (pss_one (ps_set (i := 7) sc_frozen_among.nd rfl (Or.inl rfl) pe_non)) pss_nil)
      (pss_one (ps_ret (pe_tup (pa_cons (pv 4) (pa_cons (pv 5) (pa_cons (pv 6) (pa_cons (pv 7) pa_nil)))))))))))), ?_⟩
  refine st_seq ?_
  refine ⟨_, rfl, v, _, rfl, hv, rfl, _, _, rfl, _, _, rfl, _, _, rfl, _, _, rfl, rfl, ?_⟩
  refine st_seq ?_
  refine ⟨_, rfl, d, rfl, isD_dk hd, _, rfl, _, dgetN hd m, _, rfl, d, rfl, isD_dk hd, _, rfl, _, dgetN hd e, _, _, rfl, ?_⟩
  rw [oS_get, oS_get]
  unfold froz at q
  dsimp only
  refine st_seq ?_
  refine st_ifA (isS (fte fs m) "fell" || (isS (fte fs e) "done" && befO e u s)) (fun Q' q' => ?_) (fun b1 => ?_) (fun b1 => ?_)
  · refine ⟨_, rfl, scal_oS _ _, _, rfl, ite2 (fun y1 => ?_) (fun y1 => ?_)⟩
    · rw [show isS (fte fs m) "fell" = true from y1, Bool.true_or] at q'
      exact q'
    · rw [show isS (fte fs m) "fell" = false from Bool.eq_false_iff.mpr y1, Bool.false_or] at q'
      refine ⟨_, rfl, scal_oS _ _, _, rfl, ite2 (fun y2 => ?_) (fun y2 => ?_)⟩
      · rw [show isS (fte fs e) "done" = true from y2, Bool.true_and] at q'
        obtain ⟨i, rfl⟩ := isS_some (show isS (fte fs e) "done" = true from y2)
        exact ⟨_, rfl, _, rfl, _, rfl, rfl, rfl, i, u, s, rfl, s0, s1, _, rfl, q'⟩
      · rw [show isS (fte fs e) "done" = false from Bool.eq_false_iff.mpr y2, Bool.false_and] at q'
        exact q'
  · rw [b1, if_pos rfl] at q
    exact q _ _ (fun _ _ x => x) rfl
  rw [b1, if_neg Bool.false_ne_true] at q
  refine st_next ?_
  dsimp only
  refine st_seq ?_
  refine st_ifA (isS (fte fs m) "done" && befO m u s) (fun Q' q' => ?_) (fun b2 => ?_) (fun b2 => ?_)
  · refine ⟨_, rfl, scal_oS _ _, _, rfl, ite2 (fun y2 => ?_) (fun y2 => ?_)⟩
    · rw [show isS (fte fs m) "done" = true from y2, Bool.true_and] at q'
      obtain ⟨i, rfl⟩ := isS_some (show isS (fte fs m) "done" = true from y2)
      exact ⟨_, rfl, _, rfl, _, rfl, rfl, rfl, i, u, s, rfl, s0, s1, _, rfl, q'⟩
    · rw [show isS (fte fs m) "done" = false from Bool.eq_false_iff.mpr y2, Bool.false_and] at q'
      exact q'
  · rw [b2, if_pos rfl] at q
    refine st_set val_c ?_
    dsimp only
    refine st_seq ?_
    refine st_ifA (isS (fte fs e) "fell") (fun Q' q' => ?_) (fun b3 => ?_) (fun b3 => ?_)
    · exact ⟨_, rfl, scal_oS _ _, _, rfl, q'⟩
    · rw [b3, if_pos rfl] at q
      exact ⟨_, rfl, _, rfl, _, rfl, _, rfl, (show 4 ≤ sizeLine by decide), fun p np => q _ _ (same_new np) ⟨p, rfl, SqT.of upd_same⟩⟩
    · rw [b3, if_neg Bool.false_ne_true] at q
      exact ⟨_, rfl, _, rfl, _, rfl, _, rfl, (show 4 ≤ sizeLine by decide), fun p np => q _ _ (same_new np) ⟨p, rfl, SqT.of upd_same⟩⟩
  · rw [b2, if_neg Bool.false_ne_true] at q
    refine st_next ?_
    dsimp only
    refine st_seq ?_
    refine st_ifA (isS (fte fs e) "fell") (fun Q' q' => ?_) (fun b3 => ?_) (fun b3 => ?_)
    · exact ⟨_, rfl, scal_oS _ _, _, rfl, q'⟩
    · rw [b3, if_pos rfl] at q
      exact ⟨_, rfl, _, rfl, _, rfl, _, rfl, (show 4 ≤ sizeLine by decide), fun p np => q _ _ (same_new np) ⟨p, rfl, SqT.of upd_same⟩⟩
    · rw [b3, if_neg Bool.false_ne_true] at q
      exact ⟨_, rfl, _, rfl, _, rfl, _, rfl, (show 4 ≤ sizeLine by decide), fun p np => q _ _ (same_new np) ⟨p, rfl, SqT.of upd_same⟩⟩
theorem ok_fro (T : Tx K mg) (c_frozen_among : C8.Cal P w K mg base 3 "frozen_among" (spFroA K) []) : BodyOk P w K mg base "frozen" s_frozen N_frozen 3 (spFro K) := by
  intro f cdv A outer s H vs Q E hr h
  obtain ⟨v, k, wv, m, e, u, s, F, fs, rfl, hv, ⟨o, ps, h1, h2, h3⟩, hnd, s0, s1, q⟩ := h
  refine ⟨_, (pss_one (ps_ret (C8.pe_c c_frozen_among hr (by decide) (gl_of gl_frozen_frozen_among) (pa_cons (pv 0) (pa_cons (pv 1) (pa_cons (pe_callTy (call_dictT rfl) (gl_of gl_frozen_dict) T.dict bt_dict (pa_cons (pv 2) pa_nil)) (pa_cons (pv 3) pa_nil))))))), ?_⟩
  refine ⟨_, rfl, _, rfl, _, rfl, F, o, ps, dk fs, rfl, h1, h2, paired_dk h3, fun d nd => ?_⟩
  rw [merge_dk hnd]
  have sd : Same H (upd H d (.dK (dk fs))) := same_new nd
  exact ⟨_, rfl, v, k, wv, m, e, u, s, d, fs, rfl, sqT_same sd hv, upd_same, s0, s1, fun y H' sm r => q y H' (sd.trans sm) r⟩
end
/-- the law's body, called by the caller itself -/
def BodyAt (P : Program) (w : World) (K : PySem.W.Frag) (mg : Str → Option Value) (base : Heap) (x : Str) (st : Stmt) (N : List Str) (k : Nat) (sp : Sp) : Prop :=
  ∀ (f : Addr) (cdv : Value) (s : Shared) (H : Hp) (vs : List V) (Q : VK) (E : XK), Room k (callerA.deeper (envOfC x (defScope st) s.heap.objs.size f cdv)) → sp vs H Q E →
      ∃ t, PSs (cxOf CX0 P w K mg base N x (defScope st) f cdv callerA [] s H E).nox (defBody st) t ∧ t { nx := fun _ H' => Q .non H', rt := Q } (start N vs) H
theorem lk_new {K : PySem.W.Frag} {H : Hp} {t0 t1 : Addr} {c : Int} (n1 : (upd H t0 (.tup [])) t1 = none) : Lk K (upd (upd H t0 (.tup [])) t1 (.tup [.int c, .ref t0])) t1 c [] :=
  ⟨t0, SqT.of upd_same, SqT.of (same_new n1 _ _ upd_same)⟩
def resD (kd wd : PyData) : Option (Option Int × Option Int) → PyData
  | none => .none
  | some r => .tuple [kd, wd, onD r.1, onD r.2]
theorem res_data {K : PySem.W.Frag} {H : Hp} {k wv y : V} {kd wd : PyData} {r : Option (Option Int × Option Int)} (h : Res K H k wv y r) (lk : Lf k kd) (lw : Lf wv wd) (hb : ∀ q, r = some q → (∀ i, q.1 = some i → 0 ≤ i ∧ i < 1048576) ∧ ∀ i, q.2 = some i → 0 ≤ i ∧ i < 1048576) :
    Dp K H y (resD kd wd r) ∧ Small 300 (resD kd wd r) := by
  cases r with
  | none =>
    have e : y = .non := h
    subst e
    exact ⟨.non, rfl, rfl, (show 0 ≤ 3 by decide), rfl, (show 0 ≤ 300 by decide)⟩
  | some q =>
    obtain ⟨p, rfl, e⟩ := h
    obtain ⟨b1, b2⟩ := hb q rfl
    exact small_tup4 e lk lw (lf_on b1) (lf_on b2)
theorem froz_bounds {fs : List (Int × Str)} {m e : Option Int} {u s : Int} (hm : ∀ i, m = some i → 0 ≤ i ∧ i < 1048576) (he : ∀ i, e = some i → 0 ≤ i ∧ i < 1048576) : ∀ q, froz fs m e u s = some q → (∀ i, q.1 = some i → 0 ≤ i ∧ i < 1048576) ∧ ∀ i, q.2 = some i → 0 ≤ i ∧ i < 1048576 := by
  intro q h
  unfold froz at h
  split at h
  · cases h
  · cases h
    refine ⟨fun i hi => ?_, fun i hi => ?_⟩
    · dsimp only at hi
      split at hi
      · cases hi
      · exact hm i hi
    · dsimp only at hi
      split at hi
      · cases hi
      · exact he i hi
/-! ### how a version stands -/
def donX (fs : List (Int × Str)) (c : Int) (xs : List Int) (s : Int) (x : Option Int) : Bool := match x with
  | none => false
  | some i => match fte fs (some i) with
    | none => false
    | some z => don z c xs i s
theorem donX_some {fs : List (Int × Str)} {c : Int} {xs : List Int} {s i : Int} {z : Str} (h : fte fs (some i) = some z) : donX fs c xs s (some i) = don z c xs i s := by
  show (match fte fs (some i) with
    | none => false
    | some z => don z c xs i s) = _
  rw [h]
def stt (fs : List (Int × Str)) (c : Int) (xs : List Int) (s : Int) (o m e : Option Int) : Str :=
  if isS (fte fs m) "fell" = true then "fell"
  else if (isS (fte fs m) "open" && !decide (onV m = onV o)) = true then "open"
  else if (isS (fte fs m) "done" && !donX fs c xs s m) = true then "later"
  else if (!decide (onV e = .non) && (decide (onV e = onV o) || donX fs c xs s e)) = true then "cut"
  else "seen"
theorem isS_at {fs : List (Int × Str)} {x : Option Int} {z : Str} (h : isS (fte fs x) z = true) : ∃ i, x = some i ∧ fte fs (some i) = some z := by
  obtain ⟨i, rfl⟩ := isS_some h
  rw [isS_eq] at h
  exact ⟨i, rfl, of_decide_eq_true h⟩
theorem scal_on (x y : Option Int) : scal (onV x) (onV y) = true := by
  cases x <;> cases y <;> rfl
def Cov (fs : List (Int × Str)) (x : Option Int) : Prop := ∀ i, x = some i → ∃ z, fte fs (some i) = some z
def spStA (K : PySem.W.Frag) : Sp := fun vs H Q _ => ∃ (v l d : Addr) (k wv : V) (m e o : Option Int) (c : Int) (xs : List Int) (s : Int) (fs : List (Int × Str)), vs = [.ref v, .ref l, .ref d, onV o, .int s] ∧ SqT K H v [k, wv, onV m, onV e] ∧ Lk K H l c xs ∧ H d = some (.dK (dk fs)) ∧ Cov fs e ∧ 0 < s ∧ s ≤ 1048576 ∧
  ∀ H' : Hp, Same H H' → Q (.str (stt fs c xs s o m e)) H'
def spSt (K : PySem.W.Frag) : Sp := fun vs H Q _ => ∃ (v l F : Addr) (k wv : V) (m e o : Option Int) (c : Int) (xs : List Int) (s : Int) (fs : List (Int × Str)), vs = [.ref v, .ref l, .ref F, onV o, .int s] ∧ SqT K H v [k, wv, onV m, onV e] ∧ Lk K H l c xs ∧ Ft K H F fs ∧ (fs.map (·.1)).Nodup ∧ Cov fs m ∧ Cov fs e ∧ 0 < s ∧ s ≤ 1048576 ∧
  ∀ H' : Hp, Same H H' → Q (.str (stt fs c xs s o m e)) H'
section
variable {P : Program} {w : World} {K : PySem.W.Frag} {mg : Str → Option Value} {base : Heap}
theorem ok_stA (k_sees : CalK P w K mg base 3 "sees" 3 ["ring"] (spSees K)) : BodyOk P w K mg base "state_among" s_state_among N_state_among 3 (spStA K) := by
  intro f cdv A outer s H vs Q E hr h
  obtain ⟨v, l, d, k, wv, m, e, o, c, xs, s, fs, rfl, hv, hl, hd, hce, s0, s1, q⟩ := h
  refine ⟨_, (pss_cons (ps_asg (pe_slice sl_tupA (pv 0) (po_some pe_int) po_none) (pg_tup rfl (pgs_cons (pg_name (i := 5) sc_state_among.nd rfl (Or.inl rfl)) (pgs_cons (pg_name (i := 6) sc_state_among.nd rfl (Or.inl rfl)) pgs_nil))))
      (pss_cons (ps_set (i := 7) sc_state_among.nd rfl (Or.inl rfl) (pe_dgetN1 (hu_of hr) (pv 2) (pv 5) ⟨rfl, rfl, rfl, rfl⟩))
      (pss_cons (ps_if (pt_cmpR op_eq (pv 7) pe_str (nomark _)) (pss_one (ps_ret pe_str)) pss_nil)
      (pss_cons (ps_if (PW.pt (pw_and (pt_cmpR op_eq (pv 7) pe_str (nomark _)) (pw_and1 (pt_cmpR op_ne (pv 5) (pv 3) (nomark _))))) (pss_one (ps_ret pe_str)) pss_nil)
      (pss_cons (ps_if (PW.pt (pw_and (pt_cmpR op_eq (pv 7) pe_str (nomark _)) (pw_and1 (pt_not (pt_val (pe_ck k_sees hr (by decide) (gl_of gl_state_among_sees) (pa_cons (pv 1) (pa_cons (pv 5) (pa_cons (pv 7) pa_nil))) (pk_cons (pv 4) pk_nil))))))) (pss_one (ps_ret pe_str)) pss_nil)
      (pss_cons (ps_if (PW.pt (pw_and (pt_cmpR op_notN (pv 6) pe_non (nomark _)) (pw_and1 (PW.pt (pw_or (pt_cmpR op_eq (pv 6) (pv 3) (nomark _)) (pw_or1 (pt_val (pe_ck k_sees hr (by decide) (gl_of gl_state_among_sees) (pa_cons (pv 1) (pa_cons (pv 6) (pa_cons (pe_dgetN1 (hu_of hr) (pv 2) (pv 6) ⟨rfl, rfl, rfl, rfl⟩) pa_nil))) (pk_cons (pv 4) pk_nil))))))))) (pss_one (ps_ret pe_str)) pss_nil)
      (pss_one (ps_ret pe_str)))))))), ?_⟩
  refine st_seq ?_
  refine ⟨_, rfl, _, rfl, ?_⟩
  dsimp only [tNoPart]
  refine slA_ev hv (fun p G sG hp => ?_)
  have hp2 : SqT K G p [onV m, onV e] := hp
  refine ⟨p, _, rfl, hp2, rfl, _, _, rfl, _, _, rfl, rfl, ?_⟩
  have hd2 := sG _ _ hd
  have hl2 := hl.same sG
  try dsimp only
  refine st_seq ?_
  refine ⟨_, rfl, d, rfl, isD_dk hd2, _, rfl, _, dgetN hd2 m, ?_⟩
  rw [oS_get]
  unfold stt at q
  try dsimp only [gName]
  refine st_seq ?_
  refine st_ifA (isS (fte fs m) "fell") (fun Q' q' => ⟨_, rfl, scal_oS _ _, _, rfl, q'⟩) (fun b1 => ?_) (fun b1 => ?_)
  · rw [b1, if_pos rfl] at q
    exact q _ sG
  rw [b1, if_neg Bool.false_ne_true] at q
  refine st_next ?_
  try dsimp only
  refine st_seq ?_
  refine st_ifA (isS (fte fs m) "open" && !decide (onV m = onV o)) (fun Q' q' => ?_) (fun b2 => ?_) (fun b2 => ?_)
  · refine ⟨_, rfl, scal_oS _ _, _, rfl, ite2 (fun y => ?_) (fun y => ?_)⟩
    · rw [show isS (fte fs m) "open" = true from y, Bool.true_and] at q'
      exact ⟨_, rfl, _, rfl, scal_on _ _, _, rfl, q'⟩
    · rw [show isS (fte fs m) "open" = false from Bool.eq_false_iff.mpr y, Bool.false_and] at q'
      exact q'
  · rw [b2, if_pos rfl] at q
    exact q _ sG
  rw [b2, if_neg Bool.false_ne_true] at q
  refine st_next ?_
  try dsimp only
  refine st_seq ?_
  refine st_ifA (isS (fte fs m) "done" && !donX fs c xs s m) (fun Q' q' => ?_) (fun b3 => ?_) (fun b3 => ?_)
  · refine ⟨_, rfl, scal_oS _ _, _, rfl, ite2 (fun y => ?_) (fun y => ?_)⟩
    · rw [show isS (fte fs m) "done" = true from y, Bool.true_and] at q'
      obtain ⟨i, rfl, hi⟩ := isS_at (show isS (fte fs m) "done" = true from y)
      have e1 : donX fs c xs s (some i) = don "done" c xs i s := donX_some hi
      rw [e1] at q'
      refine ⟨_, rfl, _, rfl, _, rfl, _, rfl, rfl, rfl, l, c, xs, i, "done", s, ?_, hl2, s0, s1, _, rfl, q'⟩
      rw [hi]
      rfl
    · rw [show isS (fte fs m) "done" = false from Bool.eq_false_iff.mpr y, Bool.false_and] at q'
      exact q'
  · rw [b3, if_pos rfl] at q
    exact q _ sG
  rw [b3, if_neg Bool.false_ne_true] at q
  refine st_next ?_
  try dsimp only
  refine st_seq ?_
  refine st_ifA (!decide (onV e = .non) && (decide (onV e = onV o) || donX fs c xs s e)) (fun Q' q' => ?_) (fun b4 => ?_) (fun b4 => ?_)
  · refine ⟨_, rfl, rfl, _, rfl, ite2 (fun y => ?_) (fun y => ?_)⟩
    · rw [y, Bool.true_and] at q'
      have he : ∃ i, e = some i := by
        cases e with
        | none => cases y
        | some i => exact ⟨i, rfl⟩
      obtain ⟨i, rfl⟩ := he
      obtain ⟨z, hz⟩ := hce i rfl
      have e1 : donX fs c xs s (some i) = don z c xs i s := donX_some hz
      rw [e1] at q'
      refine ⟨_, rfl, _, rfl, scal_on _ _, _, rfl, ite2 (fun y2 => ?_) (fun y2 => ?_)⟩
      · rw [y2, Bool.true_or] at q'
        exact q'
      · rw [Bool.eq_false_iff.mpr y2, Bool.false_or] at q'
        refine ⟨_, rfl, _, rfl, _, rfl, d, rfl, isD_dk hd2, _, rfl, _, dgetN hd2 (some i), _, rfl, rfl, rfl, l, c, xs, i, z, s, ?_, hl2, s0, s1, _, rfl, q'⟩
        rw [hz]
        rfl
    · rw [Bool.eq_false_iff.mpr y, Bool.false_and] at q'
      exact q'
  · rw [b4, if_pos rfl] at q
    exact q _ sG
  · rw [b4, if_neg Bool.false_ne_true] at q
    exact q _ sG
theorem ok_st (T : Tx K mg) (c_state_among : C8.Cal P w K mg base 4 "state_among" (spStA K) []) : BodyOk P w K mg base "state" s_state N_state 4 (spSt K) := by
  intro f cdv A outer s H vs Q E hr h
  obtain ⟨v, l, F, k, wv, m, e, o, c, xs, s, fs, rfl, hv, hl, ⟨ob, ps, h1, h2, h3⟩, hnd, hcm, hce, s0, s1, q⟩ := h
  refine ⟨_, (pss_one (ps_ret (C8.pe_c c_state_among hr (by decide) (gl_of gl_state_state_among) (pa_cons (pv 0) (pa_cons (pv 1) (pa_cons (pe_callTy (call_dictT rfl) (gl_of gl_state_dict) T.dict bt_dict (pa_cons (pv 2) pa_nil)) (pa_cons (pv 3) (pa_cons (pv 4) pa_nil)))))))), ?_⟩
  refine ⟨_, rfl, _, rfl, _, rfl, F, ob, ps, dk fs, rfl, h1, h2, paired_dk h3, fun d nd => ?_⟩
  rw [merge_dk hnd]
  have sd : Same H (upd H d (.dK (dk fs))) := same_new nd
  exact ⟨_, rfl, _, rfl, v, l, d, k, wv, m, e, o, c, xs, s, fs, rfl, sqT_same sd hv, hl.same sd, upd_same, hce, s0, s1, fun H' sm => q H' (sd.trans sm)⟩
end
abbrev gRO (vs zs : List V) : List V := vs ++ [zs.getD 1 .non, zs.getD 0 .non]
abbrev gOR (vs zs : List V) : List V := vs ++ [zs.getD 0 .non, zs.getD 1 .non]
abbrev gR (vs zs : List V) : List V := vs ++ [.non, zs.getD 0 .non]
abbrev gO (vs zs : List V) : List V := vs ++ [zs.getD 0 .non, .int 64]
theorem kw_two {P : Program} {w : World} {K : PySem.W.Frag} {h : Heap} {mg : Str → Option Value} {base : Heap} {x : Str} {st : Stmt} {N : List Str} {p1 p2 p3 : Str} {k : Nat} {sp : Sp} (X : K.In h) (G : h.Ns mainGlobals mg) (g : (He.Fa.glo x).ok K = true)
    (F : ∃ fd, FunD K x x (defArgs st) (defBody st) (defScope st) [] [("own", .non), ("ring", .int 64)] (He.ga K x) fd) (S : FnScope N [p1, p2, p3, "own", "ring"] (defScope st)) (len : ∀ vs H Q E, sp vs H Q E → vs.length = 5) (hb : BodyOk P w K mg base x st N k sp)
    (b1 : ∀ (D : Addr) (doc pm : Value) (an : Option Addr) (cdv ct : Value) (a b c r o : Value), bindArgs (PySem.W.fnOf x x (defArgs st) (defBody st) (defScope st) .none (.ref D) doc pm an cdv ct) ⟨[a, b, c], [("ring", r), ("own", o)]⟩ = pure ([p1, p2, p3, "own", "ring"].zip [a, b, c, o, r]))
    (b2 : ∀ (D : Addr) (doc pm : Value) (an : Option Addr) (cdv ct : Value) (a b c r o : Value), bindArgs (PySem.W.fnOf x x (defArgs st) (defBody st) (defScope st) .none (.ref D) doc pm an cdv ct) ⟨[a, b, c], [("own", o), ("ring", r)]⟩ = pure ([p1, p2, p3, "own", "ring"].zip [a, b, c, o, r]))
    (b3 : ∀ (D : Addr) (doc pm : Value) (an : Option Addr) (cdv ct : Value) (a b c r o : Value), KwChain D [("own", o)] (bindArgs (PySem.W.fnOf x x (defArgs st) (defBody st) (defScope st) .none (.ref D) doc pm an cdv ct) ⟨[a, b, c], [("ring", r)]⟩) ([p1, p2, p3, "own", "ring"].zip [a, b, c, o, r]))
    (b4 : ∀ (D : Addr) (doc pm : Value) (an : Option Addr) (cdv ct : Value) (a b c r o : Value), KwChain D [("ring", r)] (bindArgs (PySem.W.fnOf x x (defArgs st) (defBody st) (defScope st) .none (.ref D) doc pm an cdv ct) ⟨[a, b, c], [("own", o)]⟩) ([p1, p2, p3, "own", "ring"].zip [a, b, c, o, r])) :
    CalW P w K mg base (k + 1) x 3 ["ring", "own"] gRO sp ∧ CalW P w K mg base (k + 1) x 3 ["own", "ring"] gOR sp ∧ CalW P w K mg base (k + 1) x 3 ["ring"] gR sp ∧ CalW P w K mg base (k + 1) x 3 ["own"] gO sp := by
  obtain ⟨fd, F⟩ := F
  have hok : FnOk P w K mg base CX0 (k + 1) (He.ga K x) fd [p1, p2, p3, "own", "ring"] sp := F.ok (CX := CX0) S (fun vs H Q E h => len vs H Q E h) (fun cdv A outer s H vs Q E hr h => by
    obtain ⟨t, h1, h2⟩ := hb _ cdv A outer s H vs Q E hr h
    exact ⟨t, h1.nox, h2⟩)
  have ne : ([("own", V.non), ("ring", V.int 64)] : List (Str × V)) ≠ [] := by simp
  refine ⟨?_, ?_, ?_, ?_⟩
  · obtain ⟨g1, kb⟩ := kw_mk (ps := [p1, p2, p3, "own", "ring"]) F ne 3 ["ring", "own"] [] (fun q hq => by cases hq) (fun us ws _ => us ++ [ws.getD 1 .none, ws.getD 0 .none]) (fun vs zs _ => vs ++ [zs.getD 1 .non, zs.getD 0 .non]) (fun r1 r2 _ => r1.append (.cons (vals_getD r2 1) (.cons (vals_getD r2 0) .nil)))
      (fun D doc pm an cdv ct us ws ds l1 l2 l3 => match us, ws, ds, l1, l2, l3 with | [a, b, c], [r, o], [], _, _, _ => b1 D doc pm an cdv ct a b c r o)
    exact ⟨_, fd, _, g1, hok, He.glo_ok X G g, F.kp, kb⟩
  · obtain ⟨g1, kb⟩ := kw_mk (ps := [p1, p2, p3, "own", "ring"]) F ne 3 ["own", "ring"] [] (fun q hq => by cases hq) (fun us ws _ => us ++ [ws.getD 0 .none, ws.getD 1 .none]) (fun vs zs _ => vs ++ [zs.getD 0 .non, zs.getD 1 .non]) (fun r1 r2 _ => r1.append (.cons (vals_getD r2 0) (.cons (vals_getD r2 1) .nil)))
      (fun D doc pm an cdv ct us ws ds l1 l2 l3 => match us, ws, ds, l1, l2, l3 with | [a, b, c], [o, r], [], _, _, _ => b2 D doc pm an cdv ct a b c r o)
    exact ⟨_, fd, _, g1, hok, He.glo_ok X G g, F.kp, kb⟩
  · obtain ⟨g1, kb⟩ := kw_mk (ps := [p1, p2, p3, "own", "ring"]) F ne 3 ["ring"] [("own", .non)] (fun q hq => by rw [List.mem_singleton.mp hq]; exact List.mem_cons_self ..) (fun us ws ds => us ++ [ds.getD 0 .none, ws.getD 0 .none]) (fun vs zs es => vs ++ [es.getD 0 .non, zs.getD 0 .non]) (fun r1 r2 r3 => r1.append (.cons (vals_getD r3 0) (.cons (vals_getD r2 0) .nil)))
      (fun D doc pm an cdv ct us ws ds l1 l2 l3 => match us, ws, ds, l1, l2, l3 with | [a, b, c], [r], [o], _, _, _ => b3 D doc pm an cdv ct a b c r o)
    exact ⟨_, fd, _, g1, hok, He.glo_ok X G g, F.kp, kb⟩
  · obtain ⟨g1, kb⟩ := kw_mk (ps := [p1, p2, p3, "own", "ring"]) F ne 3 ["own"] [("ring", .int 64)] (fun q hq => by rw [List.mem_singleton.mp hq]; exact List.mem_cons_of_mem _ (List.mem_cons_self ..)) (fun us ws ds => us ++ [ws.getD 0 .none, ds.getD 0 .none]) (fun vs zs es => vs ++ [zs.getD 0 .non, es.getD 0 .non]) (fun r1 r2 r3 => r1.append (.cons (vals_getD r2 0) (.cons (vals_getD r3 0) .nil)))
      (fun D doc pm an cdv ct us ws ds l1 l2 l3 => match us, ws, ds, l1, l2, l3 with | [a, b, c], [o], [r], _, _, _ => b4 D doc pm an cdv ct a b c r o)
    exact ⟨_, fd, _, g1, hok, He.glo_ok X G g, F.kp, kb⟩
/-! ### what is a look, of anything -/
def odds7 : List String := ["NoneType", "bool", "str", "list", "dict"]
/-- a thing of another type than int and tuple -/
def Odd7 (K : PySem.W.Frag) (H : Hp) (v : V) : Prop := ∃ T, T ∈ odds7 ∧ TyX K H v (.type T)
def Num (v : V) (s : Int) : Prop := ∃ i, v = .int i ∧ 0 ≤ i ∧ i < s
def NoNum (K : PySem.W.Frag) (H : Hp) (v : V) (s : Int) : Prop := Odd7 K H v ∨ (∃ a xs, v = .ref a ∧ SqT K H a xs) ∨ ∃ i, v = .int i ∧ ¬ (0 ≤ i ∧ i < s)
theorem ty_sqT {K : PySem.W.Frag} {H : Hp} {a : Addr} {xs : List V} (h : SqT K H a xs) : TyX K H (.ref a) (.type "tuple") := by
  rcases h with (h | ⟨o, h⟩) | ⟨o, its, n, hk, hc, hs, hz, r⟩
  · exact .base (.tup h)
  · exact .fTuple h
  · exact .kTuple hk hc
def inOrd (ns : List Int) (l : Int) (s : Int) : Bool := ((ns ++ [l]).zip ((ns ++ [l]).drop 1)).all (fun p => bef p.1 p.2 s) && ns.all fun x => bef x l s
inductive LkR (K : PySem.W.Frag) (H : Hp) (s : Int) : V → Bool → Prop
  | odd {v : V} : Odd7 K H v → LkR K H s v false
  | int (i : Int) : LkR K H s (.int i) false
  | len {a : Addr} {xs : List V} : SqT K H a xs → xs.length ≠ 2 → LkR K H s (.ref a) false
  | fst {a : Addr} {x y : V} : SqT K H a [x, y] → NoNum K H x s → LkR K H s (.ref a) false
  | snd {a : Addr} {x y : V} : SqT K H a [x, y] → Num x s → (Odd7 K H y ∨ ∃ i, y = .int i) → LkR K H s (.ref a) false
  | thd {a t : Addr} {x : V} {ys : List V} : SqT K H a [x, .ref t] → Num x s → SqT K H t ys → ys.length ≤ 100 → (∀ y ∈ ys, Num y s ∨ NoNum K H y s) → (∃ y ∈ ys, NoNum K H y s) → LkR K H s (.ref a) false
  | yes {a : Addr} {c : Int} {xs : List Int} : Lk K H a c xs → xs.length ≤ 100 → 0 ≤ c → c < s → (∀ x ∈ xs, 0 ≤ x ∧ x < s) → LkR K H s (.ref a) (inOrd xs c s)
def spWhole (K : PySem.W.Frag) : Sp := fun vs H Q _ => ∃ v, vs = [v] ∧ (((Odd7 K H v ∨ ∃ a xs, v = .ref a ∧ SqT K H a xs) ∧ Q (.bl false) H) ∨ ∃ i, v = .int i ∧ Q (.bl true) H)
def spNumber (K : PySem.W.Frag) : Sp := fun vs H Q _ => ∃ v s, vs = [v, .int s] ∧ ((Num v s ∧ Q (.bl true) H) ∨ (NoNum K H v s ∧ Q (.bl false) H))
def spOrder (K : PySem.W.Frag) : Sp := fun vs H Q _ => ∃ (L : Addr) (ns : List Int) (l s : Int), vs = [.ref L, .int s] ∧ SqL K H L ((ns ++ [l]).map V.int) ∧ ns.length ≤ 100 ∧ 0 < s ∧ s ≤ 1048576 ∧ ∀ H', Same H H' → Q (.bl (inOrd ns l s)) H'
def spIsLook (K : PySem.W.Frag) : Sp := fun vs H Q _ => ∃ (v : V) (s : Int) (b : Bool), vs = [v, .int s] ∧ LkR K H s v b ∧ 0 < s ∧ s ≤ 1048576 ∧ ∀ H', Same H H' → Q (.bl b) H'
theorem kb {T U : String} {r : Bool} {K : PySem.W.Frag} (h : kitB T U = some r) : PySem.W.kitOne K (.type T) (.type U) = some r := kit_ty h
theorem odd_int {T : String} (h : T ∈ odds7) : ∃ b : Bool, kitB T "int" = some b ∧ kitB T "tuple" = some false ∧ (b = true → kitB T "bool" = some true) := by
  simp only [odds7, List.mem_cons, List.not_mem_nil, or_false] at h
  rcases h with rfl | rfl | rfl | rfl | rfl
  · exact ⟨false, by decide +kernel, by decide +kernel, by intro z; cases z⟩
  · exact ⟨true, by decide +kernel, by decide +kernel, by intro z; decide +kernel⟩
  · exact ⟨false, by decide +kernel, by decide +kernel, by intro z; cases z⟩
  · exact ⟨false, by decide +kernel, by decide +kernel, by intro z; cases z⟩
  · exact ⟨false, by decide +kernel, by decide +kernel, by intro z; cases z⟩
section
variable {P : Program} {w : World} {K : PySem.W.Frag} {mg : Str → Option Value} {base : Heap}
theorem ok_whole (T : Tx K mg) : BodyOk P w K mg base "is_whole" s_is_whole N_is_whole 0 (spWhole K) := by
  intro f cdv A outer s H vs Q E hr h
  obtain ⟨v, rfl, h⟩ := h
  refine ⟨_, (pss_one (ps_ret (pe_and (pe_callB call_isi (gl_of gl_is_whole_isinstance) T.isinstance bb_isinstance (pa_cons (pv 0) (pa_cons (pe_bltn (v := .ty "int") (gl_of gl_is_whole_int) T.int bt_int rfl) pa_nil))) (pe_one (pe_not (pe_callB call_isi (gl_of gl_is_whole_isinstance) T.isinstance bb_isinstance (pa_cons (pv 0) (pa_cons (pe_bltn (v := .ty "bool") (gl_of gl_is_whole_bool) T.bool bt_bool rfl) pa_nil)))))))), ?_⟩
  rcases h with ⟨h | ⟨a, xs, rfl, hT⟩, q⟩ | ⟨i, rfl, q⟩
  · obtain ⟨T', hT', ty⟩ := h
    obtain ⟨b, k1, k2, k3⟩ := odd_int hT'
    refine ⟨_, rfl, _, _, _, _, b, rfl, .ty "int", ty, kb k1, _, rfl, ite2 (fun y => ?_) (fun y => q)⟩
    exact ⟨_, rfl, _, _, _, _, true, rfl, .ty "bool", ty, kb (k3 y), _, rfl, q⟩
  · refine ⟨_, rfl, _, _, _, _, false, rfl, .ty "int", ty_sqT hT, kb (by decide +kernel), _, rfl, iteF q⟩
  · refine ⟨_, rfl, _, _, _, _, true, rfl, .ty "int", .base (.int i), kb (by decide +kernel), _, rfl, iteT ?_⟩
    exact ⟨_, rfl, _, _, _, _, false, rfl, .ty "bool", .base (.int i), kb (by decide +kernel), _, rfl, q⟩
theorem ok_number (T : Tx K mg) (c_is_whole : C8.Cal P w K mg base 1 "is_whole" (spWhole K) []) : BodyOk P w K mg base "is_number" s_is_number N_is_number 1 (spNumber K) := by
  intro f cdv A outer s H vs Q E hr h
  obtain ⟨v, s, rfl, h⟩ := h
  refine ⟨_, (pss_one (ps_ret (pe_and (C8.pe_c c_is_whole hr (by decide) (gl_of gl_is_number_is_whole) (pa_cons (pv 0) pa_nil)) (pe_one (pe_chain op_le op_lt pe_int (pv 0) (pv 1)))))), ?_⟩
  rcases h with ⟨⟨i, rfl, i0, i1⟩, q⟩ | ⟨h | h | ⟨i, rfl, hi⟩, q⟩
  · refine ⟨_, rfl, _, rfl, .inr ⟨i, rfl, true, rfl, iteT ?_⟩⟩
    refine ⟨_, rfl, _, _, rfl, rfl, _, rfl, ?_⟩
    rw [decide_eq_true i0]
    refine iteT ⟨_, rfl, _, _, rfl, rfl, ?_⟩
    show Q (.bl (decide (i < s))) H
    rw [decide_eq_true i1]
    exact q
  · exact ⟨_, rfl, _, rfl, .inl ⟨.inl h, false, rfl, iteF q⟩⟩
  · exact ⟨_, rfl, _, rfl, .inl ⟨.inr h, false, rfl, iteF q⟩⟩
  · refine ⟨_, rfl, _, rfl, .inr ⟨i, rfl, true, rfl, iteT ?_⟩⟩
    refine ⟨_, rfl, _, _, rfl, rfl, _, rfl, ite2 (fun y => ?_) (fun y => q)⟩
    have y2 : 0 ≤ i := of_decide_eq_true y
    refine ⟨_, rfl, _, _, rfl, rfl, ?_⟩
    show Q (.bl (decide (i < s))) H
    rw [decide_eq_false (fun z => hi ⟨y2, z⟩)]
    exact q
theorem cut1 (ns : List Int) : cutV (ns.map V.int) (some 1) none = (ns.drop 1).map V.int := by
  unfold cutV
  rw [show HT.sIx (ns.map V.int).length 0 (some 1) = min 1 (ns.map V.int).length from HT.sIx_nat _ _ 1, HT.sIx_none, List.length_map, ← List.map_drop, ← List.map_take]
  congr 1
  cases ns with
  | nil => rfl
  | cons x r =>
    rw [show min 1 (x :: r).length = 1 from by rw [List.length_cons]; omega]
    refine List.take_of_length_le ?_
    rw [List.length_drop]
    exact Nat.le_refl _
theorem cutL (ns : List Int) (l : Int) : cutV ((ns ++ [l]).map V.int) none (some (-1)) = ns.map V.int := by
  unfold cutV
  have e1 : HT.sIx ((ns ++ [l]).map V.int).length ((ns ++ [l]).map V.int).length (some (-1)) = ns.length := by
    unfold HT.sIx
    dsimp only
    rw [if_pos (by decide), List.length_map, List.length_append]
    show (-1 + ((ns.length + 1 : Nat) : Int)).toNat = ns.length
    omega
  rw [e1, HT.sIx_none, List.drop_zero, Nat.sub_zero, List.map_append]
  exact List.take_left' (by rw [List.length_map])
theorem zip_ints : ∀ (xs ys : List Int), (xs.map V.int).zip (ys.map V.int) = (xs.zip ys).map fun p => (V.int p.1, V.int p.2)
  | [], _ => rfl
  | _ :: _, [] => rfl
  | x :: xs, y :: ys => by
    show (V.int x, V.int y) :: (xs.map V.int).zip (ys.map V.int) = _
    rw [zip_ints xs ys]
    rfl
theorem paired_map {α β γ : Type} {R : α → β → Prop} {g : γ → β} : ∀ {as : List α} {cs : List γ}, Paired R as (cs.map g) → Paired (fun a c => R a (g c)) as cs
  | _, [], .nil => .nil
  | _, _ :: _, .cons h t => .cons h (paired_map t)
theorem paired_app {α β : Type} {R : α → β → Prop} : ∀ {as : List α} {bs : List β} {cs : List α} {ds : List β}, Paired R as bs → Paired R cs ds → Paired R (as ++ cs) (bs ++ ds)
  | _, _, _, _, .nil, h => h
  | _, _, _, _, .cons a t, h => .cons a (paired_app t h)
theorem ok_order (T : Tx K mg) (k_before : CalK P w K mg base 2 "before" 2 ["ring"] spBefore) : BodyOk P w K mg base "in_order" s_in_order N_in_order 2 (spOrder K) := by
  intro f cdv A outer s H vs Q E hr h
  obtain ⟨L, ns, l, s, rfl, hL, ln, s0, s1, q⟩ := h
  refine ⟨_, (pss_cons (ps_set (i := 2) sc_in_order.nd rfl (Or.inl rfl) (pe_listZip rfl (gl_of gl_in_order_list) T.list (gl_of gl_in_order_zip) T.zip (pa_cons (pv 0) (pa_cons (pe_slice sl_list (pv 0) (po_some pe_int) po_none) pa_nil))))
      (pss_cons (ps_aug (i := 2) sc_in_order.nd rfl (Or.inl rfl) (pe_lc (own := [("one", 3)]) (g := gName 3) (tt := tYes) rfl sc_in_order.nd (pi_list (pe_slice sl_list (pv 0) po_none (po_some (pe_un un_neg pe_int)))) (blkOk_by (own := [("one", 3)]) (N := N_in_order) (sc := defScope s_in_order) (by decide +kernel)) (fun _ _ _ _ _ => pg_name (i := 3) sc_in_order.nd rfl (Or.inl rfl)) (fun _ _ _ _ _ => pts_nil) (fun _ _ _ _ _ => (pe_tup (pa_cons (pv 3) (pa_cons (pe_ix (ix_listK (K1 := K) rfl) (pv 0) (pe_un un_neg pe_int) (fun _ _ => rfl)) pa_nil))))) iop_ext)
      (pss_one (ps_ret (pe_callB (cr_all rfl) (gl_of gl_in_order_all) T.all bb_all (pa_cons (pe_lc (own := [("one", 3), ("other", 4)]) (g := gTup K 2 (gCons (gName 3) (gCons (gName 4) gNil))) (tt := tYes) rfl sc_in_order.nd (pi_list (pv 2)) (blkOk_by (own := [("one", 3), ("other", 4)]) (N := N_in_order) (sc := defScope s_in_order) (by decide +kernel)) (fun _ _ _ _ _ => pg_tup rfl (pgs_cons (pg_name (i := 3) sc_in_order.nd rfl (Or.inl rfl)) (pgs_cons (pg_name (i := 4) sc_in_order.nd rfl (Or.inl rfl)) pgs_nil))) (fun _ _ _ _ _ => pts_nil) (fun _ _ _ _ _ => (pe_ck k_before hr (by decide) (by rfl) (pa_cons (pv 3) (pa_cons (pv 4) pa_nil)) (pk_cons (pv 1) pk_nil)))) pa_nil)))))), ?_⟩
  refine st_seq ?_
  refine ⟨_, rfl, _, rfl, _, rfl, ?_⟩
  dsimp only [tNoPart]
  refine ⟨L, _, rfl, hL, fun L1 nL1 => ?_⟩
  rw [cut1]
  have s1' : Same H (upd H L1 (.lst (((ns ++ [l]).drop 1).map V.int))) := same_new nL1
  have e1 : (upd H L1 (.lst (((ns ++ [l]).drop 1).map V.int))) L1 = some (.lst (((ns ++ [l]).drop 1).map V.int)) := upd_same
  generalize upd H L1 (.lst (((ns ++ [l]).drop 1).map V.int)) = H1 at s1' e1
  refine ⟨L, L1, _, _, rfl, s1'.seq hL, SqL.of e1, fun Z ps H2 s2 nZ eZ hp => ?_⟩
  rw [zip_ints] at hp
  have hp2 := paired_map hp
  have lz : ((ns ++ [l]).zip ((ns ++ [l]).drop 1)).length ≤ 101 := by
    rw [List.length_zip, List.length_append]
    show min (ns.length + 1) _ ≤ 101
    omega
  unfold inOrd at q
  generalize (ns ++ [l]).zip ((ns ++ [l]).drop 1) = zs at hp2 lz q
  have lps : ps.length = zs.length := paired_len hp2
  have s02 : Same H H2 := s1'.trans s2
  have hL2 := s02.seq hL
  have nZH : H Z = none := by
    cases hq : H Z with
    | none => rfl
    | some o =>
      rw [s1' _ _ hq] at nZ
      cases nZ
  -- the second pairs
  try dsimp only [gName]
  refine st_seq ?_
  refine ⟨_, rfl, _, rfl, ?_⟩
  dsimp only [tNoPart]
  refine ⟨_, rfl, _, rfl, L, _, rfl, hL2, fun L2' nL2 => ?_⟩
  rw [cutL]
  have s3 : Same H2 (upd H2 L2' (.lst (ns.map V.int))) := same_new nL2
  have e3 : (upd H2 L2' (.lst (ns.map V.int))) L2' = some (.lst (ns.map V.int)) := upd_same
  generalize upd H2 L2' (.lst (ns.map V.int)) = H3 at s3 e3
  refine ⟨L2', rfl, ⟨_, SqL.of e3⟩, fun D nD => ?_⟩
  have hL3 := s3.seq hL2
  refine lc_list (K := K) (a := L2') (xs := ns.map V.int) (fun j H'' => Same H3 H'' ∧ ∃ qs : List Addr, H'' D = some (.lst (qs.map V.ref)) ∧ Paired (fun q (r : Int × Int) => H'' q = some (.tup [.int r.1, .int r.2])) qs ((ns.take j).map fun x => (x, l))) ?_ (fun j H'' _ hP => ?_) (fun j v H'' hv hP => ?_) (fun H4 hP => ?_)
  · exact ⟨same_new nD, [], upd_same, by rw [List.take_zero]; exact .nil⟩
  · exact SqL.of (hP.1 _ _ e3)
  · obtain ⟨sD, qs, eD, hq⟩ := hP
    have hjl : j < ns.length := by
      have z := (List.getElem?_eq_some_iff.mp hv).1
      rw [List.length_map] at z
      exact z
    rw [List.getElem?_map, List.getElem?_eq_getElem hjl] at hv
    have ev : v = .int ns[j] := (Option.some.inj hv).symm
    subst ev
    have lq := paired_len hq
    rw [List.length_map, List.length_take] at lq
    refine ⟨rfl, ?_⟩
    refine ⟨_, rfl, _, rfl, _, rfl, L, _, -1, .int l, rfl, rfl, sD.seq hL3, ?_, (show 2 ≤ sizeLine by decide), fun t nt => ?_⟩
    · rw [List.map_append]
      exact atI_last _ _
    have eDt := same_new (o := .tup [.int ns[j], .int l]) nt _ _ eD
    have et : (upd H'' t (.tup [.int ns[j], .int l])) t = some (.tup [.int ns[j], .int l]) := upd_same
    have st : Same H'' (upd H'' t (.tup [.int ns[j], .int l])) := same_new nt
    generalize upd H'' t (.tup [.int ns[j], .int l]) = H5 at eDt et st
    have tD : t ≠ D := ne_tl et eDt
    refine ⟨_, eDt, ?_, same_mut (sD.trans st) nD, qs ++ [t], ?_, ?_⟩
    · rw [List.length_map]
      exact small1000 (by omega)
    · rw [upd_same, List.map_append]
      rfl
    · rw [take_add1 ns j hjl, List.map_append]
      refine paired_app (paired_mono (fun a b z => ?_) hq) (.cons ?_ .nil)
      · have za := st _ _ z
        rw [upd_ne (ne_tl za eDt)]
        exact za
      · rw [upd_ne tD]
        exact et
  obtain ⟨sD, qs, eD, hq⟩ := hP
  rw [List.length_map, List.take_length] at hq
  have lq := paired_len hq
  rw [List.length_map] at lq
  have s24 : Same H2 H4 := s3.trans sD
  have eZ4 := s24 _ _ eZ
  refine ⟨Z, D, _, _, rfl, rfl, eZ4, eD, ?_, ?_⟩
  · rw [List.length_map, List.length_map]
    exact Nat.le_of_lt (small1000 (by omega))
  have eZ5 : (upd H4 Z (.lst (ps.map V.ref ++ qs.map V.ref))) Z = some (.lst ((ps ++ qs).map V.ref)) := by
    rw [upd_same, List.map_append]
  have s05 : Same H (upd H4 Z (.lst (ps.map V.ref ++ qs.map V.ref))) := same_mut (s02.trans s24) nZH
  have hpq : Paired (fun q (r : Int × Int) => (upd H4 Z (.lst (ps.map V.ref ++ qs.map V.ref))) q = some (.tup [.int r.1, .int r.2])) (ps ++ qs) (zs ++ ns.map fun x => (x, l)) := by
    refine paired_app (paired_mono (fun a b z => ?_) hp2) (paired_mono (fun a b z => ?_) hq)
    · have za := s24 _ _ z
      rw [upd_ne (ne_tl za eZ4)]
      exact za
    · rw [upd_ne (ne_tl z eZ4)]
      exact z
  generalize upd H4 Z (.lst (ps.map V.ref ++ qs.map V.ref)) = H5 at eZ5 s05 hpq
  have lpq : (ps ++ qs).length ≤ 300 := by
    rw [List.length_append]
    omega
  have q2 : ∀ H', Same H H' → Q (.bl (((zs ++ ns.map fun x => (x, l)).map fun p => bef p.1 p.2 s).all id)) H' := fun H' sm => by
    have z := q H' sm
    have e1 : ((zs ++ ns.map fun x => (x, l)).map fun p => bef p.1 p.2 s).all id = (zs.all (fun p => bef p.1 p.2 s) && ns.all fun x => bef x l s) := by
      rw [List.map_append, List.all_append, List.all_map, List.map_map, List.all_map]
      rfl
    rw [e1]
    exact z
  generalize zs ++ ns.map (fun x => (x, l)) = rs at hpq q2
  generalize ps ++ qs = as at eZ5 hpq lpq
  have las := paired_len hpq
  -- all of them
  refine ⟨_, rfl, Z, rfl, ⟨_, SqL.of eZ5⟩, fun B nB => ?_⟩
  refine lc_list (K := K) (a := Z) (xs := as.map V.ref) (fun j H'' => Same H5 H'' ∧ H'' B = some (.lst (((rs.map fun p => bef p.1 p.2 s).take j).map V.bl))) ?_ (fun j H'' _ hP => ?_) (fun j v H'' hv hP => ?_) (fun H6 hP => ?_)
  · exact ⟨same_new nB, upd_same⟩
  · exact SqL.of (hP.1 _ _ eZ5)
  · obtain ⟨sB, eB⟩ := hP
    have hjl : j < as.length := by
      have z := (List.getElem?_eq_some_iff.mp hv).1
      rw [List.length_map] at z
      exact z
    have hjr : j < rs.length := by omega
    rw [List.getElem?_map, List.getElem?_eq_getElem hjl] at hv
    have ev : v = .ref as[j] := (Option.some.inj hv).symm
    subst ev
    have et := sB _ _ (paired_at hpq hjl hjr)
    refine ⟨as[j], _, rfl, SqT.of et, rfl, _, _, rfl, _, _, rfl, rfl, rfl, ?_⟩
    refine ⟨_, rfl, _, rfl, _, rfl, rfl, rfl, rs[j].1, rs[j].2, s, rfl, s0, s1, _, eB, ?_, same_mut sB nB, ?_⟩
    · rw [List.length_map, List.length_take]
      exact small1000 (by omega)
    · have hjm : j < (rs.map fun p => bef p.1 p.2 s).length := by
        rw [List.length_map]
        exact hjr
      rw [upd_same, take_add1 _ j hjm, List.map_append, List.getElem_map]
      rfl
  obtain ⟨sB, eB⟩ := hP
  have etk : (rs.map fun p => bef p.1 p.2 s).take (as.map V.ref).length = rs.map fun p => bef p.1 p.2 s := by
    refine List.take_of_length_le ?_
    rw [List.length_map, List.length_map]
    omega
  rw [etk] at eB
  exact ⟨B, _, rfl, SqL.of eB, q2 _ (s05.trans sB)⟩
theorem inV_ints (x : Int) (ks : List Int) : True := trivial
theorem nums_of {s : Int} : ∀ {ys : List V}, (∀ y ∈ ys, Num y s) → ∃ xs : List Int, ys = xs.map V.int ∧ ∀ x ∈ xs, 0 ≤ x ∧ x < s
  | [], _ => ⟨[], rfl, fun x hx => by cases hx⟩
  | y :: r, h => by
    obtain ⟨i, rfl, hi⟩ := h y (List.mem_cons_self ..)
    obtain ⟨xs, rfl, hx⟩ := nums_of (ys := r) fun z hz => h z (List.mem_cons_of_mem _ hz)
    refine ⟨i :: xs, rfl, fun x hx' => ?_⟩
    rcases List.mem_cons.mp hx' with e | e
    · rw [e]
      exact hi
    · exact hx x e
theorem NoNum.same {K : PySem.W.Frag} {H H' : Hp} {v : V} {s : Int} (sm : Same H H') (h : NoNum K H v s) : NoNum K H' v s := by
  rcases h with ⟨T, hT, ty⟩ | ⟨a, xs, rfl, h⟩ | h
  · refine .inl ⟨T, hT, ?_⟩
    simp only [odds7, List.mem_cons, List.not_mem_nil, or_false] at hT
    cases ty with
    | base b =>
      cases b with
      | non => exact .base .non
      | bl x => exact .base (.bl x)
      | int i => exact .base (.int i)
      | str x => exact .base (.str x)
      | flt x => exact .base (.flt x)
      | lst e => exact .base (.lst (sm _ _ e))
      | frz e => exact .base (.frz (sm _ _ e))
      | tup e => exact .base (.tup (sm _ _ e))
      | dK e => exact .base (.dK (sm _ _ e))
      | dT e => exact .base (.dT (sm _ _ e))
    | byt b => exact .byt b
    | set e => exact .set (sm _ _ e)
    | kList e c => exact .kList e c
    | kTuple e c => exact .kTuple e c
    | kDict e c => exact .kDict e c
    | fTuple e => exact .fTuple (sm _ _ e)
    | fDict e => exact .fDict (sm _ _ e)
  · exact .inr (.inl ⟨a, xs, rfl, sqT_same sm h⟩)
  · exact .inr (.inr h)
theorem ok_isLook (T : Tx K mg) (c_is_number : C8.Cal P w K mg base 2 "is_number" (spNumber K) []) (c_in_order : C8.Cal P w K mg base 3 "in_order" (spOrder K) []) : BodyOk P w K mg base "is_look" s_is_look N_is_look 3 (spIsLook K) := by
  intro f cdv A outer s H vs Q E hr h
  obtain ⟨v, s, b, rfl, hR, s0, s1, q⟩ := h
  refine ⟨_, (pss_cons (ps_if (PW.pt (pw_or (pt_not (pt_val (pe_callB call_isi (gl_of gl_is_look_isinstance) T.isinstance bb_isinstance (pa_cons (pv 0) (pa_cons (pe_bltn (v := .ty "tuple") (gl_of gl_is_look_tuple) T.tuple bt_tuple rfl) pa_nil))))) (pw_or1 (pt_cmpR op_ne (pe_callB call_len_seq (gl_of gl_is_look_len) T.len bb_len (pa_cons (pv 0) pa_nil)) pe_int (nomark _))))) (pss_one (ps_ret pe_bl)) pss_nil)
      (pss_cons (ps_asg (pv 0) (pg_tup rfl (pgs_cons (pg_name (i := 2) sc_is_look.nd rfl (Or.inl rfl)) (pgs_cons (pg_name (i := 3) sc_is_look.nd rfl (Or.inl rfl)) pgs_nil))))
      (pss_cons (ps_if (PW.pt (pw_or (pt_not (pt_val (C8.pe_c c_is_number hr (by decide) (gl_of gl_is_look_is_number) (pa_cons (pv 2) (pa_cons (pv 1) pa_nil))))) (pw_or1 (pt_not (pt_val (pe_callB call_isi (gl_of gl_is_look_isinstance) T.isinstance bb_isinstance (pa_cons (pv 3) (pa_cons (pe_bltn (v := .ty "tuple") (gl_of gl_is_look_tuple) T.tuple bt_tuple rfl) pa_nil)))))))) (pss_one (ps_ret pe_bl)) pss_nil)
      (pss_one (ps_ret (pe_and (pe_callB (cr_all rfl) (gl_of gl_is_look_all) T.all bb_all (pa_cons (pe_lc (own := [("one", 4)]) (g := gName 4) (tt := tYes) rfl sc_is_look.nd (pi_tup (pv 3)) (blkOk_by (own := [("one", 4)]) (N := N_is_look) (sc := defScope s_is_look) (by decide +kernel)) (fun _ _ _ _ _ => pg_name (i := 4) sc_is_look.nd rfl (Or.inl rfl)) (fun _ _ _ _ _ => pts_nil) (fun _ _ _ _ _ => (C8.pe_c c_is_number hr (by decide) (by rfl) (pa_cons (pv 4) (pa_cons (pv 1) pa_nil))))) pa_nil)) (pe_one (C8.pe_c c_in_order hr (by decide) (gl_of gl_is_look_in_order) (pa_cons (pe_lst (StX.pa_star (pv 3) (pa_cons (pv 2) pa_nil))) (pa_cons (pv 1) pa_nil)))))))))), ?_⟩
  have sr : Same H H := fun _ _ e => e
  -- the second half, for a pair
  refine st_seq ?_
  cases hR with
  | odd h =>
    obtain ⟨T', hT', ty⟩ := h
    obtain ⟨b, k1, k2, k3⟩ := odd_int hT'
    exact ⟨_, rfl, _, _, _, _, false, rfl, .ty "tuple", ty, kb k2, _, rfl, iteT (iteT (q _ sr))⟩
  | int i => exact ⟨_, rfl, _, _, _, _, false, rfl, .ty "tuple", .base (.int i), kb (by decide +kernel), _, rfl, iteT (iteT (q _ sr))⟩
  | @len a xs h hl =>
    refine ⟨_, rfl, _, _, _, _, true, rfl, .ty "tuple", ty_sqT h, kb (by decide +kernel), _, rfl, iteF ?_⟩
    refine ⟨_, rfl, a, xs, rfl, .inr h, rfl, true, ?_, iteT (q _ sr)⟩
    show V.bl (!decide (V.int (xs.length : Nat) = V.int 2)) = _
    rw [decide_eq_false (fun z => hl (by have := V.int.inj z; omega))]
    rfl
  | @fst a x y h hn =>
    refine ⟨_, rfl, _, _, _, _, true, rfl, .ty "tuple", ty_sqT h, kb (by decide +kernel), _, rfl, iteF ?_⟩
    refine ⟨_, rfl, a, _, rfl, .inr h, rfl, false, rfl, iteF ?_⟩
    refine st_next ?_
    try dsimp only
    refine st_seq ?_
    refine ⟨_, rfl, a, _, rfl, h, rfl, _, _, rfl, _, _, rfl, rfl, ?_⟩
    try dsimp only
    refine st_seq ?_
    exact ⟨_, rfl, _, rfl, x, s, rfl, .inr ⟨hn, _, rfl, iteT (iteT (q _ sr))⟩⟩
  | @snd a x y h hx hy =>
    refine ⟨_, rfl, _, _, _, _, true, rfl, .ty "tuple", ty_sqT h, kb (by decide +kernel), _, rfl, iteF ?_⟩
    refine ⟨_, rfl, a, _, rfl, .inr h, rfl, false, rfl, iteF ?_⟩
    refine st_next ?_
    try dsimp only
    refine st_seq ?_
    refine ⟨_, rfl, a, _, rfl, h, rfl, _, _, rfl, _, _, rfl, rfl, ?_⟩
    try dsimp only
    refine st_seq ?_
    refine ⟨_, rfl, _, rfl, x, s, rfl, .inl ⟨hx, _, rfl, iteF ?_⟩⟩
    rcases hy with ⟨T', hT', ty⟩ | ⟨i, rfl⟩
    · obtain ⟨b, k1, k2, k3⟩ := odd_int hT'
      exact ⟨_, rfl, _, _, _, _, false, rfl, .ty "tuple", ty, kb k2, _, rfl, iteT (q _ sr)⟩
    · exact ⟨_, rfl, _, _, _, _, false, rfl, .ty "tuple", .base (.int i), kb (by decide +kernel), _, rfl, iteT (q _ sr)⟩
  | @thd a t x ys h hx ht lys hall hex =>
    refine ⟨_, rfl, _, _, _, _, true, rfl, .ty "tuple", ty_sqT h, kb (by decide +kernel), _, rfl, iteF ?_⟩
    refine ⟨_, rfl, a, _, rfl, .inr h, rfl, false, rfl, iteF ?_⟩
    refine st_next ?_
    try dsimp only
    refine st_seq ?_
    refine ⟨_, rfl, a, _, rfl, h, rfl, _, _, rfl, _, _, rfl, rfl, ?_⟩
    try dsimp only
    refine st_seq ?_
    refine ⟨_, rfl, _, rfl, x, s, rfl, .inl ⟨hx, _, rfl, iteF ?_⟩⟩
    refine ⟨_, rfl, _, _, _, _, true, rfl, .ty "tuple", ty_sqT ht, kb (by decide +kernel), _, rfl, iteF ?_⟩
    refine st_next ?_
    try dsimp only
    refine ⟨_, rfl, t, rfl, ⟨_, ht⟩, fun D nD => ?_⟩
    refine lc_tup (K := K) (a := t) (xs := ys) (fun j H'' => Same H H'' ∧ ∃ bs : List Bool, bs.length = j ∧ H'' D = some (.lst (bs.map V.bl)) ∧ (bs.all id = true → ∀ y ∈ ys.take j, Num y s)) ?_ (fun j H'' _ hP => ?_) (fun j v H'' hv hP => ?_) (fun H'' hP => ?_)
    · exact ⟨same_new nD, [], rfl, upd_same, fun _ y hy => by rw [List.take_zero] at hy; cases hy⟩
    · exact sqT_same hP.1 ht
    · obtain ⟨sD, bs, lb, eD, hb⟩ := hP
      have hjl : j < ys.length := (List.getElem?_eq_some_iff.mp hv).1
      have hvm := List.mem_of_getElem? hv
      refine ⟨rfl, ?_⟩
      have step : ∀ b : Bool, (b = true → Num v s) → ∃ acc, H'' D = some (.lst acc) ∧ acc.length < sizeLine ∧ (Same H (upd H'' D (.lst (acc ++ [.bl b]))) ∧ ∃ bs : List Bool, bs.length = j + 1 ∧ (upd H'' D (.lst (acc ++ [.bl b]))) D = some (.lst (bs.map V.bl)) ∧ (bs.all id = true → ∀ y ∈ ys.take (j + 1), Num y s)) := fun b hbn => by
        refine ⟨_, eD, ?_, same_mut sD nD, bs ++ [b], ?_, ?_, fun hall2 y hy => ?_⟩
        · rw [List.length_map]
          exact small1000 (by omega)
        · rw [List.length_append, lb]
          rfl
        · rw [upd_same, List.map_append]
          rfl
        · rw [List.all_append, Bool.and_eq_true] at hall2
          rw [take_add1 ys j hjl] at hy
          rcases List.mem_append.mp hy with e | e
          · exact hb hall2.1 y e
          · rw [List.mem_singleton.mp e]
            have ev : ys[j] = v := by
              rw [List.getElem?_eq_getElem hjl] at hv
              exact Option.some.inj hv
            rw [ev]
            refine hbn ?_
            have z := hall2.2
            simpa using z
      rcases hall v hvm with h1 | h1
      · exact ⟨_, rfl, _, rfl, v, s, rfl, .inl ⟨h1, step true fun _ => h1⟩⟩
      · exact ⟨_, rfl, _, rfl, v, s, rfl, .inr ⟨h1.same sD, step false fun z => by cases z⟩⟩
    · obtain ⟨sD, bs, lb, eD, hb⟩ := hP
      have hno : bs.all id = false := by
        refine Bool.eq_false_iff.mpr fun z => ?_
        obtain ⟨y, hy, hn⟩ := hex
        have hn2 := hb z y (by rw [List.take_length]; exact hy)
        obtain ⟨i, rfl, hi⟩ := hn2
        rcases hn with ⟨T', hT', ty⟩ | ⟨a', xs', e, _⟩ | ⟨i', e, hi'⟩
        · simp only [odds7, List.mem_cons, List.not_mem_nil, or_false] at hT'
          cases ty with
          | base b => cases b; simp at hT'
        · cases e
        · cases e
          exact hi' hi
      refine ⟨D, _, rfl, SqL.of eD, _, rfl, ?_⟩
      rw [hno]
      exact iteF (q _ sD)
  | @yes a c xs h lx c0 c1 hx =>
    obtain ⟨t, h, ht⟩ := h
    refine ⟨_, rfl, _, _, _, _, true, rfl, .ty "tuple", ty_sqT h, kb (by decide +kernel), _, rfl, iteF ?_⟩
    refine ⟨_, rfl, a, _, rfl, .inr h, rfl, false, rfl, iteF ?_⟩
    refine st_next ?_
    try dsimp only
    refine st_seq ?_
    refine ⟨_, rfl, a, _, rfl, h, rfl, _, _, rfl, _, _, rfl, rfl, ?_⟩
    try dsimp only
    refine st_seq ?_
    refine ⟨_, rfl, _, rfl, .int c, s, rfl, .inl ⟨⟨c, rfl, c0, c1⟩, _, rfl, iteF ?_⟩⟩
    refine ⟨_, rfl, _, _, _, _, true, rfl, .ty "tuple", ty_sqT ht, kb (by decide +kernel), _, rfl, iteF ?_⟩
    refine st_next ?_
    try dsimp only
    refine ⟨_, rfl, t, rfl, ⟨_, ht⟩, fun D nD => ?_⟩
    refine lc_tup (K := K) (a := t) (xs := xs.map V.int) (fun j H'' => Same H H'' ∧ H'' D = some (.lst ((List.replicate j true).map V.bl))) ?_ (fun j H'' _ hP => ?_) (fun j v H'' hv hP => ?_) (fun H'' hP => ?_)
    · exact ⟨same_new nD, upd_same⟩
    · exact sqT_same hP.1 ht
    · obtain ⟨sD, eD⟩ := hP
      have hjl : j < xs.length := by
        have z := (List.getElem?_eq_some_iff.mp hv).1
        rw [List.length_map] at z
        exact z
      rw [List.getElem?_map, List.getElem?_eq_getElem hjl] at hv
      have ev : v = .int xs[j] := (Option.some.inj hv).symm
      subst ev
      refine ⟨rfl, ?_⟩
      refine ⟨_, rfl, _, rfl, _, s, rfl, .inl ⟨⟨xs[j], rfl, hx _ (List.getElem_mem hjl)⟩, _, eD, ?_, same_mut sD nD, ?_⟩⟩
      · rw [List.length_map, List.length_replicate]
        exact small1000 (by omega)
      · rw [upd_same, List.replicate_succ', List.map_append]
        rfl
    · obtain ⟨sD, eD⟩ := hP
      refine ⟨D, _, rfl, SqL.of eD, _, rfl, ?_⟩
      rw [all_rep]
      refine iteT ?_
      refine ⟨_, rfl, t, _, rfl, .inl (sqT_same sD ht), _, rfl, ?_⟩
      have el : xs.map V.int ++ [V.int c] = (xs ++ [c]).map V.int := by
        rw [List.map_append]
        rfl
      refine ⟨?_, fun L nL => ?_⟩
      · rw [List.length_append, List.length_map]
        exact Nat.le_of_lt (small1000 (show xs.length + 1 ≤ 1000 by omega))
      · refine ⟨_, rfl, L, xs, c, s, rfl, SqL.of ?_, lx, s0, s1, fun H3 s3 => q _ (sD.trans ((same_new nL).trans s3))⟩
        rw [upd_same, ← el]
end
/-! ### numbers told by how far back they stand -/
def nb (c s b : Int) : Int := (c - b) % s
theorem nb_range {c s b : Int} (hs : 0 < s) : 0 ≤ nb c s b ∧ nb c s b < s := ⟨Int.emod_nonneg _ (by omega), Int.emod_lt_of_pos _ hs⟩
theorem nb_sub (c s g b : Int) : (nb c s g - nb c s b) % s = (b - g) % s := by
  unfold nb
  rw [← Int.sub_emod]
  congr 1
  omega
theorem bef_nb {c s g b : Int} (g0 : 0 ≤ g) (g1 : g < s / 2) (b0 : 0 ≤ b) (b1 : b < s / 2) : bef (nb c s b) (nb c s g) s = decide (g < b) := by
  unfold bef
  rw [nb_sub]
  by_cases z : g < b
  · rw [Int.emod_eq_of_lt (by omega) (by omega), decide_eq_true z, decide_eq_true (show 0 < b - g by omega), decide_eq_true (show b - g < s / 2 by omega)]
    rfl
  · rw [decide_eq_false z]
    by_cases z2 : b = g
    · subst z2
      rw [Int.sub_self, Int.zero_emod]
      rfl
    · have e : (b - g) % s = b - g + s := by
        rw [← Int.add_emod_right, Int.emod_eq_of_lt (by omega) (by omega)]
      rw [e, decide_eq_false (show ¬ b - g + s < s / 2 by omega), Bool.and_false]
theorem nb_inj {c s b b' : Int} (b0 : 0 ≤ b) (b1 : b < s) (c0 : 0 ≤ b') (c1 : b' < s) (h : nb c s b = nb c s b') : b = b' := by
  have e := nb_sub c s b b'
  rw [h, Int.sub_self, Int.zero_emod] at e
  have e2 := Int.emod_emod_of_dvd (b' - b) (Int.dvd_refl s)
  have hd : s ∣ (b' - b) := Int.dvd_of_emod_eq_zero e.symm
  obtain ⟨k, hk⟩ := hd
  have hk0 : k = 0 := by
    rcases Int.lt_trichotomy k 0 with h1 | h1 | h1
    · have : s * k ≤ s * (-1) := Int.mul_le_mul_of_nonneg_left (by omega) (by omega)
      omega
    · exact h1
    · have : s * 1 ≤ s * k := Int.mul_le_mul_of_nonneg_left (by omega) (by omega)
      omega
  rw [hk0, Int.mul_zero] at hk
  omega
theorem nb_self {c s : Int} (c0 : 0 ≤ c) (c1 : c < s) : nb c s 0 = c := by
  unfold nb
  rw [Int.sub_zero, Int.emod_eq_of_lt c0 c1]
theorem nb_shift (c s g b : Int) : nb (nb c s g) s b = nb c s (g + b) := by
  unfold nb
  rw [Int.emod_sub_emod]
  congr 1
  omega
theorem inOrd_true {c s : Int} {bs : List Int} (c0 : 0 ≤ c) (c1 : c < s) (hp : bs.Pairwise (· > ·)) (hb : ∀ b ∈ bs, 0 < b ∧ b < s / 2) : inOrd (bs.map (nb c s)) c s = true := by
  have s8 : ∀ b ∈ bs, 0 < s / 2 := fun b h => by have := hb b h; omega
  unfold inOrd
  rw [Bool.and_eq_true]
  constructor
  · rw [List.all_eq_true]
    intro p hpm
    obtain ⟨i, hi⟩ := List.mem_iff_getElem?.mp hpm
    obtain ⟨e1, e2⟩ := List.getElem?_zip_eq_some.mp hi
    have el : bs.map (nb c s) ++ [c] = (bs ++ [0]).map (nb c s) := by
      rw [List.map_append]
      show _ = _ ++ [nb c s 0]
      rw [nb_self c0 c1]
    rw [el] at e1 e2
    rw [List.getElem?_drop, List.getElem?_map] at e2
    rw [List.getElem?_map] at e1
    have hp2 : (bs ++ [0]).Pairwise (· > ·) := by
      rw [List.pairwise_append]
      refine ⟨hp, List.pairwise_singleton _ _, fun x hx y hy => ?_⟩
      rw [List.mem_singleton.mp hy]
      exact (hb x hx).1
    cases h1 : (bs ++ [0])[i]? with
    | none => rw [h1] at e1; cases e1
    | some b1 =>
      cases h2 : (bs ++ [0])[1 + i]? with
      | none => rw [h2] at e2; cases e2
      | some b2 =>
        rw [h1] at e1
        rw [h2] at e2
        have f1 : nb c s b1 = p.1 := Option.some.inj e1
        have f2 : nb c s b2 = p.2 := Option.some.inj e2
        obtain ⟨l1, g1⟩ := List.getElem?_eq_some_iff.mp h1
        obtain ⟨l2, g2⟩ := List.getElem?_eq_some_iff.mp h2
        have gt : b1 > b2 := by
          have z := List.pairwise_iff_getElem.mp hp2 i (1 + i) l1 l2 (by omega)
          rw [g1, g2] at z
          exact z
        have r : ∀ b ∈ bs ++ [0], 0 ≤ b ∧ (b < s / 2 ∨ bs = []) := fun b hbm => by
          rcases List.mem_append.mp hbm with e | e
          · have := hb b e
            exact ⟨by omega, .inl (by omega)⟩
          · rw [List.mem_singleton.mp e]
            refine ⟨by omega, ?_⟩
            cases bs with
            | nil => exact .inr rfl
            | cons x t =>
              have := hb x (List.mem_cons_self ..)
              exact .inl (by omega)
        have r1 := r b1 (List.mem_of_getElem? h1)
        have r2 := r b2 (List.mem_of_getElem? h2)
        have ne : bs ≠ [] := fun z => by
          subst z
          simp at l2
        have q1 : b1 < s / 2 := r1.2.elim id fun z => absurd z ne
        have q2 : b2 < s / 2 := r2.2.elim id fun z => absurd z ne
        rw [← f1, ← f2, bef_nb r2.1 q2 r1.1 q1]
        exact decide_eq_true gt
  · rw [List.all_eq_true]
    intro x hx
    obtain ⟨b, hbm, rfl⟩ := List.mem_map.mp hx
    have z := hb b hbm
    have e := bef_nb (c := c) (s := s) (g := 0) (b := b) (by omega) (by omega) (by omega) z.2
    rw [nb_self c0 c1] at e
    rw [e]
    exact decide_eq_true z.1
/-! ### k12: a world, told by how far back -/
structure Wd (s c far fi se : Int) : Prop where
  c0 : 0 ≤ c
  c1 : c < s
  f1 : 1 ≤ far
  f2 : far < s / 2
  f3 : far ≤ 40
  i1 : fi ≤ far
  s0 : 0 ≤ se
  s1 : se ≤ fi
def bks (far : Int) : List Int := (List.range far.toNat).map fun (i : Nat) => far - (i : Int)
theorem mem_bks {far b : Int} : b ∈ bks far ↔ 1 ≤ b ∧ b ≤ far := by
  unfold bks
  rw [List.mem_map]
  constructor
  · rintro ⟨i, hi, rfl⟩
    have := List.mem_range.mp hi
    omega
  · rintro ⟨h1, h2⟩
    exact ⟨(far - b).toNat, List.mem_range.mpr (by omega), by omega⟩
theorem nodup_bks (far : Int) : (bks far).Nodup := by
  unfold bks
  rw [List.nodup_iff_pairwise_ne, List.pairwise_map]
  refine List.Pairwise.imp ?_ (List.nodup_iff_pairwise_ne.mp (List.nodup_range (n := far.toNat)))
  intro a b hab e
  exact hab (by omega)
/-- the fates of a world -/
structure Fw (s c far se : Int) (fs : List (Int × Str)) (zf : Int → Str) : Prop where
  eq : fs = (bks far).map fun b => (nb c s b, zf b)
  ok : ∀ b, 1 ≤ b → b ≤ far → Fate (zf b) ∧ (zf b = "open" → b ≤ se)
theorem fte_mem : ∀ {fs : List (Int × Str)} {i : Int} {z : Str}, (fs.map (·.1)).Nodup → (i, z) ∈ fs → fte fs (some i) = some z
  | [], _, _, _, h => by cases h
  | p :: r, i, z, hn, h => by
    rw [List.map_cons, List.nodup_cons] at hn
    unfold fte
    rw [Option.bind_some]
    rcases List.mem_cons.mp h with e | e
    · subst e
      rw [List.find?_cons_of_pos (by simp)]
      rfl
    · have ne : ¬ p.1 = i := fun q => hn.1 (q ▸ List.mem_map_of_mem (f := (·.1)) e)
      rw [List.find?_cons_of_neg (by simpa using ne)]
      have ih := fte_mem hn.2 e
      unfold fte at ih
      rw [Option.bind_some] at ih
      exact ih
theorem Fw.nd {s c far fi se : Int} {fs : List (Int × Str)} {zf : Int → Str} (w : Wd s c far fi se) (h : Fw s c far se fs zf) : (fs.map (·.1)).Nodup := by
  have w2 := w.f2
  rw [h.eq, List.map_map, List.nodup_iff_pairwise_ne, List.pairwise_map]
  refine List.Pairwise.imp_of_mem ?_ (List.nodup_iff_pairwise_ne.mp (nodup_bks far))
  intro a b ha hb hab e
  have z1 := mem_bks.mp ha
  have z2 := mem_bks.mp hb
  exact hab (nb_inj (by omega) (by omega) (by omega) (by omega) e)
theorem Fw.at {s c far fi se b : Int} {fs : List (Int × Str)} {zf : Int → Str} (w : Wd s c far fi se) (h : Fw s c far se fs zf) (b0 : 1 ≤ b) (b1 : b ≤ far) : fte fs (some (nb c s b)) = some (zf b) := by
  refine fte_mem (h.nd w) ?_
  rw [h.eq]
  exact List.mem_map.mpr ⟨b, mem_bks.mpr ⟨b0, b1⟩, rfl⟩
/-- None, or a number of the world -/
def OnB (c s far : Int) (x : Option Int) : Prop := ∀ i, x = some i → ∃ b, 1 ≤ b ∧ b ≤ far ∧ i = nb c s b
theorem OnB.none {c s far : Int} : OnB c s far none := fun i h => by cases h
theorem OnB.cov {s c far fi se : Int} {fs : List (Int × Str)} {zf : Int → Str} {x : Option Int} (w : Wd s c far fi se) (h : Fw s c far se fs zf) (o : OnB c s far x) : Cov fs x := fun i hi => by
  obtain ⟨b, b0, b1, rfl⟩ := o i hi
  exact ⟨_, h.at w b0 b1⟩
/-- a look of the world -/
structure LkB (c s se : Int) (c' : Int) (xs : List Int) (g : Int) (bs : List Int) : Prop where
  g0 : 0 ≤ g
  g1 : g ≤ se
  ec : c' = nb c s g
  ex : xs = bs.map (nb c s)
  dec : bs.Pairwise (· > ·)
  rng : ∀ b ∈ bs, g < b ∧ b ≤ se
  len : bs.length ≤ 3
theorem isS_iff {o : Option Str} {z : Str} : isS o z = true ↔ o = some z := by
  rw [isS_eq, decide_eq_true_iff]
theorem isS_no {z : Str} {fs : List (Int × Str)} : isS (fte fs none) z = false := by
  rw [isS_eq]
  exact decide_eq_false (fun e => by cases e)
theorem befO_nb {s c far fi se u : Int} {x : Option Int} (w : Wd s c far fi se) (u0 : 0 ≤ u) (u1 : u ≤ far) (o : OnB c s far x) : befO x (nb c s u) s = true ↔ ∃ b, 1 ≤ b ∧ b ≤ far ∧ x = some (nb c s b) ∧ u < b := by
  have w2 := w.f2
  cases x with
  | none => exact ⟨fun h => (by cases h), fun ⟨b, _, _, h, _⟩ => (by cases h)⟩
  | some i =>
    obtain ⟨b, b0, b1, rfl⟩ := o i rfl
    show bef (nb c s b) (nb c s u) s = true ↔ _
    rw [bef_nb u0 (by omega) (by omega) (by omega), decide_eq_true_iff]
    constructor
    · intro h
      exact ⟨b, b0, b1, rfl, h⟩
    · rintro ⟨b', c0, c1, e, h⟩
      have := nb_inj (s := s) (by omega) (by omega) (by omega) (by omega) (Option.some.inj e)
      omega
theorem befO_mono {s c far fi se : Int} {x : Option Int} (w : Wd s c far fi se) (o : OnB c s far x) (h : befO x (nb c s fi) s = true) : befO x (nb c s se) s = true := by
  have w1 := w.i1
  have w3 := w.s0
  have w4 := w.s1
  obtain ⟨b, b0, b1, e, hb⟩ := (befO_nb w (by omega) (by omega) o).mp h
  exact (befO_nb w (by omega) (by omega) o).mpr ⟨b, b0, b1, e, by omega⟩
theorem donX_nb {s c far fi se b c' g : Int} {xs bs : List Int} {fs : List (Int × Str)} {zf : Int → Str} (w : Wd s c far fi se) (h : Fw s c far se fs zf) (l : LkB c s se c' xs g bs) (b0 : 1 ≤ b) (b1 : b ≤ far) :
    donX fs c' xs s (some (nb c s b)) = true ↔ zf b = "done" ∧ g < b ∧ b ∉ bs := by
  have w1 := w.i1
  have w2 := w.f2
  have w4 := w.s1
  have l0 := l.g0
  have l1 := l.g1
  rw [donX_some (h.at w b0 b1)]
  unfold don
  rw [Bool.and_eq_true, Bool.and_eq_true, decide_eq_true_iff, l.ec, bef_nb l0 (by omega) (by omega) (by omega), decide_eq_true_iff, Bool.not_eq_true', l.ex]
  have hin : inV (.int (nb c s b)) ((bs.map (nb c s)).map V.int) = decide (b ∈ bs) := by
    rw [inV_int]
    refine decide_eq_decide.mpr ⟨fun hm => ?_, fun hm => List.mem_map_of_mem hm⟩
    obtain ⟨b', hb', e⟩ := List.mem_map.mp hm
    have z := l.rng b' hb'
    have := nb_inj (s := s) (by omega) (by omega) (by omega) (by omega) e
    rw [← this]
    exact hb'
  rw [hin, decide_eq_false_iff_not]
  exact ⟨fun ⟨h1, h2, h3⟩ => ⟨V.str.inj h1, h2, h3⟩, fun ⟨h1, h2, h3⟩ => ⟨congrArg V.str h1, h2, h3⟩⟩
/-- the tests of a maker, of an ender -/
def MkOk (fs : List (Int × Str)) (c : Int) (xs : List Int) (s : Int) (o m : Option Int) : Prop := isS (fte fs m) "fell" = false ∧ (isS (fte fs m) "open" && !decide (onV m = onV o)) = false ∧ (isS (fte fs m) "done" && !donX fs c xs s m) = false
def EnCut (fs : List (Int × Str)) (c : Int) (xs : List Int) (s : Int) (o e : Option Int) : Bool := !decide (onV e = .non) && (decide (onV e = onV o) || donX fs c xs s e)
theorem stt_seen {fs : List (Int × Str)} {c : Int} {xs : List Int} {s : Int} {o m e : Option Int} : stt fs c xs s o m e = "seen" ↔ MkOk fs c xs s o m ∧ EnCut fs c xs s o e = false := by
  unfold stt MkOk EnCut
  cases h1 : isS (fte fs m) "fell" with
  | true =>
    rw [if_pos rfl]
    exact ⟨fun z => absurd z (by decide), fun z => absurd z.1.1 (by decide)⟩
  | false =>
    rw [if_neg Bool.false_ne_true]
    cases h2 : (isS (fte fs m) "open" && !decide (onV m = onV o)) with
    | true =>
      rw [if_pos rfl]
      exact ⟨fun z => absurd z (by decide), fun z => absurd z.1.2.1 (by decide)⟩
    | false =>
      rw [if_neg Bool.false_ne_true]
      cases h3 : (isS (fte fs m) "done" && !donX fs c xs s m) with
      | true =>
        rw [if_pos rfl]
        exact ⟨fun z => absurd z (by decide), fun z => absurd z.1.2.2 (by decide)⟩
      | false =>
        rw [if_neg Bool.false_ne_true]
        cases h4 : (!decide (onV e = .non) && (decide (onV e = onV o) || donX fs c xs s e)) with
        | true =>
          rw [if_pos rfl]
          exact ⟨fun z => absurd z (by decide), fun z => absurd z.2 (by decide)⟩
        | false => exact ⟨fun _ => ⟨⟨rfl, rfl, rfl⟩, rfl⟩, fun _ => rfl⟩
theorem mk_none {fs : List (Int × Str)} {c : Int} {xs : List Int} {s : Int} {o : Option Int} : MkOk fs c xs s o none := by
  refine ⟨isS_no, ?_, ?_⟩
  · rw [isS_no]
    rfl
  · rw [isS_no]
    rfl
theorem en_none {fs : List (Int × Str)} {c : Int} {xs : List Int} {s : Int} {o : Option Int} : EnCut fs c xs s o none = false := rfl
theorem kept_ok {s c far fi se u c' g : Int} {xs bs : List Int} {fs : List (Int × Str)} {zf : Int → Str} {m e o : Option Int} (w : Wd s c far fi se) (h : Fw s c far se fs zf) (l : LkB c s se c' xs g bs) (u0 : se ≤ u) (u1 : u ≤ far) (hm : OnB c s far m) (he : OnB c s far e)
    (ho : o = none ∨ ∃ b, 1 ≤ b ∧ b ≤ far ∧ o = some (nb c s b) ∧ zf b = "open") :
    (froz fs m e (nb c s u) s = none → stt fs c' xs s o m e ≠ "seen") ∧ ∀ r, froz fs m e (nb c s u) s = some r → (stt fs c' xs s o m e = "seen" ↔ stt fs c' xs s o r.1 r.2 = "seen") := by
  have w2 := w.f2
  have w3 := w.s0
  have l0 := l.g0
  have l1 := l.g1
  have big : ∀ b, 1 ≤ b → b ≤ far → u < b → zf b = "done" → donX fs c' xs s (some (nb c s b)) = true := fun b b0 b1 hb hz =>
    (donX_nb w h l b0 b1).mpr ⟨hz, by omega, fun hmem => by have := l.rng b hmem; omega⟩
  have bu := fun x (hx : OnB c s far x) => befO_nb w (u := u) (by omega) u1 hx
  constructor
  · intro hf hs
    obtain ⟨hmk, hen⟩ := stt_seen.mp hs
    unfold froz at hf
    cases h1 : (isS (fte fs m) "fell" || (isS (fte fs e) "done" && befO e (nb c s u) s)) with
    | false => rw [h1, if_neg Bool.false_ne_true] at hf; cases hf
    | true =>
      rcases Bool.or_eq_true_iff.mp h1 with h2 | h2
      · rw [hmk.1] at h2
        cases h2
      · obtain ⟨h3, h4⟩ := Bool.and_eq_true_iff.mp h2
        obtain ⟨b, b0, b1, rfl, hb⟩ := (bu e he).mp h4
        rw [isS_iff, h.at w b0 b1] at h3
        have := big b b0 b1 hb (Option.some.inj h3)
        unfold EnCut at hen
        rw [this, Bool.or_true, Bool.and_true] at hen
        cases hen
  · intro r hf
    unfold froz at hf
    cases h1 : (isS (fte fs m) "fell" || (isS (fte fs e) "done" && befO e (nb c s u) s)) with
    | true => rw [h1, if_pos rfl] at hf; cases hf
    | false =>
      rw [h1, if_neg Bool.false_ne_true] at hf
      cases hf
      rw [stt_seen, stt_seen]
      dsimp only
      refine and_congr ?_ ?_
      · cases h2 : (isS (fte fs m) "done" && befO m (nb c s u) s) with
        | false => rw [if_neg Bool.false_ne_true]
        | true =>
          rw [if_pos rfl]
          obtain ⟨h3, h4⟩ := Bool.and_eq_true_iff.mp h2
          obtain ⟨b, b0, b1, rfl, hb⟩ := (bu m hm).mp h4
          have e1 := h.at w b0 b1
          rw [isS_iff, e1] at h3
          have hz := Option.some.inj h3
          refine ⟨fun _ => mk_none, fun _ => ⟨?_, ?_, ?_⟩⟩
          · rw [isS_eq, e1, hz]
            rfl
          · rw [isS_eq, e1, hz]
            rfl
          · rw [big b b0 b1 hb hz]
            exact Bool.and_false _
      · cases h2 : isS (fte fs e) "fell" with
        | false => rw [if_neg Bool.false_ne_true]
        | true =>
          rw [if_pos rfl]
          obtain ⟨i, rfl, hi⟩ := isS_at h2
          obtain ⟨b, b0, b1, rfl⟩ := he i rfl
          have e1 := h.at w b0 b1
          rw [e1] at hi
          have hz := Option.some.inj hi
          refine ⟨fun _ => en_none, fun _ => ?_⟩
          have d0 : donX fs c' xs s (some (nb c s b)) = false := by
            refine Bool.eq_false_iff.mpr fun z => ?_
            have := ((donX_nb w h l b0 b1).mp z).1
            rw [hz] at this
            exact absurd this (by decide)
          have o0 : decide (onV (some (nb c s b)) = onV o) = false := by
            refine decide_eq_false fun z => ?_
            rcases ho with rfl | ⟨b', c0, c1, rfl, hz'⟩
            · cases z
            · have := nb_inj (s := s) (by omega) (by omega) (by omega) (by omega) (V.int.inj z)
              subst this
              rw [hz] at hz'
              exact absurd hz' (by decide)
          unfold EnCut
          rw [d0, o0]
          exact Bool.and_false _
theorem fro_again {fs : List (Int × Str)} {m e : Option Int} {F S s : Int} (hm : befO m F s = true → befO m S s = true) (he : befO e F s = true → befO e S s = true) :
    (froz fs m e F s = none → froz fs m e S s = none) ∧ ∀ r, froz fs m e F s = some r → froz fs r.1 r.2 F s = some r ∧ froz fs r.1 r.2 S s = froz fs m e S s := by
  have ex : ∀ {x : Option Int}, isS (fte fs x) "done" = true → isS (fte fs x) "fell" = false := fun {x} h => by
    rw [isS_iff] at h
    rw [isS_eq, h]
    rfl
  cases a1 : isS (fte fs m) "fell" with
  | true =>
    have z : ∀ u, froz fs m e u s = none := fun u => by
      unfold froz
      rw [a1, Bool.true_or, if_pos rfl]
    exact ⟨fun _ => z S, fun r hr => by rw [z F] at hr; cases hr⟩
  | false =>
    cases b1 : isS (fte fs e) "fell" with
    | true =>
      have b2 : isS (fte fs e) "done" = false := Bool.eq_false_iff.mpr fun z => by rw [ex z] at b1; cases b1
      have z : ∀ (x : Option Int) (u : Int), isS (fte fs x) "fell" = false → froz fs x e u s = some (if (isS (fte fs x) "done" && befO x u s) = true then none else x, none) := fun x u hx => by
        unfold froz
        rw [hx, b2, Bool.false_and, Bool.false_or, if_neg Bool.false_ne_true, b1, if_pos rfl]
      have z2 : ∀ (x : Option Int) (u : Int), isS (fte fs x) "fell" = false → froz fs x none u s = some (if (isS (fte fs x) "done" && befO x u s) = true then none else x, none) := fun x u hx => by
        unfold froz
        rw [hx, isS_no, isS_no, Bool.false_and, Bool.false_or, if_neg Bool.false_ne_true, if_neg Bool.false_ne_true]
      refine ⟨fun h => (by rw [z m F a1] at h; cases h), fun r hr => ?_⟩
      rw [z m F a1] at hr
      cases hr
      dsimp only
      cases h3 : (isS (fte fs m) "done" && befO m F s) with
      | true =>
        rw [if_pos rfl, z2 none F isS_no, z2 none S isS_no, isS_no, Bool.false_and, if_neg Bool.false_ne_true, Bool.false_and, if_neg Bool.false_ne_true, z m S a1]
        obtain ⟨q1, q2⟩ := Bool.and_eq_true_iff.mp h3
        rw [q1, hm q2, Bool.true_and, if_pos rfl]
        exact ⟨rfl, rfl⟩
      | false =>
        rw [if_neg Bool.false_ne_true, z2 m F a1, z2 m S a1, z m S a1, h3, if_neg Bool.false_ne_true]
        exact ⟨rfl, rfl⟩
    | false =>
      have z : ∀ (x : Option Int) (u : Int), isS (fte fs x) "fell" = false → froz fs x e u s = if (isS (fte fs e) "done" && befO e u s) = true then none else some (if (isS (fte fs x) "done" && befO x u s) = true then none else x, e) := fun x u hx => by
        unfold froz
        rw [hx, Bool.false_or, b1, if_neg Bool.false_ne_true]
      cases h2 : (isS (fte fs e) "done" && befO e F s) with
      | true =>
        obtain ⟨q1, q2⟩ := Bool.and_eq_true_iff.mp h2
        refine ⟨fun _ => ?_, fun r hr => ?_⟩
        · rw [z m S a1, q1, he q2, Bool.true_and, if_pos rfl]
        · rw [z m F a1, h2, if_pos rfl] at hr
          cases hr
      | false =>
        refine ⟨fun h => (by rw [z m F a1, h2, if_neg Bool.false_ne_true] at h; cases h), fun r hr => ?_⟩
        rw [z m F a1, h2, if_neg Bool.false_ne_true] at hr
        cases hr
        dsimp only
        cases h3 : (isS (fte fs m) "done" && befO m F s) with
        | true =>
          rw [if_pos rfl, z none F isS_no, z none S isS_no, h2, if_neg Bool.false_ne_true, isS_no, Bool.false_and, if_neg Bool.false_ne_true, Bool.false_and, if_neg Bool.false_ne_true, z m S a1]
          obtain ⟨q1, q2⟩ := Bool.and_eq_true_iff.mp h3
          rw [q1, hm q2, Bool.true_and, if_pos rfl]
          exact ⟨rfl, rfl⟩
        | false =>
          rw [if_neg Bool.false_ne_true, z m F a1, h2, if_neg Bool.false_ne_true, h3, if_neg Bool.false_ne_true]
          exact ⟨rfl, rfl⟩
/-- what freezing leaves stands at the edge or behind it -/
theorem clean_ok {s c far fi se u : Int} {fs : List (Int × Str)} {zf : Int → Str} {m e : Option Int} (w : Wd s c far fi se) (h : Fw s c far se fs zf) (u0 : se ≤ u) (u1 : u ≤ far) (hm : OnB c s far m) (he : OnB c s far e) :
    ∀ r, froz fs m e (nb c s u) s = some r → (∀ i, r.1 = some i → ∃ b, 1 ≤ b ∧ b ≤ u ∧ b ≤ far ∧ i = nb c s b) ∧ ∀ i, r.2 = some i → ∃ b, 1 ≤ b ∧ b ≤ u ∧ b ≤ far ∧ i = nb c s b := by
  have w3 := w.s0
  intro r hf
  unfold froz at hf
  cases h1 : (isS (fte fs m) "fell" || (isS (fte fs e) "done" && befO e (nb c s u) s)) with
  | true => rw [h1, if_pos rfl] at hf; cases hf
  | false =>
    rw [h1, if_neg Bool.false_ne_true] at hf
    cases hf
    obtain ⟨h2, h3⟩ := Bool.or_eq_false_iff.mp h1
    have key : ∀ (x : Option Int), OnB c s far x → isS (fte fs x) "fell" = false → (isS (fte fs x) "done" && befO x (nb c s u) s) = false → ∀ i, x = some i → ∃ b, 1 ≤ b ∧ b ≤ u ∧ b ≤ far ∧ i = nb c s b := fun x hx k1 k2 i hi => by
      subst hi
      obtain ⟨b, b0, b1, rfl⟩ := hx i rfl
      refine ⟨b, b0, ?_, b1, rfl⟩
      have e1 := h.at w b0 b1
      obtain ⟨hz, hzo⟩ := h.ok b b0 b1
      rcases hz with hz | hz | hz
      · refine Int.not_lt.mp fun lt => ?_
        rw [(befO_nb w (by omega) u1 hx).mpr ⟨b, b0, b1, rfl, lt⟩, Bool.and_true, isS_eq, e1, hz] at k2
        exact absurd k2 (by decide)
      · have := hzo hz
        omega
      · rw [isS_eq, e1, hz] at k1
        exact absurd k1 (by decide)
    refine ⟨fun i hi => ?_, fun i hi => ?_⟩
    · dsimp only at hi
      cases h4 : (isS (fte fs m) "done" && befO m (nb c s u) s) with
      | true => rw [h4, if_pos rfl] at hi; cases hi
      | false =>
        rw [h4, if_neg Bool.false_ne_true] at hi
        exact key m hm h2 h4 i hi
    · dsimp only at hi
      cases h4 : isS (fte fs e) "fell" with
      | true => rw [h4, if_pos rfl] at hi; cases hi
      | false =>
        rw [h4, if_neg Bool.false_ne_true] at hi
        exact key e he h4 h3 i hi
section
variable {P : Program} {w : World} {K : PySem.W.Frag} {mg : Str → Option Value} {base : Heap}
def spWorld : Sp := fun vs H Q _ => ∃ (h : Addr) (s : Int) (n : Nat), vs = [.ref h, .int s] ∧ HS h n H ∧ n + 5 < lim ∧ 8 ≤ s ∧ s ≤ 1048576 ∧
  ∀ (a : Addr) (c far fi se : Int) (H' : Hp), Wd s c far fi se → H' a = some (.tup [.int c, .int far, .int fi, .int se]) → HS h (n + 5) H' → Fr h H H' → Q (.ref a) H'
def LksB (K : PySem.W.Frag) (H : Hp) (c s se : Int) (as : List Addr) : Prop := ∀ a ∈ as, ∃ c' xs g bs, LkB c s se c' xs g bs ∧ Lk K H a c' xs
def spLooks (K : PySem.W.Frag) : Sp := fun vs H Q _ => ∃ (h wa : Addr) (s c far fi se : Int) (n : Nat), vs = [.ref h, .ref wa, .int s] ∧ SqT K H wa [.int c, .int far, .int fi, .int se] ∧ Wd s c far fi se ∧ HS h n H ∧ n + 30 < lim ∧ 8 ≤ s ∧ s ≤ 1048576 ∧
  ∀ (L : Addr) (as : List Addr) (H' : Hp), H L = none → H' L = some (.lst (as.map V.ref)) → LksB K H' c s se as → as.length ≤ 6 → HS h (n + 30) H' → Fr h H H' → Q (.ref L) H'
def spFatesW (K : PySem.W.Frag) : Sp := fun vs H Q _ => ∃ (h wa : Addr) (s c far fi se : Int) (n : Nat), vs = [.ref h, .ref wa, .int s] ∧ SqT K H wa [.int c, .int far, .int fi, .int se] ∧ Wd s c far fi se ∧ HS h n H ∧ n + 40 < lim ∧ 8 ≤ s ∧ s ≤ 1048576 ∧
  ∀ (F : Addr) (fs : List (Int × Str)) (zf : Int → Str) (H' : Hp), Fw s c far se fs zf → Ft K H' F fs → HS h (n + 40) H' → Fr h H H' → Q (.ref F) H'
theorem ok_world (T : Tx K mg) (c_l_take : C8.Cal P w K mg base 1 "_law_take" spTake []) (c_l_of : C8.Cal P w K mg base 2 "_law_of" (spOf2 K) []) : BodyOk P w K mg base "_law_world" s_l_world N_l_world 2 spWorld := by
  intro f cdv A outer s H vs Q E hr h
  obtain ⟨h, s, n, rfl, hs, hn, s0, s1, q⟩ := h
  have hn2 : n + 5 < 100000 := hn
  have p18' : (10 : Int) ^ 18 = 1000000000000000000 := by decide
  refine ⟨_, (pss_cons (ps_par (i := 2) (j := 3) (by rfl) sc_l_world.nd rfl rfl (by decide) rfl rfl (pa_cons (C8.pe_c c_l_of hr (by decide) (gl_of gl_l_world_l_of) (pa_cons (pv 0) (pa_cons (pe_lst (pa_cons pe_int (pa_cons pe_int (pa_cons (pe_op op_sub (pv 1) pe_int) (pa_cons (C8.pe_c c_l_take hr (by decide) (gl_of gl_l_world_l_take) (pa_cons (pv 0) (pa_cons (pv 1) pa_nil))) pa_nil))))) pa_nil))) (pa_cons (pe_op op_add pe_int (C8.pe_c c_l_take hr (by decide) (gl_of gl_l_world_l_take) (pa_cons (pv 0) (pa_cons (pe_callB (call_min2 rfl) (gl_of gl_l_world_min) T.min bb_min (pa_cons (pe_op op_sub (pe_op op_fdivW (pv 1) pe_int) pe_int) (pa_cons pe_int pa_nil))) pa_nil)))) pa_nil)) (by rfl))
      (pss_cons (ps_set (i := 4) sc_l_world.nd rfl (Or.inl rfl) (C8.pe_c c_l_take hr (by decide) (gl_of gl_l_world_l_take) (pa_cons (pv 0) (pa_cons (pe_op op_add (pv 3) pe_int) pa_nil))))
      (pss_cons (ps_set (i := 5) sc_l_world.nd rfl (Or.inl rfl) (C8.pe_c c_l_take hr (by decide) (gl_of gl_l_world_l_take) (pa_cons (pv 0) (pa_cons (pe_op op_add (pv 4) pe_int) pa_nil))))
      (pss_one (ps_ret (pe_tup (pa_cons (pv 2) (pa_cons (pv 3) (pa_cons (pv 4) (pa_cons (pv 5) pa_nil)))))))))), ?_⟩
  refine st_seq ?_
  refine ⟨_, rfl, _, rfl, _, _, rfl, rfl, _, rfl, _, rfl, h, s, n, rfl, hs, (show n < 100000 by omega), by omega, by omega, fun d H1 d0 d1 hs1 f1 => ?_⟩
  refine ⟨(show 4 ≤ sizeLine by decide), fun l1 nl1 => ?_⟩
  refine .inl ⟨h, l1, [.int 0, .int 1, .int (s - 1), .int d], n + 1, rfl, hs1.new nl1, (show n + 1 < 100000 by omega), hs1.ne nl1, SqL.of upd_same, (show 0 < 4 by decide), (show 4 ≤ 1000 by decide), fun v H2 hv hs2 f2 => ?_⟩
  have hx : ∃ x : Int, v = .int x ∧ 0 ≤ x ∧ x < s := by
    simp only [List.mem_cons, List.not_mem_nil, or_false] at hv
    rcases hv with rfl | rfl | rfl | rfl <;> exact ⟨_, rfl, by omega, by omega⟩
  obtain ⟨c, rfl, c0, c1⟩ := hx
  have g2 : Fr h H H2 := f1.trans ((Fr.new nl1).trans f2)
  refine ⟨_, rfl, _, rfl, _, _, rfl, rfl, cdw (by decide) (by decide), _, _, rfl, rfl, _, _, rfl, h, _, n + 1 + 1, rfl, hs2, (show n + 1 + 1 < 100000 by omega), ?_, ?_, fun fr H3 fr0 fr1 hs3 f3 => ?_⟩
  · split <;> omega
  · split <;> omega
  refine ⟨_, _, rfl, rfl, _, _, rfl, ?_⟩
  have hfar : 1 + fr < s / 2 ∧ 1 + fr ≤ 40 := by
    split at fr1 <;> omega
  try dsimp only
  refine st_seq ?_
  refine ⟨_, rfl, _, rfl, _, _, rfl, rfl, h, _, n + 3, rfl, hs3, (show n + 3 < 100000 by omega), by omega, by omega, fun fi H4 fi0 fi1 hs4 f4 => ?_⟩
  try dsimp only [gName]
  refine st_seq ?_
  refine ⟨_, rfl, _, rfl, _, _, rfl, rfl, h, _, n + 4, rfl, hs4, (show n + 4 < 100000 by omega), by omega, by omega, fun se H5 se0 se1 hs5 f5 => ?_⟩
  refine ⟨_, rfl, _, rfl, _, rfl, _, rfl, (show 4 ≤ sizeLine by decide), fun a na => ?_⟩
  exact q a c (1 + fr) fi se _ ⟨c0, c1, by omega, hfar.1, hfar.2, by omega, se0, by omega⟩ upd_same (hs5.new na) ((g2.trans (f3.trans (f4.trans f5))).trans (Fr.new na))
theorem LksB.fr {h : Addr} {n : Nat} {H H' : Hp} {c s se : Int} {as : List Addr} (q : HS h n H) (f : Fr h H H') (l : LksB K H c s se as) : LksB K H' c s se as := fun a ha => by
  obtain ⟨c', xs, g, bs, h1, h2⟩ := l a ha
  exact ⟨c', xs, g, bs, h1, q.lk f h2⟩
theorem LksB.same {H H' : Hp} {c s se : Int} {as : List Addr} (f : Same H H') (l : LksB K H c s se as) : LksB K H' c s se as := fun a ha => by
  obtain ⟨c', xs, g, bs, h1, h2⟩ := l a ha
  exact ⟨c', xs, g, bs, h1, h2.same f⟩
theorem LksB.upd {H : Hp} {L : Addr} {c s se : Int} {as : List Addr} {zs : List V} {o : HO} (e : H L = some (.lst zs)) (l : LksB K H c s se as) : LksB K (upd H L o) c s se as := fun a ha => by
  obtain ⟨c', xs, g, bs, h1, t, h2, h3⟩ := l a ha
  exact ⟨c', xs, g, bs, h1, t, sqT_fr e Fr.hand h2, sqT_fr e Fr.hand h3⟩
theorem ok_looks (T : Tx K mg) (c_l_take : C8.Cal P w K mg base 1 "_law_take" spTake []) : BodyOk P w K mg base "_law_looks" s_l_looks N_l_looks 1 (spLooks K) := by
  intro f cdv A outer s H vs Q E hr h
  obtain ⟨h, wa, s, c, far, fi, se, n, rfl, hw, wd, hs, hn, s0, s1, q⟩ := h
  have hn2 : n + 30 < 100000 := hn
  have p18' : (10 : Int) ^ 18 = 1000000000000000000 := by decide
  have w1 := wd.f1
  have w2 := wd.f2
  have w3 := wd.f3
  have w4 := wd.i1
  have w5 := wd.s0
  have w6 := wd.s1
  have sp : 0 < s := by omega
  refine ⟨_, (pss_cons (ps_asg (pv 1) (pg_tup rfl (pgs_cons (pg_name (i := 3) sc_l_looks.nd rfl (Or.inl rfl)) (pgs_cons (pg_name (i := 4) sc_l_looks.nd rfl (Or.inl rfl)) (pgs_cons (pg_name (i := 5) sc_l_looks.nd rfl (Or.inl rfl)) (pgs_cons (pg_name (i := 6) sc_l_looks.nd rfl (Or.inl rfl)) pgs_nil))))))
      (pss_cons (ps_set (i := 7) sc_l_looks.nd rfl (Or.inl rfl) (pe_lst (pa_cons (pe_tup (pa_cons (pe_op op_mod (pe_op op_sub (pv 3) (pv 6)) (pv 2)) (pa_cons (pe_tup pa_nil) pa_nil))) pa_nil)))
      (pss_cons (ps_for PassesOwn.never rfl (pi_range1 (by rfl) T.range (pa_cons pe_int pa_nil)) (pg_name (i := 8) sc_l_looks.nd rfl (Or.inl rfl)) (pss_cons (ps_par3 (i := 9) (j := 10) (l := 11) (by rfl) sc_l_looks.nd rfl rfl rfl (by decide) (by decide) (by decide) rfl rfl rfl (pa_cons (C8.pe_c c_l_take hr (by decide) (gl_of gl_l_looks_l_take) (pa_cons (pv 0) (pa_cons (pe_op op_add (pv 6) pe_int) pa_nil))) (pa_cons (pe_lst pa_nil) (pa_cons pe_int pa_nil))) (by rfl))
      (pss_cons (ps_set (i := 11) sc_l_looks.nd rfl (Or.inl rfl) (C8.pe_c c_l_take hr (by decide) (gl_of gl_l_looks_l_take) (pa_cons (pv 0) (pa_cons (pe_op op_add (pv 9) pe_int) pa_nil))))
      (pss_cons (ps_for PassesOwn.never rfl (pi_range1 (by rfl) T.range (pa_cons (C8.pe_c c_l_take hr (by decide) (gl_of gl_l_looks_l_take) (pa_cons (pv 0) (pa_cons pe_int pa_nil))) pa_nil)) (pg_name (i := 12) sc_l_looks.nd rfl (Or.inl rfl)) (pss_one (ps_if (pt_cmpR op_gt (pv 9) (pv 11) (nomark _)) (pss_cons (ps_expr (pe_bm PySem.F.plainAttrs_list PySem.F.slot_list_append PySem.F.type_list_append mt_append (pv 10) (pa_cons (pe_op op_mod (pe_op op_sub (pv 3) (pv 9)) (pv 2)) pa_nil)))
      (pss_one (ps_set (i := 9) sc_l_looks.nd rfl (Or.inl rfl) (pe_op op_sub (pe_op op_sub (pv 9) pe_int) (C8.pe_c c_l_take hr (by decide) (gl_of gl_l_looks_l_take) (pa_cons (pv 0) (pa_cons pe_int pa_nil))))))) pss_nil)))
      (pss_one (ps_expr (pe_bm PySem.F.plainAttrs_list PySem.F.slot_list_append PySem.F.type_list_append mt_append (pv 7) (pa_cons (pe_tup (pa_cons (pe_op op_mod (pe_op op_sub (pv 3) (pv 11)) (pv 2)) (pa_cons (pe_callTy call_tuple_of (gl_of gl_l_looks_tuple) T.tuple bt_tuple (pa_cons (pv 10) pa_nil)) pa_nil))) pa_nil))))))))
      (pss_one (ps_ret (pv 7)))))), ?_⟩
  refine st_seq ?_
  refine ⟨_, rfl, wa, _, rfl, hw, rfl, _, _, rfl, _, _, rfl, _, _, rfl, _, _, rfl, rfl, ?_⟩
  try dsimp only
  refine st_seq ?_
  refine ⟨_, rfl, _, rfl, _, _, rfl, rfl, _, rfl, _, _, rfl, rfl, sp, (show 0 ≤ sizeLine by decide), fun t0 nt0 => ?_⟩
  refine ⟨(show 2 ≤ sizeLine by decide), fun t1 nt1 => ?_⟩
  refine ⟨(show 1 ≤ sizeLine by decide), fun L nL => ?_⟩
  have lk1 : Lk K (upd (upd H t0 (.tup [])) t1 (.tup [.int ((c - se) % s), .ref t0])) t1 ((c - se) % s) [] := lk_new nt1
  have sm1 : Same H (upd (upd H t0 (.tup [])) t1 (.tup [.int ((c - se) % s), .ref t0])) := (same_new nt0).trans (same_new nt1)
  generalize upd (upd H t0 (.tup [])) t1 (.tup [.int ((c - se) % s), .ref t0]) = H1 at lk1 sm1 nL
  have nLH : H L = none := by
    cases hq : H L with
    | none => rfl
    | some o =>
      rw [sm1 _ _ hq] at nL
      cases nL
  have eL : (upd H1 L (.lst [.ref t1])) L = some (.lst ([t1].map V.ref)) := upd_same
  have sm2 : Same H1 (upd H1 L (.lst [.ref t1])) := same_new nL
  generalize upd H1 L (.lst [.ref t1]) = H2 at eL sm2
  have hs2 : HS h n H2 := hs.same (sm1.trans sm2)
  have nLh : L ≠ h := fun e => by
    obtain ⟨_, _, _, eh, _⟩ := hs
    rw [e, eh] at nLH
    cases nLH
  have l0 : LksB K H2 c s se [t1] := fun a ha => by
    rw [List.mem_singleton.mp ha]
    exact ⟨_, [], se, [], ⟨w5, Int.le_refl _, rfl, rfl, List.Pairwise.nil, (fun b hb => by cases hb), by decide⟩, lk1.same sm2⟩
  try dsimp only [gName]
  refine st_seq ?_
  refine ⟨5, rfl, by decide, by decide, ?_⟩
  refine for_range (lo := 0) (n := (5 : Int).toNat) (fun i σ H' => (∃ y8 y9 ya yb yc, σ = [some (.ref h), some (.ref wa), some (.int s), some (.int c), some (.int far), some (.int fi), some (.int se), some (.ref L), y8, y9, ya, yb, yc]) ∧ HS h (n + 6 * i) H' ∧ Fr h H H' ∧ ∃ as : List Addr, as.length = i + 1 ∧ H' L = some (.lst (as.map V.ref)) ∧ LksB K H' c s se as) ⟨⟨none, none, none, none, none, rfl⟩, hs2, Fr.same (sm1.trans sm2), [t1], rfl, eL, l0⟩ (fun i σ H3 hi hP => ?_) (fun σ H3 hP => ?_)
  · obtain ⟨⟨y8, y9, ya, yb, yc, rfl⟩, hs3, f3, as, las, eL3, lb3⟩ := hP
    have hi5 : i < 5 := hi
    try dsimp only
    refine st_seq ?_
    refine ⟨_, rfl, _, rfl, _, _, rfl, rfl, h, _, n + 6 * i, rfl, hs3, (show n + 6 * i < 100000 by omega), by omega, by omega, fun b H4 b0 b1 hs4 f4 => ?_⟩
    refine ⟨(show 0 ≤ sizeLine by decide), fun l nl => ?_⟩
    refine ⟨_, _, _, rfl, ?_⟩
    have el : (upd H4 l (.lst [])) l = some (.lst []) := upd_same
    have sl : Same H4 (upd H4 l (.lst [])) := same_new nl
    have hs5 : HS h (n + 6 * i + 1) (upd H4 l (.lst [])) := hs4.new nl
    have nlh : l ≠ h := hs4.ne nl
    have nlL : L ≠ l := ne_of_none (f4 _ _ nLh eL3) nl
    have nlH : H l = none := (f3.trans f4).free nlh nl
    generalize upd H4 l (.lst []) = H5 at el sl hs5
    try dsimp only
    refine st_seq ?_
    refine ⟨_, rfl, _, rfl, _, _, rfl, rfl, h, _, n + 6 * i + 1, rfl, hs5, (show n + 6 * i + 1 < 100000 by omega), by omega, by omega, fun g H6 g0 g1 hs6 f6 => ?_⟩
    try dsimp only [gName]
    refine st_seq ?_
    refine ⟨_, rfl, h, 4, n + 6 * i + 2, rfl, hs6, (show n + 6 * i + 2 < 100000 by omega), by decide, by decide, fun k H7 k0 k1 hs7 f7 => ?_⟩
    have f47 : Fr h H4 H7 := (Fr.same sl).trans (f6.trans f7)
    have el7 := f7 _ _ nlh (f6 _ _ nlh el)
    have eL7 := f47 _ _ nLh (f4 _ _ nLh eL3)
    have lb7 : LksB K H7 c s se as := ((lb3.fr hs3 f4).fr hs4 f47)
    refine ⟨k, rfl, by omega, by omega, ?_⟩
    refine for_range (lo := 0) (n := k.toNat) (fun j σ H' => ∃ (b' : Int) (bs : List Int) (yc : Option V), σ = [some (.ref h), some (.ref wa), some (.int s), some (.int c), some (.int far), some (.int fi), some (.int se), some (.ref L), some (.int (0 + i)), some (.int b'), some (.ref l), some (.int g), yc] ∧ b' ≤ se ∧ bs.Pairwise (· > ·) ∧ (∀ x ∈ bs, g < x ∧ x ≤ se ∧ b' < x) ∧ bs.length ≤ j ∧ H' l = some (.lst ((bs.map (nb c s)).map V.int)) ∧ H' L = some (.lst (as.map V.ref)) ∧ LksB K H' c s se as ∧ HS h (n + 6 * i + 3 + j) H' ∧ Fr h H H') ⟨b, [], _, rfl, by omega, List.Pairwise.nil, (fun x hx => by cases hx), Nat.le_refl 0, el7, eL7, lb7, hs7, f3.trans (f4.trans f47)⟩ (fun j σ H8 hj hP => ?_) (fun σ H8 hP => ?_)
    · obtain ⟨b', bs, yc, rfl, hb', pw, hbs, lbs, el8, eL8, lb8, hs8, f8⟩ := hP
      have hj3 : j < 3 := by omega
      refine ⟨_, rfl, _, rfl, _, _, rfl, rfl, _, rfl, ite2 (fun y => ?_) (fun y => ?_)⟩
      · have y2 : g < b' := of_decide_eq_true y
        try dsimp only
        refine st_seq ?_
        refine ⟨_, rfl, .inl ⟨rfl, _, SqL.of el8⟩, _, rfl, _, rfl, _, _, rfl, rfl, _, rfl, _, _, rfl, rfl, sp, l, _, _, rfl, rfl, el8, ?_, ?_⟩
        · rw [List.length_map, List.length_map]
          exact small1000 (by omega)
        have el9 : (upd H8 l (.lst ((bs.map (nb c s)).map V.int ++ [.int ((c - b') % s)]))) l = some (.lst (((bs ++ [b']).map (nb c s)).map V.int)) := by
          rw [upd_same, List.map_append, List.map_append]
          rfl
        have eL9 : (upd H8 l (.lst ((bs.map (nb c s)).map V.int ++ [.int ((c - b') % s)]))) L = some (.lst (as.map V.ref)) := by
          rw [upd_ne nlL]
          exact eL8
        have lb9 : LksB K (upd H8 l (.lst ((bs.map (nb c s)).map V.int ++ [.int ((c - b') % s)]))) c s se as := lb8.upd el8
        have hs9 : HS h (n + 6 * i + 3 + j) (upd H8 l (.lst ((bs.map (nb c s)).map V.int ++ [.int ((c - b') % s)]))) := hs8.upd nlh
        have f9 : Fr h H (upd H8 l (.lst ((bs.map (nb c s)).map V.int ++ [.int ((c - b') % s)]))) := Fr.mut f8 nlH
        generalize upd H8 l (.lst ((bs.map (nb c s)).map V.int ++ [.int ((c - b') % s)])) = H9 at el9 eL9 lb9 hs9 f9
        refine ⟨_, rfl, _, _, rfl, rfl, _, rfl, h, 3, _, rfl, hs9, (show n + 6 * i + 3 + j < 100000 by omega), by decide, by decide, fun d Ha d0 d1 hsa fa' => ?_⟩
        refine ⟨_, _, rfl, rfl, ?_⟩
        refine ⟨b' - 1 - d, bs ++ [b'], _, rfl, by omega, ?_, ?_, ?_, fa' _ _ nlh el9, fa' _ _ nLh eL9, lb9.fr hs9 fa', hsa, f9.trans fa'⟩
        · rw [List.pairwise_append]
          refine ⟨pw, List.pairwise_singleton _ _, fun x hx y hy => ?_⟩
          rw [List.mem_singleton.mp hy]
          exact (hbs x hx).2.2
        · intro x hx
          rcases List.mem_append.mp hx with e | e
          · have := hbs x e
            omega
          · rw [List.mem_singleton.mp e]
            omega
        · rw [List.length_append]
          show bs.length + 1 ≤ j + 1
          omega
      · exact ⟨b', bs, _, rfl, hb', pw, hbs, by omega, el8, eL8, lb8, hs8.mono (by omega), f8⟩
    · obtain ⟨b', bs, yc, rfl, hb', pw, hbs, lbs, el8, eL8, lb8, hs8, f8⟩ := hP
      refine ⟨_, rfl, .inl ⟨rfl, _, SqL.of eL8⟩, _, rfl, _, rfl, _, _, rfl, rfl, _, rfl, _, _, rfl, rfl, sp, _, rfl, ?_⟩
      refine ⟨l, _, rfl, .inl ⟨SqL.of el8, fun t2 nt2 => ?_⟩⟩
      refine ⟨(show 2 ≤ sizeLine by decide), fun t3 nt3 => ?_⟩
      have lk9 : Lk K (upd (upd H8 t2 (.tup ((bs.map (nb c s)).map V.int))) t3 (.tup [.int ((c - g) % s), .ref t2])) t3 ((c - g) % s) (bs.map (nb c s)) := ⟨t2, SqT.of upd_same, SqT.of (same_new nt3 _ _ upd_same)⟩
      have sm9 : Same H8 (upd (upd H8 t2 (.tup ((bs.map (nb c s)).map V.int))) t3 (.tup [.int ((c - g) % s), .ref t2])) := (same_new nt2).trans (same_new nt3)
      generalize upd (upd H8 t2 (.tup ((bs.map (nb c s)).map V.int))) t3 (.tup [.int ((c - g) % s), .ref t2]) = H9 at lk9 sm9
      have eL9 := sm9 _ _ eL8
      refine ⟨L, _, _, rfl, rfl, eL9, ?_, ?_⟩
      · rw [List.length_map]
        exact small1000 (by omega)
      refine ⟨⟨_, _, _, _, _, rfl⟩, ((hs8.same sm9).upd nLh).mono (by omega), Fr.mut (f8.trans (Fr.same sm9)) nLH, as ++ [t3], ?_, ?_, ?_⟩
      · rw [List.length_append, las]
        rfl
      · rw [upd_same, List.map_append]
        rfl
      · intro a ha
        refine (LksB.upd (as := as ++ [t3]) eL9 ?_) a ha
        intro a ha
        rcases List.mem_append.mp ha with e | e
        · exact lb8.same sm9 a e
        · rw [List.mem_singleton.mp e]
          exact ⟨_, _, g, bs, ⟨g0, by omega, rfl, rfl, pw, (fun x hx => ⟨(hbs x hx).1, (hbs x hx).2.1⟩), by omega⟩, lk9⟩
  · obtain ⟨⟨y8, y9, ya, yb, yc, rfl⟩, hs3, f3, as, las, eL3, lb3⟩ := hP
    have l5 : as.length = 6 := las
    exact ⟨_, rfl, q L as H3 nLH eL3 lb3 (by omega) hs3 f3⟩
theorem ok_fatesW (T : Tx K mg) (c_l_of : C8.Cal P w K mg base 2 "_law_of" (spOf2 K) []) : BodyOk P w K mg base "_law_fates" s_l_fates N_l_fates 2 (spFatesW K) := by
  intro f cdv A outer s H vs Q E hr h
  obtain ⟨h, wa, s, c, far, fi, se, n, rfl, hw, wd, hs, hn, s0, s1, q⟩ := h
  have hn2 : n + 40 < 100000 := hn
  have w1 := wd.f1
  have w2 := wd.f2
  have w3 := wd.f3
  have sp : 0 < s := by omega
  refine ⟨_, (pss_cons (ps_asg (pv 1) (pg_tup rfl (pgs_cons (pg_name (i := 3) sc_l_fates.nd rfl (Or.inl rfl)) (pgs_cons (pg_name (i := 4) sc_l_fates.nd rfl (Or.inl rfl)) (pgs_cons (pg_name (i := 5) sc_l_fates.nd rfl (Or.inl rfl)) (pgs_cons (pg_name (i := 6) sc_l_fates.nd rfl (Or.inl rfl)) pgs_nil))))))
      (pss_cons (ps_set (i := 7) sc_l_fates.nd rfl (Or.inl rfl) (pe_lst pa_nil))
      (pss_cons (ps_for PassesOwn.never rfl (pi_range3 (by rfl) T.range (pa_cons (pv 4) (pa_cons pe_int (pa_cons (pe_un un_neg pe_int) pa_nil)))) (pg_name (i := 8) sc_l_fates.nd rfl (Or.inl rfl)) (pss_cons (ps_set (i := 9) sc_l_fates.nd rfl (Or.inl rfl) (C8.pe_c c_l_of hr (by decide) (gl_of gl_l_fates_l_of) (pa_cons (pv 0) (pa_cons (pe_op op_cat (pe_lst (pa_cons pe_str (pa_cons pe_str (pa_cons pe_str pa_nil)))) (pe_op op_rep (pe_lst (pa_cons pe_str pa_nil)) (pe_callTy call_int1 (gl_of gl_l_fates_int) T.int bt_int (pa_cons (pe_cmpR op_le (pv 8) (pv 6) (nomark _)) pa_nil)))) pa_nil))))
      (pss_one (ps_expr (pe_bm PySem.F.plainAttrs_list PySem.F.slot_list_append PySem.F.type_list_append mt_append (pv 7) (pa_cons (pe_tup (pa_cons (pe_op op_mod (pe_op op_sub (pv 3) (pv 8)) (pv 2)) (pa_cons (pv 9) pa_nil))) pa_nil))))))
      (pss_one (ps_ret (pe_callTy call_tupleF (gl_of gl_l_fates_tuple) T.tuple bt_tuple (pa_cons (pv 7) pa_nil))))))), ?_⟩
  refine st_seq ?_
  refine ⟨_, rfl, wa, _, rfl, hw, rfl, _, _, rfl, _, _, rfl, _, _, rfl, _, _, rfl, rfl, ?_⟩
  try dsimp only
  refine st_seq ?_
  refine ⟨(show 0 ≤ sizeLine by decide), fun R nR => ?_⟩
  have eR : (upd H R (.lst [])) R = some (.lst []) := upd_same
  have sR : Same H (upd H R (.lst [])) := same_new nR
  have nRh : R ≠ h := hs.ne nR
  generalize upd H R (.lst []) = H1 at eR sR
  have hs1 := hs.same sR
  try dsimp only [gName]
  refine st_seq ?_
  refine ⟨_, rfl, _, rfl, _, _, -1, (far - 0).toNat, rfl, RgC.neg (by omega) (by omega) (by decide) (by decide), ?_⟩
  refine for_rangeC (lo := far) (c := -1) (n := (far - 0).toNat) (fun i σ H' => (∃ y8 y9, σ = [some (.ref h), some (.ref wa), some (.int s), some (.int c), some (.int far), some (.int fi), some (.int se), some (.ref R), y8, y9]) ∧ HS h (n + i) H' ∧ Fr h H H' ∧ ∃ (ps : List Addr) (zf : Int → Str), H' R = some (.lst (ps.map V.ref)) ∧ ps.length = i ∧ Paired (fun p (f : Int × Str) => SqT K H' p [.int f.1, .str f.2]) ps ((List.range i).map fun (j : Nat) => (nb c s (far - j), zf (far - j))) ∧ ∀ j : Nat, j < i → Fate (zf (far - j)) ∧ (zf (far - j) = "open" → far - j ≤ se))
    ⟨⟨none, none, rfl⟩, hs1, Fr.same sR, [], fun _ => "", eR, rfl, .nil, fun j hj => by omega⟩ (fun i σ H2 hi hP => ?_) (fun σ H2 hP => ?_)
  · obtain ⟨⟨y8, y9, rfl⟩, hs2, f2, ps, zf, eR2, lps, hp, hz⟩ := hP
    have hi2 : i < 40 := by omega
    generalize hB : far + (i : Int) * -1 = b
    have eb : b = far - i := by omega
    try dsimp only
    refine st_seq ?_
    refine ⟨_, rfl, (show 3 ≤ sizeLine by decide), fun l1 nl1 => ?_⟩
    have e3 : (upd H2 l1 (.lst [.str "done", .str "done", .str "fell"])) l1 = some (.lst [.str "done", .str "done", .str "fell"]) := upd_same
    have s3 : Same H2 (upd H2 l1 (.lst [.str "done", .str "done", .str "fell"])) := same_new nl1
    generalize upd H2 l1 (.lst [.str "done", .str "done", .str "fell"]) = H3 at e3 s3
    refine ⟨(show 1 ≤ sizeLine by decide), fun l2 nl2 => ?_⟩
    have e4 : (upd H3 l2 (.lst [.str "open"])) l2 = some (.lst [.str "open"]) := upd_same
    have s4 : Same H3 (upd H3 l2 (.lst [.str "open"])) := same_new nl2
    generalize upd H3 l2 (.lst [.str "open"]) = H4 at e4 s4
    refine ⟨_, rfl, _, rfl, _, _, rfl, rfl, .inr ⟨_, rfl, l2, _, _, rfl, rfl, e4, ?_, ?_, ?_, fun l3 nl3 => ?_⟩⟩
    · have z := if01 (decide (b ≤ se))
      omega
    · have z := if01 (decide (b ≤ se))
      have e63 : (2 : Int) ^ 63 = 9223372036854775808 := by decide
      rw [e63]
      omega
    · have z := if01 (decide (b ≤ se))
      refine Nat.le_of_lt (small1000 ?_)
      show 1 * _ ≤ 1000
      omega
    generalize hO : (List.replicate ((if decide (b ≤ se) = true then (1 : Int) else 0)).toNat [V.str "open"]).flatten = os
    have hos : ∀ v ∈ os, v = .str "open" ∧ b ≤ se := fun v hv => by
      rw [← hO] at hv
      by_cases y : b ≤ se
      · rw [decide_eq_true y] at hv
        have hv2 : v ∈ [V.str "open"] := hv
        exact ⟨List.mem_singleton.mp hv2, y⟩
      · rw [decide_eq_false y] at hv
        cases hv
    have los : os.length ≤ 1 := by
      rw [← hO]
      cases decide (b ≤ se) <;> decide
    have e5 : (upd H4 l3 (.lst os)) l3 = some (.lst os) := upd_same
    have s5 : Same H4 (upd H4 l3 (.lst os)) := same_new nl3
    generalize upd H4 l3 (.lst os) = H5 at e5 s5
    refine ⟨l1, l3, _, _, rfl, rfl, s5 _ _ (s4 _ _ e3), e5, ?_, fun l4 nl4 => ?_⟩
    · refine Nat.le_of_lt (small1000 ?_)
      show 3 + os.length ≤ 1000
      omega
    have s25 : Same H2 H5 := s3.trans (s4.trans s5)
    have hs5 := hs2.same s25
    refine .inl ⟨h, l4, _, n + i, rfl, hs5.new nl4, (show n + i < 100000 by omega), hs5.ne nl4, SqL.of upd_same, ?_, ?_, fun v H6 hv hs6 f6 => ?_⟩
    · rw [List.length_append]
      show 0 < 3 + os.length
      omega
    · rw [List.length_append]
      show 3 + os.length ≤ 1000
      omega
    have hvz : ∃ z, v = .str z ∧ Fate z ∧ (z = "open" → b ≤ se) := by
      rcases List.mem_append.mp hv with e | e
      · simp only [List.mem_cons, List.not_mem_nil, or_false] at e
        rcases e with rfl | rfl | rfl
        · exact ⟨_, rfl, .inl rfl, fun z => absurd z (by decide)⟩
        · exact ⟨_, rfl, .inl rfl, fun z => absurd z (by decide)⟩
        · exact ⟨_, rfl, .inr (.inr rfl), fun z => absurd z (by decide)⟩
      · obtain ⟨rfl, z⟩ := hos v e
        exact ⟨_, rfl, .inr (.inl rfl), fun _ => z⟩
    obtain ⟨z, rfl, hfz, hzo⟩ := hvz
    have f26 : Fr h H2 H6 := (Fr.same s25).trans ((Fr.new nl4).trans f6)
    have eR6 := f26 _ _ nRh eR2
    refine ⟨_, rfl, .inl ⟨rfl, _, SqL.of eR6⟩, _, rfl, _, rfl, _, _, rfl, rfl, _, rfl, _, _, rfl, rfl, sp, _, rfl, (show 2 ≤ sizeLine by decide), fun t nt => ?_⟩
    have et : (upd H6 t (.tup [.int ((c - b) % s), .str z])) t = some (.tup [.int ((c - b) % s), .str z]) := upd_same
    have st : Same H6 (upd H6 t (.tup [.int ((c - b) % s), .str z])) := same_new nt
    generalize upd H6 t (.tup [.int ((c - b) % s), .str z]) = H7 at et st
    have eR7 := st _ _ eR6
    refine ⟨R, _, _, rfl, rfl, eR7, ?_, ?_⟩
    · rw [List.length_map]
      exact small1000 (by omega)
    have tR : t ≠ R := ne_tl et eR7
    refine ⟨⟨_, _, rfl⟩, (hs6.same st).upd nRh, Fr.mut ((f2.trans f26).trans (Fr.same st)) nR, ps ++ [t], fun x => if x = b then z else zf x, ?_, ?_, ?_, ?_⟩
    · rw [upd_same, List.map_append]
      rfl
    · rw [List.length_append, lps]
      rfl
    · rw [List.range_succ, List.map_append]
      refine paired_app ?_ (.cons ?_ .nil)
      · have e9 : ((List.range i).map fun (j : Nat) => (nb c s (far - j), (fun x => if x = b then z else zf x) (far - (j : Int)))) = (List.range i).map fun (j : Nat) => (nb c s (far - j), zf (far - j)) := by
          refine List.map_congr_left fun j hj => ?_
          have := List.mem_range.mp hj
          dsimp only
          rw [if_neg (by omega)]
        rw [e9]
        exact paired_mono (fun _ _ y => sqT_fr eR7 Fr.hand (sqT_same st (hs2.sqT f26 y))) hp
      · refine SqT.of ?_
        rw [upd_ne tR, et]
        dsimp only
        rw [if_pos eb.symm, ← eb]
        rfl
    · intro j hj
      show Fate (if far - (j : Int) = b then z else zf (far - (j : Int))) ∧ ((if far - (j : Int) = b then z else zf (far - (j : Int))) = "open" → far - (j : Int) ≤ se)
      by_cases hji : j = i
      · rw [if_pos (by omega)]
        exact ⟨hfz, fun y => by have := hzo y; omega⟩
      · rw [if_neg (by omega)]
        exact hz j (by omega)
  · obtain ⟨⟨y8, y9, rfl⟩, hs2, f2, ps, zf, eR2, lps, hp, hz⟩ := hP
    have en : (far - 0).toNat = far.toNat := by rw [Int.sub_zero]
    rw [en] at hs2 hp hz
    refine ⟨_, rfl, R, _, rfl, SqL.of eR2, fun F o nF ho => ?_⟩
    refine q F _ zf _ ⟨?_, fun b b0 b1 => ?_⟩ ⟨o, ps, upd_same, ho, paired_mono (fun _ _ z => sqT_same (same_new nF) z) hp⟩ ((hs2.new nF).mono (by omega)) (f2.trans (Fr.new nF))
    · unfold bks
      rw [List.map_map]
      rfl
    · have z := hz (far - b).toNat (by omega)
      have e : far - ((far - b).toNat : Int) = b := by omega
      rw [e] at z
      exact z
/-- a version of k12 and what it stands in -/
def VB (K : PySem.W.Frag) (H : Hp) (v : Addr) (t : Int) (m e : Option Int) : Prop := SqT K H v [.str "a", .int t, onV m, onV e]
def spKept (K : PySem.W.Frag) : Sp := fun vs H Q _ => ∃ (v L F : Addr) (as : List Addr) (t s c far fi se u : Int) (m e o : Option Int) (fs : List (Int × Str)) (zf : Int → Str), vs = [.ref v, .ref L, .ref F, .int (nb c s u), onV o, .int s] ∧ VB K H v t m e ∧ H L = some (.lst (as.map V.ref)) ∧ LksB K H c s se as ∧ Ft K H F fs ∧
  Wd s c far fi se ∧ Fw s c far se fs zf ∧ se ≤ u ∧ u ≤ far ∧ OnB c s far m ∧ OnB c s far e ∧ (o = none ∨ ∃ b, 1 ≤ b ∧ b ≤ far ∧ o = some (nb c s b) ∧ zf b = "open") ∧ 8 ≤ s ∧ s ≤ 1048576 ∧ ∀ H', Same H H' → Q (.bl true) H'
def spClean (K : PySem.W.Frag) : Sp := fun vs H Q _ => ∃ (v F : Addr) (t s c far fi se u : Int) (m e : Option Int) (fs : List (Int × Str)) (zf : Int → Str), vs = [.ref v, .ref F, .int (nb c s u), .int c, .int s] ∧ VB K H v t m e ∧ Ft K H F fs ∧
  Wd s c far fi se ∧ Fw s c far se fs zf ∧ se ≤ u ∧ u ≤ far ∧ OnB c s far m ∧ OnB c s far e ∧ 8 ≤ s ∧ s ≤ 1048576 ∧ ∀ H', Same H H' → Q (.bl true) H'
def spAgain (K : PySem.W.Frag) : Sp := fun vs H Q _ => ∃ (v F : Addr) (t s c far fi se : Int) (m e : Option Int) (fs : List (Int × Str)) (zf : Int → Str), vs = [.ref v, .ref F, .int (nb c s fi), .int (nb c s se), .int s] ∧ VB K H v t m e ∧ Ft K H F fs ∧
  Wd s c far fi se ∧ Fw s c far se fs zf ∧ OnB c s far m ∧ OnB c s far e ∧ 8 ≤ s ∧ s ≤ 1048576 ∧ ∀ H', Same H H' → Q (.bl true) H'
theorem ok_kept (T : Tx K mg) (k_frozen : CalK P w K mg base 4 "frozen" 3 ["ring"] (spFro K)) (w_state_own_ring : CalW P w K mg base 5 "state" 3 ["own", "ring"] gOR (spSt K)) : BodyOk P w K mg base "_law_kept" s_l_kept N_l_kept 5 (spKept K) := by
  intro f cdv A outer s H vs Q E hr h
  obtain ⟨v, L, F, as, t, s, c, far, fi, se, u, m, e, o, fs, zf, rfl, hv, eL, lks, hF, wd, fw, u0, u1, hm, he, ho, s0, s1, q⟩ := h
  have hnd := fw.nd wd
  have cm := hm.cov wd fw
  have ce := he.cov wd fw
  refine ⟨_, (pss_cons (ps_set (i := 6) sc_l_kept.nd rfl (Or.inl rfl) (pe_ck k_frozen hr (by decide) (gl_of gl_l_kept_frozen) (pa_cons (pv 0) (pa_cons (pv 3) (pa_cons (pv 2) pa_nil))) (pk_cons (pv 5) pk_nil)))
      (pss_cons (ps_for PassesOwn.never rfl (pi_list (pv 1)) (pg_name (i := 7) sc_l_kept.nd rfl (Or.inl rfl)) (pss_cons (ps_set (i := 8) sc_l_kept.nd rfl (Or.inl rfl) (pe_cmpR op_eq (pe_cw w_state_own_ring hr (by decide) (gl_of gl_l_kept_state) (pa_cons (pv 0) (pa_cons (pv 7) (pa_cons (pv 2) pa_nil))) (pk_cons (pv 4) (pk_cons (pv 5) pk_nil))) pe_str (nomark _)))
      (pss_cons (ps_if (PW.pt (pw_and (pt_cmpR op_isN (pv 6) pe_non (nomark _)) (pw_and1 (pt_val (pv 8))))) (pss_one (ps_ret pe_bl)) pss_nil)
      (pss_one (ps_if (pt_cmpR op_notN (pv 6) pe_non (nomark _)) (pss_cons (ps_set (i := 9) sc_l_kept.nd rfl (Or.inl rfl) (pe_cw w_state_own_ring hr (by decide) (gl_of gl_l_kept_state) (pa_cons (pv 6) (pa_cons (pv 7) (pa_cons (pv 2) pa_nil))) (pk_cons (pv 4) (pk_cons (pv 5) pk_nil))))
      (pss_one (ps_if (pt_cmpR op_ne (pv 8) (pe_cmpR op_eq (pv 9) pe_str (nomark _)) (nomark _)) (pss_one (ps_ret pe_bl)) pss_nil))) pss_nil)))))
      (pss_one (ps_ret pe_bl)))), ?_⟩
  refine st_seq ?_
  refine ⟨_, rfl, _, rfl, _, rfl, _, rfl, rfl, rfl, v, .str "a", .int t, m, e, nb c s u, s, F, fs, rfl, hv, hF, hnd, by omega, s1, fun y H1 sm1 r1 => ?_⟩
  try dsimp only [gName]
  refine st_seq ?_
  refine ⟨_, rfl, L, rfl, ⟨_, SqL.of (sm1 _ _ eL)⟩, ?_⟩
  refine for_list (xs := as.map V.ref) (fun i σ H' => (∃ y7 y8 y9, σ = [some (.ref v), some (.ref L), some (.ref F), some (.int (nb c s u)), some (onV o), some (.int s), some y, y7, y8, y9]) ∧ Same H1 H') ⟨⟨none, none, none, rfl⟩, fun _ _ z => z⟩ (fun i σ H' _ hP => ?_) (fun i lv σ H2 hlv hP => ?_) (fun σ H2 hP => ?_)
  · exact SqL.of (hP.2 _ _ (sm1 _ _ eL))
  · obtain ⟨⟨y7, y8, y9, rfl⟩, s2⟩ := hP
    have hla : ∃ la ∈ as, lv = .ref la := by
      obtain ⟨la, h1, h2⟩ := List.mem_map.mp (List.mem_of_getElem? hlv)
      exact ⟨la, h1, h2.symm⟩
    obtain ⟨la, hlam, rfl⟩ := hla
    obtain ⟨c', xs, g, bs, hlb, hlk⟩ := lks la hlam
    have s02 : Same H H2 := sm1.trans s2
    obtain ⟨k1, k2⟩ := kept_ok (o := o) wd fw hlb u0 u1 hm he ho
    try dsimp only
    refine st_seq ?_
    refine ⟨_, rfl, _, rfl, _, rfl, _, rfl, _, rfl, rfl, rfl, v, la, F, .str "a", .int t, m, e, o, c', xs, s, fs, rfl, sqT_same s02 hv, hlk.same s02, hF.same s02, hnd, cm, ce, by omega, s1, fun H3 s3 => ?_⟩
    refine ⟨rfl, ?_⟩
    generalize hSN : decide (V.str (stt fs c' xs s o m e) = V.str "seen") = SN
    have s13 : Same H1 H3 := s2.trans s3
    have r3 := r1.same s13
    try dsimp only [gName]
    cases hz : froz fs m e (nb c s u) s with
    | none =>
      rw [hz] at r3
      have ey : y = .non := r3
      subst ey
      have hsn : SN = false := by
        rw [← hSN]
        exact decide_eq_false fun z => k1 hz (V.str.inj z)
      subst hsn
      refine st_seq ?_
      refine ⟨_, rfl, rfl, _, rfl, iteT ⟨_, rfl, _, rfl, iteF ?_⟩⟩
      refine st_next ?_
      try dsimp only
      refine ⟨_, rfl, rfl, _, rfl, iteF ?_⟩
      exact ⟨⟨_, _, _, rfl⟩, s13⟩
    | some r =>
      rw [hz] at r3
      obtain ⟨p, rfl, hp⟩ := r3
      have cl := clean_ok wd fw u0 u1 hm he r hz
      have ob : ∀ {x : Option Int}, (∀ i, x = some i → ∃ b, 1 ≤ b ∧ b ≤ u ∧ b ≤ far ∧ i = nb c s b) → OnB c s far x := fun hx i hi => by
        obtain ⟨b, b0, _, b2, e⟩ := hx i hi
        exact ⟨b, b0, b2, e⟩
      refine st_seq ?_
      refine ⟨_, rfl, rfl, _, rfl, iteF (iteF ?_)⟩
      refine st_next ?_
      try dsimp only
      refine ⟨_, rfl, rfl, _, rfl, iteT ?_⟩
      refine st_seq ?_
      refine ⟨_, rfl, _, rfl, _, rfl, _, rfl, _, rfl, rfl, rfl, p, la, F, .str "a", .int t, r.1, r.2, o, c', xs, s, fs, rfl, hp, hlk.same (s02.trans s3), hF.same (s02.trans s3), hnd, (ob cl.1).cov wd fw, (ob cl.2).cov wd fw, by omega, s1, fun H4 s4 => ?_⟩
      have hsn2 : decide (V.str (stt fs c' xs s o r.1 r.2) = V.str "seen") = SN := by
        rw [← hSN]
        exact decide_eq_decide.mpr ⟨fun z => congrArg V.str ((k2 r hz).mpr (V.str.inj z)), fun z => congrArg V.str ((k2 r hz).mp (V.str.inj z))⟩
      refine ⟨_, rfl, _, rfl, rfl, ?_⟩
      rw [hsn2]
      refine ⟨?_, _, rfl, ?_⟩
      · cases SN <;> rfl
      rw [dec_refl]
      exact iteF ⟨⟨_, _, _, rfl⟩, s13.trans s4⟩
  · exact q _ (sm1.trans hP.2)
theorem shaped_res (t : Int) (r : Option (Option Int × Option Int)) : SeqAt.shaped (resD (.str "a") (.int t) r) = true := by
  cases r with
  | none => rfl
  | some q =>
    obtain ⟨a, b⟩ := q
    have z : PyData.canLay0 (.str "a") = true := by
      simp only [PyData.canLay0]
      decide +kernel
    have on : ∀ x : Option Int, PyData.canLay0 (onD x) = true := fun x => by
      cases x <;> rfl
    have od : ∀ x : Option Int, PyData.depth (onD x) = 0 := fun x => by
      cases x <;> rfl
    show (PyData.canLay0 (.str "a") && (PyData.canLay0 (.int t) && (PyData.canLay0 (onD a) && (PyData.canLay0 (onD b) && true))) && decide (max (PyData.depth (.str "a")) (max (PyData.depth (.int t)) (max (PyData.depth (onD a)) (max (PyData.depth (onD b)) 0))) + 1 ≤ 64)) = true
    rw [z, on, on, od, od]
    rfl
theorem res_dp {H : Hp} {t : Int} {y : V} {r : Option (Option Int × Option Int)} (h : Res K H (.str "a") (.int t) y r) : Dp K H y (resD (.str "a") (.int t) r) := by
  cases r with
  | none =>
    have e : y = .non := h
    subst e
    exact .non
  | some q =>
    obtain ⟨p, rfl, e⟩ := h
    obtain ⟨a, b⟩ := q
    have on : ∀ x : Option Int, Dp K H (onV x) (onD x) := fun x => by
      cases x with
      | none => exact .non
      | some i => exact .int i
    exact .tup e (.cons (.str _) (.cons (.int _) (.cons (on a) (.cons (on b) .nil))))
theorem eqv_res (t : Int) (r : Option (Option Int × Option Int)) : PyData.eqv (resD (.str "a") (.int t) r) (resD (.str "a") (.int t) r) = true := SeqAt.eqv_refl _ (SeqAt.canLay_of_shaped (shaped_res t r))
theorem ok_clean (T : Tx K mg) (k_frozen : CalK P w K mg base 4 "frozen" 3 ["ring"] (spFro K)) : BodyOk P w K mg base "_law_clean" s_l_clean N_l_clean 4 (spClean K) := by
  intro f cdv A outer s H vs Q E hr h
  obtain ⟨v, F, t, s, c, far, fi, se, u, m, e, fs, zf, rfl, hv, hF, wd, fw, u0, u1, hm, he, s0, s1, q⟩ := h
  have hnd := fw.nd wd
  have w2 := wd.f2
  have w3 := wd.s0
  have sp : 0 < s := by omega
  refine ⟨_, (pss_cons (ps_set (i := 5) sc_l_clean.nd rfl (Or.inl rfl) (pe_ck k_frozen hr (by decide) (gl_of gl_l_clean_frozen) (pa_cons (pv 0) (pa_cons (pv 2) (pa_cons (pv 1) pa_nil))) (pk_cons (pv 4) pk_nil)))
      (pss_cons (ps_if (pt_cmpR op_isN (pv 5) pe_non (nomark _)) (pss_one (ps_ret pe_bl)) pss_nil)
      (pss_cons (ps_set (i := 6) sc_l_clean.nd rfl (Or.inr rfl) (pe_op op_mod (pe_op op_sub (pv 3) (pv 2)) (pv 4)))
      (pss_one (ps_ret (pe_callB (cr_all rfl) (gl_of gl_l_clean_all) T.all bb_all (pa_cons (pe_lc (own := [("_law_number", 7)]) (g := gName 7) (tt := tYes) rfl sc_l_clean.nd (pi_tup (pe_slice sl_tupA (pv 5) (po_some pe_int) po_none)) (blkOk_by (own := [("_law_number", 7)]) (N := N_l_clean) (sc := defScope s_l_clean) (by decide +kernel)) (fun _ _ _ _ _ => pg_name (i := 7) sc_l_clean.nd rfl (Or.inl rfl)) (fun _ _ _ _ _ => pts_nil) (fun _ _ _ _ _ => (pe_or (pe_cmpR op_isN (pv 7) pe_non (nomark _)) (pe_one (pe_cmpR op_le (pe_op op_mod (pe_op op_sub (pv 3) (pv 7)) (pv 4)) (pv 6) (nomark _)))))) pa_nil))))))), ?_⟩
  refine st_seq ?_
  refine ⟨_, rfl, _, rfl, _, rfl, _, rfl, rfl, rfl, v, .str "a", .int t, m, e, nb c s u, s, F, fs, rfl, hv, hF, hnd, by omega, s1, fun y H1 sm1 r1 => ?_⟩
  try dsimp only [gName]
  refine st_seq ?_
  cases hz : froz fs m e (nb c s u) s with
  | none =>
    rw [hz] at r1
    have ey : y = .non := r1
    subst ey
    exact ⟨_, rfl, rfl, _, rfl, iteT (q _ sm1)⟩
  | some r =>
    rw [hz] at r1
    obtain ⟨p, rfl, hp⟩ := r1
    have cl := clean_ok wd fw u0 u1 hm he r hz
    refine ⟨_, rfl, rfl, _, rfl, iteF ?_⟩
    refine st_next ?_
    try dsimp only
    refine st_seq ?_
    refine ⟨_, rfl, _, rfl, _, _, rfl, rfl, _, rfl, _, _, rfl, rfl, sp, ?_⟩
    have back : ∀ b, 0 ≤ b → b ≤ u → (c - nb c s b) % s = b := fun b b0 b1 => by
      have e1 := nb_sub c s 0 b
      rw [nb_self wd.c0 wd.c1] at e1
      rw [e1, Int.sub_zero]
      exact Int.emod_eq_of_lt (by omega) (by omega)
    have eu : (c - nb c s u) % s = u := back u (by omega) (Int.le_refl _)
    try dsimp only [gName]
    refine ⟨_, rfl, _, rfl, ?_⟩
    dsimp only [tNoPart]
    refine slA_ev hp (fun p2 G sG hp2 => ?_)
    have hp3 : SqT K G p2 [onV r.1, onV r.2] := hp2
    refine ⟨p2, rfl, ⟨_, hp3⟩, fun D nD => ?_⟩
    refine lc_tup (K := K) (a := p2) (xs := [onV r.1, onV r.2]) (fun j' H'' => Same G H'' ∧ H'' D = some (.lst ((List.replicate j' true).map V.bl))) ?_ (fun j' H'' _ hP => ?_) (fun j' nv H'' hnv hP => ?_) (fun H'' hP => ?_)
    · exact ⟨same_new nD, upd_same⟩
    · exact sqT_same hP.1 hp3
    · obtain ⟨sD, eD⟩ := hP
      have hj2 : j' < 2 := (List.getElem?_eq_some_iff.mp hnv).1
      have hx : ∃ x : Option Int, nv = onV x ∧ ∀ i, x = some i → ∃ b, 1 ≤ b ∧ b ≤ u ∧ b ≤ far ∧ i = nb c s b := by
        match j', hnv with
        | 0, hnv => exact ⟨r.1, (Option.some.inj hnv).symm, cl.1⟩
        | 1, hnv => exact ⟨r.2, (Option.some.inj hnv).symm, cl.2⟩
        | n + 2, hnv => simp at hnv
      obtain ⟨x, rfl, hx⟩ := hx
      have step : ∃ acc, H'' D = some (.lst acc) ∧ acc.length < sizeLine ∧ (Same G (upd H'' D (.lst (acc ++ [.bl true]))) ∧ (upd H'' D (.lst (acc ++ [.bl true]))) D = some (.lst ((List.replicate (j' + 1) true).map V.bl))) := by
        refine ⟨_, eD, ?_, same_mut sD nD, ?_⟩
        · rw [List.length_map, List.length_replicate]
          exact small1000 (by omega)
        · rw [upd_same, List.replicate_succ', List.map_append]
          rfl
      refine ⟨rfl, ?_⟩
      cases x with
      | none => exact ⟨_, rfl, rfl, _, rfl, iteT step⟩
      | some i =>
        obtain ⟨b, b0, b1, b2, rfl⟩ := hx i rfl
        refine ⟨_, rfl, rfl, _, rfl, iteF ?_⟩
        refine ⟨_, rfl, _, rfl, _, _, rfl, rfl, _, rfl, _, _, rfl, rfl, sp, _, rfl, _, _, rfl, rfl, ?_⟩
        show (fun y H4 => ∃ acc, H4 D = some (.lst acc) ∧ acc.length < sizeLine ∧ (Same G (upd H4 D (.lst (acc ++ [y]))) ∧ (upd H4 D (.lst (acc ++ [y]))) D = some (.lst ((List.replicate (j' + 1) true).map V.bl)))) (.bl (decide ((c - nb c s b) % s ≤ (c - nb c s u) % s))) H''
        rw [back b (by omega) b1, eu, decide_eq_true b1]
        exact step
    · obtain ⟨sD, eD⟩ := hP
      refine ⟨D, _, rfl, SqL.of eD, ?_⟩
      rw [all_rep]
      exact q _ (sm1.trans (sG.trans sD))
theorem ok_again (T : Tx K mg) (k_frozen : CalK P w K mg base 4 "frozen" 3 ["ring"] (spFro K)) : BodyOk P w K mg base "_law_again" s_l_again N_l_again 4 (spAgain K) := by
  intro f cdv A outer s H vs Q E hr h
  obtain ⟨v, F, t, s, c, far, fi, se, m, e, fs, zf, rfl, hv, hF, wd, fw, hm, he, s0, s1, q⟩ := h
  have hnd := fw.nd wd
  obtain ⟨a1, a2⟩ := fro_again (fs := fs) (m := m) (e := e) (F := nb c s fi) (S := nb c s se) (s := s) (befO_mono wd hm) (befO_mono wd he)
  refine ⟨_, (pss_cons (ps_par (i := 5) (j := 6) (by rfl) sc_l_again.nd rfl rfl (by decide) rfl rfl (pa_cons (pe_ck k_frozen hr (by decide) (gl_of gl_l_again_frozen) (pa_cons (pv 0) (pa_cons (pv 2) (pa_cons (pv 1) pa_nil))) (pk_cons (pv 4) pk_nil)) (pa_cons (pe_ck k_frozen hr (by decide) (gl_of gl_l_again_frozen) (pa_cons (pv 0) (pa_cons (pv 3) (pa_cons (pv 1) pa_nil))) (pk_cons (pv 4) pk_nil)) pa_nil)) (by rfl))
      (pss_cons (ps_if (PW.pt (pw_and (pt_cmpR op_notN (pv 5) pe_non (nomark _)) (pw_and1 (pt_cmpR (op_neD hr.units) (pe_ck k_frozen hr (by decide) (gl_of gl_l_again_frozen) (pa_cons (pv 5) (pa_cons (pv 2) (pa_cons (pv 1) pa_nil))) (pk_cons (pv 4) pk_nil)) (pv 5) (nomark _))))) (pss_one (ps_ret pe_bl)) pss_nil)
      (pss_cons (ps_if (pt_cmpR op_isN (pv 5) pe_non (nomark _)) (pss_one (ps_ret (pe_cmpR op_isN (pv 6) pe_non (nomark _)))) pss_nil)
      (pss_one (ps_ret (pe_cmpR (op_eqD hr.units) (pe_ck k_frozen hr (by decide) (gl_of gl_l_again_frozen) (pa_cons (pv 5) (pa_cons (pv 3) (pa_cons (pv 1) pa_nil))) (pk_cons (pv 4) pk_nil)) (pv 6) (nomark _))))))), ?_⟩
  refine st_seq ?_
  refine ⟨_, rfl, _, rfl, _, rfl, _, rfl, rfl, rfl, v, .str "a", .int t, m, e, nb c s fi, s, F, fs, rfl, hv, hF, hnd, by omega, s1, fun y1 H1 sm1 r1 => ?_⟩
  refine ⟨_, rfl, _, rfl, _, rfl, _, rfl, rfl, rfl, v, .str "a", .int t, m, e, nb c s se, s, F, fs, rfl, sqT_same sm1 hv, hF.same sm1, hnd, by omega, s1, fun y2 H2 sm2 r2 => ?_⟩
  refine ⟨_, _, rfl, ?_⟩
  have r12 := r1.same sm2
  have s02 : Same H H2 := sm1.trans sm2
  try dsimp only
  refine st_seq ?_
  cases hz : froz fs m e (nb c s fi) s with
  | none =>
    rw [hz] at r12
    have ey : y1 = .non := r12
    subst ey
    rw [a1 hz] at r2
    have ey : y2 = .non := r2
    subst ey
    refine ⟨_, rfl, rfl, _, rfl, iteF (iteF ?_)⟩
    refine st_next ?_
    try dsimp only
    refine st_seq ?_
    refine ⟨_, rfl, rfl, _, rfl, iteT ?_⟩
    exact ⟨_, rfl, rfl, q _ s02⟩
  | some r =>
    rw [hz] at r12
    obtain ⟨b1, b2⟩ := a2 r hz
    obtain ⟨p, rfl, hp⟩ := id r12
    refine ⟨_, rfl, rfl, _, rfl, iteT ?_⟩
    refine ⟨_, rfl, _, rfl, _, rfl, _, rfl, rfl, rfl, p, .str "a", .int t, r.1, r.2, nb c s fi, s, F, fs, rfl, hp, hF.same s02, hnd, by omega, s1, fun y3 H3 sm3 r3 => ?_⟩
    rw [b1] at r3
    refine ⟨_, rfl, _, _, res_dp r3, res_dp (r12.same sm3), shaped_res _ _, shaped_res _ _, _, rfl, ?_⟩
    rw [eqv_res]
    refine iteF ?_
    refine st_next ?_
    try dsimp only
    refine st_seq ?_
    refine ⟨_, rfl, rfl, _, rfl, iteF ?_⟩
    refine st_next ?_
    try dsimp only
    refine ⟨_, rfl, _, rfl, _, rfl, _, rfl, rfl, rfl, p, .str "a", .int t, r.1, r.2, nb c s se, s, F, fs, rfl, sqT_same sm3 hp, hF.same (s02.trans sm3), hnd, by omega, s1, fun y4 H4 sm4 r4 => ?_⟩
    rw [b2] at r4
    refine ⟨_, rfl, _, _, res_dp r4, res_dp (r2.same (sm3.trans sm4)), shaped_res _ _, shaped_res _ _, ?_⟩
    rw [eqv_res]
    exact q _ (s02.trans (sm3.trans sm4))
theorem ft_mem {H : Hp} {s c far fi se : Int} {fs : List (Int × Str)} {zf : Int → Str} (fw : Fw s c far se fs zf) {p : Int × Str} (hp : p ∈ fs) : ∃ b, 1 ≤ b ∧ b ≤ far ∧ p = (nb c s b, zf b) := by
  rw [fw.eq] at hp
  obtain ⟨b, hb, e⟩ := List.mem_map.mp hp
  have z := mem_bks.mp hb
  exact ⟨b, z.1, z.2, e.symm⟩
theorem fw_len {s c far fi se : Int} {fs : List (Int × Str)} {zf : Int → Str} (wd : Wd s c far fi se) (fw : Fw s c far se fs zf) : fs.length ≤ 40 := by
  have := wd.f3
  rw [fw.eq, List.length_map]
  unfold bks
  rw [List.length_map, List.length_range]
  omega
theorem ok_law (T : Tx K mg) (c_l_hand : C8.Cal P w K mg base 1 "_law_hand" (spHand K) []) (c_l_of : C8.Cal P w K mg base 2 "_law_of" (spOf2 K) []) (c_l_size : C8.Cal P w K mg base 3 "_law_size" spSize []) (c_l_world : C8.Cal P w K mg base 3 "_law_world" spWorld []) (c_l_looks : C8.Cal P w K mg base 2 "_law_looks" (spLooks K) [])
    (c_l_fates : C8.Cal P w K mg base 3 "_law_fates" (spFatesW K) []) (k_is_look : CalK P w K mg base 4 "is_look" 1 ["ring"] (spIsLook K)) (c_low : C8.Cal P w K mg base 1 "low" (spLow K) []) (c_l_kept : C8.Cal P w K mg base 6 "_law_kept" (spKept K) []) (c_l_clean : C8.Cal P w K mg base 5 "_law_clean" (spClean K) []) (c_l_again : C8.Cal P w K mg base 5 "_law_again" (spAgain K) []) : BodyAt P w K mg base "law" s_law N_law 6 (spLaw K) := by
  intro f cdv s H vs Q E hr h
  obtain ⟨a, ns, rfl, hS, hl, q⟩ := h
  refine ⟨_, (pss_cons (ps_for PassesOwn.never rfl (pi_range1 (by rfl) T.range (pa_cons (pe_callB (call_max2 rfl) (gl_of gl_law_max) T.max bb_max (pa_cons pe_int (pa_cons (pe_callB (call_min2 rfl) (gl_of gl_law_min) T.min bb_min (pa_cons pe_int (pa_cons (pe_callB call_len_seq (gl_of gl_law_len) T.len bb_len (pa_cons (pv 0) pa_nil)) pa_nil))) pa_nil))) pa_nil)) (pg_name (i := 1) sc_law.nd rfl (Or.inl rfl)) (pss_cons (ps_set (i := 2) sc_law.nd rfl (Or.inl rfl) (C8.pe_c c_l_hand hr (by decide) (gl_of gl_law_l_hand) (pa_cons (pv 0) (pa_cons (pv 1) pa_nil))))
      (pss_cons (ps_set (i := 3) sc_law.nd rfl (Or.inr rfl) (C8.pe_c c_l_size hr (by decide) (gl_of gl_law_l_size) (pa_cons (pv 2) pa_nil)))
      (pss_cons (ps_set (i := 4) sc_law.nd rfl (Or.inl rfl) (C8.pe_c c_l_world hr (by decide) (gl_of gl_law_l_world) (pa_cons (pv 2) (pa_cons (pv 3) pa_nil))))
      (pss_cons (ps_asg (pv 4) (pg_tup rfl (pgs_cons (pg_name (i := 5) sc_law.nd rfl (Or.inr rfl)) (pgs_cons (pg_name (i := 6) sc_law.nd rfl (Or.inl rfl)) (pgs_cons (pg_name (i := 7) sc_law.nd rfl (Or.inl rfl)) (pgs_cons (pg_name (i := 8) sc_law.nd rfl (Or.inr rfl)) pgs_nil))))))
      (pss_cons (ps_set (i := 9) sc_law.nd rfl (Or.inl rfl) (pe_op op_mod (pe_op op_sub (pv 5) (pv 7)) (pv 3)))
      (pss_cons (ps_set (i := 10) sc_law.nd rfl (Or.inl rfl) (pe_op op_mod (pe_op op_sub (pv 5) (pv 8)) (pv 3)))
      (pss_cons (ps_par (i := 11) (j := 12) (by rfl) sc_law.nd rfl rfl (by decide) rfl rfl (pa_cons (C8.pe_c c_l_looks hr (by decide) (gl_of gl_law_l_looks) (pa_cons (pv 2) (pa_cons (pv 4) (pa_cons (pv 3) pa_nil)))) (pa_cons (C8.pe_c c_l_fates hr (by decide) (gl_of gl_law_l_fates) (pa_cons (pv 2) (pa_cons (pv 4) (pa_cons (pv 3) pa_nil)))) pa_nil)) (by rfl))
      (pss_cons (ps_if (pt_not (pt_val (pe_callB (cr_all rfl) (gl_of gl_law_all) T.all bb_all (pa_cons (pe_lc (own := [("_law_look", 18)]) (g := gName 18) (tt := tYes) rfl sc_law.nd (pi_list (pv 11)) (blkOk_by (own := [("_law_look", 18)]) (N := N_law) (sc := defScope s_law) (by decide +kernel)) (fun _ _ _ _ _ => pg_name (i := 18) sc_law.nd rfl (Or.inl rfl)) (fun _ _ _ _ _ => pts_nil) (fun _ _ _ _ _ => (pe_and (pe_ck k_is_look hr (by decide) (by rfl) (pa_cons (pv 18) pa_nil) (pk_cons (pv 3) pk_nil)) (pe_one (pe_cmpR op_le (pe_op op_mod (pe_op op_sub (pv 5) (C8.pe_c c_low hr (by decide) (by rfl) (pa_cons (pv 18) pa_nil))) (pv 3)) (pv 8) (nomark _)))))) pa_nil)))) (pss_one (ps_ret pe_bl)) pss_nil)
      (pss_one (ps_for PassesOwn.never rfl (pi_range1 (by rfl) T.range (pa_cons pe_int pa_nil)) (pg_name (i := 13) sc_law.nd rfl (Or.inl rfl)) (pss_cons (ps_set (i := 14) sc_law.nd rfl (Or.inl rfl) (pe_op op_cat (pe_lst (pa_cons pe_non pa_nil)) (pe_lc (own := [("_law_row", 19)]) (g := gName 19) (tt := tYes) rfl sc_law.nd (pi_tup (pv 12)) (blkOk_by (own := [("_law_row", 19)]) (N := N_law) (sc := defScope s_law) (by decide +kernel)) (fun _ _ _ _ _ => pg_name (i := 19) sc_law.nd rfl (Or.inl rfl)) (fun _ _ _ _ _ => pts_nil) (fun _ _ _ _ _ => (pe_ix (ix_tupK (K1 := K) rfl) (pv 19) pe_int (fun _ _ => rfl))))))
      (pss_cons (ps_set (i := 15) sc_law.nd rfl (Or.inl rfl) (pe_tup (pa_cons pe_str (pa_cons (pv 13) (pa_cons (C8.pe_c c_l_of hr (by decide) (gl_of gl_law_l_of) (pa_cons (pv 2) (pa_cons (pv 14) pa_nil))) (pa_cons (C8.pe_c c_l_of hr (by decide) (gl_of gl_law_l_of) (pa_cons (pv 2) (pa_cons (pv 14) pa_nil))) pa_nil))))))
      (pss_cons (ps_set (i := 16) sc_law.nd rfl (Or.inl rfl) (C8.pe_c c_l_of hr (by decide) (gl_of gl_law_l_of) (pa_cons (pv 2) (pa_cons (pe_op op_cat (pe_lst (pa_cons pe_non pa_nil)) (pe_lc (own := [("_law_row", 19)]) (g := gName 19) rfl sc_law.nd (pi_tup (pv 12)) (blkOk_by (own := [("_law_row", 19)]) (N := N_law) (sc := defScope s_law) (by decide +kernel)) (fun _ _ _ _ _ => pg_name (i := 19) sc_law.nd rfl (Or.inl rfl)) (fun _ _ _ _ _ => (pts_one (pt_cmpR op_eq (pe_ix (ix_tupK (K1 := K) rfl) (pv 19) pe_int (fun _ _ => rfl)) pe_str (nomark _)))) (fun _ _ _ _ _ => (pe_ix (ix_tupK (K1 := K) rfl) (pv 19) pe_int (fun _ _ => rfl))))) pa_nil))))
      (pss_cons (ps_for PassesOwn.never rfl (pi_tup (pe_tup (pa_cons (pv 9) (pa_cons (pv 10) pa_nil)))) (pg_name (i := 17) sc_law.nd rfl (Or.inl rfl)) (pss_cons (ps_if (pt_not (pt_val (C8.pe_c c_l_kept hr (by decide) (gl_of gl_law_l_kept) (pa_cons (pv 15) (pa_cons (pv 11) (pa_cons (pv 12) (pa_cons (pv 17) (pa_cons (pv 16) (pa_cons (pv 3) pa_nil))))))))) (pss_one (ps_ret pe_bl)) pss_nil)
      (pss_one (ps_if (pt_not (pt_val (C8.pe_c c_l_clean hr (by decide) (gl_of gl_law_l_clean) (pa_cons (pv 15) (pa_cons (pv 12) (pa_cons (pv 17) (pa_cons (pv 5) (pa_cons (pv 3) pa_nil)))))))) (pss_one (ps_ret pe_bl)) pss_nil))))
      (pss_one (ps_if (pt_not (pt_val (C8.pe_c c_l_again hr (by decide) (gl_of gl_law_l_again) (pa_cons (pv 15) (pa_cons (pv 12) (pa_cons (pv 9) (pa_cons (pv 10) (pa_cons (pv 3) pa_nil)))))))) (pss_one (ps_ret pe_bl)) pss_nil)))))))))))))))))
      (pss_one (ps_ret pe_bl))), ?_⟩
  refine st_seq ?_
  refine ⟨_, rfl, a, _, rfl, .inl hS, _, _, rfl, _, _, rfl, _, rfl, ?_, ?_, ?_⟩
  · split <;> split <;> omega
  · rw [List.length_map]
    split <;> split <;> omega
  · refine for_range (lo := 0) (fun i σ H' => (∃ y1 y2 y3 y4 y5 y6 y7 y8 y9 ya yb yc yd ye yf yg yh yi yj, σ = [some (.ref a), y1, y2, y3, y4, y5, y6, y7, y8, y9, ya, yb, yc, yd, ye, yf, yg, yh, yi, yj]) ∧ SqL K H' a (ns.map V.int)) ⟨⟨none, none, none, none, none, none, none, none, none, none, none, none, none, none, none, none, none, none, none, rfl⟩, hS⟩ (fun i σ H1 hi hP => ?_) (fun σ H1 hP => ?_)
    · obtain ⟨⟨y1, y2, y3, y4, y5, y6, y7, y8, y9, ya, yb, yc, yd, ye, yf, yg, yh, yi, yj, rfl⟩, hS1⟩ := hP
      have hi2 : i ≤ 8 := by
        rw [List.length_map] at hi
        split at hi <;> split at hi <;> omega
      refine st_seq ?_
      refine ⟨_, rfl, _, rfl, a, ns, i, ?_, hS1, by omega, fun p H2 np ke hs => ?_⟩
      · show [V.ref a, V.int (0 + (i : Int))] = _
        rw [Int.zero_add]
      have fr2 : Fr p H1 H2 := fun b o _ e => ke b o e
      refine st_seq ?_
      refine ⟨_, rfl, p, 0, rfl, hs, (show 0 + 3 < 100000 by decide), fun z H3 z0 z1 z2 hs3 f3 => ?_⟩
      have g3 : Fr p H1 H3 := fr2.trans f3
      have sp : 0 < z := by omega
      try dsimp only [gName]
      refine st_seq ?_
      refine ⟨_, rfl, _, rfl, p, z, 3, rfl, hs3, (show 3 + 5 < 100000 by decide), z0, z1, fun wa c far fi se H4 wd ew hs4 f4 => ?_⟩
      have g4 : Fr p H1 H4 := g3.trans f4
      have w1 := wd.f1
      have w2 := wd.f2
      have w3 := wd.f3
      have w4 := wd.i1
      have w5 := wd.s0
      have w6 := wd.s1
      try dsimp only [gName]
      refine st_seq ?_
      refine ⟨_, rfl, wa, _, rfl, SqT.of ew, rfl, _, _, rfl, _, _, rfl, _, _, rfl, _, _, rfl, rfl, ?_⟩
      try dsimp only
      refine st_seq ?_
      refine ⟨_, rfl, _, rfl, _, _, rfl, rfl, _, rfl, _, _, rfl, rfl, sp, ?_⟩
      try dsimp only [gName]
      refine st_seq ?_
      refine ⟨_, rfl, _, rfl, _, _, rfl, rfl, _, rfl, _, _, rfl, rfl, sp, ?_⟩
      try dsimp only [gName]
      refine st_seq ?_
      refine ⟨_, rfl, _, rfl, _, rfl, p, wa, z, c, far, fi, se, 8, rfl, SqT.of ew, wd, hs4, (show 8 + 30 < 100000 by decide), z0, z1, fun L as H5 nL eL lks las hs5 f5 => ?_⟩
      have g5 : Fr p H1 H5 := g4.trans f5
      have nLp : L ≠ p := hs4.ne nL
      have ew5 := hs4.sqT f5 (SqT.of ew : SqT K H4 wa _)
      refine ⟨_, rfl, _, rfl, _, rfl, p, wa, z, c, far, fi, se, 38, rfl, ew5, wd, hs5, (show 38 + 40 < 100000 by decide), z0, z1, fun F fs zf H6 fw hF hs6 f6 => ?_⟩
      have g6 : Fr p H1 H6 := g5.trans f6
      have eL6 := f6 _ _ nLp eL
      have lks6 := lks.fr hs5 f6
      have lfs := fw_len wd fw
      refine ⟨_, _, rfl, ?_⟩
      -- the looks are looks
      try dsimp only
      refine st_seq ?_
      refine ⟨_, rfl, L, rfl, ⟨_, SqL.of eL6⟩, fun D nD => ?_⟩
      refine lc_list (K := K) (a := L) (xs := as.map V.ref) (fun j' H'' => Same H6 H'' ∧ H'' D = some (.lst ((List.replicate j' true).map V.bl))) ?_ (fun j' H'' _ hP => ?_) (fun j' lv H'' hlv hP => ?_) (fun H7 hP => ?_)
      · exact ⟨same_new nD, upd_same⟩
      · exact SqL.of (hP.1 _ _ eL6)
      · obtain ⟨sD, eD⟩ := hP
        have hjl : j' < as.length := by
          have z := (List.getElem?_eq_some_iff.mp hlv).1
          rw [List.length_map] at z
          exact z
        have hla : ∃ la ∈ as, lv = .ref la := by
          obtain ⟨la, h1, h2⟩ := List.mem_map.mp (List.mem_of_getElem? hlv)
          exact ⟨la, h1, h2.symm⟩
        obtain ⟨la, hlam, rfl⟩ := hla
        obtain ⟨c', xs, g, bs, hlb, hlk⟩ := lks6 la hlam
        have hlk2 := hlk.same sD
        have cr := nb_range (c := c) (b := g) sp
        have lb := hlb.g0
        have lb1 := hlb.g1
        have xr : ∀ x ∈ xs, 0 ≤ x ∧ x < z := fun x hx => by
          rw [hlb.ex] at hx
          obtain ⟨b, _, rfl⟩ := List.mem_map.mp hx
          exact nb_range sp
        have ho : inOrd xs c' z = true := by
          have ex : xs = (bs.map fun b => b - g).map (nb c' z) := by
            rw [hlb.ex, List.map_map]
            refine List.map_congr_left fun b _ => ?_
            show nb c z b = nb c' z (b - g)
            rw [hlb.ec, nb_shift]
            congr 1
            omega
          rw [ex]
          refine inOrd_true (by rw [hlb.ec]; exact cr.1) (by rw [hlb.ec]; exact cr.2) ?_ ?_
          · rw [List.pairwise_map]
            exact hlb.dec.imp fun h => by omega
          · intro x hx
            obtain ⟨b, hb, rfl⟩ := List.mem_map.mp hx
            have := hlb.rng b hb
            omega
        have hR : LkR K H'' z (.ref la) true := by
          rw [← ho]
          exact .yes hlk2 (by rw [hlb.ex, List.length_map]; have := hlb.len; omega) (by rw [hlb.ec]; exact cr.1) (by rw [hlb.ec]; exact cr.2) xr
        refine ⟨rfl, ?_⟩
        refine ⟨_, rfl, _, rfl, rfl, rfl, .ref la, z, true, rfl, hR, sp, z1, fun H8 s8 => ?_⟩
        refine ⟨_, rfl, iteT ?_⟩
        refine ⟨_, rfl, _, rfl, la, c', xs, rfl, hlk2.same s8, _, _, rfl, rfl, _, rfl, _, _, rfl, rfl, sp, _, rfl, _, _, rfl, rfl, ?_⟩
        have hlow : (c - xs.headD c') % z ≤ se := by
          have back : ∀ b, 0 ≤ b → b ≤ far → (c - nb c z b) % z = b := fun b b0 b1 => by
            have e1 := nb_sub c z 0 b
            rw [nb_self wd.c0 wd.c1] at e1
            rw [e1, Int.sub_zero]
            exact Int.emod_eq_of_lt (by omega) (by omega)
          have hx2 := hlb.ex
          cases hbs : bs with
          | nil =>
            rw [hbs] at hx2
            rw [hx2]
            show (c - c') % z ≤ se
            rw [hlb.ec, back g lb (by omega)]
            exact lb1
          | cons b r =>
            rw [hbs] at hx2
            rw [hx2]
            show (c - nb c z b) % z ≤ se
            have := hlb.rng b (by rw [hbs]; exact List.mem_cons_self ..)
            rw [back b (by omega) (by omega)]
            exact this.2
        show (fun y H4 => ∃ acc, H4 D = some (.lst acc) ∧ acc.length < sizeLine ∧ (Same H6 (upd H4 D (.lst (acc ++ [y]))) ∧ (upd H4 D (.lst (acc ++ [y]))) D = some (.lst ((List.replicate (j' + 1) true).map V.bl)))) (.bl (decide ((c - xs.headD c') % z ≤ se))) H8
        rw [decide_eq_true hlow]
        refine ⟨_, s8 _ _ eD, ?_, same_mut (sD.trans s8) nD, ?_⟩
        · rw [List.length_map, List.length_replicate]
          exact small1000 (by omega)
        · rw [upd_same, List.replicate_succ', List.map_append]
          rfl
      obtain ⟨s7, eD⟩ := hP
      refine ⟨D, _, rfl, SqL.of eD, _, rfl, ?_⟩
      rw [all_rep]
      refine iteF ?_
      refine st_next ?_
      have hs7 := hs6.same s7
      have g7 : Fr p H1 H7 := g6.trans (Fr.same s7)
      have eL7 := s7 _ _ eL6
      have lks7 := lks6.same s7
      have hF7 := hF.same s7
      have hF7' := hF7
      obtain ⟨fo, fps, hf1, hf2, hf3⟩ := hF7'
      try dsimp only
      refine ⟨12, rfl, by decide, by decide, ?_⟩
      refine for_range (lo := 0) (n := (12 : Int).toNat) (fun j σ H' => (∃ y1 yd ye yf yg yh yi yj, σ = [some (.ref a), y1, some (.ref p), some (.int z), some (.ref wa), some (.int c), some (.int far), some (.int fi), some (.int se), some (.int (nb c z fi)), some (.int (nb c z se)), some (.ref L), some (.ref F), yd, ye, yf, yg, yh, yi, yj]) ∧ HS p (78 + 3 * j) H' ∧ Fr p H7 H') ⟨⟨_, _, _, _, _, _, _, _, rfl⟩, hs7, Fr.refl _ _⟩ (fun j σ H8 hj hP => ?_) (fun σ H8 hP => ?_)
      · obtain ⟨⟨y1, yd, ye, yf, yg, yh, yi, yj, rfl⟩, hs8, f8⟩ := hP
        have hj2 : j < 12 := hj
        have hF8 := Ft.fr hs7 f8 hF7
        have eL8 := f8 _ _ nLp eL7
        have lks8 := lks7.fr hs7 f8
        obtain ⟨fo8, fps8, hf18, hf28, hf38⟩ := id hF8
        have lfp := paired_len hf38
        -- numbers
        try dsimp only
        refine st_seq ?_
        refine ⟨(show 1 ≤ sizeLine by decide), fun l1 nl1 => ?_⟩
        have e9 : (upd H8 l1 (.lst [.non])) l1 = some (.lst [.non]) := upd_same
        have s9 : Same H8 (upd H8 l1 (.lst [.non])) := same_new nl1
        generalize upd H8 l1 (.lst [.non]) = H9 at e9 s9
        refine ⟨_, rfl, F, rfl, ⟨_, .inl (.inr ⟨fo8, s9 _ _ hf18⟩)⟩, fun D1 nD1 => ?_⟩
        refine lc_tup (K := K) (a := F) (xs := fps8.map V.ref) (fun j' H'' => Same H9 H'' ∧ H'' D1 = some (.lst (((fs.map (·.1)).take j').map V.int))) ?_ (fun j' H'' _ hP => ?_) (fun j' rv H'' hrv hP => ?_) (fun Ha hP => ?_)
        · exact ⟨same_new nD1, upd_same⟩
        · exact .inl (.inr ⟨fo8, hP.1 _ _ (s9 _ _ hf18)⟩)
        · obtain ⟨sD, eD1⟩ := hP
          have hjl : j' < fps8.length := by
            have z := (List.getElem?_eq_some_iff.mp hrv).1
            rw [List.length_map] at z
            exact z
          rw [List.getElem?_map, List.getElem?_eq_getElem hjl] at hrv
          have ev : rv = .ref fps8[j'] := (Option.some.inj hrv).symm
          subst ev
          have hjf : j' < fs.length := by omega
          have hpj := paired_at hf38 hjl hjf
          refine ⟨rfl, ?_⟩
          refine ⟨_, rfl, fps8[j'], _, 0, .int fs[j'].1, rfl, rfl, sqT_same (s9.trans sD) hpj, rfl, _, eD1, ?_, same_mut sD nD1, ?_⟩
          · rw [List.length_map, List.length_take]
            exact small1000 (by omega)
          · have hjm : j' < (fs.map (·.1)).length := by
              rw [List.length_map]
              exact hjf
            rw [upd_same, take_add1 (fs.map (·.1)) j' hjm, List.map_append, List.getElem_map]
            rfl
        obtain ⟨sD1, eD1⟩ := hP
        have etk : (fs.map (·.1)).take (fps8.map V.ref).length = fs.map (·.1) := by
          refine List.take_of_length_le ?_
          rw [List.length_map, List.length_map]
          omega
        rw [etk] at eD1
        refine ⟨l1, D1, _, _, rfl, rfl, sD1 _ _ e9, eD1, ?_, fun Ln nLn => ?_⟩
        · rw [List.length_map, List.length_map]
          exact Nat.le_of_lt (small1000 (show 1 + fs.length ≤ 1000 by omega))
        have eN : (upd Ha Ln (.lst ([.non] ++ (fs.map (·.1)).map V.int))) Ln = some (.lst ([.non] ++ (fs.map (·.1)).map V.int)) := upd_same
        have s8b : Same H8 (upd Ha Ln (.lst ([.non] ++ (fs.map (·.1)).map V.int))) := s9.trans (sD1.trans (same_new nLn))
        have nLnp : Ln ≠ p := (hs8.same (s9.trans sD1)).ne nLn
        generalize upd Ha Ln (.lst ([.non] ++ (fs.map (·.1)).map V.int)) = Hb at eN s8b
        have hsb := hs8.same s8b
        have num : ∀ v ∈ ([.non] ++ (fs.map (·.1)).map V.int : List V), ∃ x, v = onV x ∧ OnB c z far x := fun v hv => by
          rcases List.mem_append.mp hv with e | e
          · rw [List.mem_singleton.mp e]
            exact ⟨none, rfl, OnB.none⟩
          · obtain ⟨k, hk, rfl⟩ := List.mem_map.mp e
            obtain ⟨pr, hpr, rfl⟩ := List.mem_map.mp hk
            obtain ⟨b, b0, b1, epr⟩ := ft_mem (H := Hb) (fi := fi) fw hpr
            refine ⟨some pr.1, rfl, fun i hi => ?_⟩
            cases hi
            exact ⟨b, b0, b1, by rw [epr]⟩
        have lnum : ([.non] ++ (fs.map (·.1)).map V.int : List V).length ≤ 1000 := by
          rw [List.length_append, List.length_map, List.length_map]
          show 1 + fs.length ≤ 1000
          omega
        have lnum0 : 0 < ([.non] ++ (fs.map (·.1)).map V.int : List V).length := by
          rw [List.length_append]
          show 0 < 1 + _
          omega
        -- version
        try dsimp only [gName]
        refine st_seq ?_
        refine ⟨_, rfl, _, rfl, _, rfl, .inl ⟨p, Ln, _, _, rfl, hsb, (show 78 + 3 * j < 100000 by omega), nLnp, SqL.of eN, lnum0, lnum, fun v1 Hc hv1 hsc fc => ?_⟩⟩
        obtain ⟨m, rfl, hm⟩ := num v1 hv1
        refine ⟨_, rfl, _, rfl, .inl ⟨p, Ln, _, _, rfl, hsc, (show 78 + 3 * j + 1 < 100000 by omega), nLnp, SqL.of (fc _ _ nLnp eN), lnum0, lnum, fun v2 Hd hv2 hsd fd => ?_⟩⟩
        obtain ⟨e, rfl, he⟩ := num v2 hv2
        refine ⟨(show 4 ≤ sizeLine by decide), fun vv nv => ?_⟩
        have ev : (upd Hd vv (.tup [.str "a", .int (0 + (j : Int)), onV m, onV e])) vv = some (.tup [.str "a", .int (0 + (j : Int)), onV m, onV e]) := upd_same
        have sv : Same Hd (upd Hd vv (.tup [.str "a", .int (0 + (j : Int)), onV m, onV e])) := same_new nv
        generalize upd Hd vv (.tup [.str "a", .int (0 + (j : Int)), onV m, onV e]) = He at ev sv
        have f8e : Fr p H8 He := (Fr.same s8b).trans (fc.trans (fd.trans (Fr.same sv)))
        have hse := hsd.same sv
        have hFe := Ft.fr hs8 f8e hF8
        obtain ⟨foe, fpse, hf1e, hf2e, hf3e⟩ := id hFe
        have lfpe := paired_len hf3e
        -- mine
        try dsimp only [gName]
        refine st_seq ?_
        refine ⟨_, rfl, (show 1 ≤ sizeLine by decide), fun l2 nl2 => ?_⟩
        have e10 : (upd He l2 (.lst [.non])) l2 = some (.lst [.non]) := upd_same
        have s10 : Same He (upd He l2 (.lst [.non])) := same_new nl2
        generalize upd He l2 (.lst [.non]) = Hf at e10 s10
        refine ⟨_, rfl, F, rfl, ⟨_, .inl (.inr ⟨foe, s10 _ _ hf1e⟩)⟩, fun D2 nD2 => ?_⟩
        refine lc_tup (K := K) (a := F) (xs := fpse.map V.ref) (fun j' H'' => Same Hf H'' ∧ ∃ ks : List Int, ks.length ≤ j' ∧ (∀ k ∈ ks, ∃ b, 1 ≤ b ∧ b ≤ far ∧ k = nb c z b ∧ zf b = "open") ∧ H'' D2 = some (.lst (ks.map V.int))) ?_ (fun j' H'' _ hP => ?_) (fun j' rv H'' hrv hP => ?_) (fun Hg hP => ?_)
        · exact ⟨same_new nD2, [], Nat.le_refl 0, (fun k hk => by cases hk), upd_same⟩
        · exact .inl (.inr ⟨foe, hP.1 _ _ (s10 _ _ hf1e)⟩)
        · obtain ⟨sD, ks, lks', hks, eD2⟩ := hP
          have hjl : j' < fpse.length := by
            have z := (List.getElem?_eq_some_iff.mp hrv).1
            rw [List.length_map] at z
            exact z
          rw [List.getElem?_map, List.getElem?_eq_getElem hjl] at hrv
          have ev : rv = .ref fpse[j'] := (Option.some.inj hrv).symm
          subst ev
          have hjf : j' < fs.length := by omega
          have hpj := sqT_same (s10.trans sD) (paired_at hf3e hjl hjf)
          refine ⟨rfl, ?_⟩
          refine ⟨_, rfl, fpse[j'], _, 1, .str fs[j'].2, rfl, rfl, hpj, rfl, rfl, _, rfl, ite2 (fun y => ?_) (fun y => ?_)⟩
          · have y2 : fs[j'].2 = "open" := V.str.inj (of_decide_eq_true y)
            obtain ⟨b, b0, b1, epr⟩ := ft_mem (H := H'') (fi := fi) fw (List.getElem_mem hjf)
            refine ⟨_, rfl, fpse[j'], _, 0, .int fs[j'].1, rfl, rfl, hpj, rfl, _, eD2, ?_, same_mut sD nD2, ks ++ [fs[j'].1], ?_, ?_, ?_⟩
            · rw [List.length_map]
              exact small1000 (by omega)
            · rw [List.length_append]
              show ks.length + 1 ≤ j' + 1
              omega
            · intro k hk
              rcases List.mem_append.mp hk with e1 | e1
              · exact hks k e1
              · rw [List.mem_singleton.mp e1]
                rw [epr] at y2 ⊢
                exact ⟨b, b0, b1, rfl, y2⟩
            · rw [upd_same, List.map_append]
              rfl
          · exact ⟨sD, ks, by omega, hks, eD2⟩
        obtain ⟨sD2, ks, lks2, hks, eD2⟩ := hP
        rw [List.length_map] at lks2
        refine ⟨l2, D2, _, _, rfl, rfl, sD2 _ _ e10, eD2, ?_, fun l3 nl3 => ?_⟩
        · rw [List.length_map]
          exact Nat.le_of_lt (small1000 (show 1 + ks.length ≤ 1000 by omega))
        have s8g : Same He Hg := s10.trans sD2
        have hsg := hse.same s8g
        refine .inl ⟨p, l3, _, _, rfl, hsg.new nl3, (show 78 + 3 * j + 1 + 1 < 100000 by omega), hsg.ne nl3, SqL.of upd_same, ?_, ?_, fun v3 Hh hv3 hsh fh => ?_⟩
        · rw [List.length_append]
          show 0 < 1 + _
          omega
        · rw [List.length_append, List.length_map]
          show 1 + ks.length ≤ 1000
          omega
        have ho : ∃ o, v3 = onV o ∧ (o = none ∨ ∃ b, 1 ≤ b ∧ b ≤ far ∧ o = some (nb c z b) ∧ zf b = "open") := by
          rcases List.mem_append.mp hv3 with e1 | e1
          · rw [List.mem_singleton.mp e1]
            exact ⟨none, rfl, .inl rfl⟩
          · obtain ⟨k, hk, rfl⟩ := List.mem_map.mp e1
            obtain ⟨b, b0, b1, rfl, hz⟩ := hks k hk
            exact ⟨some (nb c z b), rfl, .inr ⟨b, b0, b1, rfl, hz⟩⟩
        obtain ⟨o, rfl, ho⟩ := ho
        have feh : Fr p He Hh := (Fr.same s8g).trans ((Fr.new nl3).trans fh)
        have f8h : Fr p H8 Hh := f8e.trans feh
        have evh : VB K Hh vv (0 + (j : Int)) m e := hse.sqT feh (SqT.of ev)
        have hFh := Ft.fr hse feh hFe
        have eLh := f8h _ _ nLp eL8
        have lksh := lks8.fr hs8 f8h
        -- the edges
        try dsimp only [gName]
        refine st_seq ?_
        refine ⟨_, rfl, _, rfl, (show 2 ≤ sizeLine by decide), fun te nte => ?_⟩
        have ete : (upd Hh te (.tup [.int (nb c z fi), .int (nb c z se)])) te = some (.tup [.int (nb c z fi), .int (nb c z se)]) := upd_same
        have ste : Same Hh (upd Hh te (.tup [.int (nb c z fi), .int (nb c z se)])) := same_new nte
        generalize upd Hh te (.tup [.int (nb c z fi), .int (nb c z se)]) = Hi at ete ste
        refine ⟨te, rfl, ⟨_, SqT.of ete⟩, ?_⟩
        refine for_tup (xs := [.int (nb c z fi), .int (nb c z se)]) (fun i3 σ H' => (∃ y1 ye yh yi yj, σ = [some (.ref a), y1, some (.ref p), some (.int z), some (.ref wa), some (.int c), some (.int far), some (.int fi), some (.int se), some (.int (nb c z fi)), some (.int (nb c z se)), some (.ref L), some (.ref F), some (.int (0 + (j : Int))), ye, some (.ref vv), some (onV o), yh, yi, yj]) ∧ Same Hi H') ⟨⟨_, _, _, _, _, rfl⟩, fun _ _ x => x⟩ (fun i3 σ H' _ hP => ?_) (fun i3 uv σ H' huv hP => ?_) (fun σ H' hP => ?_)
        · exact SqT.of (hP.2 _ _ ete)
        · obtain ⟨⟨y1, ye, yh, yi, yj, rfl⟩, si⟩ := hP
          have hu : ∃ u : Int, uv = .int (nb c z u) ∧ se ≤ u ∧ u ≤ far := by
            match i3, huv with
            | 0, huv => exact ⟨fi, (Option.some.inj huv).symm, w6, w4⟩
            | 1, huv => exact ⟨se, (Option.some.inj huv).symm, Int.le_refl _, by omega⟩
            | n + 2, huv => simp at huv
          obtain ⟨u, rfl, u0, u1⟩ := hu
          have shi : Same Hh H' := ste.trans si
          try dsimp only
          refine st_seq ?_
          refine ⟨_, rfl, _, rfl, _, rfl, _, rfl, _, rfl, _, rfl, vv, L, F, as, 0 + (j : Int), z, c, far, fi, se, u, m, e, o, fs, zf, rfl, sqT_same shi evh, shi _ _ eLh, lksh.same shi, hFh.same shi, wd, fw, u0, u1, hm, he, ho, z0, z1, fun Hj sj => ?_⟩
          refine ⟨_, rfl, iteF ?_⟩
          refine st_next ?_
          try dsimp only
          refine ⟨_, rfl, _, rfl, _, rfl, _, rfl, _, rfl, vv, F, 0 + (j : Int), z, c, far, fi, se, u, m, e, fs, zf, rfl, sqT_same (shi.trans sj) evh, hFh.same (shi.trans sj), wd, fw, u0, u1, hm, he, z0, z1, fun Hk sk => ?_⟩
          refine ⟨_, rfl, iteF ?_⟩
          exact ⟨⟨_, _, _, _, _, rfl⟩, si.trans (sj.trans sk)⟩
        · obtain ⟨⟨y1, ye, yh, yi, yj, rfl⟩, si⟩ := hP
          have shi : Same Hh H' := ste.trans si
          refine ⟨_, rfl, _, rfl, _, rfl, _, rfl, _, rfl, vv, F, 0 + (j : Int), z, c, far, fi, se, m, e, fs, zf, rfl, sqT_same shi evh, hFh.same shi, wd, fw, hm, he, z0, z1, fun Hj sj => ?_⟩
          refine ⟨_, rfl, iteF ?_⟩
          exact ⟨⟨_, _, _, _, _, _, _, _, rfl⟩, ((hsh.same (shi.trans sj))).mono (by omega), f8.trans (f8h.trans (Fr.same (shi.trans sj)))⟩
      · obtain ⟨⟨y1, yd, ye, yf, yg, yh, yi, yj, rfl⟩, hs8, f8⟩ := hP
        exact ⟨⟨_, _, _, _, _, _, _, _, _, _, _, _, _, _, _, _, _, _, _, rfl⟩, seq_new hS1 np (g7.trans f8)⟩
    · exact q _
end
/-! ### the head -/
theorem def0_mk {K : PySem.W.Frag} {h : Heap} {mg : Str → Option Value} {x : Str} {st : Stmt} {ps : List Str} (X : K.In h) (G : h.Ns mainGlobals mg) (g : (He.Fa.glo x).ok K = true)
    (F : ∃ fd, FunD K x x (defArgs st) (defBody st) (defScope st) [] [] (He.ga K x) fd)
    (hb : ∀ (kV doc pm : Value) (an : Option Addr) (cdv ct : Value) (us : List Value), us.length = ps.length → bindArgs (PySem.W.fnOf x x (defArgs st) (defBody st) (defScope st) .none kV doc pm an cdv ct) ⟨us, []⟩ = pure (ps.zip us)) : Def0 K mg x st ps := by
  obtain ⟨fd, F⟩ := F
  exact ⟨_, fd, F, He.glo_ok X G g, F.bindsN hb⟩
theorem defK_mk {K : PySem.W.Frag} {h : Heap} {mg : Str → Option Value} {x : Str} {st : Stmt} {ps : List Str} {n : Nat} {y : Str} {v : V} (X : K.In h) (G : h.Ns mainGlobals mg) (g : (He.Fa.glo x).ok K = true)
    (F : ∃ fd, FunD K x x (defArgs st) (defBody st) (defScope st) [] [(y, v)] (He.ga K x) fd) (hn : n + 1 = ps.length)
    (hb : ∀ (D : Addr) (doc pm : Value) (an : Option Addr) (cdv ct : Value) (us ks : List Value), us.length = n → ks.length = 1 →
      KwChain D (([y] : List Str).zip ks) (bindArgs (PySem.W.fnOf x x (defArgs st) (defBody st) (defScope st) .none (.ref D) doc pm an cdv ct) ⟨us, []⟩) (ps.zip (us ++ ks)))
    (hk : ∀ (kV doc pm : Value) (an : Option Addr) (cdv ct : Value) (us ws : List Value), us.length = n → ws.length = 1 →
      bindArgs (PySem.W.fnOf x x (defArgs st) (defBody st) (defScope st) .none kV doc pm an cdv ct) ⟨us, ([y] : List Str).zip ws⟩ = pure (ps.zip (us ++ ws))) : DefK K mg x st ps n [(y, v)] := by
  obtain ⟨fd, F⟩ := F
  refine ⟨_, fd, F, He.glo_ok X G g, F.binds0 n (by simp) hn hb, fun us ws => us ++ ws, ⟨fun s us ws _ l1 l2 => ?_, fun r1 r2 => r1.append r2⟩⟩
  obtain ⟨oc, od, dV, kV, doc, pm, an, cdv, ct, osl, rfl, lk, hcd, hD, hK⟩ := F.ex
  rcases hD with ⟨_, rfl⟩ | ⟨e, _⟩
  · exact .of_eq (hk kV doc pm an cdv ct us ws l1 l2)
  · exact absurd rfl e
theorem int_g {K : PySem.W.Frag} {h : Heap} {mg : Str → Option Value} {x : Str} {i : Int} (X : K.In h) (G : h.Ns mainGlobals mg) (g : (He.Fa.int x i).ok K = true) : ∃ u, mg x = some u ∧ RelV (.int i) u := by
  obtain ⟨t, e⟩ := He.int_ok X G g
  exact ⟨_, e, t, rfl⟩
def d_is_whole : He.DefD := ⟨("is_whole", none), "is_whole", "is_whole", defArgs s_is_whole, defBody s_is_whole, defScope s_is_whole, [], []⟩
def d_is_number : He.DefD := ⟨("is_number", none), "is_number", "is_number", defArgs s_is_number, defBody s_is_number, defScope s_is_number, [], []⟩
def d_steps : He.DefD := ⟨("steps", none), "steps", "steps", defArgs s_steps, defBody s_steps, defScope s_steps, [], [("ring", .int 64)]⟩
def d_before : He.DefD := ⟨("before", none), "before", "before", defArgs s_before, defBody s_before, defScope s_before, [], [("ring", .int 64)]⟩
def d_is_look : He.DefD := ⟨("is_look", none), "is_look", "is_look", defArgs s_is_look, defBody s_is_look, defScope s_is_look, [], [("ring", .int 64)]⟩
def d_in_order : He.DefD := ⟨("in_order", none), "in_order", "in_order", defArgs s_in_order, defBody s_in_order, defScope s_in_order, [], []⟩
def d_low : He.DefD := ⟨("low", none), "low", "low", defArgs s_low, defBody s_low, defScope s_low, [], []⟩
def d_sees : He.DefD := ⟨("sees", none), "sees", "sees", defArgs s_sees, defBody s_sees, defScope s_sees, [], [("ring", .int 64)]⟩
def d_state : He.DefD := ⟨("state", none), "state", "state", defArgs s_state, defBody s_state, defScope s_state, [], [("own", .non), ("ring", .int 64)]⟩
def d_frozen : He.DefD := ⟨("frozen", none), "frozen", "frozen", defArgs s_frozen, defBody s_frozen, defScope s_frozen, [], [("ring", .int 64)]⟩
def d_state_among : He.DefD := ⟨("state_among", none), "state_among", "state_among", defArgs s_state_among, defBody s_state_among, defScope s_state_among, [], []⟩
def d_frozen_among : He.DefD := ⟨("frozen_among", none), "frozen_among", "frozen_among", defArgs s_frozen_among, defBody s_frozen_among, defScope s_frozen_among, [], []⟩
def d_l_hand : He.DefD := ⟨("_law_hand", none), "_law_hand", "_law_hand", defArgs s_l_hand, defBody s_l_hand, defScope s_l_hand, [], []⟩
def d_l_take : He.DefD := ⟨("_law_take", none), "_law_take", "_law_take", defArgs s_l_take, defBody s_l_take, defScope s_l_take, [], []⟩
def d_l_of : He.DefD := ⟨("_law_of", none), "_law_of", "_law_of", defArgs s_l_of, defBody s_l_of, defScope s_l_of, [], []⟩
def d_l_size : He.DefD := ⟨("_law_size", none), "_law_size", "_law_size", defArgs s_l_size, defBody s_l_size, defScope s_l_size, [], []⟩
def d_l_world : He.DefD := ⟨("_law_world", none), "_law_world", "_law_world", defArgs s_l_world, defBody s_l_world, defScope s_l_world, [], []⟩
def d_l_looks : He.DefD := ⟨("_law_looks", none), "_law_looks", "_law_looks", defArgs s_l_looks, defBody s_l_looks, defScope s_l_looks, [], []⟩
def d_l_fates : He.DefD := ⟨("_law_fates", none), "_law_fates", "_law_fates", defArgs s_l_fates, defBody s_l_fates, defScope s_l_fates, [], []⟩
def d_l_kept : He.DefD := ⟨("_law_kept", none), "_law_kept", "_law_kept", defArgs s_l_kept, defBody s_l_kept, defScope s_l_kept, [], []⟩
def d_l_again : He.DefD := ⟨("_law_again", none), "_law_again", "_law_again", defArgs s_l_again, defBody s_l_again, defScope s_l_again, [], []⟩
def d_l_clean : He.DefD := ⟨("_law_clean", none), "_law_clean", "_law_clean", defArgs s_l_clean, defBody s_l_clean, defScope s_l_clean, [], []⟩
def d_law : He.DefD := ⟨("law", none), "law", "law", defArgs s_law, defBody s_law, defScope s_law, [], []⟩
def fn : List He.DefD := [d_is_whole, d_is_number, d_steps, d_before, d_is_look, d_in_order, d_low, d_sees, d_state, d_frozen, d_state_among, d_frozen_among, d_l_hand, d_l_take, d_l_of, d_l_size, d_l_world, d_l_looks, d_l_fates, d_l_kept, d_l_again, d_l_clean, d_law]
--@ level 7
def fa : List He.Fa := [.glo "is_whole", .glo "is_number", .glo "steps", .glo "before", .glo "is_look", .glo "in_order", .glo "low", .glo "sees", .glo "state", .glo "frozen", .glo "state_among", .glo "frozen_among", .glo "_law_hand", .glo "_law_take", .glo "_law_of", .glo "_law_size", .glo "_law_world", .glo "_law_looks", .glo "_law_fates", .glo "_law_kept", .glo "_law_again", .glo "_law_clean", .glo "law", .int "RING" 64] ++ freeNames.map .free
abbrev R : PySem.W.OpenRow := PySem.W.OpenLaw.row PySem.Challenge.rw_roundstore_k12_freezing_keeps_looks
abbrev hk : PySem.W.Hook := He.hookD 4 fa fn
def ob (s : PySem.W.SharedT) : He.AlD := He.obsDG 4 fa fn (HandSHeadRun.getT s)
theorem ob_eq (s : PySem.W.SharedT) : ob s = hk.obs s.abs := He.obsDG_eq (HandSHeadRun.getT_eq s)
theorem run (w : World) : HandSHeadRun.RunEq R (PySem.W.view R.prog [28]) hk ob 2000 ["is_whole", "is_number", "RING", "steps", "before", "is_look", "in_order", "low", "sees", "state", "frozen", "state_among", "frozen_among", "_law_hand", "_law_take", "_law_of", "_law_size", "_law_world", "_law_looks", "_law_fates", "_law_kept", "_law_again", "_law_clean"] w := by
  intro os
  kernel_rfl
theorem facts {P : Program} {w : World} {K : PySem.W.Frag} {h : Heap} {mg : Str → Option Value} {f : Addr} (X : K.In h) (G : h.Ns mainGlobals mg) (hfa : mg ("law" : Str) = some (.ref f)) (c : He.SaysD fa fn K) :
    ∃ fd : FuncData, (∀ (s : Shared) (v : Value), BindsTo s fd ⟨[v], []⟩ [("_law_script", v)]) ∧ ∀ base : Heap, K.In base → base.Ns mainGlobals mg → FnAt callerA P w K mg base CX0 7 f fd ["_law_script"] (spLaw K) := by
  have T : Tx K mg := tx_mk fun x hx => He.free_ok X G (by
    obtain ⟨i, hi, e⟩ := List.mem_iff_getElem.mp hx
    exact c.fact (24 + i) (f := .free x) (by
      show ([.glo "is_whole", .glo "is_number", .glo "steps", .glo "before", .glo "is_look", .glo "in_order", .glo "low", .glo "sees", .glo "state", .glo "frozen", .glo "state_among", .glo "frozen_among", .glo "_law_hand", .glo "_law_take", .glo "_law_of", .glo "_law_size", .glo "_law_world", .glo "_law_looks", .glo "_law_fates", .glo "_law_kept", .glo "_law_again", .glo "_law_clean", .glo "law", .int "RING" 64] ++ freeNames.map He.Fa.free)[24 + i]? = _
      rw [List.getElem?_append_right (by show 24 ≤ _; omega)]
      show (freeNames.map He.Fa.free)[24 + i - 24]? = _
      rw [Nat.add_sub_cancel_left, List.getElem?_map, List.getElem?_eq_getElem hi, e]
      rfl))
  have g_RING := int_g X G (c.fact 23 (f := .int "RING" 64) rfl)
  have D_is_whole : Def0 K mg "is_whole" s_is_whole ["thing"] := def0_mk X G (c.fact 0 (f := .glo "is_whole") rfl) (c.def_ 0 (d := d_is_whole) rfl) fun _ _ _ _ _ _ us hl => match us, hl with | [_], _ => rfl
  have D_is_number : Def0 K mg "is_number" s_is_number ["thing", "ring"] := def0_mk X G (c.fact 1 (f := .glo "is_number") rfl) (c.def_ 1 (d := d_is_number) rfl) fun _ _ _ _ _ _ us hl => match us, hl with | [_, _], _ => rfl
  have D_steps : DefK K mg "steps" s_steps ["one", "other", "ring"] 2 [("ring", .int 64)] := defK_mk X G (c.fact 2 (f := .glo "steps") rfl) (c.def_ 2 (d := d_steps) rfl) rfl
    (fun _ _ _ _ _ _ us ks l1 l2 => match us, ks, l1, l2 with | [_, _], [_], _, _ => ⟨_, _, _, _, _, _, rfl, rfl, rfl⟩) (fun _ _ _ _ _ _ us ws l1 l2 => match us, ws, l1, l2 with | [_, _], [_], _, _ => rfl)
  have D_before : DefK K mg "before" s_before ["one", "other", "ring"] 2 [("ring", .int 64)] := defK_mk X G (c.fact 3 (f := .glo "before") rfl) (c.def_ 3 (d := d_before) rfl) rfl
    (fun _ _ _ _ _ _ us ks l1 l2 => match us, ks, l1, l2 with | [_, _], [_], _, _ => ⟨_, _, _, _, _, _, rfl, rfl, rfl⟩) (fun _ _ _ _ _ _ us ws l1 l2 => match us, ws, l1, l2 with | [_, _], [_], _, _ => rfl)
  have D_in_order : Def0 K mg "in_order" s_in_order ["numbers", "ring"] := def0_mk X G (c.fact 5 (f := .glo "in_order") rfl) (c.def_ 5 (d := d_in_order) rfl) fun _ _ _ _ _ _ us hl => match us, hl with | [_, _], _ => rfl
  have D_is_look : DefK K mg "is_look" s_is_look ["thing", "ring"] 1 [("ring", .int 64)] := defK_mk X G (c.fact 4 (f := .glo "is_look") rfl) (c.def_ 4 (d := d_is_look) rfl) rfl
    (fun _ _ _ _ _ _ us ks l1 l2 => match us, ks, l1, l2 with | [_], [_], _, _ => ⟨_, _, _, _, _, _, rfl, rfl, rfl⟩) (fun _ _ _ _ _ _ us ws l1 l2 => match us, ws, l1, l2 with | [_], [_], _, _ => rfl)
  have D_low : Def0 K mg "low" s_low ["look"] := def0_mk X G (c.fact 6 (f := .glo "low") rfl) (c.def_ 6 (d := d_low) rfl) fun _ _ _ _ _ _ us hl => match us, hl with | [_], _ => rfl
  have D_sees : DefK K mg "sees" s_sees ["look", "number", "fate", "ring"] 3 [("ring", .int 64)] := defK_mk X G (c.fact 7 (f := .glo "sees") rfl) (c.def_ 7 (d := d_sees) rfl) rfl
    (fun _ _ _ _ _ _ us ks l1 l2 => match us, ks, l1, l2 with | [_, _, _], [_], _, _ => ⟨_, _, _, _, _, _, rfl, rfl, rfl⟩) (fun _ _ _ _ _ _ us ws l1 l2 => match us, ws, l1, l2 with | [_, _, _], [_], _, _ => rfl)
  have D_state_among : Def0 K mg "state_among" s_state_among ["version", "look", "fates", "own", "ring"] := def0_mk X G (c.fact 10 (f := .glo "state_among") rfl) (c.def_ 10 (d := d_state_among) rfl) fun _ _ _ _ _ _ us hl => match us, hl with | [_, _, _, _, _], _ => rfl
  have D_frozen_among : Def0 K mg "frozen_among" s_frozen_among ["version", "upto", "fates", "ring"] := def0_mk X G (c.fact 11 (f := .glo "frozen_among") rfl) (c.def_ 11 (d := d_frozen_among) rfl) fun _ _ _ _ _ _ us hl => match us, hl with | [_, _, _, _], _ => rfl
  have D_frozen : DefK K mg "frozen" s_frozen ["version", "upto", "fates", "ring"] 3 [("ring", .int 64)] := defK_mk X G (c.fact 9 (f := .glo "frozen") rfl) (c.def_ 9 (d := d_frozen) rfl) rfl
    (fun _ _ _ _ _ _ us ks l1 l2 => match us, ks, l1, l2 with | [_, _, _], [_], _, _ => ⟨_, _, _, _, _, _, rfl, rfl, rfl⟩) (fun _ _ _ _ _ _ us ws l1 l2 => match us, ws, l1, l2 with | [_, _, _], [_], _, _ => rfl)
  have D_l_hand : Def0 K mg "_law_hand" s_l_hand ["_law_script", "_law_k"] := def0_mk X G (c.fact 12 (f := .glo "_law_hand") rfl) (c.def_ 12 (d := d_l_hand) rfl) fun _ _ _ _ _ _ us hl => match us, hl with | [_, _], _ => rfl
  have D_l_take : Def0 K mg "_law_take" s_l_take ["_law_hand_here", "_law_many"] := def0_mk X G (c.fact 13 (f := .glo "_law_take") rfl) (c.def_ 13 (d := d_l_take) rfl) fun _ _ _ _ _ _ us hl => match us, hl with | [_, _], _ => rfl
  have D_l_of : Def0 K mg "_law_of" s_l_of ["_law_hand_here", "_law_some"] := def0_mk X G (c.fact 14 (f := .glo "_law_of") rfl) (c.def_ 14 (d := d_l_of) rfl) fun _ _ _ _ _ _ us hl => match us, hl with | [_, _], _ => rfl
  have D_l_size : Def0 K mg "_law_size" s_l_size ["_law_hand_here"] := def0_mk X G (c.fact 15 (f := .glo "_law_size") rfl) (c.def_ 15 (d := d_l_size) rfl) fun _ _ _ _ _ _ us hl => match us, hl with | [_], _ => rfl
  have D_l_world : Def0 K mg "_law_world" s_l_world ["_law_hand_here", "_law_size_here"] := def0_mk X G (c.fact 16 (f := .glo "_law_world") rfl) (c.def_ 16 (d := d_l_world) rfl) fun _ _ _ _ _ _ us hl => match us, hl with | [_, _], _ => rfl
  have D_l_looks : Def0 K mg "_law_looks" s_l_looks ["_law_hand_here", "_law_world_here", "_law_size_here"] := def0_mk X G (c.fact 17 (f := .glo "_law_looks") rfl) (c.def_ 17 (d := d_l_looks) rfl) fun _ _ _ _ _ _ us hl => match us, hl with | [_, _, _], _ => rfl
  have D_l_fates : Def0 K mg "_law_fates" s_l_fates ["_law_hand_here", "_law_world_here", "_law_size_here"] := def0_mk X G (c.fact 18 (f := .glo "_law_fates") rfl) (c.def_ 18 (d := d_l_fates) rfl) fun _ _ _ _ _ _ us hl => match us, hl with | [_, _, _], _ => rfl
  have D_l_kept : Def0 K mg "_law_kept" s_l_kept ["_law_version", "_law_looks_here", "_law_fates_here", "_law_edge", "_law_mine", "_law_size_here"] := def0_mk X G (c.fact 19 (f := .glo "_law_kept") rfl) (c.def_ 19 (d := d_l_kept) rfl) fun _ _ _ _ _ _ us hl => match us, hl with | [_, _, _, _, _, _], _ => rfl
  have D_l_again : Def0 K mg "_law_again" s_l_again ["_law_version", "_law_fates_here", "_law_early", "_law_late", "_law_size_here"] := def0_mk X G (c.fact 20 (f := .glo "_law_again") rfl) (c.def_ 20 (d := d_l_again) rfl) fun _ _ _ _ _ _ us hl => match us, hl with | [_, _, _, _, _], _ => rfl
  have D_l_clean : Def0 K mg "_law_clean" s_l_clean ["_law_version", "_law_fates_here", "_law_edge", "_law_coming", "_law_size_here"] := def0_mk X G (c.fact 21 (f := .glo "_law_clean") rfl) (c.def_ 21 (d := d_l_clean) rfl) fun _ _ _ _ _ _ us hl => match us, hl with | [_, _, _, _, _], _ => rfl
  obtain ⟨fd, F⟩ := c.def_ 22 (d := d_law) rfl
  have e := hfa.symm.trans (He.glo_ok X G (c.fact 22 (f := .glo "law") rfl))
  cases e
  have b := FunD.bindsA (ps := ["_law_script"]) F fun _ _ _ _ _ _ us hl => match us, hl with | [_], _ => rfl
  refine ⟨fd, fun s v => b s [v] rfl, fun base _ _ => ?_⟩
  have C_is_whole := D_is_whole.cal (P := P) (w := w) (base := base) (sp := spWhole K) sc_is_whole (fun vs H Q E h => by first | (rcases h with ⟨_, _, _, _, rfl, _⟩ | ⟨_, _, _, _, rfl, _⟩ <;> rfl) | (obtain ⟨rfl, _⟩ := h; rfl) | (obtain ⟨_, rfl, _⟩ := h; rfl) | (obtain ⟨_, _, rfl, _⟩ := h; rfl) | (obtain ⟨_, _, _, rfl, _⟩ := h; rfl) | (obtain ⟨_, _, _, _, rfl, _⟩ := h; rfl) | (obtain ⟨_, _, _, _, _, rfl, _⟩ := h; rfl) | (obtain ⟨_, _, _, _, _, _, rfl, _⟩ := h; rfl) | (obtain ⟨_, _, _, _, _, _, _, rfl, _⟩ := h; rfl) | (obtain ⟨_, _, _, _, _, _, _, _, rfl, _⟩ := h; rfl) | (obtain ⟨_, _, _, _, _, _, _, _, _, rfl, _⟩ := h; rfl) | (obtain ⟨_, _, _, _, _, _, _, _, _, _, rfl, _⟩ := h; rfl) | (obtain ⟨_, _, _, _, _, _, _, _, _, _, _, rfl, _⟩ := h; rfl) | (obtain ⟨_, _, _, _, _, _, _, _, _, _, _, _, rfl, _⟩ := h; rfl) | (obtain ⟨_, _, _, _, _, _, _, _, _, _, _, _, _, rfl, _⟩ := h; rfl) | (obtain ⟨_, _, _, _, _, _, _, _, _, _, _, _, _, _, rfl, _⟩ := h; rfl) | (obtain ⟨_, _, _, _, _, _, _, _, _, _, _, _, _, _, _, rfl, _⟩ := h; rfl) | (obtain ⟨_, _, _, _, _, _, _, _, _, _, _, _, _, _, _, _, rfl, _⟩ := h; rfl) | (obtain ⟨_, _, _, _, _, _, _, _, _, _, _, _, _, _, _, _, _, rfl, _⟩ := h; rfl)) (ok_whole T)
  have C_is_number := D_is_number.cal (P := P) (w := w) (base := base) (sp := spNumber K) sc_is_number (fun vs H Q E h => by first | (rcases h with ⟨_, _, _, _, rfl, _⟩ | ⟨_, _, _, _, rfl, _⟩ <;> rfl) | (obtain ⟨rfl, _⟩ := h; rfl) | (obtain ⟨_, rfl, _⟩ := h; rfl) | (obtain ⟨_, _, rfl, _⟩ := h; rfl) | (obtain ⟨_, _, _, rfl, _⟩ := h; rfl) | (obtain ⟨_, _, _, _, rfl, _⟩ := h; rfl) | (obtain ⟨_, _, _, _, _, rfl, _⟩ := h; rfl) | (obtain ⟨_, _, _, _, _, _, rfl, _⟩ := h; rfl) | (obtain ⟨_, _, _, _, _, _, _, rfl, _⟩ := h; rfl) | (obtain ⟨_, _, _, _, _, _, _, _, rfl, _⟩ := h; rfl) | (obtain ⟨_, _, _, _, _, _, _, _, _, rfl, _⟩ := h; rfl) | (obtain ⟨_, _, _, _, _, _, _, _, _, _, rfl, _⟩ := h; rfl) | (obtain ⟨_, _, _, _, _, _, _, _, _, _, _, rfl, _⟩ := h; rfl) | (obtain ⟨_, _, _, _, _, _, _, _, _, _, _, _, rfl, _⟩ := h; rfl) | (obtain ⟨_, _, _, _, _, _, _, _, _, _, _, _, _, rfl, _⟩ := h; rfl) | (obtain ⟨_, _, _, _, _, _, _, _, _, _, _, _, _, _, rfl, _⟩ := h; rfl) | (obtain ⟨_, _, _, _, _, _, _, _, _, _, _, _, _, _, _, rfl, _⟩ := h; rfl) | (obtain ⟨_, _, _, _, _, _, _, _, _, _, _, _, _, _, _, _, rfl, _⟩ := h; rfl) | (obtain ⟨_, _, _, _, _, _, _, _, _, _, _, _, _, _, _, _, _, rfl, _⟩ := h; rfl)) (ok_number T C_is_whole)
  obtain ⟨K_steps, C_steps⟩ := D_steps.ok (P := P) (w := w) (base := base) (sp := spSteps) sc_steps (fun vs H Q E h => by first | (rcases h with ⟨_, _, _, _, rfl, _⟩ | ⟨_, _, _, _, rfl, _⟩ <;> rfl) | (obtain ⟨rfl, _⟩ := h; rfl) | (obtain ⟨_, rfl, _⟩ := h; rfl) | (obtain ⟨_, _, rfl, _⟩ := h; rfl) | (obtain ⟨_, _, _, rfl, _⟩ := h; rfl) | (obtain ⟨_, _, _, _, rfl, _⟩ := h; rfl) | (obtain ⟨_, _, _, _, _, rfl, _⟩ := h; rfl) | (obtain ⟨_, _, _, _, _, _, rfl, _⟩ := h; rfl) | (obtain ⟨_, _, _, _, _, _, _, rfl, _⟩ := h; rfl) | (obtain ⟨_, _, _, _, _, _, _, _, rfl, _⟩ := h; rfl) | (obtain ⟨_, _, _, _, _, _, _, _, _, rfl, _⟩ := h; rfl) | (obtain ⟨_, _, _, _, _, _, _, _, _, _, rfl, _⟩ := h; rfl) | (obtain ⟨_, _, _, _, _, _, _, _, _, _, _, rfl, _⟩ := h; rfl) | (obtain ⟨_, _, _, _, _, _, _, _, _, _, _, _, rfl, _⟩ := h; rfl) | (obtain ⟨_, _, _, _, _, _, _, _, _, _, _, _, _, rfl, _⟩ := h; rfl) | (obtain ⟨_, _, _, _, _, _, _, _, _, _, _, _, _, _, rfl, _⟩ := h; rfl) | (obtain ⟨_, _, _, _, _, _, _, _, _, _, _, _, _, _, _, rfl, _⟩ := h; rfl) | (obtain ⟨_, _, _, _, _, _, _, _, _, _, _, _, _, _, _, _, rfl, _⟩ := h; rfl) | (obtain ⟨_, _, _, _, _, _, _, _, _, _, _, _, _, _, _, _, _, rfl, _⟩ := h; rfl)) (ok_steps)
  obtain ⟨K_before, C_before⟩ := D_before.ok (P := P) (w := w) (base := base) (sp := spBefore) sc_before (fun vs H Q E h => by first | (rcases h with ⟨_, _, _, _, rfl, _⟩ | ⟨_, _, _, _, rfl, _⟩ <;> rfl) | (obtain ⟨rfl, _⟩ := h; rfl) | (obtain ⟨_, rfl, _⟩ := h; rfl) | (obtain ⟨_, _, rfl, _⟩ := h; rfl) | (obtain ⟨_, _, _, rfl, _⟩ := h; rfl) | (obtain ⟨_, _, _, _, rfl, _⟩ := h; rfl) | (obtain ⟨_, _, _, _, _, rfl, _⟩ := h; rfl) | (obtain ⟨_, _, _, _, _, _, rfl, _⟩ := h; rfl) | (obtain ⟨_, _, _, _, _, _, _, rfl, _⟩ := h; rfl) | (obtain ⟨_, _, _, _, _, _, _, _, rfl, _⟩ := h; rfl) | (obtain ⟨_, _, _, _, _, _, _, _, _, rfl, _⟩ := h; rfl) | (obtain ⟨_, _, _, _, _, _, _, _, _, _, rfl, _⟩ := h; rfl) | (obtain ⟨_, _, _, _, _, _, _, _, _, _, _, rfl, _⟩ := h; rfl) | (obtain ⟨_, _, _, _, _, _, _, _, _, _, _, _, rfl, _⟩ := h; rfl) | (obtain ⟨_, _, _, _, _, _, _, _, _, _, _, _, _, rfl, _⟩ := h; rfl) | (obtain ⟨_, _, _, _, _, _, _, _, _, _, _, _, _, _, rfl, _⟩ := h; rfl) | (obtain ⟨_, _, _, _, _, _, _, _, _, _, _, _, _, _, _, rfl, _⟩ := h; rfl) | (obtain ⟨_, _, _, _, _, _, _, _, _, _, _, _, _, _, _, _, rfl, _⟩ := h; rfl) | (obtain ⟨_, _, _, _, _, _, _, _, _, _, _, _, _, _, _, _, _, rfl, _⟩ := h; rfl)) (ok_before K_steps)
  have C_in_order := D_in_order.cal (P := P) (w := w) (base := base) (sp := spOrder K) sc_in_order (fun vs H Q E h => by first | (rcases h with ⟨_, _, _, _, rfl, _⟩ | ⟨_, _, _, _, rfl, _⟩ <;> rfl) | (obtain ⟨rfl, _⟩ := h; rfl) | (obtain ⟨_, rfl, _⟩ := h; rfl) | (obtain ⟨_, _, rfl, _⟩ := h; rfl) | (obtain ⟨_, _, _, rfl, _⟩ := h; rfl) | (obtain ⟨_, _, _, _, rfl, _⟩ := h; rfl) | (obtain ⟨_, _, _, _, _, rfl, _⟩ := h; rfl) | (obtain ⟨_, _, _, _, _, _, rfl, _⟩ := h; rfl) | (obtain ⟨_, _, _, _, _, _, _, rfl, _⟩ := h; rfl) | (obtain ⟨_, _, _, _, _, _, _, _, rfl, _⟩ := h; rfl) | (obtain ⟨_, _, _, _, _, _, _, _, _, rfl, _⟩ := h; rfl) | (obtain ⟨_, _, _, _, _, _, _, _, _, _, rfl, _⟩ := h; rfl) | (obtain ⟨_, _, _, _, _, _, _, _, _, _, _, rfl, _⟩ := h; rfl) | (obtain ⟨_, _, _, _, _, _, _, _, _, _, _, _, rfl, _⟩ := h; rfl) | (obtain ⟨_, _, _, _, _, _, _, _, _, _, _, _, _, rfl, _⟩ := h; rfl) | (obtain ⟨_, _, _, _, _, _, _, _, _, _, _, _, _, _, rfl, _⟩ := h; rfl) | (obtain ⟨_, _, _, _, _, _, _, _, _, _, _, _, _, _, _, rfl, _⟩ := h; rfl) | (obtain ⟨_, _, _, _, _, _, _, _, _, _, _, _, _, _, _, _, rfl, _⟩ := h; rfl) | (obtain ⟨_, _, _, _, _, _, _, _, _, _, _, _, _, _, _, _, _, rfl, _⟩ := h; rfl)) (ok_order T K_before)
  obtain ⟨K_is_look, C_is_look⟩ := D_is_look.ok (P := P) (w := w) (base := base) (sp := spIsLook K) sc_is_look (fun vs H Q E h => by first | (rcases h with ⟨_, _, _, _, rfl, _⟩ | ⟨_, _, _, _, rfl, _⟩ <;> rfl) | (obtain ⟨rfl, _⟩ := h; rfl) | (obtain ⟨_, rfl, _⟩ := h; rfl) | (obtain ⟨_, _, rfl, _⟩ := h; rfl) | (obtain ⟨_, _, _, rfl, _⟩ := h; rfl) | (obtain ⟨_, _, _, _, rfl, _⟩ := h; rfl) | (obtain ⟨_, _, _, _, _, rfl, _⟩ := h; rfl) | (obtain ⟨_, _, _, _, _, _, rfl, _⟩ := h; rfl) | (obtain ⟨_, _, _, _, _, _, _, rfl, _⟩ := h; rfl) | (obtain ⟨_, _, _, _, _, _, _, _, rfl, _⟩ := h; rfl) | (obtain ⟨_, _, _, _, _, _, _, _, _, rfl, _⟩ := h; rfl) | (obtain ⟨_, _, _, _, _, _, _, _, _, _, rfl, _⟩ := h; rfl) | (obtain ⟨_, _, _, _, _, _, _, _, _, _, _, rfl, _⟩ := h; rfl) | (obtain ⟨_, _, _, _, _, _, _, _, _, _, _, _, rfl, _⟩ := h; rfl) | (obtain ⟨_, _, _, _, _, _, _, _, _, _, _, _, _, rfl, _⟩ := h; rfl) | (obtain ⟨_, _, _, _, _, _, _, _, _, _, _, _, _, _, rfl, _⟩ := h; rfl) | (obtain ⟨_, _, _, _, _, _, _, _, _, _, _, _, _, _, _, rfl, _⟩ := h; rfl) | (obtain ⟨_, _, _, _, _, _, _, _, _, _, _, _, _, _, _, _, rfl, _⟩ := h; rfl) | (obtain ⟨_, _, _, _, _, _, _, _, _, _, _, _, _, _, _, _, _, rfl, _⟩ := h; rfl)) (ok_isLook T C_is_number C_in_order)
  have C_low := D_low.cal (P := P) (w := w) (base := base) (sp := spLow K) sc_low (fun vs H Q E h => by first | (rcases h with ⟨_, _, _, _, rfl, _⟩ | ⟨_, _, _, _, rfl, _⟩ <;> rfl) | (obtain ⟨rfl, _⟩ := h; rfl) | (obtain ⟨_, rfl, _⟩ := h; rfl) | (obtain ⟨_, _, rfl, _⟩ := h; rfl) | (obtain ⟨_, _, _, rfl, _⟩ := h; rfl) | (obtain ⟨_, _, _, _, rfl, _⟩ := h; rfl) | (obtain ⟨_, _, _, _, _, rfl, _⟩ := h; rfl) | (obtain ⟨_, _, _, _, _, _, rfl, _⟩ := h; rfl) | (obtain ⟨_, _, _, _, _, _, _, rfl, _⟩ := h; rfl) | (obtain ⟨_, _, _, _, _, _, _, _, rfl, _⟩ := h; rfl) | (obtain ⟨_, _, _, _, _, _, _, _, _, rfl, _⟩ := h; rfl) | (obtain ⟨_, _, _, _, _, _, _, _, _, _, rfl, _⟩ := h; rfl) | (obtain ⟨_, _, _, _, _, _, _, _, _, _, _, rfl, _⟩ := h; rfl) | (obtain ⟨_, _, _, _, _, _, _, _, _, _, _, _, rfl, _⟩ := h; rfl) | (obtain ⟨_, _, _, _, _, _, _, _, _, _, _, _, _, rfl, _⟩ := h; rfl) | (obtain ⟨_, _, _, _, _, _, _, _, _, _, _, _, _, _, rfl, _⟩ := h; rfl) | (obtain ⟨_, _, _, _, _, _, _, _, _, _, _, _, _, _, _, rfl, _⟩ := h; rfl) | (obtain ⟨_, _, _, _, _, _, _, _, _, _, _, _, _, _, _, _, rfl, _⟩ := h; rfl) | (obtain ⟨_, _, _, _, _, _, _, _, _, _, _, _, _, _, _, _, _, rfl, _⟩ := h; rfl)) (ok_low T)
  obtain ⟨K_sees, C_sees⟩ := D_sees.ok (P := P) (w := w) (base := base) (sp := spSees K) sc_sees (fun vs H Q E h => by first | (rcases h with ⟨_, _, _, _, rfl, _⟩ | ⟨_, _, _, _, rfl, _⟩ <;> rfl) | (obtain ⟨rfl, _⟩ := h; rfl) | (obtain ⟨_, rfl, _⟩ := h; rfl) | (obtain ⟨_, _, rfl, _⟩ := h; rfl) | (obtain ⟨_, _, _, rfl, _⟩ := h; rfl) | (obtain ⟨_, _, _, _, rfl, _⟩ := h; rfl) | (obtain ⟨_, _, _, _, _, rfl, _⟩ := h; rfl) | (obtain ⟨_, _, _, _, _, _, rfl, _⟩ := h; rfl) | (obtain ⟨_, _, _, _, _, _, _, rfl, _⟩ := h; rfl) | (obtain ⟨_, _, _, _, _, _, _, _, rfl, _⟩ := h; rfl) | (obtain ⟨_, _, _, _, _, _, _, _, _, rfl, _⟩ := h; rfl) | (obtain ⟨_, _, _, _, _, _, _, _, _, _, rfl, _⟩ := h; rfl) | (obtain ⟨_, _, _, _, _, _, _, _, _, _, _, rfl, _⟩ := h; rfl) | (obtain ⟨_, _, _, _, _, _, _, _, _, _, _, _, rfl, _⟩ := h; rfl) | (obtain ⟨_, _, _, _, _, _, _, _, _, _, _, _, _, rfl, _⟩ := h; rfl) | (obtain ⟨_, _, _, _, _, _, _, _, _, _, _, _, _, _, rfl, _⟩ := h; rfl) | (obtain ⟨_, _, _, _, _, _, _, _, _, _, _, _, _, _, _, rfl, _⟩ := h; rfl) | (obtain ⟨_, _, _, _, _, _, _, _, _, _, _, _, _, _, _, _, rfl, _⟩ := h; rfl) | (obtain ⟨_, _, _, _, _, _, _, _, _, _, _, _, _, _, _, _, _, rfl, _⟩ := h; rfl)) (ok_sees K_before)
  have C_state_among := D_state_among.cal (P := P) (w := w) (base := base) (sp := spStA K) sc_state_among (fun vs H Q E h => by first | (rcases h with ⟨_, _, _, _, rfl, _⟩ | ⟨_, _, _, _, rfl, _⟩ <;> rfl) | (obtain ⟨rfl, _⟩ := h; rfl) | (obtain ⟨_, rfl, _⟩ := h; rfl) | (obtain ⟨_, _, rfl, _⟩ := h; rfl) | (obtain ⟨_, _, _, rfl, _⟩ := h; rfl) | (obtain ⟨_, _, _, _, rfl, _⟩ := h; rfl) | (obtain ⟨_, _, _, _, _, rfl, _⟩ := h; rfl) | (obtain ⟨_, _, _, _, _, _, rfl, _⟩ := h; rfl) | (obtain ⟨_, _, _, _, _, _, _, rfl, _⟩ := h; rfl) | (obtain ⟨_, _, _, _, _, _, _, _, rfl, _⟩ := h; rfl) | (obtain ⟨_, _, _, _, _, _, _, _, _, rfl, _⟩ := h; rfl) | (obtain ⟨_, _, _, _, _, _, _, _, _, _, rfl, _⟩ := h; rfl) | (obtain ⟨_, _, _, _, _, _, _, _, _, _, _, rfl, _⟩ := h; rfl) | (obtain ⟨_, _, _, _, _, _, _, _, _, _, _, _, rfl, _⟩ := h; rfl) | (obtain ⟨_, _, _, _, _, _, _, _, _, _, _, _, _, rfl, _⟩ := h; rfl) | (obtain ⟨_, _, _, _, _, _, _, _, _, _, _, _, _, _, rfl, _⟩ := h; rfl) | (obtain ⟨_, _, _, _, _, _, _, _, _, _, _, _, _, _, _, rfl, _⟩ := h; rfl) | (obtain ⟨_, _, _, _, _, _, _, _, _, _, _, _, _, _, _, _, rfl, _⟩ := h; rfl) | (obtain ⟨_, _, _, _, _, _, _, _, _, _, _, _, _, _, _, _, _, rfl, _⟩ := h; rfl)) (ok_stA K_sees)
  obtain ⟨W_state_ring_own, W_state_own_ring, W_state_ring, W_state_own⟩ := kw_two (st := s_state) (P := P) (w := w) (base := base) (sp := spSt K) X G (c.fact 8 (f := .glo "state") rfl) (c.def_ 8 (d := d_state) rfl) sc_state (fun vs H Q E h => by obtain ⟨_, _, _, _, _, _, _, _, _, _, _, _, rfl, _⟩ := h; rfl) (ok_st T C_state_among) (fun _ _ _ _ _ _ _ _ _ _ _ => rfl) (fun _ _ _ _ _ _ _ _ _ _ _ => rfl) (fun _ _ _ _ _ _ _ _ _ _ _ => ⟨_, _, _, _, _, _, rfl, rfl, rfl⟩) (fun _ _ _ _ _ _ _ _ _ _ _ => ⟨_, _, _, _, _, _, rfl, rfl, rfl⟩)
  have C_frozen_among := D_frozen_among.cal (P := P) (w := w) (base := base) (sp := spFroA K) sc_frozen_among (fun vs H Q E h => by first | (rcases h with ⟨_, _, _, _, rfl, _⟩ | ⟨_, _, _, _, rfl, _⟩ <;> rfl) | (obtain ⟨rfl, _⟩ := h; rfl) | (obtain ⟨_, rfl, _⟩ := h; rfl) | (obtain ⟨_, _, rfl, _⟩ := h; rfl) | (obtain ⟨_, _, _, rfl, _⟩ := h; rfl) | (obtain ⟨_, _, _, _, rfl, _⟩ := h; rfl) | (obtain ⟨_, _, _, _, _, rfl, _⟩ := h; rfl) | (obtain ⟨_, _, _, _, _, _, rfl, _⟩ := h; rfl) | (obtain ⟨_, _, _, _, _, _, _, rfl, _⟩ := h; rfl) | (obtain ⟨_, _, _, _, _, _, _, _, rfl, _⟩ := h; rfl) | (obtain ⟨_, _, _, _, _, _, _, _, _, rfl, _⟩ := h; rfl) | (obtain ⟨_, _, _, _, _, _, _, _, _, _, rfl, _⟩ := h; rfl) | (obtain ⟨_, _, _, _, _, _, _, _, _, _, _, rfl, _⟩ := h; rfl) | (obtain ⟨_, _, _, _, _, _, _, _, _, _, _, _, rfl, _⟩ := h; rfl) | (obtain ⟨_, _, _, _, _, _, _, _, _, _, _, _, _, rfl, _⟩ := h; rfl) | (obtain ⟨_, _, _, _, _, _, _, _, _, _, _, _, _, _, rfl, _⟩ := h; rfl) | (obtain ⟨_, _, _, _, _, _, _, _, _, _, _, _, _, _, _, rfl, _⟩ := h; rfl) | (obtain ⟨_, _, _, _, _, _, _, _, _, _, _, _, _, _, _, _, rfl, _⟩ := h; rfl) | (obtain ⟨_, _, _, _, _, _, _, _, _, _, _, _, _, _, _, _, _, rfl, _⟩ := h; rfl)) (ok_froA K_before)
  obtain ⟨K_frozen, C_frozen⟩ := D_frozen.ok (P := P) (w := w) (base := base) (sp := spFro K) sc_frozen (fun vs H Q E h => by first | (rcases h with ⟨_, _, _, _, rfl, _⟩ | ⟨_, _, _, _, rfl, _⟩ <;> rfl) | (obtain ⟨rfl, _⟩ := h; rfl) | (obtain ⟨_, rfl, _⟩ := h; rfl) | (obtain ⟨_, _, rfl, _⟩ := h; rfl) | (obtain ⟨_, _, _, rfl, _⟩ := h; rfl) | (obtain ⟨_, _, _, _, rfl, _⟩ := h; rfl) | (obtain ⟨_, _, _, _, _, rfl, _⟩ := h; rfl) | (obtain ⟨_, _, _, _, _, _, rfl, _⟩ := h; rfl) | (obtain ⟨_, _, _, _, _, _, _, rfl, _⟩ := h; rfl) | (obtain ⟨_, _, _, _, _, _, _, _, rfl, _⟩ := h; rfl) | (obtain ⟨_, _, _, _, _, _, _, _, _, rfl, _⟩ := h; rfl) | (obtain ⟨_, _, _, _, _, _, _, _, _, _, rfl, _⟩ := h; rfl) | (obtain ⟨_, _, _, _, _, _, _, _, _, _, _, rfl, _⟩ := h; rfl) | (obtain ⟨_, _, _, _, _, _, _, _, _, _, _, _, rfl, _⟩ := h; rfl) | (obtain ⟨_, _, _, _, _, _, _, _, _, _, _, _, _, rfl, _⟩ := h; rfl) | (obtain ⟨_, _, _, _, _, _, _, _, _, _, _, _, _, _, rfl, _⟩ := h; rfl) | (obtain ⟨_, _, _, _, _, _, _, _, _, _, _, _, _, _, _, rfl, _⟩ := h; rfl) | (obtain ⟨_, _, _, _, _, _, _, _, _, _, _, _, _, _, _, _, rfl, _⟩ := h; rfl) | (obtain ⟨_, _, _, _, _, _, _, _, _, _, _, _, _, _, _, _, _, rfl, _⟩ := h; rfl)) (ok_fro T C_frozen_among)
  have C_l_hand := D_l_hand.cal (P := P) (w := w) (base := base) (sp := spHand K) sc_l_hand (fun vs H Q E h => by first | (rcases h with ⟨_, _, _, _, rfl, _⟩ | ⟨_, _, _, _, rfl, _⟩ <;> rfl) | (obtain ⟨rfl, _⟩ := h; rfl) | (obtain ⟨_, rfl, _⟩ := h; rfl) | (obtain ⟨_, _, rfl, _⟩ := h; rfl) | (obtain ⟨_, _, _, rfl, _⟩ := h; rfl) | (obtain ⟨_, _, _, _, rfl, _⟩ := h; rfl) | (obtain ⟨_, _, _, _, _, rfl, _⟩ := h; rfl) | (obtain ⟨_, _, _, _, _, _, rfl, _⟩ := h; rfl) | (obtain ⟨_, _, _, _, _, _, _, rfl, _⟩ := h; rfl) | (obtain ⟨_, _, _, _, _, _, _, _, rfl, _⟩ := h; rfl) | (obtain ⟨_, _, _, _, _, _, _, _, _, rfl, _⟩ := h; rfl) | (obtain ⟨_, _, _, _, _, _, _, _, _, _, rfl, _⟩ := h; rfl) | (obtain ⟨_, _, _, _, _, _, _, _, _, _, _, rfl, _⟩ := h; rfl) | (obtain ⟨_, _, _, _, _, _, _, _, _, _, _, _, rfl, _⟩ := h; rfl) | (obtain ⟨_, _, _, _, _, _, _, _, _, _, _, _, _, rfl, _⟩ := h; rfl) | (obtain ⟨_, _, _, _, _, _, _, _, _, _, _, _, _, _, rfl, _⟩ := h; rfl) | (obtain ⟨_, _, _, _, _, _, _, _, _, _, _, _, _, _, _, rfl, _⟩ := h; rfl) | (obtain ⟨_, _, _, _, _, _, _, _, _, _, _, _, _, _, _, _, rfl, _⟩ := h; rfl) | (obtain ⟨_, _, _, _, _, _, _, _, _, _, _, _, _, _, _, _, _, rfl, _⟩ := h; rfl)) (ok_hand T)
  have C_l_take := D_l_take.cal (P := P) (w := w) (base := base) (sp := spTake) sc_l_take (fun vs H Q E h => by first | (rcases h with ⟨_, _, _, _, rfl, _⟩ | ⟨_, _, _, _, rfl, _⟩ <;> rfl) | (obtain ⟨rfl, _⟩ := h; rfl) | (obtain ⟨_, rfl, _⟩ := h; rfl) | (obtain ⟨_, _, rfl, _⟩ := h; rfl) | (obtain ⟨_, _, _, rfl, _⟩ := h; rfl) | (obtain ⟨_, _, _, _, rfl, _⟩ := h; rfl) | (obtain ⟨_, _, _, _, _, rfl, _⟩ := h; rfl) | (obtain ⟨_, _, _, _, _, _, rfl, _⟩ := h; rfl) | (obtain ⟨_, _, _, _, _, _, _, rfl, _⟩ := h; rfl) | (obtain ⟨_, _, _, _, _, _, _, _, rfl, _⟩ := h; rfl) | (obtain ⟨_, _, _, _, _, _, _, _, _, rfl, _⟩ := h; rfl) | (obtain ⟨_, _, _, _, _, _, _, _, _, _, rfl, _⟩ := h; rfl) | (obtain ⟨_, _, _, _, _, _, _, _, _, _, _, rfl, _⟩ := h; rfl) | (obtain ⟨_, _, _, _, _, _, _, _, _, _, _, _, rfl, _⟩ := h; rfl) | (obtain ⟨_, _, _, _, _, _, _, _, _, _, _, _, _, rfl, _⟩ := h; rfl) | (obtain ⟨_, _, _, _, _, _, _, _, _, _, _, _, _, _, rfl, _⟩ := h; rfl) | (obtain ⟨_, _, _, _, _, _, _, _, _, _, _, _, _, _, _, rfl, _⟩ := h; rfl) | (obtain ⟨_, _, _, _, _, _, _, _, _, _, _, _, _, _, _, _, rfl, _⟩ := h; rfl) | (obtain ⟨_, _, _, _, _, _, _, _, _, _, _, _, _, _, _, _, _, rfl, _⟩ := h; rfl)) (ok_take T)
  have C_l_of := D_l_of.cal (P := P) (w := w) (base := base) (sp := spOf2 K) sc_l_of (fun vs H Q E h => by first | (rcases h with ⟨_, _, _, _, rfl, _⟩ | ⟨_, _, _, _, rfl, _⟩ <;> rfl) | (obtain ⟨rfl, _⟩ := h; rfl) | (obtain ⟨_, rfl, _⟩ := h; rfl) | (obtain ⟨_, _, rfl, _⟩ := h; rfl) | (obtain ⟨_, _, _, rfl, _⟩ := h; rfl) | (obtain ⟨_, _, _, _, rfl, _⟩ := h; rfl) | (obtain ⟨_, _, _, _, _, rfl, _⟩ := h; rfl) | (obtain ⟨_, _, _, _, _, _, rfl, _⟩ := h; rfl) | (obtain ⟨_, _, _, _, _, _, _, rfl, _⟩ := h; rfl) | (obtain ⟨_, _, _, _, _, _, _, _, rfl, _⟩ := h; rfl) | (obtain ⟨_, _, _, _, _, _, _, _, _, rfl, _⟩ := h; rfl) | (obtain ⟨_, _, _, _, _, _, _, _, _, _, rfl, _⟩ := h; rfl) | (obtain ⟨_, _, _, _, _, _, _, _, _, _, _, rfl, _⟩ := h; rfl) | (obtain ⟨_, _, _, _, _, _, _, _, _, _, _, _, rfl, _⟩ := h; rfl) | (obtain ⟨_, _, _, _, _, _, _, _, _, _, _, _, _, rfl, _⟩ := h; rfl) | (obtain ⟨_, _, _, _, _, _, _, _, _, _, _, _, _, _, rfl, _⟩ := h; rfl) | (obtain ⟨_, _, _, _, _, _, _, _, _, _, _, _, _, _, _, rfl, _⟩ := h; rfl) | (obtain ⟨_, _, _, _, _, _, _, _, _, _, _, _, _, _, _, _, rfl, _⟩ := h; rfl) | (obtain ⟨_, _, _, _, _, _, _, _, _, _, _, _, _, _, _, _, _, rfl, _⟩ := h; rfl)) (ok_of2 T C_l_take)
  have C_l_size := D_l_size.cal (P := P) (w := w) (base := base) (sp := spSize) sc_l_size (fun vs H Q E h => by first | (rcases h with ⟨_, _, _, _, rfl, _⟩ | ⟨_, _, _, _, rfl, _⟩ <;> rfl) | (obtain ⟨rfl, _⟩ := h; rfl) | (obtain ⟨_, rfl, _⟩ := h; rfl) | (obtain ⟨_, _, rfl, _⟩ := h; rfl) | (obtain ⟨_, _, _, rfl, _⟩ := h; rfl) | (obtain ⟨_, _, _, _, rfl, _⟩ := h; rfl) | (obtain ⟨_, _, _, _, _, rfl, _⟩ := h; rfl) | (obtain ⟨_, _, _, _, _, _, rfl, _⟩ := h; rfl) | (obtain ⟨_, _, _, _, _, _, _, rfl, _⟩ := h; rfl) | (obtain ⟨_, _, _, _, _, _, _, _, rfl, _⟩ := h; rfl) | (obtain ⟨_, _, _, _, _, _, _, _, _, rfl, _⟩ := h; rfl) | (obtain ⟨_, _, _, _, _, _, _, _, _, _, rfl, _⟩ := h; rfl) | (obtain ⟨_, _, _, _, _, _, _, _, _, _, _, rfl, _⟩ := h; rfl) | (obtain ⟨_, _, _, _, _, _, _, _, _, _, _, _, rfl, _⟩ := h; rfl) | (obtain ⟨_, _, _, _, _, _, _, _, _, _, _, _, _, rfl, _⟩ := h; rfl) | (obtain ⟨_, _, _, _, _, _, _, _, _, _, _, _, _, _, rfl, _⟩ := h; rfl) | (obtain ⟨_, _, _, _, _, _, _, _, _, _, _, _, _, _, _, rfl, _⟩ := h; rfl) | (obtain ⟨_, _, _, _, _, _, _, _, _, _, _, _, _, _, _, _, rfl, _⟩ := h; rfl) | (obtain ⟨_, _, _, _, _, _, _, _, _, _, _, _, _, _, _, _, _, rfl, _⟩ := h; rfl)) (ok_size T C_l_take (cal_weak C_l_of fun _ _ _ _ h => .inl h))
  have C_l_world := D_l_world.cal (P := P) (w := w) (base := base) (sp := spWorld) sc_l_world (fun vs H Q E h => by first | (rcases h with ⟨_, _, _, _, rfl, _⟩ | ⟨_, _, _, _, rfl, _⟩ <;> rfl) | (obtain ⟨rfl, _⟩ := h; rfl) | (obtain ⟨_, rfl, _⟩ := h; rfl) | (obtain ⟨_, _, rfl, _⟩ := h; rfl) | (obtain ⟨_, _, _, rfl, _⟩ := h; rfl) | (obtain ⟨_, _, _, _, rfl, _⟩ := h; rfl) | (obtain ⟨_, _, _, _, _, rfl, _⟩ := h; rfl) | (obtain ⟨_, _, _, _, _, _, rfl, _⟩ := h; rfl) | (obtain ⟨_, _, _, _, _, _, _, rfl, _⟩ := h; rfl) | (obtain ⟨_, _, _, _, _, _, _, _, rfl, _⟩ := h; rfl) | (obtain ⟨_, _, _, _, _, _, _, _, _, rfl, _⟩ := h; rfl) | (obtain ⟨_, _, _, _, _, _, _, _, _, _, rfl, _⟩ := h; rfl) | (obtain ⟨_, _, _, _, _, _, _, _, _, _, _, rfl, _⟩ := h; rfl) | (obtain ⟨_, _, _, _, _, _, _, _, _, _, _, _, rfl, _⟩ := h; rfl) | (obtain ⟨_, _, _, _, _, _, _, _, _, _, _, _, _, rfl, _⟩ := h; rfl) | (obtain ⟨_, _, _, _, _, _, _, _, _, _, _, _, _, _, rfl, _⟩ := h; rfl) | (obtain ⟨_, _, _, _, _, _, _, _, _, _, _, _, _, _, _, rfl, _⟩ := h; rfl) | (obtain ⟨_, _, _, _, _, _, _, _, _, _, _, _, _, _, _, _, rfl, _⟩ := h; rfl) | (obtain ⟨_, _, _, _, _, _, _, _, _, _, _, _, _, _, _, _, _, rfl, _⟩ := h; rfl)) (ok_world T C_l_take C_l_of)
  have C_l_looks := D_l_looks.cal (P := P) (w := w) (base := base) (sp := spLooks K) sc_l_looks (fun vs H Q E h => by first | (rcases h with ⟨_, _, _, _, rfl, _⟩ | ⟨_, _, _, _, rfl, _⟩ <;> rfl) | (obtain ⟨rfl, _⟩ := h; rfl) | (obtain ⟨_, rfl, _⟩ := h; rfl) | (obtain ⟨_, _, rfl, _⟩ := h; rfl) | (obtain ⟨_, _, _, rfl, _⟩ := h; rfl) | (obtain ⟨_, _, _, _, rfl, _⟩ := h; rfl) | (obtain ⟨_, _, _, _, _, rfl, _⟩ := h; rfl) | (obtain ⟨_, _, _, _, _, _, rfl, _⟩ := h; rfl) | (obtain ⟨_, _, _, _, _, _, _, rfl, _⟩ := h; rfl) | (obtain ⟨_, _, _, _, _, _, _, _, rfl, _⟩ := h; rfl) | (obtain ⟨_, _, _, _, _, _, _, _, _, rfl, _⟩ := h; rfl) | (obtain ⟨_, _, _, _, _, _, _, _, _, _, rfl, _⟩ := h; rfl) | (obtain ⟨_, _, _, _, _, _, _, _, _, _, _, rfl, _⟩ := h; rfl) | (obtain ⟨_, _, _, _, _, _, _, _, _, _, _, _, rfl, _⟩ := h; rfl) | (obtain ⟨_, _, _, _, _, _, _, _, _, _, _, _, _, rfl, _⟩ := h; rfl) | (obtain ⟨_, _, _, _, _, _, _, _, _, _, _, _, _, _, rfl, _⟩ := h; rfl) | (obtain ⟨_, _, _, _, _, _, _, _, _, _, _, _, _, _, _, rfl, _⟩ := h; rfl) | (obtain ⟨_, _, _, _, _, _, _, _, _, _, _, _, _, _, _, _, rfl, _⟩ := h; rfl) | (obtain ⟨_, _, _, _, _, _, _, _, _, _, _, _, _, _, _, _, _, rfl, _⟩ := h; rfl)) (ok_looks T C_l_take)
  have C_l_fates := D_l_fates.cal (P := P) (w := w) (base := base) (sp := spFatesW K) sc_l_fates (fun vs H Q E h => by first | (rcases h with ⟨_, _, _, _, rfl, _⟩ | ⟨_, _, _, _, rfl, _⟩ <;> rfl) | (obtain ⟨rfl, _⟩ := h; rfl) | (obtain ⟨_, rfl, _⟩ := h; rfl) | (obtain ⟨_, _, rfl, _⟩ := h; rfl) | (obtain ⟨_, _, _, rfl, _⟩ := h; rfl) | (obtain ⟨_, _, _, _, rfl, _⟩ := h; rfl) | (obtain ⟨_, _, _, _, _, rfl, _⟩ := h; rfl) | (obtain ⟨_, _, _, _, _, _, rfl, _⟩ := h; rfl) | (obtain ⟨_, _, _, _, _, _, _, rfl, _⟩ := h; rfl) | (obtain ⟨_, _, _, _, _, _, _, _, rfl, _⟩ := h; rfl) | (obtain ⟨_, _, _, _, _, _, _, _, _, rfl, _⟩ := h; rfl) | (obtain ⟨_, _, _, _, _, _, _, _, _, _, rfl, _⟩ := h; rfl) | (obtain ⟨_, _, _, _, _, _, _, _, _, _, _, rfl, _⟩ := h; rfl) | (obtain ⟨_, _, _, _, _, _, _, _, _, _, _, _, rfl, _⟩ := h; rfl) | (obtain ⟨_, _, _, _, _, _, _, _, _, _, _, _, _, rfl, _⟩ := h; rfl) | (obtain ⟨_, _, _, _, _, _, _, _, _, _, _, _, _, _, rfl, _⟩ := h; rfl) | (obtain ⟨_, _, _, _, _, _, _, _, _, _, _, _, _, _, _, rfl, _⟩ := h; rfl) | (obtain ⟨_, _, _, _, _, _, _, _, _, _, _, _, _, _, _, _, rfl, _⟩ := h; rfl) | (obtain ⟨_, _, _, _, _, _, _, _, _, _, _, _, _, _, _, _, _, rfl, _⟩ := h; rfl)) (ok_fatesW T C_l_of)
  have C_l_kept := D_l_kept.cal (P := P) (w := w) (base := base) (sp := spKept K) sc_l_kept (fun vs H Q E h => by first | (rcases h with ⟨_, _, _, _, rfl, _⟩ | ⟨_, _, _, _, rfl, _⟩ <;> rfl) | (obtain ⟨rfl, _⟩ := h; rfl) | (obtain ⟨_, rfl, _⟩ := h; rfl) | (obtain ⟨_, _, rfl, _⟩ := h; rfl) | (obtain ⟨_, _, _, rfl, _⟩ := h; rfl) | (obtain ⟨_, _, _, _, rfl, _⟩ := h; rfl) | (obtain ⟨_, _, _, _, _, rfl, _⟩ := h; rfl) | (obtain ⟨_, _, _, _, _, _, rfl, _⟩ := h; rfl) | (obtain ⟨_, _, _, _, _, _, _, rfl, _⟩ := h; rfl) | (obtain ⟨_, _, _, _, _, _, _, _, rfl, _⟩ := h; rfl) | (obtain ⟨_, _, _, _, _, _, _, _, _, rfl, _⟩ := h; rfl) | (obtain ⟨_, _, _, _, _, _, _, _, _, _, rfl, _⟩ := h; rfl) | (obtain ⟨_, _, _, _, _, _, _, _, _, _, _, rfl, _⟩ := h; rfl) | (obtain ⟨_, _, _, _, _, _, _, _, _, _, _, _, rfl, _⟩ := h; rfl) | (obtain ⟨_, _, _, _, _, _, _, _, _, _, _, _, _, rfl, _⟩ := h; rfl) | (obtain ⟨_, _, _, _, _, _, _, _, _, _, _, _, _, _, rfl, _⟩ := h; rfl) | (obtain ⟨_, _, _, _, _, _, _, _, _, _, _, _, _, _, _, rfl, _⟩ := h; rfl) | (obtain ⟨_, _, _, _, _, _, _, _, _, _, _, _, _, _, _, _, rfl, _⟩ := h; rfl) | (obtain ⟨_, _, _, _, _, _, _, _, _, _, _, _, _, _, _, _, _, rfl, _⟩ := h; rfl)) (ok_kept T K_frozen W_state_own_ring)
  have C_l_again := D_l_again.cal (P := P) (w := w) (base := base) (sp := spAgain K) sc_l_again (fun vs H Q E h => by first | (rcases h with ⟨_, _, _, _, rfl, _⟩ | ⟨_, _, _, _, rfl, _⟩ <;> rfl) | (obtain ⟨rfl, _⟩ := h; rfl) | (obtain ⟨_, rfl, _⟩ := h; rfl) | (obtain ⟨_, _, rfl, _⟩ := h; rfl) | (obtain ⟨_, _, _, rfl, _⟩ := h; rfl) | (obtain ⟨_, _, _, _, rfl, _⟩ := h; rfl) | (obtain ⟨_, _, _, _, _, rfl, _⟩ := h; rfl) | (obtain ⟨_, _, _, _, _, _, rfl, _⟩ := h; rfl) | (obtain ⟨_, _, _, _, _, _, _, rfl, _⟩ := h; rfl) | (obtain ⟨_, _, _, _, _, _, _, _, rfl, _⟩ := h; rfl) | (obtain ⟨_, _, _, _, _, _, _, _, _, rfl, _⟩ := h; rfl) | (obtain ⟨_, _, _, _, _, _, _, _, _, _, rfl, _⟩ := h; rfl) | (obtain ⟨_, _, _, _, _, _, _, _, _, _, _, rfl, _⟩ := h; rfl) | (obtain ⟨_, _, _, _, _, _, _, _, _, _, _, _, rfl, _⟩ := h; rfl) | (obtain ⟨_, _, _, _, _, _, _, _, _, _, _, _, _, rfl, _⟩ := h; rfl) | (obtain ⟨_, _, _, _, _, _, _, _, _, _, _, _, _, _, rfl, _⟩ := h; rfl) | (obtain ⟨_, _, _, _, _, _, _, _, _, _, _, _, _, _, _, rfl, _⟩ := h; rfl) | (obtain ⟨_, _, _, _, _, _, _, _, _, _, _, _, _, _, _, _, rfl, _⟩ := h; rfl) | (obtain ⟨_, _, _, _, _, _, _, _, _, _, _, _, _, _, _, _, _, rfl, _⟩ := h; rfl)) (ok_again T K_frozen)
  have C_l_clean := D_l_clean.cal (P := P) (w := w) (base := base) (sp := spClean K) sc_l_clean (fun vs H Q E h => by first | (rcases h with ⟨_, _, _, _, rfl, _⟩ | ⟨_, _, _, _, rfl, _⟩ <;> rfl) | (obtain ⟨rfl, _⟩ := h; rfl) | (obtain ⟨_, rfl, _⟩ := h; rfl) | (obtain ⟨_, _, rfl, _⟩ := h; rfl) | (obtain ⟨_, _, _, rfl, _⟩ := h; rfl) | (obtain ⟨_, _, _, _, rfl, _⟩ := h; rfl) | (obtain ⟨_, _, _, _, _, rfl, _⟩ := h; rfl) | (obtain ⟨_, _, _, _, _, _, rfl, _⟩ := h; rfl) | (obtain ⟨_, _, _, _, _, _, _, rfl, _⟩ := h; rfl) | (obtain ⟨_, _, _, _, _, _, _, _, rfl, _⟩ := h; rfl) | (obtain ⟨_, _, _, _, _, _, _, _, _, rfl, _⟩ := h; rfl) | (obtain ⟨_, _, _, _, _, _, _, _, _, _, rfl, _⟩ := h; rfl) | (obtain ⟨_, _, _, _, _, _, _, _, _, _, _, rfl, _⟩ := h; rfl) | (obtain ⟨_, _, _, _, _, _, _, _, _, _, _, _, rfl, _⟩ := h; rfl) | (obtain ⟨_, _, _, _, _, _, _, _, _, _, _, _, _, rfl, _⟩ := h; rfl) | (obtain ⟨_, _, _, _, _, _, _, _, _, _, _, _, _, _, rfl, _⟩ := h; rfl) | (obtain ⟨_, _, _, _, _, _, _, _, _, _, _, _, _, _, _, rfl, _⟩ := h; rfl) | (obtain ⟨_, _, _, _, _, _, _, _, _, _, _, _, _, _, _, _, rfl, _⟩ := h; rfl) | (obtain ⟨_, _, _, _, _, _, _, _, _, _, _, _, _, _, _, _, _, rfl, _⟩ := h; rfl)) (ok_clean T K_frozen)
  refine fnat_of (CX := CX0) F sc_law (fun vs H Q E h => by first | (rcases h with ⟨_, _, _, _, rfl, _⟩ | ⟨_, _, _, _, rfl, _⟩ <;> rfl) | (obtain ⟨rfl, _⟩ := h; rfl) | (obtain ⟨_, rfl, _⟩ := h; rfl) | (obtain ⟨_, _, rfl, _⟩ := h; rfl) | (obtain ⟨_, _, _, rfl, _⟩ := h; rfl) | (obtain ⟨_, _, _, _, rfl, _⟩ := h; rfl) | (obtain ⟨_, _, _, _, _, rfl, _⟩ := h; rfl) | (obtain ⟨_, _, _, _, _, _, rfl, _⟩ := h; rfl) | (obtain ⟨_, _, _, _, _, _, _, rfl, _⟩ := h; rfl) | (obtain ⟨_, _, _, _, _, _, _, _, rfl, _⟩ := h; rfl) | (obtain ⟨_, _, _, _, _, _, _, _, _, rfl, _⟩ := h; rfl) | (obtain ⟨_, _, _, _, _, _, _, _, _, _, rfl, _⟩ := h; rfl) | (obtain ⟨_, _, _, _, _, _, _, _, _, _, _, rfl, _⟩ := h; rfl) | (obtain ⟨_, _, _, _, _, _, _, _, _, _, _, _, rfl, _⟩ := h; rfl) | (obtain ⟨_, _, _, _, _, _, _, _, _, _, _, _, _, rfl, _⟩ := h; rfl) | (obtain ⟨_, _, _, _, _, _, _, _, _, _, _, _, _, _, rfl, _⟩ := h; rfl) | (obtain ⟨_, _, _, _, _, _, _, _, _, _, _, _, _, _, _, rfl, _⟩ := h; rfl) | (obtain ⟨_, _, _, _, _, _, _, _, _, _, _, _, _, _, _, _, rfl, _⟩ := h; rfl) | (obtain ⟨_, _, _, _, _, _, _, _, _, _, _, _, _, _, _, _, _, rfl, _⟩ := h; rfl)) (fun cdv s H vs Q E hr h => ?_)
  obtain ⟨t, h1, h2⟩ := ok_law (P := P) (w := w) (base := base) T C_l_hand C_l_of C_l_size C_l_world C_l_looks C_l_fates K_is_look C_low C_l_kept C_l_clean C_l_again _ cdv s H vs Q E hr h
  exact ⟨t, h1.nox, h2⟩
end Rd
open PySem PySem.W PySem.Calls PyProof.Rows
theorem PySem.Challenge.cw_roundstore_k12_freezing_keeps_looks_holds : PySem.Challenge.rw_roundstore_k12_freezing_keeps_looks.Holds := by
  w_on; o_law
  refine HandSHeadRun.head_any (r := OpenLaw.row PySem.Challenge.rw_roundstore_k12_freezing_keeps_looks) (q := view (OpenLaw.row PySem.Challenge.rw_roundstore_k12_freezing_keeps_looks).prog [28]) (H := Rd.hk) (ob := Rd.ob) (M := 2000) (loose := ["is_whole", "is_number", "RING", "steps", "before", "is_look", "in_order", "low", "sees", "state", "frozen", "state_among", "frozen_among", "_law_hand", "_law_take", "_law_of", "_law_size", "_law_world", "_law_looks", "_law_fates", "_law_kept", "_law_again", "_law_clean"]) (d := HandSHeadRun.topDef (OpenLaw.row PySem.Challenge.rw_roundstore_k12_freezing_keeps_looks).prog 28) (kwd := []) Rd.ob_eq
    (by kernel_rfl) (fun s => by kernel_rfl) Rd.run (by kernel_rfl) (by kernel_rfl) (by kernel_rfl) (by rfl) (by first | assumption | decide +kernel) (by decide +kernel) ⟨rfl, rfl, rfl, rfl, rfl, by decide +kernel⟩ ?hw ?hc
  case hw => w_witness2
  case hc =>
    refine L2.walk_at (l := PySem.Challenge.rw_roundstore_k12_freezing_keeps_looks) (n := 63) (k := 7) (x := "_law_script") rfl (by decide) (by kernel_rfl) ⟨rfl, by decide, by decide⟩ ?F
    intro w mg fa h Y G hmg0
    obtain ⟨K, KX, c⟩ := Y
    have hmg : mg ("law" : PySem.Str) = some (.ref fa) := by
      have e : (HandSHeadRun.topDef (OpenLaw.row PySem.Challenge.rw_roundstore_k12_freezing_keeps_looks).prog 28).name = ("law" : PySem.Str) := by kernel_rfl
      rw [← e]
      exact hmg0
    obtain ⟨fd, hb, hF⟩ := Rd.facts (P := (PySem.Challenge.rw_roundstore_k12_freezing_keeps_looks).prog) (w := w) KX G hmg c
    exact ⟨K, fd, Rd.spLaw K, KX, hb, fun H a ns hl _ hS => ⟨a, ns, rfl, hS, hl, fun _ => rfl⟩, hF⟩
