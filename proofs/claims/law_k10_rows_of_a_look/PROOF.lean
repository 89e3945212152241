import PyProof.Rows.All
import Wide.All
import OpenK.AllK
import Wide.FinOn
import KE.KStateDown
import KE.KDictPairs
import KE.KDictZip
import HandS.Star
import HandS.ForMost
import HandS.More
import HandS.Conv
import HandS.Flow
import HandS.Style
import HandS.Steps
import HandS.Codes
import HandS.IsInst
import HandS.TupAny
import HandS.NoneIn
import HandS.RaiseMore
import HandS.SortInts
import HandS.SortRule
import KE.SortKeyHeap
import HandS.Lambda
import HandS.EndTab
import HandS.NestedK
import HandS.HeadHook3
import HandS.HeadHook4
import PyProof.Rows.SortKeyStr
import HandS.SetFor
import HandS.Strs
import HandS.Wide
import HandS.WordsExc
import HandS.Defaults
import HandS.Head0
import HandS.Head1
import HandS.Head2
import HandS.HeadEnd
import HandS.HeadHook1
import HandS.HeadHook2
import PySem.Challenge.RW_roundstore_k10_rows_of_a_look
set_option Elab.async false
set_option linter.all false
set_option maxRecDepth 100000
set_option maxHeartbeats 8000000
/-! ### sorted of pairs, the first of each a text of its own -/
namespace SrtW
open PySem PySem.Spec PyProof.Rows L2 SrtO
abbrev ltS (a b : Str) : Bool := decide (a.cps.toList < b.cps.toList)
theorem swo_str {α : Type} (k : α → Str) : Swo fun v u => ltS (k v) (k u) := by
  refine ⟨fun x y h => ?_, fun x y z h1 h2 => ?_⟩
  · have a := of_decide_eq_true h
    exact decide_eq_false (fun b => List.lt_asymm a b)
  · have a := of_decide_eq_false h1
    have b := of_decide_eq_false h2
    refine decide_eq_false ?_
    have a' := List.not_lt.mp a
    have b' := List.not_lt.mp b
    exact List.not_lt.mpr (by first | exact List.le_trans b' a' | exact List.le_trans a' b')
def Plain (y : Value) : Prop := (∃ i t, y = .int i t) ∨ ∃ z t, y = .str z t
def IsPairW (h : Heap) (v : Value) (x : Str) : Prop := ∃ a o t y n, v = .ref a ∧ h.get? a = some o ∧ o.cls = .type "tuple" ∧ o.data = .seq #[.str x t, y] n ∧ Plain y
theorem IsPairW.keeps {h h' : Heap} {v : Value} {x : Str} (p : IsPairW h v x) (k : ∀ b o, h.get? b = some o → o.cls = .type "tuple" → h'.get? b = some o) : IsPairW h' v x := by
  obtain ⟨a, o, t, u, n, e, ho, hc, hd⟩ := p
  exact ⟨a, o, t, u, n, e, k _ _ ho hc, hc, hd⟩
theorem firsts_w {h : Heap} : ∀ {vs : List Value}, (∀ v ∈ vs, ∃ x, IsPairW h v x) → ∃ fs : List Value, PySem.W.KatTups h vs fs ∧ fs.length = vs.length ∧ ∀ f ∈ fs, ∃ x t, f = Value.str x t
  | [], _ => ⟨[], PySem.W.KatTups.nil, rfl, fun _ hm => by simp at hm⟩
  | v :: vs, hp => by
    obtain ⟨fs, h1, h2, h3⟩ := firsts_w (vs := vs) fun v' hm => hp v' (List.mem_cons_of_mem _ hm)
    obtain ⟨x, a, o, t, u, n, e, ho, hc, hd, _⟩ := hp v (List.mem_cons_self ..)
    subst e
    refine ⟨.str x t :: fs, PySem.W.KatTups.cons ho hc hd rfl h1, by rw [List.length_cons, List.length_cons, h2], fun f hm => ?_⟩
    rcases List.mem_cons.mp hm with rfl | hm
    · exact ⟨x, t, rfl⟩
    · exact h3 f hm
section
variable {prog : Program} {w : World} {A : Around} {E : Value → Shared → Prop} {s : Shared}
theorem pair_cmpW {vs : List Value} {k : Value → Str} (hp : ∀ v ∈ vs, IsPairW s.heap v (k v)) (inj : ∀ v ∈ vs, ∀ u ∈ vs, k v = k u → v = u) : Cmp prog w A s (tuples' true) (fun p => p.1 ∈ vs) (lt2 fun v u => ltS (k v) (k u)) := by
  intro p q hm hm'
  have h1 := hp _ hm
  have h2 := hp _ hm'
  have hi := inj _ hm _ hm'
  show wpAny (model prog w) A (keyLt' (tuples' true) p.1 q.1) (fun r s' => s' = s ∧ r = ltS (k p.1) (k q.1)) (fun _ _ => False) s
  generalize k p.1 = x at h1 hi ⊢
  generalize k q.1 = x' at h2 hi ⊢
  obtain ⟨a, o, t, y, n, e, ho, hc, hd, py⟩ := h1
  obtain ⟨a', o', t', y', n', e', ho', hc', hd', py'⟩ := h2
  rw [e, e'] at hi ⊢
  refine PySem.W.kat_lt ho hd ho' hd' ?_
  show PySem.W.KatLex prog w A true (decide (2 < 2)) _ [(.str x t, .str x' t'), (y, y')] 0 s
  refine PySem.W.kat_cons (SeqAt.EqAt.str_str x t x' t' prog w _ _ ?_)
  refine PySem.W.kat_go (fun e1 => ?_) (fun e1 => ?_)
  · have ex : x = x' := by simpa using e1
    have ea := Value.ref.inj (hi ex)
    subst ea
    rw [ho] at ho'
    cases ho'
    rw [hd] at hd'
    cases hd'
    have e3 : ltS x x = false := decide_eq_false (List.lt_irrefl _)
    rcases py with ⟨i, u, rfl⟩ | ⟨z, u, rfl⟩
    · refine PySem.W.kat_yes (PySem.W.kat_cons (SeqAt.EqAt.int_int i u i u prog w _ _ ?_))
      refine PySem.W.kat_go (fun e2 => ?_) (fun e2 => by simp at e2)
      exact PySem.W.kat_yes (PySem.W.kat_nil ⟨rfl, e3.symm⟩)
    · refine PySem.W.kat_yes (PySem.W.kat_cons (SeqAt.EqAt.str_str z u z u prog w _ _ ?_))
      refine PySem.W.kat_go (fun e2 => ?_) (fun e2 => by simp at e2)
      exact PySem.W.kat_yes (PySem.W.kat_nil ⟨rfl, e3.symm⟩)
  · exact PySem.W.kat_no (oneLt_str ⟨rfl, rfl⟩)
theorem pairs_sortableW {a : Addr} {vs : List Value} {k : Value → Str} (h0 : 0 < vs.length) (hp : ∀ v ∈ vs, IsPairW s.heap v (k v)) (inj : ∀ v ∈ vs, ∀ u ∈ vs, k v = k u → v = u) (ha : ∀ o, s.heap.get? a = some o → o.cls ≠ .type "tuple") : SortableO prog w A s a vs fun v u => ltS (k v) (k u) := by
  intro h' keep
  have hp' : ∀ v ∈ vs, IsPairW h' v (k v) := fun v hm => (hp v hm).keeps fun b o e c => keep b o (fun z => by subst z; exact ha o e c) e
  obtain ⟨fs, h1, h2, h3⟩ := firsts_w fun v hm => ⟨_, hp' v hm⟩
  refine ⟨tuples' true, fun Q E hq => ?_, pair_cmpW hp' inj⟩
  refine PySem.W.kat_kind (T := .type "str") h1 (by omega) (fun f hm => ?_) (by rfl) ?_
  · obtain ⟨x, t, rfl⟩ := h3 f hm
    exact PySem.W.Looks.now
  · have e : (Value.type "str" != Value.type "tuple") = true := by first | decide +kernel | rfl | decide
    rw [e]
    exact hq
theorem sorted_pairsW {l : Addr} {vs : List Value} {k : Value → Str} {Q : Value → Shared → Prop} (hl : s.heap.IsList l vs.toArray) (hz : vs.length ≤ sizeLine) (hp : ∀ v ∈ vs, IsPairW s.heap v (k v)) (inj : ∀ v ∈ vs, ∀ u ∈ vs, k v = k u → v = u)
    (h : ∀ (h' : Heap) (d : Addr) (out : List Value), Srtd (fun v u => ltS (k v) (k u)) out → Stb (fun v u => ltS (k v) (k u)) out vs → (∀ b o, s.heap.get? b = some o → h'.get? b = some o) → s.heap.objs.size ≤ d → (∃ n, h'.get? d = some (seqObj "list" out.toArray n)) → Q (.ref d) { s with heap := h' }) :
    wpAny (model prog w) A (call (.builtin "sorted") [.ref l]) Q E s := by
  refine sorted_ord (swo_str k) hl hz (fun h2 h₁ a ha kk => ?_) fun out hs hb => ?_
  · refine pairs_sortableW (s := { s with heap := h₁ }) (by omega) (fun v hm => (hp v hm).keeps fun b o e _ => (kk b o e).2) inj fun o e => ?_
    have e' : some o = some (seqObj "list" vs.toArray 0) := e.symm.trans ha
    cases e'
    intro c
    exact absurd (Value.type.inj c) (by decide)
  · exact h _ _ out hs hb (fun b o e => sortedAll_old e) (Nat.le_succ _) (sortedAll_at s.heap vs out.toArray)
end
/-- sorted(xs), xs a list of pairs (a text, a whole number or a text), no text twice: a new list, rising by the texts -/
def rSortedW (K : PySem.W.Frag) : List V → Hp → VK → Prop := fun vs H Q => ∃ (a : Addr) (xs : List V) (k : V → Str), vs = [V.ref a] ∧ SqL K H a xs ∧ (∀ x ∈ xs, ∃ t y, x = V.ref t ∧ H t = some (.tup [.str (k x), y]) ∧ ((∃ i, y = .int i) ∨ ∃ z, y = .str z)) ∧ (∀ x ∈ xs, ∀ y ∈ xs, k x = k y → x = y) ∧
  ∀ ys p, Srtd (fun v u => ltS (k v) (k u)) ys → ys.Perm xs → H p = none → Q (.ref p) (upd H p (.lst ys))
section
variable {X : Cx}
theorem cr_sortedW : CallR X (.builtin "sorted") (rSortedW X.K) := by
  intro pins s σ H vs us Q I r h
  obtain ⟨a, xs, k, rfl, hs, hx, inj, q⟩ := h
  obtain ⟨its, rv, hl, hz⟩ := I.list hs
  obtain ⟨u, rfl, ru⟩ := vals1 r
  obtain rfl : u = Value.ref a := ru
  obtain ⟨e1, e2⟩ := refs_back rv fun x m => by
    obtain ⟨t, _, e, _⟩ := hx x m
    exact ⟨t, e⟩
  refine sorted_pairsW (k := fun u => k (backV u)) hl.isList (by rw [← rv.length]; exact hz) (fun v hv => ?_) (fun v hv u hu e => ?_) fun h' d out h1 h2 kp hd hn => ?_
  · obtain ⟨t, rfl⟩ := e2 v hv
    have hm : V.ref t ∈ xs := by rw [e1]; exact List.mem_map.mpr ⟨_, hv, rfl⟩
    obtain ⟨t', y, e, ht, py⟩ := hx _ hm
    cases e
    obtain ⟨_, its2, r2, o, ho, hc, n, hd⟩ := I.hok _ _ ht
    obtain ⟨u1, u2, rfl, ri, rj⟩ := vals2 r2
    obtain ⟨t1, rfl⟩ := ri
    refine ⟨t, o, t1, u2, n, rfl, ho, hc, hd, ?_⟩
    rcases py with ⟨i, rfl⟩ | ⟨z, rfl⟩
    · obtain ⟨t2, rfl⟩ := rj
      exact .inl ⟨i, t2, rfl⟩
    · obtain ⟨t2, rfl⟩ := rj
      exact .inr ⟨z, t2, rfl⟩
  · obtain ⟨t, rfl⟩ := e2 v hv
    obtain ⟨t', rfl⟩ := e2 u hu
    have hm : V.ref t ∈ xs := by rw [e1]; exact List.mem_map.mpr ⟨_, hv, rfl⟩
    have hm' : V.ref t' ∈ xs := by rw [e1]; exact List.mem_map.mpr ⟨_, hu, rfl⟩
    have z := inj _ hm _ hm' e
    rw [V.ref.inj z]
  · have h3 : ∀ u ∈ out, ∃ a, u = Value.ref a := fun u hu => e2 u (h2.perm.mem_iff.mp hu)
    obtain ⟨n, hn⟩ := hn
    have hb : Stb (fun v u => ltS (k v) (k u)) (out.map backV) xs := by
      rw [e1]
      exact SrtO.Stb.map (swo_str k) backV h2
    refine ⟨.ref d, upd H d (.lst (out.map backV)), I.laid (t' := s.toks) kp hd ⟨?_, out, n, vals_back h3, hn⟩, rfl, q _ d (SrtO.srtd_map h1) hb.perm (I.hok.fresh hd)⟩
    rw [hb.len]
    exact hz
end
end SrtW
theorem sl_tupAK {X : L2.Cx} {K1 : PySem.W.Frag} (h : X.K = K1) : L2.SlR X (L2.rSlA K1) := by
  subst h
  exact L2.sl_tupA
/-! ### a tuple with its object told; dict of a tuple of pairs; get of what may be None -/
namespace L2
open PySem PySem.Spec PyProof.Rows
section
variable {X : Cx}
theorem call_tupleF : CallR X (.type "tuple") (fun xs H Q => ∃ p ys, xs = [.ref p] ∧ SqL X.K H p ys ∧ ∀ l o, H l = none → o.dict = none → Q (.ref l) (upd H l (.frz o (.tup ys)))) := by
  intro pins s σ H xs us Q I r h
  obtain ⟨p, ys, rfl, hq, q⟩ := h
  obtain ⟨u, rfl, rx⟩ := vals1 r
  cases rx
  obtain ⟨its, r', pl, hz⟩ := I.list hq
  have hlen := r'.length
  refine call_tuple_list pl.isList (fun h' kp => ?_) (by simp only [List.size_toArray] <;> omega)
  have I1 : Inv X pins σ H { s with heap := h' } := I.kept (t' := s.toks) kp
  have I2 : Inv X pins σ (upd H h'.objs.size (.frz { cls := .type "tuple", data := .seq its.toArray } (.tup ys))) { s with heap := h'.push { cls := .type "tuple", data := .seq its.toArray } } :=
    I1.laid (t' := s.toks) (fun b o e => Heap.get?_push_of_some _ e) (Nat.le_refl _) (show ObjOk X.prog X.w _ _ _ (.frz _ (.tup ys)) from ⟨Heap.get?_push_size _ rfl, hz, its, r', IsTup.new _ _⟩)
  exact ⟨.ref h'.objs.size, _, I2, rfl, q _ _ (I1.hok.fresh (Nat.le_refl _)) rfl⟩
/-- dict(t), t a tuple of pairs whose object is told -/
theorem call_dictT (hcalm : X.calm = true) : CallR X (.type "dict") (fun xs H Q => ∃ (a : Addr) (o : Obj) (ps : List Addr) (kvs : List (Key × V)), xs = [.ref a] ∧ H a = some (.frz o (.tup (ps.map V.ref))) ∧ o.dict = none ∧ Paired (fun p kv => SqT X.K H p [kV kv.1, kv.2]) ps kvs ∧
    ∀ p, H p = none → Q (.ref p) (upd H p (.dK (mergeK [] kvs)))) := by
  intro pins s σ H xs us Q I r q
  obtain ⟨a, o, ps, kvs, ex, hq, hdn, hp, q⟩ := q
  subst ex
  obtain ⟨u, eu, rx⟩ := vals1 r
  subst eu
  cases rx
  obtain ⟨ho, hz, its, rv, ht⟩ := (show ObjOk X.prog X.w H s.heap a (.frz o (.tup (ps.map V.ref))) from I.hok a _ hq)
  have ei := refs_at rv
  subst ei
  rw [List.length_map] at hz
  obtain ⟨prs, rel, hl, hpr⟩ := pairs_of I hp
  obtain ⟨o2, ho2, hc, n, hdat⟩ := ht
  rw [ho] at ho2
  cases ho2
  have hpair : ∀ (j : Nat) (q' : Key × Value), prs[j]? = some q' → ∃ (b : Addr) (u : Value), ps[j]? = some b ∧ IsTup s.heap b #[u, q'.2] ∧ keyIs q'.1 u = true := hpr
  -- the pairs by their values
  have hvals : ∃ vs : List (Value × Value), vs.length = ps.length ∧ ∀ (j : Nat) (q' : Key × Value), prs[j]? = some q' → ∃ (b : Addr) (u : Value), ps[j]? = some b ∧ vs[j]? = some (u, q'.2) ∧ IsTup s.heap b #[u, q'.2] ∧ keyIs q'.1 u = true := by
    clear rel hp q
    have key : ∀ (prs : List (Key × Value)) (ps : List Addr), prs.length = ps.length → (∀ (j : Nat) (q' : Key × Value), prs[j]? = some q' → ∃ (b : Addr) (u : Value), ps[j]? = some b ∧ IsTup s.heap b #[u, q'.2] ∧ keyIs q'.1 u = true) →
        ∃ vs : List (Value × Value), vs.length = ps.length ∧ ∀ (j : Nat) (q' : Key × Value), prs[j]? = some q' → ∃ (b : Addr) (u : Value), ps[j]? = some b ∧ vs[j]? = some (u, q'.2) ∧ IsTup s.heap b #[u, q'.2] ∧ keyIs q'.1 u = true := by
      intro prs
      induction prs with
      | nil =>
        intro ps l _
        exact ⟨[], l, fun j q' e => by simp at e⟩
      | cons p r ih =>
        intro ps l hh
        cases ps with
        | nil => cases l
        | cons b bs =>
          obtain ⟨vs, l1, h1⟩ := ih bs (Nat.succ.inj l) (fun j q' e => by
            obtain ⟨b', u, e1, e2, e3⟩ := hh (j + 1) q' (by simpa using e)
            exact ⟨b', u, by simpa using e1, e2, e3⟩)
          obtain ⟨b0, u0, e1, e2, e3⟩ := hh 0 p rfl
          refine ⟨(u0, p.2) :: vs, congrArg Nat.succ l1, fun j q' e => ?_⟩
          cases j with
          | zero =>
            have e' : p = q' := Option.some.inj e
            subst e'
            exact ⟨b0, u0, e1, rfl, e2, e3⟩
          | succ j =>
            obtain ⟨b', u, f1, f2, f3, f4⟩ := h1 j q' (by simpa using e)
            exact ⟨b', u, by simpa using f1, by simpa using f2, f3, f4⟩
    exact key prs ps hl hpair
  obtain ⟨vs, lv, hv⟩ := hvals
  have lp : prs.length = vs.length := hl.trans lv.symm
  refine PySem.call_dict_pairs (knd := mixKind X.prog X.w) (kvs := prs) (PairArg.tuple a (ps.map Value.ref).toArray (fun j => ps.getD j 0) vs) (I.ok.hd hcalm) ⟨⟨o, n, ho, hc, hdn, hdat⟩, by simp [lv], fun j k v e => ?_⟩ ⟨lp, fun j k v e => ?_⟩ (by rw [lv]; exact hz) fun h' tk hd' k => ?_
  · have hj : j < prs.length := by
      rw [lp]
      exact (List.getElem?_eq_some_iff.mp e).1
    obtain ⟨b, u, e1, e2, e3, e4⟩ := hv j prs[j] (List.getElem?_eq_getElem hj)
    rw [e] at e2
    injection e2 with e5
    injection e5 with e6 e7
    subst e6 e7
    refine ⟨by simp [e1, List.getD_eq_getElem?_getD], ?_⟩
    show PairAt s.heap (ps.getD j 0) k prs[j].snd
    rw [List.getD_eq_getElem?_getD, e1]
    exact .inl e3
  · have hj : j < prs.length := by
      rw [lp]
      exact (List.getElem?_eq_some_iff.mp e).1
    obtain ⟨b, u, e1, e2, e3, e4⟩ := hv j prs[j] (List.getElem?_eq_getElem hj)
    rw [e] at e2
    injection e2 with e5
    injection e5 with e6 e7
    subst e6
    refine ⟨prs[j].1, ?_, e4⟩
    rw [List.getElem?_eq_getElem hj, e7]
  · have hm : (s.heap.objs.size == sysModules) = false := beq_eq_false_iff_ne.mpr (Nat.ne_of_gt I.big)
    have hlen : (mergeK [] kvs).length ≤ sizeLine := by
      refine Nat.le_trans (length_mergeK kvs []) ?_
      rw [List.length_nil, Nat.zero_add, rel.length, hl]
      exact hz
    exact ⟨.ref s.heap.objs.size, upd H s.heap.objs.size (.dK (mergeK [] kvs)), I.laid (t' := tk) (fun b o e => k b o (by simp) e) (Nat.le_refl _) (show ObjOk X.prog X.w _ _ _ (.dK (mergeK [] kvs)) from ⟨hlen, hm, merged [] prs, KV.merge rel .nil, hd'⟩), rfl, q _ (I.hok.fresh (Nat.le_refl _))⟩
/-- d.get(y), d.get(y, x): y may be None -/
def DGetN (H : Hp) (a : Addr) (y : V) (r : Option V) : Prop := DGet H a y r ∨ (y = .non ∧ r = none ∧ ∃ kvs, Rd H a (.dK kvs))
def tDGetN1 (td ty : TE) : TE := fun σ H Q => td σ H fun x H1 => ∃ a, x = .ref a ∧ IsD H1 a ∧ ty σ H1 fun y H2 => ∃ o, DGetN H2 a y o ∧ Q (o.getD .non) H2
def tDGetN2 (td ty tx : TE) : TE := fun σ H Q => td σ H fun x H1 => ∃ a, x = .ref a ∧ IsD H1 a ∧ ty σ H1 fun y H2 => tx σ H2 fun z H3 => ∃ o, DGetN H3 a y o ∧ Q (o.getD z) H3
variable {o e f : Expr} {apos cpos : Pos} {td ty tx : TE}
theorem pe_dgetN1 (hu : X.A.units + 1 < cLine) (ho : PE X o td) (he : PE X e ty) (m : M1 X o "get" apos e cpos) : PE X (.Call (.Attribute o "get" apos) [e] [] cpos) (tDGetN1 td ty) := by
  refine ⟨fun pins s σ H Q I h => ?_⟩
  refine wpAny_Call_method m.base m.few m.line PySem.F.plainAttrs_dict PySem.F.slot_dict_get PySem.F.type_dict_get (thn (ho.run pins s σ H _ I h) fun u s1 ⟨x, H1, I1, rx, a, ex, d, q1⟩ => ?_)
  subst ex
  obtain rfl : u = Value.ref a := rx
  obtain ⟨t1, t2, _⟩ := isD_at I1 d
  refine ⟨t1, t2, ?_⟩
  rw [m.trees]
  refine Calls.callWith_builtin rfl (Calls.evalArgs_plain (Calls.spliced_cons (thn (he.run pins s1 σ H1 _ I1 q1) fun iv s2 ⟨y, H2, I2, ry, ov, g, q2⟩ => Calls.spliced_nil ?_)))
  rcases g with g | ⟨rfl, rfl, kvs, g⟩
  · exact d_get1 hu I2 g ry fun w' s3 I3 rw' => ⟨_, H2, I3, rw', q2⟩
  · obtain rfl : iv = Value.none := ry
    obtain ⟨_, hd, vs, _, dd⟩ := dk_rd I2.hok g
    obtain ⟨f, hm, hf⟩ := none_map dd
    refine call_meetsIn PySem.F.slot_dict_get dd.typeIs PySem.F.entry_dict_get (PySem.F.args_dict_get_2 _ _) (meets_dict_get (noneKind X.prog X.w) a (show (noneKind X.prog X.w).is none .none = true from rfl) hd) ⟨f, hm, ?_⟩
    rw [hf]
    exact ⟨.non, H2, I2.tok _, rfl, q2⟩
theorem pe_dgetN2 (hu : X.A.units + 1 < cLine) (ho : PE X o td) (he : PE X e ty) (hf : PE X f tx) (m : M2 X o "get" apos e f cpos) : PE X (.Call (.Attribute o "get" apos) [e, f] [] cpos) (tDGetN2 td ty tx) := by
  refine ⟨fun pins s σ H Q I h => ?_⟩
  refine wpAny_Call_method m.base m.few m.line PySem.F.plainAttrs_dict PySem.F.slot_dict_get PySem.F.type_dict_get (thn (ho.run pins s σ H _ I h) fun u s1 ⟨x, H1, I1, rx, a, ex, d, q1⟩ => ?_)
  subst ex
  obtain rfl : u = Value.ref a := rx
  obtain ⟨t1, t2, _⟩ := isD_at I1 d
  refine ⟨t1, t2, ?_⟩
  rw [m.trees]
  refine Calls.callWith_builtin rfl (Calls.evalArgs_plain (Calls.spliced_cons (thn (he.run pins s1 σ H1 _ I1 q1) fun iv s2 ⟨y, H2, I2, ry, q2⟩ => Calls.spliced_cons (thn (hf.run pins s2 σ H2 _ I2 q2) fun zv s3 ⟨z, H3, I3, rz, ov, g, q3⟩ => Calls.spliced_nil ?_))))
  rcases g with g | ⟨rfl, rfl, kvs, g⟩
  · exact d_get2 hu I3 g ry rz fun w' s3 I3 rw' => ⟨_, H3, I3, rw', q3⟩
  · obtain rfl : iv = Value.none := ry
    obtain ⟨_, hd, vs, _, dd⟩ := dk_rd I3.hok g
    obtain ⟨f, hm, hf⟩ := none_map dd
    refine call_meetsIn PySem.F.slot_dict_get dd.typeIs PySem.F.entry_dict_get (PySem.F.args_dict_get_3 _ _ _) (meets_dict_get_default (noneKind X.prog X.w) a (show (noneKind X.prog X.w).is none .none = true from rfl) hd zv) ⟨f, hm, ?_⟩
    rw [hf]
    exact ⟨z, H3, I3.tok _, rz, q3⟩
end
end L2
/-! ### repr of data, whatever it is -/
namespace L2
open PySem PySem.Spec PyProof.Rows
section
variable {X : Cx} {K1 : PySem.W.Frag}
def rReprA (K : PySem.W.Frag) : List V → Hp → VK → Prop := fun xs H Q => ∃ (v : V) (d : PyData), xs = [v] ∧ Dp K H v d ∧ d.showable = true ∧ d.hasDict = false ∧ d.depth ≤ 60 ∧ d.shown.length ≤ sizeLine ∧ Q (.str d.shown) H
theorem call_reprK (hK : X.K = K1) (hg : X.A.guards = some []) (hu : X.A.units + 64 < cLine) : CallR X (.builtin "repr") (rReprA K1) := by
  subst hK
  intro pins s σ H xs us Q I r h
  obtain ⟨v, d, rfl, hd, hs, hnd, hdp, hsz, q⟩ := h
  obtain ⟨u, rfl, rv⟩ := vals1 r
  cases hd with
  | non =>
    cases rv
    exact PySem.P.repr_of_none ⟨.str _, H, I.tok _, ⟨_, rfl⟩, q⟩
  | bl b =>
    cases rv
    exact PySem.P.repr_of_bool ⟨.str _, H, I.tok _, ⟨_, rfl⟩, q⟩
  | int i =>
    obtain ⟨t, rfl⟩ := rv
    exact PySem.P.repr_of_int (of_decide_eq_true hs) ⟨.str _, H, I.tok _, ⟨_, rfl⟩, q⟩
  | str x =>
    obtain ⟨t, rfl⟩ := rv
    exact PySem.P.repr_of_str ⟨.str _, H, I.tok _, ⟨_, rfl⟩, q⟩ hsz
  | lst a1 a2 =>
    cases rv
    obtain ⟨as, hr⟩ := Dp.reads I _ _ _ (.lst a1 a2) rfl
    exact repr_of_reads' hr hs (PyData.noDict_hsm hnd) hg (by omega) (fun _ _ e => e) (fun h' u tk hk => ⟨.str _, H, I.kept (t' := tk) hk, ⟨u, rfl⟩, q⟩) hsz
  | tup a1 a2 =>
    cases rv
    obtain ⟨as, hr⟩ := Dp.reads I _ _ _ (.tup a1 a2) rfl
    exact repr_of_reads' hr hs (PyData.noDict_hsm hnd) hg (by omega) (fun _ _ e => e) (fun h' u tk hk => ⟨.str _, H, I.kept (t' := tk) hk, ⟨u, rfl⟩, q⟩) hsz
theorem ix_listK (hK : X.K = K1) : IxR X (rIxL K1) := by
  subst hK
  exact ix_list
theorem ix_tupK (hK : X.K = K1) : IxR X (rIxT K1) := by
  subst hK
  exact ix_tup
theorem op_in_seqK (hK : X.K = K1) : OpR X (compareOp .In) (rIn K1 false) := by
  subst hK
  exact op_in_seq
end
end L2
/-! ### the law's own call, what runs around it told: nothing is being shown -/
namespace L2
open PySem PySem.Spec PyProof.Rows
/-- the promise of the def at f, called where A runs around -/
def FnAt (A : Around) (P : Program) (w : World) (K : PySem.W.Frag) (mg : Str → Option Value) (base : Heap) (CX : CXT) (k : Nat) (f : Addr) (fd : FuncData) (ps : List Str) (sp : Sp) : Prop :=
  ∀ (s : Shared) (H : Hp) (args : Args) (us : List Value) (vs : List V) (Q : VK) (E : XK), Room k A → Env0 P w K mg base A [] s H → BindsTo s fd args (ps.zip us) → Vals vs us → sp vs H Q E → codeAny (model P w) A (.call (.ref f) args) (CR CX [] P w H s Q E) s
theorem fnat_of {A : Around} {CX : CXT} {P : Program} {w : World} {K : PySem.W.Frag} {mg : Str → Option Value} {base : Heap} {k : Nat} {f : Addr} {fd : FuncData} {x qual : Str} {params : Arguments} {body : List Stmt} {scope : Scope} {N ps : List Str} {sp : Sp} {dvs : List V} {kws : List (Str × V)}
    (F : FunD K x qual params body scope dvs kws f fd) (S : FnScope N ps scope) (len : ∀ vs H Q E, sp vs H Q E → vs.length = ps.length)
    (hb : ∀ (cdv : Value) (s : Shared) (H : Hp) (vs : List V) (Q : VK) (E : XK), Room k (A.deeper (envOfC qual scope s.heap.objs.size f cdv)) → sp vs H Q E → ∃ t, PSs (cxOf CX P w K mg base N qual scope f cdv A [] s H E) body t ∧ t { nx := fun _ H' => Q .non H', rt := Q } (start N vs) H) :
    FnAt A P w K mg base CX (k + 1) f fd ps sp := by
  obtain ⟨oc, od, dV, kV, doc, pm, an, cdv, ct, osl, rfl, lk, hcd, _, _⟩ := F.ex
  intro s H args us vs Q E hr e0 bt r hsp
  have lv := len _ _ _ _ hsp
  have inK : K.In s.heap := e0.mod.kin.keeps fun b o e => (e0.bs b o e).1
  have nolim : s.heap.NoLimit := e0.mod.nolimit.keeps fun b o e => (e0.bs b o e).1
  have kinds : ∀ y ∈ ps.zip us, scope.names.lookup y.1 = some .local ∨ (scope.names.lookup y.1 = some .cell ∧ ((cellsFrom (s.heap.objs.size + 1) scope.names []).lookup y.1).isSome = true) := fun ⟨n, v⟩ hy =>
    (S.par n (List.of_mem_zip hy).1).elim .inl fun q => .inr ⟨q, PySem.W.cellsFrom_some _ _ _ (.inl q)⟩
  refine codeAny_call_function hr.depth (inK _ _ lk) rfl S.co S.gen rfl (PySem.W.codeRec_of inK hcd) (bt _ _ _ _ (wpAny_newFunctionEnv_cells S.kind kinds fun env he s1 x => ?_))
  subst he
  obtain ⟨t, ht, hq⟩ := hb cdv s H vs Q E (hr.deeper _) hsp
  have I : Inv (cxOf CX P w K mg base N qual scope f cdv A [] s H E) [] (start N vs) H s1 := inv_start S hr.hd e0 lv r x
  refine ⟨nolim.keeps x.toInCall.keep, codeAny_func (wpAny_mono (ht.run [] s1 (start N vs) H _ I hq) (fun fl s' hs => ?_) fun e s' hs => hs)⟩
  match fl, hs with
  | .ret u, ⟨v, σ', H', J, rv, q⟩ => exact ⟨v, H', J.os, J.bare, J.base, J.hok, rv, q⟩
  | .next, ⟨σ', H', J, q⟩ => exact ⟨V.non, H', J.os, J.bare, J.base, J.hok, rfl, q⟩
  | .brk, ⟨_, _, _, q⟩ => exact False.elim q
  | .cont, ⟨_, _, _, q⟩ => exact False.elim q
theorem law_at {P : Program} {w : World} {K : PySem.W.Frag} {mg mb : Str → Option Value} {k : Nat} {fa a : Addr} {fd : FuncData} {x : Str} {sp : Sp} {s1 : Shared} {vs : List Value} {ns : List Int} (KX : K.In s1.heap) (hns : s1.heap.Ns mainGlobals mg) (hb : s1.heap.Ns builtinsNs mb) (hbb : ∀ x : Str, x ≠ "__name__" → mb x = bootBuiltins x)
    (hlim : s1.heap.NoLimit) (hg : s1.gens = #[]) (ha : s1.heap.get? a = some { cls := .type "list", data := .seq vs.toArray }) (hi : IntsAre vs ns) (hl : ns.length ≤ sizeLine) (hr : Room k callerA)
    (F : ∀ base : Heap, K.In base → base.Ns mainGlobals mg → FnAt callerA P w K mg base CX0 k fa fd [x] sp) (hbind : ∀ (s : Shared) (u : Value), BindsTo s fd ⟨[u], []⟩ [(x, u)]) (hsp : ∀ H : Hp, Only H → SqL K H a (ns.map V.int) → sp [.ref a] H (fun v _ => v = .bl true) fun _ _ _ => False) :
    codeAny (model P w) callerA (.call (.ref fa) ⟨[.ref a], []⟩) (fun r s' => r = .ok (.ret (.bool true)) ∧ OldK s1.heap s'.heap ∧ s'.os = s1.os ∧ AllBare s'.gens) s1 := by
  have rv := vals_ints hi
  have core : ∀ H : Hp, Only H → SqL K H a (ns.map V.int) → HOk P w H s1.heap → (∀ b, H b ≠ none → b = a) → (H a ≠ none → K.lookup a = none) → codeAny (model P w) callerA (.call (.ref fa) ⟨[.ref a], []⟩) (fun r s' => r = .ok (.ret (.bool true)) ∧ OldK s1.heap s'.heap ∧ s'.os = s1.os ∧ AllBare s'.gens) s1 := by
    intro H only hS hok alone out
    have stays : ∀ {b : Addr} {o : Obj}, s1.heap.get? b = some o → H b = none → (hidT s1.heap H).get? b = some o := fun e n => hidT_get e n
    have free : ∀ {b : Addr} {o : Obj} {es : Array DictEntry} {ep : Nat}, s1.heap.get? b = some o → o.data = .dict es ep → H b = none := fun {b o es ep} e dd => by
      cases q : H b with
      | none => rfl
      | some u =>
        have eb : b = a := alone b fun z => by rw [q] at z; cases z
        subst eb
        rw [ha] at e
        cases e
        cases (show Data.seq vs.toArray _ = Data.dict es ep from dd)
    have names : ∀ {b : Addr} {m : Str → Option Value}, s1.heap.Ns b m → (hidT s1.heap H).Ns b m := fun {b m} ⟨o, es, ep, e, dd, r⟩ => ⟨o, es, ep, stays e (free e dd), dd, r⟩
    have inB : K.In (hidT s1.heap H) := fun b o e => stays (KX b o e) (by
      cases q : H b with
      | none => rfl
      | some u =>
        have eb : b = a := alone b fun z => by rw [q] at z; cases z
        subst eb
        rw [out fun z => by rw [q] at z; cases z] at e
        cases e)
    have modB : Mod K mg (hidT s1.heap H) := ⟨inB, names hns, ⟨mb, names hb, hbb⟩, let ⟨mc, h1, h2⟩ := hlim; ⟨mc, names h1, h2⟩⟩
    have env : Env0 P w K mg (hidT s1.heap H) callerA [] s1 H := ⟨rfl, modB, fun b o e => of_hidT e, Nat.le_of_eq (hidT_size _ _), trivial, fun b z => (nomatch (show b ∈ ([] : List Addr) from z)), hok, .of_eq hg⟩
    refine codeAny_mono (F _ inB (names hns) s1 H ⟨[.ref a], []⟩ [.ref a] [.ref a] _ _ hr env (hbind s1 (.ref a)) (.cons rfl .nil) (hsp H only hS)) fun r s' h => ?_
    match r, h with
    | .error e, h => exact (show False from h).elim
    | .ok .next, h => exact (show False from h).elim
    | .ok .brk, h => exact (show False from h).elim
    | .ok .cont, h => exact (show False from h).elim
    | .ok (.ret u), ⟨v, H', os, bare, un, hok', r', q⟩ =>
      have q' : v = .bl true := q
      subst q'
      obtain rfl : u = Value.bool true := r'
      refine ⟨rfl, OldK.of_keep fun b o e => ?_, os, bare⟩
      cases q : H b with
      | none => exact un.keep b o e q (fun z => nomatch (show b ∈ ([] : List Addr) from z)) (by simp)
      | some u =>
        rcases only b with z | ⟨ob, xs, z⟩
        · rw [q] at z; cases z
        · obtain ⟨e1, _⟩ := hok b _ z; obtain ⟨e2, _⟩ := hok' b _ (un.frzs b ob _ z)
          rw [e] at e1; cases e1; exact e2
  cases hk : K.lookup a with
  | some o =>
    have e := KX a o hk; rw [ha] at e; cases e
    exact core (fun _ => none) (fun _ => .inl rfl) (.inr ⟨_, vs.toArray, _, hk, rfl, rfl, rfl, by rw [List.size_toArray, hi.length]; exact hl, by simpa using rv⟩) (fun b u z => (nomatch (show (none : Option HO) = some u from z))) (fun b z => absurd rfl z) fun z => absurd rfl z
  | none =>
    refine core (fun b => if b = a then some (.frz { cls := .type "list", data := .seq vs.toArray } (.lst (ns.map V.int))) else none) (fun b => ?_) (.inl (.inr ⟨_, if_pos rfl⟩)) (fun b u z => ?_) (fun b z => Decidable.byContradiction fun hb => z (if_neg hb)) fun _ => hk
    · by_cases eb : b = a
      · exact .inr ⟨_, _, if_pos eb⟩
      · exact .inl (if_neg eb)
    · by_cases eb : b = a
      · cases (if_pos eb).symm.trans z
        subst eb
        exact ⟨ha, by rw [List.length_map]; exact hl, vs, _, rv, ha⟩
      · cases (if_neg eb).symm.trans z
theorem walk_at {l : PySem.W.OpenLaw} {n k : Nat} {q : Program} {loose : List Str} {XP : (Str → Option Value) → Heap → Prop} {YP : World → Heap → Prop} {d : DefRec} {x : Str} (hn : l.most = some n) (hn2 : n ≤ sizeLine) (hdf : d.params.defaults = []) (hr : Room k callerA)
    (F : ∀ (w : World) (mg : Str → Option Value) (fa : Addr) (h : Heap), YP w h → h.Ns mainGlobals mg → mg d.name = some (.ref fa) → ∃ (K : PySem.W.Frag) (fd : FuncData) (sp : Sp), K.In h ∧ (∀ (s : Shared) (u : Value), BindsTo s fd ⟨[u], []⟩ [(x, u)]) ∧
        (∀ (H : Hp) (a : Addr) (ns : List Int), ns.length ≤ n → Only H → SqL K H a (ns.map V.int) → sp [.ref a] H (fun v _ => v = .bl true) fun _ _ _ => False) ∧ ∀ base : Heap, K.In base → base.Ns mainGlobals mg → FnAt callerA l.prog w K mg base CX0 k fa fd [x] sp) :
    PySem.W.WalkO q loose XP YP l.row.toRowW d [] (fun f vs => PySem.call f vs) := by
  refine Att.attach_call hn hdf fun w s₀ s1 mg mb fa o pm cd doc a vs ns G Y ho hd hcd hmg hobj hints hlen hg => ?_
  obtain ⟨K, fd, sp, KX, hb, hsp, hF⟩ := F w mg fa _ Y G.T.g hmg
  exact law_at KX G.T.g G.T.b G.T.builtins G.T.nolimit hg hobj hints (Nat.le_trans hlen hn2) hr hF hb fun H hO hS => hsp H a ns hlen hO hS
/-- repr of data, where nothing is being shown -/
def rRepr (K : PySem.W.Frag) : List V → Hp → VK → Prop := fun xs H Q => ∃ (a : Addr) (d : PyData), xs = [.ref a] ∧ Dp K H (.ref a) d ∧ d.showable = true ∧ d.hasDict = false ∧ d.depth ≤ 60 ∧ d.shown.length ≤ sizeLine ∧ Q (.str d.shown) H
theorem call_repr {X : Cx} (hg : X.A.guards = some []) (hu : X.A.units + 64 < cLine) : CallR X (.builtin "repr") (rRepr X.K) := by
  intro pins s σ H xs us Q I r h
  obtain ⟨a, d, rfl, hd, hs, hnd, hdp, hsz, q⟩ := h
  rw [Vals.ref1 r]
  obtain ⟨as, hr⟩ := Dp.reads I d (.ref a) (.ref a) hd rfl
  exact repr_of_reads' hr hs (PyData.noDict_hsm hnd) hg (by omega) (fun _ _ e => e) (fun h' u tk hk => ⟨.str d.shown, H, I.kept (t' := tk) hk, ⟨u, rfl⟩, q⟩) hsz
end L2
/-! ### the law's own call where some defs make lambdas: their tables are tracked from the start -/
namespace L2
open PySem PySem.Spec PyProof.Rows
/-- the code object of the def at f -/
def CodeAt (K : PySem.W.Frag) (f : Addr) (cdv : Value) : Prop := ∃ (oc : Value) (od : Option Addr) (fd : FuncData) (osl : Array (Option Value)), K.lookup f = some ⟨oc, od, .func fd, osl⟩ ∧ fd.code = cdv
theorem fnat_ofC {A : Around} {CX : CXT} {P : Program} {w : World} {K : PySem.W.Frag} {mg : Str → Option Value} {base : Heap} {k : Nat} {f : Addr} {fd : FuncData} {x qual : Str} {params : Arguments} {body : List Stmt} {scope : Scope} {N ps : List Str} {sp : Sp} {dvs : List V} {kws : List (Str × V)}
    (F : FunD K x qual params body scope dvs kws f fd) (S : FnScope N ps scope) (len : ∀ vs H Q E, sp vs H Q E → vs.length = ps.length)
    (hb : ∀ (cdv : Value), CodeAt K f cdv → PySem.W.codeIn K cdv qual = true → ∀ (s : Shared) (H : Hp) (vs : List V) (Q : VK) (E : XK), Room k (A.deeper (envOfC qual scope s.heap.objs.size f cdv)) → sp vs H Q E → ∃ t, PSs (cxOf CX P w K mg base N qual scope f cdv A [] s H E) body t ∧ t { nx := fun _ H' => Q .non H', rt := Q } (start N vs) H) :
    FnAt A P w K mg base CX (k + 1) f fd ps sp := by
  obtain ⟨oc, od, dV, kV, doc, pm, an, cdv, ct, osl, rfl, lk, hcd, _, _⟩ := F.ex
  intro s H args us vs Q E hr e0 bt r hsp
  have lv := len _ _ _ _ hsp
  have inK : K.In s.heap := e0.mod.kin.keeps fun b o e => (e0.bs b o e).1
  have nolim : s.heap.NoLimit := e0.mod.nolimit.keeps fun b o e => (e0.bs b o e).1
  have kinds : ∀ y ∈ ps.zip us, scope.names.lookup y.1 = some .local ∨ (scope.names.lookup y.1 = some .cell ∧ ((cellsFrom (s.heap.objs.size + 1) scope.names []).lookup y.1).isSome = true) := fun ⟨n, v⟩ hy =>
    (S.par n (List.of_mem_zip hy).1).elim .inl fun q => .inr ⟨q, PySem.W.cellsFrom_some _ _ _ (.inl q)⟩
  refine codeAny_call_function hr.depth (inK _ _ lk) rfl S.co S.gen rfl (PySem.W.codeRec_of inK hcd) (bt _ _ _ _ (wpAny_newFunctionEnv_cells S.kind kinds fun env he s1 x => ?_))
  subst he
  obtain ⟨t, ht, hq⟩ := hb cdv ⟨_, _, _, _, lk, rfl⟩ hcd s H vs Q E (hr.deeper _) hsp
  have I : Inv (cxOf CX P w K mg base N qual scope f cdv A [] s H E) [] (start N vs) H s1 := inv_start S hr.hd e0 lv r x
  refine ⟨nolim.keeps x.toInCall.keep, codeAny_func (wpAny_mono (ht.run [] s1 (start N vs) H _ I hq) (fun fl s' hs => ?_) fun e s' hs => hs)⟩
  match fl, hs with
  | .ret u, ⟨v, σ', H', J, rv, q⟩ => exact ⟨v, H', J.os, J.bare, J.base, J.hok, rv, q⟩
  | .next, ⟨σ', H', J, q⟩ => exact ⟨V.non, H', J.os, J.bare, J.base, J.hok, rfl, q⟩
  | .brk, ⟨_, _, _, q⟩ => exact False.elim q
  | .cont, ⟨_, _, _, q⟩ => exact False.elim q
theorem code_is {K : PySem.W.Frag} {p : He.Defn} {cdv : Value} {q : Str} (h : CodeAt K (He.fAd K p) cdv) (hq : PySem.W.codeIn K cdv q = true) : cdv = .ref (He.cT K p).1 := by
  obtain ⟨oc, od, fd, osl, lk, e⟩ := h
  obtain ⟨c, rfl⟩ := He.codeIn_ref hq
  exact congrArg Value.ref (He.codeOf_eq lk e).symm
/-- what is tracked at the law's entry: the tables, and the script where the written part does not have it -/
def trackT (K : PySem.W.Frag) (tl : List Addr) (a : Addr) (o : Obj) (ns : List Int) : Hp := fun b => if b ∈ tl then some (.tbl #[]) else if b = a ∧ K.lookup a = none then some (.frz o (.lst (ns.map V.int))) else none
theorem law_atT {P : Program} {w : World} {K : PySem.W.Frag} {mg mb : Str → Option Value} {k : Nat} {fa a : Addr} {cs : List (Addr × Addr)} {fd : FuncData} {x : Str} {sp : Sp} {s1 : Shared} {vs : List Value} {ns : List Int} (KX : K.In s1.heap) (hns : s1.heap.Ns mainGlobals mg) (hb : s1.heap.Ns builtinsNs mb) (hbb : ∀ x : Str, x ≠ "__name__" → mb x = bootBuiltins x)
    (hlim : s1.heap.NoLimit) (hg : s1.gens = #[]) (te : ∀ p ∈ cs, s1.heap.get? p.2 = some { cls := .none, data := .fields #[] }) (tn : ∀ p ∈ cs, K.lookup p.2 = none) (tc : ∀ p ∈ cs, PySem.W.codeHdIn K p.1 p.2 = true)
    (bmain : ∃ (bm : Addr) (ob : Obj), mg "__builtins__" = some (.ref bm) ∧ bm ≠ builtinsNs ∧ s1.heap.get? bm = some ob ∧ ob.cls = .type "module" ∧ ob.dict = some builtinsNs ∧ ob.data = .plain)
    (ha : s1.heap.get? a = some { cls := .type "list", data := .seq vs.toArray }) (hi : IntsAre vs ns) (hl : ns.length ≤ sizeLine) (hr : Room k callerA)
    (F : ∀ base : Heap, K.In base → base.Ns mainGlobals mg → (∀ p ∈ cs, LamX.TabB base mg p.1 p.2) → FnAt callerA P w K mg base CX0 k fa fd [x] sp) (hbind : ∀ (s : Shared) (u : Value), BindsTo s fd ⟨[u], []⟩ [(x, u)])
    (hsp : ∀ H : Hp, (∀ p ∈ cs, H p.2 = some (.tbl #[])) → SqL K H a (ns.map V.int) → sp [.ref a] H (fun v _ => v = .bl true) fun _ _ _ => False) :
    codeAny (model P w) callerA (.call (.ref fa) ⟨[.ref a], []⟩) (fun r s' => r = .ok (.ret (.bool true)) ∧ OldK s1.heap s'.heap ∧ s'.os = s1.os ∧ AllBare s'.gens) s1 := by
  have rv := vals_ints hi
  have tabs : ∀ b, b ∈ cs.map (·.2) → s1.heap.get? b = some { cls := .none, data := .fields #[] } ∧ K.lookup b = none := fun b hb => by
    obtain ⟨p, hp, rfl⟩ := List.mem_map.mp hb
    exact ⟨te p hp, tn p hp⟩
  have na : a ∉ cs.map (·.2) := fun z => by
    have q := (tabs a z).1
    rw [ha] at q
    have q2 := congrArg Obj.data (Option.some.inj q)
    cases (show Data.seq vs.toArray _ = Data.fields #[] from q2)
  generalize hH : trackT K (cs.map (·.2)) a { cls := .type "list", data := .seq vs.toArray } ns = H
  have atT : ∀ b, b ∈ cs.map (·.2) → H b = some (.tbl #[]) := fun b hb => by
    rw [← hH]
    exact if_pos hb
  have ways : ∀ b, (b ∈ cs.map (·.2) ∧ H b = some (.tbl #[])) ∨ (b = a ∧ K.lookup a = none ∧ H b = some (.frz { cls := .type "list", data := .seq vs.toArray } (.lst (ns.map V.int)))) ∨ H b = none := fun b => by
    by_cases z1 : b ∈ cs.map (·.2)
    · exact .inl ⟨z1, atT b z1⟩
    · by_cases z2 : b = a ∧ K.lookup a = none
      · refine .inr (.inl ⟨z2.1, z2.2, ?_⟩)
        rw [← hH]
        show (if _ then _ else _) = _
        rw [if_neg z1, if_pos z2]
      · refine .inr (.inr ?_)
        rw [← hH]
        show (if _ then _ else _) = _
        rw [if_neg z1, if_neg z2]
  have hS : SqL K H a (ns.map V.int) := by
    rcases ways a with ⟨z, _⟩ | ⟨_, _, z⟩ | z
    · exact absurd z na
    · exact .inl (.inr ⟨_, z⟩)
    · cases hk : K.lookup a with
      | none =>
        have z2 : H a = some (.frz { cls := .type "list", data := .seq vs.toArray } (.lst (ns.map V.int))) := by
          rw [← hH]
          show (if _ then _ else _) = _
          rw [if_neg na, if_pos ⟨rfl, hk⟩]
        rw [z] at z2
        cases z2
      | some o =>
        have e := KX a o hk
        rw [ha] at e
        cases e
        exact .inr ⟨_, vs.toArray, _, hk, rfl, rfl, rfl, by rw [List.size_toArray, hi.length]; exact hl, by simpa using rv⟩
  have hok : HOk P w H s1.heap := fun b u e => by
    rcases ways b with ⟨z1, z2⟩ | ⟨z1, _, z2⟩ | z2
    · rw [z2] at e
      cases e
      exact (tabs b z1).1
    · rw [z2] at e
      cases e
      rw [z1]
      exact ⟨ha, by rw [List.length_map]; exact hl, vs, _, rv, ha⟩
    · rw [z2] at e
      cases e
  -- what is neither a list nor an empty table is not tracked
  have other : ∀ {b : Addr} {o : Obj}, s1.heap.get? b = some o → (∀ us n, o.data ≠ .seq us n) → o.data ≠ .fields #[] → H b = none := fun {b o} e h1 h2 => by
    rcases ways b with ⟨z1, _⟩ | ⟨z1, _, _⟩ | z2
    · rw [(tabs b z1).1] at e
      cases e
      exact absurd rfl h2
    · rw [z1, ha] at e
      cases e
      exact absurd rfl (h1 _ _)
    · exact z2
  have stays : ∀ {b : Addr} {o : Obj}, s1.heap.get? b = some o → H b = none → (hidT s1.heap H).get? b = some o := fun e n => hidT_get e n
  have names : ∀ {b : Addr} {m : Str → Option Value}, s1.heap.Ns b m → (hidT s1.heap H).Ns b m := fun {b m} ⟨o, es, ep, e, dd, r⟩ => ⟨o, es, ep, stays e (other e (fun us n z => by rw [dd] at z; cases z) (fun z => by rw [dd] at z; cases z)), dd, r⟩
  have inB : K.In (hidT s1.heap H) := fun b o e => stays (KX b o e) (by
    rcases ways b with ⟨z1, _⟩ | ⟨z1, z2, _⟩ | z2
    · rw [(tabs b z1).2] at e
      cases e
    · rw [z1, z2] at e
      cases e
    · exact z2)
  have modB : Mod K mg (hidT s1.heap H) := ⟨inB, names hns, ⟨mb, names hb, hbb⟩, let ⟨mc, h1, h2⟩ := hlim; ⟨mc, names h1, h2⟩⟩
  have env : Env0 P w K mg (hidT s1.heap H) callerA [] s1 H := ⟨rfl, modB, fun b o e => of_hidT e, Nat.le_of_eq (hidT_size _ _), trivial, fun b z => (nomatch (show b ∈ ([] : List Addr) from z)), hok, .of_eq hg⟩
  have TB : ∀ p ∈ cs, LamX.TabB (hidT s1.heap H) mg p.1 p.2 := fun p hp => by
    have hP := te p hp
    obtain ⟨bm, ob, b1, b2, b3, b4, b5, b6⟩ := bmain
    have noG : ∀ c : Addr, (∀ o, s1.heap.get? c = some o → ∀ es n, o.data ≠ .dict es n) → mainGlobals ≠ c := fun c hc z => by
      obtain ⟨o, es, ep, e, dd, _⟩ := hns
      rw [z] at e
      exact hc o e es ep dd
    refine NdefX.tabB_of_K inB (tc p hp) ⟨bm, ob, b1, b2, (noG bm fun o e es n z => ?_).symm, fun z => ?_, stays b3 (other b3 (fun us n z => by rw [b6] at z; cases z) (fun z => by rw [b6] at z; cases z)), b4, b5, b6⟩ (noG p.2 fun o e es n z => ?_)
    · rw [b3] at e
      cases e
      rw [b6] at z
      cases z
    · rw [z, hP] at b3
      cases b3
      cases b6
    · rw [hP] at e
      cases e
      cases z
  refine codeAny_mono (F _ inB (names hns) TB s1 H ⟨[.ref a], []⟩ [.ref a] [.ref a] _ _ hr env (hbind s1 (.ref a)) (.cons rfl .nil) (hsp H (fun p hp => atT _ (List.mem_map.mpr ⟨p, hp, rfl⟩)) hS)) fun r s' h => ?_
  match r, h with
  | .error e, h => exact (show False from h).elim
  | .ok .next, h => exact (show False from h).elim
  | .ok .brk, h => exact (show False from h).elim
  | .ok .cont, h => exact (show False from h).elim
  | .ok (.ret u), ⟨v, H', os, bare, un, hok', r', q⟩ =>
    have q' : v = .bl true := q
    subst q'
    obtain rfl : u = Value.bool true := r'
    have kept : ∀ b o, b ∉ cs.map (·.2) → s1.heap.get? b = some o → s'.heap.get? b = some o := fun b o nb e => by
      rcases ways b with ⟨z1, _⟩ | ⟨_, _, z2⟩ | z2
      · exact absurd z1 nb
      · obtain ⟨e1, _⟩ := hok b _ z2
        obtain ⟨e2, _⟩ := hok' b _ (un.frzs b _ _ z2)
        rw [e] at e1
        cases e1
        exact e2
      · exact un.keep b o e z2 (fun z => nomatch (show b ∈ ([] : List Addr) from z)) (by simp)
    have grew : ∀ b, b ∈ cs.map (·.2) → ∃ more : Array Value, s'.heap.get? b = some { cls := .none, data := .fields more } := fun b hb => by
      obtain ⟨more, z⟩ := un.tbls b #[] (atT b hb)
      exact ⟨_, hok' b _ z⟩
    refine ⟨rfl, ⟨fun b o e => ?_, fun b o e => ?_⟩, os, bare⟩
    · by_cases hb : b ∈ cs.map (·.2)
      · obtain ⟨more, hm⟩ := grew b hb
        obtain ⟨p, hp, rfl⟩ := List.mem_map.mp hb
        rw [te p hp] at e
        cases e
        exact .inr (.inl ⟨((PySem.W.codeHd_of_K KX (tc p hp)).tab (te p hp)).isCodeTable, rfl, #[], more, rfl, by rw [Array.empty_append]; exact hm⟩)
      · exact .inl (kept b o hb e)
    · by_cases hb : b ∈ cs.map (·.2)
      · obtain ⟨more, hm⟩ := grew b hb
        exact ⟨_, hm⟩
      · exact ⟨o, kept b o hb e⟩
theorem walk_atT {l : PySem.W.OpenLaw} {n k : Nat} {q : Program} {loose : List Str} {XP : (Str → Option Value) → Heap → Prop} {YP : World → Heap → Prop} {d : DefRec} {x : Str} (hn : l.most = some n) (hn2 : n ≤ sizeLine) (hdf : d.params.defaults = []) (hr : Room k callerA)
    (F : ∀ (w : World) (mg : Str → Option Value) (fa : Addr) (h : Heap), YP w h → h.Ns mainGlobals mg → mg d.name = some (.ref fa) → ∃ (K : PySem.W.Frag) (fd : FuncData) (cs : List (Addr × Addr)) (sp : Sp), K.In h ∧ (∀ p ∈ cs, h.get? p.2 = some { cls := .none, data := .fields #[] }) ∧ (∀ p ∈ cs, K.lookup p.2 = none) ∧ (∀ p ∈ cs, PySem.W.codeHdIn K p.1 p.2 = true) ∧ (∀ (s : Shared) (u : Value), BindsTo s fd ⟨[u], []⟩ [(x, u)]) ∧
        (∀ (H : Hp) (a : Addr) (ns : List Int), ns.length ≤ n → (∀ p ∈ cs, H p.2 = some (.tbl #[])) → SqL K H a (ns.map V.int) → sp [.ref a] H (fun v _ => v = .bl true) fun _ _ _ => False) ∧ ∀ base : Heap, K.In base → base.Ns mainGlobals mg → (∀ p ∈ cs, LamX.TabB base mg p.1 p.2) → FnAt callerA l.prog w K mg base CX0 k fa fd [x] sp) :
    PySem.W.WalkO q loose XP YP l.row.toRowW d [] (fun f vs => PySem.call f vs) := by
  refine Att.attach_call hn hdf fun w s₀ s1 mg mb fa o pm cd doc a vs ns G Y ho hd hcd hmg hobj hints hlen hg => ?_
  obtain ⟨K, fd, cs, sp, KX, te, tn, tc, hb, hsp, hF⟩ := F w mg fa _ Y G.T.g hmg
  exact law_atT KX G.T.g G.T.b G.T.builtins G.T.nolimit hg te tn tc G.T.bmain hobj hints (Nat.le_trans hlen hn2) hr hF hb fun H hH hS => hsp H a ns hlen hH hS
end L2
/-! ### sorted(e, key=lambda x: x[0]), the first of each item a text -/
namespace LamK
open PySem PySem.Spec PyProof.Rows L2 LamX
theorem each_refs : ∀ {qs : List Addr} {its : List Value}, Vals (qs.map V.ref) its → PySem.W.EachIs (fun (v : Value) (t : Addr) => v = .ref t) its qs
  | [], _, .nil => .nil
  | _ :: _, _, .cons r t => .cons r (each_refs t)
theorem each_back : ∀ {its : List Value} {qs : List Addr}, PySem.W.EachIs (fun (v : Value) (t : Addr) => v = .ref t) its qs → Vals (qs.map V.ref) its
  | _, _, .nil => .nil
  | _, _, .cons r t => .cons r (each_back t)
/-- the reading -/
def tSortK (K : PySem.W.Frag) (T : List (Addr × Str)) (te : TA) : TE := fun σ H Q => te σ H fun xs H1 => Tabs T H1 ∧ ∃ (a : Addr) (qs : List Addr) (k : Addr → Str), xs = [.ref a] ∧ SqL K H1 a (qs.map V.ref) ∧ (∀ t ∈ qs, ∃ ys, SqT K H1 t (.str (k t) :: ys)) ∧
  ∀ (H2 : Hp) (p : Addr) (rs : List Addr), ExtN H1 H2 → Tabs T H2 → H2 p = none → rs.Perm qs → rs.Pairwise (fun x y => (k x).cps.toList ≤ (k y).cps.toList) → Q (.ref p) (upd H2 p (.lst (rs.map V.ref)))
theorem sqL_extN {K : PySem.W.Frag} {H H' : Hp} {a : Addr} {xs : List V} (e : ExtN H H') (q : SqL K H a xs) : SqL K H' a xs := by
  rcases q with (q | ⟨o, q⟩) | q
  · exact .inl (.inl (e _ _ q (fun ps z => by cases z)))
  · exact .inl (.inr ⟨o, e _ _ q (fun ps z => by cases z)⟩)
  · exact .inr q
theorem sqT_extN {K : PySem.W.Frag} {H H' : Hp} {a : Addr} {xs : List V} (e : ExtN H H') (q : SqT K H a xs) : SqT K H' a xs := by
  rcases q with (q | ⟨o, q⟩) | q
  · exact .inl (.inl (e _ _ q (fun ps z => by cases z)))
  · exact .inl (.inr ⟨o, e _ _ q (fun ps z => by cases z)⟩)
  · exact .inr q
section
variable {X : Cx}
theorem pe_sortK {T : List (Addr × Str)} {c P : Addr} {x y : Str} {p pos lpos kpos p1 p2 p3 : Pos} {e : Expr} {t : TA} {params : Arguments} {scope : Scope} {kd : Nat}
    (TB : TabB X.base X.mg c P) (hcode : X.env.code = .ref c) (hmT : (P, X.env.qual ++ "<lambda>") ∈ T) (hu : ∀ p ∈ T, p.1 = P → p.2 = X.env.qual ++ "<lambda>") (hr : Room 3 X.A) (hg : Gl X x) (hm : X.mg x = none) (hv : bootBuiltins x = some (.builtin "sorted"))
    (ha : PA X [e] t) (hdef : defaultsOf params X.env = ([], [])) (hsc : scope.names = [(y, .local)]) (hkind : scope.kind = .function) (hco : scope.isCoroutine = false) (hgen : scope.isGenerator = false)
    (hbind : ∀ (q : Str) (b : Expr) (cl : List (Str × Addr)) (pm cv ctv v : Value), bindArgs (PySem.W.kla_fn "<lambda>" q params b scope cl pm cv ctv) ⟨[v], []⟩ = pure [(y, v)])
    (hn : x ≠ "__name__" := by decide) (hdb : (x == ("__debug__" : Str)) = false := by decide) (hyd : (y == ("__debug__" : Str)) = false := by decide)
    (he : backTo pos (starEach [e] X.env) = (false, eval e X.env) :: backTo pos (starEach [] X.env) := by rfl) (hpl : (backTo pos (starEach [e] X.env)).any (·.1) = false := by rfl) :
    PE X (.Call (.Name x p) [e] [⟨some "key", .Lambda params (.Subscript (.Name y p1) (.Constant (.int 0) kd p2) p3) scope lpos, kpos⟩] pos) (tSortK X.K T t) := by
  refine ⟨fun pins s σ H Q I h => ?_⟩
  refine wpAny_Call_Name_kw (ld_blt I hg hm hv ?_ hn hdb)
  refine PyProof.Rows.callWith_kw (thn (ha.run pos pins s σ H _ I h) fun us s1 ⟨vs, H1, I1, r1, q1⟩ => ?_) he hpl (by rfl) (by rfl)
  obtain ⟨hT, a, qs, k, rfl, hS, hk, q⟩ := q1
  show wpAny _ _ (evalAll ((do let v ← eval _ X.env; standAt pos; pure v) :: [])) _ _ s1
  have hfree : ∀ z ∈ scope.names, z.2 = .free → ∃ c, X.env.cells.lookup z.1 = some c := fun z hz e => by
    rw [hsc] at hz
    rw [List.mem_singleton.mp hz] at e
    cases e
  refine wpAny_evalAll_cons (wpAny_bind (lam_make2 I1 TB hcode hmT hu hT hdef hfree fun f c' pm ctv H2 s2 I2 eN T2 hf hfn hfr hcO => wpAny_bind (wpAny_standAt (wpAny_pure (wpAny_evalAll_nil ?_)))))
  obtain ⟨u, rfl, ru⟩ := vals1 r1
  obtain rfl : u = Value.ref a := ru
  show wpAny (model X.prog X.w) X.A (call (.builtin "sorted") [.ref a] [(Str.ofString "key", .ref f)]) _ _ s2
  obtain ⟨its, rv, hl, hz⟩ := I2.list (sqL_extN eN hS)
  rw [List.length_map] at hz
  have hun := hr.un
  have hdp := hr.dp
  refine PySem.W.sorted_key_data (b := false) (fun t : Addr => PyData.str (k t)) hl.isList (each_refs rv) (PySem.W.AllAlike.of fun _ _ => by simp [PySem.W.alike]) (PySem.W.Sortable.others fun b => ⟨fun z => by (cases z), fun xs z => by (cases z)⟩) hz (fun b _ => ?_) (PyProof.Rows.ksk_s1 _ _) (fun _ => PyProof.Rows.ksk_l1 _ _) (fun _ => PyProof.Rows.ksk_t1 _ _) (fun v t hR ht h tk kp => ?_) fun out n h' tk kp hfresh hD hlen eo => ?_
  · show X.A.units + 2 + 0 < cLine
    omega
  · subst hR
    obtain ⟨ys, hy⟩ := hk t ht
    obtain ⟨is, rt, pt, zt⟩ := I2.tuple (sqT_extN eN hy)
    cases rt with
    | cons r0 rt =>
    rename_i u0 us0
    obtain ⟨t0, rfl⟩ := r0
    obtain ⟨oc, vc, tc, hoc, hdc, hvc⟩ := (I2.hok c' _ hcO).1
    refine wpAny_call (PySem.W.kla_callFunE (show X.A.depth < _ by omega) (kp _ _ hf) rfl hco hgen rfl ⟨c', oc, vc, tc, rfl, kp _ _ hoc, hdc, hvc⟩ ?_)
    rw [hbind]
    refine wpAny_pure (wpAny_newFunctionEnv (fun z hz => ?_) (fun z hz => ?_) (fun h₁ hns hsb => ⟨(I2.nolimit.keeps kp).fresh _ hsb, ?_⟩) hkind)
    · rw [hsc] at hz
      rw [List.mem_singleton.mp hz]
      intro z
      cases z
    · rw [List.mem_singleton.mp hz]
      show scope.names.lookup y = _
      rw [hsc]
      simp [List.lookup]
    show codeAny _ _ (.expr _ (PySem.W.envX (X.env.qual ++ "<lambda>") scope h.objs.size f (.ref c') (cloFrom X.env.cells scope.names []))) _ _
    have kp1 : ∀ b o, h.get? b = some o → h₁.get? b = some o := fun b o e => hsb.extBut b o (Nat.ne_of_lt (Heap.lt_size e)) (Heap.get?_push_of_some _ e)
    refine PySem.W.kla_codeExpr (Subscript_ (wpAny_Name (wpAny_loadName_local (v := .ref t) hkind ?_ hns ?_ (wpAny_Constant_int ?_)) hyd))
    · show scope.names.lookup y = _
      rw [hsc]
      simp [List.lookup]
    · simp [List.lookup]
    have pt1 : IsTup h₁ t (Value.str (k t) t0 :: us0).toArray := (pt.keeps kp).keeps kp1
    refine subscriptTail_builtinR (x := Value.str (k t) t0) pt1.typeIs slot_tuple_getitem.lookup
      (getItem_tuple (j := 0) (Q := fun r s' => r = Value.str (k t) t0 ∧ PySem.W.KeyPure (.str (k t)) { s2 with heap := h, toks := tk } r s') pt1 (by decide) (by decide) ?_ rfl ⟨rfl, h₁, _, rfl, kp1, .str _ _⟩) (by rfl)
    rw [List.size_toArray]
    show seqIndex? 0 (us0.length + 1) = some 0
    simp [seqIndex?]
  · have e1 := each_back eo
    rw [PySem.W.dataLe_str k] at e1
    have I3 : Inv X pins σ (upd H2 (s2.heap.objs.size + 1) (.lst ((qs.mergeSort fun a b => decide ((k a).cps.toList ≤ (k b).cps.toList)).map V.ref))) { s2 with heap := h', toks := tk } := by
      refine I2.laid kp (Nat.le_succ _) ⟨?_, out, n, e1, hD⟩
      rw [List.length_map, List.length_mergeSort]
      exact hz
    refine ⟨.ref (s2.heap.objs.size + 1), _, I3, rfl, q _ _ _ eN T2 (I2.hok.fresh (Nat.le_succ _)) (List.mergeSort_perm _ _) ?_⟩
    refine (List.pairwise_mergeSort (le := fun a b => decide ((k a).cps.toList ≤ (k b).cps.toList)) (fun a b c h1 h2 => ?_) (fun a b => ?_) qs).imp fun h => of_decide_eq_true h
    · exact decide_eq_true (List.le_trans (of_decide_eq_true h1) (of_decide_eq_true h2))
    · rcases List.le_total (k a).cps.toList (k b).cps.toList with z | z
      · rw [decide_eq_true z]; rfl
      · rw [decide_eq_true z, Bool.or_true]
end
end LamK
/-! ### t[::-1], a tuple -/
namespace RvT
open PySem PySem.Spec PyProof.Rows L2 HT
section
variable {prog : Program} {w : World} {A : Around} {E : Value → Shared → Prop} {s : Shared}
theorem adjust_rev (n : Nat) : Builtin.Slice.sliceAdjust none none (-1) (n : Int) = ((n : Int) - 1, -1) := by
  unfold Builtin.Slice.sliceAdjust
  simp
theorem places_rev (n : Nat) : Builtin.Slice.slicePlaces ((n : Int) - 1) (-1) (-1) = n := by
  unfold Builtin.Slice.slicePlaces
  have h1 : ¬ ((-1 : Int) > 0) := by decide
  simp only [h1, if_false]
  by_cases h : (n : Int) - 1 > -1
  · rw [if_pos h, show (- -1 : Int) = 1 by decide, Int.ediv_one]
    omega
  · rw [if_neg h]
    omega
theorem sliceApplied_rev {sl : Addr} {vl vu vs : Value} {n : Nat} {Q : Int × Int × Nat → Shared → Prop} (hs : s.heap.IsSliceOf sl vl vu vs) (pl : IsPart vl none) (pu : IsPart vu none) (ps : IsPart vs (some (-1)))
    (h : Q ((n : Int) - 1, -1, n) s) : wpAny (model prog w) A (Builtin.Slice.sliceApplied (.ref sl) (pure (n : Int))) Q E s := by
  obtain ⟨os, hos, hcs, hds⟩ := id hs
  unfold Builtin.Slice.sliceApplied Builtin.Slice.sliceFields
  refine wpAny_bind (wpAny_bind (wpAny_field hos hds (x := vl) rfl (wpAny_bind (wpAny_field hos hds (x := vu) rfl (wpAny_bind (wpAny_field hos hds (x := vs) rfl (wpAny_pure ?_)))))))
  refine wpAny_bind (slicePart_ ps ?_)
  show wpAny _ _ (if ((-1 : Int) == 0) = true then _ else _) _ _ s
  rw [if_neg (by decide)]
  refine wpAny_bind (slicePart_ pl (wpAny_bind (slicePart_ pu (wpAny_bind (wpAny_pure ?_)))))
  show wpAny _ _ (match Builtin.Slice.sliceAdjust none none (-1) (n : Int) with | (lo, hi) => pure (lo, (-1 : Int), Builtin.Slice.slicePlaces lo hi (-1))) _ _ s
  rw [adjust_rev n]
  show wpAny _ _ (pure ((n : Int) - 1, (-1 : Int), Builtin.Slice.slicePlaces ((n : Int) - 1) (-1) (-1))) _ _ s
  rw [places_rev]
  exact wpAny_pure h
theorem pick_rev (xs : Array Value) : ((List.range xs.size).filterMap fun (m : Nat) => xs[(((xs.size : Nat) : Int) - 1 + (m : Int) * -1).toNat]?).toArray = xs.toList.reverse.toArray := by
  have e : (List.range xs.size).filterMap (fun (m : Nat) => xs[(((xs.size : Nat) : Int) - 1 + (m : Int) * -1).toNat]?) = xs.toList.reverse := by
    apply List.ext_getElem?
    intro i
    by_cases hi : i < xs.size
    · have h1 : ∀ (l : List Nat), (∀ m ∈ l, m < xs.size) → l.filterMap (fun (m : Nat) => xs[(((xs.size : Nat) : Int) - 1 + (m : Int) * -1).toNat]?) = l.map (fun m => xs.toList.reverse.getD m default) := fun l hl => by
        induction l with
        | nil => rfl
        | cons m r ih =>
          have hm := hl m (List.mem_cons_self ..)
          have e1 : xs[(((xs.size : Nat) : Int) - 1 + (m : Int) * -1).toNat]? = some (xs.toList.reverse.getD m default) := by
            have e2 : (((xs.size : Nat) : Int) - 1 + (m : Int) * -1).toNat = xs.size - 1 - m := by omega
            rw [e2, ← Array.getElem?_toList, List.getD_eq_getElem?_getD, List.getElem?_reverse (by rw [Array.length_toList]; exact hm), Array.length_toList]
            rw [List.getElem?_eq_getElem (by rw [Array.length_toList]; omega)]
            rfl
          rw [List.filterMap_cons, e1, ih fun k hk => hl k (List.mem_cons_of_mem _ hk)]
          rfl
      rw [h1 _ (fun m hm => List.mem_range.mp hm), List.getElem?_map, List.getElem?_range hi]
      have hl : i < xs.toList.reverse.length := by
        rw [List.length_reverse, Array.length_toList]
        exact hi
      show some (xs.toList.reverse.getD i default) = _
      rw [List.getElem?_eq_getElem hl, List.getD_eq_getElem?_getD, List.getElem?_eq_getElem hl]
      rfl
    · have r1 : xs.toList.reverse[i]? = none := List.getElem?_eq_none (by rw [List.length_reverse, Array.length_toList]; omega)
      rw [r1]
      refine List.getElem?_eq_none (Nat.le_trans (List.length_filterMap_le _ _) ?_)
      rw [List.length_range]
      omega
  rw [e]
theorem getItem_tuple_rev {t sl : Addr} {items : Array Value} {vl vu vs : Value} {Q : Value → Shared → Prop} (ht : IsTup s.heap t items) (hs : s.heap.IsSliceOf sl vl vu vs) (pl : IsPart vl none) (pu : IsPart vu none) (ps : IsPart vs (some (-1)))
    (h : Q (.ref s.heap.objs.size) { s with heap := s.heap.push { cls := .type "tuple", data := .seq items.toList.reverse.toArray } })
    (hsz : items.size ≤ sizeLine) : wpAny (model prog w) A (getItem (.ref t) (.ref sl)) Q E s := by
  have htake : sizeOk (.seq items.toList.reverse.toArray) := by
    show items.toList.reverse.toArray.size ≤ sizeLine
    rw [List.size_toArray, List.length_reverse, Array.length_toList]
    exact hsz
  obtain ⟨os, hos, hcs, hds⟩ := id hs
  have hTs : s.TypeIs (.ref sl) "slice" := ⟨os, hos, hcs⟩
  unfold getItem
  try with_reducible refine wpAny_holding ?_
  first | refine wpAny_bind (wpAny_pure ?_) | skip
  refine wpAny_bind (wpAny_sequenceKey ht.typeIs (by decide) ?_)
  refine wpAny_bind (wpAny_callSpecial?_slot (name := Str.ofString "__getitem__") ht.typeIs PyProof.Rows.slot_tuple_getitem
    (wpAny_call_entry PyProof.Rows.slot_tuple_getitem ht.typeIs entry_tuple_getitem ?_ (args_tuple_getitem _ _)))
  show wpAny _ _ (Builtin.Tuple.tupleItemsOf (.ref t) >>= _) _ _ s
  refine wpAny_bind (tupleItemsOf_ ht ?_)
  refine wpAny_bind (wpAny_typeOf hTs ?_)
  rw [if_pos (by decide)]
  refine wpAny_bind (sliceApplied_rev hs pl pu ps ?_)
  have hno : ¬ ((((items.size : Nat) : Int) - 1 == 0 && (-1 : Int) == 1 && items.size == items.size) = true) := by
    intro q
    rw [Bool.and_eq_true, Bool.and_eq_true] at q
    exact absurd q.1.2 (by decide)
  show wpAny _ _ (if ((((items.size : Nat) : Int) - 1 == 0 && (-1 : Int) == 1 && items.size == items.size) = true) then _ else _) _ _ s
  rw [if_neg hno, pick_rev]
  first
    | exact wpAny_bind (m := Builtin.Tuple.tupleExact _) (wpAny_newObj_type (wpAny_pure ⟨_, rfl, wpAny_pure h⟩) htake)
    | exact wpAny_bind (m := Builtin.Tuple.tupleExact _) (wpAny_newObj_type (wpAny_bind (wpAny_pure (wpAny_pure ⟨_, rfl, wpAny_pure h⟩))) htake)
    | exact wpAny_bind (wpAny_bind (m := Builtin.Tuple.tupleExact _) (wpAny_newObj_type (wpAny_pure (wpAny_pure ⟨_, rfl, wpAny_pure h⟩)) htake))
    | exact wpAny_bind (wpAny_bind (m := Builtin.Tuple.tupleExact _) (wpAny_newObj_type (wpAny_pure ⟨_, rfl, wpAny_pure h⟩) htake))
end
section
variable {X : Cx}
def tRevT (K : PySem.W.Frag) (te : TE) : TE := fun σ H Q => te σ H fun x H1 => ∃ a xs, x = .ref a ∧ SqT K H1 a xs ∧ ∀ p, H1 p = none → Q (.ref p) (upd H1 p (.tup xs.reverse))
theorem pe_revT {e : Expr} {te : TE} {k : Nat} {p1 p2 p3 pos : Pos} (he : PE X e te) : PE X (.Subscript e (.Slice none none (some (.UnaryOp .USub (.Constant (.int 1) k p1) p2)) p3) pos) (tRevT X.K te) := by
  refine ⟨fun pins s σ H Q I h => ?_⟩
  refine Subscript_ (thn (he.run pins s σ H _ I h) fun v s1 ⟨x, H1, I1, r1, q1⟩ => ?_)
  obtain ⟨a, xs, ex, hx, q⟩ := q1
  subst ex
  cases r1
  have hst : PO X (some (.UnaryOp .USub (.Constant (.int 1) k p1) p2)) (tPart (tUn (rU fun i => .int (-i)) (tC (.int 1)))) := po_some (pe_un un_neg pe_int)
  refine wpAny_Slice (thn (po_none.run pins s1 σ H1 (fun o H2 => o = none ∧ H2 = H1) I1 ⟨rfl, rfl⟩) fun vl s2 ⟨l, H2, I2, pl, el, e2⟩ => ?_)
  subst el e2
  refine thn (po_none.run pins s2 σ H2 (fun o H3 => o = none ∧ H3 = H2) I2 ⟨rfl, rfl⟩) fun vu s3 ⟨u, H3, I3, pu, eu, e3⟩ => ?_
  subst eu e3
  refine thn (hst.run pins s3 σ H3 (fun o H4 => o = some (-1) ∧ H4 = H3) I3 ⟨1, rfl, -1, rfl, rfl, rfl⟩) fun vs s4 ⟨o, H4, I4, ps, eo, e4⟩ => ?_
  subst eo e4
  have I5 : Inv X pins σ H4 { s4 with heap := s4.heap.push { cls := .type "slice", data := .fields #[vl, vu, vs] } } := I4.kept (t' := s4.toks) fun b ob q => Heap.get?_push_of_some _ q
  obtain ⟨its, r, ht, hz⟩ := I5.tuple hx
  have hlen := r.length
  show wpAny (model X.prog X.w) X.A (subscriptTail e (.Slice none none (some (.UnaryOp .USub (.Constant (.int 1) k p1) p2)) p3) (.ref a) (.ref s4.heap.objs.size)) (EP X pins σ Q) X.xe { s4 with heap := s4.heap.push { cls := .type "slice", data := .fields #[vl, vu, vs] } }
  refine tail_any (ops := [.ref a, .ref s4.heap.objs.size]) ht.typeIs (PyProof.Rows.slot_tuple_getitem.lookup) ?_ (by with_unfolding_all rfl)
  refine getItem_tuple_rev ht (Heap.IsSliceOf.new _ vl vu vs) pl pu ps ?_ (by rw [List.size_toArray]; omega)
  refine ⟨.ref _, _, I5.laid (t' := s4.toks) (o := .tup xs.reverse) (fun b ob q => Heap.get?_push_of_some _ q) (Nat.le_refl _) ?_, rfl, q _ (I5.hok.fresh (Nat.le_refl _))⟩
  exact ⟨by rw [List.length_reverse]; exact hz, _, r.reverse, IsTup.new _ _⟩
end
end RvT
namespace Rd
open PySem PySem.Spec PyProof.Rows L2
def top (i : Nat) : Stmt := PySem.Challenge.pw_roundstore_k10_rows_of_a_look.main.body.getD i (.Pass ⟨0, 0, 0, 0⟩)
abbrev s_steps : Stmt := top 2
abbrev N_steps : List Str := ["one", "other", "ring"]
theorem sc_steps : FnScope N_steps ["one", "other", "ring"] (defScope s_steps) := ⟨rfl, rfl, rfl, by decide +kernel, rfl, by decide +kernel, by decide +kernel⟩
abbrev s_before : Stmt := top 3
abbrev N_before : List Str := ["one", "other", "ring"]
theorem sc_before : FnScope N_before ["one", "other", "ring"] (defScope s_before) := ⟨rfl, rfl, rfl, by decide +kernel, rfl, by decide +kernel, by decide +kernel⟩
abbrev s_sees : Stmt := top 5
abbrev N_sees : List Str := ["look", "number", "fate", "ring", "coming", "others"]
theorem sc_sees : FnScope N_sees ["look", "number", "fate", "ring"] (defScope s_sees) := ⟨rfl, rfl, rfl, by decide +kernel, rfl, by decide +kernel, by decide +kernel⟩
abbrev s_shown : Stmt := top 7
abbrev N_shown : List Str := ["versions", "look", "fates", "own", "ring"]
theorem sc_shown : FnScope N_shown ["versions", "look", "fates", "own", "ring"] (defScope s_shown) := ⟨rfl, rfl, rfl, by decide +kernel, rfl, by decide +kernel, by decide +kernel⟩
abbrev s_state_among : Stmt := top 8
abbrev N_state_among : List Str := ["version", "look", "fates", "own", "ring", "maker", "ender", "made"]
theorem sc_state_among : FnScope N_state_among ["version", "look", "fates", "own", "ring"] (defScope s_state_among) := ⟨rfl, rfl, rfl, by decide +kernel, rfl, by decide +kernel, by decide +kernel⟩
abbrev s_shown_among : Stmt := top 9
abbrev N_shown_among : List Str := ["versions", "look", "fates", "own", "ring", "seen", "version"]
theorem sc_shown_among : FnScope N_shown_among ["versions", "look", "fates", "own", "ring"] (defScope s_shown_among) := ⟨rfl, rfl, rfl, by decide +kernel, rfl, by decide +kernel, by decide +kernel⟩
abbrev s_l_hand : Stmt := top 11
abbrev N_l_hand : List Str := ["_law_script", "_law_k", "_law_cell", "_law_great"]
theorem sc_l_hand : FnScope N_l_hand ["_law_script", "_law_k"] (defScope s_l_hand) := ⟨rfl, rfl, rfl, by decide +kernel, rfl, by decide +kernel, by decide +kernel⟩
abbrev s_l_take : Stmt := top 12
abbrev N_l_take : List Str := ["_law_hand_here", "_law_many", "_law_digit", "_law_primes", "_law_prime", "_law_drawn"]
theorem sc_l_take : FnScope N_l_take ["_law_hand_here", "_law_many"] (defScope s_l_take) := ⟨rfl, rfl, rfl, by decide +kernel, rfl, by decide +kernel, by decide +kernel⟩
abbrev s_l_of : Stmt := top 13
abbrev N_l_of : List Str := ["_law_hand_here", "_law_some"]
theorem sc_l_of : FnScope N_l_of ["_law_hand_here", "_law_some"] (defScope s_l_of) := ⟨rfl, rfl, rfl, by decide +kernel, rfl, by decide +kernel, by decide +kernel⟩
abbrev s_l_size : Stmt := top 14
abbrev N_l_size : List Str := ["_law_hand_here", "_law_few"]
theorem sc_l_size : FnScope N_l_size ["_law_hand_here"] (defScope s_l_size) := ⟨rfl, rfl, rfl, by decide +kernel, rfl, by decide +kernel, by decide +kernel⟩
abbrev s_l_look : Stmt := top 15
abbrev N_l_look : List Str := ["_law_hand_here", "_law_size_here", "_law_coming", "_law_back", "_law_some", "_law_turn"]
theorem sc_l_look : FnScope N_l_look ["_law_hand_here", "_law_size_here"] (defScope s_l_look) := ⟨rfl, rfl, rfl, by decide +kernel, rfl, by decide +kernel, by decide +kernel⟩
abbrev s_l_is_done : Stmt := top 16
abbrev N_l_is_done : List Str := ["_law_look_here", "_law_number", "_law_fate", "_law_size_here"]
theorem sc_l_is_done : FnScope N_l_is_done ["_law_look_here", "_law_number", "_law_fate", "_law_size_here"] (defScope s_l_is_done) := ⟨rfl, rfl, rfl, by decide +kernel, rfl, by decide +kernel, by decide +kernel⟩
abbrev s_l_worth : Stmt := top 17
abbrev N_l_worth : List Str := ["_law_hand_here", "_law_great"]
theorem sc_l_worth : FnScope N_l_worth ["_law_hand_here"] (defScope s_l_worth) := ⟨rfl, rfl, rfl, by decide +kernel, rfl, by decide +kernel, by decide +kernel⟩
abbrev s_l_near : Stmt := top 18
abbrev N_l_near : List Str := ["_law_hand_here", "_law_look_here", "_law_size_here", "_law_far", "_law_some"]
theorem sc_l_near : FnScope N_l_near ["_law_hand_here", "_law_look_here", "_law_size_here"] (defScope s_l_near) := ⟨rfl, rfl, rfl, by decide +kernel, rfl, by decide +kernel, by decide +kernel⟩
abbrev s_l_fates : Stmt := top 19
abbrev N_l_fates : List Str := ["_law_hand_here", "_law_numbers", "_law_rows", "_law_number", "_law_row"]
theorem sc_l_fates : FnScope N_l_fates ["_law_hand_here", "_law_numbers"] (defScope s_l_fates) := ⟨rfl, rfl, rfl, by decide +kernel, rfl, by decide +kernel, by decide +kernel⟩
abbrev s_l_state : Stmt := top 20
abbrev N_l_state : List Str := ["_law_version", "_law_look_here", "_law_fates_here", "_law_mine", "_law_size_here", "_law_maker", "_law_ender", "_law_fate_by", "_law_fate"]
theorem sc_l_state : FnScope N_l_state ["_law_version", "_law_look_here", "_law_fates_here", "_law_mine", "_law_size_here"] (defScope s_l_state) := ⟨rfl, rfl, rfl, by decide +kernel, rfl, by decide +kernel, by decide +kernel⟩
abbrev s_l_versions : Stmt := top 21
abbrev N_l_versions : List Str := ["_law_hand_here", "_law_look_here", "_law_size_here", "_law_many", "_law_some", "_law_turn", "_law_word"]
theorem sc_l_versions : FnScope N_l_versions ["_law_hand_here", "_law_look_here", "_law_size_here", "_law_many"] (defScope s_l_versions) := ⟨rfl, rfl, rfl, by decide +kernel, rfl, by decide +kernel, by decide +kernel⟩
abbrev s_l_one_each : Stmt := top 22
abbrev N_l_one_each : List Str := ["_law_versions_here", "_law_look_here", "_law_fates_here", "_law_mine", "_law_size_here", "_law_some", "_law_keys", "_law_version", "_law_seen"]
theorem sc_l_one_each : FnScope N_l_one_each ["_law_versions_here", "_law_look_here", "_law_fates_here", "_law_mine", "_law_size_here"] (defScope s_l_one_each) := ⟨rfl, rfl, rfl, by decide +kernel, rfl, by decide +kernel, by decide +kernel⟩
abbrev s_l_told : Stmt := top 23
abbrev N_l_told : List Str := ["_law_versions_here", "_law_look_here", "_law_fates_here", "_law_mine", "_law_size_here", "_law_some"]
theorem sc_l_told : FnScope N_l_told ["_law_versions_here", "_law_look_here", "_law_fates_here", "_law_mine", "_law_size_here"] (defScope s_l_told) := ⟨rfl, rfl, rfl, by decide +kernel, rfl, by decide +kernel, by decide +kernel⟩
abbrev s_law : Stmt := top 24
abbrev N_law : List Str := ["_law_script", "_law_k", "_law_hand_here", "_law_many", "_law_size_here", "_law_turn", "_law_look_here", "_law_versions_here", "_law_numbers", "_law_fates_here", "_law_mine", "_law_seen", "_law_due", "_law_version", "_law_told_here"]
theorem sc_law : FnScope N_law ["_law_script"] (defScope s_law) := ⟨rfl, rfl, rfl, by decide +kernel, rfl, by decide +kernel, by decide +kernel⟩
theorem gl_of {X : Cx} {x : Str} {sc : Scope} (h : sc.names.lookup x = some .globalImplicit) (e : X.env.scope = sc := by rfl) : Gl X x := by
  unfold Gl Env.kindOf
  rw [e]
  exact h
theorem gl_before_steps : (defScope s_before).names.lookup ("steps" : Str) = some .globalImplicit := by decide +kernel
theorem gl_sees_before : (defScope s_sees).names.lookup ("before" : Str) = some .globalImplicit := by decide +kernel
theorem gl_shown_shown_among : (defScope s_shown).names.lookup ("shown_among" : Str) = some .globalImplicit := by decide +kernel
theorem gl_shown_dict : (defScope s_shown).names.lookup ("dict" : Str) = some .globalImplicit := by decide +kernel
theorem gl_state_among_sees : (defScope s_state_among).names.lookup ("sees" : Str) = some .globalImplicit := by decide +kernel
theorem gl_shown_among_tuple : (defScope s_shown_among).names.lookup ("tuple" : Str) = some .globalImplicit := by decide +kernel
theorem gl_shown_among_sorted : (defScope s_shown_among).names.lookup ("sorted" : Str) = some .globalImplicit := by decide +kernel
theorem gl_l_hand_len : (defScope s_l_hand).names.lookup ("len" : Str) = some .globalImplicit := by decide +kernel
theorem gl_l_hand_abs : (defScope s_l_hand).names.lookup ("abs" : Str) = some .globalImplicit := by decide +kernel
theorem gl_l_hand_int : (defScope s_l_hand).names.lookup ("int" : Str) = some .globalImplicit := by decide +kernel
theorem gl_l_of_l_take : (defScope s_l_of).names.lookup ("_law_take" : Str) = some .globalImplicit := by decide +kernel
theorem gl_l_of_len : (defScope s_l_of).names.lookup ("len" : Str) = some .globalImplicit := by decide +kernel
theorem gl_l_size_l_of : (defScope s_l_size).names.lookup ("_law_of" : Str) = some .globalImplicit := by decide +kernel
theorem gl_l_size_l_take : (defScope s_l_size).names.lookup ("_law_take" : Str) = some .globalImplicit := by decide +kernel
theorem gl_l_look_l_of : (defScope s_l_look).names.lookup ("_law_of" : Str) = some .globalImplicit := by decide +kernel
theorem gl_l_look_l_take : (defScope s_l_look).names.lookup ("_law_take" : Str) = some .globalImplicit := by decide +kernel
theorem gl_l_look_tuple : (defScope s_l_look).names.lookup ("tuple" : Str) = some .globalImplicit := by decide +kernel
theorem gl_l_worth_l_take : (defScope s_l_worth).names.lookup ("_law_take" : Str) = some .globalImplicit := by decide +kernel
theorem gl_l_worth_l_of : (defScope s_l_worth).names.lookup ("_law_of" : Str) = some .globalImplicit := by decide +kernel
theorem gl_l_near_l_take : (defScope s_l_near).names.lookup ("_law_take" : Str) = some .globalImplicit := by decide +kernel
theorem gl_l_near_l_of : (defScope s_l_near).names.lookup ("_law_of" : Str) = some .globalImplicit := by decide +kernel
theorem gl_l_fates_l_of : (defScope s_l_fates).names.lookup ("_law_of" : Str) = some .globalImplicit := by decide +kernel
theorem gl_l_fates_l_take : (defScope s_l_fates).names.lookup ("_law_take" : Str) = some .globalImplicit := by decide +kernel
theorem gl_l_fates_len : (defScope s_l_fates).names.lookup ("len" : Str) = some .globalImplicit := by decide +kernel
theorem gl_l_fates_tuple : (defScope s_l_fates).names.lookup ("tuple" : Str) = some .globalImplicit := by decide +kernel
theorem gl_l_state_dict : (defScope s_l_state).names.lookup ("dict" : Str) = some .globalImplicit := by decide +kernel
theorem gl_l_state_list : (defScope s_l_state).names.lookup ("list" : Str) = some .globalImplicit := by decide +kernel
theorem gl_l_state_l_is_done : (defScope s_l_state).names.lookup ("_law_is_done" : Str) = some .globalImplicit := by decide +kernel
theorem gl_l_versions_l_of : (defScope s_l_versions).names.lookup ("_law_of" : Str) = some .globalImplicit := by decide +kernel
theorem gl_l_versions_l_near : (defScope s_l_versions).names.lookup ("_law_near" : Str) = some .globalImplicit := by decide +kernel
theorem gl_l_versions_l_worth : (defScope s_l_versions).names.lookup ("_law_worth" : Str) = some .globalImplicit := by decide +kernel
theorem gl_l_one_each_l_state : (defScope s_l_one_each).names.lookup ("_law_state" : Str) = some .globalImplicit := by decide +kernel
theorem gl_l_told_shown : (defScope s_l_told).names.lookup ("shown" : Str) = some .globalImplicit := by decide +kernel
theorem gl_law_max : (defScope s_law).names.lookup ("max" : Str) = some .globalImplicit := by decide +kernel
theorem gl_law_min : (defScope s_law).names.lookup ("min" : Str) = some .globalImplicit := by decide +kernel
theorem gl_law_len : (defScope s_law).names.lookup ("len" : Str) = some .globalImplicit := by decide +kernel
theorem gl_law_l_hand : (defScope s_law).names.lookup ("_law_hand" : Str) = some .globalImplicit := by decide +kernel
theorem gl_law_l_size : (defScope s_law).names.lookup ("_law_size" : Str) = some .globalImplicit := by decide +kernel
theorem gl_law_l_of : (defScope s_law).names.lookup ("_law_of" : Str) = some .globalImplicit := by decide +kernel
theorem gl_law_l_look : (defScope s_law).names.lookup ("_law_look" : Str) = some .globalImplicit := by decide +kernel
theorem gl_law_l_versions : (defScope s_law).names.lookup ("_law_versions" : Str) = some .globalImplicit := by decide +kernel
theorem gl_law_l_fates : (defScope s_law).names.lookup ("_law_fates" : Str) = some .globalImplicit := by decide +kernel
theorem gl_law_tuple : (defScope s_law).names.lookup ("tuple" : Str) = some .globalImplicit := by decide +kernel
theorem gl_law_l_one_each : (defScope s_law).names.lookup ("_law_one_each" : Str) = some .globalImplicit := by decide +kernel
theorem gl_law_repr : (defScope s_law).names.lookup ("repr" : Str) = some .globalImplicit := by decide +kernel
theorem gl_law_sorted : (defScope s_law).names.lookup ("sorted" : Str) = some .globalImplicit := by decide +kernel
theorem gl_law_all : (defScope s_law).names.lookup ("all" : Str) = some .globalImplicit := by decide +kernel
theorem gl_law_l_told : (defScope s_law).names.lookup ("_law_told" : Str) = some .globalImplicit := by decide +kernel
theorem bb_sorted : bootBuiltins "sorted" = some (.builtin "sorted") := by decide +kernel
theorem bb_len : bootBuiltins "len" = some (.builtin "len") := by decide +kernel
theorem bb_abs : bootBuiltins "abs" = some (.builtin "abs") := by decide +kernel
theorem bb_max : bootBuiltins "max" = some (.builtin "max") := by decide +kernel
theorem bb_min : bootBuiltins "min" = some (.builtin "min") := by decide +kernel
theorem bb_repr : bootBuiltins "repr" = some (.builtin "repr") := by decide +kernel
theorem bb_all : bootBuiltins "all" = some (.builtin "all") := by decide +kernel
theorem bt_dict : bootBuiltins "dict" = some (.type "dict") := by decide +kernel
theorem bt_tuple : bootBuiltins "tuple" = some (.type "tuple") := by decide +kernel
theorem bt_int : bootBuiltins "int" = some (.type "int") := by decide +kernel
theorem bt_list : bootBuiltins "list" = some (.type "list") := by decide +kernel
/-! ### what the top leaves, and what a def keeps -/
structure Tx (K : PySem.W.Frag) (mg : Str → Option Value) : Prop where
  len : mg "len" = none
  abs : mg "abs" = none
  int : mg "int" = none
  bool : mg "bool" = none
  min : mg "min" = none
  max : mg "max" = none
  all : mg "all" = none
  isinstance : mg "isinstance" = none
  range : mg "range" = none
  list : mg "list" = none
  tuple : mg "tuple" = none
  sorted : mg "sorted" = none
  set : mg "set" = none
  enumerate : mg "enumerate" = none
  repr : mg "repr" = none
  dict : mg "dict" = none
  zip : mg "zip" = none
  str : mg "str" = none
def freeNames : List Str := ["len", "abs", "int", "bool", "min", "max", "all", "isinstance", "range", "list", "tuple", "sorted", "set", "enumerate", "repr", "dict", "zip", "str"]
theorem tx_mk {K : PySem.W.Frag} {mg : Str → Option Value} (h : ∀ x ∈ freeNames, mg x = none) : Tx K mg :=
  ⟨h _ (by decide), h _ (by decide), h _ (by decide), h _ (by decide), h _ (by decide), h _ (by decide), h _ (by decide), h _ (by decide), h _ (by decide), h _ (by decide), h _ (by decide), h _ (by decide), h _ (by decide), h _ (by decide), h _ (by decide), h _ (by decide), h _ (by decide), h _ (by decide)⟩
/-- a def without defaults -/
structure Def0 (K : PySem.W.Frag) (mg : Str → Option Value) (x : Str) (st : Stmt) (ps : List Str) : Prop where
  ex : ∃ (f : Addr) (fd : FuncData), FunD K x x (defArgs st) (defBody st) (defScope st) [] [] f fd ∧ mg x = some (.ref f) ∧ Binds K fd ps []
/-- a def with keyword-only defaults: n values by place, the rest by name or left out -/
structure DefK (K : PySem.W.Frag) (mg : Str → Option Value) (x : Str) (st : Stmt) (ps : List Str) (n : Nat) (kws : List (Str × V)) : Prop where
  ex : ∃ (f : Addr) (fd : FuncData), FunD K x x (defArgs st) (defBody st) (defScope st) [] kws f fd ∧ mg x = some (.ref f) ∧ (∃ ds, Vals (kws.map (·.2)) ds ∧ Binds K fd ps ds) ∧ ∃ g, KBn K fd ps n (kws.map (·.1)) g (fun vs zs => vs ++ zs)
structure CalK (P : Program) (w : World) (K : PySem.W.Frag) (mg : Str → Option Value) (base : Heap) (k : Nat) (x : Str) (n : Nat) (ks : List Str) (sp : Sp) : Prop where
  ex : ∃ (f : Addr) (fd : FuncData) (ps : List Str) (g : List Value → List Value → List Value), FnOk P w K mg base CX0 k f fd ps sp ∧ mg x = some (.ref f) ∧ PySem.W.keepIn K (.ref f) = true ∧ KBn K fd ps n ks g (fun vs zs => vs ++ zs)
section
variable {P : Program} {w : World} {K : PySem.W.Frag} {mg : Str → Option Value} {base : Heap} {x : Str} {st : Stmt} {N ps : List Str} {k n : Nat} {sp : Sp} {kws : List (Str × V)}
/-- the body of a def, as its rule asks it -/
def BodyOk (P : Program) (w : World) (K : PySem.W.Frag) (mg : Str → Option Value) (base : Heap) (x : Str) (st : Stmt) (N : List Str) (k : Nat) (sp : Sp) : Prop :=
  ∀ (f : Addr) (cdv : Value) (A : Around) (outer : List Env) (s : Shared) (H : Hp) (vs : List V) (Q : VK) (E : XK), Room k (A.deeper (envOfC x (defScope st) s.heap.objs.size f cdv)) → sp vs H Q E →
      ∃ t, PSs (cxOf CX0 P w K mg base N x (defScope st) f cdv A outer s H E).nox (defBody st) t ∧ t { nx := fun _ H' => Q .non H', rt := Q } (start N vs) H
theorem Def0.cal (D : Def0 K mg x st ps) (S : FnScope N ps (defScope st)) (len : ∀ vs H Q E, sp vs H Q E → vs.length = ps.length) (hb : BodyOk P w K mg base x st N k sp) : C8.Cal P w K mg base (k + 1) x sp [] := by
  obtain ⟨f, fd, F, g, b⟩ := D.ex
  refine ⟨f, fd, ps, [], F.ok (CX := CX0) S len (fun cdv A outer s H vs Q E hr h => ?_), g, F.kp, b, .nil⟩
  obtain ⟨t, h1, h2⟩ := hb f cdv A outer s H vs Q E hr h
  exact ⟨t, h1.nox, h2⟩
theorem DefK.ok (D : DefK K mg x st ps n kws) (S : FnScope N ps (defScope st)) (len : ∀ vs H Q E, sp vs H Q E → vs.length = ps.length) (hb : BodyOk P w K mg base x st N k sp) :
    CalK P w K mg base (k + 1) x n (kws.map (·.1)) sp ∧ C8.Cal P w K mg base (k + 1) x sp (kws.map (·.2)) := by
  obtain ⟨f, fd, F, g, ⟨ds, hd, b⟩, gg, kb⟩ := D.ex
  have h : FnOk P w K mg base CX0 (k + 1) f fd ps sp := F.ok (CX := CX0) S len (fun cdv A outer s H vs Q E hr h => by
    obtain ⟨t, h1, h2⟩ := hb f cdv A outer s H vs Q E hr h
    exact ⟨t, h1.nox, h2⟩)
  exact ⟨⟨f, fd, ps, gg, h, g, F.kp, kb⟩, ⟨f, fd, ps, ds, h, g, F.kp, b, hd⟩⟩
end
section
variable {X : Cx} {k j n : Nat} {ks : List Str} {sp : Sp} {x : Str} {p pos : Pos} {e : Expr} {es : List Expr} {kws : List Keyword} {t tk : TA}
theorem pe_ck (c : CalK X.prog X.w X.K X.mg X.base k x n ks sp) (hr : Room j X.A) (hk : k ≤ j) (hg : Gl X x) (ha : PA X (e :: es) t) (hkw : PK X kws tk) (hall : (backToKw pos (keywordEach kws X.env)).all (·.1.isSome) = true := by rfl) (hks : (backToKw pos (keywordEach kws X.env)).filterMap (·.1) = ks := by rfl)
    (hdb : (x == ("__debug__" : Str)) = false := by decide) (he : starEach (e :: es) X.env = (false, eval e X.env) :: starEach es X.env := by rfl)
    (hpl : ((backTo pos (starEach (e :: es) X.env)).any (·.1) || (backToKw pos (keywordEach kws X.env)).any (·.1.isNone)) = false := by rfl) :
    PE X (.Call (.Name x p) (e :: es) kws pos) (tCallN n ks.length sp (fun vs zs => vs ++ zs) E0 t tk) := by
  obtain ⟨f, fd, ps, g, F, hm, kp, kb⟩ := c.ex
  exact pe_callN F (hr.mono hk) hg hm kp kb pass0 ha hkw hall hks hdb he hpl
end
/-! ### heaps: all but the drawing hand stands -/
def Fr (h : Addr) (H H' : Hp) : Prop := ∀ a o, a ≠ h → H a = some o → H' a = some o
theorem Fr.refl (h : Addr) (H : Hp) : Fr h H H := fun _ _ _ e => e
theorem Fr.trans {h : Addr} {H H1 H2 : Hp} (a : Fr h H H1) (b : Fr h H1 H2) : Fr h H H2 := fun x o n e => b x o n (a x o n e)
theorem Fr.new {h : Addr} {H : Hp} {p : Addr} {o : HO} (e : H p = none) : Fr h H (upd H p o) := fun a u _ q => by
  rw [upd_ne (ne_of_none q e)]
  exact q
/-- what h did not know may change -/
theorem Fr.mut {h : Addr} {H H' : Hp} {p : Addr} {o : HO} (f : Fr h H H') (e : H p = none) : Fr h H (upd H' p o) := fun a u n q => by
  rw [upd_ne (ne_of_none q e)]
  exact f a u n q
theorem Fr.hand {h : Addr} {H : Hp} {o : HO} : Fr h H (upd H h o) := fun a u n q => by
  rw [upd_ne n]
  exact q
theorem Fr.seq {h : Addr} {K : PySem.W.Frag} {H H' : Hp} {a : Addr} {xs : List V} (f : Fr h H H') (n : a ≠ h) (q : SqL K H a xs) : SqL K H' a xs := by
  rcases q with (q | ⟨o, q⟩) | q
  · exact .inl (.inl (f _ _ n q))
  · exact .inl (.inr ⟨o, f _ _ n q⟩)
  · exact .inr q
theorem Fr.seqT {h : Addr} {K : PySem.W.Frag} {H H' : Hp} {a : Addr} {xs : List V} (f : Fr h H H') (n : a ≠ h) (q : SqT K H a xs) : SqT K H' a xs := by
  rcases q with (q | ⟨o, q⟩) | q
  · exact .inl (.inl (f _ _ n q))
  · exact .inl (.inr ⟨o, f _ _ n q⟩)
  · exact .inr q
/-- the hand: three numbers; n bounds how often it drew -/
def HS (h : Addr) (n : Nat) (H : Hp) : Prop := ∃ g b c : Int, H h = some (.lst [.int g, .int b, .int c]) ∧ 0 ≤ g ∧ g < 10 ^ 90 ∧ 0 ≤ b ∧ b < 2 ^ 62 ∧ 0 ≤ c ∧ c ≤ n
theorem HS.mono {h : Addr} {n m : Nat} {H : Hp} (q : HS h n H) (l : n ≤ m) : HS h m H := by
  obtain ⟨g, b, c, e, g0, g1, b0, b1, c0, c1⟩ := q
  exact ⟨g, b, c, e, g0, g1, b0, b1, c0, by omega⟩
theorem HS.new {h : Addr} {n : Nat} {H : Hp} {p : Addr} {o : HO} (q : HS h n H) (e : H p = none) : HS h n (upd H p o) := by
  obtain ⟨g, b, c, eh, r⟩ := q
  exact ⟨g, b, c, (by rw [upd_ne (ne_of_none eh e)]; exact eh), r⟩
theorem HS.at {h : Addr} {n : Nat} {H : Hp} (q : HS h n H) : ∃ o, H h = some o := by
  obtain ⟨g, b, c, e, _⟩ := q
  exact ⟨_, e⟩
theorem HS.ne {h : Addr} {n : Nat} {H : Hp} {p : Addr} (q : HS h n H) (e : H p = none) : p ≠ h := by
  obtain ⟨g, b, c, eh, _⟩ := q
  exact fun z => by
    rw [z, eh] at e
    cases e
/-! ### the drawing defs of the law -/
def lim : Nat := 100000
/-- hand(script, k) -/
def spHand (K : PySem.W.Frag) : Sp := fun vs H Q _ => ∃ (a : Addr) (ns : List Int) (k : Nat), vs = [.ref a, .int k] ∧ SqL K H a (ns.map V.int) ∧ k ≤ 100 ∧ ∀ p H', H p = none → (∀ q o, H q = some o → H' q = some o) → HS p 0 H' → Q (.ref p) H'
/-- take(hand, many): some number below many -/
def spTake : Sp := fun vs H Q _ => ∃ (h : Addr) (m : Int) (n : Nat), vs = [.ref h, .int m] ∧ HS h n H ∧ n < lim ∧ 0 < m ∧ m ≤ 10 ^ 18 ∧ ∀ d H', 0 ≤ d → d < m → HS h (n + 1) H' → Fr h H H' → Q (.int d) H'
/-- of(hand, some) -/
def spOf (K : PySem.W.Frag) : Sp := fun vs H Q _ => ∃ (h a : Addr) (xs : List V) (n : Nat), vs = [.ref h, .ref a] ∧ HS h n H ∧ n < lim ∧ a ≠ h ∧ SqL K H a xs ∧ 0 < xs.length ∧ xs.length ≤ 1000 ∧ ∀ v H', v ∈ xs → HS h (n + 1) H' → Fr h H H' → Q v H'
/-! ### calls by any of the keywords -/
structure CalW (P : Program) (w : World) (K : PySem.W.Frag) (mg : Str → Option Value) (base : Heap) (k : Nat) (x : Str) (n : Nat) (ks : List Str) (gV : List V → List V → List V) (sp : Sp) : Prop where
  ex : ∃ (f : Addr) (fd : FuncData) (ps : List Str) (g : List Value → List Value → List Value), FnOk P w K mg base CX0 k f fd ps sp ∧ mg x = some (.ref f) ∧ PySem.W.keepIn K (.ref f) = true ∧ KBn K fd ps n ks g gV
section
variable {X : Cx} {k j n : Nat} {ks : List Str} {gV : List V → List V → List V} {sp : Sp} {x : Str} {p pos : Pos} {e : Expr} {es : List Expr} {kws : List Keyword} {t tk : TA}
theorem pe_cw (c : CalW X.prog X.w X.K X.mg X.base k x n ks gV sp) (hr : Room j X.A) (hk : k ≤ j) (hg : Gl X x) (ha : PA X (e :: es) t) (hkw : PK X kws tk) (hall : (backToKw pos (keywordEach kws X.env)).all (·.1.isSome) = true := by rfl) (hks : (backToKw pos (keywordEach kws X.env)).filterMap (·.1) = ks := by rfl)
    (hdb : (x == ("__debug__" : Str)) = false := by decide) (he : starEach (e :: es) X.env = (false, eval e X.env) :: starEach es X.env := by rfl)
    (hpl : ((backTo pos (starEach (e :: es) X.env)).any (·.1) || (backToKw pos (keywordEach kws X.env)).any (·.1.isNone)) = false := by rfl) :
    PE X (.Call (.Name x p) (e :: es) kws pos) (tCallN n ks.length sp gV E0 t tk) := by
  obtain ⟨f, fd, ps, g, F, hm, kp, kb⟩ := c.ex
  exact pe_callN F (hr.mono hk) hg hm kp kb pass0 ha hkw hall hks hdb he hpl
end
theorem vals_getD {zs : List V} {ws : List Value} (r : Vals zs ws) (i : Nat) : RelV (zs.getD i .non) (ws.getD i .none) := by
  induction r generalizing i with
  | nil => exact rfl
  | cons h t ih =>
    cases i with
    | zero => exact h
    | succ i => exact ih i
theorem kw_mk {K : PySem.W.Frag} {x qual : Str} {params : Arguments} {body : List Stmt} {scope : Scope} {kws : List (Str × V)} {f : Addr} {fd : FuncData} {ps : List Str} (F : FunD K x qual params body scope [] kws f fd) (hk : kws ≠ []) (n : Nat) (ks : List Str) (miss : List (Str × V)) (hm : ∀ q ∈ miss, q ∈ kws)
    (mix : List Value → List Value → List Value → List Value) (mixV : List V → List V → List V → List V) (hr : ∀ {vs : List V} {us : List Value} {zs : List V} {ws : List Value} {es : List V} {ds : List Value}, Vals vs us → Vals zs ws → Vals es ds → Vals (mixV vs zs es) (mix us ws ds))
    (h : ∀ (D : Addr) (doc pm : Value) (an : Option Addr) (cdv ct : Value) (us ws ds : List Value), us.length = n → ws.length = ks.length → ds.length = miss.length →
      KwChain D ((miss.map (·.1)).zip ds) (bindArgs (PySem.W.fnOf x qual params body scope .none (.ref D) doc pm an cdv ct) ⟨us, ks.zip ws⟩) (ps.zip (mix us ws ds))) : ∃ g, KBn K fd ps n ks g (fun vs zs => mixV vs zs (miss.map (·.2))) := by
  obtain ⟨oc, od, dV, kV, doc, pm, an, cdv, ct, osl, rfl, lk, hcd, hD, hK⟩ := F.ex
  rcases hD with ⟨_, rfl⟩ | ⟨e, _⟩
  · rcases hK with e | ⟨D, rfl, hq⟩
    · exact absurd e hk
    · obtain ⟨ds, hl, rk, hks⟩ := kwd_vals (ms := miss) fun q hq' => hq q (hm q hq')
      refine ⟨fun us ws => mix us ws ds, ⟨fun s us ws X l1 l2 => ?_, fun r1 r2 => hr r1 r2 rk⟩⟩
      exact BindsTo.of_looks fun M => KwChain.looks X hks (h D doc pm an cdv ct us ws ds l1 l2 hl)
  · exact absurd rfl e
theorem pow_ok {i j : Int} (h : 0 ≤ j ∧ j ≤ 1000000 ∧ i.natAbs < 2 ^ 64) : CPow i j := h
theorem atI_in {xs : List V} {i : Int} (h0 : 0 ≤ i) (h1 : i < xs.length) : ∃ v, atI xs i = some v ∧ v ∈ xs := by
  have h2 : i.toNat < xs.length := by omega
  refine ⟨xs[i.toNat], ?_, List.getElem_mem h2⟩
  have e := atI_nat (xs := xs) (j := i.toNat) (List.getElem?_eq_getElem h2)
  rw [Int.toNat_of_nonneg h0] at e
  exact e
theorem if01 (b : Bool) : 0 ≤ (if b = true then (1 : Int) else 0) ∧ (if b = true then (1 : Int) else 0) ≤ 1 := by
  cases b <;> decide
theorem w45 : (((10 : Int) ^ (45 : Int).toNat).natAbs) < 2 ^ 150 := by decide +kernel
theorem e90 : ((10 : Int) ^ (45 : Int).toNat) * ((10 : Int) ^ (45 : Int).toNat) = 10 ^ 90 := by decide +kernel
theorem p17 : ((10 : Int) ^ (17 : Int).toNat) = 100000000000000000 := by decide +kernel
theorem p18 : ((10 : Int) ^ (18 : Int).toNat) = 1000000000000000000 := by decide +kernel
theorem p19 : ((2 : Int) ^ (19 : Int).toNat) = 524288 := by decide +kernel
theorem p20 : ((2 : Int) ^ (20 : Int).toNat) = 1048576 := by decide +kernel
theorem cdw {i j : Int} (h : 0 < j) (h1 : j ≤ 1000000000000000000) : CDivW i j := wide_div (b := 64) h (by omega) (by decide) (by decide)
section
variable {P : Program} {w : World} {K : PySem.W.Frag} {mg : Str → Option Value} {base : Heap}
theorem ok_hand (T : Tx K mg) : BodyOk P w K mg base "_law_hand" s_l_hand N_l_hand 0 (spHand K) := by
  intro f cdv A outer s H vs Q E hr h
  obtain ⟨a, ns, k, rfl, hS, hk, q⟩ := h
  refine ⟨_, (pss_cons (ps_set (i := 2) sc_l_hand.nd rfl (Or.inl rfl) (pe_ifExp (pt_cmpR op_lt (pv 1) (pe_callB call_len_seq (gl_of gl_l_hand_len) T.len bb_len (pa_cons (pv 0) pa_nil)) (nomark _)) (pe_ix ix_list (pv 0) (pv 1) (fun _ _ => rfl)) pe_int))
      (pss_cons (ps_set (i := 3) sc_l_hand.nd rfl (Or.inl rfl) (pe_op op_mul (pe_op op_mod (pe_callB call_abs (gl_of gl_l_hand_abs) T.abs bb_abs (pa_cons (pv 2) pa_nil)) (pe_op op_mulW (pe_op op_pow pe_int pe_int) (pe_op op_pow pe_int pe_int))) (pe_callTy call_int1 (gl_of gl_l_hand_int) T.int bt_int (pa_cons (pe_cmpR op_ge (pe_callB call_abs (gl_of gl_l_hand_abs) T.abs bb_abs (pa_cons (pv 2) pa_nil)) (pe_op op_pow pe_int pe_int) (nomark _)) pa_nil))))
      (pss_one (ps_ret (pe_lst (pa_cons (pv 3) (pa_cons (pe_op op_add (pe_op op_add (pe_op op_mod (pv 2) pe_int) (pe_op op_mul pe_int (pv 1))) pe_int) (pa_cons pe_int pa_nil)))))))), ?_⟩
  refine st_seq (st_setH (PV := fun v H' => H' = H ∧ ∃ c : Int, v = .int c) (fun Q2 q2 => ?_) (fun v H' hv => ?_))
  · refine ⟨_, rfl, _, rfl, a, _, rfl, .inl hS, _, _, rfl, rfl, _, rfl, ite2 (fun e => ?_) (fun e => ?_)⟩
    · have e1 := of_decide_eq_true e
      rw [List.length_map] at e1
      have e2 : k < ns.length := by omega
      refine ⟨_, rfl, _, rfl, a, _, _, .int ns[k], rfl, rfl, hS, ?_, q2 _ _ ⟨rfl, _, rfl⟩⟩
      refine atI_nat ?_
      rw [List.getElem?_map, List.getElem?_eq_getElem e2]
      rfl
    · exact q2 _ _ ⟨rfl, _, rfl⟩
  · obtain ⟨rfl, c, rfl⟩ := hv
    refine st_seq ?_
    refine ⟨_, rfl, _, rfl, _, _, rfl, rfl, pow_ok (by decide), _, _, rfl, rfl, pow_ok (by decide), _, _, rfl, rfl, wide_mul w45 w45 (by decide) (by decide) (by decide), _, _, rfl, rfl, ?_, ?_⟩
    · rw [e90]
      show (0 : Int) < 10 ^ 90
      decide
    · refine ⟨_, rfl, _, rfl, _, _, rfl, rfl, pow_ok (by decide), _, _, rfl, rfl, .inr ⟨_, rfl, _, _, rfl, rfl, .inr ?_, ?_⟩⟩
      · have z := if01 (decide (((10 : Int) ^ (18 : Int).toNat) ≤ (if c < 0 then -c else c)))
        exact ⟨Int.lt_of_lt_of_le (by decide) z.1, Int.lt_of_le_of_lt z.2 (by decide)⟩
      · refine ⟨_, rfl, _, rfl, _, _, rfl, rfl, (show (0 : Int) < 2305843009213693951 by decide), _, rfl, _, _, rfl, rfl, .inl (by decide), _, _, rfl, rfl, _, _, rfl, rfl, by show 3 ≤ sizeLine; decide, fun p np => ?_⟩
        refine q _ _ np (fun b o e => ?_) ⟨_, _, _, upd_same, ?_, ?_, ?_, ?_, ?_, ?_⟩
        · rw [upd_ne (ne_of_none e np)]
          exact e
        · rw [e90]
          exact Int.mul_nonneg (Int.emod_nonneg _ (by decide)) (if01 _).1
        · rw [e90]
          have h1 : (if c < 0 then -c else c) % (10 ^ 90) < 10 ^ 90 := Int.emod_lt_of_pos _ (by decide)
          have h0 : 0 ≤ (if c < 0 then -c else c) % (10 ^ 90) := Int.emod_nonneg _ (by decide)
          cases (decide (((10 : Int) ^ (18 : Int).toNat) ≤ (if c < 0 then -c else c))) with
          | true =>
            rw [if_pos rfl, Int.mul_one]
            exact h1
          | false =>
            rw [if_neg Bool.false_ne_true, Int.mul_zero]
            decide
        · have h1 : 0 ≤ c % 2305843009213693951 := Int.emod_nonneg _ (by decide)
          omega
        · have h1 : c % 2305843009213693951 < 2305843009213693951 := Int.emod_lt_of_pos _ (by decide)
          have h2 : (2 : Int) ^ 62 = 4611686018427387904 := by decide
          omega
        · decide
        · decide
def primes : List V := [.int 2147483647, .int 2147483629, .int 2147483587, .int 2147483579, .int 2147483563, .int 2147483549, .int 2147483543, .int 2147483497]
theorem primes_in : ∀ v ∈ primes, ∃ q : Int, v = .int q ∧ 0 < q ∧ q < 2147483648 := by
  intro v hv
  simp only [primes, List.mem_cons, List.not_mem_nil, or_false] at hv
  rcases hv with rfl | rfl | rfl | rfl | rfl | rfl | rfl | rfl <;> exact ⟨_, rfl, by decide, by decide⟩
theorem ok_take (T : Tx K mg) : BodyOk P w K mg base "_law_take" s_l_take N_l_take 0 spTake := by
  intro f cdv A outer s H vs Q E hr h
  obtain ⟨h, m, n, rfl, ⟨g, b, c, eh, g0, g1, b0, b1, c0, c1⟩, hn, m0, m1, q⟩ := h
  refine ⟨_, (pss_cons (ps_if (pt_cmpR op_gt (pe_ix ix_list (pv 0) pe_int (fun _ _ => rfl)) pe_int (nomark _)) (pss_cons (ps_set (i := 2) sc_l_take.nd rfl (Or.inl rfl) (pe_op op_mod (pe_ix ix_list (pv 0) pe_int (fun _ _ => rfl)) (pv 1)))
      (pss_cons (ps_asg (pe_op op_fdivW (pe_ix ix_list (pv 0) pe_int (fun _ _ => rfl)) (pv 1)) (pg_sub (pv 0) pe_int set_list))
      (pss_one (ps_ret (pv 2))))) pss_nil)
      (pss_cons (ps_asg (pe_op op_add (pe_ix ix_list (pv 0) pe_int (fun _ _ => rfl)) pe_int) (pg_sub (pv 0) pe_int set_list))
      (pss_cons (ps_set (i := 3) sc_l_take.nd rfl (Or.inl rfl) (pe_lst (pa_cons pe_int (pa_cons pe_int (pa_cons pe_int (pa_cons pe_int (pa_cons pe_int (pa_cons pe_int (pa_cons pe_int (pa_cons pe_int pa_nil))))))))))
      (pss_cons (ps_set (i := 4) sc_l_take.nd rfl (Or.inl rfl) (pe_ix ix_list (pv 3) (pe_op op_mod (pe_ix ix_list (pv 0) pe_int (fun _ _ => rfl)) pe_int) (fun _ _ => rfl)))
      (pss_cons (ps_set (i := 5) sc_l_take.nd rfl (Or.inl rfl) (pe_op op_mod (pe_op op_pow (pe_op op_add (pe_ix ix_list (pv 0) pe_int (fun _ _ => rfl)) (pe_op op_mul pe_int (pe_ix ix_list (pv 0) pe_int (fun _ _ => rfl)))) pe_int) (pv 4)))
      (pss_one (ps_ret (pe_op op_mod (pe_op op_fdivW (pe_op op_mod (pe_op op_mul (pv 5) (pe_op op_add (pe_op op_mod (pv 5) pe_int) (pe_ix ix_list (pv 0) pe_int (fun _ _ => rfl)))) (pv 4)) pe_int) (pv 1))))))))), ?_⟩
  have hn2 : (n : Int) < 100000 := by
    have z : n < 100000 := hn
    omega
  have p18' : (10 : Int) ^ 18 = 1000000000000000000 := by decide
  have p62 : (2 : Int) ^ 62 = 4611686018427387904 := by decide
  refine st_seq ?_
  refine ⟨_, rfl, h, _, _, _, rfl, rfl, SqL.of eh, rfl, _, _, rfl, rfl, _, rfl, ite2 (fun z => ?_) (fun z => ?_)⟩
  · refine ⟨_, rfl, h, _, _, _, rfl, rfl, SqL.of eh, rfl, _, rfl, _, _, rfl, rfl, m0, ?_⟩
    refine ⟨_, rfl, h, _, _, _, rfl, rfl, SqL.of eh, rfl, _, rfl, _, _, rfl, rfl, cdw m0 (by omega), ?_⟩
    refine ⟨_, rfl, h, _, _, 0, rfl, rfl, eh, rfl, ?_⟩
    refine ⟨_, rfl, q _ _ (Int.emod_nonneg _ (by omega)) (Int.emod_lt_of_pos _ m0) ⟨_, b, c, upd_same, ?_, ?_, b0, b1, c0, ?_⟩ Fr.hand⟩
    · exact Int.ediv_nonneg g0 (by omega)
    · exact Int.lt_of_le_of_lt (Int.ediv_le_self _ g0) g1
    · omega
  · refine st_seq ?_
    refine ⟨_, rfl, h, _, _, _, rfl, rfl, SqL.of eh, rfl, _, _, rfl, rfl, _, rfl, h, _, _, 2, rfl, rfl, eh, rfl, ?_⟩
    have e2 : (upd H h (.lst [.int g, .int b, .int (c + 1)])) h = some (.lst [.int g, .int b, .int (c + 1)]) := upd_same
    refine st_seq ⟨by show 8 ≤ sizeLine; decide, fun p np => ?_⟩
    have hpn : h ≠ p := ne_of_none e2 np
    have e3 : (upd (upd H h (.lst [.int g, .int b, .int (c + 1)])) p (.lst primes)) h = some (.lst [.int g, .int b, .int (c + 1)]) := by
      rw [upd_ne hpn]
      exact e2
    obtain ⟨v, ev, hv⟩ := atI_in (xs := primes) (i := (c + 1) % 8) (Int.emod_nonneg _ (by decide)) (Int.emod_lt_of_pos _ (by decide))
    obtain ⟨r, rfl, r0, r1⟩ := primes_in v hv
    refine st_seq ?_
    refine ⟨_, rfl, _, rfl, h, _, _, _, rfl, rfl, SqL.of e3, rfl, _, _, rfl, rfl, (show (0 : Int) < 8 by decide), p, _, _, _, rfl, rfl, SqL.of upd_same, ev, ?_⟩
    refine st_seq ?_
    refine ⟨_, rfl, h, _, _, _, rfl, rfl, SqL.of e3, rfl, _, rfl, h, _, _, _, rfl, rfl, SqL.of e3, rfl, _, _, rfl, rfl, .inl (by decide), _, _, rfl, rfl, _, _, rfl, rfl, pow_ok ⟨by decide, by decide, by omega⟩, _, rfl, _, _, rfl, rfl, r0, ?_⟩
    refine ⟨_, rfl, _, rfl, _, _, rfl, rfl, (show (0 : Int) < 1009 by decide), _, rfl, h, _, _, _, rfl, rfl, SqL.of e3, rfl, _, _, rfl, rfl, _, _, rfl, rfl, .inl ?_, _, rfl, _, _, rfl, rfl, r0, _, _, rfl, rfl, cdw (by decide) (by decide), _, rfl, _, _, rfl, rfl, m0, ?_⟩
    · have h1 : 0 ≤ (b + 7919 * (c + 1)) ^ (5 : Int).toNat % r := Int.emod_nonneg _ (by omega)
      have h2 : (b + 7919 * (c + 1)) ^ (5 : Int).toNat % r < r := Int.emod_lt_of_pos _ r0
      have h3 : (2 : Int) ^ 64 = 18446744073709551616 := by decide
      rw [h3]
      exact ⟨by omega, by omega⟩
    · refine q _ _ (Int.emod_nonneg _ (by omega)) (Int.emod_lt_of_pos _ m0) ⟨g, b, c + 1, e3, g0, g1, b0, b1, by omega, by omega⟩ (Fr.trans Fr.hand (Fr.new np))
end
/-! ### the law's own going round -/
def wayI (x y s : Int) : Int := if x ≤ y then y - x else y - x + s
theorem way_eq {x y s : Int} (x0 : 0 ≤ x) (x1 : x < s) (y0 : 0 ≤ y) (y1 : y < s) : (y - x) % s = wayI x y s := by
  unfold wayI
  split
  · rw [Int.emod_eq_of_lt (by omega) (by omega)]
  · have z : (y - x) % s = (y - x + s) % s := by
      rw [Int.add_emod_right]
    rw [z, Int.emod_eq_of_lt (by omega) (by omega)]
theorem HS.same {h : Addr} {n : Nat} {H H' : Hp} (q : HS h n H) (e : Same H H') : HS h n H' := by
  obtain ⟨g, b, c, eh, r⟩ := q
  exact ⟨g, b, c, e _ _ eh, r⟩
theorem Fr.same {h : Addr} {H H' : Hp} (e : Same H H') : Fr h H H' := fun a o _ q => e a o q
theorem same_new {H : Hp} {p : Addr} {o : HO} (h : H p = none) : Same H (upd H p o) := fun b x e => by
  rw [upd_ne (ne_of_none e h)]
  exact e
theorem seq_new {K : PySem.W.Frag} {H H' : Hp} {a p : Addr} {xs : List V} (q : SqL K H a xs) (e : H p = none) (f : Fr p H H') : SqL K H' a xs := by
  rcases q with (q | ⟨o, q⟩) | q
  · exact .inl (.inl (f _ _ (ne_of_none q e) q))
  · exact .inl (.inr ⟨o, f _ _ (ne_of_none q e) q⟩)
  · exact .inr q
theorem all_rep (n : Nat) : (List.replicate n true).all id = true := by
  rw [List.all_eq_true]
  intro x hx
  exact (List.eq_of_mem_replicate hx)
theorem if_join {c : TT} {t1 t2 : TS} {D : Ends} {σ : L2.St} {H : Hp} (J : L2.St → Hp → Prop) (h : ∀ (N : L2.St → Hp → Prop), (∀ σ' H', J σ' H' → N σ' H') → tIfS c t1 t2 { D with nx := N } σ H) (q : ∀ σ' H', J σ' H' → D.nx σ' H') : tIfS c t1 t2 D σ H := h D.nx q
def spLaw (K : PySem.W.Frag) : Sp := fun vs H Q _ => ∃ (a : Addr) (ns : List Int), vs = [.ref a] ∧ SqL K H a (ns.map V.int) ∧ ns.length ≤ 63 ∧ ∀ H', Q (.bl true) H'
section
variable {P : Program} {w : World} {K : PySem.W.Frag} {mg : Str → Option Value} {base : Heap}
def spSize : Sp := fun vs H Q _ => ∃ (h : Addr) (n : Nat), vs = [.ref h] ∧ HS h n H ∧ n + 3 < lim ∧ ∀ s H', 8 ≤ s → s ≤ 1048576 → s % 2 = 0 → HS h (n + 3) H' → Fr h H H' → Q (.int s) H'
theorem ok_size (T : Tx K mg) (c_l_take : C8.Cal P w K mg base 1 "_law_take" spTake []) (c_l_of : C8.Cal P w K mg base 2 "_law_of" (spOf K) []) : BodyOk P w K mg base "_law_size" s_l_size N_l_size 2 spSize := by
  intro f cdv A outer s H vs Q E hr h
  obtain ⟨h, n, rfl, hs, hn, q⟩ := h
  have hn2 : n + 3 < 100000 := hn
  refine ⟨_, (pss_cons (ps_set (i := 1) sc_l_size.nd rfl (Or.inl rfl) (C8.pe_c c_l_of hr (by decide) (gl_of gl_l_size_l_of) (pa_cons (pv 0) (pa_cons (pe_lst (pa_cons pe_int (pa_cons pe_int (pa_cons pe_int (pa_cons pe_int (pa_cons pe_int (pa_cons pe_int pa_nil))))))) pa_nil))))
      (pss_one (ps_ret (C8.pe_c c_l_of hr (by decide) (gl_of gl_l_size_l_of) (pa_cons (pv 0) (pa_cons (pe_lst (pa_cons (pv 1) (pa_cons (pv 1) (pa_cons (pv 1) (pa_cons pe_int (pa_cons (pe_op op_pow pe_int pe_int) (pa_cons (pe_op op_add pe_int (pe_op op_mul pe_int (C8.pe_c c_l_take hr (by decide) (gl_of gl_l_size_l_take) (pa_cons (pv 0) (pa_cons pe_int pa_nil))))) pa_nil))))))) pa_nil)))))), ?_⟩
  refine st_seq ?_
  refine ⟨_, rfl, (show 6 ≤ sizeLine by decide), fun p np => ?_⟩
  refine ⟨h, p, _, n, rfl, hs.new np, (show n < 100000 by omega), hs.ne np, SqL.of upd_same, (show 0 < 6 by decide), (show 6 ≤ 1000 by decide), fun v H1 hv hs1 f1 => ?_⟩
  have hx : ∃ z : Int, v = .int z ∧ 8 ≤ z ∧ z ≤ 1048576 ∧ z % 2 = 0 := by
    simp only [List.mem_cons, List.not_mem_nil, or_false] at hv
    rcases hv with rfl | rfl | rfl | rfl | rfl | rfl <;> exact ⟨_, rfl, by decide, by decide, by decide⟩
  obtain ⟨z, rfl, z0, z1, z2⟩ := hx
  have f01 : Fr h H H1 := (Fr.new np).trans f1
  refine ⟨_, rfl, _, rfl, _, rfl, _, rfl, _, _, rfl, rfl, pow_ok (by decide), _, rfl, h, 300, n + 1, rfl, hs1, (show n + 1 < 100000 by omega), by decide, by decide, fun d H2 d0 d1 hs2 f2 => ?_⟩
  refine ⟨_, _, rfl, rfl, .inl (by decide), _, _, rfl, rfl, (show 6 ≤ sizeLine by decide), fun p2 np2 => ?_⟩
  refine ⟨h, p2, [.int z, .int z, .int z, .int 64, .int (2 ^ (20 : Int).toNat), .int (8 + 2 * d)], n + 1 + 1, rfl, hs2.new np2, (show n + 1 + 1 < 100000 by omega), hs2.ne np2, SqL.of upd_same, (show 0 < 6 by decide), (show 6 ≤ 1000 by decide), fun v H4 hv hs4 f4 => ?_⟩
  have hx : ∃ z : Int, v = .int z ∧ 8 ≤ z ∧ z ≤ 1048576 ∧ z % 2 = 0 := by
    simp only [p20, List.mem_cons, List.not_mem_nil, or_false] at hv
    rcases hv with rfl | rfl | rfl | rfl | rfl | rfl <;> exact ⟨_, rfl, by omega, by omega, by omega⟩
  obtain ⟨y, rfl, y0, y1, y2⟩ := hx
  exact q y H4 y0 y1 y2 hs4 ((f01.trans f2).trans ((Fr.new np2).trans f4))
end
/-! ### the ring's defs -/
def spOn : Sp := fun vs H Q _ => ∃ x m s : Int, vs = [.int x, .int m, .int s] ∧ 0 < s ∧ Q (.int ((x + m) % s)) H
def spSteps : Sp := fun vs H Q _ => ∃ x y s : Int, vs = [.int x, .int y, .int s] ∧ 0 < s ∧ Q (.int ((y - x) % s)) H
section
variable {P : Program} {w : World} {K : PySem.W.Frag} {mg : Str → Option Value} {base : Heap}
theorem ok_steps : BodyOk P w K mg base "steps" s_steps N_steps 0 spSteps := by
  intro f cdv A outer s H vs Q E hr h
  obtain ⟨x, y, s, rfl, s0, q⟩ := h
  refine ⟨_, (pss_one (ps_ret (pe_op op_mod (pe_op op_sub (pv 1) (pv 0)) (pv 2)))), ?_⟩
  exact ⟨_, rfl, _, rfl, _, _, rfl, rfl, _, rfl, _, _, rfl, rfl, s0, q⟩
def spBefore : Sp := fun vs H Q _ => ∃ x y s : Int, vs = [.int x, .int y, .int s] ∧ 0 < s ∧ s ≤ 1048576 ∧ Q (.bl (decide (0 < (y - x) % s) && decide ((y - x) % s < s / 2))) H
theorem ok_before (k_steps : CalK P w K mg base 1 "steps" 2 ["ring"] spSteps) : BodyOk P w K mg base "before" s_before N_before 1 spBefore := by
  intro f cdv A outer s H vs Q E hr h
  obtain ⟨x, y, s, rfl, s0, s1, q⟩ := h
  refine ⟨_, (pss_one (ps_ret (pe_chain op_lt op_lt pe_int (pe_ck k_steps hr (by decide) (gl_of gl_before_steps) (pa_cons (pv 0) (pa_cons (pv 1) pa_nil)) (pk_cons (pv 2) pk_nil)) (pe_op op_fdivW (pv 2) pe_int)))), ?_⟩
  refine ⟨_, rfl, _, rfl, _, rfl, rfl, rfl, x, y, s, rfl, s0, _, _, rfl, rfl, _, rfl, ite2 (fun z => ?_) (fun z => ?_)⟩
  · refine ⟨_, rfl, _, _, rfl, rfl, cdw (by decide) (by decide), _, _, rfl, rfl, ?_⟩
    rw [z, Bool.true_and] at q
    exact q
  · rw [Bool.eq_false_iff.mpr z, Bool.false_and] at q
    exact q
end
/-! ### looks -/
def bef (x y s : Int) : Bool := decide (0 < (y - x) % s) && decide ((y - x) % s < s / 2)
def don (z : Str) (c : Int) (xs : List Int) (n s : Int) : Bool := decide (V.str z = V.str "done") && (bef n c s && !inV (.int n) (xs.map V.int))
theorem Fr.free {h : Addr} {H H' : Hp} {p : Addr} (f : Fr h H H') (n : p ≠ h) (e : H' p = none) : H p = none := by
  cases q : H p with
  | none => rfl
  | some o =>
    rw [f _ _ n q] at e
    cases e
/-- a look at a: its next number, its open ones -/
def Lk (K : PySem.W.Frag) (H : Hp) (a : Addr) (c : Int) (xs : List Int) : Prop := ∃ t, SqT K H a [.int c, .ref t] ∧ SqT K H t (xs.map V.int)
theorem ne_tl {H : Hp} {a b : Addr} {xs ys : List V} (h1 : H a = some (.tup xs)) (h2 : H b = some (.lst ys)) : a ≠ b := fun e => by
  rw [e, h2] at h1
  cases h1
theorem HS.neT {h : Addr} {n : Nat} {H : Hp} {p : Addr} {xs : List V} (q : HS h n H) (e : H p = some (.tup xs)) : p ≠ h := by
  obtain ⟨g, b, c, eh, _⟩ := q
  exact ne_tl e eh
theorem HS.sqT {h : Addr} {n : Nat} {K : PySem.W.Frag} {H H' : Hp} {a : Addr} {xs : List V} (q : HS h n H) (f : Fr h H H') (s : SqT K H a xs) : SqT K H' a xs := by
  obtain ⟨g, b, c, eh, _⟩ := q
  rcases s with (s | ⟨o, s⟩) | s
  · exact .inl (.inl (f _ _ (fun e => by rw [e, eh] at s; cases s) s))
  · exact .inl (.inr ⟨o, f _ _ (fun e => by rw [e, eh] at s; cases s) s⟩)
  · exact .inr s
theorem HS.lk {h : Addr} {n : Nat} {K : PySem.W.Frag} {H H' : Hp} {a : Addr} {c : Int} {xs : List Int} (q : HS h n H) (f : Fr h H H') (l : Lk K H a c xs) : Lk K H' a c xs := by
  obtain ⟨t, h1, h2⟩ := l
  exact ⟨t, q.sqT f h1, q.sqT f h2⟩
theorem sqT_same {K : PySem.W.Frag} {H H' : Hp} {a : Addr} {xs : List V} (s : Same H H') (h : SqT K H a xs) : SqT K H' a xs := by
  rcases h with (h | ⟨o, h⟩) | h
  · exact .inl (.inl (s _ _ h))
  · exact .inl (.inr ⟨o, s _ _ h⟩)
  · exact .inr h
theorem Lk.same {K : PySem.W.Frag} {H H' : Hp} {a : Addr} {c : Int} {xs : List Int} (s : Same H H') (l : Lk K H a c xs) : Lk K H' a c xs := by
  obtain ⟨t, h1, h2⟩ := l
  exact ⟨t, sqT_same s h1, sqT_same s h2⟩
theorem flat_ints : ∀ ks : List Int, (ks.map V.int).all flatV = true
  | [] => rfl
  | k :: r => by
    show (flatV (.int k) && (r.map V.int).all flatV) = true
    rw [flat_ints r]
    rfl
/-- how far back the open ones stand: the eldest first -/
structure Back (s : Int) (bs : List Int) : Prop where
  dec : bs.Pairwise (· > ·)
  pos : ∀ b ∈ bs, 0 < b ∧ b < s / 2
  len : bs.length ≤ 6
def spLook (K : PySem.W.Frag) : Sp := fun vs H Q _ => ∃ (h : Addr) (s : Int) (n : Nat), vs = [.ref h, .int s] ∧ HS h n H ∧ n + 21 < lim ∧ 8 ≤ s ∧ s ≤ 1048576 ∧
  ∀ a c bs H', Back s bs → 0 ≤ c → c < s → Lk K H' a c (bs.map fun b => (c - b) % s) → HS h (n + 21) H' → Fr h H H' → Q (.ref a) H'
def spLow (K : PySem.W.Frag) : Sp := fun vs H Q _ => ∃ (a : Addr) (c : Int) (xs : List Int), vs = [.ref a] ∧ Lk K H a c xs ∧ Q (.int (xs.headD c)) H
def spSees (K : PySem.W.Frag) : Sp := fun vs H Q _ => ∃ (a : Addr) (c : Int) (xs : List Int) (n : Int) (z : Str) (s : Int), vs = [.ref a, .int n, .str z, .int s] ∧ Lk K H a c xs ∧ 0 < s ∧ s ≤ 1048576 ∧ Q (.bl (don z c xs n s)) H
/-! ### tuples: sums, slices, whatever they share -/
theorem catA_ev {K : PySem.W.Frag} {H : Hp} {a b : Addr} {xs ys : List V} {Q : VK} (ha : SqT K H a xs) (hb : SqT K H b ys) (hz : xs.length + ys.length ≤ 1000) (go : ∀ p H', Same H H' → SqT K H' p (xs ++ ys) → Q (.ref p) H') : rCatA K (.ref a) (.ref b) H Q := by
  refine ⟨a, b, xs, ys, rfl, rfl, ha, hb, Nat.le_of_lt (small1000 hz), fun e => ?_, fun e1 e2 => ?_, fun e1 e2 p np => ?_⟩
  · subst e
    exact go b H (fun _ _ q => q) hb
  · subst e2
    refine go a H (fun _ _ q => q) ?_
    rw [List.append_nil]
    exact ha
  · exact go p _ (same_new np) (SqT.of upd_same)
theorem slA_ev {K : PySem.W.Frag} {H : Hp} {a : Addr} {xs : List V} {lo hi : Option Int} {Q : VK} (ha : SqT K H a xs) (go : ∀ p H', Same H H' → SqT K H' p (cutV xs lo hi) → Q (.ref p) H') : rSlA K (.ref a) lo hi H Q := by
  refine ⟨a, xs, rfl, ha, fun e => ?_, fun e p np => ?_⟩
  · refine go a H (fun _ _ q => q) ?_
    unfold cutV
    rw [e.1, e.2, List.drop_zero, Nat.sub_zero, List.take_length]
    exact ha
  · exact go p _ (same_new np) (SqT.of upd_same)
theorem sqT_fr {K : PySem.W.Frag} {L : Addr} {H H' : Hp} {a : Addr} {xs zs : List V} (eL : H L = some (.lst zs)) (f : Fr L H H') (s : SqT K H a xs) : SqT K H' a xs := by
  rcases s with (s | ⟨o, s⟩) | s
  · exact .inl (.inl (f _ _ (fun e => by rw [e, eL] at s; cases s) s))
  · exact .inl (.inr ⟨o, f _ _ (fun e => by rw [e, eL] at s; cases s) s⟩)
  · exact .inr s
theorem HS.fr {h L : Addr} {n : Nat} {H H' : Hp} (q : HS h n H) (f : Fr L H H') (ne : L ≠ h) : HS h n H' := by
  obtain ⟨g, b, c, eh, r⟩ := q
  exact ⟨g, b, c, f _ _ ne.symm eh, r⟩
theorem HS.upd {h L : Addr} {n : Nat} {H : Hp} {o : HO} (q : HS h n H) (ne : L ≠ h) : HS h n (upd H L o) := by
  obtain ⟨g, b, c, eh, r⟩ := q
  exact ⟨g, b, c, (by rw [upd_ne ne.symm]; exact eh), r⟩
theorem lg {i : Int} (h : i.natAbs < 2 ^ 64) : i.natAbs.log2 < 1920 := by
  by_cases z : i.natAbs = 0
  · rw [z]
    decide
  · rw [Nat.log2_lt z]
    exact Nat.lt_trans h (Nat.pow_lt_pow_right (by decide) (by decide))
theorem same_mut {H H' : Hp} {p : Addr} {o : HO} (e : Same H H') (h : H p = none) : Same H (upd H' p o) := fun b x q => by
  rw [upd_ne (ne_of_none q h)]
  exact e b x q
theorem dec_refl (v : V) : decide (v = v) = true := decide_eq_true rfl
theorem take_add1 {α : Type} (l : List α) (i : Nat) (h : i < l.length) : l.take (i + 1) = l.take i ++ [l[i]] := by
  rw [List.take_succ, List.getElem?_eq_getElem h]
  rfl
/-! ### small data -/
structure Small (m : Nat) (d : PyData) : Prop where
  sh : d.showable = true
  nd : d.hasDict = false
  dp : d.depth ≤ 3
  ls : d.leavesShort 20 = true
  wt : d.weight ≤ m
theorem Small.fits {m : Nat} {d : PyData} (s : Small m d) (h : m ≤ 100000) : d.showable = true ∧ d.hasDict = false ∧ d.depth ≤ 60 ∧ d.shown.length ≤ sizeLine := by
  have o3 := s.dp
  have o5 := s.wt
  refine ⟨s.sh, s.nd, by omega, ?_⟩
  have z := PyData.shown_le 20 (by decide) d s.ls
  have e : sizeLine = 16777216 := sizeLine_eq
  omega
/-- a thing without parts, and its data -/
structure Lf (v : V) (d : PyData) : Prop where
  at_ : ∀ (K : PySem.W.Frag) (H : Hp), Dp K H v d
  sh : d.showable = true
  nd : d.hasDict = false
  dp : d.depth = 0
  ls : d.leavesShort 20 = true
  wt : d.weight ≤ 64
theorem Lf.small {v : V} {d : PyData} (l : Lf v d) : Small 64 d := ⟨l.sh, l.nd, by rw [l.dp]; decide, l.ls, l.wt⟩
theorem lf_non : Lf .non .none := ⟨fun _ _ => .non, rfl, rfl, rfl, rfl, by decide⟩
theorem lf_int {i : Int} (h : i.natAbs < 2 ^ 62) : Lf (.int i) (.int i) := by
  have e62 : (2 : Nat) ^ 62 = 4611686018427387904 := by decide
  refine ⟨fun _ _ => .int i, decide_eq_true (lg (Nat.lt_trans h (by decide))), rfl, rfl, ?_, ?_⟩
  · show decide ((PyData.shown (.int i)).length ≤ 20) = true
    refine decide_eq_true ?_
    have e := int_text_length_le10 (k := 19) (a := i) (by decide) (by omega)
    show (Str.ofString (toString i)).length ≤ 20
    rw [PySem.ofString_length]
    exact e
  · show (if i == 0 then 0 else i.natAbs.log2 + 1) ≤ 64
    split
    · decide
    · rename_i z
      have z1 : i.natAbs ≠ 0 := fun e => z (by simpa using e)
      have z2 := (Nat.log2_lt z1).mpr h
      omega
theorem lf_str {z : Str} (h : z.cps.size ≤ 64) (ha : (z.cps.toList.all fun c => decide (c < 16 ^ 8)) = true) : Lf (.str z) (.str z) := ⟨fun _ _ => .str z, rfl, rfl, rfl, ha, h⟩
def onV : Option Int → V
  | none => .non
  | some i => .int i
def onD : Option Int → PyData
  | none => .none
  | some i => .int i
theorem lf_on {x : Option Int} (h : ∀ i, x = some i → 0 ≤ i ∧ i < 1048576) : Lf (onV x) (onD x) := by
  cases x with
  | none => exact lf_non
  | some i =>
    have z := h i rfl
    have e62 : (2 : Nat) ^ 62 = 4611686018427387904 := by decide
    exact lf_int (by omega)
theorem small_tup4 {K : PySem.W.Frag} {H : Hp} {p : Addr} {a b c d : V} {da db dc dd : PyData} (h : SqT K H p [a, b, c, d]) (la : Lf a da) (lb : Lf b db) (lc : Lf c dc) (ld : Lf d dd) :
    Dp K H (.ref p) (.tuple [da, db, dc, dd]) ∧ Small 300 (.tuple [da, db, dc, dd]) := by
  refine ⟨.tup h (.cons (la.at_ K H) (.cons (lb.at_ K H) (.cons (lc.at_ K H) (.cons (ld.at_ K H) .nil)))), ?_, ?_, ?_, ?_, ?_⟩
  · simp only [PyData.showable, PyData.showableAll, la.sh, lb.sh, lc.sh, ld.sh, Bool.and_self]
  · simp only [PyData.hasDict, PyData.hasDictAll, la.nd, lb.nd, lc.nd, ld.nd, Bool.or_self]
  · simp only [PyData.depth, PyData.depthAll, la.dp, lb.dp, lc.dp, ld.dp]
    decide
  · simp only [PyData.leavesShort, PyData.leavesShortAll, la.ls, lb.ls, lc.ls, ld.ls, Bool.and_self]
  · simp only [PyData.weight, PyData.weightAll]
    have := la.wt
    have := lb.wt
    have := lc.wt
    have := ld.wt
    omega
/-! ### fates: a tuple of pairs, each number once -/
def dk (fs : List (Int × Str)) : List (Key × V) := fs.map fun p => (Sum.inl p.1, V.str p.2)
def fte (fs : List (Int × Str)) (x : Option Int) : Option Str := x.bind fun i => (fs.find? fun p => decide (p.1 = i)).map (·.2)
def oS (o : Option Str) : V := (o.map V.str).getD .non
def isS (o : Option Str) (z : Str) : Bool := decide (oS o = V.str z)
/-- the fates at F -/
def Ft (K : PySem.W.Frag) (H : Hp) (F : Addr) (fs : List (Int × Str)) : Prop := ∃ (o : Obj) (ps : List Addr), H F = some (.frz o (.tup (ps.map V.ref))) ∧ o.dict = none ∧ Paired (fun p f => SqT K H p [.int f.1, .str f.2]) ps fs
theorem paired_mono {α β : Type} {R S : α → β → Prop} (h : ∀ a b, R a b → S a b) : ∀ {as : List α} {bs : List β}, Paired R as bs → Paired S as bs
  | _, _, .nil => .nil
  | _, _, .cons a t => .cons (h _ _ a) (paired_mono h t)
theorem paired_len {α β : Type} {R : α → β → Prop} : ∀ {as : List α} {bs : List β}, Paired R as bs → as.length = bs.length
  | _, _, .nil => rfl
  | _, _, .cons _ t => congrArg Nat.succ (paired_len t)
theorem paired_at {α β : Type} {R : α → β → Prop} : ∀ {as : List α} {bs : List β} {j : Nat} (_ : Paired R as bs) (h1 : j < as.length) (h2 : j < bs.length), R as[j] bs[j]
  | _, _, 0, .cons q _, _, _ => q
  | _, _, j + 1, .cons _ t, h1, h2 => paired_at t (Nat.lt_of_succ_lt_succ h1) (Nat.lt_of_succ_lt_succ h2)
theorem Ft.same {K : PySem.W.Frag} {H H' : Hp} {F : Addr} {fs : List (Int × Str)} (s : Same H H') (f : Ft K H F fs) : Ft K H' F fs := by
  obtain ⟨o, ps, h1, h2, h3⟩ := f
  exact ⟨o, ps, s _ _ h1, h2, paired_mono (fun _ _ q => sqT_same s q) h3⟩
theorem Ft.fr {K : PySem.W.Frag} {h : Addr} {n : Nat} {H H' : Hp} {F : Addr} {fs : List (Int × Str)} (q : HS h n H) (fr : Fr h H H') (f : Ft K H F fs) : Ft K H' F fs := by
  obtain ⟨o, ps, h1, h2, h3⟩ := f
  refine ⟨o, ps, fr _ _ (fun e => ?_) h1, h2, paired_mono (fun _ _ z => q.sqT fr z) h3⟩
  obtain ⟨g, b, c, eh, _⟩ := q
  rw [e, eh] at h1
  cases h1
theorem paired_dk {K : PySem.W.Frag} {H : Hp} : ∀ {ps : List Addr} {fs : List (Int × Str)}, Paired (fun p f => SqT K H p [.int f.1, .str f.2]) ps fs → Paired (fun p (kv : Key × V) => SqT K H p [kV kv.1, kv.2]) ps (dk fs)
  | _, _, .nil => .nil
  | _, _, .cons a t => .cons a (paired_dk t)
theorem putK_new {acc : List (Key × V)} {k : Key} {v : V} (h : k ∉ acc.map (·.1)) : putK acc k v = acc ++ [(k, v)] := by
  unfold putK
  rw [if_neg]
  intro e
  obtain ⟨x, hx, e2⟩ := List.any_eq_true.mp e
  exact h (of_decide_eq_true e2 ▸ List.mem_map_of_mem hx)
theorem mergeK_new : ∀ (more acc : List (Key × V)), ((acc ++ more).map (·.1)).Nodup → mergeK acc more = acc ++ more
  | [], acc, _ => (List.append_nil acc).symm
  | p :: r, acc, h => by
    show mergeK (putK acc p.1 p.2) r = _
    have h2 : p.1 ∉ acc.map (·.1) := by
      rw [List.map_append, List.nodup_append] at h
      intro hm
      exact h.2.2 _ hm _ (List.mem_map_of_mem (List.mem_cons_self ..)) rfl
    rw [putK_new h2, mergeK_new r (acc ++ [(p.1, p.2)]) (by rw [List.append_assoc]; exact h), List.append_assoc]
    rfl
theorem dk_keys (fs : List (Int × Str)) : (dk fs).map (·.1) = (fs.map (·.1)).map Sum.inl := by
  unfold dk
  rw [List.map_map, List.map_map]
  rfl
theorem nodup_inl : ∀ {xs : List Int}, xs.Nodup → (xs.map (Sum.inl : Int → Key)).Nodup
  | [], _ => List.nodup_nil
  | x :: r, h => by
    rw [List.nodup_cons] at h
    rw [List.map_cons, List.nodup_cons]
    refine ⟨fun hm => ?_, nodup_inl h.2⟩
    obtain ⟨y, hy, e⟩ := List.mem_map.mp hm
    injection e with e2
    exact h.1 (e2 ▸ hy)
theorem merge_dk {fs : List (Int × Str)} (h : (fs.map (·.1)).Nodup) : mergeK [] (dk fs) = dk fs := by
  rw [mergeK_new (dk fs) [] (by rw [List.nil_append, dk_keys]; exact nodup_inl h), List.nil_append]
theorem val_dk : ∀ (fs : List (Int × Str)) (i : Int), valV (dk fs) (Sum.inl i) = ((fs.find? fun p => decide (p.1 = i)).map (·.2)).map V.str
  | [], _ => rfl
  | p :: r, i => by
    have ih := val_dk r i
    unfold valV at ih ⊢
    have e : dk (p :: r) = (Sum.inl p.1, V.str p.2) :: dk r := rfl
    rw [e]
    by_cases z : p.1 = i
    · subst z
      rw [List.find?_cons_of_pos (by simp), List.find?_cons_of_pos (by simp)]
      rfl
    · rw [List.find?_cons_of_neg (by simpa using z), List.find?_cons_of_neg (by simpa using z)]
      exact ih
theorem dgetN {H : Hp} {d : Addr} {fs : List (Int × Str)} (e : H d = some (.dK (dk fs))) (x : Option Int) : DGetN H d (onV x) ((fte fs x).map V.str) := by
  cases x with
  | none => exact .inr ⟨rfl, rfl, _, .inl e⟩
  | some i =>
    refine .inl ?_
    have z := DGet.k (k := (Sum.inl i : Key)) e
    rw [val_dk] at z
    exact z
theorem isD_dk {H : Hp} {d : Addr} {kvs : List (Key × V)} (e : H d = some (.dK kvs)) : IsD H d := .inl ⟨_, .inl e⟩
theorem isS_some {fs : List (Int × Str)} {x : Option Int} {z : Str} (h : isS (fte fs x) z = true) : ∃ i, x = some i := by
  cases x with
  | none => exact absurd (of_decide_eq_true h) (by intro e; cases e)
  | some i => exact ⟨i, rfl⟩
theorem isS_eq {o : Option Str} {z : Str} : isS o z = decide (o = some z) := by
  unfold isS oS
  refine decide_eq_decide.mpr ⟨fun e => ?_, fun e => by rw [e]; rfl⟩
  cases o with
  | none => cases e
  | some y =>
    injection e with e2
    rw [e2]
/-- what a fate may be -/
def Fate (z : Str) : Prop := z = "done" ∨ z = "open" ∨ z = "fell"
structure Fates (fs : List (Int × Str)) : Prop where
  nd : (fs.map (·.1)).Nodup
  ok : ∀ f ∈ fs, Fate f.2
theorem fa_has {fs : List (Int × Str)} (h : Fates fs) {i : Int} (hi : i ∈ fs.map (·.1)) : ∃ z, fte fs (some i) = some z ∧ Fate z := by
  obtain ⟨f, hf, e⟩ := List.mem_map.mp hi
  have q : (fs.find? fun p => decide (p.1 = i)).isSome = true := by
    rw [List.find?_isSome]
    exact ⟨f, hf, decide_eq_true e⟩
  obtain ⟨g, hg⟩ := Option.isSome_iff_exists.mp q
  exact ⟨g.2, by unfold fte; rw [Option.bind_some, hg]; rfl, h.ok g (List.mem_of_find?_eq_some hg)⟩
theorem inV_int (x : Int) : ∀ ks : List Int, inV (.int x) (ks.map V.int) = decide (x ∈ ks)
  | [] => rfl
  | k :: r => by
    show ((k == x) || inV (.int x) (r.map V.int)) = _
    rw [inV_int x r, Bool.eq_iff_iff]
    simp only [Bool.or_eq_true, beq_iff_eq, decide_eq_true_eq, List.mem_cons]
    exact ⟨fun e => e.imp (fun z => z.symm) id, fun e => e.imp (fun z => z.symm) id⟩
section
variable {P : Program} {w : World} {K : PySem.W.Frag} {mg : Str → Option Value} {base : Heap}
theorem ok_sees (k_before : CalK P w K mg base 2 "before" 2 ["ring"] spBefore) : BodyOk P w K mg base "sees" s_sees N_sees 2 (spSees K) := by
  intro f cdv A outer s H vs Q E hr h
  obtain ⟨a, c, xs, n, z, s, rfl, ⟨t, h1, h2⟩, s0, s1, q⟩ := h
  refine ⟨_, (pss_cons (ps_asg (pv 0) (pg_tup rfl (pgs_cons (pg_name (i := 4) sc_sees.nd rfl (Or.inl rfl)) (pgs_cons (pg_name (i := 5) sc_sees.nd rfl (Or.inl rfl)) pgs_nil))))
      (pss_one (ps_ret (pe_and (pe_cmpR op_eq (pv 2) pe_str (nomark _)) (pe_and (pe_ck k_before hr (by decide) (gl_of gl_sees_before) (pa_cons (pv 1) (pa_cons (pv 4) pa_nil)) (pk_cons (pv 3) pk_nil)) (pe_one (pe_cmpR op_notIn_seq (pv 1) (pv 5) (by rfl)))))))), ?_⟩
  refine st_seq ?_
  refine ⟨_, rfl, a, _, rfl, h1, rfl, _, _, rfl, _, _, rfl, rfl, ?_⟩
  refine ⟨_, rfl, rfl, _, rfl, ite2 (fun y => ?_) (fun y => ?_)⟩
  · refine ⟨_, rfl, _, rfl, _, rfl, rfl, rfl, n, c, s, rfl, s0, s1, _, rfl, ite2 (fun y2 => ?_) (fun y2 => ?_)⟩
    · refine ⟨_, rfl, _, rfl, t, _, rfl, .inr h2, rfl, flat_ints xs, ?_⟩
      unfold don bef at q
      rw [y, y2] at q
      exact q
    · unfold don bef at q
      rw [y, Bool.eq_false_iff.mpr y2] at q
      exact q
  · unfold don at q
    rw [Bool.eq_false_iff.mpr y] at q
    exact q
theorem ok_look (T : Tx K mg) (c_l_take : C8.Cal P w K mg base 1 "_law_take" spTake []) (c_l_of : C8.Cal P w K mg base 2 "_law_of" (spOf K) []) : BodyOk P w K mg base "_law_look" s_l_look N_l_look 2 (spLook K) := by
  intro f cdv A outer s H vs Q E hr h
  obtain ⟨h, s, n, rfl, hs, hn, s0, s1, q⟩ := h
  have hn2 : n + 21 < 100000 := hn
  have p18' : (10 : Int) ^ 18 = 1000000000000000000 := by decide
  refine ⟨_, (pss_cons (ps_par3 (i := 2) (j := 3) (l := 4) (by rfl) sc_l_look.nd rfl rfl rfl (by decide) (by decide) (by decide) rfl rfl rfl (pa_cons (C8.pe_c c_l_of hr (by decide) (gl_of gl_l_look_l_of) (pa_cons (pv 0) (pa_cons (pe_lst (pa_cons pe_int (pa_cons (pe_op op_sub (pv 1) pe_int) (pa_cons pe_int (pa_cons (C8.pe_c c_l_take hr (by decide) (gl_of gl_l_look_l_take) (pa_cons (pv 0) (pa_cons (pv 1) pa_nil))) pa_nil))))) pa_nil))) (pa_cons pe_int (pa_cons (pe_lst pa_nil) pa_nil))) (by rfl))
      (pss_cons (ps_for PassesOwn.never rfl (pi_range1 (by rfl) T.range (pa_cons (C8.pe_c c_l_of hr (by decide) (gl_of gl_l_look_l_of) (pa_cons (pv 0) (pa_cons (pe_lst (pa_cons pe_int (pa_cons pe_int (pa_cons pe_int (pa_cons pe_int (pa_cons pe_int pa_nil)))))) pa_nil))) pa_nil)) (pg_name (i := 5) sc_l_look.nd rfl (Or.inl rfl)) (pss_cons (ps_set (i := 3) sc_l_look.nd rfl (Or.inl rfl) (pe_op op_add (pe_op op_add (pv 3) pe_int) (C8.pe_c c_l_of hr (by decide) (gl_of gl_l_look_l_of) (pa_cons (pv 0) (pa_cons (pe_lst (pa_cons pe_int (pa_cons pe_int (pa_cons (C8.pe_c c_l_take hr (by decide) (gl_of gl_l_look_l_take) (pa_cons (pv 0) (pa_cons pe_int pa_nil))) (pa_cons (C8.pe_c c_l_take hr (by decide) (gl_of gl_l_look_l_take) (pa_cons (pv 0) (pa_cons (pe_op op_fdivW (pv 1) pe_int) pa_nil))) pa_nil))))) pa_nil)))))
      (pss_one (ps_if (pt_cmpR op_lt (pv 3) (pe_op op_fdivW (pv 1) pe_int) (nomark _)) (pss_one (ps_expr (pe_bm PySem.F.plainAttrs_list PySem.F.slot_list_append PySem.F.type_list_append mt_append (pv 4) (pa_cons (pe_op op_mod (pe_op op_sub (pv 2) (pv 3)) (pv 1)) pa_nil)))) pss_nil))))
      (pss_one (ps_ret (pe_tup (pa_cons (pv 2) (pa_cons (pe_callTy call_tuple_of (gl_of gl_l_look_tuple) T.tuple bt_tuple (pa_cons (pe_revL (pv 4)) pa_nil)) pa_nil))))))), ?_⟩
  refine st_seq ?_
  refine ⟨_, rfl, _, rfl, _, _, rfl, rfl, _, rfl, _, rfl, h, s, n, rfl, hs, (show n < 100000 by omega), by omega, by omega, fun d H1 d0 d1 hs1 f1 => ?_⟩
  refine ⟨(show 4 ≤ sizeLine by decide), fun l1 nl1 => ?_⟩
  refine ⟨h, l1, [.int 0, .int (s - 1), .int 1, .int d], n + 1, rfl, hs1.new nl1, (show n + 1 < 100000 by omega), hs1.ne nl1, SqL.of upd_same, (show 0 < 4 by decide), (show 4 ≤ 1000 by decide), fun v H2 hv hs2 f2 => ?_⟩
  have hx : ∃ x : Int, v = .int x ∧ 0 ≤ x ∧ x < s := by
    simp only [List.mem_cons, List.not_mem_nil, or_false] at hv
    rcases hv with rfl | rfl | rfl | rfl <;> exact ⟨_, rfl, by omega, by omega⟩
  obtain ⟨c, rfl, c0, c1⟩ := hx
  have f02 : Fr h H H2 := f1.trans ((Fr.new nl1).trans f2)
  refine ⟨(show 0 ≤ sizeLine by decide), fun L nL => ?_⟩
  refine ⟨_, _, _, rfl, ?_⟩
  have eL : (upd H2 L (.lst [])) L = some (.lst []) := upd_same
  have hs3 : HS h (n + 1 + 1) (upd H2 L (.lst [])) := hs2.new nL
  have nLh : L ≠ h := hs2.ne nL
  have f3 : Fr h H2 (upd H2 L (.lst [])) := Fr.new nL
  generalize upd H2 L (.lst []) = H3 at eL hs3 f3
  refine st_seq ?_
  refine ⟨_, rfl, (show 5 ≤ sizeLine by decide), fun l2 nl2 => ?_⟩
  refine ⟨h, l2, [.int 2, .int 1, .int 3, .int 0, .int 6], n + 1 + 1, rfl, hs3.new nl2, (show n + 1 + 1 < 100000 by omega), hs3.ne nl2, SqL.of upd_same, (show 0 < 5 by decide), (show 5 ≤ 1000 by decide), fun v H4 hv hs4 f4 => ?_⟩
  have hx : ∃ x : Nat, v = .int x ∧ x ≤ 6 := by
    simp only [List.mem_cons, List.not_mem_nil, or_false] at hv
    rcases hv with rfl | rfl | rfl | rfl | rfl
    · exact ⟨2, rfl, by decide⟩
    · exact ⟨1, rfl, by decide⟩
    · exact ⟨3, rfl, by decide⟩
    · exact ⟨0, rfl, by decide⟩
    · exact ⟨6, rfl, by decide⟩
  obtain ⟨m, rfl, m6⟩ := hx
  have eL4 : H4 L = some (.lst []) := f4 _ _ nLh (Fr.new (h := h) nl2 _ _ nLh eL)
  have f34 : Fr h H2 H4 := f3.trans ((Fr.new nl2).trans f4)
  refine ⟨(m : Int), rfl, by omega, by omega, ?_⟩
  refine for_range (lo := 0) (n := ((m : Int)).toNat) (fun i σ H' => ∃ (b : Int) (y5 : Option V) (cs : List Int), σ = [some (.ref h), some (.int s), some (.int c), some (.int b), some (.ref L), y5] ∧ 0 ≤ b ∧ cs.Pairwise (· < ·) ∧ (∀ x ∈ cs, 0 < x ∧ x < s / 2 ∧ x ≤ b) ∧ cs.length ≤ i ∧ H' L = some (.lst ((cs.map fun b => (c - b) % s).map V.int)) ∧ HS h (n + 3 + 3 * i) H' ∧ Fr h H H') ⟨0, none, [], rfl, by decide, List.Pairwise.nil, (fun x hx => by cases hx), Nat.le_refl 0, eL4, hs4.mono (by omega), f02.trans f34⟩ (fun i σ H5 hi hP => ?_) (fun σ H5 hP => ?_)
  · obtain ⟨b, y5, cs, rfl, b0, pw, hc, lc, eL5, hs5, f5⟩ := hP
    have hi2 : i < 6 := by omega
    refine st_seq ?_
    refine ⟨_, rfl, _, _, rfl, rfl, _, rfl, _, rfl, h, 3, n + 3 + 3 * i, rfl, hs5, (show n + 3 + 3 * i < 100000 by omega), by decide, by decide, fun d2 H6 d20 d21 hs6 f6 => ?_⟩
    refine ⟨_, rfl, _, rfl, _, _, rfl, rfl, cdw (by decide) (by decide), h, s / 2, n + 3 + 3 * i + 1, rfl, hs6, (show n + 3 + 3 * i + 1 < 100000 by omega), by omega, by omega, fun d3 H7 d30 d31 hs7 f7 => ?_⟩
    refine ⟨(show 4 ≤ sizeLine by decide), fun l3 nl3 => ?_⟩
    refine ⟨h, l3, [.int 0, .int 0, .int d2, .int d3], n + 3 + 3 * i + 1 + 1, rfl, hs7.new nl3, (show n + 3 + 3 * i + 1 + 1 < 100000 by omega), hs7.ne nl3, SqL.of upd_same, (show 0 < 4 by decide), (show 4 ≤ 1000 by decide), fun v H8 hv hs8 f8 => ?_⟩
    have hx : ∃ x : Int, v = .int x ∧ 0 ≤ x := by
      simp only [List.mem_cons, List.not_mem_nil, or_false] at hv
      rcases hv with rfl | rfl | rfl | rfl <;> exact ⟨_, rfl, by omega⟩
    obtain ⟨e, rfl, e0⟩ := hx
    have f58 : Fr h H5 H8 := (f6.trans f7).trans ((Fr.new nl3).trans f8)
    have eL8 := f58 _ _ nLh eL5
    refine ⟨_, _, rfl, rfl, ?_⟩
    refine ⟨_, rfl, _, rfl, _, _, rfl, rfl, cdw (by decide) (by decide), _, _, rfl, rfl, _, rfl, ite2 (fun y => ?_) (fun y => ?_)⟩
    · have y2 : b + 1 + e < s / 2 := of_decide_eq_true y
      refine ⟨_, rfl, .inl ⟨rfl, _, SqL.of eL8⟩, _, rfl, _, rfl, _, _, rfl, rfl, _, rfl, _, _, rfl, rfl, (show 0 < s by omega), L, _, _, rfl, rfl, eL8, ?_, ?_⟩
      · rw [List.length_map, List.length_map]
        exact small1000 (by omega)
      · refine ⟨b + 1 + e, _, cs ++ [b + 1 + e], rfl, by omega, ?_, ?_, ?_, ?_, ?_, ?_⟩
        · rw [List.pairwise_append]
          refine ⟨pw, List.pairwise_singleton _ _, fun x hx y hy => ?_⟩
          rw [List.mem_singleton.mp hy]
          have := hc x hx
          omega
        · intro x hx
          rcases List.mem_append.mp hx with e1 | e1
          · have := hc x e1
            omega
          · rw [List.mem_singleton.mp e1]
            omega
        · rw [List.length_append]
          show cs.length + 1 ≤ i + 1
          omega
        · rw [upd_same, List.map_append, List.map_append]
          rfl
        · obtain ⟨g, bb, cc, eh, r⟩ := hs8.mono (m := n + 3 + 3 * (i + 1)) (by omega)
          exact ⟨g, bb, cc, (by rw [upd_ne nLh.symm]; exact eh), r⟩
        · exact Fr.mut (f5.trans f58) (f02.free nLh nL)
    · refine ⟨b + 1 + e, _, cs, rfl, by omega, pw, fun x hx => ?_, by omega, eL8, hs8.mono (by omega), f5.trans f58⟩
      have := hc x hx
      omega
  · obtain ⟨b, y5, cs, rfl, b0, pw, hc, lc, eL5, hs5, f5⟩ := hP
    refine ⟨_, rfl, _, rfl, L, _, rfl, SqL.of eL5, fun l4 nl4 => ?_⟩
    refine ⟨l4, _, rfl, .inl ⟨SqL.of upd_same, fun t2 nt2 => ?_⟩⟩
    refine ⟨(show 2 ≤ sizeLine by decide), fun a na => ?_⟩
    have et2 : (upd (upd H5 l4 (.lst ((cs.map fun b => (c - b) % s).map V.int).reverse)) t2 (.tup ((cs.map fun b => (c - b) % s).map V.int).reverse)) t2 = some (.tup ((cs.map fun b => (c - b) % s).map V.int).reverse) := upd_same
    refine q a c cs.reverse _ ⟨?_, ?_, ?_⟩ c0 c1 ⟨t2, SqT.of upd_same, SqT.of ?_⟩ ?_ ?_
    · rw [List.pairwise_reverse]
      exact pw
    · intro x hx
      have := hc x (List.mem_reverse.mp hx)
      omega
    · rw [List.length_reverse]
      omega
    · rw [same_new na _ _ et2, List.map_reverse, List.map_reverse]
    · exact (((hs5.new nl4).new nt2).new na).mono (by omega)
    · exact f5.trans ((Fr.new nl4).trans ((Fr.new nt2).trans (Fr.new na)))
theorem ok_done (T : Tx K mg) : BodyOk P w K mg base "_law_is_done" s_l_is_done N_l_is_done 0 (spSees K) := by
  intro f cdv A outer s H vs Q E hr h
  obtain ⟨a, c, xs, n, z, s, rfl, ⟨t, h1, h2⟩, s0, s1, q⟩ := h
  refine ⟨_, (pss_one (ps_ret (pe_and (pe_cmpR op_eq (pv 2) pe_str (nomark _)) (pe_and (pe_chain op_lt op_lt pe_int (pe_op op_mod (pe_op op_sub (pe_ix ix_tup (pv 0) pe_int (fun _ _ => rfl)) (pv 1)) (pv 3)) (pe_op op_fdivW (pv 3) pe_int)) (pe_one (pe_cmpR op_notIn_seq (pv 1) (pe_ix ix_tup (pv 0) pe_int (fun _ _ => rfl)) (by rfl))))))), ?_⟩
  refine ⟨_, rfl, rfl, _, rfl, ite2 (fun y => ?_) (fun y => ?_)⟩
  · refine ⟨_, rfl, a, _, 0, .int c, rfl, rfl, h1, rfl, _, rfl, _, _, rfl, rfl, _, rfl, _, _, rfl, rfl, s0, _, _, rfl, rfl, _, rfl, ite2 (fun y2 => ?_) (fun y2 => ?_)⟩
    · refine ⟨_, rfl, _, _, rfl, rfl, cdw (by decide) (by decide), _, _, rfl, rfl, _, rfl, ite2 (fun y3 => ?_) (fun y3 => ?_)⟩
      · refine ⟨_, rfl, _, rfl, a, _, 1, .ref t, rfl, rfl, h1, rfl, t, _, rfl, .inr h2, rfl, flat_ints xs, ?_⟩
        unfold don bef at q
        rw [y, y2, y3] at q
        exact q
      · unfold don bef at q
        rw [y, y2, Bool.eq_false_iff.mpr y3] at q
        exact q
    · refine ⟨_, rfl, ?_⟩
      unfold don bef at q
      rw [y, Bool.eq_false_iff.mpr y2] at q
      exact q
  · unfold don at q
    rw [Bool.eq_false_iff.mpr y] at q
    exact q
theorem cal_weak {k : Nat} {x : Str} {sp sp' : Sp} {ds : List V} (c : C8.Cal P w K mg base k x sp ds) (h : ∀ vs H Q E, sp' vs H Q E → sp vs H Q E) : C8.Cal P w K mg base k x sp' ds := by
  obtain ⟨f, fd, ps, dv, F, g, kp, b, v⟩ := c
  exact ⟨f, fd, ps, dv, ⟨fun vs H Q E q => F.len _ _ _ _ (h _ _ _ _ q), fun A outer s H args us vs Q E hr e0 bt r hsp => F.run A outer s H args us vs Q E hr e0 bt r (h _ _ _ _ hsp)⟩, g, kp, b, v⟩
def spOfT (K : PySem.W.Frag) : Sp := fun vs H Q _ => ∃ (h a : Addr) (xs : List V) (n : Nat), vs = [.ref h, .ref a] ∧ HS h n H ∧ n < lim ∧ SqT K H a xs ∧ 0 < xs.length ∧ xs.length ≤ 1000 ∧ ∀ v H', v ∈ xs → HS h (n + 1) H' → Fr h H H' → Q v H'
def spOf2 (K : PySem.W.Frag) : Sp := fun vs H Q E => spOf K vs H Q E ∨ spOfT K vs H Q E
theorem ok_of2 (T : Tx K mg) (c_l_take : C8.Cal P w K mg base 1 "_law_take" spTake []) : BodyOk P w K mg base "_law_of" s_l_of N_l_of 1 (spOf2 K) := by
  intro f cdv A outer s H vs Q E hr h
  have z18 : (10 : Int) ^ 18 = 1000000000000000000 := by decide
  refine ⟨_, (pss_one (ps_ret (pe_ix ix_seq (pv 1) (C8.pe_c c_l_take hr (by decide) (gl_of gl_l_of_l_take) (pa_cons (pv 0) (pa_cons (pe_callB call_len_seq (gl_of gl_l_of_len) T.len bb_len (pa_cons (pv 1) pa_nil)) pa_nil))) (fun _ _ => rfl)))), ?_⟩
  rcases h with ⟨h, a, xs, n, rfl, hs, hn, ne, hS, l0, l1, q⟩ | ⟨h, a, xs, n, rfl, hs, hn, hS, l0, l1, q⟩
  · refine ⟨_, rfl, _, rfl, _, rfl, a, xs, rfl, .inl hS, h, _, n, rfl, hs, hn, by omega, by omega, fun d H1 d0 d1 hs1 f1 => ?_⟩
    obtain ⟨v, ev, hv⟩ := atI_in d0 d1
    exact .inl ⟨a, xs, d, v, rfl, rfl, f1.seq ne hS, ev, q v H1 hv hs1 f1⟩
  · refine ⟨_, rfl, _, rfl, _, rfl, a, xs, rfl, .inr hS, h, _, n, rfl, hs, hn, by omega, by omega, fun d H1 d0 d1 hs1 f1 => ?_⟩
    obtain ⟨v, ev, hv⟩ := atI_in d0 d1
    exact .inr (.inl ⟨a, xs, d, v, rfl, rfl, hs.sqT f1 hS, ev, q v H1 hv hs1 f1⟩)
def spNear (K : PySem.W.Frag) : Sp := fun vs H Q _ => ∃ (h a : Addr) (c : Int) (xs : List Int) (s : Int) (n : Nat), vs = [.ref h, .ref a, .int s] ∧ Lk K H a c xs ∧ xs.length ≤ 6 ∧ (∀ x ∈ xs, 0 ≤ x ∧ x < s) ∧ 0 ≤ c ∧ c < s ∧ HS h n H ∧ n + 3 < lim ∧ 8 ≤ s ∧ s ≤ 1048576 ∧
  ∀ (x : Option Int) (H' : Hp), (∀ i, x = some i → 0 ≤ i ∧ i < s) → HS h (n + 3) H' → Fr h H H' → Q (onV x) H'
theorem ok_near (T : Tx K mg) (c_l_take : C8.Cal P w K mg base 1 "_law_take" spTake []) (c_l_of : C8.Cal P w K mg base 2 "_law_of" (spOf2 K) []) : BodyOk P w K mg base "_law_near" s_l_near N_l_near 2 (spNear K) := by
  intro f cdv A outer s H vs Q E hr h
  obtain ⟨h, a, c, xs, s, n, rfl, ⟨t, h1, h2⟩, lx, hx, c0, c1, hs, hn, s0, s1, q⟩ := h
  have hn2 : n + 3 < 100000 := hn
  have p18' : (10 : Int) ^ 18 = 1000000000000000000 := by decide
  have sp : 0 < s := by omega
  refine ⟨_, (pss_cons (ps_set (i := 3) sc_l_near.nd rfl (Or.inl rfl) (C8.pe_c c_l_take hr (by decide) (gl_of gl_l_near_l_take) (pa_cons (pv 0) (pa_cons (pe_op op_fdivW (pv 2) pe_int) pa_nil))))
      (pss_cons (ps_set (i := 4) sc_l_near.nd rfl (Or.inl rfl) (pe_lst (pa_cons (pe_op op_mod (pe_op op_sub (pe_ix ix_tup (pv 1) pe_int (fun _ _ => rfl)) pe_int) (pv 2)) (pa_cons (pe_op op_mod (pe_op op_sub (pe_ix ix_tup (pv 1) pe_int (fun _ _ => rfl)) (pv 3)) (pv 2)) (pa_cons (pe_op op_mod (pe_op op_add (pe_ix ix_tup (pv 1) pe_int (fun _ _ => rfl)) (pv 3)) (pv 2)) (pa_cons (pe_ix ix_tup (pv 1) pe_int (fun _ _ => rfl)) (pa_cons (pe_op op_mod (pe_op op_add (pe_ix ix_tup (pv 1) pe_int (fun _ _ => rfl)) (pe_op op_fdivW (pv 2) pe_int)) (pv 2)) pa_nil)))))))
      (pss_one (ps_ret (C8.pe_c c_l_of hr (by decide) (gl_of gl_l_near_l_of) (pa_cons (pv 0) (pa_cons (pe_op op_cat (pe_op op_cat (pe_lst (pa_cons pe_non (pa_cons pe_non pa_nil))) (pv 4)) (pe_lst (pa_cons (C8.pe_c c_l_of hr (by decide) (gl_of gl_l_near_l_of) (pa_cons (pv 0) (pa_cons (pe_op op_catA (pe_ix ix_tup (pv 1) pe_int (fun _ _ => rfl)) (pe_slice sl_tupA (pv 1) po_none (po_some pe_int))) pa_nil))) (pa_cons (pe_op op_mod (pe_op op_sub (pe_ix ix_tup (pv 1) pe_int (fun _ _ => rfl)) pe_int) (pv 2)) pa_nil)))) pa_nil))))))), ?_⟩
  refine st_seq ?_
  refine ⟨_, rfl, _, rfl, _, _, rfl, rfl, cdw (by decide) (by decide), h, s / 2, n, rfl, hs, (show n < 100000 by omega), by omega, by omega, fun far H1 f0 f1 hs1 fr1 => ?_⟩
  have h11 := hs.sqT fr1 h1
  have h12 := hs.sqT fr1 h2
  refine st_seq ?_
  refine ⟨_, rfl, a, _, 0, .int c, rfl, rfl, h11, rfl, _, _, rfl, rfl, _, rfl, _, _, rfl, rfl, sp, ?_⟩
  refine ⟨_, rfl, a, _, 0, .int c, rfl, rfl, h11, rfl, _, rfl, _, _, rfl, rfl, _, rfl, _, _, rfl, rfl, sp, ?_⟩
  refine ⟨_, rfl, a, _, 0, .int c, rfl, rfl, h11, rfl, _, rfl, _, _, rfl, rfl, _, rfl, _, _, rfl, rfl, sp, ?_⟩
  refine ⟨_, rfl, a, _, 0, .int c, rfl, rfl, h11, rfl, ?_⟩
  refine ⟨_, rfl, a, _, 0, .int c, rfl, rfl, h11, rfl, _, rfl, _, _, rfl, rfl, cdw (by decide) (by decide), _, _, rfl, rfl, _, rfl, _, _, rfl, rfl, sp, ?_⟩
  refine ⟨(show 5 ≤ sizeLine by decide), fun L nL => ?_⟩
  generalize hys : [(c - 1) % s, (c - far) % s, (c + far) % s, c, (c + s / 2) % s] = ys
  have hy : ∀ y ∈ ys, 0 ≤ y ∧ y < s := by
    rw [← hys]
    intro y hy
    simp only [List.mem_cons, List.not_mem_nil, or_false] at hy
    rcases hy with rfl | rfl | rfl | rfl | rfl
    · exact ⟨Int.emod_nonneg _ (by omega), Int.emod_lt_of_pos _ sp⟩
    · exact ⟨Int.emod_nonneg _ (by omega), Int.emod_lt_of_pos _ sp⟩
    · exact ⟨Int.emod_nonneg _ (by omega), Int.emod_lt_of_pos _ sp⟩
    · exact ⟨c0, c1⟩
    · exact ⟨Int.emod_nonneg _ (by omega), Int.emod_lt_of_pos _ sp⟩
  have ly : ys.length = 5 := by
    rw [← hys]
    rfl
  have eL : (upd H1 L (.lst (ys.map V.int))) L = some (.lst (ys.map V.int)) := upd_same
  have hs2 : HS h (n + 1) (upd H1 L (.lst (ys.map V.int))) := hs1.new nL
  have s2 : Same H1 (upd H1 L (.lst (ys.map V.int))) := same_new nL
  have eY : [V.int ((c - 1) % s), .int ((c - far) % s), .int ((c + far) % s), .int c, .int ((c + s / 2) % s)] = ys.map V.int := by
    rw [← hys]
    rfl
  rw [eY]
  generalize upd H1 L (.lst (ys.map V.int)) = H2 at eL hs2 s2
  refine ⟨_, rfl, (show 2 ≤ sizeLine by decide), fun l1 nl1 => ?_⟩
  have s3 : Same H2 (upd H2 l1 (.lst [.non, .non])) := same_new nl1
  have e3 : (upd H2 l1 (.lst [.non, .non])) l1 = some (.lst [.non, .non]) := upd_same
  generalize upd H2 l1 (.lst [.non, .non]) = H3 at s3 e3
  refine ⟨_, rfl, l1, L, _, _, rfl, rfl, e3, s3 _ _ eL, ?_, fun l2 nl2 => ?_⟩
  · rw [List.length_map, ly]
    decide
  have s4 : Same H3 (upd H3 l2 (.lst ([.non, .non] ++ ys.map V.int))) := same_new nl2
  have e4 : (upd H3 l2 (.lst ([.non, .non] ++ ys.map V.int))) l2 = some (.lst ([.non, .non] ++ ys.map V.int)) := upd_same
  generalize upd H3 l2 (.lst ([.non, .non] ++ ys.map V.int)) = H4 at s4 e4
  have s14 : Same H1 H4 := s2.trans (s3.trans s4)
  have h41 := sqT_same s14 h11
  have h42 := sqT_same s14 h12
  have hs4 := hs1.same s14
  refine ⟨_, rfl, _, rfl, a, _, 1, .ref t, rfl, rfl, h41, rfl, ?_⟩
  refine ⟨_, rfl, _, rfl, slA_ev h41 (fun p1 G1 sG1 hp1 => ?_)⟩
  refine catA_ev (sqT_same sG1 h42) hp1 (by rw [List.length_map]; show xs.length + 1 ≤ 1000; omega) (fun p2 G2 sG2 hp2 => ?_)
  have sG : Same H4 G2 := sG1.trans sG2
  have hsG := hs4.same sG
  have n2h : l2 ≠ h := by
    have z := hs2.same s3
    exact z.ne nl2
  refine .inr ⟨h, p2, _, n + 1, rfl, hsG, (show n + 1 < 100000 by omega), hp2, ?_, ?_, fun v H5 hv hs5 f5 => ?_⟩
  · rw [List.length_append]
    show 0 < _ + 1
    omega
  · rw [List.length_append, List.length_map]
    show _ + 1 ≤ _
    omega
  have hv2 : ∃ x : Int, v = .int x ∧ 0 ≤ x ∧ x < s := by
    rcases List.mem_append.mp hv with e | e
    · obtain ⟨x, hxm, rfl⟩ := List.mem_map.mp e
      exact ⟨x, rfl, hx x hxm⟩
    · have e2 : v ∈ [V.int c] := e
      rw [List.mem_singleton.mp e2]
      exact ⟨c, rfl, c0, c1⟩
  obtain ⟨x, rfl, x0, x1⟩ := hv2
  have h51 := hsG.sqT f5 (sqT_same sG h41)
  refine ⟨_, rfl, a, _, 0, .int c, rfl, rfl, h51, rfl, _, _, rfl, rfl, _, rfl, _, _, rfl, rfl, sp, ?_⟩
  refine ⟨(show 2 ≤ sizeLine by decide), fun l3 nl3 => ?_⟩
  have e45 := f5 _ _ n2h (sG _ _ e4)
  have e5 : (upd H5 l3 (.lst [.int x, .int ((c - 2) % s)])) l3 = some (.lst [.int x, .int ((c - 2) % s)]) := upd_same
  have s5 : Same H5 (upd H5 l3 (.lst [.int x, .int ((c - 2) % s)])) := same_new nl3
  generalize upd H5 l3 (.lst [.int x, .int ((c - 2) % s)]) = H6 at e5 s5
  refine ⟨l2, l3, _, _, rfl, rfl, s5 _ _ e45, e5, ?_, fun l4 nl4 => ?_⟩
  · rw [List.length_append, List.length_map, ly]
    show 2 + 5 + 2 ≤ sizeLine
    decide
  have hs6 := hs5.same s5
  refine .inl ⟨h, l4, _, n + 1 + 1, rfl, hs6.new nl4, (show n + 1 + 1 < 100000 by omega), hs6.ne nl4, SqL.of upd_same, ?_, ?_, fun v H7 hv hs7 f7 => ?_⟩
  · rw [List.length_append]
    show 0 < _ + 2
    omega
  · rw [List.length_append, List.length_append, List.length_map, ly]
    show 2 + 5 + 2 ≤ 1000
    decide
  have hv2 : ∃ x : Option Int, v = onV x ∧ ∀ i, x = some i → 0 ≤ i ∧ i < s := by
    rcases List.mem_append.mp hv with e | e
    · rcases List.mem_append.mp e with e | e
      · simp only [List.mem_cons, List.not_mem_nil, or_false] at e
        rcases e with rfl | rfl <;> exact ⟨none, rfl, fun i z => by cases z⟩
      · obtain ⟨y, hym, rfl⟩ := List.mem_map.mp e
        exact ⟨some y, rfl, fun i z => by cases z; exact hy y hym⟩
    · simp only [List.mem_cons, List.not_mem_nil, or_false] at e
      rcases e with rfl | rfl
      · exact ⟨some x, rfl, fun i z => by cases z; exact ⟨x0, x1⟩⟩
      · exact ⟨some _, rfl, fun i z => by cases z; exact ⟨Int.emod_nonneg _ (by omega), Int.emod_lt_of_pos _ sp⟩⟩
  obtain ⟨y, rfl, hyy⟩ := hv2
  exact q y H7 hyy hs7 ((fr1.trans (Fr.same (s14.trans sG))).trans (f5.trans ((Fr.same s5).trans ((Fr.new nl4).trans f7))))
def spWorth : Sp := fun vs H Q _ => ∃ (h : Addr) (n : Nat), vs = [.ref h] ∧ HS h n H ∧ n + 2 < lim ∧ ∀ v d H', Lf v d → HS h (n + 2) H' → Fr h H H' → Q v H'
theorem ok_worth (T : Tx K mg) (c_l_take : C8.Cal P w K mg base 1 "_law_take" spTake []) (c_l_of : C8.Cal P w K mg base 2 "_law_of" (spOf2 K) []) : BodyOk P w K mg base "_law_worth" s_l_worth N_l_worth 2 spWorth := by
  intro f cdv A outer s H vs Q E hr h
  obtain ⟨h, n, rfl, hs, hn, q⟩ := h
  have hn2 : n + 2 < 100000 := hn
  have p18' : (10 : Int) ^ 18 = 1000000000000000000 := by decide
  have p6 : (10 : Int) ^ (6 : Int).toNat = 1000000 := by decide
  refine ⟨_, (pss_cons (ps_set (i := 1) sc_l_worth.nd rfl (Or.inl rfl) (pe_op op_add (pe_op op_pow pe_int pe_int) (C8.pe_c c_l_take hr (by decide) (gl_of gl_l_worth_l_take) (pa_cons (pv 0) (pa_cons (pe_op op_pow pe_int pe_int) pa_nil)))))
      (pss_one (ps_ret (C8.pe_c c_l_of hr (by decide) (gl_of gl_l_worth_l_of) (pa_cons (pv 0) (pa_cons (pe_lst (pa_cons pe_int (pa_cons pe_int (pa_cons (pe_un un_neg pe_int) (pa_cons (pv 1) (pa_cons (pe_un un_neg (pv 1)) (pa_cons pe_str (pa_cons pe_str (pa_cons pe_str pa_nil))))))))) pa_nil)))))), ?_⟩
  refine st_seq ?_
  refine ⟨_, _, rfl, rfl, pow_ok (by decide), _, rfl, _, _, rfl, rfl, pow_ok (by decide), h, _, n, rfl, hs, (show n < 100000 by omega), by rw [p6]; decide, by rw [p6]; decide, fun d H1 d0 d1 hs1 f1 => ?_⟩
  rw [p6] at d1
  refine ⟨_, _, rfl, rfl, ?_⟩
  refine ⟨_, rfl, _, rfl, _, rfl, _, rfl, _, rfl, (show 8 ≤ sizeLine by decide), fun L nL => ?_⟩
  refine .inl ⟨h, L, _, n + 1, rfl, hs1.new nL, (show n + 1 < 100000 by omega), hs1.ne nL, SqL.of upd_same, (show 0 < 8 by decide), (show 8 ≤ 1000 by decide), fun v H2 hv hs2 f2 => ?_⟩
  have e62 : (2 : Nat) ^ 62 = 4611686018427387904 := by decide
  have hl : ∃ dd, Lf v dd := by
    simp only [p17, List.mem_cons, List.not_mem_nil, or_false] at hv
    rcases hv with rfl | rfl | rfl | rfl | rfl | rfl | rfl | rfl
    · exact ⟨_, lf_int (by decide)⟩
    · exact ⟨_, lf_int (by decide)⟩
    · exact ⟨_, lf_int (by decide)⟩
    · exact ⟨_, lf_int (by omega)⟩
    · exact ⟨_, lf_int (by omega)⟩
    · exact ⟨_, lf_str (by decide) (by decide)⟩
    · exact ⟨_, lf_str (by decide) (by decide)⟩
    · exact ⟨_, lf_str (by decide) (by decide)⟩
  obtain ⟨dd, hl⟩ := hl
  exact q v dd H2 hl hs2 (f1.trans ((Fr.new nL).trans f2))
def spFates (K : PySem.W.Frag) : Sp := fun vs H Q _ => ∃ (h a : Addr) (xs : List (Option Int)) (n : Nat), vs = [.ref h, .ref a] ∧ SqL K H a (xs.map onV) ∧ a ≠ h ∧ xs.length ≤ 100 ∧ HS h n H ∧ n + 2 * xs.length < lim ∧
  ∀ (F : Addr) (fs : List (Int × Str)) (H' : Hp), Fates fs → (∀ i, some i ∈ xs → i ∈ fs.map (·.1)) → fs.length ≤ 100 → Ft K H' F fs → HS h (n + 2 * xs.length) H' → Fr h H H' → Q (.ref F) H'
theorem paired_insert {α β : Type} {R : α → β → Prop} {a : α} {b : β} (h : R a b) : ∀ {as : List α} {bs : List β} (d : Nat), Paired R as bs → Paired R (as.take d ++ [a] ++ as.drop d) (bs.take d ++ [b] ++ bs.drop d)
  | _, _, 0, t => .cons h t
  | _, _, _ + 1, .nil => .cons h .nil
  | _, _, d + 1, .cons q t => .cons q (paired_insert h d t)
theorem perm_insert {α : Type} (a : α) (d : Nat) (as : List α) : (as.take d ++ [a] ++ as.drop d).Perm (a :: as) := by
  rw [List.append_assoc]
  show (as.take d ++ (a :: as.drop d)).Perm (a :: as)
  have z : (as.take d ++ (a :: as.drop d)).Perm (a :: (as.take d ++ as.drop d)) := List.perm_middle
  rw [List.take_append_drop] at z
  exact z
theorem ok_fates (T : Tx K mg) (c_l_take : C8.Cal P w K mg base 1 "_law_take" spTake []) (c_l_of : C8.Cal P w K mg base 2 "_law_of" (spOf2 K) []) : BodyOk P w K mg base "_law_fates" s_l_fates N_l_fates 2 (spFates K) := by
  intro f cdv A outer s H vs Q E hr h
  obtain ⟨h, a, xs, n, rfl, hA, nah, lx, hs, hn, q⟩ := h
  have hn2 : n + 2 * xs.length < 100000 := hn
  have p18' : (10 : Int) ^ 18 = 1000000000000000000 := by decide
  refine ⟨_, (pss_cons (ps_set (i := 2) sc_l_fates.nd rfl (Or.inl rfl) (pe_lst pa_nil))
      (pss_cons (ps_for PassesOwn.never rfl (pi_list (pv 1)) (pg_name (i := 3) sc_l_fates.nd rfl (Or.inl rfl)) (pss_one (ps_if (PW.pt (pw_and (pt_cmpR op_notN (pv 3) pe_non (nomark _)) (pw_and1 (pt_cmpR op_notIn_seq (pv 3) (pe_lc (own := [("_law_row", 4)]) (g := gName 4) (tt := tYes) rfl sc_l_fates.nd (pi_list (pv 2)) (blkOk_by (own := [("_law_row", 4)]) (N := N_l_fates) (sc := defScope s_l_fates) (by decide +kernel)) (fun _ _ _ _ _ => pg_name (i := 4) sc_l_fates.nd rfl (Or.inl rfl)) (fun _ _ _ _ _ => pts_nil) (fun _ _ _ _ _ => (pe_ix (ix_tupK (K1 := K) rfl) (pv 4) pe_int (fun _ _ => rfl)))) (by rfl))))) (pss_one (ps_expr (pe_bm PySem.F.plainAttrs_list PySem.F.slot_list_insert PySem.F.type_list_insert mt_insert (pv 2) (pa_cons (C8.pe_c c_l_take hr (by decide) (gl_of gl_l_fates_l_take) (pa_cons (pv 0) (pa_cons (pe_op op_add (pe_callB call_len_seq (gl_of gl_l_fates_len) T.len bb_len (pa_cons (pv 2) pa_nil)) pe_int) pa_nil))) (pa_cons (pe_tup (pa_cons (pv 3) (pa_cons (C8.pe_c c_l_of hr (by decide) (gl_of gl_l_fates_l_of) (pa_cons (pv 0) (pa_cons (pe_lst (pa_cons pe_str (pa_cons pe_str (pa_cons pe_str (pa_cons pe_str pa_nil))))) pa_nil))) pa_nil))) pa_nil))))) pss_nil)))
      (pss_one (ps_ret (pe_callTy call_tupleF (gl_of gl_l_fates_tuple) T.tuple bt_tuple (pa_cons (pv 2) pa_nil)))))), ?_⟩
  refine st_seq ?_
  refine ⟨(show 0 ≤ sizeLine by decide), fun R nR => ?_⟩
  have eR : (upd H R (.lst [])) R = some (.lst []) := upd_same
  have sR : Same H (upd H R (.lst [])) := same_new nR
  have nRh : R ≠ h := hs.ne nR
  generalize upd H R (.lst []) = H1 at eR sR
  have hA1 := sR.seq hA
  have hs1 := hs.same sR
  refine st_seq ?_
  refine ⟨_, rfl, a, rfl, ⟨_, hA1⟩, ?_⟩
  refine for_list (xs := xs.map onV) (fun i σ H' => (∃ y3 y4, σ = [some (.ref h), some (.ref a), some (.ref R), y3, y4]) ∧ HS h (n + 2 * i) H' ∧ Fr h H H' ∧ ∃ (ps : List Addr) (fs : List (Int × Str)), H' R = some (.lst (ps.map V.ref)) ∧ Paired (fun p f => SqT K H' p [.int f.1, .str f.2]) ps fs ∧ Fates fs ∧ fs.length ≤ i ∧ ∀ j, some j ∈ xs.take i → j ∈ fs.map (·.1))
    ⟨⟨none, none, rfl⟩, hs1, Fr.same sR, [], [], eR, .nil, ⟨List.nodup_nil, fun f hf => by cases hf⟩, Nat.le_refl 0, fun j hj => by rw [List.take_zero] at hj; cases hj⟩ (fun i σ H' _ hP => ?_) (fun i v σ H2 hv hP => ?_) (fun σ H2 hP => ?_)
  · exact hP.2.2.1.seq nah hA
  · obtain ⟨⟨y3, y4, rfl⟩, hs2, f2, ps, fs, eR2, hp, hf, lf, hc⟩ := hP
    have hil : i < xs.length := by
      have z := (List.getElem?_eq_some_iff.mp hv).1
      rw [List.length_map] at z
      exact z
    rw [List.getElem?_map, List.getElem?_eq_getElem hil] at hv
    have ev : v = onV xs[i] := (Option.some.inj hv).symm
    subst ev
    have tk : xs.take (i + 1) = xs.take i ++ [xs[i]] := take_add1 xs i hil
    have lps := paired_len hp
    cases hxi : xs[i] with
    | none =>
      refine ⟨_, rfl, rfl, _, rfl, iteF (iteF ?_)⟩
      refine ⟨⟨_, _, rfl⟩, hs2.mono (by omega), f2, ps, fs, eR2, hp, hf, by omega, fun j hj => ?_⟩
      rw [tk, hxi] at hj
      rcases List.mem_append.mp hj with e | e
      · exact hc j e
      · cases List.mem_singleton.mp e
    | some k =>
      refine ⟨_, rfl, rfl, _, rfl, iteT ?_⟩
      refine ⟨_, rfl, _, rfl, R, rfl, ⟨_, SqL.of eR2⟩, fun D nD => ?_⟩
      have nDh : D ≠ h := hs2.ne nD
      refine lc_list (K := K) (a := R) (xs := ps.map V.ref) (fun j H'' => Same H2 H'' ∧ H'' D = some (.lst (((fs.map (·.1)).take j).map V.int))) ?_ (fun j H'' _ hP => ?_) (fun j v H'' hv hP => ?_) (fun H3 hP => ?_)
      · exact ⟨same_new nD, upd_same⟩
      · exact SqL.of (hP.1 _ _ eR2)
      · obtain ⟨sD, eD⟩ := hP
        have hjl : j < ps.length := by
          have z := (List.getElem?_eq_some_iff.mp hv).1
          rw [List.length_map] at z
          exact z
        rw [List.getElem?_map, List.getElem?_eq_getElem hjl] at hv
        have ev : v = .ref ps[j] := (Option.some.inj hv).symm
        subst ev
        have hjf : j < fs.length := by omega
        have hpj := paired_at hp hjl hjf
        refine ⟨rfl, ?_⟩
        refine ⟨_, rfl, ps[j], _, 0, .int fs[j].1, rfl, rfl, sqT_same sD hpj, rfl, _, eD, ?_, same_mut sD nD, ?_⟩
        · rw [List.length_map, List.length_take]
          exact small1000 (by omega)
        · have hjm : j < (fs.map (·.1)).length := by
            rw [List.length_map]
            exact hjf
          rw [upd_same, take_add1 (fs.map (·.1)) j hjm, List.map_append, List.getElem_map]
          rfl
      · obtain ⟨sD, eD⟩ := hP
        have lps2 : (fs.map (·.1)).take (ps.map V.ref).length = fs.map (·.1) := by
          refine List.take_of_length_le ?_
          rw [List.length_map, List.length_map]
          omega
        rw [lps2] at eD
        refine ⟨D, _, rfl, .inl (SqL.of eD), rfl, flat_ints _, !decide (k ∈ fs.map (·.1)), ?_, ?_⟩
        · show V.bl (!inV (.int k) ((fs.map (·.1)).map V.int)) = _
          rw [inV_int]
        refine ite2 (fun y => ?_) (fun y => ?_)
        · have y2 : k ∉ fs.map (·.1) := by
            intro hm
            rw [decide_eq_true hm] at y
            cases y
          have eR3 := sD _ _ eR2
          have hs3 := hs2.same sD
          refine ⟨_, rfl, .inl ⟨rfl, _, SqL.of eR3⟩, ?_⟩
          refine ⟨_, rfl, _, rfl, R, _, rfl, .inl (SqL.of eR3), _, _, rfl, rfl, h, _, n + 2 * i, rfl, hs3, (show n + 2 * i < 100000 by omega), by omega, ?_, fun d H4 d0 d1 hs4 f4 => ?_⟩
          · rw [List.length_map]
            omega
          refine ⟨_, rfl, _, rfl, (show 4 ≤ sizeLine by decide), fun l1 nl1 => ?_⟩
          refine .inl ⟨h, l1, _, n + 2 * i + 1, rfl, hs4.new nl1, (show n + 2 * i + 1 < 100000 by omega), hs4.ne nl1, SqL.of upd_same, (show 0 < 4 by decide), (show 4 ≤ 1000 by decide), fun v H5 hv hs5 f5 => ?_⟩
          have hz : ∃ z, v = .str z ∧ Fate z := by
            simp only [List.mem_cons, List.not_mem_nil, or_false] at hv
            rcases hv with rfl | rfl | rfl | rfl
            · exact ⟨_, rfl, .inl rfl⟩
            · exact ⟨_, rfl, .inl rfl⟩
            · exact ⟨_, rfl, .inr (.inl rfl)⟩
            · exact ⟨_, rfl, .inr (.inr rfl)⟩
          obtain ⟨z, rfl, hz⟩ := hz
          refine ⟨(show 2 ≤ sizeLine by decide), fun t nt => ?_⟩
          have fr35 : Fr h H3 H5 := f4.trans ((Fr.new nl1).trans f5)
          have eR5 := fr35 _ _ nRh eR3
          have st : Same H5 (upd H5 t (.tup [onV (some k), .str z])) := same_new nt
          have et : (upd H5 t (.tup [onV (some k), .str z])) t = some (.tup [.int k, .str z]) := upd_same
          generalize upd H5 t (.tup [onV (some k), .str z]) = H6 at st et
          have eR6 := st _ _ eR5
          refine ⟨R, _, d, _, rfl, rfl, eR6, ?_, d0, ?_, ?_⟩
          · rw [List.length_map]
            exact small1000 (by omega)
          · rw [List.length_map] at d1
            have e63 : (2 : Int) ^ 63 = 9223372036854775808 := by decide
            omega
          have hs6 := hs5.same st
          have tR : t ≠ R := ne_tl et eR6
          have ps6 : Paired (fun p f => SqT K H6 p [.int f.1, .str f.2]) ps fs := paired_mono (fun _ _ z => sqT_same st (hs3.sqT fr35 (sqT_same sD z))) hp
          have ps7 : Paired (fun p f => SqT K (upd H6 R (.lst ((ps.map V.ref).take d.toNat ++ [.ref t] ++ (ps.map V.ref).drop d.toNat))) p [.int f.1, .str f.2]) (ps.take d.toNat ++ [t] ++ ps.drop d.toNat) (fs.take d.toNat ++ [(k, z)] ++ fs.drop d.toNat) :=
            paired_mono (fun _ _ z => sqT_fr eR6 Fr.hand z) (paired_insert (R := fun p (f : Int × Str) => SqT K H6 p [.int f.1, .str f.2]) (a := t) (b := (k, z)) (SqT.of et) d.toNat ps6)
          have pm := perm_insert (k, z) d.toNat fs
          refine ⟨⟨_, _, rfl⟩, ?_, ?_, ps.take d.toNat ++ [t] ++ ps.drop d.toNat, fs.take d.toNat ++ [(k, z)] ++ fs.drop d.toNat, ?_, ps7, ⟨?_, ?_⟩, ?_, ?_⟩
          · exact (hs6.upd nRh).mono (by omega)
          · exact Fr.mut (f2.trans ((Fr.same sD).trans (fr35.trans (Fr.same st)))) (nR)
          · rw [upd_same, List.map_append, List.map_append, List.map_take, List.map_drop]
            rfl
          · refine ((pm.map (·.1)).nodup_iff).mpr ?_
            rw [List.map_cons, List.nodup_cons]
            exact ⟨y2, hf.nd⟩
          · intro g hg
            rcases List.mem_cons.mp (pm.mem_iff.mp hg) with e | e
            · rw [e]
              exact hz
            · exact hf.ok g e
          · rw [pm.length_eq, List.length_cons]
            omega
          · intro j hj
            rw [(pm.map (·.1)).mem_iff, List.map_cons, List.mem_cons]
            rw [tk, hxi] at hj
            rcases List.mem_append.mp hj with e | e
            · exact .inr (hc j e)
            · exact .inl (Option.some.inj (List.mem_singleton.mp e))
        · have y2 : k ∈ fs.map (·.1) := by
            refine Decidable.byContradiction fun z => y ?_
            rw [decide_eq_false z]
            rfl
          refine ⟨⟨_, _, rfl⟩, (hs2.same sD).mono (by omega), f2.trans (Fr.same sD), ps, fs, sD _ _ eR2, paired_mono (fun _ _ z => sqT_same sD z) hp, hf, by omega, fun j hj => ?_⟩
          rw [tk, hxi] at hj
          rcases List.mem_append.mp hj with e | e
          · exact hc j e
          · cases List.mem_singleton.mp e
            exact y2
  · obtain ⟨⟨y3, y4, rfl⟩, hs2, f2, ps, fs, eR2, hp, hf, lf, hc⟩ := hP
    rw [List.length_map] at hs2 lf hc
    rw [List.take_length] at hc
    refine ⟨_, rfl, R, _, rfl, SqL.of eR2, fun F o nF ho => ?_⟩
    exact q F fs _ hf hc (by omega) ⟨o, ps, upd_same, ho, paired_mono (fun _ _ z => sqT_same (same_new nF) z) hp⟩ (hs2.new nF) (f2.trans (Fr.new nF))
end
/-! ### frozen -/
def befO (x : Option Int) (u s : Int) : Bool := match x with
  | none => false
  | some i => bef i u s
def froz (fs : List (Int × Str)) (m e : Option Int) (u s : Int) : Option (Option Int × Option Int) :=
  if (isS (fte fs m) "fell" || (isS (fte fs e) "done" && befO e u s)) = true then none
  else some (if (isS (fte fs m) "done" && befO m u s) = true then none else m, if isS (fte fs e) "fell" = true then none else e)
def Res (K : PySem.W.Frag) (H : Hp) (k wv v : V) : Option (Option Int × Option Int) → Prop
  | none => v = .non
  | some r => ∃ p, v = .ref p ∧ SqT K H p [k, wv, onV r.1, onV r.2]
theorem Res.same {K : PySem.W.Frag} {H H' : Hp} {k wv v : V} {r : Option (Option Int × Option Int)} (s : Same H H') (h : Res K H k wv v r) : Res K H' k wv v r := by
  cases r with
  | none => exact h
  | some r =>
    obtain ⟨p, e, q⟩ := h
    exact ⟨p, e, sqT_same s q⟩
def spFroA (K : PySem.W.Frag) : Sp := fun vs H Q _ => ∃ (v : Addr) (k wv : V) (m e : Option Int) (u s : Int) (d : Addr) (fs : List (Int × Str)), vs = [.ref v, .int u, .ref d, .int s] ∧ SqT K H v [k, wv, onV m, onV e] ∧ H d = some (.dK (dk fs)) ∧ 0 < s ∧ s ≤ 1048576 ∧
  ∀ (y : V) (H' : Hp), Same H H' → Res K H' k wv y (froz fs m e u s) → Q y H'
def spFro (K : PySem.W.Frag) : Sp := fun vs H Q _ => ∃ (v : Addr) (k wv : V) (m e : Option Int) (u s : Int) (F : Addr) (fs : List (Int × Str)), vs = [.ref v, .int u, .ref F, .int s] ∧ SqT K H v [k, wv, onV m, onV e] ∧ Ft K H F fs ∧ (fs.map (·.1)).Nodup ∧ 0 < s ∧ s ≤ 1048576 ∧
  ∀ (y : V) (H' : Hp), Same H H' → Res K H' k wv y (froz fs m e u s) → Q y H'
theorem oS_get (o : Option Str) : (o.map V.str).getD .non = oS o := rfl
theorem scal_oS (o : Option Str) (z : Str) : scal (oS o) (.str z) = true := by
  cases o <;> rfl
theorem st_ifA {c : TT} {t1 t2 : TS} {D : Ends} {σ : L2.St} {H : Hp} (b : Bool) (h : Ans c σ H b) (y : b = true → t1 D σ H) (n : b = false → t2 D σ H) : tIfS c t1 t2 D σ H := by
  cases b with
  | true => exact st_yes h (y rfl)
  | false => exact st_no h (n rfl)
/-- the law's body, called by the caller itself -/
def BodyAt (P : Program) (w : World) (K : PySem.W.Frag) (mg : Str → Option Value) (base : Heap) (x : Str) (st : Stmt) (N : List Str) (k : Nat) (sp : Sp) : Prop :=
  ∀ (f : Addr) (cdv : Value) (s : Shared) (H : Hp) (vs : List V) (Q : VK) (E : XK), Room k (callerA.deeper (envOfC x (defScope st) s.heap.objs.size f cdv)) → sp vs H Q E →
      ∃ t, PSs (cxOf CX0 P w K mg base N x (defScope st) f cdv callerA [] s H E).nox (defBody st) t ∧ t { nx := fun _ H' => Q .non H', rt := Q } (start N vs) H
theorem lk_new {K : PySem.W.Frag} {H : Hp} {t0 t1 : Addr} {c : Int} (n1 : (upd H t0 (.tup [])) t1 = none) : Lk K (upd (upd H t0 (.tup [])) t1 (.tup [.int c, .ref t0])) t1 c [] :=
  ⟨t0, SqT.of upd_same, SqT.of (same_new n1 _ _ upd_same)⟩
def resD (kd wd : PyData) : Option (Option Int × Option Int) → PyData
  | none => .none
  | some r => .tuple [kd, wd, onD r.1, onD r.2]
theorem res_data {K : PySem.W.Frag} {H : Hp} {k wv y : V} {kd wd : PyData} {r : Option (Option Int × Option Int)} (h : Res K H k wv y r) (lk : Lf k kd) (lw : Lf wv wd) (hb : ∀ q, r = some q → (∀ i, q.1 = some i → 0 ≤ i ∧ i < 1048576) ∧ ∀ i, q.2 = some i → 0 ≤ i ∧ i < 1048576) :
    Dp K H y (resD kd wd r) ∧ Small 300 (resD kd wd r) := by
  cases r with
  | none =>
    have e : y = .non := h
    subst e
    exact ⟨.non, rfl, rfl, (show 0 ≤ 3 by decide), rfl, (show 0 ≤ 300 by decide)⟩
  | some q =>
    obtain ⟨p, rfl, e⟩ := h
    obtain ⟨b1, b2⟩ := hb q rfl
    exact small_tup4 e lk lw (lf_on b1) (lf_on b2)
theorem froz_bounds {fs : List (Int × Str)} {m e : Option Int} {u s : Int} (hm : ∀ i, m = some i → 0 ≤ i ∧ i < 1048576) (he : ∀ i, e = some i → 0 ≤ i ∧ i < 1048576) : ∀ q, froz fs m e u s = some q → (∀ i, q.1 = some i → 0 ≤ i ∧ i < 1048576) ∧ ∀ i, q.2 = some i → 0 ≤ i ∧ i < 1048576 := by
  intro q h
  unfold froz at h
  split at h
  · cases h
  · cases h
    refine ⟨fun i hi => ?_, fun i hi => ?_⟩
    · dsimp only at hi
      split at hi
      · cases hi
      · exact hm i hi
    · dsimp only at hi
      split at hi
      · cases hi
      · exact he i hi
/-! ### how a version stands -/
def donX (fs : List (Int × Str)) (c : Int) (xs : List Int) (s : Int) (x : Option Int) : Bool := match x with
  | none => false
  | some i => match fte fs (some i) with
    | none => false
    | some z => don z c xs i s
theorem donX_some {fs : List (Int × Str)} {c : Int} {xs : List Int} {s i : Int} {z : Str} (h : fte fs (some i) = some z) : donX fs c xs s (some i) = don z c xs i s := by
  show (match fte fs (some i) with
    | none => false
    | some z => don z c xs i s) = _
  rw [h]
def stt (fs : List (Int × Str)) (c : Int) (xs : List Int) (s : Int) (o m e : Option Int) : Str :=
  if isS (fte fs m) "fell" = true then "fell"
  else if (isS (fte fs m) "open" && !decide (onV m = onV o)) = true then "open"
  else if (isS (fte fs m) "done" && !donX fs c xs s m) = true then "later"
  else if (!decide (onV e = .non) && (decide (onV e = onV o) || donX fs c xs s e)) = true then "cut"
  else "seen"
theorem isS_at {fs : List (Int × Str)} {x : Option Int} {z : Str} (h : isS (fte fs x) z = true) : ∃ i, x = some i ∧ fte fs (some i) = some z := by
  obtain ⟨i, rfl⟩ := isS_some h
  rw [isS_eq] at h
  exact ⟨i, rfl, of_decide_eq_true h⟩
theorem scal_on (x y : Option Int) : scal (onV x) (onV y) = true := by
  cases x <;> cases y <;> rfl
def Cov (fs : List (Int × Str)) (x : Option Int) : Prop := ∀ i, x = some i → ∃ z, fte fs (some i) = some z
def spStA (K : PySem.W.Frag) : Sp := fun vs H Q _ => ∃ (v l d : Addr) (k wv : V) (m e o : Option Int) (c : Int) (xs : List Int) (s : Int) (fs : List (Int × Str)), vs = [.ref v, .ref l, .ref d, onV o, .int s] ∧ SqT K H v [k, wv, onV m, onV e] ∧ Lk K H l c xs ∧ H d = some (.dK (dk fs)) ∧ Cov fs e ∧ 0 < s ∧ s ≤ 1048576 ∧
  ∀ H' : Hp, Same H H' → Q (.str (stt fs c xs s o m e)) H'
def spSt (K : PySem.W.Frag) : Sp := fun vs H Q _ => ∃ (v l F : Addr) (k wv : V) (m e o : Option Int) (c : Int) (xs : List Int) (s : Int) (fs : List (Int × Str)), vs = [.ref v, .ref l, .ref F, onV o, .int s] ∧ SqT K H v [k, wv, onV m, onV e] ∧ Lk K H l c xs ∧ Ft K H F fs ∧ (fs.map (·.1)).Nodup ∧ Cov fs m ∧ Cov fs e ∧ 0 < s ∧ s ≤ 1048576 ∧
  ∀ H' : Hp, Same H H' → Q (.str (stt fs c xs s o m e)) H'
section
variable {P : Program} {w : World} {K : PySem.W.Frag} {mg : Str → Option Value} {base : Heap}
theorem ok_stA (k_sees : CalK P w K mg base 3 "sees" 3 ["ring"] (spSees K)) : BodyOk P w K mg base "state_among" s_state_among N_state_among 3 (spStA K) := by
  intro f cdv A outer s H vs Q E hr h
  obtain ⟨v, l, d, k, wv, m, e, o, c, xs, s, fs, rfl, hv, hl, hd, hce, s0, s1, q⟩ := h
  refine ⟨_, (pss_cons (ps_asg (pe_slice sl_tupA (pv 0) (po_some pe_int) po_none) (pg_tup rfl (pgs_cons (pg_name (i := 5) sc_state_among.nd rfl (Or.inl rfl)) (pgs_cons (pg_name (i := 6) sc_state_among.nd rfl (Or.inl rfl)) pgs_nil))))
      (pss_cons (ps_set (i := 7) sc_state_among.nd rfl (Or.inl rfl) (pe_dgetN1 (hu_of hr) (pv 2) (pv 5) ⟨rfl, rfl, rfl, rfl⟩))
      (pss_cons (ps_if (pt_cmpR op_eq (pv 7) pe_str (nomark _)) (pss_one (ps_ret pe_str)) pss_nil)
      (pss_cons (ps_if (PW.pt (pw_and (pt_cmpR op_eq (pv 7) pe_str (nomark _)) (pw_and1 (pt_cmpR op_ne (pv 5) (pv 3) (nomark _))))) (pss_one (ps_ret pe_str)) pss_nil)
      (pss_cons (ps_if (PW.pt (pw_and (pt_cmpR op_eq (pv 7) pe_str (nomark _)) (pw_and1 (pt_not (pt_val (pe_ck k_sees hr (by decide) (gl_of gl_state_among_sees) (pa_cons (pv 1) (pa_cons (pv 5) (pa_cons (pv 7) pa_nil))) (pk_cons (pv 4) pk_nil))))))) (pss_one (ps_ret pe_str)) pss_nil)
      (pss_cons (ps_if (PW.pt (pw_and (pt_cmpR op_notN (pv 6) pe_non (nomark _)) (pw_and1 (PW.pt (pw_or (pt_cmpR op_eq (pv 6) (pv 3) (nomark _)) (pw_or1 (pt_val (pe_ck k_sees hr (by decide) (gl_of gl_state_among_sees) (pa_cons (pv 1) (pa_cons (pv 6) (pa_cons (pe_dgetN1 (hu_of hr) (pv 2) (pv 6) ⟨rfl, rfl, rfl, rfl⟩) pa_nil))) (pk_cons (pv 4) pk_nil))))))))) (pss_one (ps_ret pe_str)) pss_nil)
      (pss_one (ps_ret pe_str)))))))), ?_⟩
  refine st_seq ?_
  refine ⟨_, rfl, _, rfl, ?_⟩
  dsimp only [tNoPart]
  refine slA_ev hv (fun p G sG hp => ?_)
  have hp2 : SqT K G p [onV m, onV e] := hp
  refine ⟨p, _, rfl, hp2, rfl, _, _, rfl, _, _, rfl, rfl, ?_⟩
  have hd2 := sG _ _ hd
  have hl2 := hl.same sG
  try dsimp only
  refine st_seq ?_
  refine ⟨_, rfl, d, rfl, isD_dk hd2, _, rfl, _, dgetN hd2 m, ?_⟩
  rw [oS_get]
  unfold stt at q
  try dsimp only [gName]
  refine st_seq ?_
  refine st_ifA (isS (fte fs m) "fell") (fun Q' q' => ⟨_, rfl, scal_oS _ _, _, rfl, q'⟩) (fun b1 => ?_) (fun b1 => ?_)
  · rw [b1, if_pos rfl] at q
    exact q _ sG
  rw [b1, if_neg Bool.false_ne_true] at q
  refine st_next ?_
  try dsimp only
  refine st_seq ?_
  refine st_ifA (isS (fte fs m) "open" && !decide (onV m = onV o)) (fun Q' q' => ?_) (fun b2 => ?_) (fun b2 => ?_)
  · refine ⟨_, rfl, scal_oS _ _, _, rfl, ite2 (fun y => ?_) (fun y => ?_)⟩
    · rw [show isS (fte fs m) "open" = true from y, Bool.true_and] at q'
      exact ⟨_, rfl, _, rfl, scal_on _ _, _, rfl, q'⟩
    · rw [show isS (fte fs m) "open" = false from Bool.eq_false_iff.mpr y, Bool.false_and] at q'
      exact q'
  · rw [b2, if_pos rfl] at q
    exact q _ sG
  rw [b2, if_neg Bool.false_ne_true] at q
  refine st_next ?_
  try dsimp only
  refine st_seq ?_
  refine st_ifA (isS (fte fs m) "done" && !donX fs c xs s m) (fun Q' q' => ?_) (fun b3 => ?_) (fun b3 => ?_)
  · refine ⟨_, rfl, scal_oS _ _, _, rfl, ite2 (fun y => ?_) (fun y => ?_)⟩
    · rw [show isS (fte fs m) "done" = true from y, Bool.true_and] at q'
      obtain ⟨i, rfl, hi⟩ := isS_at (show isS (fte fs m) "done" = true from y)
      have e1 : donX fs c xs s (some i) = don "done" c xs i s := donX_some hi
      rw [e1] at q'
      refine ⟨_, rfl, _, rfl, _, rfl, _, rfl, rfl, rfl, l, c, xs, i, "done", s, ?_, hl2, s0, s1, _, rfl, q'⟩
      rw [hi]
      rfl
    · rw [show isS (fte fs m) "done" = false from Bool.eq_false_iff.mpr y, Bool.false_and] at q'
      exact q'
  · rw [b3, if_pos rfl] at q
    exact q _ sG
  rw [b3, if_neg Bool.false_ne_true] at q
  refine st_next ?_
  try dsimp only
  refine st_seq ?_
  refine st_ifA (!decide (onV e = .non) && (decide (onV e = onV o) || donX fs c xs s e)) (fun Q' q' => ?_) (fun b4 => ?_) (fun b4 => ?_)
  · refine ⟨_, rfl, rfl, _, rfl, ite2 (fun y => ?_) (fun y => ?_)⟩
    · rw [y, Bool.true_and] at q'
      have he : ∃ i, e = some i := by
        cases e with
        | none => cases y
        | some i => exact ⟨i, rfl⟩
      obtain ⟨i, rfl⟩ := he
      obtain ⟨z, hz⟩ := hce i rfl
      have e1 : donX fs c xs s (some i) = don z c xs i s := donX_some hz
      rw [e1] at q'
      refine ⟨_, rfl, _, rfl, scal_on _ _, _, rfl, ite2 (fun y2 => ?_) (fun y2 => ?_)⟩
      · rw [y2, Bool.true_or] at q'
        exact q'
      · rw [Bool.eq_false_iff.mpr y2, Bool.false_or] at q'
        refine ⟨_, rfl, _, rfl, _, rfl, d, rfl, isD_dk hd2, _, rfl, _, dgetN hd2 (some i), _, rfl, rfl, rfl, l, c, xs, i, z, s, ?_, hl2, s0, s1, _, rfl, q'⟩
        rw [hz]
        rfl
    · rw [Bool.eq_false_iff.mpr y, Bool.false_and] at q'
      exact q'
  · rw [b4, if_pos rfl] at q
    exact q _ sG
  · rw [b4, if_neg Bool.false_ne_true] at q
    exact q _ sG
end
abbrev gRO (vs zs : List V) : List V := vs ++ [zs.getD 1 .non, zs.getD 0 .non]
abbrev gOR (vs zs : List V) : List V := vs ++ [zs.getD 0 .non, zs.getD 1 .non]
abbrev gR (vs zs : List V) : List V := vs ++ [.non, zs.getD 0 .non]
abbrev gO (vs zs : List V) : List V := vs ++ [zs.getD 0 .non, .int 64]
theorem kw_two {P : Program} {w : World} {K : PySem.W.Frag} {h : Heap} {mg : Str → Option Value} {base : Heap} {x : Str} {st : Stmt} {N : List Str} {p1 p2 p3 : Str} {k : Nat} {sp : Sp} (X : K.In h) (G : h.Ns mainGlobals mg) (g : (He.Fa.glo x).ok K = true)
    (F : ∃ fd, FunD K x x (defArgs st) (defBody st) (defScope st) [] [("own", .non), ("ring", .int 64)] (He.ga K x) fd) (S : FnScope N [p1, p2, p3, "own", "ring"] (defScope st)) (len : ∀ vs H Q E, sp vs H Q E → vs.length = 5) (hb : BodyOk P w K mg base x st N k sp)
    (b1 : ∀ (D : Addr) (doc pm : Value) (an : Option Addr) (cdv ct : Value) (a b c r o : Value), bindArgs (PySem.W.fnOf x x (defArgs st) (defBody st) (defScope st) .none (.ref D) doc pm an cdv ct) ⟨[a, b, c], [("ring", r), ("own", o)]⟩ = pure ([p1, p2, p3, "own", "ring"].zip [a, b, c, o, r]))
    (b2 : ∀ (D : Addr) (doc pm : Value) (an : Option Addr) (cdv ct : Value) (a b c r o : Value), bindArgs (PySem.W.fnOf x x (defArgs st) (defBody st) (defScope st) .none (.ref D) doc pm an cdv ct) ⟨[a, b, c], [("own", o), ("ring", r)]⟩ = pure ([p1, p2, p3, "own", "ring"].zip [a, b, c, o, r]))
    (b3 : ∀ (D : Addr) (doc pm : Value) (an : Option Addr) (cdv ct : Value) (a b c r o : Value), KwChain D [("own", o)] (bindArgs (PySem.W.fnOf x x (defArgs st) (defBody st) (defScope st) .none (.ref D) doc pm an cdv ct) ⟨[a, b, c], [("ring", r)]⟩) ([p1, p2, p3, "own", "ring"].zip [a, b, c, o, r]))
    (b4 : ∀ (D : Addr) (doc pm : Value) (an : Option Addr) (cdv ct : Value) (a b c r o : Value), KwChain D [("ring", r)] (bindArgs (PySem.W.fnOf x x (defArgs st) (defBody st) (defScope st) .none (.ref D) doc pm an cdv ct) ⟨[a, b, c], [("own", o)]⟩) ([p1, p2, p3, "own", "ring"].zip [a, b, c, o, r])) :
    CalW P w K mg base (k + 1) x 3 ["ring", "own"] gRO sp ∧ CalW P w K mg base (k + 1) x 3 ["own", "ring"] gOR sp ∧ CalW P w K mg base (k + 1) x 3 ["ring"] gR sp ∧ CalW P w K mg base (k + 1) x 3 ["own"] gO sp := by
  obtain ⟨fd, F⟩ := F
  have hok : FnOk P w K mg base CX0 (k + 1) (He.ga K x) fd [p1, p2, p3, "own", "ring"] sp := F.ok (CX := CX0) S (fun vs H Q E h => len vs H Q E h) (fun cdv A outer s H vs Q E hr h => by
    obtain ⟨t, h1, h2⟩ := hb _ cdv A outer s H vs Q E hr h
    exact ⟨t, h1.nox, h2⟩)
  have ne : ([("own", V.non), ("ring", V.int 64)] : List (Str × V)) ≠ [] := by simp
  refine ⟨?_, ?_, ?_, ?_⟩
  · obtain ⟨g1, kb⟩ := kw_mk (ps := [p1, p2, p3, "own", "ring"]) F ne 3 ["ring", "own"] [] (fun q hq => by cases hq) (fun us ws _ => us ++ [ws.getD 1 .none, ws.getD 0 .none]) (fun vs zs _ => vs ++ [zs.getD 1 .non, zs.getD 0 .non]) (fun r1 r2 _ => r1.append (.cons (vals_getD r2 1) (.cons (vals_getD r2 0) .nil)))
      (fun D doc pm an cdv ct us ws ds l1 l2 l3 => match us, ws, ds, l1, l2, l3 with | [a, b, c], [r, o], [], _, _, _ => b1 D doc pm an cdv ct a b c r o)
    exact ⟨_, fd, _, g1, hok, He.glo_ok X G g, F.kp, kb⟩
  · obtain ⟨g1, kb⟩ := kw_mk (ps := [p1, p2, p3, "own", "ring"]) F ne 3 ["own", "ring"] [] (fun q hq => by cases hq) (fun us ws _ => us ++ [ws.getD 0 .none, ws.getD 1 .none]) (fun vs zs _ => vs ++ [zs.getD 0 .non, zs.getD 1 .non]) (fun r1 r2 _ => r1.append (.cons (vals_getD r2 0) (.cons (vals_getD r2 1) .nil)))
      (fun D doc pm an cdv ct us ws ds l1 l2 l3 => match us, ws, ds, l1, l2, l3 with | [a, b, c], [o, r], [], _, _, _ => b2 D doc pm an cdv ct a b c r o)
    exact ⟨_, fd, _, g1, hok, He.glo_ok X G g, F.kp, kb⟩
  · obtain ⟨g1, kb⟩ := kw_mk (ps := [p1, p2, p3, "own", "ring"]) F ne 3 ["ring"] [("own", .non)] (fun q hq => by rw [List.mem_singleton.mp hq]; exact List.mem_cons_self ..) (fun us ws ds => us ++ [ds.getD 0 .none, ws.getD 0 .none]) (fun vs zs es => vs ++ [es.getD 0 .non, zs.getD 0 .non]) (fun r1 r2 r3 => r1.append (.cons (vals_getD r3 0) (.cons (vals_getD r2 0) .nil)))
      (fun D doc pm an cdv ct us ws ds l1 l2 l3 => match us, ws, ds, l1, l2, l3 with | [a, b, c], [r], [o], _, _, _ => b3 D doc pm an cdv ct a b c r o)
    exact ⟨_, fd, _, g1, hok, He.glo_ok X G g, F.kp, kb⟩
  · obtain ⟨g1, kb⟩ := kw_mk (ps := [p1, p2, p3, "own", "ring"]) F ne 3 ["own"] [("ring", .int 64)] (fun q hq => by rw [List.mem_singleton.mp hq]; exact List.mem_cons_of_mem _ (List.mem_cons_self ..)) (fun us ws ds => us ++ [ws.getD 0 .none, ds.getD 0 .none]) (fun vs zs es => vs ++ [zs.getD 0 .non, es.getD 0 .non]) (fun r1 r2 r3 => r1.append (.cons (vals_getD r2 0) (.cons (vals_getD r3 0) .nil)))
      (fun D doc pm an cdv ct us ws ds l1 l2 l3 => match us, ws, ds, l1, l2, l3 with | [a, b, c], [o], [r], _, _, _ => b4 D doc pm an cdv ct a b c r o)
    exact ⟨_, fd, _, g1, hok, He.glo_ok X G g, F.kp, kb⟩
/-! ### shown -/
structure Vr where
  k : Str
  w : V
  m : Option Int
  e : Option Int
def plainV (v : V) : Prop := (∃ i, v = .int i) ∨ ∃ z, v = .str z
def VrAt (K : PySem.W.Frag) (H : Hp) (p : Addr) (r : Vr) : Prop := SqT K H p [.str r.k, r.w, onV r.m, onV r.e]
def seenB (fs : List (Int × Str)) (c : Int) (xs : List Int) (s : Int) (o : Option Int) (r : Vr) : Bool := decide (V.str (stt fs c xs s o r.m r.e) = V.str "seen")
def kw (r : Vr) : Str × V := (r.k, r.w)
def RwAt (H : Hp) (q : Addr) (r : Str × V) : Prop := H q = some (.tup [.str r.1, r.2])
theorem paired_app {α β : Type} {R : α → β → Prop} : ∀ {as : List α} {bs : List β} {cs : List α} {ds : List β}, Paired R as bs → Paired R cs ds → Paired R (as ++ cs) (bs ++ ds)
  | _, _, _, _, .nil, h => h
  | _, _, _, _, .cons a t, h => .cons a (paired_app t h)
def spShA (K : PySem.W.Frag) : Sp := fun vs H Q _ => ∃ (a l d : Addr) (ps : List Addr) (rs : List Vr) (o : Option Int) (c : Int) (xs : List Int) (s : Int) (fs : List (Int × Str)), vs = [.ref a, .ref l, .ref d, onV o, .int s] ∧ SqT K H a (ps.map V.ref) ∧ Paired (VrAt K H) ps rs ∧ (∀ r ∈ rs, plainV r.w ∧ Cov fs r.e) ∧ rs.length ≤ 100 ∧ ((rs.filter (seenB fs c xs s o)).map Vr.k).Nodup ∧
  Lk K H l c xs ∧ H d = some (.dK (dk fs)) ∧ 0 < s ∧ s ≤ 1048576 ∧
  ∀ (R : Addr) (qs : List Addr) (rows : List (Str × V)) (H' : Hp), Same H H' → H' R = some (.tup (qs.map V.ref)) → Paired (RwAt H') qs rows → rows.Perm ((rs.filter (seenB fs c xs s o)).map kw) → rows.Pairwise (fun x y => SrtW.ltS y.1 x.1 = false) → Q (.ref R) H'
def rowOf (H : Hp) : V → Str × V
  | .ref t => match H t with
    | some (.tup [.str z, w]) => (z, w)
    | _ => ("", .non)
  | _ => ("", .non)
theorem rowOf_at {H : Hp} {q : Addr} {r : Str × V} (h : RwAt H q r) : rowOf H (.ref q) = r := by
  unfold RwAt at h
  show (match H q with
    | some (.tup [.str z, w]) => (z, w)
    | _ => ("", .non)) = r
  rw [h]
theorem rows_map {H : Hp} : ∀ {qs : List Addr} {rows : List (Str × V)}, Paired (RwAt H) qs rows → (qs.map V.ref).map (rowOf H) = rows
  | _, _, .nil => rfl
  | _, _, .cons h t => by
    rw [List.map_cons, List.map_cons, rowOf_at h, rows_map t]
theorem refs_list : ∀ {ys : List V}, (∀ y ∈ ys, ∃ q, y = V.ref q) → ∃ qs : List Addr, ys = qs.map V.ref
  | [], _ => ⟨[], rfl⟩
  | y :: r, h => by
    obtain ⟨q, rfl⟩ := h y (List.mem_cons_self ..)
    obtain ⟨qs, rfl⟩ := refs_list (ys := r) fun z hz => h z (List.mem_cons_of_mem _ hz)
    exact ⟨q :: qs, rfl⟩
theorem rows_of {H : Hp} : ∀ {qs : List Addr}, (∀ q ∈ qs, RwAt H q (rowOf H (.ref q))) → Paired (RwAt H) qs (qs.map fun q => rowOf H (.ref q))
  | [], _ => .nil
  | q :: r, h => .cons (h q (List.mem_cons_self ..)) (rows_of fun z hz => h z (List.mem_cons_of_mem _ hz))
theorem paired_mem {α β : Type} {R : α → β → Prop} : ∀ {as : List α} {bs : List β}, Paired R as bs → ∀ a ∈ as, ∃ b ∈ bs, R a b
  | _, _, .cons h t, x, hx => by
    rcases List.mem_cons.mp hx with e | e
    · exact ⟨_, List.mem_cons_self .., by rw [e]; exact h⟩
    · obtain ⟨b, hb, hr⟩ := paired_mem t x e
      exact ⟨b, List.mem_cons_of_mem _ hb, hr⟩
theorem paired_inj {H : Hp} : ∀ {qs : List Addr} {rows : List (Str × V)}, Paired (RwAt H) qs rows → (rows.map (·.1)).Nodup → ∀ p ∈ qs, ∀ q ∈ qs, (rowOf H (.ref p)).1 = (rowOf H (.ref q)).1 → p = q
  | _, _, .cons (l₁ := as) (l₂ := bs) h t, hn, p, hp, q, hq, e => by
    rw [List.map_cons, List.nodup_cons] at hn
    have key : ∀ x ∈ as, (rowOf H (.ref x)).1 ∈ bs.map (·.1) := fun x hx => by
      obtain ⟨b, hb, hr⟩ := paired_mem t x hx
      rw [rowOf_at hr]
      exact List.mem_map.mpr ⟨b, hb, rfl⟩
    rcases List.mem_cons.mp hp with e1 | e1 <;> rcases List.mem_cons.mp hq with e2 | e2
    · rw [e1, e2]
    · rw [e1, rowOf_at h] at e
      exact absurd (by rw [e]; exact key q e2) hn.1
    · rw [e2, rowOf_at h] at e
      exact absurd (by rw [← e]; exact key p e1) hn.1
    · exact paired_inj t hn.2 p e1 q e2 e
section
variable {P : Program} {w : World} {K : PySem.W.Frag} {mg : Str → Option Value} {base : Heap}
theorem ok_shA (T : Tx K mg) (c_state_among : C8.Cal P w K mg base 4 "state_among" (spStA K) []) : BodyOk P w K mg base "shown_among" s_shown_among N_shown_among 4 (spShA K) := by
  intro f cdv A outer s H vs Q E hr h
  obtain ⟨a, l, d, ps, rs, o, c, xs, s, fs, rfl, hA, hp, hw, lr, hnd, hl, hd, s0, s1, q⟩ := h
  have lps := paired_len hp
  refine ⟨_, (pss_cons (ps_setLc (i := 5) (own := [("version", 6)]) (g := gName 6) rfl sc_shown_among.nd rfl rfl (sw_true rfl rfl rfl (by decide +kernel)) (pi_tup (pv 0)) (blkOk_by (own := [("version", 6)]) (N := N_shown_among) (sc := defScope s_shown_among) (by decide +kernel)) (fun _ _ _ _ _ => pg_name (i := 6) sc_shown_among.nd rfl (Or.inl rfl)) (fun _ _ _ _ _ => (pts_one (pt_cmpR op_eq (C8.pe_c c_state_among hr (by decide) (by rfl) (pa_cons (pv 6) (pa_cons (pv 1) (pa_cons (pv 2) (pa_cons (pv 3) (pa_cons (pv 4) pa_nil)))))) pe_str (nomark _)))) (fun _ _ _ _ _ => (pv 6)))
      (pss_one (ps_ret (pe_callTy call_tuple_of (gl_of gl_shown_among_tuple) T.tuple bt_tuple (pa_cons (pe_callB SrtW.cr_sortedW (gl_of gl_shown_among_sorted) T.sorted bb_sorted (pa_cons (pe_lc (own := [("version", 6)]) (g := gName 6) (tt := tYes) rfl sc_shown_among.nd (pi_list (pv 5)) (blkOk_by (own := [("version", 6)]) (N := N_shown_among) (sc := defScope s_shown_among) (by decide +kernel)) (fun _ _ _ _ _ => pg_name (i := 6) sc_shown_among.nd rfl (Or.inl rfl)) (fun _ _ _ _ _ => pts_nil) (fun _ _ _ _ _ => (pe_slice (sl_tupAK (K1 := K) rfl) (pv 6) po_none (po_some pe_int)))) pa_nil)) pa_nil))))), ?_⟩
  refine st_seq ?_
  refine ⟨_, rfl, a, rfl, ⟨_, hA⟩, fun D nD => ?_⟩
  refine lc_tup (K := K) (a := a) (xs := ps.map V.ref) (fun j H'' => Same H H'' ∧ ∃ ss : List Addr, H'' D = some (.lst (ss.map V.ref)) ∧ Paired (VrAt K H) ss ((rs.take j).filter (seenB fs c xs s o))) ?_ (fun j H'' _ hP => ?_) (fun j v H'' hv hP => ?_) (fun H1 hP => ?_)
  · exact ⟨same_new nD, [], upd_same, by rw [List.take_zero]; exact .nil⟩
  · exact sqT_same hP.1 hA
  · obtain ⟨sD, ss, eD, hss⟩ := hP
    have hjl : j < ps.length := by
      have z := (List.getElem?_eq_some_iff.mp hv).1
      rw [List.length_map] at z
      exact z
    have hjr : j < rs.length := by omega
    rw [List.getElem?_map, List.getElem?_eq_getElem hjl] at hv
    have ev : v = .ref ps[j] := (Option.some.inj hv).symm
    subst ev
    have hpj := paired_at hp hjl hjr
    have lss := paired_len hss
    have lf : ((rs.take j).filter (seenB fs c xs s o)).length ≤ j := Nat.le_trans (List.length_filter_le ..) (by rw [List.length_take]; omega)
    have htk : (rs.take (j + 1)).filter (seenB fs c xs s o) = (rs.take j).filter (seenB fs c xs s o) ++ [rs[j]].filter (seenB fs c xs s o) := by
      rw [take_add1 rs j hjr, List.filter_append]
    refine ⟨rfl, ?_⟩
    refine ⟨_, rfl, _, rfl, _, rfl, _, rfl, _, rfl, ps[j], l, d, _, _, rs[j].m, rs[j].e, o, c, xs, s, fs, rfl, sqT_same sD hpj, hl.same sD, sD _ _ hd, (hw rs[j] (List.getElem_mem hjr)).2, s0, s1, fun H3 sm3 => ?_⟩
    refine ⟨rfl, _, rfl, ite2 (fun y => ?_) (fun y => ?_)⟩
    · have y2 : seenB fs c xs s o rs[j] = true := y
      refine ⟨_, rfl, _, sm3 _ _ eD, ?_, same_mut (sD.trans sm3) nD, ss ++ [ps[j]], ?_, ?_⟩
      · rw [List.length_map]
        exact small1000 (by omega)
      · rw [upd_same, List.map_append]
        rfl
      · rw [htk, List.filter_cons_of_pos y2]
        exact paired_app hss (.cons hpj .nil)
    · have y2 : ¬ seenB fs c xs s o rs[j] = true := y
      refine ⟨sD.trans sm3, ss, sm3 _ _ eD, ?_⟩
      rw [htk, List.filter_cons_of_neg y2, List.filter_nil, List.append_nil]
      exact hss
  obtain ⟨sD, ss, eD, hss⟩ := hP
  rw [List.length_map, lps, List.take_length] at hss
  have lss := paired_len hss
  have lsn : (rs.filter (seenB fs c xs s o)).length ≤ 100 := Nat.le_trans (List.length_filter_le ..) lr
  have hws : ∀ r ∈ rs.filter (seenB fs c xs s o), plainV r.w := fun r hr => (hw r (List.mem_filter.mp hr).1).1
  generalize rs.filter (seenB fs c xs s o) = sn at hss lss lsn hws hnd q
  try dsimp only [gName]
  refine ⟨_, rfl, D, rfl, ⟨_, SqL.of eD⟩, fun D2 nD2 => ?_⟩
  refine lc_list (K := K) (a := D) (xs := ss.map V.ref) (fun j H'' => Same H1 H'' ∧ ∃ qs : List Addr, H'' D2 = some (.lst (qs.map V.ref)) ∧ Paired (RwAt H'') qs ((sn.take j).map kw)) ?_ (fun j H'' _ hP => ?_) (fun j v H'' hv hP => ?_) (fun H2 hP => ?_)
  · exact ⟨same_new nD2, [], upd_same, by rw [List.take_zero]; exact .nil⟩
  · exact SqL.of (hP.1 _ _ eD)
  · obtain ⟨sB, qs, eB, hqs⟩ := hP
    have hjl : j < ss.length := by
      have z := (List.getElem?_eq_some_iff.mp hv).1
      rw [List.length_map] at z
      exact z
    have hjr : j < sn.length := by omega
    rw [List.getElem?_map, List.getElem?_eq_getElem hjl] at hv
    have ev : v = .ref ss[j] := (Option.some.inj hv).symm
    subst ev
    have hpj : SqT K H'' ss[j] [.str sn[j].k, sn[j].w, onV sn[j].m, onV sn[j].e] := sqT_same (sD.trans sB) (paired_at hss hjl hjr)
    have lqs := paired_len hqs
    rw [List.length_map, List.length_take] at lqs
    refine ⟨rfl, ?_⟩
    refine ⟨_, rfl, _, rfl, ?_⟩
    refine ⟨ss[j], _, rfl, hpj, fun e => ?_, fun e t nt => ?_⟩
    · exact absurd (show HT.sIx 4 4 (some 2) = 4 from e.2) (by decide)
    have et : (upd H'' t (.tup (cutV [V.str sn[j].k, sn[j].w, onV sn[j].m, onV sn[j].e] none (some 2)))) t = some (.tup [.str sn[j].k, sn[j].w]) := upd_same
    have st : Same H'' (upd H'' t (.tup (cutV [V.str sn[j].k, sn[j].w, onV sn[j].m, onV sn[j].e] none (some 2)))) := same_new nt
    generalize upd H'' t (.tup (cutV [V.str sn[j].k, sn[j].w, onV sn[j].m, onV sn[j].e] none (some 2))) = H5 at et st
    have eB5 := st _ _ eB
    refine ⟨_, eB5, ?_, same_mut (sB.trans st) nD2, qs ++ [t], ?_, ?_⟩
    · rw [List.length_map]
      exact small1000 (by omega)
    · rw [upd_same, List.map_append]
      rfl
    · rw [take_add1 sn j hjr, List.map_append]
      refine paired_app (paired_mono (fun p r z => ?_) hqs) (.cons ?_ .nil)
      · have za : H5 p = _ := st _ _ z
        show (upd H5 D2 _) p = _
        rw [upd_ne (ne_tl za eB5)]
        exact za
      · show (upd H5 D2 _) t = _
        rw [upd_ne (ne_tl et eB5)]
        exact et
  obtain ⟨sB, qs, eB, hqs⟩ := hP
  rw [List.length_map, lss, List.take_length] at hqs
  have inj := paired_inj hqs (by rw [List.map_map]; exact hnd)
  have rowAt : ∀ p ∈ qs, RwAt H2 p (rowOf H2 (.ref p)) ∧ plainV (rowOf H2 (.ref p)).2 := fun p hp => by
    obtain ⟨r, hr, hra⟩ := paired_mem hqs p hp
    obtain ⟨v, hv, rfl⟩ := List.mem_map.mp hr
    rw [rowOf_at hra]
    exact ⟨hra, hws v hv⟩
  refine ⟨D2, qs.map V.ref, fun v => (rowOf H2 v).1, rfl, SqL.of eB, fun x hx => ?_, fun x hx y hy e => ?_, fun ys L hsr hpm nL => ?_⟩
  · obtain ⟨p, hp, rfl⟩ := List.mem_map.mp hx
    obtain ⟨h1, h2⟩ := rowAt p hp
    exact ⟨p, _, rfl, h1, h2⟩
  · obtain ⟨p, hp, rfl⟩ := List.mem_map.mp hx
    obtain ⟨p', hp', rfl⟩ := List.mem_map.mp hy
    rw [inj p hp p' hp' e]
  refine ⟨L, ys, rfl, .inl ⟨SqL.of upd_same, fun R nR => ?_⟩⟩
  obtain ⟨us, rfl⟩ := refs_list fun y hy => by
    obtain ⟨p, _, e⟩ := List.mem_map.mp (hpm.mem_iff.mp hy)
    exact ⟨p, e.symm⟩
  have sL : Same H2 (upd (upd H2 L (.lst (us.map V.ref))) R (.tup (us.map V.ref))) := (same_new nL).trans (same_new nR)
  have eR : (upd (upd H2 L (.lst (us.map V.ref))) R (.tup (us.map V.ref))) R = some (.tup (us.map V.ref)) := upd_same
  generalize upd (upd H2 L (.lst (us.map V.ref))) R (.tup (us.map V.ref)) = H3 at sL eR
  have hus : ∀ p ∈ us, p ∈ qs := fun p hp => by
    obtain ⟨p', h1, e⟩ := List.mem_map.mp (hpm.mem_iff.mp (List.mem_map.mpr ⟨p, hp, rfl⟩))
    cases e
    exact h1
  refine q R us (us.map fun p => rowOf H2 (.ref p)) H3 (sD.trans (sB.trans sL)) eR ?_ ?_ ?_
  · exact paired_mono (fun p r z => sL _ _ z) (rows_of fun p hp => (rowAt p (hus p hp)).1)
  · have z := hpm.map (rowOf H2)
    rw [rows_map hqs, List.map_map] at z
    exact z
  · rw [List.pairwise_map]
    have z := List.pairwise_map.mp hsr
    exact z
def spSh (K : PySem.W.Frag) : Sp := fun vs H Q _ => ∃ (a l F : Addr) (ps : List Addr) (rs : List Vr) (o : Option Int) (c : Int) (xs : List Int) (s : Int) (fs : List (Int × Str)), vs = [.ref a, .ref l, .ref F, onV o, .int s] ∧ SqT K H a (ps.map V.ref) ∧ Paired (VrAt K H) ps rs ∧ (∀ r ∈ rs, plainV r.w ∧ Cov fs r.e) ∧ rs.length ≤ 100 ∧ ((rs.filter (seenB fs c xs s o)).map Vr.k).Nodup ∧
  Lk K H l c xs ∧ Ft K H F fs ∧ (fs.map (·.1)).Nodup ∧ 0 < s ∧ s ≤ 1048576 ∧
  ∀ (R : Addr) (qs : List Addr) (rows : List (Str × V)) (H' : Hp), Same H H' → H' R = some (.tup (qs.map V.ref)) → Paired (RwAt H') qs rows → rows.Perm ((rs.filter (seenB fs c xs s o)).map kw) → rows.Pairwise (fun x y => SrtW.ltS y.1 x.1 = false) → Q (.ref R) H'
theorem ok_sh (T : Tx K mg) (c_shown_among : C8.Cal P w K mg base 5 "shown_among" (spShA K) []) : BodyOk P w K mg base "shown" s_shown N_shown 5 (spSh K) := by
  intro f cdv A outer s H vs Q E hr h
  obtain ⟨a, l, F, ps, rs, o, c, xs, s, fs, rfl, hA, hp, hw, lr, hnd, hl, ⟨ob, fp, h1, h2, h3⟩, hfd, s0, s1, q⟩ := h
  refine ⟨_, (pss_one (ps_ret (C8.pe_c c_shown_among hr (by decide) (gl_of gl_shown_shown_among) (pa_cons (pv 0) (pa_cons (pv 1) (pa_cons (pe_callTy (call_dictT rfl) (gl_of gl_shown_dict) T.dict bt_dict (pa_cons (pv 2) pa_nil)) (pa_cons (pv 3) (pa_cons (pv 4) pa_nil)))))))), ?_⟩
  refine ⟨_, rfl, _, rfl, _, rfl, F, ob, fp, dk fs, rfl, h1, h2, paired_dk h3, fun d nd => ?_⟩
  rw [merge_dk hfd]
  have sd : Same H (upd H d (.dK (dk fs))) := same_new nd
  have ed : (upd H d (.dK (dk fs))) d = some (.dK (dk fs)) := upd_same
  generalize upd H d (.dK (dk fs)) = H1 at sd ed
  exact ⟨_, rfl, _, rfl, a, l, d, ps, rs, o, c, xs, s, fs, rfl, sqT_same sd hA, paired_mono (fun p r z => sqT_same sd z) hp, hw, lr, hnd, hl.same sd, ed, s0, s1, fun R qs rows H' sm => q R qs rows H' (sd.trans sm)⟩
def spWorth2 : Sp := fun vs H Q _ => ∃ (h : Addr) (n : Nat), vs = [.ref h] ∧ HS h n H ∧ n + 2 < lim ∧ ∀ v d H', Lf v d → plainV v → HS h (n + 2) H' → Fr h H H' → Q v H'
theorem ok_worth2 (T : Tx K mg) (c_l_take : C8.Cal P w K mg base 1 "_law_take" spTake []) (c_l_of : C8.Cal P w K mg base 2 "_law_of" (spOf2 K) []) : BodyOk P w K mg base "_law_worth" s_l_worth N_l_worth 2 spWorth2 := by
  intro f cdv A outer s H vs Q E hr h
  obtain ⟨h, n, rfl, hs, hn, q⟩ := h
  have hn2 : n + 2 < 100000 := hn
  have p18' : (10 : Int) ^ 18 = 1000000000000000000 := by decide
  have p6 : (10 : Int) ^ (6 : Int).toNat = 1000000 := by decide
  refine ⟨_, (pss_cons (ps_set (i := 1) sc_l_worth.nd rfl (Or.inl rfl) (pe_op op_add (pe_op op_pow pe_int pe_int) (C8.pe_c c_l_take hr (by decide) (gl_of gl_l_worth_l_take) (pa_cons (pv 0) (pa_cons (pe_op op_pow pe_int pe_int) pa_nil)))))
      (pss_one (ps_ret (C8.pe_c c_l_of hr (by decide) (gl_of gl_l_worth_l_of) (pa_cons (pv 0) (pa_cons (pe_lst (pa_cons pe_int (pa_cons pe_int (pa_cons (pe_un un_neg pe_int) (pa_cons (pv 1) (pa_cons (pe_un un_neg (pv 1)) (pa_cons pe_str (pa_cons pe_str (pa_cons pe_str pa_nil))))))))) pa_nil)))))), ?_⟩
  refine st_seq ?_
  refine ⟨_, _, rfl, rfl, pow_ok (by decide), _, rfl, _, _, rfl, rfl, pow_ok (by decide), h, _, n, rfl, hs, (show n < 100000 by omega), by rw [p6]; decide, by rw [p6]; decide, fun d H1 d0 d1 hs1 f1 => ?_⟩
  rw [p6] at d1
  refine ⟨_, _, rfl, rfl, ?_⟩
  refine ⟨_, rfl, _, rfl, _, rfl, _, rfl, _, rfl, (show 8 ≤ sizeLine by decide), fun L nL => ?_⟩
  refine .inl ⟨h, L, _, n + 1, rfl, hs1.new nL, (show n + 1 < 100000 by omega), hs1.ne nL, SqL.of upd_same, (show 0 < 8 by decide), (show 8 ≤ 1000 by decide), fun v H2 hv hs2 f2 => ?_⟩
  have e62 : (2 : Nat) ^ 62 = 4611686018427387904 := by decide
  have hl : ∃ dd, Lf v dd ∧ plainV v := by
    simp only [p17, List.mem_cons, List.not_mem_nil, or_false] at hv
    rcases hv with rfl | rfl | rfl | rfl | rfl | rfl | rfl | rfl
    · exact ⟨_, lf_int (by decide), .inl ⟨_, rfl⟩⟩
    · exact ⟨_, lf_int (by decide), .inl ⟨_, rfl⟩⟩
    · exact ⟨_, lf_int (by decide), .inl ⟨_, rfl⟩⟩
    · exact ⟨_, lf_int (by omega), .inl ⟨_, rfl⟩⟩
    · exact ⟨_, lf_int (by omega), .inl ⟨_, rfl⟩⟩
    · exact ⟨_, lf_str (by decide) (by decide), .inr ⟨_, rfl⟩⟩
    · exact ⟨_, lf_str (by decide) (by decide), .inr ⟨_, rfl⟩⟩
    · exact ⟨_, lf_str (by decide) (by decide), .inr ⟨_, rfl⟩⟩
  obtain ⟨dd, hl, pl⟩ := hl
  exact q v dd H2 hl pl hs2 (f1.trans ((Fr.new nL).trans f2))
/-- what a version drawn is made of -/
structure VrOk (s : Int) (r : Vr) : Prop where
  k : r.k.cps.size ≤ 8 ∧ (r.k.cps.toList.all fun c => decide (c < 16 ^ 8)) = true
  w : (∃ d, Lf r.w d) ∧ plainV r.w
  m : ∀ i, r.m = some i → 0 ≤ i ∧ i < s
  e : ∀ i, r.e = some i → 0 ≤ i ∧ i < s
def VrT (H : Hp) (p : Addr) (r : Vr) : Prop := H p = some (.tup [.str r.k, r.w, onV r.m, onV r.e])
def spVers (K : PySem.W.Frag) : Sp := fun vs H Q _ => ∃ (h l : Addr) (c : Int) (xs : List Int) (s : Int) (m n : Nat), vs = [.ref h, .ref l, .int s, .int m] ∧ Lk K H l c xs ∧ xs.length ≤ 6 ∧ (∀ x ∈ xs, 0 ≤ x ∧ x < s) ∧ 0 ≤ c ∧ c < s ∧ HS h n H ∧ m ≤ 40 ∧ n + 9 * m < lim ∧ 8 ≤ s ∧ s ≤ 1048576 ∧
  ∀ (L : Addr) (ps : List Addr) (rs : List Vr) (H' : Hp), H L = none → H' L = some (.lst (ps.map V.ref)) → Paired (VrT H') ps rs → rs.length = m → (∀ r ∈ rs, VrOk s r) → HS h (n + 9 * m) H' → Fr h H H' → Q (.ref L) H'
theorem ok_vers (T : Tx K mg) (c_l_of : C8.Cal P w K mg base 2 "_law_of" (spOf2 K) []) (c_l_worth : C8.Cal P w K mg base 3 "_law_worth" spWorth2 []) (c_l_near : C8.Cal P w K mg base 3 "_law_near" (spNear K) []) : BodyOk P w K mg base "_law_versions" s_l_versions N_l_versions 3 (spVers K) := by
  intro f cdv A outer s H vs Q E hr h
  obtain ⟨h, l, c, xs, s, m, n, rfl, hl, lx, hx, c0, c1, hs, hm, hn, s0, s1, q⟩ := h
  have hn2 : n + 9 * m < 100000 := hn
  refine ⟨_, (pss_cons (ps_set (i := 4) sc_l_versions.nd rfl (Or.inl rfl) (pe_lst pa_nil))
      (pss_cons (ps_for PassesOwn.never rfl (pi_range1 (by rfl) T.range (pa_cons (pv 3) pa_nil)) (pg_name (i := 5) sc_l_versions.nd rfl (Or.inl rfl)) (pss_cons (ps_set (i := 6) sc_l_versions.nd rfl (Or.inl rfl) (C8.pe_c c_l_of hr (by decide) (gl_of gl_l_versions_l_of) (pa_cons (pv 0) (pa_cons (pe_lst (pa_cons pe_str (pa_cons pe_str (pa_cons pe_str (pa_cons pe_str (pa_cons pe_str (pa_cons pe_str (pa_cons pe_str (pa_cons pe_str pa_nil))))))))) pa_nil))))
      (pss_one (ps_expr (pe_bm PySem.F.plainAttrs_list PySem.F.slot_list_append PySem.F.type_list_append mt_append (pv 4) (pa_cons (pe_tup (pa_cons (pv 6) (pa_cons (C8.pe_c c_l_worth hr (by decide) (gl_of gl_l_versions_l_worth) (pa_cons (pv 0) pa_nil)) (pa_cons (C8.pe_c c_l_near hr (by decide) (gl_of gl_l_versions_l_near) (pa_cons (pv 0) (pa_cons (pv 1) (pa_cons (pv 2) pa_nil)))) (pa_cons (C8.pe_c c_l_near hr (by decide) (gl_of gl_l_versions_l_near) (pa_cons (pv 0) (pa_cons (pv 1) (pa_cons (pv 2) pa_nil)))) pa_nil))))) pa_nil))))))
      (pss_one (ps_ret (pv 4))))), ?_⟩
  refine st_seq ?_
  refine ⟨(show 0 ≤ sizeLine by decide), fun L nL => ?_⟩
  have eL : (upd H L (.lst [])) L = some (.lst []) := upd_same
  have sL : Same H (upd H L (.lst [])) := same_new nL
  have nLh : L ≠ h := hs.ne nL
  generalize upd H L (.lst []) = H1 at eL sL
  try dsimp only [gName]
  refine st_seq ?_
  refine ⟨_, rfl, (m : Int), rfl, by omega, by omega, ?_⟩
  refine for_range (lo := 0) (n := ((m : Int)).toNat) (fun i σ H' => (∃ y5 y6, σ = [some (.ref h), some (.ref l), some (.int s), some (.int m), some (.ref L), y5, y6]) ∧ HS h (n + 9 * i) H' ∧ Fr h H H' ∧ ∃ (ps : List Addr) (rs : List Vr), H' L = some (.lst (ps.map V.ref)) ∧ Paired (VrT H') ps rs ∧ rs.length = i ∧ ∀ r ∈ rs, VrOk s r)
    ⟨⟨none, none, rfl⟩, hs.same sL, Fr.same sL, [], [], eL, .nil, rfl, fun r hr => by cases hr⟩ (fun i σ H2 hi hP => ?_) (fun σ H2 hP => ?_)
  · obtain ⟨⟨y5, y6, rfl⟩, hs2, f2, ps, rs, eL2, hp, lr, hok⟩ := hP
    have hi2 : i < m := by omega
    have lps := paired_len hp
    refine st_seq ?_
    refine ⟨_, rfl, (show 8 ≤ sizeLine by decide), fun p np => ?_⟩
    refine .inl ⟨h, p, _, n + 9 * i, rfl, hs2.new np, (show n + 9 * i < 100000 by omega), hs2.ne np, SqL.of upd_same, (show 0 < 8 by decide), (show 8 ≤ 1000 by decide), fun v H3 hv hs3 f3 => ?_⟩
    have hz : ∃ z : Str, v = .str z ∧ z.cps.size ≤ 8 ∧ (z.cps.toList.all fun c => decide (c < 16 ^ 8)) = true := by
      simp only [List.mem_cons, List.not_mem_nil, or_false] at hv
      rcases hv with rfl | rfl | rfl | rfl | rfl | rfl | rfl | rfl <;> exact ⟨_, rfl, by decide, by decide⟩
    obtain ⟨z, rfl, hz⟩ := hz
    have f23 : Fr h H2 H3 := (Fr.new np).trans f3
    have lk3 := hs.lk (f2.trans f23) hl
    try dsimp only [gName]
    refine ⟨_, rfl, .inl ⟨rfl, _, SqL.of (f23 _ _ nLh eL2)⟩, ?_⟩
    refine ⟨_, rfl, _, rfl, h, n + 9 * i + 1, rfl, hs3, (show n + 9 * i + 1 + 2 < 100000 by omega), fun wv wd H4 hlf pl hs4 f4 => ?_⟩
    have lk4 := hs3.lk f4 lk3
    refine ⟨_, rfl, _, rfl, _, rfl, h, l, c, xs, s, n + 9 * i + 3, rfl, lk4, lx, hx, c0, c1, hs4, (show n + 9 * i + 3 + 3 < 100000 by omega), s0, s1, fun mm H5 hmm hs5 f5 => ?_⟩
    have lk5 := hs4.lk f5 lk4
    refine ⟨_, rfl, _, rfl, _, rfl, h, l, c, xs, s, n + 9 * i + 6, rfl, lk5, lx, hx, c0, c1, hs5, (show n + 9 * i + 6 + 3 < 100000 by omega), s0, s1, fun ee H6 hee hs6 f6 => ?_⟩
    refine ⟨(show 4 ≤ sizeLine by decide), fun t nt => ?_⟩
    have f26 : Fr h H2 H6 := f23.trans (f4.trans (f5.trans f6))
    have eL6 := f26 _ _ nLh eL2
    have st : Same H6 (upd H6 t (.tup [.str z, wv, onV mm, onV ee])) := same_new nt
    have et : (upd H6 t (.tup [.str z, wv, onV mm, onV ee])) t = some (.tup [.str z, wv, onV mm, onV ee]) := upd_same
    generalize upd H6 t (.tup [.str z, wv, onV mm, onV ee]) = H7 at st et
    have eL7 := st _ _ eL6
    have f27 : Fr h H2 H7 := f26.trans (Fr.same st)
    refine ⟨L, _, _, rfl, rfl, eL7, ?_, ⟨_, _, rfl⟩, ?_, Fr.mut (f2.trans f27) nL, ps ++ [t], rs ++ [⟨z, wv, mm, ee⟩], ?_, ?_, ?_, ?_⟩
    · rw [List.length_map]
      exact small1000 (by omega)
    · exact ((hs6.same st).upd nLh).mono (by omega)
    · rw [upd_same, List.map_append]
      rfl
    · refine paired_app (paired_mono (fun p' r zz => ?_) hp) (.cons ?_ .nil)
      · have za : H7 p' = _ := f27 _ _ (hs2.neT zz) zz
        show (upd H7 L _) p' = _
        rw [upd_ne (ne_tl za eL7)]
        exact za
      · show (upd H7 L _) t = _
        rw [upd_ne (ne_tl et eL7)]
        exact et
    · rw [List.length_append, lr]
      rfl
    · intro r hr
      rcases List.mem_append.mp hr with e1 | e1
      · exact hok r e1
      · rw [List.mem_singleton.mp e1]
        exact ⟨hz, ⟨⟨wd, hlf⟩, pl⟩, hmm, hee⟩
  · obtain ⟨⟨y5, y6, rfl⟩, hs2, f2, ps, rs, eL2, hp, lr, hok⟩ := hP
    exact ⟨_, rfl, q L ps rs H2 nL eL2 hp (by omega) hok (hs2.mono (by omega)) f2⟩
/-- one version seen for each key -/
def oneE (sn : Vr → Bool) : List Vr → List Str → List Vr
  | [], _ => []
  | r :: rs, ks => if sn r = true then (if r.k ∈ ks then oneE sn rs (ks ++ [r.k]) else r :: oneE sn rs (ks ++ [r.k])) else r :: oneE sn rs ks
theorem oneE_at {sn : Vr → Bool} {rs : List Vr} {i : Nat} {ks : List Str} (h : i < rs.length) : oneE sn (rs.drop i) ks = if sn rs[i] = true then (if rs[i].k ∈ ks then oneE sn (rs.drop (i + 1)) (ks ++ [rs[i].k]) else rs[i] :: oneE sn (rs.drop (i + 1)) (ks ++ [rs[i].k])) else rs[i] :: oneE sn (rs.drop (i + 1)) ks := by
  rw [List.drop_eq_getElem_cons h]
  rfl
theorem oneE_sub {sn : Vr → Bool} : ∀ {rs : List Vr} {ks : List Str}, ∀ r ∈ oneE sn rs ks, r ∈ rs
  | [], _, r, h => h
  | x :: rs, ks, r, h => by
    unfold oneE at h
    split at h
    · split at h
      · exact List.mem_cons_of_mem _ (oneE_sub r h)
      · rcases List.mem_cons.mp h with e | e
        · rw [e]
          exact List.mem_cons_self ..
        · exact List.mem_cons_of_mem _ (oneE_sub r e)
    · rcases List.mem_cons.mp h with e | e
      · rw [e]
        exact List.mem_cons_self ..
      · exact List.mem_cons_of_mem _ (oneE_sub r e)
/-- no key is seen twice -/
theorem oneE_keys {sn : Vr → Bool} : ∀ (rs : List Vr) (ks : List Str), (((oneE sn rs ks).filter sn).map (·.k)).Nodup ∧ ∀ k ∈ ((oneE sn rs ks).filter sn).map (·.k), k ∉ ks
  | [], _ => ⟨List.nodup_nil, fun k h => by cases h⟩
  | r :: rs, ks => by
    unfold oneE
    by_cases c : sn r = true
    · rw [if_pos c]
      obtain ⟨i1, i2⟩ := oneE_keys (sn := sn) rs (ks ++ [r.k])
      by_cases d : r.k ∈ ks
      · rw [if_pos d]
        exact ⟨i1, fun k hk hk2 => i2 k hk (List.mem_append_left _ hk2)⟩
      · rw [if_neg d, List.filter_cons, if_pos c, List.map_cons]
        refine ⟨List.nodup_cons.mpr ⟨fun z => i2 _ z (List.mem_append_right _ (List.mem_cons_self ..)), i1⟩, fun k hk => ?_⟩
        rcases List.mem_cons.mp hk with e | e
        · rw [e]
          exact d
        · exact fun z => i2 k e (List.mem_append_left _ z)
    · rw [if_neg c, List.filter_cons, if_neg c]
      exact oneE_keys rs ks
theorem inV_str (k : Str) : ∀ ks : List Str, inV (.str k) (ks.map V.str) = decide (k ∈ ks)
  | [] => rfl
  | x :: ks => by
    have ih := inV_str k ks
    unfold inV at ih ⊢
    rw [List.map_cons, List.any_cons, ih]
    by_cases c : x = k
    · subst c
      rw [show eqV (.str x) (.str x) = true by simp [eqV], Bool.true_or, decide_eq_true (List.mem_cons_self ..)]
    · rw [show eqV (.str x) (.str k) = false by simp [eqV, c], Bool.false_or]
      refine decide_eq_decide.mpr ⟨fun z => List.mem_cons_of_mem _ z, fun z => ?_⟩
      rcases List.mem_cons.mp z with e | e
      · exact absurd e.symm c
      · exact e
theorem flat_strs : ∀ ks : List Str, (ks.map V.str).all flatV = true
  | [] => rfl
  | k :: ks => by
    rw [List.map_cons, List.all_cons, flat_strs ks]
    rfl
def spOneE (K : PySem.W.Frag) : Sp := fun vs H Q _ => ∃ (L l F : Addr) (ps : List Addr) (rs : List Vr) (o : Option Int) (c : Int) (xs : List Int) (s : Int) (fs : List (Int × Str)), vs = [.ref L, .ref l, .ref F, onV o, .int s] ∧ H L = some (.lst (ps.map V.ref)) ∧ Paired (VrT H) ps rs ∧ rs.length ≤ 40 ∧ Lk K H l c xs ∧ Ft K H F fs ∧ (fs.map (·.1)).Nodup ∧ (∀ r ∈ rs, Cov fs r.m ∧ Cov fs r.e) ∧ 0 < s ∧ s ≤ 1048576 ∧
  ∀ (D : Addr) (qs : List Addr) (H' : Hp), H D = none → H' D = some (.lst (qs.map V.ref)) → Paired (VrT H) qs (oneE (seenB fs c xs s o) rs []) → Same H H' → Q (.ref D) H'
theorem ok_oneE (T : Tx K mg) (c_l_state : C8.Cal P w K mg base 2 "_law_state" (spSt K) []) : BodyOk P w K mg base "_law_one_each" s_l_one_each N_l_one_each 2 (spOneE K) := by
  intro f cdv A outer s H vs Q E hr h
  obtain ⟨L, l, F, ps, rs, o, c, xs, s, fs, rfl, eL, hp, lr, hl, hF, nd, hc, s0, s1, q⟩ := h
  have lps := paired_len hp
  refine ⟨_, (pss_cons (ps_par (i := 5) (j := 6) (by rfl) sc_l_one_each.nd rfl rfl (by decide) rfl rfl (pa_cons (pe_lst pa_nil) (pa_cons (pe_lst pa_nil) pa_nil)) (by rfl))
      (pss_cons (ps_for PassesOwn.never rfl (pi_list (pv 0)) (pg_name (i := 7) sc_l_one_each.nd rfl (Or.inl rfl)) (pss_cons (ps_set (i := 8) sc_l_one_each.nd rfl (Or.inl rfl) (pe_cmpR op_eq (C8.pe_c c_l_state hr (by decide) (gl_of gl_l_one_each_l_state) (pa_cons (pv 7) (pa_cons (pv 1) (pa_cons (pv 2) (pa_cons (pv 3) (pa_cons (pv 4) pa_nil)))))) pe_str (nomark _)))
      (pss_cons (ps_if (PW.pt (pw_or (pt_not (pt_val (pv 8))) (pw_or1 (pt_cmpR op_notIn_seq (pe_ix ix_tup (pv 7) pe_int (fun _ _ => rfl)) (pv 6) (by rfl))))) (pss_one (ps_expr (pe_bm PySem.F.plainAttrs_list PySem.F.slot_list_append PySem.F.type_list_append mt_append (pv 5) (pa_cons (pv 7) pa_nil)))) pss_nil)
      (pss_one (ps_if (pt_val (pv 8)) (pss_one (ps_expr (pe_bm PySem.F.plainAttrs_list PySem.F.slot_list_append PySem.F.type_list_append mt_append (pv 6) (pa_cons (pe_ix ix_tup (pv 7) pe_int (fun _ _ => rfl)) pa_nil)))) pss_nil)))))
      (pss_one (ps_ret (pv 5))))), ?_⟩
  refine st_seq ?_
  refine ⟨(show 0 ≤ sizeLine by decide), fun D nD => ?_⟩
  refine ⟨(show 0 ≤ sizeLine by decide), fun G nG => ?_⟩
  refine ⟨_, _, rfl, ?_⟩
  have sA : Same H (upd H D (.lst [])) := same_new nD
  have eD : (upd H D (.lst [])) D = some (.lst []) := upd_same
  have nGD : G ≠ D := (ne_of_none eD nG).symm
  have nGH : H G = none := by
    cases z : H G with
    | none => rfl
    | some o =>
      rw [sA _ _ z] at nG
      cases nG
  have sB : Same H (upd (upd H D (.lst [])) G (.lst [])) := sA.trans (same_new nG)
  have eDB : (upd (upd H D (.lst [])) G (.lst [])) D = some (.lst []) := same_new nG _ _ eD
  have eGB : (upd (upd H D (.lst [])) G (.lst [])) G = some (.lst []) := upd_same
  generalize upd (upd H D (.lst [])) G (.lst []) = H1 at sB eDB eGB
  dsimp only [gName]
  refine st_seq ?_
  refine ⟨_, rfl, L, rfl, ⟨_, SqL.of (sB _ _ eL)⟩, ?_⟩
  refine for_list (K := K) (a := L) (xs := ps.map V.ref) (fun i σ H' => (∃ y7 y8, σ = [some (.ref L), some (.ref l), some (.ref F), some (onV o), some (.int s), some (.ref D), some (.ref G), y7, y8]) ∧ Same H H' ∧ ∃ (qs : List Addr) (ss : List Vr) (ks : List Str), H' D = some (.lst (qs.map V.ref)) ∧ H' G = some (.lst (ks.map V.str)) ∧ Paired (VrT H) qs ss ∧ qs.length ≤ i ∧ ks.length ≤ i ∧ oneE (seenB fs c xs s o) rs [] = ss ++ oneE (seenB fs c xs s o) (rs.drop i) ks)
    ⟨⟨none, none, rfl⟩, sB, [], [], [], eDB, eGB, .nil, Nat.le_refl _, Nat.le_refl _, rfl⟩ (fun i σ H' _ hP => ?_) (fun i v σ H2 hv hP => ?_) (fun σ H2 hP => ?_)
  · exact SqL.of (hP.2.1 _ _ eL)
  · obtain ⟨⟨y7, y8, rfl⟩, s2, qs, ss, ks, eD2, eG2, hq, lq, lk, he⟩ := hP
    have hil : i < ps.length := by
      have z := (List.getElem?_eq_some_iff.mp hv).1
      rw [List.length_map] at z
      exact z
    rw [List.getElem?_map, List.getElem?_eq_getElem hil] at hv
    cases hv
    have hir : i < rs.length := by omega
    have hpi : VrT H ps[i] rs[i] := paired_at hp hil hir
    have hv2 : SqT K H2 ps[i] [.str rs[i].k, rs[i].w, onV rs[i].m, onV rs[i].e] := SqT.of (s2 _ _ hpi)
    obtain ⟨cm, ce⟩ := hc rs[i] (List.getElem_mem hir)
    rw [oneE_at hir] at he
    refine st_seq ?_
    refine ⟨_, rfl, _, rfl, _, rfl, _, rfl, _, rfl, ps[i], l, F, _, _, rs[i].m, rs[i].e, o, c, xs, s, fs, rfl, hv2, hl.same s2, hF.same s2, nd, cm, ce, s0, s1, fun H3 s3 => ?_⟩
    refine ⟨rfl, ?_⟩
    have s23 : Same H H3 := s2.trans s3
    have eD3 := s3 _ _ eD2
    have eG3 := s3 _ _ eG2
    have hv3 := sqT_same s3 hv2
    have lqs := paired_len hq
    change _ at he
    cases hb : seenB fs c xs s o rs[i] with
    | false =>
      have hb2 : decide (V.str (stt fs c xs s o rs[i].m rs[i].e) = V.str "seen") = false := hb
      rw [hb, if_neg Bool.false_ne_true] at he
      rw [hb2]
      dsimp only [gName]
      refine st_seq ?_
      refine ⟨_, rfl, _, rfl, ?_⟩
      refine iteT (iteT ?_)
      refine ⟨_, rfl, .inl ⟨rfl, _, SqL.of eD3⟩, _, rfl, ?_⟩
      refine ⟨D, _, _, rfl, rfl, eD3, ?_, ?_⟩
      · rw [List.length_map]
        exact small1000 (by omega)
      refine ⟨_, rfl, _, rfl, ?_⟩
      refine iteF ?_
      refine ⟨⟨_, _, rfl⟩, same_mut s23 nD, qs ++ [ps[i]], ss ++ [rs[i]], ks, ?_, ?_, paired_app hq (.cons hpi .nil), ?_, by omega, ?_⟩
      · rw [upd_same, List.map_append]
        rfl
      · rw [upd_ne nGD]
        exact eG3
      · rw [List.length_append]
        show qs.length + 1 ≤ i + 1
        omega
      · rw [he, List.append_assoc]
        rfl
    | true =>
      have hb2 : decide (V.str (stt fs c xs s o rs[i].m rs[i].e) = V.str "seen") = true := hb
      rw [hb, if_pos rfl] at he
      rw [hb2]
      dsimp only [gName]
      refine st_seq ?_
      refine ⟨_, rfl, _, rfl, ?_⟩
      refine iteF ?_
      refine ⟨_, rfl, ps[i], _, 0, .str rs[i].k, rfl, rfl, hv3, rfl, _, rfl, G, _, rfl, .inl (SqL.of eG3), rfl, flat_strs _, !decide (rs[i].k ∈ ks), ?_, ?_⟩
      · show V.bl (!inV (.str rs[i].k) (ks.map V.str)) = _
        rw [inV_str]
      refine ite2 (fun y => ?_) (fun y => ?_)
      · have y2 : rs[i].k ∉ ks := by
          intro hm
          rw [decide_eq_true hm] at y
          cases y
        rw [if_neg y2] at he
        refine ⟨_, rfl, .inl ⟨rfl, _, SqL.of eD3⟩, _, rfl, ?_⟩
        refine ⟨D, _, _, rfl, rfl, eD3, ?_, ?_⟩
        · rw [List.length_map]
          exact small1000 (by omega)
        have s24 := same_mut (o := .lst (qs.map V.ref ++ [V.ref ps[i]])) s23 nD
        have eG4 : (upd H3 D (.lst (qs.map V.ref ++ [V.ref ps[i]]))) G = some (.lst (ks.map V.str)) := by
          rw [upd_ne nGD]
          exact eG3
        have hv4 : SqT K (upd H3 D (.lst (qs.map V.ref ++ [V.ref ps[i]]))) ps[i] [.str rs[i].k, rs[i].w, onV rs[i].m, onV rs[i].e] := SqT.of (s24 _ _ hpi)
        refine ⟨_, rfl, _, rfl, ?_⟩
        refine iteT ?_
        refine ⟨_, rfl, .inl ⟨rfl, _, SqL.of eG4⟩, _, rfl, ps[i], _, 0, .str rs[i].k, rfl, rfl, hv4, rfl, ?_⟩
        refine ⟨G, _, _, rfl, rfl, eG4, ?_, ?_⟩
        · rw [List.length_map]
          exact small1000 (by omega)
        refine ⟨⟨_, _, rfl⟩, same_mut s24 nGH, qs ++ [ps[i]], ss ++ [rs[i]], ks ++ [rs[i].k], ?_, ?_, paired_app hq (.cons hpi .nil), ?_, ?_, ?_⟩
        · rw [upd_ne nGD.symm, upd_same, List.map_append]
          rfl
        · rw [upd_same, List.map_append]
          rfl
        · rw [List.length_append]
          show qs.length + 1 ≤ i + 1
          omega
        · rw [List.length_append]
          show ks.length + 1 ≤ i + 1
          omega
        · rw [he, List.append_assoc]
          rfl
      · have y2 : rs[i].k ∈ ks := by
          by_cases z : rs[i].k ∈ ks
          · exact z
          · rw [decide_eq_false z] at y
            exact absurd rfl y
        rw [if_pos y2] at he
        dsimp only [tNext]
        refine ⟨_, rfl, _, rfl, ?_⟩
        refine iteT ?_
        refine ⟨_, rfl, .inl ⟨rfl, _, SqL.of eG3⟩, _, rfl, ps[i], _, 0, .str rs[i].k, rfl, rfl, hv3, rfl, ?_⟩
        refine ⟨G, _, _, rfl, rfl, eG3, ?_, ?_⟩
        · rw [List.length_map]
          exact small1000 (by omega)
        refine ⟨⟨_, _, rfl⟩, same_mut s23 nGH, qs, ss, ks ++ [rs[i].k], ?_, ?_, hq, by omega, ?_, he⟩
        · rw [upd_ne nGD.symm]
          exact eD3
        · rw [upd_same, List.map_append]
          rfl
        · rw [List.length_append]
          show ks.length + 1 ≤ i + 1
          omega
  · obtain ⟨⟨y7, y8, rfl⟩, s2, qs, ss, ks, eD2, eG2, hq, lq, lk, he⟩ := hP
    rw [List.length_map, lps, List.drop_length] at he
    have he2 : oneE (seenB fs c xs s o) rs [] = ss := by
      rw [he]
      exact List.append_nil _
    dsimp only [gName]
    refine ⟨_, rfl, ?_⟩
    exact q D qs _ nD eD2 (he2 ▸ hq) s2
end
section
variable {P : Program} {w : World} {K : PySem.W.Frag} {mg : Str → Option Value} {base : Heap}
theorem noPart_ev {σ : L2.St} {H : Hp} {R : Option Int → Hp → Prop} (h : R none H) : tNoPart σ H R := h
theorem ok_lstate (T : Tx K mg) (c_l_is_done : C8.Cal P w K mg base 1 "_law_is_done" (spSees K) []) : BodyOk P w K mg base "_law_state" s_l_state N_l_state 1 (spSt K) := by
  intro f cdv A outer s H vs Q E hr h
  obtain ⟨v, l, F, k, wv, m, e, o, c, xs, s, fs, rfl, hv, hl, hF, hnd, hcm, hce, s0, s1, q⟩ := h
  refine ⟨_, (pss_cons (ps_asg (pe_slice sl_tupA (pv 0) (po_some pe_int) po_none) (pg_tup rfl (pgs_cons (pg_name (i := 5) sc_l_state.nd rfl (Or.inl rfl)) (pgs_cons (pg_name (i := 6) sc_l_state.nd rfl (Or.inl rfl)) pgs_nil))))
      (pss_cons (ps_set (i := 7) sc_l_state.nd rfl (Or.inl rfl) (pe_callTy (call_dictP rfl) (gl_of gl_l_state_dict) T.dict bt_dict (pa_cons (pe_callTy call_list_of (gl_of gl_l_state_list) T.list bt_list (pa_cons (pv 2) pa_nil)) pa_nil)))
      (pss_cons (ps_if (pt_cmpR op_notN (pv 5) pe_non (nomark _)) (pss_cons (ps_set (i := 8) sc_l_state.nd rfl (Or.inl rfl) (pe_dget (hu_of hr) (pv 7) (pv 5) (fun _ _ => rfl)))
      (pss_cons (ps_if (pt_cmpR op_eq (pv 8) pe_str (nomark _)) (pss_one (ps_ret pe_str)) pss_nil)
      (pss_cons (ps_if (PW.pt (pw_and (pt_cmpR op_eq (pv 8) pe_str (nomark _)) (pw_and1 (PW.pt (pw_or (pt_cmpR op_isN (pv 3) pe_non (nomark _)) (pw_or1 (pt_cmpR op_ne (pv 5) (pv 3) (nomark _)))))))) (pss_one (ps_ret pe_str)) pss_nil)
      (pss_one (ps_if (PW.pt (pw_and (pt_cmpR op_eq (pv 8) pe_str (nomark _)) (pw_and1 (pt_not (pt_val (C8.pe_c c_l_is_done hr (by decide) (gl_of gl_l_state_l_is_done) (pa_cons (pv 1) (pa_cons (pv 5) (pa_cons (pv 8) (pa_cons (pv 4) pa_nil)))))))))) (pss_one (ps_ret pe_str)) pss_nil))))) pss_nil)
      (pss_cons (ps_if (pt_cmpR op_isN (pv 6) pe_non (nomark _)) (pss_one (ps_ret pe_str)) pss_nil)
      (pss_one (ps_ret (pe_ifExp (PW.pt (pw_or (pt_cmpR op_eq (pv 6) (pv 3) (nomark _)) (pw_or1 (pt_val (C8.pe_c c_l_is_done hr (by decide) (gl_of gl_l_state_l_is_done) (pa_cons (pv 1) (pa_cons (pv 6) (pa_cons (pe_dget (hu_of hr) (pv 7) (pv 6) (fun _ _ => rfl)) (pa_cons (pv 4) pa_nil))))))))) pe_str pe_str))))))), ?_⟩
  refine st_seq ?_
  refine ⟨_, rfl, 2, rfl, ?_⟩
  refine noPart_ev ?_
  refine slA_ev hv (fun cc H s' hcc => ?_)
  have hcc : SqT K H cc [onV m, onV e] := hcc
  have hv := sqT_same s' hv
  have hl := hl.same s'
  obtain ⟨ob, ps, h1, h2, h3⟩ := hF.same s'
  have q := fun H'' z => q H'' (s'.trans z)
  refine ⟨cc, _, rfl, hcc, rfl, _, _, rfl, _, _, rfl, rfl, ?_⟩
  try dsimp only
  refine st_seq ?_
  refine ⟨_, rfl, F, _, rfl, .inr (.inl (.inr ⟨ob, h1⟩)), fun l0 nl => ?_⟩
  have sl : Same H (upd H l0 (.lst (ps.map V.ref))) := same_new nl
  have el : (upd H l0 (.lst (ps.map V.ref))) l0 = some (.lst (ps.map V.ref)) := upd_same
  generalize upd H l0 (.lst (ps.map V.ref)) = H1 at sl el
  refine ⟨l0, ps, dk fs, rfl, SqL.of el, paired_dk (paired_mono (fun _ _ z => sqT_same sl z) h3), fun d nd => ?_⟩
  rw [merge_dk hnd]
  have sd : Same H (upd H1 d (.dK (dk fs))) := sl.trans (same_new nd)
  have hd : (upd H1 d (.dK (dk fs))) d = some (.dK (dk fs)) := upd_same
  generalize upd H1 d (.dK (dk fs)) = H2 at sd hd
  have hl2 := hl.same sd
  unfold stt at q
  try dsimp only [gName]
  -- the end
  have fin : ∀ (D : Ends) (σ : L2.St), σ.length = 11 → True := fun _ _ _ => trivial
  refine st_seq ?_
  refine if_join (J := fun σ' H' => H' = H2 ∧ (∃ y10, σ' = [some (.ref v), some (.ref l), some (.ref F), some (onV o), some (.int s), some (onV m), some (onV e), some (.ref d), y10]) ∧ Q (.str (if (!decide (onV e = .non) && (decide (onV e = onV o) || donX fs c xs s e)) = true then "cut" else "seen")) H2) (fun N hN => ?_) (fun σ' H' hJ => ?_)
  · cases m with
    | none =>
      refine ⟨_, rfl, rfl, _, rfl, iteF ?_⟩
      exact hN _ _ ⟨rfl, ⟨_, rfl⟩, q _ sd⟩
    | some i =>
      obtain ⟨z, hz⟩ := hcm i rfl
      have hg : DGet H2 d (.int i) (some (.str z)) := by
        have y := DGet.k (k := (Sum.inl i : Key)) hd
        rw [val_dk, show ((fs.find? fun p => decide (p.1 = i)).map (·.2)) = fte fs (some i) from rfl, hz] at y
        exact y
      refine ⟨_, rfl, rfl, _, rfl, iteT ?_⟩
      try dsimp only
      refine st_seq ?_
      refine ⟨_, rfl, _, rfl, d, _, rfl, hg, ?_⟩
      have es : ∀ y : Str, isS (fte fs (some i)) y = decide (V.str z = V.str y) := fun y => by
        rw [hz]
        rfl
      have e1 : donX fs c xs s (some i) = don z c xs i s := donX_some hz
      rw [es, es, es, e1] at q
      try dsimp only [gName]
      refine st_seq ?_
      refine st_ifA (decide (V.str z = V.str "fell")) (fun Q' q' => ⟨_, rfl, rfl, _, rfl, q'⟩) (fun b1 => ?_) (fun b1 => ?_)
      · rw [b1, if_pos rfl] at q
        exact q _ sd
      rw [b1, if_neg Bool.false_ne_true] at q
      refine st_next ?_
      try dsimp only
      refine st_seq ?_
      refine st_ifA (decide (V.str z = V.str "open") && !decide (onV (some i) = onV o)) (fun Q' q' => ?_) (fun b2 => ?_) (fun b2 => ?_)
      · refine ⟨_, rfl, rfl, _, rfl, ite2 (fun y => ?_) (fun y => ?_)⟩
        · rw [y, Bool.true_and] at q'
          cases o with
          | none => exact ⟨_, rfl, rfl, _, rfl, iteT q'⟩
          | some j => exact ⟨_, rfl, rfl, _, rfl, iteF ⟨_, rfl, _, rfl, rfl, _, rfl, q'⟩⟩
        · rw [Bool.eq_false_iff.mpr y, Bool.false_and] at q'
          exact q'
      · rw [b2, if_pos rfl] at q
        exact q _ sd
      rw [b2, if_neg Bool.false_ne_true] at q
      refine st_next ?_
      try dsimp only
      refine st_ifA (decide (V.str z = V.str "done") && !don z c xs i s) (fun Q' q' => ?_) (fun b3 => ?_) (fun b3 => ?_)
      · refine ⟨_, rfl, rfl, _, rfl, ite2 (fun y => ?_) (fun y => ?_)⟩
        · rw [y, Bool.true_and] at q'
          exact ⟨_, rfl, _, rfl, _, rfl, _, rfl, l, c, xs, i, z, s, rfl, hl2, s0, s1, _, rfl, q'⟩
        · rw [Bool.eq_false_iff.mpr y, Bool.false_and] at q'
          exact q'
      · rw [b3, if_pos rfl] at q
        exact q _ sd
      rw [b3, if_neg Bool.false_ne_true] at q
      exact hN _ _ ⟨rfl, ⟨_, rfl⟩, q _ sd⟩
  · obtain ⟨rfl, ⟨y10, rfl⟩, q2⟩ := hJ
    try dsimp only
    refine st_seq ?_
    cases e with
    | none =>
      refine ⟨_, rfl, rfl, _, rfl, iteT ?_⟩
      exact q2
    | some i =>
      obtain ⟨z, hz⟩ := hce i rfl
      have hg : DGet H' d (.int i) (some (.str z)) := by
        have y := DGet.k (k := (Sum.inl i : Key)) hd
        rw [val_dk, show ((fs.find? fun p => decide (p.1 = i)).map (·.2)) = fte fs (some i) from rfl, hz] at y
        exact y
      have e1 : donX fs c xs s (some i) = don z c xs i s := donX_some hz
      rw [e1] at q2
      have q3 : Q (.str (if (decide (onV (some i) = onV o) || don z c xs i s) = true then "cut" else "seen")) H' := q2
      refine ⟨_, rfl, rfl, _, rfl, iteF ?_⟩
      refine ⟨_, rfl, _, rfl, scal_on _ _, _, rfl, ite2 (fun y => ?_) (fun y => ?_)⟩
      · rw [y, Bool.true_or, if_pos rfl] at q3
        exact iteT q3
      · rw [Bool.eq_false_iff.mpr y, Bool.false_or] at q3
        refine ⟨_, rfl, _, rfl, _, rfl, _, rfl, d, _, rfl, hg, _, rfl, l, c, xs, i, z, s, rfl, hl2, s0, s1, _, rfl, ite2 (fun y2 => ?_) (fun y2 => ?_)⟩
        · rw [y2, if_pos rfl] at q3
          exact q3
        · rw [if_neg y2] at q3
          exact q3
/-- what shown tells -/
def Shn (H : Hp) (bs : List (Str × V)) (y : V) : Prop := ∃ (R : Addr) (qs : List Addr) (rows : List (Str × V)), y = .ref R ∧ H R = some (.tup (qs.map V.ref)) ∧ Paired (RwAt H) qs rows ∧ rows.Perm bs ∧ rows.Pairwise (fun x y => SrtW.ltS y.1 x.1 = false)
theorem Shn.same {H H' : Hp} {bs : List (Str × V)} {y : V} (h : Shn H bs y) (s : Same H H') : Shn H' bs y := by
  obtain ⟨R, qs, rows, e, e1, hp, pm, pw⟩ := h
  exact ⟨R, qs, rows, e, s _ _ e1, paired_mono (fun p r z => s _ _ z) hp, pm, pw⟩
theorem Shn.mut {H : Hp} {bs : List (Str × V)} {y : V} {L : Addr} {xs zs : List V} (h : Shn H bs y) (e : H L = some (.lst xs)) : Shn (upd H L (.lst zs)) bs y := by
  obtain ⟨R, qs, rows, ey, e1, hp, pm, pw⟩ := h
  refine ⟨R, qs, rows, ey, ?_, paired_mono (fun p r z => ?_) hp, pm, pw⟩
  · rw [upd_ne (ne_tl e1 e)]
    exact e1
  · have z2 : H p = _ := z
    show (upd H L _) p = _
    rw [upd_ne (ne_tl z2 e)]
    exact z2
theorem paired_rev {α β : Type} {R : α → β → Prop} : ∀ {as : List α} {bs : List β}, Paired R as bs → Paired R as.reverse bs.reverse
  | _, _, .nil => .nil
  | _, _, .cons h t => by
    rw [List.reverse_cons, List.reverse_cons]
    exact paired_app (paired_rev t) (.cons h .nil)
def spTold10 (K : PySem.W.Frag) : Sp := fun vs H Q _ => ∃ (a l F : Addr) (ps : List Addr) (rs : List Vr) (o : Option Int) (c : Int) (xs : List Int) (s : Int) (fs : List (Int × Str)), vs = [.ref a, .ref l, .ref F, onV o, .int s] ∧ SqT K H a (ps.map V.ref) ∧ Paired (VrAt K H) ps rs ∧ (∀ r ∈ rs, plainV r.w ∧ Cov fs r.e) ∧ rs.length ≤ 100 ∧ ((rs.filter (seenB fs c xs s o)).map Vr.k).Nodup ∧
  Lk K H l c xs ∧ Ft K H F fs ∧ (fs.map (·.1)).Nodup ∧ 0 < s ∧ s ≤ 1048576 ∧
  ∀ (L : Addr) (ys : List V) (H' : Hp), Same H H' → H' L = some (.lst ys) → ys.length ≤ 4 → (∀ y ∈ ys, Shn H' ((rs.filter (seenB fs c xs s o)).map kw) y) → Q (.ref L) H'
theorem ok_told10 (T : Tx K mg) (g_RING : ∃ u, mg "RING" = some u ∧ RelV (.int 64) u) (w_shown_ring_own : CalW P w K mg base 6 "shown" 3 ["ring", "own"] gRO (spSh K)) (w_shown_own_ring : CalW P w K mg base 6 "shown" 3 ["own", "ring"] gOR (spSh K)) (w_shown_ring : CalW P w K mg base 6 "shown" 3 ["ring"] gR (spSh K)) (w_shown_own : CalW P w K mg base 6 "shown" 3 ["own"] gO (spSh K)) : BodyOk P w K mg base "_law_told" s_l_told N_l_told 6 (spTold10 K) := by
  intro f cdv A outer s H vs Q E hr h
  obtain ⟨a, l, F, ps, rs, o, c, xs, s, fs, rfl, ha, hp, hw, lr, nd, hl, hF, fnd, s0, s1, q⟩ := h
  have lps := paired_len hp
  have hpS : ∀ H', Same H H' → Paired (VrAt K H') ps rs := fun H' z => paired_mono (fun p r y => sqT_same z y) hp
  refine ⟨_, (pss_cons (ps_set (i := 5) sc_l_told.nd rfl (Or.inl rfl) (pe_lst (pa_cons (pe_cw w_shown_own_ring hr (by decide) (gl_of gl_l_told_shown) (pa_cons (pv 0) (pa_cons (pv 1) (pa_cons (pv 2) pa_nil))) (pk_cons (pv 3) (pk_cons (pv 4) pk_nil))) (pa_cons (pe_cw w_shown_ring_own hr (by decide) (gl_of gl_l_told_shown) (pa_cons (RvT.pe_revT (pv 0)) (pa_cons (pv 1) (pa_cons (pv 2) pa_nil))) (pk_cons (pv 4) (pk_cons (pv 3) pk_nil))) pa_nil))))
      (pss_cons (ps_if (pt_cmpR op_isN (pv 3) pe_non (nomark _)) (pss_one (ps_expr (pe_bm PySem.F.plainAttrs_list PySem.F.slot_list_append PySem.F.type_list_append mt_append (pv 5) (pa_cons (pe_cw w_shown_ring hr (by decide) (gl_of gl_l_told_shown) (pa_cons (pv 0) (pa_cons (pv 1) (pa_cons (pv 2) pa_nil))) (pk_cons (pv 4) pk_nil)) pa_nil)))) pss_nil)
      (pss_cons (ps_if (pt_cmpR op_eq (pv 4) pe_int (nomark _)) (pss_one (ps_expr (pe_bm PySem.F.plainAttrs_list PySem.F.slot_list_append PySem.F.type_list_append mt_append (pv 5) (pa_cons (pe_cw w_shown_own hr (by decide) (gl_of gl_l_told_shown) (pa_cons (pv 0) (pa_cons (pv 1) (pa_cons (pv 2) pa_nil))) (pk_cons (pv 3) pk_nil)) pa_nil)))) pss_nil)
      (pss_one (ps_ret (pv 5)))))), ?_⟩
  refine st_seq ?_
  refine ⟨_, rfl, _, rfl, _, rfl, _, rfl, _, rfl, rfl, rfl, a, l, F, ps, rs, o, c, xs, s, fs, rfl, ha, hp, hw, lr, nd, hl, hF, fnd, s0, s1, fun R1 q1 r1 H1 z1 e1 p1 pm1 pw1 => ?_⟩
  have sh1 : Shn H1 ((rs.filter (seenB fs c xs s o)).map kw) (.ref R1) := ⟨R1, q1, r1, rfl, e1, p1, pm1, pw1⟩
  -- the versions the other way round
  refine ⟨_, rfl, a, _, rfl, sqT_same z1 ha, fun b nb => ?_⟩
  have s2 : Same H1 (upd H1 b (.tup (ps.map V.ref).reverse)) := same_new nb
  have eb : (upd H1 b (.tup (ps.map V.ref).reverse)) b = some (.tup (ps.reverse.map V.ref)) := by
    rw [upd_same, List.map_reverse]
  generalize upd H1 b (.tup (ps.map V.ref).reverse) = H2 at s2 eb
  have s02 : Same H H2 := z1.trans s2
  have pmR : ((rs.reverse.filter (seenB fs c xs s o)).map kw).Perm ((rs.filter (seenB fs c xs s o)).map kw) := ((List.reverse_perm rs).filter _).map _
  have ndR : ((rs.reverse.filter (seenB fs c xs s o)).map Vr.k).Nodup := (((List.reverse_perm rs).filter _).map _).nodup_iff.mpr nd
  refine ⟨_, rfl, _, rfl, _, rfl, _, rfl, rfl, rfl, b, l, F, ps.reverse, rs.reverse, o, c, xs, s, fs, rfl, SqT.of eb, paired_rev (hpS H2 s02), fun r hr => hw r (List.mem_reverse.mp hr), by rw [List.length_reverse]; exact lr, ndR, hl.same s02, hF.same s02, fnd, s0, s1, fun R2 q2 r2 H3 z3 e2 p2 pm2 pw2 => ?_⟩
  have sh2 : Shn H3 ((rs.filter (seenB fs c xs s o)).map kw) (.ref R2) := ⟨R2, q2, r2, rfl, e2, p2, pm2.trans pmR, pw2⟩
  refine ⟨(show 2 ≤ sizeLine by decide), fun L nL => ?_⟩
  have eL : (upd H3 L (.lst [.ref R1, .ref R2])) L = some (.lst [.ref R1, .ref R2]) := upd_same
  have s4 : Same H3 (upd H3 L (.lst [.ref R1, .ref R2])) := same_new nL
  have s03 : Same H H3 := s02.trans z3
  have nLH : H L = none := by
    cases hq : H L with
    | none => rfl
    | some o =>
      rw [s03 _ _ hq] at nL
      cases nL
  have s04 := s03.trans s4
  have b1 := sh1.same (s2.trans (z3.trans s4))
  have b2 := sh2.same s4
  generalize upd H3 L (.lst [.ref R1, .ref R2]) = H4 at eL s4 s04 b1 b2
  generalize hB : (rs.filter (seenB fs c xs s o)).map kw = B at q b1 b2
  try dsimp only [gName]
  refine st_seq (if_join (J := fun σ' H' => σ' = [some (.ref a), some (.ref l), some (.ref F), some (onV o), some (.int s), some (.ref L)] ∧ Same H H' ∧ ∃ ys, H' L = some (.lst ys) ∧ ys.length ≤ 3 ∧ ∀ y ∈ ys, Shn H' B y) (fun N hN => ?_) (fun σ' H' hJ => ?_))
  · refine ⟨_, rfl, rfl, _, rfl, ite2 (fun z => ?_) (fun z => ?_)⟩
    · have ho : o = none := by
        cases o with
        | none => rfl
        | some i => cases z
      subst ho
      refine ⟨_, rfl, .inl ⟨rfl, _, SqL.of eL⟩, ?_⟩
      refine ⟨_, rfl, _, rfl, _, rfl, _, rfl, rfl, rfl, a, l, F, ps, rs, none, c, xs, s, fs, rfl, sqT_same s04 ha, hpS _ s04, hw, lr, nd, hl.same s04, hF.same s04, fnd, s0, s1, fun R5 q5 r5 H5 z5 e5 p5 pm5 pw5 => ?_⟩
      rw [hB] at pm5
      have b5 : Shn H5 B (.ref R5) := ⟨R5, q5, r5, rfl, e5, p5, pm5, pw5⟩
      have eL5 := z5 _ _ eL
      refine ⟨L, _, _, rfl, rfl, eL5, small1000 (show 2 ≤ 1000 by decide), hN _ _ ⟨rfl, same_mut (s04.trans z5) nLH, _, upd_same, (show 3 ≤ 3 by decide), fun y hy => ?_⟩⟩
      have hy2 : y ∈ [V.ref R1, V.ref R2, V.ref R5] := hy
      simp only [List.mem_cons, List.not_mem_nil, or_false] at hy2
      rcases hy2 with rfl | rfl | rfl
      · exact (b1.same z5).mut eL5
      · exact (b2.same z5).mut eL5
      · exact b5.mut eL5
    · refine hN _ _ ⟨rfl, s04, _, eL, (show 2 ≤ 3 by decide), fun y hy => ?_⟩
      simp only [List.mem_cons, List.not_mem_nil, or_false] at hy
      rcases hy with rfl | rfl
      · exact b1
      · exact b2
  · obtain ⟨rfl, s5, ys, eL5, lys, hys⟩ := hJ
    try dsimp only [gName]
    refine st_seq ?_
    refine ⟨_, rfl, rfl, _, rfl, ite2 (fun z => ?_) (fun z => ?_)⟩
    · have es : s = 64 := V.int.inj (of_decide_eq_true z)
      subst es
      refine ⟨_, rfl, .inl ⟨rfl, _, SqL.of eL5⟩, ?_⟩
      refine ⟨_, rfl, _, rfl, _, rfl, _, rfl, rfl, rfl, a, l, F, ps, rs, o, c, xs, 64, fs, rfl, sqT_same s5 ha, hpS _ s5, hw, lr, nd, hl.same s5, hF.same s5, fnd, s0, s1, fun R6 q6 r6 H6 z6 e6 p6 pm6 pw6 => ?_⟩
      rw [hB] at pm6
      have b6 : Shn H6 B (.ref R6) := ⟨R6, q6, r6, rfl, e6, p6, pm6, pw6⟩
      have eL6 := z6 _ _ eL5
      refine ⟨L, _, _, rfl, rfl, eL6, small1000 (by omega), ?_⟩
      refine ⟨_, rfl, q L (ys ++ [.ref R6]) _ (same_mut (s5.trans z6) nLH) upd_same ?_ fun y hy => ?_⟩
      · rw [List.length_append]
        show ys.length + 1 ≤ 4
        omega
      · rcases List.mem_append.mp hy with y1 | y1
        · exact ((hys y y1).same z6).mut eL6
        · rw [List.mem_singleton.mp y1]
          exact b6.mut eL6
    · exact ⟨_, rfl, q L ys _ s5 eL5 (by omega) hys⟩
end
/-! ### lists of small data -/
structure SmallA (m D : Nat) (ds : List PyData) : Prop where
  sh : PyData.showableAll ds = true
  nd : PyData.hasDictAll ds = false
  dp : PyData.depthAll ds ≤ D
  ls : PyData.leavesShortAll 20 ds = true
  wt : PyData.weightAll ds ≤ m
theorem SmallA.nil {m D : Nat} : SmallA m D [] := ⟨rfl, rfl, Nat.zero_le _, rfl, Nat.zero_le _⟩
theorem SmallA.cons {m a D : Nat} {d : PyData} {ds : List PyData} (h : Small a d) (hd : d.depth ≤ D) (t : SmallA m D ds) : SmallA (m + a + 2) D (d :: ds) := by
  refine ⟨?_, ?_, ?_, ?_, ?_⟩
  · simp only [PyData.showableAll, h.sh, t.sh, Bool.and_self]
  · simp only [PyData.hasDictAll, h.nd, t.nd, Bool.or_self]
  · have := t.dp
    simp only [PyData.depthAll]
    omega
  · simp only [PyData.leavesShortAll, h.ls, t.ls, Bool.and_self]
  · have := t.wt
    have := h.wt
    simp only [PyData.weightAll]
    omega
theorem SmallA.mono {m m' D : Nat} {ds : List PyData} (h : SmallA m D ds) (l : m ≤ m') : SmallA m' D ds := ⟨h.sh, h.nd, h.dp, h.ls, Nat.le_trans h.wt l⟩
theorem SmallA.all {a D : Nat} : ∀ {ds : List PyData}, (∀ d ∈ ds, Small a d ∧ d.depth ≤ D) → SmallA ((a + 2) * ds.length) D ds
  | [], _ => .nil
  | d :: ds, h => by
    have z := SmallA.all (ds := ds) fun x hx => h x (List.mem_cons_of_mem _ hx)
    have y := h d (List.mem_cons_self ..)
    refine (SmallA.cons y.1 y.2 z).mono ?_
    rw [List.length_cons, Nat.mul_add]
    omega
theorem SmallA.tup {m : Nat} {ds : List PyData} (h : SmallA m 2 ds) : Small m (.tuple ds) := by
  refine ⟨?_, ?_, ?_, ?_, ?_⟩
  · simp only [PyData.showable, h.sh]
  · simp only [PyData.hasDict, h.nd]
  · have := h.dp
    simp only [PyData.depth]
    omega
  · simp only [PyData.leavesShort, h.ls]
  · simp only [PyData.weight]
    exact h.wt
theorem dpAll_ints (K : PySem.W.Frag) (H : Hp) : ∀ ns : List Int, DpAll K H (ns.map V.int) (ns.map PyData.int)
  | [] => .nil
  | n :: ns => .cons (.int n) (dpAll_ints K H ns)
theorem ints_data {K : PySem.W.Frag} {H : Hp} {p : Addr} {ns : List Int} (h : SqT K H p (ns.map V.int)) (hb : ∀ x ∈ ns, x.natAbs < 2 ^ 62) (hl : ns.length ≤ 1000) : Dp K H (.ref p) (.tuple (ns.map PyData.int)) ∧ Small 66000 (.tuple (ns.map PyData.int)) := by
  refine ⟨.tup h (dpAll_ints K H ns), SmallA.tup (SmallA.mono (SmallA.all (a := 64) (D := 2) (ds := ns.map PyData.int) fun d hd => ?_) ?_)⟩
  · obtain ⟨x, hx, rfl⟩ := List.mem_map.mp hd
    have l := lf_int (hb x hx)
    exact ⟨l.small, by rw [l.dp]; decide⟩
  · rw [List.length_map]
    omega
/-! ### rows: their data, and that an order without equal keys is one alone -/
def wdOf : V → PyData
  | .int i => .int i
  | .str z => .str z
  | _ => .none
def rowD (r : Str × V) : PyData := .tuple [.str r.1, wdOf r.2]
theorem lf_wd {v : V} {d : PyData} (l : Lf v d) (p : plainV v) : Lf v (wdOf v) := by
  rcases p with ⟨i, rfl⟩ | ⟨z, rfl⟩
  · have h := l.at_ [] (fun _ => none)
    cases h
    exact l
  · have h := l.at_ [] (fun _ => none)
    cases h
    exact l
theorem str_ext {a b : Str} (h : a.cps.toList = b.cps.toList) : a = b := by
  cases a
  cases b
  exact congrArg Str.mk (Array.ext' h)
theorem rows_uniq : ∀ {as cs : List (Str × V)}, as.Perm cs → (as.map (·.1)).Nodup → as.Pairwise (fun x y => SrtW.ltS y.1 x.1 = false) → cs.Pairwise (fun x y => SrtW.ltS y.1 x.1 = false) → as = cs
  | [], _, h, _, _, _ => (h.symm.eq_nil).symm
  | _ :: _, [], h, _, _, _ => by cases h.eq_nil
  | x :: as, y :: cs, h, nd, pa, pc => by
    have e : x = y := by
      by_cases z : x = y
      · exact z
      · have hx : x ∈ cs := by
          rcases List.mem_cons.mp (h.mem_iff.mp (List.mem_cons_self ..)) with q | q
          · exact absurd q z
          · exact q
        have hy : y ∈ as := by
          rcases List.mem_cons.mp (h.mem_iff.mpr (List.mem_cons_self ..)) with q | q
          · exact absurd q.symm z
          · exact q
        have h1 := List.not_lt.mp (of_decide_eq_false ((List.pairwise_cons.mp pa).1 y hy))
        have h2 := List.not_lt.mp (of_decide_eq_false ((List.pairwise_cons.mp pc).1 x hx))
        have e2 : x.1 = y.1 := str_ext (List.le_antisymm h1 h2)
        have hm : x.1 ∈ as.map (·.1) := by
          rw [e2]
          exact List.mem_map_of_mem hy
        exact absurd hm (List.nodup_cons.mp nd).1
    subst e
    rw [rows_uniq (List.Perm.cons_inv h) (List.nodup_cons.mp nd).2 (List.pairwise_cons.mp pa).2 (List.pairwise_cons.mp pc).2]
def RwOk (r : Str × V) : Prop := Lf (.str r.1) (.str r.1) ∧ Lf r.2 (wdOf r.2)
def RwT (K : PySem.W.Frag) (H : Hp) (q : Addr) (r : Str × V) : Prop := SqT K H q [.str r.1, r.2]
theorem dpAll_rows {K : PySem.W.Frag} {H : Hp} : ∀ {qs : List Addr} {rows : List (Str × V)}, Paired (RwT K H) qs rows → (∀ r ∈ rows, RwOk r) → DpAll K H (qs.map V.ref) (rows.map rowD)
  | _, _, .nil, _ => .nil
  | _, _, .cons h t, ok => .cons (.tup h (.cons ((ok _ (List.mem_cons_self ..)).1.at_ K H) (.cons ((ok _ (List.mem_cons_self ..)).2.at_ K H) .nil))) (dpAll_rows t fun r hr => ok r (List.mem_cons_of_mem _ hr))
theorem small_row {r : Str × V} (h : RwOk r) : Small 140 (rowD r) ∧ (rowD r).depth ≤ 2 := by
  obtain ⟨l1, l2⟩ := h
  have z : SmallA 136 0 [.str r.1, wdOf r.2] := (SmallA.cons l1.small (by rw [l1.dp]; decide) (SmallA.cons l2.small (by rw [l2.dp]; decide) (SmallA.nil (m := 0)))).mono (by decide)
  have z2 : SmallA 136 2 [.str r.1, wdOf r.2] := ⟨z.sh, z.nd, Nat.le_trans z.dp (by decide), z.ls, z.wt⟩
  have z3 := SmallA.tup z2
  refine ⟨⟨z3.sh, z3.nd, z3.dp, z3.ls, Nat.le_trans z3.wt (by decide)⟩, ?_⟩
  have := z.dp
  unfold rowD
  simp only [PyData.depth]
  omega
theorem rows_data {K : PySem.W.Frag} {H : Hp} {R : Addr} {qs : List Addr} {rows : List (Str × V)} (h : SqT K H R (qs.map V.ref)) (hp : Paired (RwT K H) qs rows) (ok : ∀ r ∈ rows, RwOk r) (hl : rows.length ≤ 100) : Dp K H (.ref R) (.tuple (rows.map rowD)) ∧ Small 20000 (.tuple (rows.map rowD)) := by
  refine ⟨.tup h (dpAll_rows hp ok), SmallA.tup (SmallA.mono (SmallA.all (a := 140) (D := 2) fun d hd => ?_) ?_)⟩
  · obtain ⟨r, hr, rfl⟩ := List.mem_map.mp hd
    exact small_row (ok r hr)
  · rw [List.length_map]
    omega
/-! ### the table of the law's lambda -/
abbrev tl (P : Addr) : List (Addr × Str) := [(P, ("law" : Str) ++ ".<locals>." ++ "<lambda>")]
theorem tl_uniq (P : Addr) : ∀ p ∈ tl P, p.1 = P → p.2 = ("law" : Str) ++ ".<locals>." ++ "<lambda>" := fun p hp _ => by
  rw [List.mem_singleton.mp hp]
theorem Tabs.fr {T : List (Addr × Str)} {h : Addr} {n : Nat} {H H' : Hp} (q : HS h n H) (f : Fr h H H') (t : LamX.Tabs T H) : LamX.Tabs T H' := fun p hp => by
  obtain ⟨g, b, c, eh, _⟩ := q
  obtain ⟨ps, h1, h2, h3⟩ := t p hp
  refine ⟨ps, f _ _ (fun z => ?_) h1, h2, fun pos cv hc => ?_⟩
  · rw [z, eh] at h1
    cases h1
  · obtain ⟨c0, e1, e2⟩ := h3 pos cv hc
    refine ⟨c0, e1, f _ _ (fun z => ?_) e2⟩
    rw [z, eh] at e2
    unfold LamX.CodeO at e2
    cases e2
theorem Tabs.same {T : List (Addr × Str)} {H H' : Hp} (s : Same H H') (t : LamX.Tabs T H) : LamX.Tabs T H' := t.ext s
theorem extN_same {H H' : Hp} (s : Same H H') : LamX.ExtN H H' := LamX.ExtN.of s
/-- the script beside the hand p -/
def ScA (K : PySem.W.Frag) (a p : Addr) (xs : List V) (H : Hp) : Prop := (a ≠ p ∧ SqL K H a xs) ∨ ∀ H', SqL K H' a xs
theorem ScA.at {K : PySem.W.Frag} {a p : Addr} {xs : List V} {H : Hp} (h : ScA K a p xs H) : SqL K H a xs := h.elim (·.2) (· H)
theorem ScA.new {K : PySem.W.Frag} {a p : Addr} {xs : List V} {H H' : Hp} (h : SqL K H a xs) (np : H p = none) (f : Fr p H H') : ScA K a p xs H' := by
  rcases h with (h | ⟨o, h⟩) | h
  · exact .inl ⟨ne_of_none h np, .inl (.inl (f _ _ (ne_of_none h np) h))⟩
  · exact .inl ⟨ne_of_none h np, .inl (.inr ⟨o, f _ _ (ne_of_none h np) h⟩)⟩
  · exact .inr fun _ => .inr h
theorem ScA.fr {K : PySem.W.Frag} {a p : Addr} {xs : List V} {H H' : Hp} (h : ScA K a p xs H) (f : Fr p H H') : ScA K a p xs H' := h.imp (fun z => ⟨z.1, f.seq z.1 z.2⟩) id
theorem ScA.extN {K : PySem.W.Frag} {a p : Addr} {xs : List V} {H H' : Hp} (h : ScA K a p xs H) (f : LamX.ExtN H H') : ScA K a p xs H' := h.imp (fun z => ⟨z.1, LamK.sqL_extN f z.2⟩) id
theorem HS.extN {h : Addr} {n : Nat} {H H' : Hp} (q : HS h n H) (f : LamX.ExtN H H') : HS h n H' := by
  obtain ⟨g, b, c, e, r⟩ := q
  exact ⟨g, b, c, f _ _ e (fun ps z => by cases z), r⟩
def spLawT (K : PySem.W.Frag) (PT : Addr) : Sp := fun vs H Q _ => ∃ (a : Addr) (ns : List Int), vs = [.ref a] ∧ SqL K H a (ns.map V.int) ∧ ns.length ≤ 63 ∧ LamX.Tabs (tl PT) H ∧ ∀ H', Q (.bl true) H'
/-- the law's body, its own code object told -/
def BodyAtC (P : Program) (w : World) (K : PySem.W.Frag) (mg : Str → Option Value) (base : Heap) (x : Str) (st : Stmt) (N : List Str) (k : Nat) (cc : Addr) (sp : Sp) : Prop :=
  ∀ (f : Addr) (s : Shared) (H : Hp) (vs : List V) (Q : VK) (E : XK), Room k (callerA.deeper (envOfC x (defScope st) s.heap.objs.size f (.ref cc))) → sp vs H Q E →
      ∃ t, PSs (cxOf CX0 P w K mg base N x (defScope st) f (.ref cc) callerA [] s H E).nox (defBody st) t ∧ t { nx := fun _ H' => Q .non H', rt := Q } (start N vs) H

def kwOf (H : Hp) (q : Addr) : Str × V := match H q with
  | some (.tup (.str z :: w :: _)) => (z, w)
  | _ => ("", .non)
theorem kwOf_at {H : Hp} {q : Addr} {r : Vr} (h : VrT H q r) : kwOf H q = kw r := by
  unfold VrT at h
  unfold kwOf
  rw [h]
  rfl
theorem kwOf_all {H : Hp} : ∀ {qs : List Addr} {rs : List Vr}, Paired (VrT H) qs rs → qs.map (kwOf H) = rs.map kw
  | _, _, .nil => rfl
  | _, _, .cons h t => by
    rw [List.map_cons, List.map_cons, kwOf_at h, kwOf_all t]
theorem oneE_len (sn : Vr → Bool) : ∀ (rs : List Vr) (ks : List Str), (oneE sn rs ks).length ≤ rs.length
  | [], _ => Nat.le_refl _
  | r :: rs, ks => by
    unfold oneE
    have h1 := oneE_len sn rs (ks ++ [r.k])
    have h2 := oneE_len sn rs ks
    split
    · split
      · rw [List.length_cons]
        omega
      · rw [List.length_cons, List.length_cons]
        omega
    · rw [List.length_cons, List.length_cons]
      omega
section
variable {P : Program} {w : World} {K : PySem.W.Frag} {mg : Str → Option Value} {base : Heap}
theorem paired_ref {R : Addr → Vr → Prop} {as : List Addr} {rs : List Vr} {j : Nat} {v : V} (h : Paired R as rs) (e : (as.map V.ref)[j]? = some v) : ∃ (h1 : j < as.length) (h2 : j < rs.length), v = .ref as[j] ∧ R as[j] rs[j] := by
  have hl := paired_len h
  have h1 : j < as.length := by
    have z := (List.getElem?_eq_some_iff.mp e).1
    rw [List.length_map] at z
    exact z
  refine ⟨h1, by omega, ?_, paired_at h h1 (by omega)⟩
  rw [List.getElem?_map, List.getElem?_eq_getElem h1] at e
  exact (Option.some.inj e).symm
theorem take_map {α β : Type} (g : α → β) {rs : List α} {j : Nat} (h : j < rs.length) : (rs.take (j + 1)).map g = (rs.take j).map g ++ [g rs[j]] := by
  rw [List.take_succ_eq_append_getElem h, List.map_append]
  rfl
theorem ok_law10 {cc PT : Addr} (T : Tx K mg) (TB : LamX.TabB base mg cc PT) (c_l_hand : C8.Cal P w K mg base 1 "_law_hand" (spHand K) []) (c_l_of : C8.Cal P w K mg base 2 "_law_of" (spOf2 K) []) (c_l_size : C8.Cal P w K mg base 3 "_law_size" spSize []) (c_l_look : C8.Cal P w K mg base 3 "_law_look" (spLook K) []) (c_l_versions : C8.Cal P w K mg base 4 "_law_versions" (spVers K) [])
    (c_l_fates : C8.Cal P w K mg base 3 "_law_fates" (spFates K) []) (c_l_one_each : C8.Cal P w K mg base 3 "_law_one_each" (spOneE K) []) (c_l_state : C8.Cal P w K mg base 2 "_law_state" (spSt K) []) (c_l_told : C8.Cal P w K mg base 7 "_law_told" (spTold10 K) []) : BodyAtC P w K mg base "law" s_law N_law 7 cc (spLawT K PT) := by
  intro f s H vs Q E hr h
  obtain ⟨a, ns, rfl, hS, hl, hT0, q⟩ := h
  refine ⟨_, (pss_cons (ps_for PassesOwn.never rfl (pi_range1 (by rfl) T.range (pa_cons (pe_callB (call_max2 rfl) (gl_of gl_law_max) T.max bb_max (pa_cons pe_int (pa_cons (pe_callB (call_min2 rfl) (gl_of gl_law_min) T.min bb_min (pa_cons pe_int (pa_cons (pe_callB call_len_seq (gl_of gl_law_len) T.len bb_len (pa_cons (pv 0) pa_nil)) pa_nil))) pa_nil))) pa_nil)) (pg_name (i := 1) sc_law.nd rfl (Or.inl rfl)) (pss_cons (ps_set (i := 2) sc_law.nd rfl (Or.inl rfl) (C8.pe_c c_l_hand hr (by decide) (gl_of gl_law_l_hand) (pa_cons (pv 0) (pa_cons (pv 1) pa_nil))))
      (pss_cons (ps_asg (pe_tup (pa_cons (C8.pe_c c_l_of hr (by decide) (gl_of gl_law_l_of) (pa_cons (pv 2) (pa_cons (pe_lst (pa_cons pe_int (pa_cons pe_int (pa_cons pe_int (pa_cons pe_int (pa_cons pe_int (pa_cons pe_int pa_nil))))))) pa_nil))) (pa_cons (C8.pe_c c_l_size hr (by decide) (gl_of gl_law_l_size) (pa_cons (pv 2) pa_nil)) pa_nil))) (pg_tup rfl (pgs_cons (pg_name (i := 3) sc_law.nd rfl (Or.inl rfl)) (pgs_cons (pg_name (i := 4) sc_law.nd rfl (Or.inr rfl)) pgs_nil))))
      (pss_one (ps_for PassesOwn.never rfl (pi_range1 (by rfl) T.range (pa_cons pe_int pa_nil)) (pg_name (i := 5) sc_law.nd rfl (Or.inl rfl)) (pss_cons (ps_set (i := 6) sc_law.nd rfl (Or.inr rfl) (C8.pe_c c_l_look hr (by decide) (gl_of gl_law_l_look) (pa_cons (pv 2) (pa_cons (pv 4) pa_nil))))
      (pss_cons (ps_set (i := 7) sc_law.nd rfl (Or.inl rfl) (C8.pe_c c_l_versions hr (by decide) (gl_of gl_law_l_versions) (pa_cons (pv 2) (pa_cons (pv 6) (pa_cons (pv 4) (pa_cons (pv 3) pa_nil))))))
      (pss_cons (ps_set (i := 8) sc_law.nd rfl (Or.inl rfl) (pe_op op_cat (pe_lc (own := [("_law_version", 13)]) (g := gName 13) (tt := tYes) rfl sc_law.nd (pi_list (pv 7)) (blkOk_by (own := [("_law_version", 13)]) (N := N_law) (sc := defScope s_law) (by decide +kernel)) (fun _ _ _ _ _ => pg_name (i := 13) sc_law.nd rfl (Or.inl rfl)) (fun _ _ _ _ _ => pts_nil) (fun _ _ _ _ _ => (pe_ix (ix_tupK (K1 := K) rfl) (pv 13) pe_int (fun _ _ => rfl)))) (pe_lc (own := [("_law_version", 13)]) (g := gName 13) (tt := tYes) rfl sc_law.nd (pi_list (pv 7)) (blkOk_by (own := [("_law_version", 13)]) (N := N_law) (sc := defScope s_law) (by decide +kernel)) (fun _ _ _ _ _ => pg_name (i := 13) sc_law.nd rfl (Or.inl rfl)) (fun _ _ _ _ _ => pts_nil) (fun _ _ _ _ _ => (pe_ix (ix_tupK (K1 := K) rfl) (pv 13) pe_int (fun _ _ => rfl))))))
      (pss_cons (ps_asg (pe_tup (pa_cons (C8.pe_c c_l_fates hr (by decide) (gl_of gl_law_l_fates) (pa_cons (pv 2) (pa_cons (pv 8) pa_nil))) (pa_cons (C8.pe_c c_l_of hr (by decide) (gl_of gl_law_l_of) (pa_cons (pv 2) (pa_cons (pe_op op_cat (pe_lst (pa_cons pe_non (pa_cons pe_non pa_nil))) (pv 8)) pa_nil))) pa_nil))) (pg_tup rfl (pgs_cons (pg_name (i := 9) sc_law.nd rfl (Or.inr rfl)) (pgs_cons (pg_name (i := 10) sc_law.nd rfl (Or.inr rfl)) pgs_nil))))
      (pss_cons (ps_set (i := 7) sc_law.nd rfl (Or.inl rfl) (pe_callTy call_tuple_of (gl_of gl_law_tuple) T.tuple bt_tuple (pa_cons (C8.pe_c c_l_one_each hr (by decide) (gl_of gl_law_l_one_each) (pa_cons (pv 7) (pa_cons (pv 6) (pa_cons (pv 9) (pa_cons (pv 10) (pa_cons (pv 4) pa_nil)))))) pa_nil)))
      (pss_cons (ps_setLc (i := 11) (own := [("_law_version", 13)]) (g := gName 13) rfl sc_law.nd rfl rfl (sw_true rfl rfl rfl (by decide +kernel)) (pi_tup (pv 7)) (blkOk_by (own := [("_law_version", 13)]) (N := N_law) (sc := defScope s_law) (by decide +kernel)) (fun _ _ _ _ _ => pg_name (i := 13) sc_law.nd rfl (Or.inl rfl)) (fun _ _ _ _ _ => (pts_one (pt_cmpR op_eq (C8.pe_c c_l_state hr (by decide) (by rfl) (pa_cons (pv 13) (pa_cons (pv 6) (pa_cons (pv 9) (pa_cons (pv 10) (pa_cons (pv 4) pa_nil)))))) pe_str (nomark _)))) (fun _ _ _ _ _ => (pv 13)))
      (pss_cons (ps_set (i := 12) sc_law.nd rfl (Or.inr rfl) (pe_callB (call_reprK (K1 := K) rfl (by rfl) hr.units) (gl_of gl_law_repr) T.repr bb_repr (pa_cons (pe_callTy call_tuple_of (gl_of gl_law_tuple) T.tuple bt_tuple (pa_cons (pe_lc (own := [("_law_version", 13)]) (g := gName 13) (tt := tYes) rfl sc_law.nd (pi_list (LamK.pe_sortK (T := tl PT) TB rfl (List.mem_singleton.mpr rfl) (tl_uniq PT) (hr.mono (by decide)) (gl_of gl_law_sorted) T.sorted bb_sorted (pa_cons (pv 11) pa_nil) rfl rfl rfl rfl rfl (fun _ _ _ _ _ _ _ => rfl))) (blkOk_by (own := [("_law_version", 13)]) (N := N_law) (sc := defScope s_law) (by decide +kernel)) (fun _ _ _ _ _ => pg_name (i := 13) sc_law.nd rfl (Or.inl rfl)) (fun _ _ _ _ _ => pts_nil) (fun _ _ _ _ _ => (pe_slice (sl_tupAK (K1 := K) rfl) (pv 13) po_none (po_some pe_int)))) pa_nil)) pa_nil)))
      (pss_one (ps_if (pt_not (pt_val (pe_callB (cr_all rfl) (gl_of gl_law_all) T.all bb_all (pa_cons (pe_lc (own := [("_law_told_here", 14)]) (g := gName 14) (tt := tYes) rfl sc_law.nd (pi_list (C8.pe_c c_l_told hr (by decide) (gl_of gl_law_l_told) (pa_cons (pv 7) (pa_cons (pv 6) (pa_cons (pv 9) (pa_cons (pv 10) (pa_cons (pv 4) pa_nil))))))) (blkOk_by (own := [("_law_told_here", 14)]) (N := N_law) (sc := defScope s_law) (by decide +kernel)) (fun _ _ _ _ _ => pg_name (i := 14) sc_law.nd rfl (Or.inl rfl)) (fun _ _ _ _ _ => pts_nil) (fun _ _ _ _ _ => (pe_cmpR op_eq (pe_callB (call_reprK (K1 := K) rfl (by rfl) hr.units) (by rfl) T.repr bb_repr (pa_cons (pv 14) pa_nil)) (pv 12) (nomark _)))) pa_nil)))) (pss_one (ps_ret pe_bl)) pss_nil))))))))))))))
      (pss_one (ps_ret pe_bl))), ?_⟩
  refine st_seq ?_
  refine ⟨_, rfl, a, _, rfl, .inl hS, _, _, rfl, _, _, rfl, _, rfl, ?_, ?_, ?_⟩
  · split <;> split <;> omega
  · rw [List.length_map]
    split <;> split <;> omega
  refine for_range (lo := 0) (fun i σ H' => (∃ y1 y2 y3 y4 y5 y6 y7 y8 y9 ya yb yc yd ye, σ = [some (.ref a), y1, y2, y3, y4, y5, y6, y7, y8, y9, ya, yb, yc, yd, ye]) ∧ SqL K H' a (ns.map V.int) ∧ LamX.Tabs (tl PT) H') ⟨⟨none, none, none, none, none, none, none, none, none, none, none, none, none, none, rfl⟩, hS, hT0⟩ (fun i σ H1 hi hP => ?_) (fun σ H1 hP => ?_)
  · obtain ⟨⟨y1, y2, y3, y4, y5, y6, y7, y8, y9, ya, yb, yc, yd, ye, rfl⟩, hS1, hT1⟩ := hP
    have hi2 : i ≤ 8 := by
      rw [List.length_map] at hi
      split at hi <;> split at hi <;> omega
    refine st_seq ?_
    refine ⟨_, rfl, _, rfl, a, ns, i, ?_, hS1, by omega, fun p H2 np ke hs => ?_⟩
    · show [V.ref a, V.int (0 + (i : Int))] = _
      rw [Int.zero_add]
    have fr2 : Fr p H1 H2 := fun b o _ e => ke b o e
    have sc2 := ScA.new hS1 np fr2
    have t2 : LamX.Tabs (tl PT) H2 := hT1.ext ke
    try dsimp only [gName]
    refine st_seq ?_
    refine ⟨_, rfl, (show 6 ≤ sizeLine by decide), fun l6 nl6 => ?_⟩
    have hs3 : HS p 0 (upd H2 l6 (.lst [.int 6, .int 3, .int 12, .int 1, .int 0, .int 40])) := hs.new nl6
    have sc3 := sc2.fr (Fr.new (o := .lst [.int 6, .int 3, .int 12, .int 1, .int 0, .int 40]) nl6)
    have t3 := Tabs.same (same_new (o := .lst [.int 6, .int 3, .int 12, .int 1, .int 0, .int 40]) nl6) t2
    refine .inl ⟨p, l6, [.int 6, .int 3, .int 12, .int 1, .int 0, .int 40], 0, rfl, hs3, (show 0 < 100000 by decide), hs.ne nl6, SqL.of upd_same, (show 0 < 6 by decide), (show 6 ≤ 1000 by decide), fun mv H4 hmv hs4 f4 => ?_⟩
    have hm : ∃ m : Nat, mv = .int m ∧ m ≤ 40 := by
      simp only [List.mem_cons, List.not_mem_nil, or_false] at hmv
      rcases hmv with rfl | rfl | rfl | rfl | rfl | rfl
      · exact ⟨6, rfl, by decide⟩
      · exact ⟨3, rfl, by decide⟩
      · exact ⟨12, rfl, by decide⟩
      · exact ⟨1, rfl, by decide⟩
      · exact ⟨0, rfl, by decide⟩
      · exact ⟨40, rfl, by decide⟩
    obtain ⟨m, rfl, hm40⟩ := hm
    have sc4 := sc3.fr f4
    have t4 := Tabs.fr hs3 f4 t3
    refine ⟨_, rfl, p, 0 + 1, rfl, hs4, (show 0 + 1 + 3 < 100000 by decide), fun z H5 z0 z1 z2 hs5 f5 => ?_⟩
    have sc5 := sc4.fr f5
    have t5 := Tabs.fr hs4 f5 t4
    refine ⟨(show 2 ≤ sizeLine by decide), fun tp ntp => ?_⟩
    have s6 : Same H5 (upd H5 tp (.tup [.int m, .int z])) := same_new ntp
    have e6 : (upd H5 tp (.tup [.int m, .int z])) tp = some (.tup [.int m, .int z]) := upd_same
    generalize upd H5 tp (.tup [.int m, .int z]) = H6 at s6 e6
    have hs6 := hs5.same s6
    have sc6 := sc5.fr (Fr.same s6)
    have t6 := Tabs.same s6 t5
    refine ⟨tp, _, rfl, SqT.of e6, rfl, _, _, rfl, _, _, rfl, rfl, ?_⟩
    try dsimp only [gName]
    refine ⟨4, rfl, by decide, by decide, ?_⟩
    refine for_range (lo := 0) (n := (4 : Int).toNat) (fun j σ H' => (∃ y1 y5 y6 y7 y8 y9 ya yb yc yd ye, σ = [some (.ref a), y1, some (.ref p), some (.int m), some (.int z), y5, y6, y7, y8, y9, ya, yb, yc, yd, ye]) ∧ HS p (4 + 1000 * j) H' ∧ ScA K a p (ns.map V.int) H' ∧ LamX.Tabs (tl PT) H') ⟨⟨_, _, _, _, _, _, _, _, _, _, _, rfl⟩, hs6, sc6, t6⟩ (fun j σ H7 hj hP => ?_) (fun σ H7 hP => ?_)
    · obtain ⟨⟨y1, y5, y6, y7, y8, y9, ya, yb, yc, yd, ye, rfl⟩, hs7, sc7, t7⟩ := hP
      have hj2 : j < 4 := hj
      generalize hN : 4 + 1000 * j = n at hs7
      have hn : n < 4000 := by omega
      -- the look
      refine st_seq ?_
      refine ⟨_, rfl, _, rfl, p, z, n, rfl, hs7, (show n + 21 < 100000 by omega), z0, z1, fun la c bs H8 hb c0 c1 lk8 hs8 f8 => ?_⟩
      have lbs := hb.len
      have hx : ∀ x ∈ bs.map (fun b => (c - b) % z), 0 ≤ x ∧ x < z := fun x hx => by
        obtain ⟨b, _, rfl⟩ := List.mem_map.mp hx
        exact ⟨Int.emod_nonneg _ (by omega), Int.emod_lt_of_pos _ (by omega)⟩
      have lxs : (bs.map fun b => (c - b) % z).length ≤ 6 := by
        rw [List.length_map]
        exact lbs
      generalize (bs.map fun b => (c - b) % z) = xs at lk8 hx lxs
      have sc8 := sc7.fr f8
      have t8 := Tabs.fr hs7 f8 t7
      -- the versions
      try dsimp only [gName]
      refine st_seq ?_
      refine ⟨_, rfl, _, rfl, _, rfl, _, rfl, p, la, c, xs, z, m, n + 21, rfl, lk8, lxs, hx, c0, c1, hs8, hm40, (show n + 21 + 9 * m < 100000 by omega), z0, z1, fun L ps rs H9 nL eL hp lrs vok hs9 f9 => ?_⟩
      have lk9 := hs8.lk f9 lk8
      have sc9 := sc8.fr f9
      have t9 := Tabs.fr hs8 f9 t8
      have nLp : L ≠ p := hs8.ne nL
      have lps := paired_len hp
      -- the numbers
      try dsimp only [gName]
      refine st_seq ?_
      refine ⟨_, rfl, L, rfl, ⟨_, SqL.of eL⟩, fun D1 nD1 => ?_⟩
      refine lc_list (K := K) (a := L) (xs := ps.map V.ref) (fun j' H'' => Same H9 H'' ∧ H'' D1 = some (.lst ((rs.take j').map fun r => onV r.m))) ⟨same_new nD1, upd_same⟩ (fun j' H'' _ hP => SqL.of (hP.1 _ _ eL)) (fun j' v H'' hv hP => ?_) (fun Ha hP => ?_)
      · obtain ⟨sD, eD⟩ := hP
        obtain ⟨g1, g2, rfl, hvr⟩ := paired_ref hp hv
        refine ⟨rfl, ?_⟩
        refine ⟨_, rfl, _, _, 2, onV rs[j'].m, rfl, rfl, SqT.of (sD _ _ hvr), rfl, ?_⟩
        refine ⟨_, eD, ?_, same_mut sD nD1, ?_⟩
        · rw [List.length_map, List.length_take]
          exact small1000 (by omega)
        · rw [upd_same, take_map _ g2]
      obtain ⟨sa, ea⟩ := hP
      rw [List.length_map, lps, List.take_length] at ea
      refine ⟨_, rfl, L, rfl, ⟨_, SqL.of (sa _ _ eL)⟩, fun D2 nD2 => ?_⟩
      refine lc_list (K := K) (a := L) (xs := ps.map V.ref) (fun j' H'' => Same Ha H'' ∧ H'' D2 = some (.lst ((rs.take j').map fun r => onV r.e))) ⟨same_new nD2, upd_same⟩ (fun j' H'' _ hP => SqL.of (hP.1 _ _ (sa _ _ eL))) (fun j' v H'' hv hP => ?_) (fun Hb hP => ?_)
      · obtain ⟨sD, eD⟩ := hP
        obtain ⟨g1, g2, rfl, hvr⟩ := paired_ref hp hv
        refine ⟨rfl, ?_⟩
        refine ⟨_, rfl, _, _, 3, onV rs[j'].e, rfl, rfl, SqT.of (sD _ _ (sa _ _ hvr)), rfl, ?_⟩
        refine ⟨_, eD, ?_, same_mut sD nD2, ?_⟩
        · rw [List.length_map, List.length_take]
          exact small1000 (by omega)
        · rw [upd_same, take_map _ g2]
      obtain ⟨sb, eb⟩ := hP
      rw [List.length_map, lps, List.take_length] at eb
      refine ⟨D1, D2, _, _, rfl, rfl, sb _ _ ea, eb, ?_, fun Ln nLn => ?_⟩
      · rw [List.length_map, List.length_map, lrs]
        exact Nat.le_trans (show m + m ≤ 1000 by omega) (Nat.le_of_lt (small1000 (by decide)))
      have eN : (upd Hb Ln (.lst ((rs.map fun r => onV r.m) ++ rs.map fun r => onV r.e))) Ln = some (.lst (((rs.map Vr.m) ++ rs.map Vr.e).map onV)) := by
        rw [upd_same, List.map_append, List.map_map, List.map_map]
        rfl
      have sc : Same Hb (upd Hb Ln (.lst ((rs.map fun r => onV r.m) ++ rs.map fun r => onV r.e))) := same_new nLn
      generalize upd Hb Ln (.lst ((rs.map fun r => onV r.m) ++ rs.map fun r => onV r.e)) = Hc at eN sc
      have s9c : Same H9 Hc := sa.trans (sb.trans sc)
      have hsc := hs9.same s9c
      have scc := sc9.fr (Fr.same s9c)
      have tc := Tabs.same s9c t9
      have nLnp : Ln ≠ p := fun zz => by
        obtain ⟨g, b1, c2, eh, _⟩ := hs9.same (sa.trans sb)
        rw [zz, eh] at nLn
        cases nLn
      have lxs2 : ((rs.map Vr.m) ++ rs.map Vr.e).length = 2 * m := by
        rw [List.length_append, List.length_map, List.length_map, lrs]
        omega
      generalize hNs : (rs.map Vr.m) ++ rs.map Vr.e = us at eN lxs2
      -- the fates
      try dsimp only [gName]
      refine st_seq ?_
      refine ⟨_, rfl, _, rfl, p, Ln, us, n + 21 + 9 * m, rfl, SqL.of eN, nLnp, by omega, hsc, (show n + 21 + 9 * m + 2 * us.length < 100000 by omega), fun F fs Hd hfs hcov lfs hF hsd fd => ?_⟩
      rw [lxs2] at hsd
      have scd := scc.fr fd
      have td := Tabs.fr hsc fd tc
      have eNd := fd _ _ nLnp eN
      refine ⟨_, rfl, (show 2 ≤ sizeLine by decide), fun l2 nl2 => ?_⟩
      have se : Same Hd (upd Hd l2 (.lst [.non, .non])) := same_new nl2
      have e2 : (upd Hd l2 (.lst [.non, .non])) l2 = some (.lst [.non, .non]) := upd_same
      generalize upd Hd l2 (.lst [.non, .non]) = He at se e2
      refine ⟨_, rfl, l2, Ln, _, _, rfl, rfl, e2, se _ _ eNd, ?_, fun l3 nl3 => ?_⟩
      · rw [List.length_map, lxs2]
        exact Nat.le_trans (show 2 + 2 * m ≤ 1000 by omega) (Nat.le_of_lt (small1000 (by decide)))
      have sf : Same He (upd He l3 (.lst ([.non, .non] ++ us.map onV))) := same_new nl3
      have e3 : (upd He l3 (.lst ([.non, .non] ++ us.map onV))) l3 = some (.lst ((none :: none :: us).map onV)) := upd_same
      have hse := hsd.same se
      have nl3p : l3 ≠ p := hse.ne nl3
      generalize upd He l3 (.lst ([.non, .non] ++ us.map onV)) = Hf at sf e3
      have sdf := se.trans sf
      have hsf := hsd.same sdf
      refine .inl ⟨p, l3, (none :: none :: us).map onV, n + 21 + 9 * m + 2 * (2 * m), rfl, hsf, (show n + 21 + 9 * m + 2 * (2 * m) < 100000 by omega), nl3p, SqL.of e3, ?_, ?_, fun ov Hg hov hsg fg => ?_⟩
      · rw [List.length_map]
        exact Nat.succ_pos _
      · rw [List.length_map, List.length_cons, List.length_cons, lxs2]
        omega
      have ho : ∃ o : Option Int, ov = onV o := by
        obtain ⟨o, _, e⟩ := List.mem_map.mp hov
        exact ⟨o, e.symm⟩
      obtain ⟨o, rfl⟩ := ho
      have scg := (scd.fr (Fr.same sdf)).fr fg
      have tg := Tabs.fr hsf fg (Tabs.same sdf td)
      have hFg : Ft K Hg F fs := Ft.fr hsf fg (hF.same sdf)
      have lkg : Lk K Hg la c xs := hsf.lk fg ((hsc.lk fd (lk9.same s9c)).same sdf)
      have hsL : ∀ b o', b ≠ p → H9 b = some o' → Hg b = some o' := fun b o' nb e => fg _ _ nb (sdf _ _ (fd _ _ nb (s9c _ _ e)))
      have eLg := hsL _ _ nLp eL
      have npp : ∀ q r, VrT H9 q r → q ≠ p := fun q r hv zz => by
        obtain ⟨g, b1, c2, eh, _⟩ := hs9
        have hv2 : H9 q = _ := hv
        rw [zz, eh] at hv2
        cases hv2
      have hpg : Paired (VrT Hg) ps rs := paired_mono (fun q r hv => hsL _ _ (npp q r hv) hv) hp
      -- both names
      refine ⟨(show 2 ≤ sizeLine by decide), fun t2 nt2 => ?_⟩
      have sh : Same Hg (upd Hg t2 (.tup [.ref F, onV o])) := same_new nt2
      have et2 : (upd Hg t2 (.tup [.ref F, onV o])) t2 = some (.tup [.ref F, onV o]) := upd_same
      generalize upd Hg t2 (.tup [.ref F, onV o]) = Hh at sh et2
      refine ⟨t2, _, rfl, SqT.of et2, rfl, _, _, rfl, _, _, rfl, rfl, ?_⟩
      have cov : ∀ r ∈ rs, Cov fs r.m ∧ Cov fs r.e := fun r hr => by
        have k1 : r.m ∈ us := by
          rw [← hNs]
          exact List.mem_append_left _ (List.mem_map_of_mem hr)
        have k2 : r.e ∈ us := by
          rw [← hNs]
          exact List.mem_append_right _ (List.mem_map_of_mem hr)
        refine ⟨fun i hi => ?_, fun i hi => ?_⟩
        · rw [hi] at k1
          obtain ⟨zz, q1, _⟩ := fa_has hfs (hcov i k1)
          exact ⟨zz, q1⟩
        · rw [hi] at k2
          obtain ⟨zz, q1, _⟩ := fa_has hfs (hcov i k2)
          exact ⟨zz, q1⟩
      have hnd := hfs.nd
      -- of each key one
      try dsimp only [gName]
      refine st_seq ?_
      have hph : Paired (VrT Hh) ps rs := paired_mono (fun q r hv => sh _ _ hv) hpg
      refine ⟨_, rfl, _, rfl, _, rfl, _, rfl, _, rfl, L, la, F, ps, rs, o, c, xs, z, fs, rfl, sh _ _ eLg, hph, by omega, lkg.same sh, hFg.same sh, hnd, cov, by omega, z1, fun D qs Hi nD eD hq si => ?_⟩
      have tsub := fun r (hr : r ∈ oneE (seenB fs c xs z o) rs []) => oneE_sub r hr
      have hkeys := (oneE_keys (sn := seenB fs c xs z o) rs []).1
      have lts := oneE_len (seenB fs c xs z o) rs []
      generalize oneE (seenB fs c xs z o) rs [] = ts at hq tsub hkeys lts
      have lqs := paired_len hq
      refine ⟨D, _, rfl, .inl ⟨SqL.of eD, fun W nW => ?_⟩⟩
      have eW : (upd Hi W (.tup (qs.map V.ref))) W = some (.tup (qs.map V.ref)) := upd_same
      have sj : Same Hi (upd Hi W (.tup (qs.map V.ref))) := same_new nW
      generalize upd Hi W (.tup (qs.map V.ref)) = Hj at eW sj
      have shj : Same Hh Hj := si.trans sj
      have sgj : Same Hg Hj := sh.trans shj
      have hqj : Paired (VrT Hj) qs ts := paired_mono (fun q r hv => shj _ _ hv) hq
      -- those seen
      try dsimp only [gName]
      refine st_seq ?_
      refine ⟨_, rfl, W, rfl, ⟨_, SqT.of eW⟩, fun S nS => ?_⟩
      refine lc_tup (K := K) (a := W) (xs := qs.map V.ref) (fun j' H'' => Same Hj H'' ∧ ∃ ss : List Addr, H'' S = some (.lst (ss.map V.ref)) ∧ Paired (VrT Hj) ss ((ts.take j').filter (seenB fs c xs z o)) ∧ ss.length ≤ j') ⟨same_new nS, [], upd_same, .nil, Nat.le_refl _⟩ (fun j' H'' _ hP => SqT.of (hP.1 _ _ eW)) (fun j' v H'' hv hP => ?_) (fun Hk hP => ?_)
      · obtain ⟨sD, ss, eS, hss, lss⟩ := hP
        obtain ⟨g1, g2, rfl, hvr⟩ := paired_ref hqj hv
        have htk : (ts.take (j' + 1)).filter (seenB fs c xs z o) = (ts.take j').filter (seenB fs c xs z o) ++ [ts[j']].filter (seenB fs c xs z o) := by
          rw [take_add1 ts j' g2, List.filter_append]
        have cv := cov _ (tsub _ (List.getElem_mem g2))
        refine ⟨rfl, ?_⟩
        refine ⟨_, rfl, _, rfl, _, rfl, _, rfl, _, rfl, qs[j'], la, F, .str ts[j'].k, ts[j'].w, ts[j'].m, ts[j'].e, o, c, xs, z, fs, rfl, SqT.of (sD _ _ hvr), (lkg.same sgj).same sD, (hFg.same sgj).same sD, hnd, cv.1, cv.2, by omega, z1, fun H3 sm3 => ?_⟩
        refine ⟨rfl, _, rfl, ite2 (fun y => ?_) (fun y => ?_)⟩
        · have y2 : seenB fs c xs z o ts[j'] = true := y
          refine ⟨_, rfl, _, sm3 _ _ eS, ?_, same_mut (sD.trans sm3) nS, ss ++ [qs[j']], ?_, ?_, ?_⟩
          · rw [List.length_map]
            exact small1000 (by omega)
          · rw [upd_same, List.map_append]
            rfl
          · rw [htk, List.filter_cons_of_pos y2]
            exact paired_app hss (.cons hvr .nil)
          · rw [List.length_append]
            show ss.length + 1 ≤ j' + 1
            omega
        · have y2 : ¬ seenB fs c xs z o ts[j'] = true := y
          refine ⟨sD.trans sm3, ss, sm3 _ _ eS, ?_, by omega⟩
          rw [htk, List.filter_cons_of_neg y2, List.filter_nil, List.append_nil]
          exact hss
      obtain ⟨sk, ss, eS, hss, lss⟩ := hP
      rw [List.length_map, lqs, List.take_length] at hss
      rw [List.length_map] at lss
      have hssk : Paired (VrT Hk) ss (ts.filter (seenB fs c xs z o)) := paired_mono (fun q r hv => sk _ _ hv) hss
      have sgk := sgj.trans sk
      have hsk : HS p (n + 21 + 9 * m + 2 * (2 * m) + 1) Hk := hsg.same sgk
      have sck := scg.fr (Fr.same sgk)
      have tk := Tabs.same sgk tg
      -- sorted
      have hkw : ss.map (kwOf Hk) = (ts.filter (seenB fs c xs z o)).map kw := kwOf_all hssk
      have hvk : ∀ t ∈ ss, ∃ r ∈ ts.filter (seenB fs c xs z o), VrT Hk t r := fun t ht => paired_mem hssk t ht
      try dsimp only [gName]
      refine st_seq ?_
      refine ⟨_, rfl, tk, S, ss, fun t => (kwOf Hk t).1, rfl, SqL.of eS, fun t ht => ?_, fun H2' p2 us2 eN t2' np2 pm pw => ?_⟩
      · obtain ⟨r, _, hr⟩ := hvk t ht
        show ∃ ys, SqT K Hk t (.str (kwOf Hk t).1 :: ys)
        rw [kwOf_at hr]
        exact ⟨_, SqT.of hr⟩
      have eP : (upd H2' p2 (.lst (us2.map V.ref))) p2 = some (.lst (us2.map V.ref)) := upd_same
      have sl : Same H2' (upd H2' p2 (.lst (us2.map V.ref))) := same_new np2
      generalize upd H2' p2 (.lst (us2.map V.ref)) = Hl at eP sl
      have eNl : LamX.ExtN Hk Hl := eN.trans (extN_same sl)
      have hsl := hsk.extN eNl
      have scl := sck.extN eNl
      have tl' := Tabs.same sl t2'
      have lu2 : us2.length = ss.length := pm.length_eq
      refine ⟨p2, rfl, ⟨_, SqL.of eP⟩, fun D3 nD3 => ?_⟩
      refine lc_list (K := K) (a := p2) (xs := us2.map V.ref) (fun j' H'' => Same Hl H'' ∧ ∃ qs3 : List Addr, H'' D3 = some (.lst (qs3.map V.ref)) ∧ Paired (RwAt H'') qs3 ((us2.take j').map (kwOf Hk))) ⟨same_new nD3, [], upd_same, .nil⟩ (fun j' H'' _ hP => SqL.of (hP.1 _ _ eP)) (fun j' v H'' hv hP => ?_) (fun Hm hP => ?_)
      · obtain ⟨sB, qs3, eB, hq3⟩ := hP
        have hjl : j' < us2.length := by
          have z := (List.getElem?_eq_some_iff.mp hv).1
          rw [List.length_map] at z
          exact z
        rw [List.getElem?_map, List.getElem?_eq_getElem hjl] at hv
        obtain rfl : V.ref us2[j'] = v := Option.some.inj hv
        obtain ⟨r, _, hr⟩ := hvk us2[j'] (pm.mem_iff.mp (List.getElem_mem hjl))
        have hr2 : H'' us2[j'] = some (.tup [.str r.k, r.w, onV r.m, onV r.e]) := sB _ _ (eNl _ _ hr (fun ps zz => by cases zz))
        have lq3 := paired_len hq3
        rw [List.length_map, List.length_take] at lq3
        refine ⟨rfl, ?_⟩
        refine ⟨_, rfl, _, rfl, ?_⟩
        refine ⟨us2[j'], _, rfl, SqT.of hr2, fun e => ?_, fun e t nt => ?_⟩
        · exact absurd (show HT.sIx 4 4 (some 2) = 4 from e.2) (by decide)
        have et : (upd H'' t (.tup (cutV [V.str r.k, r.w, onV r.m, onV r.e] none (some 2)))) t = some (.tup [.str r.k, r.w]) := upd_same
        have st : Same H'' (upd H'' t (.tup (cutV [V.str r.k, r.w, onV r.m, onV r.e] none (some 2)))) := same_new nt
        generalize upd H'' t (.tup (cutV [V.str r.k, r.w, onV r.m, onV r.e] none (some 2))) = H5 at et st
        have eB5 := st _ _ eB
        refine ⟨_, eB5, ?_, same_mut (sB.trans st) nD3, qs3 ++ [t], ?_, ?_⟩
        · rw [List.length_map]
          exact small1000 (by omega)
        · rw [upd_same, List.map_append]
          rfl
        · rw [take_map _ hjl, kwOf_at hr]
          refine paired_app (paired_mono (fun p r z => ?_) hq3) (.cons ?_ .nil)
          · have za : H5 p = _ := st _ _ z
            show (upd H5 D3 _) p = _
            rw [upd_ne (ne_tl za eB5)]
            exact za
          · show (upd H5 D3 _) t = _
            rw [upd_ne (ne_tl et eB5)]
            exact et
      obtain ⟨sm, qs3, eB, hq3⟩ := hP
      rw [List.length_map, List.take_length] at hq3
      refine ⟨D3, _, rfl, .inl ⟨SqL.of eB, fun R nR => ?_⟩⟩
      have eR : (upd Hm R (.tup (qs3.map V.ref))) R = some (.tup (qs3.map V.ref)) := upd_same
      have sn : Same Hm (upd Hm R (.tup (qs3.map V.ref))) := same_new nR
      generalize upd Hm R (.tup (qs3.map V.ref)) = Hn at eR sn
      have sln := sm.trans sn
      have eNn : LamX.ExtN Hk Hn := eNl.trans (extN_same sln)
      have hsn := hsk.extN eNn
      have scn := sck.extN eNn
      have tn := Tabs.same sln tl'
      generalize hB : (ts.filter (seenB fs c xs z o)).map kw = B at hkw
      have pmB : (us2.map (kwOf Hk)).Perm B := by
        rw [← hkw]
        exact pm.map _
      have ndB : (B.map (·.1)).Nodup := by
        rw [← hB, List.map_map]
        exact hkeys
      have pwB : (us2.map (kwOf Hk)).Pairwise (fun x y => SrtW.ltS y.1 x.1 = false) := by
        rw [List.pairwise_map]
        exact pw.imp fun h => decide_eq_false (List.not_lt.mpr h)
      have okB : ∀ r ∈ B, RwOk r := fun r hr => by
        rw [← hB] at hr
        obtain ⟨v, hv, rfl⟩ := List.mem_map.mp hr
        have vo := vok v (tsub v (List.mem_filter.mp hv).1)
        obtain ⟨⟨d, hd⟩, hpl⟩ := vo.w
        exact ⟨lf_str (Nat.le_trans vo.k.1 (by decide)) vo.k.2, lf_wd hd hpl⟩
      have lB : B.length ≤ 40 := by
        rw [← hB, List.length_map]
        exact Nat.le_trans (List.length_filter_le ..) (by omega)
      generalize us2.map (kwOf Hk) = rD at hq3 pmB pwB
      have okD : ∀ r ∈ rD, RwOk r := fun r hr => okB r (pmB.mem_iff.mp hr)
      have lD : rD.length ≤ 40 := by
        rw [pmB.length_eq]
        exact lB
      have dD := rows_data (K := K) (H := Hn) (SqT.of eR) (paired_mono (fun q r hv => SqT.of (sn _ _ hv)) hq3) okD (by omega)
      obtain ⟨f1, f2, f3, f4'⟩ := dD.2.fits (by decide)
      refine ⟨.ref R, _, rfl, dD.1, f1, f2, f3, f4', ?_⟩
      -- told
      try dsimp only [gName]
      have keepN : ∀ b o', Hk b = some o' → (∀ ps, o' ≠ .tbl ps) → Hn b = some o' := fun b o' e nt => eNn b o' e nt
      have eWn : Hn W = some (.tup (qs.map V.ref)) := keepN _ _ (sk _ _ eW) (fun ps zz => by cases zz)
      have hqn : Paired (VrAt K Hn) qs ts := paired_mono (fun q r hv => SqT.of (keepN _ _ (sk _ _ hv) (fun ps zz => by cases zz))) hqj
      have lkn : Lk K Hn la c xs := by
        obtain ⟨t, q1, q2⟩ := lkg.same sgk
        exact ⟨t, LamK.sqT_extN eNn q1, LamK.sqT_extN eNn q2⟩
      have hFn : Ft K Hn F fs := by
        obtain ⟨ob, fps, q1, q2, q3⟩ := hFg.same sgk
        exact ⟨ob, fps, keepN _ _ q1 (fun ps zz => by cases zz), q2, paired_mono (fun _ _ zz => LamK.sqT_extN eNn zz) q3⟩
      refine ⟨_, rfl, _, rfl, _, rfl, _, rfl, _, rfl, W, la, F, qs, ts, o, c, xs, z, fs, rfl, SqT.of eWn, hqn, fun r hr => ?_, by omega, hkeys, lkn, hFn, hnd, by omega, z1, fun L2' ys Ho so eL2 lys hys => ?_⟩
      · exact ⟨(vok r (tsub r hr)).w.2, (cov r (tsub r hr)).2⟩
      rw [hB] at hys
      refine ⟨L2', rfl, ⟨_, SqL.of eL2⟩, fun D4 nD4 => ?_⟩
      refine lc_list (K := K) (a := L2') (xs := ys) (fun j' H'' => Same Ho H'' ∧ H'' D4 = some (.lst ((List.replicate j' true).map V.bl))) ⟨same_new nD4, upd_same⟩ (fun j' H'' _ hP => SqL.of (hP.1 _ _ eL2)) (fun j' v H'' hv hP => ?_) (fun Hp' hP => ?_)
      · obtain ⟨sE, eE⟩ := hP
        have hjl := (List.getElem?_eq_some_iff.mp hv).1
        obtain ⟨R2, q2, rows2, rfl, e2', hp2, pm2, pw2⟩ := (hys v (List.mem_of_getElem? hv)).same sE
        have er : rows2 = rD := rows_uniq (pm2.trans pmB.symm) ((pm2.map _).nodup_iff.mpr ndB) pw2 pwB
        subst er
        have d2 := rows_data (K := K) (H := H'') (SqT.of e2') (paired_mono (fun q r hv => SqT.of hv) hp2) okD (by omega)
        refine ⟨rfl, ?_⟩
        refine ⟨_, rfl, .ref R2, _, rfl, d2.1, f1, f2, f3, f4', ?_⟩
        refine ⟨_, rfl, rfl, ?_⟩
        show (fun y H4 => ∃ acc, H4 D4 = some (.lst acc) ∧ acc.length < sizeLine ∧ (Same Ho (upd H4 D4 (.lst (acc ++ [y]))) ∧ (upd H4 D4 (.lst (acc ++ [y]))) D4 = some (.lst ((List.replicate (j' + 1) true).map V.bl)))) (.bl (decide (_ = _))) H''
        rw [decide_eq_true rfl]
        refine ⟨_, eE, ?_, same_mut sE nD4, ?_⟩
        · rw [List.length_map, List.length_replicate]
          exact small1000 (by omega)
        · rw [upd_same, List.replicate_succ', List.map_append]
          rfl
      obtain ⟨sE, eE⟩ := hP
      refine ⟨D4, _, rfl, SqL.of eE, _, rfl, ?_⟩
      rw [all_rep]
      refine iteF ?_
      have snp := so.trans sE
      refine ⟨⟨_, _, _, _, _, _, _, _, _, _, _, rfl⟩, (hsn.same snp).mono (by omega), scn.fr (Fr.same snp), Tabs.same snp tn⟩
    · obtain ⟨⟨y1, y5, y6, y7, y8, y9, ya, yb, yc, yd, ye, rfl⟩, hs7, sc7, t7⟩ := hP
      exact ⟨⟨_, _, _, _, _, _, _, _, _, _, _, _, _, _, rfl⟩, sc7.at, t7⟩
  · obtain ⟨⟨y1, y2, y3, y4, y5, y6, y7, y8, y9, ya, yb, yc, yd, ye, rfl⟩, _, _⟩ := hP
    exact q _
end
/-! ### the head -/
theorem def0_mk {K : PySem.W.Frag} {h : Heap} {mg : Str → Option Value} {x : Str} {st : Stmt} {ps : List Str} (X : K.In h) (G : h.Ns mainGlobals mg) (g : (He.Fa.glo x).ok K = true)
    (F : ∃ fd, FunD K x x (defArgs st) (defBody st) (defScope st) [] [] (He.ga K x) fd)
    (hb : ∀ (kV doc pm : Value) (an : Option Addr) (cdv ct : Value) (us : List Value), us.length = ps.length → bindArgs (PySem.W.fnOf x x (defArgs st) (defBody st) (defScope st) .none kV doc pm an cdv ct) ⟨us, []⟩ = pure (ps.zip us)) : Def0 K mg x st ps := by
  obtain ⟨fd, F⟩ := F
  exact ⟨_, fd, F, He.glo_ok X G g, F.bindsN hb⟩
theorem defK_mk {K : PySem.W.Frag} {h : Heap} {mg : Str → Option Value} {x : Str} {st : Stmt} {ps : List Str} {n : Nat} {y : Str} {v : V} (X : K.In h) (G : h.Ns mainGlobals mg) (g : (He.Fa.glo x).ok K = true)
    (F : ∃ fd, FunD K x x (defArgs st) (defBody st) (defScope st) [] [(y, v)] (He.ga K x) fd) (hn : n + 1 = ps.length)
    (hb : ∀ (D : Addr) (doc pm : Value) (an : Option Addr) (cdv ct : Value) (us ks : List Value), us.length = n → ks.length = 1 →
      KwChain D (([y] : List Str).zip ks) (bindArgs (PySem.W.fnOf x x (defArgs st) (defBody st) (defScope st) .none (.ref D) doc pm an cdv ct) ⟨us, []⟩) (ps.zip (us ++ ks)))
    (hk : ∀ (kV doc pm : Value) (an : Option Addr) (cdv ct : Value) (us ws : List Value), us.length = n → ws.length = 1 →
      bindArgs (PySem.W.fnOf x x (defArgs st) (defBody st) (defScope st) .none kV doc pm an cdv ct) ⟨us, ([y] : List Str).zip ws⟩ = pure (ps.zip (us ++ ws))) : DefK K mg x st ps n [(y, v)] := by
  obtain ⟨fd, F⟩ := F
  refine ⟨_, fd, F, He.glo_ok X G g, F.binds0 n (by simp) hn hb, fun us ws => us ++ ws, ⟨fun s us ws _ l1 l2 => ?_, fun r1 r2 => r1.append r2⟩⟩
  obtain ⟨oc, od, dV, kV, doc, pm, an, cdv, ct, osl, rfl, lk, hcd, hD, hK⟩ := F.ex
  rcases hD with ⟨_, rfl⟩ | ⟨e, _⟩
  · exact .of_eq (hk kV doc pm an cdv ct us ws l1 l2)
  · exact absurd rfl e
theorem int_g {K : PySem.W.Frag} {h : Heap} {mg : Str → Option Value} {x : Str} {i : Int} (X : K.In h) (G : h.Ns mainGlobals mg) (g : (He.Fa.int x i).ok K = true) : ∃ u, mg x = some u ∧ RelV (.int i) u := by
  obtain ⟨t, e⟩ := He.int_ok X G g
  exact ⟨_, e, t, rfl⟩
def d_steps : He.DefD := ⟨("steps", none), "steps", "steps", defArgs s_steps, defBody s_steps, defScope s_steps, [], [("ring", .int 64)]⟩
def d_before : He.DefD := ⟨("before", none), "before", "before", defArgs s_before, defBody s_before, defScope s_before, [], [("ring", .int 64)]⟩
def d_sees : He.DefD := ⟨("sees", none), "sees", "sees", defArgs s_sees, defBody s_sees, defScope s_sees, [], [("ring", .int 64)]⟩
def d_shown : He.DefD := ⟨("shown", none), "shown", "shown", defArgs s_shown, defBody s_shown, defScope s_shown, [], [("own", .non), ("ring", .int 64)]⟩
def d_state_among : He.DefD := ⟨("state_among", none), "state_among", "state_among", defArgs s_state_among, defBody s_state_among, defScope s_state_among, [], []⟩
def d_shown_among : He.DefD := ⟨("shown_among", none), "shown_among", "shown_among", defArgs s_shown_among, defBody s_shown_among, defScope s_shown_among, [], []⟩
def d_l_hand : He.DefD := ⟨("_law_hand", none), "_law_hand", "_law_hand", defArgs s_l_hand, defBody s_l_hand, defScope s_l_hand, [], []⟩
def d_l_take : He.DefD := ⟨("_law_take", none), "_law_take", "_law_take", defArgs s_l_take, defBody s_l_take, defScope s_l_take, [], []⟩
def d_l_of : He.DefD := ⟨("_law_of", none), "_law_of", "_law_of", defArgs s_l_of, defBody s_l_of, defScope s_l_of, [], []⟩
def d_l_size : He.DefD := ⟨("_law_size", none), "_law_size", "_law_size", defArgs s_l_size, defBody s_l_size, defScope s_l_size, [], []⟩
def d_l_look : He.DefD := ⟨("_law_look", none), "_law_look", "_law_look", defArgs s_l_look, defBody s_l_look, defScope s_l_look, [], []⟩
def d_l_is_done : He.DefD := ⟨("_law_is_done", none), "_law_is_done", "_law_is_done", defArgs s_l_is_done, defBody s_l_is_done, defScope s_l_is_done, [], []⟩
def d_l_worth : He.DefD := ⟨("_law_worth", none), "_law_worth", "_law_worth", defArgs s_l_worth, defBody s_l_worth, defScope s_l_worth, [], []⟩
def d_l_near : He.DefD := ⟨("_law_near", none), "_law_near", "_law_near", defArgs s_l_near, defBody s_l_near, defScope s_l_near, [], []⟩
def d_l_fates : He.DefD := ⟨("_law_fates", none), "_law_fates", "_law_fates", defArgs s_l_fates, defBody s_l_fates, defScope s_l_fates, [], []⟩
def d_l_state : He.DefD := ⟨("_law_state", none), "_law_state", "_law_state", defArgs s_l_state, defBody s_l_state, defScope s_l_state, [], []⟩
def d_l_versions : He.DefD := ⟨("_law_versions", none), "_law_versions", "_law_versions", defArgs s_l_versions, defBody s_l_versions, defScope s_l_versions, [], []⟩
def d_l_one_each : He.DefD := ⟨("_law_one_each", none), "_law_one_each", "_law_one_each", defArgs s_l_one_each, defBody s_l_one_each, defScope s_l_one_each, [], []⟩
def d_l_told : He.DefD := ⟨("_law_told", none), "_law_told", "_law_told", defArgs s_l_told, defBody s_l_told, defScope s_l_told, [], []⟩
def d_law : He.DefD := ⟨("law", none), "law", "law", defArgs s_law, defBody s_law, defScope s_law, [], []⟩
def fn : List He.DefD := [d_steps, d_before, d_sees, d_shown, d_state_among, d_shown_among, d_l_hand, d_l_take, d_l_of, d_l_size, d_l_look, d_l_is_done, d_l_worth, d_l_near, d_l_fates, d_l_state, d_l_versions, d_l_one_each, d_l_told, d_law]
--@ level 8
def fa : List He.Fa := [.glo "steps", .glo "before", .glo "sees", .glo "shown", .glo "state_among", .glo "shown_among", .glo "_law_hand", .glo "_law_take", .glo "_law_of", .glo "_law_size", .glo "_law_look", .glo "_law_is_done", .glo "_law_worth", .glo "_law_near", .glo "_law_fates", .glo "_law_state", .glo "_law_versions", .glo "_law_one_each", .glo "_law_told", .glo "law", .int "RING" 64] ++ freeNames.map .free
def tf : List He.Defn := [("law", none)]
abbrev R : PySem.W.OpenRow := PySem.W.OpenLaw.row PySem.Challenge.rw_roundstore_k10_rows_of_a_look
abbrev hk : PySem.W.Hook := He.hookX 4 fa fn [] tf (fun _ => true)
def ob (s : PySem.W.SharedT) : He.AlX := He.obsX 4 fa fn [] tf (fun _ => true) (HandSHeadRun.getT s)
theorem ob_eq (s : PySem.W.SharedT) : ob s = hk.obs s.abs := He.obsX_eq (HandSHeadRun.getT_eq s)
theorem run (w : World) : HandSHeadRun.RunEq R (PySem.W.view R.prog [24]) hk ob 2000 ["RING", "steps", "before", "sees", "shown", "state_among", "shown_among", "_law_hand", "_law_take", "_law_of", "_law_size", "_law_look", "_law_is_done", "_law_worth", "_law_near", "_law_fates", "_law_state", "_law_versions", "_law_one_each", "_law_told"] w := by
  intro os
  kernel_rfl
theorem facts {P : Program} {w : World} {K : PySem.W.Frag} {h : Heap} {mg : Str → Option Value} {f : Addr} (X : K.In h) (G : h.Ns mainGlobals mg) (hfa : mg ("law" : Str) = some (.ref f)) (cX : He.SaysX fa fn [] tf (fun _ => true) w h K) :
    ∃ fd : FuncData, (∀ (s : Shared) (v : Value), BindsTo s fd ⟨[v], []⟩ [("_law_script", v)]) ∧ ∀ base : Heap, K.In base → base.Ns mainGlobals mg → (∀ p ∈ tf.map (He.cT K), LamX.TabB base mg p.1 p.2) → FnAt callerA P w K mg base CX0 8 f fd ["_law_script"] (spLawT K (He.cT K ("law", none)).2) := by
  have c := cX.t.d
  have T : Tx K mg := tx_mk fun x hx => He.free_ok X G (by
    obtain ⟨i, hi, e⟩ := List.mem_iff_getElem.mp hx
    exact c.fact (21 + i) (f := .free x) (by
      show ([.glo "steps", .glo "before", .glo "sees", .glo "shown", .glo "state_among", .glo "shown_among", .glo "_law_hand", .glo "_law_take", .glo "_law_of", .glo "_law_size", .glo "_law_look", .glo "_law_is_done", .glo "_law_worth", .glo "_law_near", .glo "_law_fates", .glo "_law_state", .glo "_law_versions", .glo "_law_one_each", .glo "_law_told", .glo "law", .int "RING" 64] ++ freeNames.map He.Fa.free)[21 + i]? = _
      rw [List.getElem?_append_right (by show 21 ≤ _; omega)]
      show (freeNames.map He.Fa.free)[21 + i - 21]? = _
      rw [Nat.add_sub_cancel_left, List.getElem?_map, List.getElem?_eq_getElem hi, e]
      rfl))
  have g_RING := int_g X G (c.fact 20 (f := .int "RING" 64) rfl)
  have D_steps : DefK K mg "steps" s_steps ["one", "other", "ring"] 2 [("ring", .int 64)] := defK_mk X G (c.fact 0 (f := .glo "steps") rfl) (c.def_ 0 (d := d_steps) rfl) rfl
    (fun _ _ _ _ _ _ us ks l1 l2 => match us, ks, l1, l2 with | [_, _], [_], _, _ => ⟨_, _, _, _, _, _, rfl, rfl, rfl⟩) (fun _ _ _ _ _ _ us ws l1 l2 => match us, ws, l1, l2 with | [_, _], [_], _, _ => rfl)
  have D_before : DefK K mg "before" s_before ["one", "other", "ring"] 2 [("ring", .int 64)] := defK_mk X G (c.fact 1 (f := .glo "before") rfl) (c.def_ 1 (d := d_before) rfl) rfl
    (fun _ _ _ _ _ _ us ks l1 l2 => match us, ks, l1, l2 with | [_, _], [_], _, _ => ⟨_, _, _, _, _, _, rfl, rfl, rfl⟩) (fun _ _ _ _ _ _ us ws l1 l2 => match us, ws, l1, l2 with | [_, _], [_], _, _ => rfl)
  have D_sees : DefK K mg "sees" s_sees ["look", "number", "fate", "ring"] 3 [("ring", .int 64)] := defK_mk X G (c.fact 2 (f := .glo "sees") rfl) (c.def_ 2 (d := d_sees) rfl) rfl
    (fun _ _ _ _ _ _ us ks l1 l2 => match us, ks, l1, l2 with | [_, _, _], [_], _, _ => ⟨_, _, _, _, _, _, rfl, rfl, rfl⟩) (fun _ _ _ _ _ _ us ws l1 l2 => match us, ws, l1, l2 with | [_, _, _], [_], _, _ => rfl)
  have D_state_among : Def0 K mg "state_among" s_state_among ["version", "look", "fates", "own", "ring"] := def0_mk X G (c.fact 4 (f := .glo "state_among") rfl) (c.def_ 4 (d := d_state_among) rfl) fun _ _ _ _ _ _ us hl => match us, hl with | [_, _, _, _, _], _ => rfl
  have D_shown_among : Def0 K mg "shown_among" s_shown_among ["versions", "look", "fates", "own", "ring"] := def0_mk X G (c.fact 5 (f := .glo "shown_among") rfl) (c.def_ 5 (d := d_shown_among) rfl) fun _ _ _ _ _ _ us hl => match us, hl with | [_, _, _, _, _], _ => rfl
  have D_l_hand : Def0 K mg "_law_hand" s_l_hand ["_law_script", "_law_k"] := def0_mk X G (c.fact 6 (f := .glo "_law_hand") rfl) (c.def_ 6 (d := d_l_hand) rfl) fun _ _ _ _ _ _ us hl => match us, hl with | [_, _], _ => rfl
  have D_l_take : Def0 K mg "_law_take" s_l_take ["_law_hand_here", "_law_many"] := def0_mk X G (c.fact 7 (f := .glo "_law_take") rfl) (c.def_ 7 (d := d_l_take) rfl) fun _ _ _ _ _ _ us hl => match us, hl with | [_, _], _ => rfl
  have D_l_of : Def0 K mg "_law_of" s_l_of ["_law_hand_here", "_law_some"] := def0_mk X G (c.fact 8 (f := .glo "_law_of") rfl) (c.def_ 8 (d := d_l_of) rfl) fun _ _ _ _ _ _ us hl => match us, hl with | [_, _], _ => rfl
  have D_l_size : Def0 K mg "_law_size" s_l_size ["_law_hand_here"] := def0_mk X G (c.fact 9 (f := .glo "_law_size") rfl) (c.def_ 9 (d := d_l_size) rfl) fun _ _ _ _ _ _ us hl => match us, hl with | [_], _ => rfl
  have D_l_look : Def0 K mg "_law_look" s_l_look ["_law_hand_here", "_law_size_here"] := def0_mk X G (c.fact 10 (f := .glo "_law_look") rfl) (c.def_ 10 (d := d_l_look) rfl) fun _ _ _ _ _ _ us hl => match us, hl with | [_, _], _ => rfl
  have D_l_is_done : Def0 K mg "_law_is_done" s_l_is_done ["_law_look_here", "_law_number", "_law_fate", "_law_size_here"] := def0_mk X G (c.fact 11 (f := .glo "_law_is_done") rfl) (c.def_ 11 (d := d_l_is_done) rfl) fun _ _ _ _ _ _ us hl => match us, hl with | [_, _, _, _], _ => rfl
  have D_l_worth : Def0 K mg "_law_worth" s_l_worth ["_law_hand_here"] := def0_mk X G (c.fact 12 (f := .glo "_law_worth") rfl) (c.def_ 12 (d := d_l_worth) rfl) fun _ _ _ _ _ _ us hl => match us, hl with | [_], _ => rfl
  have D_l_near : Def0 K mg "_law_near" s_l_near ["_law_hand_here", "_law_look_here", "_law_size_here"] := def0_mk X G (c.fact 13 (f := .glo "_law_near") rfl) (c.def_ 13 (d := d_l_near) rfl) fun _ _ _ _ _ _ us hl => match us, hl with | [_, _, _], _ => rfl
  have D_l_fates : Def0 K mg "_law_fates" s_l_fates ["_law_hand_here", "_law_numbers"] := def0_mk X G (c.fact 14 (f := .glo "_law_fates") rfl) (c.def_ 14 (d := d_l_fates) rfl) fun _ _ _ _ _ _ us hl => match us, hl with | [_, _], _ => rfl
  have D_l_state : Def0 K mg "_law_state" s_l_state ["_law_version", "_law_look_here", "_law_fates_here", "_law_mine", "_law_size_here"] := def0_mk X G (c.fact 15 (f := .glo "_law_state") rfl) (c.def_ 15 (d := d_l_state) rfl) fun _ _ _ _ _ _ us hl => match us, hl with | [_, _, _, _, _], _ => rfl
  have D_l_versions : Def0 K mg "_law_versions" s_l_versions ["_law_hand_here", "_law_look_here", "_law_size_here", "_law_many"] := def0_mk X G (c.fact 16 (f := .glo "_law_versions") rfl) (c.def_ 16 (d := d_l_versions) rfl) fun _ _ _ _ _ _ us hl => match us, hl with | [_, _, _, _], _ => rfl
  have D_l_one_each : Def0 K mg "_law_one_each" s_l_one_each ["_law_versions_here", "_law_look_here", "_law_fates_here", "_law_mine", "_law_size_here"] := def0_mk X G (c.fact 17 (f := .glo "_law_one_each") rfl) (c.def_ 17 (d := d_l_one_each) rfl) fun _ _ _ _ _ _ us hl => match us, hl with | [_, _, _, _, _], _ => rfl
  have D_l_told : Def0 K mg "_law_told" s_l_told ["_law_versions_here", "_law_look_here", "_law_fates_here", "_law_mine", "_law_size_here"] := def0_mk X G (c.fact 18 (f := .glo "_law_told") rfl) (c.def_ 18 (d := d_l_told) rfl) fun _ _ _ _ _ _ us hl => match us, hl with | [_, _, _, _, _], _ => rfl
  obtain ⟨fd, F⟩ := c.def_ 19 (d := d_law) rfl
  have e := hfa.symm.trans (He.glo_ok X G (c.fact 19 (f := .glo "law") rfl))
  cases e
  have b := FunD.bindsA (ps := ["_law_script"]) F fun _ _ _ _ _ _ us hl => match us, hl with | [_], _ => rfl
  refine ⟨fd, fun s v => b s [v] rfl, fun base _ _ TBs => ?_⟩
  obtain ⟨K_steps, C_steps⟩ := D_steps.ok (P := P) (w := w) (base := base) (sp := spSteps) sc_steps (fun vs H Q E h => by first | (rcases h with ⟨_, _, _, _, rfl, _⟩ | ⟨_, _, _, _, rfl, _⟩ <;> rfl) | (obtain ⟨rfl, _⟩ := h; rfl) | (obtain ⟨_, rfl, _⟩ := h; rfl) | (obtain ⟨_, _, rfl, _⟩ := h; rfl) | (obtain ⟨_, _, _, rfl, _⟩ := h; rfl) | (obtain ⟨_, _, _, _, rfl, _⟩ := h; rfl) | (obtain ⟨_, _, _, _, _, rfl, _⟩ := h; rfl) | (obtain ⟨_, _, _, _, _, _, rfl, _⟩ := h; rfl) | (obtain ⟨_, _, _, _, _, _, _, rfl, _⟩ := h; rfl) | (obtain ⟨_, _, _, _, _, _, _, _, rfl, _⟩ := h; rfl) | (obtain ⟨_, _, _, _, _, _, _, _, _, rfl, _⟩ := h; rfl) | (obtain ⟨_, _, _, _, _, _, _, _, _, _, rfl, _⟩ := h; rfl) | (obtain ⟨_, _, _, _, _, _, _, _, _, _, _, rfl, _⟩ := h; rfl) | (obtain ⟨_, _, _, _, _, _, _, _, _, _, _, _, rfl, _⟩ := h; rfl) | (obtain ⟨_, _, _, _, _, _, _, _, _, _, _, _, _, rfl, _⟩ := h; rfl) | (obtain ⟨_, _, _, _, _, _, _, _, _, _, _, _, _, _, rfl, _⟩ := h; rfl) | (obtain ⟨_, _, _, _, _, _, _, _, _, _, _, _, _, _, _, rfl, _⟩ := h; rfl) | (obtain ⟨_, _, _, _, _, _, _, _, _, _, _, _, _, _, _, _, rfl, _⟩ := h; rfl) | (obtain ⟨_, _, _, _, _, _, _, _, _, _, _, _, _, _, _, _, _, rfl, _⟩ := h; rfl)) (ok_steps)
  obtain ⟨K_before, C_before⟩ := D_before.ok (P := P) (w := w) (base := base) (sp := spBefore) sc_before (fun vs H Q E h => by first | (rcases h with ⟨_, _, _, _, rfl, _⟩ | ⟨_, _, _, _, rfl, _⟩ <;> rfl) | (obtain ⟨rfl, _⟩ := h; rfl) | (obtain ⟨_, rfl, _⟩ := h; rfl) | (obtain ⟨_, _, rfl, _⟩ := h; rfl) | (obtain ⟨_, _, _, rfl, _⟩ := h; rfl) | (obtain ⟨_, _, _, _, rfl, _⟩ := h; rfl) | (obtain ⟨_, _, _, _, _, rfl, _⟩ := h; rfl) | (obtain ⟨_, _, _, _, _, _, rfl, _⟩ := h; rfl) | (obtain ⟨_, _, _, _, _, _, _, rfl, _⟩ := h; rfl) | (obtain ⟨_, _, _, _, _, _, _, _, rfl, _⟩ := h; rfl) | (obtain ⟨_, _, _, _, _, _, _, _, _, rfl, _⟩ := h; rfl) | (obtain ⟨_, _, _, _, _, _, _, _, _, _, rfl, _⟩ := h; rfl) | (obtain ⟨_, _, _, _, _, _, _, _, _, _, _, rfl, _⟩ := h; rfl) | (obtain ⟨_, _, _, _, _, _, _, _, _, _, _, _, rfl, _⟩ := h; rfl) | (obtain ⟨_, _, _, _, _, _, _, _, _, _, _, _, _, rfl, _⟩ := h; rfl) | (obtain ⟨_, _, _, _, _, _, _, _, _, _, _, _, _, _, rfl, _⟩ := h; rfl) | (obtain ⟨_, _, _, _, _, _, _, _, _, _, _, _, _, _, _, rfl, _⟩ := h; rfl) | (obtain ⟨_, _, _, _, _, _, _, _, _, _, _, _, _, _, _, _, rfl, _⟩ := h; rfl) | (obtain ⟨_, _, _, _, _, _, _, _, _, _, _, _, _, _, _, _, _, rfl, _⟩ := h; rfl)) (ok_before K_steps)
  obtain ⟨K_sees, C_sees⟩ := D_sees.ok (P := P) (w := w) (base := base) (sp := spSees K) sc_sees (fun vs H Q E h => by first | (rcases h with ⟨_, _, _, _, rfl, _⟩ | ⟨_, _, _, _, rfl, _⟩ <;> rfl) | (obtain ⟨rfl, _⟩ := h; rfl) | (obtain ⟨_, rfl, _⟩ := h; rfl) | (obtain ⟨_, _, rfl, _⟩ := h; rfl) | (obtain ⟨_, _, _, rfl, _⟩ := h; rfl) | (obtain ⟨_, _, _, _, rfl, _⟩ := h; rfl) | (obtain ⟨_, _, _, _, _, rfl, _⟩ := h; rfl) | (obtain ⟨_, _, _, _, _, _, rfl, _⟩ := h; rfl) | (obtain ⟨_, _, _, _, _, _, _, rfl, _⟩ := h; rfl) | (obtain ⟨_, _, _, _, _, _, _, _, rfl, _⟩ := h; rfl) | (obtain ⟨_, _, _, _, _, _, _, _, _, rfl, _⟩ := h; rfl) | (obtain ⟨_, _, _, _, _, _, _, _, _, _, rfl, _⟩ := h; rfl) | (obtain ⟨_, _, _, _, _, _, _, _, _, _, _, rfl, _⟩ := h; rfl) | (obtain ⟨_, _, _, _, _, _, _, _, _, _, _, _, rfl, _⟩ := h; rfl) | (obtain ⟨_, _, _, _, _, _, _, _, _, _, _, _, _, rfl, _⟩ := h; rfl) | (obtain ⟨_, _, _, _, _, _, _, _, _, _, _, _, _, _, rfl, _⟩ := h; rfl) | (obtain ⟨_, _, _, _, _, _, _, _, _, _, _, _, _, _, _, rfl, _⟩ := h; rfl) | (obtain ⟨_, _, _, _, _, _, _, _, _, _, _, _, _, _, _, _, rfl, _⟩ := h; rfl) | (obtain ⟨_, _, _, _, _, _, _, _, _, _, _, _, _, _, _, _, _, rfl, _⟩ := h; rfl)) (ok_sees K_before)
  have C_state_among := D_state_among.cal (P := P) (w := w) (base := base) (sp := spStA K) sc_state_among (fun vs H Q E h => by first | (rcases h with ⟨_, _, _, _, rfl, _⟩ | ⟨_, _, _, _, rfl, _⟩ <;> rfl) | (obtain ⟨rfl, _⟩ := h; rfl) | (obtain ⟨_, rfl, _⟩ := h; rfl) | (obtain ⟨_, _, rfl, _⟩ := h; rfl) | (obtain ⟨_, _, _, rfl, _⟩ := h; rfl) | (obtain ⟨_, _, _, _, rfl, _⟩ := h; rfl) | (obtain ⟨_, _, _, _, _, rfl, _⟩ := h; rfl) | (obtain ⟨_, _, _, _, _, _, rfl, _⟩ := h; rfl) | (obtain ⟨_, _, _, _, _, _, _, rfl, _⟩ := h; rfl) | (obtain ⟨_, _, _, _, _, _, _, _, rfl, _⟩ := h; rfl) | (obtain ⟨_, _, _, _, _, _, _, _, _, rfl, _⟩ := h; rfl) | (obtain ⟨_, _, _, _, _, _, _, _, _, _, rfl, _⟩ := h; rfl) | (obtain ⟨_, _, _, _, _, _, _, _, _, _, _, rfl, _⟩ := h; rfl) | (obtain ⟨_, _, _, _, _, _, _, _, _, _, _, _, rfl, _⟩ := h; rfl) | (obtain ⟨_, _, _, _, _, _, _, _, _, _, _, _, _, rfl, _⟩ := h; rfl) | (obtain ⟨_, _, _, _, _, _, _, _, _, _, _, _, _, _, rfl, _⟩ := h; rfl) | (obtain ⟨_, _, _, _, _, _, _, _, _, _, _, _, _, _, _, rfl, _⟩ := h; rfl) | (obtain ⟨_, _, _, _, _, _, _, _, _, _, _, _, _, _, _, _, rfl, _⟩ := h; rfl) | (obtain ⟨_, _, _, _, _, _, _, _, _, _, _, _, _, _, _, _, _, rfl, _⟩ := h; rfl)) (ok_stA K_sees)
  have C_shown_among := D_shown_among.cal (P := P) (w := w) (base := base) (sp := spShA K) sc_shown_among (fun vs H Q E h => by first | (rcases h with ⟨_, _, _, _, rfl, _⟩ | ⟨_, _, _, _, rfl, _⟩ <;> rfl) | (obtain ⟨rfl, _⟩ := h; rfl) | (obtain ⟨_, rfl, _⟩ := h; rfl) | (obtain ⟨_, _, rfl, _⟩ := h; rfl) | (obtain ⟨_, _, _, rfl, _⟩ := h; rfl) | (obtain ⟨_, _, _, _, rfl, _⟩ := h; rfl) | (obtain ⟨_, _, _, _, _, rfl, _⟩ := h; rfl) | (obtain ⟨_, _, _, _, _, _, rfl, _⟩ := h; rfl) | (obtain ⟨_, _, _, _, _, _, _, rfl, _⟩ := h; rfl) | (obtain ⟨_, _, _, _, _, _, _, _, rfl, _⟩ := h; rfl) | (obtain ⟨_, _, _, _, _, _, _, _, _, rfl, _⟩ := h; rfl) | (obtain ⟨_, _, _, _, _, _, _, _, _, _, rfl, _⟩ := h; rfl) | (obtain ⟨_, _, _, _, _, _, _, _, _, _, _, rfl, _⟩ := h; rfl) | (obtain ⟨_, _, _, _, _, _, _, _, _, _, _, _, rfl, _⟩ := h; rfl) | (obtain ⟨_, _, _, _, _, _, _, _, _, _, _, _, _, rfl, _⟩ := h; rfl) | (obtain ⟨_, _, _, _, _, _, _, _, _, _, _, _, _, _, rfl, _⟩ := h; rfl) | (obtain ⟨_, _, _, _, _, _, _, _, _, _, _, _, _, _, _, rfl, _⟩ := h; rfl) | (obtain ⟨_, _, _, _, _, _, _, _, _, _, _, _, _, _, _, _, rfl, _⟩ := h; rfl) | (obtain ⟨_, _, _, _, _, _, _, _, _, _, _, _, _, _, _, _, _, rfl, _⟩ := h; rfl)) (ok_shA T C_state_among)
  obtain ⟨W_shown_ring_own, W_shown_own_ring, W_shown_ring, W_shown_own⟩ := kw_two (st := s_shown) (P := P) (w := w) (base := base) (sp := spSh K) X G (c.fact 3 (f := .glo "shown") rfl) (c.def_ 3 (d := d_shown) rfl) sc_shown (fun vs H Q E h => by obtain ⟨_, _, _, _, _, _, _, _, _, _, rfl, _⟩ := h; rfl) (ok_sh T C_shown_among) (fun _ _ _ _ _ _ _ _ _ _ _ => rfl) (fun _ _ _ _ _ _ _ _ _ _ _ => rfl) (fun _ _ _ _ _ _ _ _ _ _ _ => ⟨_, _, _, _, _, _, rfl, rfl, rfl⟩) (fun _ _ _ _ _ _ _ _ _ _ _ => ⟨_, _, _, _, _, _, rfl, rfl, rfl⟩)
  have C_l_hand := D_l_hand.cal (P := P) (w := w) (base := base) (sp := spHand K) sc_l_hand (fun vs H Q E h => by first | (rcases h with ⟨_, _, _, _, rfl, _⟩ | ⟨_, _, _, _, rfl, _⟩ <;> rfl) | (obtain ⟨rfl, _⟩ := h; rfl) | (obtain ⟨_, rfl, _⟩ := h; rfl) | (obtain ⟨_, _, rfl, _⟩ := h; rfl) | (obtain ⟨_, _, _, rfl, _⟩ := h; rfl) | (obtain ⟨_, _, _, _, rfl, _⟩ := h; rfl) | (obtain ⟨_, _, _, _, _, rfl, _⟩ := h; rfl) | (obtain ⟨_, _, _, _, _, _, rfl, _⟩ := h; rfl) | (obtain ⟨_, _, _, _, _, _, _, rfl, _⟩ := h; rfl) | (obtain ⟨_, _, _, _, _, _, _, _, rfl, _⟩ := h; rfl) | (obtain ⟨_, _, _, _, _, _, _, _, _, rfl, _⟩ := h; rfl) | (obtain ⟨_, _, _, _, _, _, _, _, _, _, rfl, _⟩ := h; rfl) | (obtain ⟨_, _, _, _, _, _, _, _, _, _, _, rfl, _⟩ := h; rfl) | (obtain ⟨_, _, _, _, _, _, _, _, _, _, _, _, rfl, _⟩ := h; rfl) | (obtain ⟨_, _, _, _, _, _, _, _, _, _, _, _, _, rfl, _⟩ := h; rfl) | (obtain ⟨_, _, _, _, _, _, _, _, _, _, _, _, _, _, rfl, _⟩ := h; rfl) | (obtain ⟨_, _, _, _, _, _, _, _, _, _, _, _, _, _, _, rfl, _⟩ := h; rfl) | (obtain ⟨_, _, _, _, _, _, _, _, _, _, _, _, _, _, _, _, rfl, _⟩ := h; rfl) | (obtain ⟨_, _, _, _, _, _, _, _, _, _, _, _, _, _, _, _, _, rfl, _⟩ := h; rfl)) (ok_hand T)
  have C_l_take := D_l_take.cal (P := P) (w := w) (base := base) (sp := spTake) sc_l_take (fun vs H Q E h => by first | (rcases h with ⟨_, _, _, _, rfl, _⟩ | ⟨_, _, _, _, rfl, _⟩ <;> rfl) | (obtain ⟨rfl, _⟩ := h; rfl) | (obtain ⟨_, rfl, _⟩ := h; rfl) | (obtain ⟨_, _, rfl, _⟩ := h; rfl) | (obtain ⟨_, _, _, rfl, _⟩ := h; rfl) | (obtain ⟨_, _, _, _, rfl, _⟩ := h; rfl) | (obtain ⟨_, _, _, _, _, rfl, _⟩ := h; rfl) | (obtain ⟨_, _, _, _, _, _, rfl, _⟩ := h; rfl) | (obtain ⟨_, _, _, _, _, _, _, rfl, _⟩ := h; rfl) | (obtain ⟨_, _, _, _, _, _, _, _, rfl, _⟩ := h; rfl) | (obtain ⟨_, _, _, _, _, _, _, _, _, rfl, _⟩ := h; rfl) | (obtain ⟨_, _, _, _, _, _, _, _, _, _, rfl, _⟩ := h; rfl) | (obtain ⟨_, _, _, _, _, _, _, _, _, _, _, rfl, _⟩ := h; rfl) | (obtain ⟨_, _, _, _, _, _, _, _, _, _, _, _, rfl, _⟩ := h; rfl) | (obtain ⟨_, _, _, _, _, _, _, _, _, _, _, _, _, rfl, _⟩ := h; rfl) | (obtain ⟨_, _, _, _, _, _, _, _, _, _, _, _, _, _, rfl, _⟩ := h; rfl) | (obtain ⟨_, _, _, _, _, _, _, _, _, _, _, _, _, _, _, rfl, _⟩ := h; rfl) | (obtain ⟨_, _, _, _, _, _, _, _, _, _, _, _, _, _, _, _, rfl, _⟩ := h; rfl) | (obtain ⟨_, _, _, _, _, _, _, _, _, _, _, _, _, _, _, _, _, rfl, _⟩ := h; rfl)) (ok_take T)
  have C_l_of := D_l_of.cal (P := P) (w := w) (base := base) (sp := spOf2 K) sc_l_of (fun vs H Q E h => by first | (rcases h with ⟨_, _, _, _, rfl, _⟩ | ⟨_, _, _, _, rfl, _⟩ <;> rfl) | (obtain ⟨rfl, _⟩ := h; rfl) | (obtain ⟨_, rfl, _⟩ := h; rfl) | (obtain ⟨_, _, rfl, _⟩ := h; rfl) | (obtain ⟨_, _, _, rfl, _⟩ := h; rfl) | (obtain ⟨_, _, _, _, rfl, _⟩ := h; rfl) | (obtain ⟨_, _, _, _, _, rfl, _⟩ := h; rfl) | (obtain ⟨_, _, _, _, _, _, rfl, _⟩ := h; rfl) | (obtain ⟨_, _, _, _, _, _, _, rfl, _⟩ := h; rfl) | (obtain ⟨_, _, _, _, _, _, _, _, rfl, _⟩ := h; rfl) | (obtain ⟨_, _, _, _, _, _, _, _, _, rfl, _⟩ := h; rfl) | (obtain ⟨_, _, _, _, _, _, _, _, _, _, rfl, _⟩ := h; rfl) | (obtain ⟨_, _, _, _, _, _, _, _, _, _, _, rfl, _⟩ := h; rfl) | (obtain ⟨_, _, _, _, _, _, _, _, _, _, _, _, rfl, _⟩ := h; rfl) | (obtain ⟨_, _, _, _, _, _, _, _, _, _, _, _, _, rfl, _⟩ := h; rfl) | (obtain ⟨_, _, _, _, _, _, _, _, _, _, _, _, _, _, rfl, _⟩ := h; rfl) | (obtain ⟨_, _, _, _, _, _, _, _, _, _, _, _, _, _, _, rfl, _⟩ := h; rfl) | (obtain ⟨_, _, _, _, _, _, _, _, _, _, _, _, _, _, _, _, rfl, _⟩ := h; rfl) | (obtain ⟨_, _, _, _, _, _, _, _, _, _, _, _, _, _, _, _, _, rfl, _⟩ := h; rfl)) (ok_of2 T C_l_take)
  have C_l_size := D_l_size.cal (P := P) (w := w) (base := base) (sp := spSize) sc_l_size (fun vs H Q E h => by first | (rcases h with ⟨_, _, _, _, rfl, _⟩ | ⟨_, _, _, _, rfl, _⟩ <;> rfl) | (obtain ⟨rfl, _⟩ := h; rfl) | (obtain ⟨_, rfl, _⟩ := h; rfl) | (obtain ⟨_, _, rfl, _⟩ := h; rfl) | (obtain ⟨_, _, _, rfl, _⟩ := h; rfl) | (obtain ⟨_, _, _, _, rfl, _⟩ := h; rfl) | (obtain ⟨_, _, _, _, _, rfl, _⟩ := h; rfl) | (obtain ⟨_, _, _, _, _, _, rfl, _⟩ := h; rfl) | (obtain ⟨_, _, _, _, _, _, _, rfl, _⟩ := h; rfl) | (obtain ⟨_, _, _, _, _, _, _, _, rfl, _⟩ := h; rfl) | (obtain ⟨_, _, _, _, _, _, _, _, _, rfl, _⟩ := h; rfl) | (obtain ⟨_, _, _, _, _, _, _, _, _, _, rfl, _⟩ := h; rfl) | (obtain ⟨_, _, _, _, _, _, _, _, _, _, _, rfl, _⟩ := h; rfl) | (obtain ⟨_, _, _, _, _, _, _, _, _, _, _, _, rfl, _⟩ := h; rfl) | (obtain ⟨_, _, _, _, _, _, _, _, _, _, _, _, _, rfl, _⟩ := h; rfl) | (obtain ⟨_, _, _, _, _, _, _, _, _, _, _, _, _, _, rfl, _⟩ := h; rfl) | (obtain ⟨_, _, _, _, _, _, _, _, _, _, _, _, _, _, _, rfl, _⟩ := h; rfl) | (obtain ⟨_, _, _, _, _, _, _, _, _, _, _, _, _, _, _, _, rfl, _⟩ := h; rfl) | (obtain ⟨_, _, _, _, _, _, _, _, _, _, _, _, _, _, _, _, _, rfl, _⟩ := h; rfl)) (ok_size T C_l_take (cal_weak C_l_of fun _ _ _ _ h => .inl h))
  have C_l_look := D_l_look.cal (P := P) (w := w) (base := base) (sp := spLook K) sc_l_look (fun vs H Q E h => by first | (rcases h with ⟨_, _, _, _, rfl, _⟩ | ⟨_, _, _, _, rfl, _⟩ <;> rfl) | (obtain ⟨rfl, _⟩ := h; rfl) | (obtain ⟨_, rfl, _⟩ := h; rfl) | (obtain ⟨_, _, rfl, _⟩ := h; rfl) | (obtain ⟨_, _, _, rfl, _⟩ := h; rfl) | (obtain ⟨_, _, _, _, rfl, _⟩ := h; rfl) | (obtain ⟨_, _, _, _, _, rfl, _⟩ := h; rfl) | (obtain ⟨_, _, _, _, _, _, rfl, _⟩ := h; rfl) | (obtain ⟨_, _, _, _, _, _, _, rfl, _⟩ := h; rfl) | (obtain ⟨_, _, _, _, _, _, _, _, rfl, _⟩ := h; rfl) | (obtain ⟨_, _, _, _, _, _, _, _, _, rfl, _⟩ := h; rfl) | (obtain ⟨_, _, _, _, _, _, _, _, _, _, rfl, _⟩ := h; rfl) | (obtain ⟨_, _, _, _, _, _, _, _, _, _, _, rfl, _⟩ := h; rfl) | (obtain ⟨_, _, _, _, _, _, _, _, _, _, _, _, rfl, _⟩ := h; rfl) | (obtain ⟨_, _, _, _, _, _, _, _, _, _, _, _, _, rfl, _⟩ := h; rfl) | (obtain ⟨_, _, _, _, _, _, _, _, _, _, _, _, _, _, rfl, _⟩ := h; rfl) | (obtain ⟨_, _, _, _, _, _, _, _, _, _, _, _, _, _, _, rfl, _⟩ := h; rfl) | (obtain ⟨_, _, _, _, _, _, _, _, _, _, _, _, _, _, _, _, rfl, _⟩ := h; rfl) | (obtain ⟨_, _, _, _, _, _, _, _, _, _, _, _, _, _, _, _, _, rfl, _⟩ := h; rfl)) (ok_look T C_l_take (cal_weak C_l_of fun _ _ _ _ h => .inl h))
  have C_l_is_done := D_l_is_done.cal (P := P) (w := w) (base := base) (sp := spSees K) sc_l_is_done (fun vs H Q E h => by first | (rcases h with ⟨_, _, _, _, rfl, _⟩ | ⟨_, _, _, _, rfl, _⟩ <;> rfl) | (obtain ⟨rfl, _⟩ := h; rfl) | (obtain ⟨_, rfl, _⟩ := h; rfl) | (obtain ⟨_, _, rfl, _⟩ := h; rfl) | (obtain ⟨_, _, _, rfl, _⟩ := h; rfl) | (obtain ⟨_, _, _, _, rfl, _⟩ := h; rfl) | (obtain ⟨_, _, _, _, _, rfl, _⟩ := h; rfl) | (obtain ⟨_, _, _, _, _, _, rfl, _⟩ := h; rfl) | (obtain ⟨_, _, _, _, _, _, _, rfl, _⟩ := h; rfl) | (obtain ⟨_, _, _, _, _, _, _, _, rfl, _⟩ := h; rfl) | (obtain ⟨_, _, _, _, _, _, _, _, _, rfl, _⟩ := h; rfl) | (obtain ⟨_, _, _, _, _, _, _, _, _, _, rfl, _⟩ := h; rfl) | (obtain ⟨_, _, _, _, _, _, _, _, _, _, _, rfl, _⟩ := h; rfl) | (obtain ⟨_, _, _, _, _, _, _, _, _, _, _, _, rfl, _⟩ := h; rfl) | (obtain ⟨_, _, _, _, _, _, _, _, _, _, _, _, _, rfl, _⟩ := h; rfl) | (obtain ⟨_, _, _, _, _, _, _, _, _, _, _, _, _, _, rfl, _⟩ := h; rfl) | (obtain ⟨_, _, _, _, _, _, _, _, _, _, _, _, _, _, _, rfl, _⟩ := h; rfl) | (obtain ⟨_, _, _, _, _, _, _, _, _, _, _, _, _, _, _, _, rfl, _⟩ := h; rfl) | (obtain ⟨_, _, _, _, _, _, _, _, _, _, _, _, _, _, _, _, _, rfl, _⟩ := h; rfl)) (ok_done T)
  have C_l_worth := D_l_worth.cal (P := P) (w := w) (base := base) (sp := spWorth2) sc_l_worth (fun vs H Q E h => by first | (rcases h with ⟨_, _, _, _, rfl, _⟩ | ⟨_, _, _, _, rfl, _⟩ <;> rfl) | (obtain ⟨rfl, _⟩ := h; rfl) | (obtain ⟨_, rfl, _⟩ := h; rfl) | (obtain ⟨_, _, rfl, _⟩ := h; rfl) | (obtain ⟨_, _, _, rfl, _⟩ := h; rfl) | (obtain ⟨_, _, _, _, rfl, _⟩ := h; rfl) | (obtain ⟨_, _, _, _, _, rfl, _⟩ := h; rfl) | (obtain ⟨_, _, _, _, _, _, rfl, _⟩ := h; rfl) | (obtain ⟨_, _, _, _, _, _, _, rfl, _⟩ := h; rfl) | (obtain ⟨_, _, _, _, _, _, _, _, rfl, _⟩ := h; rfl) | (obtain ⟨_, _, _, _, _, _, _, _, _, rfl, _⟩ := h; rfl) | (obtain ⟨_, _, _, _, _, _, _, _, _, _, rfl, _⟩ := h; rfl) | (obtain ⟨_, _, _, _, _, _, _, _, _, _, _, rfl, _⟩ := h; rfl) | (obtain ⟨_, _, _, _, _, _, _, _, _, _, _, _, rfl, _⟩ := h; rfl) | (obtain ⟨_, _, _, _, _, _, _, _, _, _, _, _, _, rfl, _⟩ := h; rfl) | (obtain ⟨_, _, _, _, _, _, _, _, _, _, _, _, _, _, rfl, _⟩ := h; rfl) | (obtain ⟨_, _, _, _, _, _, _, _, _, _, _, _, _, _, _, rfl, _⟩ := h; rfl) | (obtain ⟨_, _, _, _, _, _, _, _, _, _, _, _, _, _, _, _, rfl, _⟩ := h; rfl) | (obtain ⟨_, _, _, _, _, _, _, _, _, _, _, _, _, _, _, _, _, rfl, _⟩ := h; rfl)) (ok_worth2 T C_l_take C_l_of)
  have C_l_near := D_l_near.cal (P := P) (w := w) (base := base) (sp := spNear K) sc_l_near (fun vs H Q E h => by first | (rcases h with ⟨_, _, _, _, rfl, _⟩ | ⟨_, _, _, _, rfl, _⟩ <;> rfl) | (obtain ⟨rfl, _⟩ := h; rfl) | (obtain ⟨_, rfl, _⟩ := h; rfl) | (obtain ⟨_, _, rfl, _⟩ := h; rfl) | (obtain ⟨_, _, _, rfl, _⟩ := h; rfl) | (obtain ⟨_, _, _, _, rfl, _⟩ := h; rfl) | (obtain ⟨_, _, _, _, _, rfl, _⟩ := h; rfl) | (obtain ⟨_, _, _, _, _, _, rfl, _⟩ := h; rfl) | (obtain ⟨_, _, _, _, _, _, _, rfl, _⟩ := h; rfl) | (obtain ⟨_, _, _, _, _, _, _, _, rfl, _⟩ := h; rfl) | (obtain ⟨_, _, _, _, _, _, _, _, _, rfl, _⟩ := h; rfl) | (obtain ⟨_, _, _, _, _, _, _, _, _, _, rfl, _⟩ := h; rfl) | (obtain ⟨_, _, _, _, _, _, _, _, _, _, _, rfl, _⟩ := h; rfl) | (obtain ⟨_, _, _, _, _, _, _, _, _, _, _, _, rfl, _⟩ := h; rfl) | (obtain ⟨_, _, _, _, _, _, _, _, _, _, _, _, _, rfl, _⟩ := h; rfl) | (obtain ⟨_, _, _, _, _, _, _, _, _, _, _, _, _, _, rfl, _⟩ := h; rfl) | (obtain ⟨_, _, _, _, _, _, _, _, _, _, _, _, _, _, _, rfl, _⟩ := h; rfl) | (obtain ⟨_, _, _, _, _, _, _, _, _, _, _, _, _, _, _, _, rfl, _⟩ := h; rfl) | (obtain ⟨_, _, _, _, _, _, _, _, _, _, _, _, _, _, _, _, _, rfl, _⟩ := h; rfl)) (ok_near T C_l_take C_l_of)
  have C_l_fates := D_l_fates.cal (P := P) (w := w) (base := base) (sp := spFates K) sc_l_fates (fun vs H Q E h => by first | (rcases h with ⟨_, _, _, _, rfl, _⟩ | ⟨_, _, _, _, rfl, _⟩ <;> rfl) | (obtain ⟨rfl, _⟩ := h; rfl) | (obtain ⟨_, rfl, _⟩ := h; rfl) | (obtain ⟨_, _, rfl, _⟩ := h; rfl) | (obtain ⟨_, _, _, rfl, _⟩ := h; rfl) | (obtain ⟨_, _, _, _, rfl, _⟩ := h; rfl) | (obtain ⟨_, _, _, _, _, rfl, _⟩ := h; rfl) | (obtain ⟨_, _, _, _, _, _, rfl, _⟩ := h; rfl) | (obtain ⟨_, _, _, _, _, _, _, rfl, _⟩ := h; rfl) | (obtain ⟨_, _, _, _, _, _, _, _, rfl, _⟩ := h; rfl) | (obtain ⟨_, _, _, _, _, _, _, _, _, rfl, _⟩ := h; rfl) | (obtain ⟨_, _, _, _, _, _, _, _, _, _, rfl, _⟩ := h; rfl) | (obtain ⟨_, _, _, _, _, _, _, _, _, _, _, rfl, _⟩ := h; rfl) | (obtain ⟨_, _, _, _, _, _, _, _, _, _, _, _, rfl, _⟩ := h; rfl) | (obtain ⟨_, _, _, _, _, _, _, _, _, _, _, _, _, rfl, _⟩ := h; rfl) | (obtain ⟨_, _, _, _, _, _, _, _, _, _, _, _, _, _, rfl, _⟩ := h; rfl) | (obtain ⟨_, _, _, _, _, _, _, _, _, _, _, _, _, _, _, rfl, _⟩ := h; rfl) | (obtain ⟨_, _, _, _, _, _, _, _, _, _, _, _, _, _, _, _, rfl, _⟩ := h; rfl) | (obtain ⟨_, _, _, _, _, _, _, _, _, _, _, _, _, _, _, _, _, rfl, _⟩ := h; rfl)) (ok_fates T C_l_take C_l_of)
  have C_l_state := D_l_state.cal (P := P) (w := w) (base := base) (sp := spSt K) sc_l_state (fun vs H Q E h => by first | (rcases h with ⟨_, _, _, _, rfl, _⟩ | ⟨_, _, _, _, rfl, _⟩ <;> rfl) | (obtain ⟨rfl, _⟩ := h; rfl) | (obtain ⟨_, rfl, _⟩ := h; rfl) | (obtain ⟨_, _, rfl, _⟩ := h; rfl) | (obtain ⟨_, _, _, rfl, _⟩ := h; rfl) | (obtain ⟨_, _, _, _, rfl, _⟩ := h; rfl) | (obtain ⟨_, _, _, _, _, rfl, _⟩ := h; rfl) | (obtain ⟨_, _, _, _, _, _, rfl, _⟩ := h; rfl) | (obtain ⟨_, _, _, _, _, _, _, rfl, _⟩ := h; rfl) | (obtain ⟨_, _, _, _, _, _, _, _, rfl, _⟩ := h; rfl) | (obtain ⟨_, _, _, _, _, _, _, _, _, rfl, _⟩ := h; rfl) | (obtain ⟨_, _, _, _, _, _, _, _, _, _, rfl, _⟩ := h; rfl) | (obtain ⟨_, _, _, _, _, _, _, _, _, _, _, rfl, _⟩ := h; rfl) | (obtain ⟨_, _, _, _, _, _, _, _, _, _, _, _, rfl, _⟩ := h; rfl) | (obtain ⟨_, _, _, _, _, _, _, _, _, _, _, _, _, rfl, _⟩ := h; rfl) | (obtain ⟨_, _, _, _, _, _, _, _, _, _, _, _, _, _, rfl, _⟩ := h; rfl) | (obtain ⟨_, _, _, _, _, _, _, _, _, _, _, _, _, _, _, rfl, _⟩ := h; rfl) | (obtain ⟨_, _, _, _, _, _, _, _, _, _, _, _, _, _, _, _, rfl, _⟩ := h; rfl) | (obtain ⟨_, _, _, _, _, _, _, _, _, _, _, _, _, _, _, _, _, rfl, _⟩ := h; rfl)) (ok_lstate T C_l_is_done)
  have C_l_versions := D_l_versions.cal (P := P) (w := w) (base := base) (sp := spVers K) sc_l_versions (fun vs H Q E h => by first | (rcases h with ⟨_, _, _, _, rfl, _⟩ | ⟨_, _, _, _, rfl, _⟩ <;> rfl) | (obtain ⟨rfl, _⟩ := h; rfl) | (obtain ⟨_, rfl, _⟩ := h; rfl) | (obtain ⟨_, _, rfl, _⟩ := h; rfl) | (obtain ⟨_, _, _, rfl, _⟩ := h; rfl) | (obtain ⟨_, _, _, _, rfl, _⟩ := h; rfl) | (obtain ⟨_, _, _, _, _, rfl, _⟩ := h; rfl) | (obtain ⟨_, _, _, _, _, _, rfl, _⟩ := h; rfl) | (obtain ⟨_, _, _, _, _, _, _, rfl, _⟩ := h; rfl) | (obtain ⟨_, _, _, _, _, _, _, _, rfl, _⟩ := h; rfl) | (obtain ⟨_, _, _, _, _, _, _, _, _, rfl, _⟩ := h; rfl) | (obtain ⟨_, _, _, _, _, _, _, _, _, _, rfl, _⟩ := h; rfl) | (obtain ⟨_, _, _, _, _, _, _, _, _, _, _, rfl, _⟩ := h; rfl) | (obtain ⟨_, _, _, _, _, _, _, _, _, _, _, _, rfl, _⟩ := h; rfl) | (obtain ⟨_, _, _, _, _, _, _, _, _, _, _, _, _, rfl, _⟩ := h; rfl) | (obtain ⟨_, _, _, _, _, _, _, _, _, _, _, _, _, _, rfl, _⟩ := h; rfl) | (obtain ⟨_, _, _, _, _, _, _, _, _, _, _, _, _, _, _, rfl, _⟩ := h; rfl) | (obtain ⟨_, _, _, _, _, _, _, _, _, _, _, _, _, _, _, _, rfl, _⟩ := h; rfl) | (obtain ⟨_, _, _, _, _, _, _, _, _, _, _, _, _, _, _, _, _, rfl, _⟩ := h; rfl)) (ok_vers T C_l_of C_l_worth C_l_near)
  have C_l_one_each := D_l_one_each.cal (P := P) (w := w) (base := base) (sp := spOneE K) sc_l_one_each (fun vs H Q E h => by first | (rcases h with ⟨_, _, _, _, rfl, _⟩ | ⟨_, _, _, _, rfl, _⟩ <;> rfl) | (obtain ⟨rfl, _⟩ := h; rfl) | (obtain ⟨_, rfl, _⟩ := h; rfl) | (obtain ⟨_, _, rfl, _⟩ := h; rfl) | (obtain ⟨_, _, _, rfl, _⟩ := h; rfl) | (obtain ⟨_, _, _, _, rfl, _⟩ := h; rfl) | (obtain ⟨_, _, _, _, _, rfl, _⟩ := h; rfl) | (obtain ⟨_, _, _, _, _, _, rfl, _⟩ := h; rfl) | (obtain ⟨_, _, _, _, _, _, _, rfl, _⟩ := h; rfl) | (obtain ⟨_, _, _, _, _, _, _, _, rfl, _⟩ := h; rfl) | (obtain ⟨_, _, _, _, _, _, _, _, _, rfl, _⟩ := h; rfl) | (obtain ⟨_, _, _, _, _, _, _, _, _, _, rfl, _⟩ := h; rfl) | (obtain ⟨_, _, _, _, _, _, _, _, _, _, _, rfl, _⟩ := h; rfl) | (obtain ⟨_, _, _, _, _, _, _, _, _, _, _, _, rfl, _⟩ := h; rfl) | (obtain ⟨_, _, _, _, _, _, _, _, _, _, _, _, _, rfl, _⟩ := h; rfl) | (obtain ⟨_, _, _, _, _, _, _, _, _, _, _, _, _, _, rfl, _⟩ := h; rfl) | (obtain ⟨_, _, _, _, _, _, _, _, _, _, _, _, _, _, _, rfl, _⟩ := h; rfl) | (obtain ⟨_, _, _, _, _, _, _, _, _, _, _, _, _, _, _, _, rfl, _⟩ := h; rfl) | (obtain ⟨_, _, _, _, _, _, _, _, _, _, _, _, _, _, _, _, _, rfl, _⟩ := h; rfl)) (ok_oneE T C_l_state)
  have C_l_told := D_l_told.cal (P := P) (w := w) (base := base) (sp := spTold10 K) sc_l_told (fun vs H Q E h => by first | (rcases h with ⟨_, _, _, _, rfl, _⟩ | ⟨_, _, _, _, rfl, _⟩ <;> rfl) | (obtain ⟨rfl, _⟩ := h; rfl) | (obtain ⟨_, rfl, _⟩ := h; rfl) | (obtain ⟨_, _, rfl, _⟩ := h; rfl) | (obtain ⟨_, _, _, rfl, _⟩ := h; rfl) | (obtain ⟨_, _, _, _, rfl, _⟩ := h; rfl) | (obtain ⟨_, _, _, _, _, rfl, _⟩ := h; rfl) | (obtain ⟨_, _, _, _, _, _, rfl, _⟩ := h; rfl) | (obtain ⟨_, _, _, _, _, _, _, rfl, _⟩ := h; rfl) | (obtain ⟨_, _, _, _, _, _, _, _, rfl, _⟩ := h; rfl) | (obtain ⟨_, _, _, _, _, _, _, _, _, rfl, _⟩ := h; rfl) | (obtain ⟨_, _, _, _, _, _, _, _, _, _, rfl, _⟩ := h; rfl) | (obtain ⟨_, _, _, _, _, _, _, _, _, _, _, rfl, _⟩ := h; rfl) | (obtain ⟨_, _, _, _, _, _, _, _, _, _, _, _, rfl, _⟩ := h; rfl) | (obtain ⟨_, _, _, _, _, _, _, _, _, _, _, _, _, rfl, _⟩ := h; rfl) | (obtain ⟨_, _, _, _, _, _, _, _, _, _, _, _, _, _, rfl, _⟩ := h; rfl) | (obtain ⟨_, _, _, _, _, _, _, _, _, _, _, _, _, _, _, rfl, _⟩ := h; rfl) | (obtain ⟨_, _, _, _, _, _, _, _, _, _, _, _, _, _, _, _, rfl, _⟩ := h; rfl) | (obtain ⟨_, _, _, _, _, _, _, _, _, _, _, _, _, _, _, _, _, rfl, _⟩ := h; rfl)) (ok_told10 T g_RING W_shown_ring_own W_shown_own_ring W_shown_ring W_shown_own)
  refine fnat_ofC (CX := CX0) F sc_law (fun vs H Q E h => by first | (rcases h with ⟨_, _, _, _, rfl, _⟩ | ⟨_, _, _, _, rfl, _⟩ <;> rfl) | (obtain ⟨rfl, _⟩ := h; rfl) | (obtain ⟨_, rfl, _⟩ := h; rfl) | (obtain ⟨_, _, rfl, _⟩ := h; rfl) | (obtain ⟨_, _, _, rfl, _⟩ := h; rfl) | (obtain ⟨_, _, _, _, rfl, _⟩ := h; rfl) | (obtain ⟨_, _, _, _, _, rfl, _⟩ := h; rfl) | (obtain ⟨_, _, _, _, _, _, rfl, _⟩ := h; rfl) | (obtain ⟨_, _, _, _, _, _, _, rfl, _⟩ := h; rfl) | (obtain ⟨_, _, _, _, _, _, _, _, rfl, _⟩ := h; rfl) | (obtain ⟨_, _, _, _, _, _, _, _, _, rfl, _⟩ := h; rfl) | (obtain ⟨_, _, _, _, _, _, _, _, _, _, rfl, _⟩ := h; rfl) | (obtain ⟨_, _, _, _, _, _, _, _, _, _, _, rfl, _⟩ := h; rfl) | (obtain ⟨_, _, _, _, _, _, _, _, _, _, _, _, rfl, _⟩ := h; rfl) | (obtain ⟨_, _, _, _, _, _, _, _, _, _, _, _, _, rfl, _⟩ := h; rfl) | (obtain ⟨_, _, _, _, _, _, _, _, _, _, _, _, _, _, rfl, _⟩ := h; rfl) | (obtain ⟨_, _, _, _, _, _, _, _, _, _, _, _, _, _, _, rfl, _⟩ := h; rfl) | (obtain ⟨_, _, _, _, _, _, _, _, _, _, _, _, _, _, _, _, rfl, _⟩ := h; rfl) | (obtain ⟨_, _, _, _, _, _, _, _, _, _, _, _, _, _, _, _, _, rfl, _⟩ := h; rfl)) (fun cdv h1 h2 s H vs Q E hr h => ?_)
  obtain rfl := code_is (p := ("law", none)) h1 h2
  obtain ⟨t, h1, h2⟩ := ok_law10 (P := P) (w := w) (base := base) T (TBs _ (List.mem_map.mpr ⟨("law", none), List.mem_singleton.mpr rfl, rfl⟩)) C_l_hand C_l_of C_l_size C_l_look C_l_versions C_l_fates C_l_one_each C_l_state C_l_told _ s H vs Q E hr h
  exact ⟨t, h1.nox, h2⟩
end Rd
open PySem PySem.W PySem.Calls PyProof.Rows
theorem PySem.Challenge.cw_roundstore_k10_rows_of_a_look_holds : PySem.Challenge.rw_roundstore_k10_rows_of_a_look.Holds := by
  w_on; o_law
  refine HandSHeadRun.head_any (r := OpenLaw.row PySem.Challenge.rw_roundstore_k10_rows_of_a_look) (q := view (OpenLaw.row PySem.Challenge.rw_roundstore_k10_rows_of_a_look).prog [24]) (H := Rd.hk) (ob := Rd.ob) (M := 2000) (loose := ["RING", "steps", "before", "sees", "shown", "state_among", "shown_among", "_law_hand", "_law_take", "_law_of", "_law_size", "_law_look", "_law_is_done", "_law_worth", "_law_near", "_law_fates", "_law_state", "_law_versions", "_law_one_each", "_law_told"]) (d := HandSHeadRun.topDef (OpenLaw.row PySem.Challenge.rw_roundstore_k10_rows_of_a_look).prog 24) (kwd := []) Rd.ob_eq
    (by kernel_rfl) (fun s => by kernel_rfl) Rd.run (by kernel_rfl) (by kernel_rfl) (by kernel_rfl) (by rfl) (by first | assumption | decide +kernel) (by decide +kernel) ⟨rfl, rfl, rfl, rfl, rfl, by decide +kernel⟩ ?hw ?hc
  case hw => w_witness2
  case hc =>
    refine L2.walk_atT (l := PySem.Challenge.rw_roundstore_k10_rows_of_a_look) (n := 63) (k := 8) (x := "_law_script") rfl (by decide) (by kernel_rfl) ⟨rfl, by decide, by decide⟩ ?F
    intro w mg fa h Y G hmg0
    obtain ⟨K, KX, c⟩ := Y
    have hmg : mg ("law" : PySem.Str) = some (.ref fa) := by
      have e : (HandSHeadRun.topDef (OpenLaw.row PySem.Challenge.rw_roundstore_k10_rows_of_a_look).prog 24).name = ("law" : PySem.Str) := by kernel_rfl
      rw [← e]
      exact hmg0
    obtain ⟨fd, hb, hF⟩ := Rd.facts (P := (PySem.Challenge.rw_roundstore_k10_rows_of_a_look).prog) (w := w) KX G hmg c
    have at_ : ∀ p ∈ Rd.tf.map (He.cT K), ∃ q ∈ Rd.tf, He.cT K q = p := fun p hp => by
      obtain ⟨q, h1, h2⟩ := List.mem_map.mp hp
      exact ⟨q, h1, h2⟩
    refine ⟨K, fd, Rd.tf.map (He.cT K), Rd.spLawT K (He.cT K ("law", none)).2, KX, fun p hp => ?_, fun p hp => ?_, fun p hp => ?_, hb, fun H a ns hl hH hS => ⟨a, ns, rfl, hS, hl, fun p hp => ?_, fun _ => rfl⟩, hF⟩
    · obtain ⟨q, h1, rfl⟩ := at_ p hp
      exact c.empty q h1
    · obtain ⟨q, h1, rfl⟩ := at_ p hp
      exact c.out q h1
    · obtain ⟨q, h1, rfl⟩ := at_ p hp
      exact c.hd q h1
    · obtain rfl := List.mem_singleton.mp hp
      exact LamX.TabS.nil (hH _ (List.mem_map.mpr ⟨("law", none), List.mem_singleton.mpr rfl, rfl⟩))
