import PyProof.Rows.All
import Wide.All
import OpenK.AllK
import Wide.FinOn
import KE.KStateDown
import KE.KExcInit
import KE.KExcIs
import HandS.ForMost
import HandS.Exc
import HandS.ExcOwn
import HandS.ExcInit
import HandS.ExcValue
import HandS.More
import HandS.Conv
import HandS.Flow
import HandS.Style
import HandS.Steps
import HandS.Codes
import HandS.IsInst
import HandS.TupAny
import HandS.Wide
import HandS.WordsExc
import HandS.Defaults
import HandS.Head0
import HandS.Head1
import HandS.Head2
import HandS.HeadEnd
import HandS.HeadHook1
import HandS.HeadHook2
import PySem.Challenge.RW_roundstore_k01_refusals_made_by_hand
set_option Elab.async false
set_option linter.all false
set_option maxRecDepth 100000
set_option maxHeartbeats 8000000
/-! ### making an own exception: the class stands over B, whatever stands between (a KeyError is made by LookupError's way) -/
namespace PySem
namespace OneX
open PySem.W PySem.Calls PyProof.Rows PySem.HandSPX
/-- what the classes above it must say -/
structure Above (B : String) (bm : List Value) : Prop where
  b : bm.contains (.type B) = true
  a : bm.contains (.type "AttributeError") = false
  n : bm.contains (.type "NameError") = false
section
variable {prog : Program} {w : World} {A : Around} {E : Value → Shared → Prop} {R : Result → Shared → Prop} {h : Heap} {g : Array GenState} {d : Drawn} {t : Nat} {os : OsState}
variable {nm q : Str} {C N : Addr} {bs bm bmB : List Value} {hdct : Bool} {sn : List Str} {sub : List Value} {ab : Bool} {col : Option Bool} {dd : Option Addr} {k0 k1 k2 k3 k5 : Option Value} {B newId initId : String}
theorem chk_new {M : Model} (F : ExcBaseFacts B newId initId bmB) (U : Above B bm) {rs : List Value} {Q : Unit → Shared → Prop} (oC : h.get? C = some (excClassObj nm q C N bs bm hdct sn sub ab col dd k0 k1 k2 k3 k5 newId)) (go : Q () ⟨h, g, d, t, os⟩) : wpAny M A (checkBuiltinCall newId ⟨.ref C :: rs, []⟩) Q E ⟨h, g, d, t, os⟩ := by
  have c1 : (Value.ref C :: bm).contains (.type B) = true := by rw [List.contains_cons, U.b, Bool.or_true]
  have c2 := F.noStar
  simp only [checkBuiltinCall, F.newKind, F.newSplit, F.newRow] <;> skip
  repeat (first | refine wpAny_loadPart_at oC ?_ | (refine wpAny_isSubtype_exc oC ?_; rw [c1]) | refine wpAny_staticBase_exc oC ?_ | refine wpAny_madeBy_exc oC ?_ | simp only [bne_self_eq_false, Bool.false_eq_true, if_false] | wp_step)
  exact go
theorem new_made (F : ExcBaseFacts B newId initId bmB) (U : Above B bm) {rs : List Value} (oC : h.get? C = some (excClassObj nm q C N bs bm hdct sn sub ab col dd k0 k1 k2 k3 k5 newId))
    (go : R (.ok (.ret (.ref (h.objs.size + 1)))) ⟨(h.push (kdv_tup rs)).push (excO C h.objs.size), g, d, t, os⟩) (few : rs.length ≤ sizeLine) : codeAny (model prog w) A (.builtin newId ⟨.ref C :: rs, []⟩) R ⟨h, g, d, t, os⟩ := by
  have c0 := F.ends
  have c1 : (Value.ref C :: bm).contains (.type B) = true := by rw [List.contains_cons, U.b, Bool.or_true]
  have c2 : (Value.ref C :: bm).contains (.type "AttributeError") = false := by rw [List.contains_cons, U.a]; rfl
  have c3 : (Value.ref C :: bm).contains (.type "NameError") = false := by rw [List.contains_cons, U.n]; rfl
  refine codeAny_builtinAt F.entry ?_ <;> unfold Builtin.«BaseException.__new__»
  refine wpAt_bind (show wpAt _ _ _ (stack >>= _) _ _ _ from wpAt_bind (wpAt_stack fun p below => wpAt_of_wpAny ?_))
  wp_walk
  refine wpAt_of_wpAny ?_ <;> rw [F.owner]
  repeat (first | with_reducible refine wpAny_madeHere_exc F.canon oC ?_ | with_reducible refine wpAny_loadPart_at oC ?_ | (with_reducible refine wpAny_isSubtype_exc oC ?_; first | rw [c1] | rw [c2] | rw [c3]) | wp_step)
  show R _ _; rw [Heap.size_push]; exact go
theorem tcall (F : ExcBaseFacts B newId initId bmB) (U : Above B bm) {rs : List Value} {fI : Addr} {Q : Fin → Shared → Prop} (oC : h.get? C = some (excClassObj nm q C N bs bm hdct sn sub ab col dd k0 k1 k2 k3 k5 newId))
    (li : Looks (model prog w) h (typeLookup (.ref C) "__init__") (some (.ref fI))) (bi : ∀ self, Looks (model prog w) h (bindSpecial (.ref fI) self) (.ref fI, [self])) (few : rs.length ≤ sizeLine)
    (go : codeAny (model prog w) A (.call (.ref fI) ⟨.ref (h.objs.size + 1) :: rs, []⟩) (fun r s' => match r with | .ok (.ret v) => v = .none ∧ Q (.done (.ret (.ref (h.objs.size + 1)))) s' | .ok _ => False | .error e => E e s') ⟨(h.push (kdv_tup rs)).push (excO C h.objs.size), g, d, t, os⟩) :
    wpAny (model prog w) A (Builtin.«type.__call__» ⟨.ref C :: rs, []⟩) Q E ⟨h, g, d, t, os⟩ := by
  repeat (first | with_reducible refine wpAny_loadPart_at oC ?_ | with_reducible refine wpAny_madeBy_exc oC ?_ | wp_step)
  refine codeAny_call_builtin_code (Code.quiet_builtin _ F.quiet) (chk_new F U oC (new_made F U oC ?_ few)) <;> show wpAny _ _ _ _ _ _
  have kp : ∀ b o, h.get? b = some o → ((h.push (kdv_tup rs)).push (excO C h.objs.size)).get? b = some o := fun b o e => Heap.get?_push_of_some _ (Heap.get?_push_of_some _ e)
  have oC1 := kp _ _ oC; have li1 := li.keeps kp; have bi1 := (bi (.ref (h.objs.size + 1))).keeps kp
  have oe : ((h.push (kdv_tup rs)).push (excO C h.objs.size)).get? (h.objs.size + 1) = some (excO C h.objs.size) := by heap_get
  have cc : (Value.ref C :: bm).contains (.ref C) = true := by simp
  unfold isInstance <;> repeat (first | with_reducible refine wpAny_loadPart_at oe ?_ | (with_reducible refine wpAny_isSubtype_exc oC1 ?_; rw [cc]) | wp_step)
  refine (show wpAny _ _ (typeLookup (.ref C) _) _ _ _ from li1.at (wpAny_holding (wpAny_bind (bi1.at (wpAny_bind (wpAny_call (codeAny_mono go fun r s' z => ?_)))))))
  rcases r with e | (v | _ | _ | _) <;> first | exact z | exact z.elim | skip
  obtain ⟨rfl, z⟩ := z; first | exact wpAny_pure (wpAny_pure z) | (wp_walk; exact z)
theorem ccall (F : ExcBaseFacts B newId initId bmB) (U : Above B bm) {rs : List Value} {fI : Addr} (oC : h.get? C = some (excClassObj nm q C N bs bm hdct sn sub ab col dd k0 k1 k2 k3 k5 newId))
    (li : Looks (model prog w) h (typeLookup (.ref C) "__init__") (some (.ref fI))) (bi : ∀ self, Looks (model prog w) h (bindSpecial (.ref fI) self) (.ref fI, [self])) (few : rs.length ≤ sizeLine)
    (go : codeAny (model prog w) (A.under (.builtin "type.__call__" ⟨.ref C :: rs, []⟩)) (.call (.ref fI) ⟨.ref (h.objs.size + 1) :: rs, []⟩) (InitBack (h.objs.size + 1) R) ⟨(h.push (kdv_tup rs)).push (excO C h.objs.size), g, d, t, os⟩) :
    codeAny (model prog w) A (.call (.ref C) ⟨rs, []⟩) R ⟨h, g, d, t, os⟩ := by
  have f1 := tc_lookup; have f2 := tc_bind (.ref C)
  have isT : (⟨h, g, d, t, os⟩ : Shared).TypeIs (.ref C) "type" := ⟨_, oC, rfl⟩
  refine codeAny_of_tree (show wpAny _ _ (callAny (.ref C) _) _ _ _ from ?_)
  repeat (any_goals first | assumption | with_reducible refine wpAny_loadPart_at oC ?_ | wp_step)
  refine ⟨rfl, codeAny_call_builtin_at (Code.quiet_builtin _ (by decide +kernel)) entry_typeCall (wpAny_check_type_call_sub oC (tcall F U oC li bi few (codeAny_mono go fun r s' z => ?_)))⟩
  rcases r with e | (v | _ | _ | _) <;> exact z
/-- self.name = v on a new exception -/
theorem osa1 {K : Frag} {name : Str} {tk : Tok} {v : Value} {x : Addr} {fv : Array Value} {cd : ClassData} (X : K.In h) (ox : h.get? x = some { cls := .ref C, data := .fields fv }) (hcd : clsIn K C = some cd)
    (hp : ∀ self, refuseLoop self "__setattr__" cd.mro = pure ()) (ho : cd.mro.contains (.type "object") = true) (hh : cd.hasDict = true) (ha : findIn K (.ref C) name = some none)
    (go : ∀ h' tk' dx, (∀ b o, b ≠ x → h.get? b = some o → h'.get? b = some o) → h.objs.size ≤ dx → dx ≠ x → h'.get? x = some { cls := .ref C, dict := some dx, data := .fields fv } → h'.Ns1 dx (fun y => if y = name then some v else none) → R (.ok (.ret .none)) ⟨h', g, d, tk', os⟩) :
    codeAny (model prog w) A (.call (.builtin "object.__setattr__") ⟨[.ref x, .str name tk, v], []⟩) R ⟨h, g, d, t, os⟩ := by
  have I : InstAt h x { cls := .ref C, data := .fields fv } C none := ⟨ox, rfl, rfl, trivial⟩
  have SF := F.store_object
  have ne : cd.mro.isEmpty = false := by
    cases e : cd.mro with
    | nil => rw [e] at ho; exact absurd ho (by decide)
    | cons _ _ => rfl
  have nx : x ≠ h.objs.size := Nat.ne_of_lt (Heap.lt_size ox)
  have sub : Looks (model prog w) h (isInstance (.ref x) (.type "object")) true := I.type.andThen (looks_mroIn X (by unfold mroIn; rw [hcd, Option.bind_some, if_neg (by rw [ne]; decide), ho]))
  refine codeAny_call_builtin SF.slot.plain SF.entry (@check_slot (model prog w) _ _ ⟨h, g, d, t, os⟩ "object.__setattr__" "object" "__setattr__" (.ref x) [.str name tk, v] [] _ SF.kind SF.split sub (SF.args (.ref x) (.str name tk) v) ?_)
  have L1 : Looks (model prog w) h (mroOf (.ref C)) cd.mro := (looks_clsIn X hcd).andThen .now
  have L2 : Looks (model prog w) h (Builtin.ObjectAttr.storeTaker? none) none := .now
  have L3 : Looks (model prog w) h (classData C) cd := looks_clsIn X hcd
  rw [osa_eq, refuse_eq] <;> refine wpAny_bind (wpAny_bind (I.type.at (wpAny_bind (L1.at ?_)))) <;> rw [hp]
  refine wpAny_pure (wpAny_bind (I.type.at (wpAny_bind ((looks_findIn X ha).at (wpAny_bind (L2.at (show wpAny _ _ (Builtin.ObjectAttr.storeInOwnDict (.ref x) (.ref C) (.str name tk) name v false) _ _ _ from ?_)))))))
  obtain ⟨nm, bs, mro, ns, qn, hd, sn, sb, ab, col, del⟩ := cd; dsimp only at hh; subst hh
  unfold Builtin.ObjectAttr.storeInOwnDict Builtin.ObjectAttr.ownDictForStores <;> repeat (first | with_reducible refine store_in_new ?_ ?_ | with_reducible refine wpAny_loadPart_at ox ?_ | with_reducible refine L3.at ?_ | wp_step)
  · exact ⟨_, #[], _, (Heap.get?_update_ne _ _ _ _ nx.symm).trans (Heap.get?_push_at rfl rfl), rfl, fun e he => absurd he (by simp), fun _ => rfl⟩
  · intro h' tk' hn' hs
    have ox1 : (h.push { cls := .type "dict", data := .dict #[] }).get? x = some { cls := .ref C, data := .fields fv } := Heap.get?_push_of_some _ ox
    refine go h' tk' h.objs.size (fun b o hb e => ?_) (Nat.le_refl _) nx.symm ((hs.2 x nx).trans (Heap.get?_update_self _ ox1 rfl)) hn'
    exact (hs.2 b (Nat.ne_of_lt (Heap.lt_size e))).trans ((Heap.get?_update_ne _ _ _ _ hb).trans (Heap.get?_push_of_some _ e))
end
end OneX
end PySem
namespace PySem
namespace OneX
open PySem.W PySem.Calls PyProof.Rows PySem.HandSPX
/-- what the written part says of an own exception class at C; bmB: the built-in classes above it; B: who makes it -/
structure ExT (K : Frag) (C : Addr) (B newId initId : String) (bmF bmB : List Value) : Prop where
  fb : ExcBaseFacts B newId initId bmF
  ab : Above B bmB
  pass : ∀ self, refuseLoop self "__setattr__" bmB = pure ()
  ob : bmB.contains (.type "object") = true
  ini : excInitIn K C bmB newId = true
  hd : hasDictIn K C = true
  kC : keepIn K (.ref C) = true
  ga : findIn K (.ref C) "__getattribute__" = some (some (.builtin "BaseException.__getattribute__"))
  gg : findIn K (.ref C) "__getattr__" = some none
  exC : subIn K (.ref C) (.type "BaseException") = some true
  tyC : typeIn K (.ref C) = some (.type "type")
  sa : findIn K (.ref C) "__setattr__" = some (some (.builtin "object.__setattr__"))
  cl : findIn K (.ref C) "__class__" = some (some (.builtin "object.__class__"))
  m0 : mroIn K C (.type "object") = some true
  gt : specialIn K (.builtin "object.__class__") "__get__" = some (some (.builtin "getset_descriptor.__get__"))
  tk : takesIn K (.builtin "object.__class__") = some true
theorem ExT.cd {K : Frag} {C : Addr} {B newId initId : String} {bmF bmB : List Value} (T : ExT K C B newId initId bmF bmB) :
    ∃ cd, clsIn K C = some cd ∧ (∀ self, refuseLoop self "__setattr__" cd.mro = pure ()) ∧ cd.mro.contains (.type "object") = true ∧ cd.hasDict = true := by
  obtain ⟨cd, hc, hd⟩ := any_some (show (clsIn K C).any (fun c => c.hasDict) = true from T.hd)
  have q := T.ini
  unfold excInitIn at q
  split at q
  · rename_i dd cd' sl ho
    have e : clsIn K C = some cd' := by unfold clsIn; rw [ho] <;> rfl
    rw [hc] at e
    have e2 : cd = cd' := Option.some.inj e
    subst e2
    split at q
    · rename_i C' bm k0 k1 k2 k3 n k5 hm hs
      simp only [Bool.and_eq_true] at q
      refine ⟨cd, hc, fun self => ?_, ?_, hd⟩
      · rw [hm]
        exact excTail_pass self (T.pass self) (.ref C' :: bm) q.2
      · rw [hm, excTail_contains "object" (.ref C' :: bm) q.2]
        exact T.ob
    · cases q
  · cases q
theorem ldC1 {M : Model} {s : Shared} {name : Str} {scope : Scope} {L a : Addr} {cd : Value} {m : Str → Option Value} {y : Str} {pos : Pos} {v : Value} {Q : Value → Shared → Prop} {A : Around} {E : Value → Shared → Prop} (hn : s.heap.Ns L m) (hv : m y = some v) (h : Q v s)
    (hk : scope.kind = .function := by rfl) (hl : (envOfC name scope L a cd).kindOf y = some .local := by rfl) (hd : (y == ("__debug__" : Str)) = false := by decide) : wpAny M A (eval (.Name y pos) (envOfC name scope L a cd)) Q E s := wpAny_Name (wpAny_loadName_local hk hl hn hv h) hd
/-- an exception made with v: at e, its dict at d -/
structure OwnMade (fl : Str) (h h' : Heap) (e C d : Addr) (v : Value) : Prop where
  keep : ∀ b o, h.get? b = some o → h'.get? b = some o
  new : h.objs.size ≤ e
  obj : ∃ t1 : Addr, h'.get? e = some ({ cls := .ref C, dict := some d, data := .fields #[.ref t1, .none, .none, .none, .bool false, .none] } : Obj)
  dbig : h.objs.size ≤ d
  dne : d ≠ e
  ns : h'.Ns1 d (fun y => if y = fl then some v else none)
end OneX
end PySem
namespace L2
open PySem PySem.Spec PyProof.Rows
theorem relO_one {fl : Str} {v : V} {v' : Value} (r : RelV v v') (f : Str) : RelO (List.lookup f [(fl, v)]) (if f = fl then some v' else none) := by
  by_cases hw : f = fl
  · subst hw
    rw [if_pos rfl, show List.lookup f [(f, v)] = some v by simp [List.lookup]]
    exact r
  · have qw : (f == fl) = false := by simpa using hw
    rw [if_neg hw, show List.lookup f [(fl, v)] = none by simp [List.lookup, qw]]
    trivial
def tOne (fl : Str) (C : Addr) (ta : TA) : TE := fun σ H Q => ta σ H fun vs H1 => ∃ v, vs = [v] ∧ ∀ e d, H1 e = none → H1 d = none → d ≠ e → Q (.ref e) (upd (upd H1 d (.xd [(fl, v)])) e (exo e C (some d)))
section
variable {X : Cx} {pins : List (Addr × Obj)} {σ : L2.St} {H1 : Hp} {C : Addr}
theorem one_end (fl : Str) {hp h' : Heap} {g : Array GenState} {dr : Drawn} {tk tk' : Nat} {os : OsState} {e d : Addr} {v : V} {v' : Value} {Q : VK} (I1 : Inv X pins σ H1 ⟨hp, g, dr, tk, os⟩) (rv : RelV v v') (M : PySem.OneX.OwnMade fl hp h' e C d v')
    (q1 : ∀ e d, H1 e = none → H1 d = none → d ≠ e → Q (.ref e) (upd (upd H1 d (.xd [(fl, v)])) e (exo e C (some d)))) : EP X pins σ Q (.ref e) ⟨h', g, dr, tk', os⟩ := by
  obtain ⟨t1, ho⟩ := M.obj
  have hns := M.ns
  obtain ⟨G, g1, g2⟩ := restrict h' fun b => decide (b ≠ e)
  have gk : ∀ b, b ≠ e → G.get? b = h'.get? b := fun b hb => g1 b (decide_eq_true hb)
  have ge : G.get? e = none := g2 e (by simp)
  have old : ∀ b o, hp.get? b = some o → G.get? b = some o := fun b o q => (gk b (Nat.ne_of_lt (Nat.lt_of_lt_of_le (Heap.lt_size q) M.new))).trans (M.keep b o q)
  have ob : ObjOk X.prog X.w (upd H1 d (.xd [(fl, v)])) G d (.xd [(fl, v)]) := ⟨_, hns.at (fun o q => (gk d M.dne).trans q), fun f => relO_one rv f⟩
  have J : Inv X pins σ (upd H1 d (.xd [(fl, v)])) ⟨G, g, dr, tk', os⟩ := I1.laid (t' := tk') old M.dbig ob
  have he : H1 e = none := I1.hok.fresh M.new
  have hd : H1 d = none := I1.hok.fresh M.dbig
  have hn : (upd H1 d (.xd [(fl, v)])) e = none := by
    rw [upd_ne (Ne.symm M.dne)]
    exact he
  have back : ∀ b u, G.get? b = some u → h'.get? b = some u := fun b u q => by
    by_cases hb : b = e
    · rw [hb, ge] at q
      cases q
    · exact (gk b hb).symm.trans q
  exact ⟨.ref e, _, J.laidN (t' := tk') back ge hn (exo_ok ho), rfl, q1 e d he hd M.dne⟩
/-- C(), a class without an own __init__ -/
theorem pe_mk0 {bmB : List Value} {B newId initId : String} {x : Str} {p pos : Pos} (F : ExcBaseFacts B newId initId bmB) (q : PySem.W.excIn X.K C bmB newId = true) (gC : X.mg x = some (.ref C)) (kC : PySem.W.keepIn X.K (.ref C) = true) (hg : Gl X x)
    (hdb : (x == ("__debug__" : Str)) = false := by decide) : PE X (.Call (.Name x p) [] [] pos) (fun _ H Q => ∀ a, H a = none → Q (.ref a) (upd H a (exo a C none))) := by
  refine ⟨fun pins s σ H Q I h => wpAny_Call_Name_kw (ld_glob I hg gC ?_ hdb)⟩
  refine PySem.W.callWith_K0 I.kIn kC ?_
  obtain ⟨bm, N, nm, qn, bs, hdct, sn, sub, ab, col, dd, k0, k1, k2, k3, k5, mN, hC, hN, hni, T⟩ := exc_obj I.kIn q
  obtain ⟨hp, g, dr, tk, os⟩ := s
  refine wpAny_call_exc_subT F T hC hN hni (fun h' a hm => ?_) (by show 0 ≤ sizeLine; exact Nat.zero_le _)
  have hn : H a = none := I.hok.gone hm.new
  obtain ⟨t, ht, _, _⟩ := hm.there
  exact ⟨.ref a, upd H a (exo a C none), I.laidN hm.keeps hm.new hn (exo_ok ht), rfl, h a hn⟩
/-- isinstance(e, c), e an exception held as a value -/
def rIsx (K : PySem.W.Frag) : List V → Hp → VK → Prop := fun xs H Q => ∃ (a C : Addr) (dO : Option Addr) (c : V) (u : Value) (b : Bool), xs = [.ref a, c] ∧ (∃ B newId initId bmF bmB, PySem.OneX.ExT K C B newId initId bmF bmB) ∧ H a = some (exo a C dO) ∧ (∀ d, dO = some d → ∃ fs, H d = some (.xd fs)) ∧ ClsV c u ∧ PySem.W.kitOne K (.ref C) u = some b ∧ Q (.bl b) H
theorem call_isx : CallR X (.builtin "isinstance") (rIsx X.K) := by
  intro pins s σ H xs us Q I r h
  obtain ⟨a, C, dO, c, u, b, rfl, ⟨B, newId, initId, bmF, bmB, T⟩, ha, hd, k, e, q⟩ := h
  obtain ⟨u1, u2, rfl, r1, r2⟩ := vals2 r
  have e2 := k.eq r2
  subst e2
  obtain rfl : u1 = Value.ref a := r1
  obtain ⟨t1, ho⟩ := exo_at I.hok ha
  have J : ∃ ox od, PySem.W.InstAt s.heap a ox C od := by
    cases dO with
    | none => exact ⟨_, none, ho, rfl, rfl, trivial⟩
    | some d =>
      obtain ⟨fs, hx⟩ := hd d rfl
      obtain ⟨mA, ⟨o, es, ep, hod, _⟩, _⟩ := (show ObjOk X.prog X.w H s.heap d (.xd fs) from I.hok d _ hx)
      exact ⟨_, some o, ho, rfl, rfl, hod⟩
  obtain ⟨ox, od, J⟩ := J
  have hcl : (PySem.W.clsIn X.K C).isSome = true := by
    obtain ⟨cd, h1, _⟩ := T.cd
    rw [h1] <;> rfl
  exact PySem.W.kia_one (PySem.W.kitx_exc hcl T.ga T.gg T.exC T.cl T.gt T.tk T.m0) I.kIn J e (by simp) fun tk => ⟨.bl b, H, I.tok tk, rfl, q⟩
/-- e.f, e an exception held as a value -/
def tXv (K : PySem.W.Frag) (f : Str) (te : TE) : TE := fun σ H Q => te σ H fun x H1 => ∃ (a C d : Addr) (fs : List (Str × V)) (v : V), x = .ref a ∧ (∃ B newId initId bmF bmB, PySem.OneX.ExT K C B newId initId bmF bmB) ∧ PySem.W.findIn K (.ref C) f = some none ∧ H1 a = some (exo a C (some d)) ∧ H1 d = some (.xd fs) ∧ fs.lookup f = some v ∧ Q v H1
theorem pe_xv {e : Expr} {te : TE} {f : Str} {pos : Pos} (he : PE X e te) (hb : attributeBase e f X.env (eval e X.env) = eval e X.env := by rfl) : PE X (.Attribute e f pos) (tXv X.K f te) := by
  refine ⟨fun pins s σ H Q I h => attr_of hb (thn (he.run pins s σ H _ I h) fun u s1 hh => ?_)⟩
  obtain ⟨x, H1, I1, rx, a, C, d, fs, v, rfl, ⟨B, newId, initId, bmF, bmB, T⟩, noN, ha, hd, hl, q⟩ := hh
  obtain rfl : u = Value.ref a := rx
  obtain ⟨t1, ho⟩ := exo_at I1.hok ha
  obtain ⟨mA, hns, hr⟩ := (show ObjOk X.prog X.w H1 s1.heap d (.xd fs) from I1.hok d _ hd)
  obtain ⟨od, hod, hk⟩ := lookIn_ns hns
  obtain ⟨u, hu, ru⟩ := RelO.some_of (v := v) (o := mA f) (by rw [← hl]; exact hr f)
  have J : PySem.W.InstAt s1.heap a _ C (some od) := ⟨ho, rfl, rfl, hod⟩
  exact HandSPX.exc_get I1.kIn J T.ga T.gg T.exC (PySem.W.findObj_own T.hd noN rfl (by rw [hk, hu])) (handed_of ru) ⟨v, H1, I1.tok _, ru, q⟩
end
end L2
namespace PySem
namespace OneX_name
open PySem.W PySem.Calls PyProof.Rows PySem.HandSPX PySem.OneX
def iA (p1 p2 : Pos) : Arguments := { posonlyargs := [], args := [{ arg := "self", annotation := none, pos := p1 }, { arg := "name", annotation := none, pos := p2 }], vararg := none, kwonlyargs := [], kw_defaults := [], kwarg := none, defaults := [] }
def iB (q1 q2 q3 q4 : Pos) : List Stmt := [.Assign [.Attribute (.Name "self" q1) "name" q2] (.Name "name" q3) q4]
def iS : Scope := { kind := .function, names := [(PySem.Str.ofString "self", .local), (PySem.Str.ofString "name", .local)], isGenerator := false, isCoroutine := false, more := [] }
/-- of the class's own __init__ -/
structure OneT (K : Frag) (C fI : Addr) (qn : Str) : Prop where
  noN : findIn K (.ref C) "name" = some none
  iC : findIn K (.ref C) "__init__" = some (some (.ref fI))
  tC : typeIn K (.ref fI) = some (.type "function")
  fn : ∃ (oc : Value) (od : Option Addr) (kV doc pm : Value) (an : Option Addr) (cdv ct : Value) (osl : Array (Option Value)) (p1 p2 q1 q2 q3 q4 : Pos),
    K.lookup fI = some ⟨oc, od, .func (fnOf "__init__" qn (iA p1 p2) (iB q1 q2 q3 q4) iS .none kV doc pm an cdv ct), osl⟩ ∧ codeIn K cdv qn = true
section
variable {prog : Program} {w : World} {A : Around} {E : Value → Shared → Prop} {R : Result → Shared → Prop} {s : Shared} {K : Frag} {C fI : Addr} {qn : Str} {B newId initId : String} {bmF bmB : List Value}
theorem init1 (T : ExT K C B newId initId bmF bmB) (O : OneT K C fI qn) {x t0 : Addr} {v : Value} (X : K.In s.heap) (lim : s.heap.NoLimit) (ox : s.heap.get? x = some (excO C t0)) (room : A.depth < recursionLimit)
    (go : ∀ h' tk dx, (∀ b o, b ≠ x → s.heap.get? b = some o → h'.get? b = some o) → h'.get? x = some { cls := .ref C, dict := some dx, data := .fields #[.ref t0, .none, .none, .none, .bool false, .none] } → s.heap.objs.size ≤ dx → dx ≠ x → h'.Ns1 dx (fun y => if y = "name" then some v else none) → R (.ok (.ret .none)) { s with heap := h', toks := tk }) :
    codeAny (model prog w) A (.call (.ref fI) ⟨[.ref x, v], []⟩) R s := by
  obtain ⟨oc, od, kV, doc, pm, an, cdv, ct, osl, p1, p2, q1, q2, q3, q4, ho, hcd⟩ := O.fn
  obtain ⟨cd, hcl, hmro, hobj, hdd⟩ := T.cd
  refine Att.call_fn (binds := [("self", .ref x), ("name", v)]) X lim ho hcd room (BindsTo.of_eq (by first | rfl | with_unfolding_all rfl)) (by first | rfl | decide | with_unfolding_all rfl) (fun s1 IC => ?_) rfl rfl rfl
  obtain ⟨h1, tk1, rfl⟩ := IC.toInCall.same
  have kp : ∀ b o, s.heap.get? b = some o → h1.get? b = some o := IC.toInCall.keep
  have hn := IC.toInCall.ns
  have X1 : K.In h1 := X.keeps kp
  have ox1 := kp _ _ ox
  refine (show wpAny _ _ (execs _ _) _ _ _ from wpAny_execs_cons (plainObj_wpAny_Assign_Attribute ?_))
  refine ldC1 (v := v) hn (by first | rfl | with_unfolding_all rfl | kernel_rfl) (ldC1 (v := .ref x) hn (by first | rfl | with_unfolding_all rfl | kernel_rfl) ?_)
  refine set_plain X1 (ox := excO C t0) (od := none) ⟨ox1, rfl, rfl, trivial⟩ T.sa (osa1 X1 ox1 hcl hmro hobj hdd O.noN fun h3 tk3 dx k3 dn dne ox3 hn3 => ?_)
  have z : s.heap.objs.size < h1.objs.size := hn.lt
  exact (show wpAny _ _ (execs _ _) _ _ _ from wpAny_execs_nil (go h3 tk3 dx (fun b o hb e => k3 b o hb (kp b o e)) ox3 (Nat.le_of_lt (Nat.lt_of_lt_of_le z dn)) dne hn3))
theorem made1 (T : ExT K C B newId initId bmF bmB) (O : OneT K C fI qn) {v : Value} (X : K.In s.heap) (lim : s.heap.NoLimit) (room : A.depth + 1 < recursionLimit)
    (go : ∀ h' tk e d, OwnMade "name" s.heap h' e C d v → R (.ok (.ret (.ref e))) { s with heap := h', toks := tk }) : codeAny (model prog w) A (.call (.ref C) ⟨[v], []⟩) R s := by
  obtain ⟨hp, g, dr, tk, os⟩ := s
  obtain ⟨nm, N, qn', bs, bm, hdct, sn, sub, ab, col, dd, k0, k1, k2, k3, k5, hC, hT⟩ := excInit_of X T.ini
  have kp : ∀ b o, hp.get? b = some o → ((hp.push (kdv_tup [v])).push (excO C hp.objs.size)).get? b = some o := fun b o e => Heap.get?_push_of_some _ (Heap.get?_push_of_some _ e)
  have oe : ((hp.push (kdv_tup [v])).push (excO C hp.objs.size)).get? (hp.objs.size + 1) = some (excO C hp.objs.size) := by heap_get
  refine ccall T.fb ⟨(hT B).trans T.ab.b, (hT _).trans T.ab.a, (hT _).trans T.ab.n⟩ hC (looks_findIn X O.iC) (fun self => bind_fn X self O.tC) (by rw [sizeLine_eq]; exact (by decide : 1 ≤ 16777216)) ?_
  refine init1 (s := ⟨(hp.push (kdv_tup [v])).push (excO C hp.objs.size), g, dr, tk, os⟩) T O (X.keeps kp) (lim.keeps kp) oe room fun h' tk' dx k' ox dn dne ns => ?_
  have old : ∀ b o, hp.get? b = some o → h'.get? b = some o := fun b o e => k' b o (Nat.ne_of_lt (Nat.lt_succ_of_lt (Heap.lt_size e))) (kp b o e)
  have z : hp.objs.size + 1 + 1 ≤ dx := by first | (simpa only [Heap.size_push] using dn) | exact dn
  exact ⟨rfl, go h' tk' (hp.objs.size + 1) dx ⟨old, Nat.le_succ _, ⟨hp.objs.size, ox⟩, Nat.le_trans (Nat.le_trans (Nat.le_succ _) (Nat.le_succ _)) z, dne, ns⟩⟩
end
end OneX_name
end PySem
namespace L2
open PySem PySem.Spec PyProof.Rows
section
variable {X : Cx} {C fI : Addr} {qn x : Str} {B newId initId : String} {bmF bmB : List Value}
/-- C(e), as a value -/
theorem pe_one_name {a : Expr} {ta : TA} {p pos : Pos} {k : Nat} (T : PySem.OneX.ExT X.K C B newId initId bmF bmB) (O : PySem.OneX_name.OneT X.K C fI qn) (gC : X.mg x = some (.ref C)) (hr : Room k X.A) (hg : Gl X x) (ha : PA X [a] ta)
    (hdb : (x == ("__debug__" : Str)) = false := by decide) (he : starEach (a :: []) X.env = (false, eval a X.env) :: starEach [] X.env := by rfl) (hpl : (backTo pos (starEach [] X.env)).any (·.1) = false := by rfl) :
    PE X (.Call (.Name x p) [a] [] pos) (tOne "name" C ta) := by
  refine ⟨fun pins s σ H Q I h => wpAny_Call_Name_kw (ld_glob I hg gC ?_ hdb)⟩
  refine PySem.W.callWith_K (h₀ := X.base) I.ok.mod.kin T.kC (thn (ha.run pos pins s σ H _ I h) fun us s1 hh => ?_) he hpl
  obtain ⟨vs, H1, I1, r1, v, ev, q1⟩ := hh
  subst ev
  refine ⟨I1.kIn, ?_⟩
  cases r1 with
  | cons rv rn =>
    rename_i v' us'
    cases rn
    have lim := I1.nolimit
    obtain ⟨hp, g, dr, tk, os⟩ := s1
    show wpAny _ _ (call (.ref C) [v']) _ _ _
    refine wpAny_call (PySem.OneX_name.made1 T O I1.kIn lim (by have := hr.dp; omega) fun h' tk' e d M => ?_)
    exact one_end "name" I1 rv M q1
end
end L2
namespace PySem
namespace OneX_key
open PySem.W PySem.Calls PyProof.Rows PySem.HandSPX PySem.OneX
def iA (p1 p2 : Pos) : Arguments := { posonlyargs := [], args := [{ arg := "self", annotation := none, pos := p1 }, { arg := "key", annotation := none, pos := p2 }], vararg := none, kwonlyargs := [], kw_defaults := [], kwarg := none, defaults := [] }
def iB (q1 q2 q3 q4 : Pos) : List Stmt := [.Assign [.Attribute (.Name "self" q1) "key" q2] (.Name "key" q3) q4]
def iS : Scope := { kind := .function, names := [(PySem.Str.ofString "self", .local), (PySem.Str.ofString "key", .local)], isGenerator := false, isCoroutine := false, more := [] }
/-- of the class's own __init__ -/
structure OneT (K : Frag) (C fI : Addr) (qn : Str) : Prop where
  noN : findIn K (.ref C) "key" = some none
  iC : findIn K (.ref C) "__init__" = some (some (.ref fI))
  tC : typeIn K (.ref fI) = some (.type "function")
  fn : ∃ (oc : Value) (od : Option Addr) (kV doc pm : Value) (an : Option Addr) (cdv ct : Value) (osl : Array (Option Value)) (p1 p2 q1 q2 q3 q4 : Pos),
    K.lookup fI = some ⟨oc, od, .func (fnOf "__init__" qn (iA p1 p2) (iB q1 q2 q3 q4) iS .none kV doc pm an cdv ct), osl⟩ ∧ codeIn K cdv qn = true
section
variable {prog : Program} {w : World} {A : Around} {E : Value → Shared → Prop} {R : Result → Shared → Prop} {s : Shared} {K : Frag} {C fI : Addr} {qn : Str} {B newId initId : String} {bmF bmB : List Value}
theorem init1 (T : ExT K C B newId initId bmF bmB) (O : OneT K C fI qn) {x t0 : Addr} {v : Value} (X : K.In s.heap) (lim : s.heap.NoLimit) (ox : s.heap.get? x = some (excO C t0)) (room : A.depth < recursionLimit)
    (go : ∀ h' tk dx, (∀ b o, b ≠ x → s.heap.get? b = some o → h'.get? b = some o) → h'.get? x = some { cls := .ref C, dict := some dx, data := .fields #[.ref t0, .none, .none, .none, .bool false, .none] } → s.heap.objs.size ≤ dx → dx ≠ x → h'.Ns1 dx (fun y => if y = "key" then some v else none) → R (.ok (.ret .none)) { s with heap := h', toks := tk }) :
    codeAny (model prog w) A (.call (.ref fI) ⟨[.ref x, v], []⟩) R s := by
  obtain ⟨oc, od, kV, doc, pm, an, cdv, ct, osl, p1, p2, q1, q2, q3, q4, ho, hcd⟩ := O.fn
  obtain ⟨cd, hcl, hmro, hobj, hdd⟩ := T.cd
  refine Att.call_fn (binds := [("self", .ref x), ("key", v)]) X lim ho hcd room (BindsTo.of_eq (by first | rfl | with_unfolding_all rfl)) (by first | rfl | decide | with_unfolding_all rfl) (fun s1 IC => ?_) rfl rfl rfl
  obtain ⟨h1, tk1, rfl⟩ := IC.toInCall.same
  have kp : ∀ b o, s.heap.get? b = some o → h1.get? b = some o := IC.toInCall.keep
  have hn := IC.toInCall.ns
  have X1 : K.In h1 := X.keeps kp
  have ox1 := kp _ _ ox
  refine (show wpAny _ _ (execs _ _) _ _ _ from wpAny_execs_cons (plainObj_wpAny_Assign_Attribute ?_))
  refine ldC1 (v := v) hn (by first | rfl | with_unfolding_all rfl | kernel_rfl) (ldC1 (v := .ref x) hn (by first | rfl | with_unfolding_all rfl | kernel_rfl) ?_)
  refine set_plain X1 (ox := excO C t0) (od := none) ⟨ox1, rfl, rfl, trivial⟩ T.sa (osa1 X1 ox1 hcl hmro hobj hdd O.noN fun h3 tk3 dx k3 dn dne ox3 hn3 => ?_)
  have z : s.heap.objs.size < h1.objs.size := hn.lt
  exact (show wpAny _ _ (execs _ _) _ _ _ from wpAny_execs_nil (go h3 tk3 dx (fun b o hb e => k3 b o hb (kp b o e)) ox3 (Nat.le_of_lt (Nat.lt_of_lt_of_le z dn)) dne hn3))
theorem made1 (T : ExT K C B newId initId bmF bmB) (O : OneT K C fI qn) {v : Value} (X : K.In s.heap) (lim : s.heap.NoLimit) (room : A.depth + 1 < recursionLimit)
    (go : ∀ h' tk e d, OwnMade "key" s.heap h' e C d v → R (.ok (.ret (.ref e))) { s with heap := h', toks := tk }) : codeAny (model prog w) A (.call (.ref C) ⟨[v], []⟩) R s := by
  obtain ⟨hp, g, dr, tk, os⟩ := s
  obtain ⟨nm, N, qn', bs, bm, hdct, sn, sub, ab, col, dd, k0, k1, k2, k3, k5, hC, hT⟩ := excInit_of X T.ini
  have kp : ∀ b o, hp.get? b = some o → ((hp.push (kdv_tup [v])).push (excO C hp.objs.size)).get? b = some o := fun b o e => Heap.get?_push_of_some _ (Heap.get?_push_of_some _ e)
  have oe : ((hp.push (kdv_tup [v])).push (excO C hp.objs.size)).get? (hp.objs.size + 1) = some (excO C hp.objs.size) := by heap_get
  refine ccall T.fb ⟨(hT B).trans T.ab.b, (hT _).trans T.ab.a, (hT _).trans T.ab.n⟩ hC (looks_findIn X O.iC) (fun self => bind_fn X self O.tC) (by rw [sizeLine_eq]; exact (by decide : 1 ≤ 16777216)) ?_
  refine init1 (s := ⟨(hp.push (kdv_tup [v])).push (excO C hp.objs.size), g, dr, tk, os⟩) T O (X.keeps kp) (lim.keeps kp) oe room fun h' tk' dx k' ox dn dne ns => ?_
  have old : ∀ b o, hp.get? b = some o → h'.get? b = some o := fun b o e => k' b o (Nat.ne_of_lt (Nat.lt_succ_of_lt (Heap.lt_size e))) (kp b o e)
  have z : hp.objs.size + 1 + 1 ≤ dx := by first | (simpa only [Heap.size_push] using dn) | exact dn
  exact ⟨rfl, go h' tk' (hp.objs.size + 1) dx ⟨old, Nat.le_succ _, ⟨hp.objs.size, ox⟩, Nat.le_trans (Nat.le_trans (Nat.le_succ _) (Nat.le_succ _)) z, dne, ns⟩⟩
end
end OneX_key
end PySem
namespace L2
open PySem PySem.Spec PyProof.Rows
section
variable {X : Cx} {C fI : Addr} {qn x : Str} {B newId initId : String} {bmF bmB : List Value}
/-- C(e), as a value -/
theorem pe_one_key {a : Expr} {ta : TA} {p pos : Pos} {k : Nat} (T : PySem.OneX.ExT X.K C B newId initId bmF bmB) (O : PySem.OneX_key.OneT X.K C fI qn) (gC : X.mg x = some (.ref C)) (hr : Room k X.A) (hg : Gl X x) (ha : PA X [a] ta)
    (hdb : (x == ("__debug__" : Str)) = false := by decide) (he : starEach (a :: []) X.env = (false, eval a X.env) :: starEach [] X.env := by rfl) (hpl : (backTo pos (starEach [] X.env)).any (·.1) = false := by rfl) :
    PE X (.Call (.Name x p) [a] [] pos) (tOne "key" C ta) := by
  refine ⟨fun pins s σ H Q I h => wpAny_Call_Name_kw (ld_glob I hg gC ?_ hdb)⟩
  refine PySem.W.callWith_K (h₀ := X.base) I.ok.mod.kin T.kC (thn (ha.run pos pins s σ H _ I h) fun us s1 hh => ?_) he hpl
  obtain ⟨vs, H1, I1, r1, v, ev, q1⟩ := hh
  subst ev
  refine ⟨I1.kIn, ?_⟩
  cases r1 with
  | cons rv rn =>
    rename_i v' us'
    cases rn
    have lim := I1.nolimit
    obtain ⟨hp, g, dr, tk, os⟩ := s1
    show wpAny _ _ (call (.ref C) [v']) _ _ _
    refine wpAny_call (PySem.OneX_key.made1 T O I1.kIn lim (by have := hr.dp; omega) fun h' tk' e d M => ?_)
    exact one_end "key" I1 rv M q1
end
end L2
namespace PySem
namespace OneX_who
open PySem.W PySem.Calls PyProof.Rows PySem.HandSPX PySem.OneX
def iA (p1 p2 : Pos) : Arguments := { posonlyargs := [], args := [{ arg := "self", annotation := none, pos := p1 }, { arg := "who", annotation := none, pos := p2 }], vararg := none, kwonlyargs := [], kw_defaults := [], kwarg := none, defaults := [] }
def iB (q1 q2 q3 q4 : Pos) : List Stmt := [.Assign [.Attribute (.Name "self" q1) "who" q2] (.Name "who" q3) q4]
def iS : Scope := { kind := .function, names := [(PySem.Str.ofString "self", .local), (PySem.Str.ofString "who", .local)], isGenerator := false, isCoroutine := false, more := [] }
/-- of the class's own __init__ -/
structure OneT (K : Frag) (C fI : Addr) (qn : Str) : Prop where
  noN : findIn K (.ref C) "who" = some none
  iC : findIn K (.ref C) "__init__" = some (some (.ref fI))
  tC : typeIn K (.ref fI) = some (.type "function")
  fn : ∃ (oc : Value) (od : Option Addr) (kV doc pm : Value) (an : Option Addr) (cdv ct : Value) (osl : Array (Option Value)) (p1 p2 q1 q2 q3 q4 : Pos),
    K.lookup fI = some ⟨oc, od, .func (fnOf "__init__" qn (iA p1 p2) (iB q1 q2 q3 q4) iS .none kV doc pm an cdv ct), osl⟩ ∧ codeIn K cdv qn = true
section
variable {prog : Program} {w : World} {A : Around} {E : Value → Shared → Prop} {R : Result → Shared → Prop} {s : Shared} {K : Frag} {C fI : Addr} {qn : Str} {B newId initId : String} {bmF bmB : List Value}
theorem init1 (T : ExT K C B newId initId bmF bmB) (O : OneT K C fI qn) {x t0 : Addr} {v : Value} (X : K.In s.heap) (lim : s.heap.NoLimit) (ox : s.heap.get? x = some (excO C t0)) (room : A.depth < recursionLimit)
    (go : ∀ h' tk dx, (∀ b o, b ≠ x → s.heap.get? b = some o → h'.get? b = some o) → h'.get? x = some { cls := .ref C, dict := some dx, data := .fields #[.ref t0, .none, .none, .none, .bool false, .none] } → s.heap.objs.size ≤ dx → dx ≠ x → h'.Ns1 dx (fun y => if y = "who" then some v else none) → R (.ok (.ret .none)) { s with heap := h', toks := tk }) :
    codeAny (model prog w) A (.call (.ref fI) ⟨[.ref x, v], []⟩) R s := by
  obtain ⟨oc, od, kV, doc, pm, an, cdv, ct, osl, p1, p2, q1, q2, q3, q4, ho, hcd⟩ := O.fn
  obtain ⟨cd, hcl, hmro, hobj, hdd⟩ := T.cd
  refine Att.call_fn (binds := [("self", .ref x), ("who", v)]) X lim ho hcd room (BindsTo.of_eq (by first | rfl | with_unfolding_all rfl)) (by first | rfl | decide | with_unfolding_all rfl) (fun s1 IC => ?_) rfl rfl rfl
  obtain ⟨h1, tk1, rfl⟩ := IC.toInCall.same
  have kp : ∀ b o, s.heap.get? b = some o → h1.get? b = some o := IC.toInCall.keep
  have hn := IC.toInCall.ns
  have X1 : K.In h1 := X.keeps kp
  have ox1 := kp _ _ ox
  refine (show wpAny _ _ (execs _ _) _ _ _ from wpAny_execs_cons (plainObj_wpAny_Assign_Attribute ?_))
  refine ldC1 (v := v) hn (by first | rfl | with_unfolding_all rfl | kernel_rfl) (ldC1 (v := .ref x) hn (by first | rfl | with_unfolding_all rfl | kernel_rfl) ?_)
  refine set_plain X1 (ox := excO C t0) (od := none) ⟨ox1, rfl, rfl, trivial⟩ T.sa (osa1 X1 ox1 hcl hmro hobj hdd O.noN fun h3 tk3 dx k3 dn dne ox3 hn3 => ?_)
  have z : s.heap.objs.size < h1.objs.size := hn.lt
  exact (show wpAny _ _ (execs _ _) _ _ _ from wpAny_execs_nil (go h3 tk3 dx (fun b o hb e => k3 b o hb (kp b o e)) ox3 (Nat.le_of_lt (Nat.lt_of_lt_of_le z dn)) dne hn3))
theorem made1 (T : ExT K C B newId initId bmF bmB) (O : OneT K C fI qn) {v : Value} (X : K.In s.heap) (lim : s.heap.NoLimit) (room : A.depth + 1 < recursionLimit)
    (go : ∀ h' tk e d, OwnMade "who" s.heap h' e C d v → R (.ok (.ret (.ref e))) { s with heap := h', toks := tk }) : codeAny (model prog w) A (.call (.ref C) ⟨[v], []⟩) R s := by
  obtain ⟨hp, g, dr, tk, os⟩ := s
  obtain ⟨nm, N, qn', bs, bm, hdct, sn, sub, ab, col, dd, k0, k1, k2, k3, k5, hC, hT⟩ := excInit_of X T.ini
  have kp : ∀ b o, hp.get? b = some o → ((hp.push (kdv_tup [v])).push (excO C hp.objs.size)).get? b = some o := fun b o e => Heap.get?_push_of_some _ (Heap.get?_push_of_some _ e)
  have oe : ((hp.push (kdv_tup [v])).push (excO C hp.objs.size)).get? (hp.objs.size + 1) = some (excO C hp.objs.size) := by heap_get
  refine ccall T.fb ⟨(hT B).trans T.ab.b, (hT _).trans T.ab.a, (hT _).trans T.ab.n⟩ hC (looks_findIn X O.iC) (fun self => bind_fn X self O.tC) (by rw [sizeLine_eq]; exact (by decide : 1 ≤ 16777216)) ?_
  refine init1 (s := ⟨(hp.push (kdv_tup [v])).push (excO C hp.objs.size), g, dr, tk, os⟩) T O (X.keeps kp) (lim.keeps kp) oe room fun h' tk' dx k' ox dn dne ns => ?_
  have old : ∀ b o, hp.get? b = some o → h'.get? b = some o := fun b o e => k' b o (Nat.ne_of_lt (Nat.lt_succ_of_lt (Heap.lt_size e))) (kp b o e)
  have z : hp.objs.size + 1 + 1 ≤ dx := by first | (simpa only [Heap.size_push] using dn) | exact dn
  exact ⟨rfl, go h' tk' (hp.objs.size + 1) dx ⟨old, Nat.le_succ _, ⟨hp.objs.size, ox⟩, Nat.le_trans (Nat.le_trans (Nat.le_succ _) (Nat.le_succ _)) z, dne, ns⟩⟩
end
end OneX_who
end PySem
namespace L2
open PySem PySem.Spec PyProof.Rows
section
variable {X : Cx} {C fI : Addr} {qn x : Str} {B newId initId : String} {bmF bmB : List Value}
/-- C(e), as a value -/
theorem pe_one_who {a : Expr} {ta : TA} {p pos : Pos} {k : Nat} (T : PySem.OneX.ExT X.K C B newId initId bmF bmB) (O : PySem.OneX_who.OneT X.K C fI qn) (gC : X.mg x = some (.ref C)) (hr : Room k X.A) (hg : Gl X x) (ha : PA X [a] ta)
    (hdb : (x == ("__debug__" : Str)) = false := by decide) (he : starEach (a :: []) X.env = (false, eval a X.env) :: starEach [] X.env := by rfl) (hpl : (backTo pos (starEach [] X.env)).any (·.1) = false := by rfl) :
    PE X (.Call (.Name x p) [a] [] pos) (tOne "who" C ta) := by
  refine ⟨fun pins s σ H Q I h => wpAny_Call_Name_kw (ld_glob I hg gC ?_ hdb)⟩
  refine PySem.W.callWith_K (h₀ := X.base) I.ok.mod.kin T.kC (thn (ha.run pos pins s σ H _ I h) fun us s1 hh => ?_) he hpl
  obtain ⟨vs, H1, I1, r1, v, ev, q1⟩ := hh
  subst ev
  refine ⟨I1.kIn, ?_⟩
  cases r1 with
  | cons rv rn =>
    rename_i v' us'
    cases rn
    have lim := I1.nolimit
    obtain ⟨hp, g, dr, tk, os⟩ := s1
    show wpAny _ _ (call (.ref C) [v']) _ _ _
    refine wpAny_call (PySem.OneX_who.made1 T O I1.kIn lim (by have := hr.dp; omega) fun h' tk' e d M => ?_)
    exact one_end "who" I1 rv M q1
end
end L2
namespace PySem
namespace OneX_number
open PySem.W PySem.Calls PyProof.Rows PySem.HandSPX PySem.OneX
def iA (p1 p2 : Pos) : Arguments := { posonlyargs := [], args := [{ arg := "self", annotation := none, pos := p1 }, { arg := "number", annotation := none, pos := p2 }], vararg := none, kwonlyargs := [], kw_defaults := [], kwarg := none, defaults := [] }
def iB (q1 q2 q3 q4 : Pos) : List Stmt := [.Assign [.Attribute (.Name "self" q1) "number" q2] (.Name "number" q3) q4]
def iS : Scope := { kind := .function, names := [(PySem.Str.ofString "self", .local), (PySem.Str.ofString "number", .local)], isGenerator := false, isCoroutine := false, more := [] }
/-- of the class's own __init__ -/
structure OneT (K : Frag) (C fI : Addr) (qn : Str) : Prop where
  noN : findIn K (.ref C) "number" = some none
  iC : findIn K (.ref C) "__init__" = some (some (.ref fI))
  tC : typeIn K (.ref fI) = some (.type "function")
  fn : ∃ (oc : Value) (od : Option Addr) (kV doc pm : Value) (an : Option Addr) (cdv ct : Value) (osl : Array (Option Value)) (p1 p2 q1 q2 q3 q4 : Pos),
    K.lookup fI = some ⟨oc, od, .func (fnOf "__init__" qn (iA p1 p2) (iB q1 q2 q3 q4) iS .none kV doc pm an cdv ct), osl⟩ ∧ codeIn K cdv qn = true
section
variable {prog : Program} {w : World} {A : Around} {E : Value → Shared → Prop} {R : Result → Shared → Prop} {s : Shared} {K : Frag} {C fI : Addr} {qn : Str} {B newId initId : String} {bmF bmB : List Value}
theorem init1 (T : ExT K C B newId initId bmF bmB) (O : OneT K C fI qn) {x t0 : Addr} {v : Value} (X : K.In s.heap) (lim : s.heap.NoLimit) (ox : s.heap.get? x = some (excO C t0)) (room : A.depth < recursionLimit)
    (go : ∀ h' tk dx, (∀ b o, b ≠ x → s.heap.get? b = some o → h'.get? b = some o) → h'.get? x = some { cls := .ref C, dict := some dx, data := .fields #[.ref t0, .none, .none, .none, .bool false, .none] } → s.heap.objs.size ≤ dx → dx ≠ x → h'.Ns1 dx (fun y => if y = "number" then some v else none) → R (.ok (.ret .none)) { s with heap := h', toks := tk }) :
    codeAny (model prog w) A (.call (.ref fI) ⟨[.ref x, v], []⟩) R s := by
  obtain ⟨oc, od, kV, doc, pm, an, cdv, ct, osl, p1, p2, q1, q2, q3, q4, ho, hcd⟩ := O.fn
  obtain ⟨cd, hcl, hmro, hobj, hdd⟩ := T.cd
  refine Att.call_fn (binds := [("self", .ref x), ("number", v)]) X lim ho hcd room (BindsTo.of_eq (by first | rfl | with_unfolding_all rfl)) (by first | rfl | decide | with_unfolding_all rfl) (fun s1 IC => ?_) rfl rfl rfl
  obtain ⟨h1, tk1, rfl⟩ := IC.toInCall.same
  have kp : ∀ b o, s.heap.get? b = some o → h1.get? b = some o := IC.toInCall.keep
  have hn := IC.toInCall.ns
  have X1 : K.In h1 := X.keeps kp
  have ox1 := kp _ _ ox
  refine (show wpAny _ _ (execs _ _) _ _ _ from wpAny_execs_cons (plainObj_wpAny_Assign_Attribute ?_))
  refine ldC1 (v := v) hn (by first | rfl | with_unfolding_all rfl | kernel_rfl) (ldC1 (v := .ref x) hn (by first | rfl | with_unfolding_all rfl | kernel_rfl) ?_)
  refine set_plain X1 (ox := excO C t0) (od := none) ⟨ox1, rfl, rfl, trivial⟩ T.sa (osa1 X1 ox1 hcl hmro hobj hdd O.noN fun h3 tk3 dx k3 dn dne ox3 hn3 => ?_)
  have z : s.heap.objs.size < h1.objs.size := hn.lt
  exact (show wpAny _ _ (execs _ _) _ _ _ from wpAny_execs_nil (go h3 tk3 dx (fun b o hb e => k3 b o hb (kp b o e)) ox3 (Nat.le_of_lt (Nat.lt_of_lt_of_le z dn)) dne hn3))
theorem made1 (T : ExT K C B newId initId bmF bmB) (O : OneT K C fI qn) {v : Value} (X : K.In s.heap) (lim : s.heap.NoLimit) (room : A.depth + 1 < recursionLimit)
    (go : ∀ h' tk e d, OwnMade "number" s.heap h' e C d v → R (.ok (.ret (.ref e))) { s with heap := h', toks := tk }) : codeAny (model prog w) A (.call (.ref C) ⟨[v], []⟩) R s := by
  obtain ⟨hp, g, dr, tk, os⟩ := s
  obtain ⟨nm, N, qn', bs, bm, hdct, sn, sub, ab, col, dd, k0, k1, k2, k3, k5, hC, hT⟩ := excInit_of X T.ini
  have kp : ∀ b o, hp.get? b = some o → ((hp.push (kdv_tup [v])).push (excO C hp.objs.size)).get? b = some o := fun b o e => Heap.get?_push_of_some _ (Heap.get?_push_of_some _ e)
  have oe : ((hp.push (kdv_tup [v])).push (excO C hp.objs.size)).get? (hp.objs.size + 1) = some (excO C hp.objs.size) := by heap_get
  refine ccall T.fb ⟨(hT B).trans T.ab.b, (hT _).trans T.ab.a, (hT _).trans T.ab.n⟩ hC (looks_findIn X O.iC) (fun self => bind_fn X self O.tC) (by rw [sizeLine_eq]; exact (by decide : 1 ≤ 16777216)) ?_
  refine init1 (s := ⟨(hp.push (kdv_tup [v])).push (excO C hp.objs.size), g, dr, tk, os⟩) T O (X.keeps kp) (lim.keeps kp) oe room fun h' tk' dx k' ox dn dne ns => ?_
  have old : ∀ b o, hp.get? b = some o → h'.get? b = some o := fun b o e => k' b o (Nat.ne_of_lt (Nat.lt_succ_of_lt (Heap.lt_size e))) (kp b o e)
  have z : hp.objs.size + 1 + 1 ≤ dx := by first | (simpa only [Heap.size_push] using dn) | exact dn
  exact ⟨rfl, go h' tk' (hp.objs.size + 1) dx ⟨old, Nat.le_succ _, ⟨hp.objs.size, ox⟩, Nat.le_trans (Nat.le_trans (Nat.le_succ _) (Nat.le_succ _)) z, dne, ns⟩⟩
end
end OneX_number
end PySem
namespace L2
open PySem PySem.Spec PyProof.Rows
section
variable {X : Cx} {C fI : Addr} {qn x : Str} {B newId initId : String} {bmF bmB : List Value}
/-- C(e), as a value -/
theorem pe_one_number {a : Expr} {ta : TA} {p pos : Pos} {k : Nat} (T : PySem.OneX.ExT X.K C B newId initId bmF bmB) (O : PySem.OneX_number.OneT X.K C fI qn) (gC : X.mg x = some (.ref C)) (hr : Room k X.A) (hg : Gl X x) (ha : PA X [a] ta)
    (hdb : (x == ("__debug__" : Str)) = false := by decide) (he : starEach (a :: []) X.env = (false, eval a X.env) :: starEach [] X.env := by rfl) (hpl : (backTo pos (starEach [] X.env)).any (·.1) = false := by rfl) :
    PE X (.Call (.Name x p) [a] [] pos) (tOne "number" C ta) := by
  refine ⟨fun pins s σ H Q I h => wpAny_Call_Name_kw (ld_glob I hg gC ?_ hdb)⟩
  refine PySem.W.callWith_K (h₀ := X.base) I.ok.mod.kin T.kC (thn (ha.run pos pins s σ H _ I h) fun us s1 hh => ?_) he hpl
  obtain ⟨vs, H1, I1, r1, v, ev, q1⟩ := hh
  subst ev
  refine ⟨I1.kIn, ?_⟩
  cases r1 with
  | cons rv rn =>
    rename_i v' us'
    cases rn
    have lim := I1.nolimit
    obtain ⟨hp, g, dr, tk, os⟩ := s1
    show wpAny _ _ (call (.ref C) [v']) _ _ _
    refine wpAny_call (PySem.OneX_number.made1 T O I1.kIn lim (by have := hr.dp; omega) fun h' tk' e d M => ?_)
    exact one_end "number" I1 rv M q1
end
end L2
namespace PySem
namespace OneX_by
open PySem.W PySem.Calls PyProof.Rows PySem.HandSPX PySem.OneX
def iA (p1 p2 : Pos) : Arguments := { posonlyargs := [], args := [{ arg := "self", annotation := none, pos := p1 }, { arg := "by", annotation := none, pos := p2 }], vararg := none, kwonlyargs := [], kw_defaults := [], kwarg := none, defaults := [] }
def iB (q1 q2 q3 q4 : Pos) : List Stmt := [.Assign [.Attribute (.Name "self" q1) "by" q2] (.Name "by" q3) q4]
def iS : Scope := { kind := .function, names := [(PySem.Str.ofString "self", .local), (PySem.Str.ofString "by", .local)], isGenerator := false, isCoroutine := false, more := [] }
/-- of the class's own __init__ -/
structure OneT (K : Frag) (C fI : Addr) (qn : Str) : Prop where
  noN : findIn K (.ref C) "by" = some none
  iC : findIn K (.ref C) "__init__" = some (some (.ref fI))
  tC : typeIn K (.ref fI) = some (.type "function")
  fn : ∃ (oc : Value) (od : Option Addr) (kV doc pm : Value) (an : Option Addr) (cdv ct : Value) (osl : Array (Option Value)) (p1 p2 q1 q2 q3 q4 : Pos),
    K.lookup fI = some ⟨oc, od, .func (fnOf "__init__" qn (iA p1 p2) (iB q1 q2 q3 q4) iS .none kV doc pm an cdv ct), osl⟩ ∧ codeIn K cdv qn = true
section
variable {prog : Program} {w : World} {A : Around} {E : Value → Shared → Prop} {R : Result → Shared → Prop} {s : Shared} {K : Frag} {C fI : Addr} {qn : Str} {B newId initId : String} {bmF bmB : List Value}
theorem init1 (T : ExT K C B newId initId bmF bmB) (O : OneT K C fI qn) {x t0 : Addr} {v : Value} (X : K.In s.heap) (lim : s.heap.NoLimit) (ox : s.heap.get? x = some (excO C t0)) (room : A.depth < recursionLimit)
    (go : ∀ h' tk dx, (∀ b o, b ≠ x → s.heap.get? b = some o → h'.get? b = some o) → h'.get? x = some { cls := .ref C, dict := some dx, data := .fields #[.ref t0, .none, .none, .none, .bool false, .none] } → s.heap.objs.size ≤ dx → dx ≠ x → h'.Ns1 dx (fun y => if y = "by" then some v else none) → R (.ok (.ret .none)) { s with heap := h', toks := tk }) :
    codeAny (model prog w) A (.call (.ref fI) ⟨[.ref x, v], []⟩) R s := by
  obtain ⟨oc, od, kV, doc, pm, an, cdv, ct, osl, p1, p2, q1, q2, q3, q4, ho, hcd⟩ := O.fn
  obtain ⟨cd, hcl, hmro, hobj, hdd⟩ := T.cd
  refine Att.call_fn (binds := [("self", .ref x), ("by", v)]) X lim ho hcd room (BindsTo.of_eq (by first | rfl | with_unfolding_all rfl)) (by first | rfl | decide | with_unfolding_all rfl) (fun s1 IC => ?_) rfl rfl rfl
  obtain ⟨h1, tk1, rfl⟩ := IC.toInCall.same
  have kp : ∀ b o, s.heap.get? b = some o → h1.get? b = some o := IC.toInCall.keep
  have hn := IC.toInCall.ns
  have X1 : K.In h1 := X.keeps kp
  have ox1 := kp _ _ ox
  refine (show wpAny _ _ (execs _ _) _ _ _ from wpAny_execs_cons (plainObj_wpAny_Assign_Attribute ?_))
  refine ldC1 (v := v) hn (by first | rfl | with_unfolding_all rfl | kernel_rfl) (ldC1 (v := .ref x) hn (by first | rfl | with_unfolding_all rfl | kernel_rfl) ?_)
  refine set_plain X1 (ox := excO C t0) (od := none) ⟨ox1, rfl, rfl, trivial⟩ T.sa (osa1 X1 ox1 hcl hmro hobj hdd O.noN fun h3 tk3 dx k3 dn dne ox3 hn3 => ?_)
  have z : s.heap.objs.size < h1.objs.size := hn.lt
  exact (show wpAny _ _ (execs _ _) _ _ _ from wpAny_execs_nil (go h3 tk3 dx (fun b o hb e => k3 b o hb (kp b o e)) ox3 (Nat.le_of_lt (Nat.lt_of_lt_of_le z dn)) dne hn3))
theorem made1 (T : ExT K C B newId initId bmF bmB) (O : OneT K C fI qn) {v : Value} (X : K.In s.heap) (lim : s.heap.NoLimit) (room : A.depth + 1 < recursionLimit)
    (go : ∀ h' tk e d, OwnMade "by" s.heap h' e C d v → R (.ok (.ret (.ref e))) { s with heap := h', toks := tk }) : codeAny (model prog w) A (.call (.ref C) ⟨[v], []⟩) R s := by
  obtain ⟨hp, g, dr, tk, os⟩ := s
  obtain ⟨nm, N, qn', bs, bm, hdct, sn, sub, ab, col, dd, k0, k1, k2, k3, k5, hC, hT⟩ := excInit_of X T.ini
  have kp : ∀ b o, hp.get? b = some o → ((hp.push (kdv_tup [v])).push (excO C hp.objs.size)).get? b = some o := fun b o e => Heap.get?_push_of_some _ (Heap.get?_push_of_some _ e)
  have oe : ((hp.push (kdv_tup [v])).push (excO C hp.objs.size)).get? (hp.objs.size + 1) = some (excO C hp.objs.size) := by heap_get
  refine ccall T.fb ⟨(hT B).trans T.ab.b, (hT _).trans T.ab.a, (hT _).trans T.ab.n⟩ hC (looks_findIn X O.iC) (fun self => bind_fn X self O.tC) (by rw [sizeLine_eq]; exact (by decide : 1 ≤ 16777216)) ?_
  refine init1 (s := ⟨(hp.push (kdv_tup [v])).push (excO C hp.objs.size), g, dr, tk, os⟩) T O (X.keeps kp) (lim.keeps kp) oe room fun h' tk' dx k' ox dn dne ns => ?_
  have old : ∀ b o, hp.get? b = some o → h'.get? b = some o := fun b o e => k' b o (Nat.ne_of_lt (Nat.lt_succ_of_lt (Heap.lt_size e))) (kp b o e)
  have z : hp.objs.size + 1 + 1 ≤ dx := by first | (simpa only [Heap.size_push] using dn) | exact dn
  exact ⟨rfl, go h' tk' (hp.objs.size + 1) dx ⟨old, Nat.le_succ _, ⟨hp.objs.size, ox⟩, Nat.le_trans (Nat.le_trans (Nat.le_succ _) (Nat.le_succ _)) z, dne, ns⟩⟩
end
end OneX_by
end PySem
namespace L2
open PySem PySem.Spec PyProof.Rows
section
variable {X : Cx} {C fI : Addr} {qn x : Str} {B newId initId : String} {bmF bmB : List Value}
/-- C(e), as a value -/
theorem pe_one_by {a : Expr} {ta : TA} {p pos : Pos} {k : Nat} (T : PySem.OneX.ExT X.K C B newId initId bmF bmB) (O : PySem.OneX_by.OneT X.K C fI qn) (gC : X.mg x = some (.ref C)) (hr : Room k X.A) (hg : Gl X x) (ha : PA X [a] ta)
    (hdb : (x == ("__debug__" : Str)) = false := by decide) (he : starEach (a :: []) X.env = (false, eval a X.env) :: starEach [] X.env := by rfl) (hpl : (backTo pos (starEach [] X.env)).any (·.1) = false := by rfl) :
    PE X (.Call (.Name x p) [a] [] pos) (tOne "by" C ta) := by
  refine ⟨fun pins s σ H Q I h => wpAny_Call_Name_kw (ld_glob I hg gC ?_ hdb)⟩
  refine PySem.W.callWith_K (h₀ := X.base) I.ok.mod.kin T.kC (thn (ha.run pos pins s σ H _ I h) fun us s1 hh => ?_) he hpl
  obtain ⟨vs, H1, I1, r1, v, ev, q1⟩ := hh
  subst ev
  refine ⟨I1.kIn, ?_⟩
  cases r1 with
  | cons rv rn =>
    rename_i v' us'
    cases rn
    have lim := I1.nolimit
    obtain ⟨hp, g, dr, tk, os⟩ := s1
    show wpAny _ _ (call (.ref C) [v']) _ _ _
    refine wpAny_call (PySem.OneX_by.made1 T O I1.kIn lim (by have := hr.dp; omega) fun h' tk' e d M => ?_)
    exact one_end "by" I1 rv M q1
end
end L2
namespace PySem
namespace OneX_row
open PySem.W PySem.Calls PyProof.Rows PySem.HandSPX PySem.OneX
def iA (p1 p2 : Pos) : Arguments := { posonlyargs := [], args := [{ arg := "self", annotation := none, pos := p1 }, { arg := "row", annotation := none, pos := p2 }], vararg := none, kwonlyargs := [], kw_defaults := [], kwarg := none, defaults := [] }
def iB (q1 q2 q3 q4 : Pos) : List Stmt := [.Assign [.Attribute (.Name "self" q1) "row" q2] (.Name "row" q3) q4]
def iS : Scope := { kind := .function, names := [(PySem.Str.ofString "self", .local), (PySem.Str.ofString "row", .local)], isGenerator := false, isCoroutine := false, more := [] }
/-- of the class's own __init__ -/
structure OneT (K : Frag) (C fI : Addr) (qn : Str) : Prop where
  noN : findIn K (.ref C) "row" = some none
  iC : findIn K (.ref C) "__init__" = some (some (.ref fI))
  tC : typeIn K (.ref fI) = some (.type "function")
  fn : ∃ (oc : Value) (od : Option Addr) (kV doc pm : Value) (an : Option Addr) (cdv ct : Value) (osl : Array (Option Value)) (p1 p2 q1 q2 q3 q4 : Pos),
    K.lookup fI = some ⟨oc, od, .func (fnOf "__init__" qn (iA p1 p2) (iB q1 q2 q3 q4) iS .none kV doc pm an cdv ct), osl⟩ ∧ codeIn K cdv qn = true
section
variable {prog : Program} {w : World} {A : Around} {E : Value → Shared → Prop} {R : Result → Shared → Prop} {s : Shared} {K : Frag} {C fI : Addr} {qn : Str} {B newId initId : String} {bmF bmB : List Value}
theorem init1 (T : ExT K C B newId initId bmF bmB) (O : OneT K C fI qn) {x t0 : Addr} {v : Value} (X : K.In s.heap) (lim : s.heap.NoLimit) (ox : s.heap.get? x = some (excO C t0)) (room : A.depth < recursionLimit)
    (go : ∀ h' tk dx, (∀ b o, b ≠ x → s.heap.get? b = some o → h'.get? b = some o) → h'.get? x = some { cls := .ref C, dict := some dx, data := .fields #[.ref t0, .none, .none, .none, .bool false, .none] } → s.heap.objs.size ≤ dx → dx ≠ x → h'.Ns1 dx (fun y => if y = "row" then some v else none) → R (.ok (.ret .none)) { s with heap := h', toks := tk }) :
    codeAny (model prog w) A (.call (.ref fI) ⟨[.ref x, v], []⟩) R s := by
  obtain ⟨oc, od, kV, doc, pm, an, cdv, ct, osl, p1, p2, q1, q2, q3, q4, ho, hcd⟩ := O.fn
  obtain ⟨cd, hcl, hmro, hobj, hdd⟩ := T.cd
  refine Att.call_fn (binds := [("self", .ref x), ("row", v)]) X lim ho hcd room (BindsTo.of_eq (by first | rfl | with_unfolding_all rfl)) (by first | rfl | decide | with_unfolding_all rfl) (fun s1 IC => ?_) rfl rfl rfl
  obtain ⟨h1, tk1, rfl⟩ := IC.toInCall.same
  have kp : ∀ b o, s.heap.get? b = some o → h1.get? b = some o := IC.toInCall.keep
  have hn := IC.toInCall.ns
  have X1 : K.In h1 := X.keeps kp
  have ox1 := kp _ _ ox
  refine (show wpAny _ _ (execs _ _) _ _ _ from wpAny_execs_cons (plainObj_wpAny_Assign_Attribute ?_))
  refine ldC1 (v := v) hn (by first | rfl | with_unfolding_all rfl | kernel_rfl) (ldC1 (v := .ref x) hn (by first | rfl | with_unfolding_all rfl | kernel_rfl) ?_)
  refine set_plain X1 (ox := excO C t0) (od := none) ⟨ox1, rfl, rfl, trivial⟩ T.sa (osa1 X1 ox1 hcl hmro hobj hdd O.noN fun h3 tk3 dx k3 dn dne ox3 hn3 => ?_)
  have z : s.heap.objs.size < h1.objs.size := hn.lt
  exact (show wpAny _ _ (execs _ _) _ _ _ from wpAny_execs_nil (go h3 tk3 dx (fun b o hb e => k3 b o hb (kp b o e)) ox3 (Nat.le_of_lt (Nat.lt_of_lt_of_le z dn)) dne hn3))
theorem made1 (T : ExT K C B newId initId bmF bmB) (O : OneT K C fI qn) {v : Value} (X : K.In s.heap) (lim : s.heap.NoLimit) (room : A.depth + 1 < recursionLimit)
    (go : ∀ h' tk e d, OwnMade "row" s.heap h' e C d v → R (.ok (.ret (.ref e))) { s with heap := h', toks := tk }) : codeAny (model prog w) A (.call (.ref C) ⟨[v], []⟩) R s := by
  obtain ⟨hp, g, dr, tk, os⟩ := s
  obtain ⟨nm, N, qn', bs, bm, hdct, sn, sub, ab, col, dd, k0, k1, k2, k3, k5, hC, hT⟩ := excInit_of X T.ini
  have kp : ∀ b o, hp.get? b = some o → ((hp.push (kdv_tup [v])).push (excO C hp.objs.size)).get? b = some o := fun b o e => Heap.get?_push_of_some _ (Heap.get?_push_of_some _ e)
  have oe : ((hp.push (kdv_tup [v])).push (excO C hp.objs.size)).get? (hp.objs.size + 1) = some (excO C hp.objs.size) := by heap_get
  refine ccall T.fb ⟨(hT B).trans T.ab.b, (hT _).trans T.ab.a, (hT _).trans T.ab.n⟩ hC (looks_findIn X O.iC) (fun self => bind_fn X self O.tC) (by rw [sizeLine_eq]; exact (by decide : 1 ≤ 16777216)) ?_
  refine init1 (s := ⟨(hp.push (kdv_tup [v])).push (excO C hp.objs.size), g, dr, tk, os⟩) T O (X.keeps kp) (lim.keeps kp) oe room fun h' tk' dx k' ox dn dne ns => ?_
  have old : ∀ b o, hp.get? b = some o → h'.get? b = some o := fun b o e => k' b o (Nat.ne_of_lt (Nat.lt_succ_of_lt (Heap.lt_size e))) (kp b o e)
  have z : hp.objs.size + 1 + 1 ≤ dx := by first | (simpa only [Heap.size_push] using dn) | exact dn
  exact ⟨rfl, go h' tk' (hp.objs.size + 1) dx ⟨old, Nat.le_succ _, ⟨hp.objs.size, ox⟩, Nat.le_trans (Nat.le_trans (Nat.le_succ _) (Nat.le_succ _)) z, dne, ns⟩⟩
end
end OneX_row
end PySem
namespace L2
open PySem PySem.Spec PyProof.Rows
section
variable {X : Cx} {C fI : Addr} {qn x : Str} {B newId initId : String} {bmF bmB : List Value}
/-- C(e), as a value -/
theorem pe_one_row {a : Expr} {ta : TA} {p pos : Pos} {k : Nat} (T : PySem.OneX.ExT X.K C B newId initId bmF bmB) (O : PySem.OneX_row.OneT X.K C fI qn) (gC : X.mg x = some (.ref C)) (hr : Room k X.A) (hg : Gl X x) (ha : PA X [a] ta)
    (hdb : (x == ("__debug__" : Str)) = false := by decide) (he : starEach (a :: []) X.env = (false, eval a X.env) :: starEach [] X.env := by rfl) (hpl : (backTo pos (starEach [] X.env)).any (·.1) = false := by rfl) :
    PE X (.Call (.Name x p) [a] [] pos) (tOne "row" C ta) := by
  refine ⟨fun pins s σ H Q I h => wpAny_Call_Name_kw (ld_glob I hg gC ?_ hdb)⟩
  refine PySem.W.callWith_K (h₀ := X.base) I.ok.mod.kin T.kC (thn (ha.run pos pins s σ H _ I h) fun us s1 hh => ?_) he hpl
  obtain ⟨vs, H1, I1, r1, v, ev, q1⟩ := hh
  subst ev
  refine ⟨I1.kIn, ?_⟩
  cases r1 with
  | cons rv rn =>
    rename_i v' us'
    cases rn
    have lim := I1.nolimit
    obtain ⟨hp, g, dr, tk, os⟩ := s1
    show wpAny _ _ (call (.ref C) [v']) _ _ _
    refine wpAny_call (PySem.OneX_row.made1 T O I1.kIn lim (by have := hr.dp; omega) fun h' tk' e d M => ?_)
    exact one_end "row" I1 rv M q1
end
end L2
/-! ### the law's own call, what runs around it told: nothing is being shown -/
namespace L2
open PySem PySem.Spec PyProof.Rows
/-- the promise of the def at f, called where A runs around -/
def FnAt (A : Around) (P : Program) (w : World) (K : PySem.W.Frag) (mg : Str → Option Value) (base : Heap) (CX : CXT) (k : Nat) (f : Addr) (fd : FuncData) (ps : List Str) (sp : Sp) : Prop :=
  ∀ (s : Shared) (H : Hp) (args : Args) (us : List Value) (vs : List V) (Q : VK) (E : XK), Room k A → Env0 P w K mg base A [] s H → BindsTo s fd args (ps.zip us) → Vals vs us → sp vs H Q E → codeAny (model P w) A (.call (.ref f) args) (CR CX [] P w H s Q E) s
theorem fnat_of {A : Around} {CX : CXT} {P : Program} {w : World} {K : PySem.W.Frag} {mg : Str → Option Value} {base : Heap} {k : Nat} {f : Addr} {fd : FuncData} {x qual : Str} {params : Arguments} {body : List Stmt} {scope : Scope} {N ps : List Str} {sp : Sp} {dvs : List V} {kws : List (Str × V)}
    (F : FunD K x qual params body scope dvs kws f fd) (S : FnScope N ps scope) (len : ∀ vs H Q E, sp vs H Q E → vs.length = ps.length)
    (hb : ∀ (cdv : Value) (s : Shared) (H : Hp) (vs : List V) (Q : VK) (E : XK), Room k (A.deeper (envOfC qual scope s.heap.objs.size f cdv)) → sp vs H Q E → ∃ t, PSs (cxOf CX P w K mg base N qual scope f cdv A [] s H E) body t ∧ t { nx := fun _ H' => Q .non H', rt := Q } (start N vs) H) :
    FnAt A P w K mg base CX (k + 1) f fd ps sp := by
  obtain ⟨oc, od, dV, kV, doc, pm, an, cdv, ct, osl, rfl, lk, hcd, _, _⟩ := F.ex
  intro s H args us vs Q E hr e0 bt r hsp
  have lv := len _ _ _ _ hsp
  have inK : K.In s.heap := e0.mod.kin.keeps fun b o e => (e0.bs b o e).1
  have nolim : s.heap.NoLimit := e0.mod.nolimit.keeps fun b o e => (e0.bs b o e).1
  have kinds : ∀ y ∈ ps.zip us, scope.names.lookup y.1 = some .local ∨ (scope.names.lookup y.1 = some .cell ∧ ((cellsFrom (s.heap.objs.size + 1) scope.names []).lookup y.1).isSome = true) := fun ⟨n, v⟩ hy =>
    (S.par n (List.of_mem_zip hy).1).elim .inl fun q => .inr ⟨q, PySem.W.cellsFrom_some _ _ _ (.inl q)⟩
  refine codeAny_call_function hr.depth (inK _ _ lk) rfl S.co S.gen rfl (PySem.W.codeRec_of inK hcd) (bt _ _ _ _ (wpAny_newFunctionEnv_cells S.kind kinds fun env he s1 x => ?_))
  subst he
  obtain ⟨t, ht, hq⟩ := hb cdv s H vs Q E (hr.deeper _) hsp
  have I : Inv (cxOf CX P w K mg base N qual scope f cdv A [] s H E) [] (start N vs) H s1 := inv_start S hr.hd e0 lv r x
  refine ⟨nolim.keeps x.toInCall.keep, codeAny_func (wpAny_mono (ht.run [] s1 (start N vs) H _ I hq) (fun fl s' hs => ?_) fun e s' hs => hs)⟩
  match fl, hs with
  | .ret u, ⟨v, σ', H', J, rv, q⟩ => exact ⟨v, H', J.os, J.bare, J.base, J.hok, rv, q⟩
  | .next, ⟨σ', H', J, q⟩ => exact ⟨V.non, H', J.os, J.bare, J.base, J.hok, rfl, q⟩
  | .brk, ⟨_, _, _, q⟩ => exact False.elim q
  | .cont, ⟨_, _, _, q⟩ => exact False.elim q
theorem law_at {P : Program} {w : World} {K : PySem.W.Frag} {mg mb : Str → Option Value} {k : Nat} {fa a : Addr} {fd : FuncData} {x : Str} {sp : Sp} {s1 : Shared} {vs : List Value} {ns : List Int} (KX : K.In s1.heap) (hns : s1.heap.Ns mainGlobals mg) (hb : s1.heap.Ns builtinsNs mb) (hbb : ∀ x : Str, x ≠ "__name__" → mb x = bootBuiltins x)
    (hlim : s1.heap.NoLimit) (hg : s1.gens = #[]) (ha : s1.heap.get? a = some { cls := .type "list", data := .seq vs.toArray }) (hi : IntsAre vs ns) (hl : ns.length ≤ sizeLine) (hr : Room k callerA)
    (F : ∀ base : Heap, K.In base → base.Ns mainGlobals mg → FnAt callerA P w K mg base CX0 k fa fd [x] sp) (hbind : ∀ (s : Shared) (u : Value), BindsTo s fd ⟨[u], []⟩ [(x, u)]) (hsp : ∀ H : Hp, Only H → SqL K H a (ns.map V.int) → sp [.ref a] H (fun v _ => v = .bl true) fun _ _ _ => False) :
    codeAny (model P w) callerA (.call (.ref fa) ⟨[.ref a], []⟩) (fun r s' => r = .ok (.ret (.bool true)) ∧ OldK s1.heap s'.heap ∧ s'.os = s1.os ∧ AllBare s'.gens) s1 := by
  have rv := vals_ints hi
  have core : ∀ H : Hp, Only H → SqL K H a (ns.map V.int) → HOk P w H s1.heap → (∀ b, H b ≠ none → b = a) → (H a ≠ none → K.lookup a = none) → codeAny (model P w) callerA (.call (.ref fa) ⟨[.ref a], []⟩) (fun r s' => r = .ok (.ret (.bool true)) ∧ OldK s1.heap s'.heap ∧ s'.os = s1.os ∧ AllBare s'.gens) s1 := by
    intro H only hS hok alone out
    have stays : ∀ {b : Addr} {o : Obj}, s1.heap.get? b = some o → H b = none → (hidT s1.heap H).get? b = some o := fun e n => hidT_get e n
    have free : ∀ {b : Addr} {o : Obj} {es : Array DictEntry} {ep : Nat}, s1.heap.get? b = some o → o.data = .dict es ep → H b = none := fun {b o es ep} e dd => by
      cases q : H b with
      | none => rfl
      | some u =>
        have eb : b = a := alone b fun z => by rw [q] at z; cases z
        subst eb
        rw [ha] at e
        cases e
        cases (show Data.seq vs.toArray _ = Data.dict es ep from dd)
    have names : ∀ {b : Addr} {m : Str → Option Value}, s1.heap.Ns b m → (hidT s1.heap H).Ns b m := fun {b m} ⟨o, es, ep, e, dd, r⟩ => ⟨o, es, ep, stays e (free e dd), dd, r⟩
    have inB : K.In (hidT s1.heap H) := fun b o e => stays (KX b o e) (by
      cases q : H b with
      | none => rfl
      | some u =>
        have eb : b = a := alone b fun z => by rw [q] at z; cases z
        subst eb
        rw [out fun z => by rw [q] at z; cases z] at e
        cases e)
    have modB : Mod K mg (hidT s1.heap H) := ⟨inB, names hns, ⟨mb, names hb, hbb⟩, let ⟨mc, h1, h2⟩ := hlim; ⟨mc, names h1, h2⟩⟩
    have env : Env0 P w K mg (hidT s1.heap H) callerA [] s1 H := ⟨rfl, modB, fun b o e => of_hidT e, Nat.le_of_eq (hidT_size _ _), trivial, fun b z => (nomatch (show b ∈ ([] : List Addr) from z)), hok, .of_eq hg⟩
    refine codeAny_mono (F _ inB (names hns) s1 H ⟨[.ref a], []⟩ [.ref a] [.ref a] _ _ hr env (hbind s1 (.ref a)) (.cons rfl .nil) (hsp H only hS)) fun r s' h => ?_
    match r, h with
    | .error e, h => exact (show False from h).elim
    | .ok .next, h => exact (show False from h).elim
    | .ok .brk, h => exact (show False from h).elim
    | .ok .cont, h => exact (show False from h).elim
    | .ok (.ret u), ⟨v, H', os, bare, un, hok', r', q⟩ =>
      have q' : v = .bl true := q
      subst q'
      obtain rfl : u = Value.bool true := r'
      refine ⟨rfl, OldK.of_keep fun b o e => ?_, os, bare⟩
      cases q : H b with
      | none => exact un.keep b o e q (fun z => nomatch (show b ∈ ([] : List Addr) from z)) (by simp)
      | some u =>
        rcases only b with z | ⟨ob, xs, z⟩
        · rw [q] at z; cases z
        · obtain ⟨e1, _⟩ := hok b _ z; obtain ⟨e2, _⟩ := hok' b _ (un.frzs b ob _ z)
          rw [e] at e1; cases e1; exact e2
  cases hk : K.lookup a with
  | some o =>
    have e := KX a o hk; rw [ha] at e; cases e
    exact core (fun _ => none) (fun _ => .inl rfl) (.inr ⟨_, vs.toArray, _, hk, rfl, rfl, rfl, by rw [List.size_toArray, hi.length]; exact hl, by simpa using rv⟩) (fun b u z => (nomatch (show (none : Option HO) = some u from z))) (fun b z => absurd rfl z) fun z => absurd rfl z
  | none =>
    refine core (fun b => if b = a then some (.frz { cls := .type "list", data := .seq vs.toArray } (.lst (ns.map V.int))) else none) (fun b => ?_) (.inl (.inr ⟨_, if_pos rfl⟩)) (fun b u z => ?_) (fun b z => Decidable.byContradiction fun hb => z (if_neg hb)) fun _ => hk
    · by_cases eb : b = a
      · exact .inr ⟨_, _, if_pos eb⟩
      · exact .inl (if_neg eb)
    · by_cases eb : b = a
      · cases (if_pos eb).symm.trans z
        subst eb
        exact ⟨ha, by rw [List.length_map]; exact hl, vs, _, rv, ha⟩
      · cases (if_neg eb).symm.trans z
theorem walk_at {l : PySem.W.OpenLaw} {n k : Nat} {q : Program} {loose : List Str} {XP : (Str → Option Value) → Heap → Prop} {YP : World → Heap → Prop} {d : DefRec} {x : Str} (hn : l.most = some n) (hn2 : n ≤ sizeLine) (hdf : d.params.defaults = []) (hr : Room k callerA)
    (F : ∀ (w : World) (mg : Str → Option Value) (fa : Addr) (h : Heap), YP w h → h.Ns mainGlobals mg → mg d.name = some (.ref fa) → ∃ (K : PySem.W.Frag) (fd : FuncData) (sp : Sp), K.In h ∧ (∀ (s : Shared) (u : Value), BindsTo s fd ⟨[u], []⟩ [(x, u)]) ∧
        (∀ (H : Hp) (a : Addr) (ns : List Int), ns.length ≤ n → Only H → SqL K H a (ns.map V.int) → sp [.ref a] H (fun v _ => v = .bl true) fun _ _ _ => False) ∧ ∀ base : Heap, K.In base → base.Ns mainGlobals mg → FnAt callerA l.prog w K mg base CX0 k fa fd [x] sp) :
    PySem.W.WalkO q loose XP YP l.row.toRowW d [] (fun f vs => PySem.call f vs) := by
  refine Att.attach_call hn hdf fun w s₀ s1 mg mb fa o pm cd doc a vs ns G Y ho hd hcd hmg hobj hints hlen hg => ?_
  obtain ⟨K, fd, sp, KX, hb, hsp, hF⟩ := F w mg fa _ Y G.T.g hmg
  exact law_at KX G.T.g G.T.b G.T.builtins G.T.nolimit hg hobj hints (Nat.le_trans hlen hn2) hr hF hb fun H hO hS => hsp H a ns hlen hO hS
/-- repr of data, where nothing is being shown -/
def rRepr (K : PySem.W.Frag) : List V → Hp → VK → Prop := fun xs H Q => ∃ (a : Addr) (d : PyData), xs = [.ref a] ∧ Dp K H (.ref a) d ∧ d.showable = true ∧ d.hasDict = false ∧ d.depth ≤ 60 ∧ d.shown.length ≤ sizeLine ∧ Q (.str d.shown) H
theorem call_repr {X : Cx} (hg : X.A.guards = some []) (hu : X.A.units + 64 < cLine) : CallR X (.builtin "repr") (rRepr X.K) := by
  intro pins s σ H xs us Q I r h
  obtain ⟨a, d, rfl, hd, hs, hnd, hdp, hsz, q⟩ := h
  rw [Vals.ref1 r]
  obtain ⟨as, hr⟩ := Dp.reads I d (.ref a) (.ref a) hd rfl
  exact repr_of_reads' hr hs (PyData.noDict_hsm hnd) hg (by omega) (fun _ _ e => e) (fun h' u tk hk => ⟨.str d.shown, H, I.kept (t' := tk) hk, ⟨u, rfl⟩, q⟩) hsz
end L2
namespace Rd
open PySem PySem.Spec PyProof.Rows L2
def top (i : Nat) : Stmt := PySem.Challenge.pw_roundstore_k01_refusals_made_by_hand.main.body.getD i (.Pass ⟨0, 0, 0, 0⟩)
abbrev s_l_hand : Stmt := top 17
abbrev N_l_hand : List Str := ["_law_script", "_law_k", "_law_cell", "_law_great"]
theorem sc_l_hand : FnScope N_l_hand ["_law_script", "_law_k"] (defScope s_l_hand) := ⟨rfl, rfl, rfl, by decide +kernel, rfl, by decide +kernel, by decide +kernel⟩
abbrev s_l_take : Stmt := top 18
abbrev N_l_take : List Str := ["_law_hand_here", "_law_many", "_law_digit", "_law_primes", "_law_prime", "_law_drawn"]
theorem sc_l_take : FnScope N_l_take ["_law_hand_here", "_law_many"] (defScope s_l_take) := ⟨rfl, rfl, rfl, by decide +kernel, rfl, by decide +kernel, by decide +kernel⟩
abbrev s_l_of : Stmt := top 19
abbrev N_l_of : List Str := ["_law_hand_here", "_law_some"]
theorem sc_l_of : FnScope N_l_of ["_law_hand_here", "_law_some"] (defScope s_l_of) := ⟨rfl, rfl, rfl, by decide +kernel, rfl, by decide +kernel, by decide +kernel⟩
abbrev s_l_marks : Stmt := top 20
abbrev N_l_marks : List Str := ["_law_e", "_law_some"]
theorem sc_l_marks : FnScope N_l_marks ["_law_e"] (defScope s_l_marks) := ⟨rfl, rfl, rfl, by decide +kernel, rfl, by decide +kernel, by decide +kernel⟩
abbrev s_l_kinds : Stmt := top 21
abbrev N_l_kinds : List Str := ["_law_e", "_law_some"]
theorem sc_l_kinds : FnScope N_l_kinds ["_law_e"] (defScope s_l_kinds) := ⟨rfl, rfl, rfl, by decide +kernel, rfl, by decide +kernel, by decide +kernel⟩
abbrev s_l_word : Stmt := top 22
abbrev N_l_word : List Str := ["_law_hand_here", "_law_long", "_law_turn"]
theorem sc_l_word : FnScope N_l_word ["_law_hand_here"] (defScope s_l_word) := ⟨rfl, rfl, rfl, by decide +kernel, rfl, by decide +kernel, by decide +kernel⟩
abbrev s_law : Stmt := top 23
abbrev N_law : List Str := ["_law_script", "_law_hand_here", "_law_words", "_law_odd", "_law_at", "_law_gone", "_law_some", "_law_kinds_here", "_law_k", "_law_e", "_law_held", "_law_turn", "_law_j"]
theorem sc_law : FnScope N_law ["_law_script"] (defScope s_law) := ⟨rfl, rfl, rfl, by decide +kernel, rfl, by decide +kernel, by decide +kernel⟩
theorem gl_of {X : Cx} {x : Str} {sc : Scope} (h : sc.names.lookup x = some .globalImplicit) (e : X.env.scope = sc := by rfl) : Gl X x := by
  unfold Gl Env.kindOf
  rw [e]
  exact h
theorem gl_l_hand_len : (defScope s_l_hand).names.lookup ("len" : Str) = some .globalImplicit := by decide +kernel
theorem gl_l_hand_abs : (defScope s_l_hand).names.lookup ("abs" : Str) = some .globalImplicit := by decide +kernel
theorem gl_l_hand_int : (defScope s_l_hand).names.lookup ("int" : Str) = some .globalImplicit := by decide +kernel
theorem gl_l_of_l_take : (defScope s_l_of).names.lookup ("_law_take" : Str) = some .globalImplicit := by decide +kernel
theorem gl_l_of_len : (defScope s_l_of).names.lookup ("len" : Str) = some .globalImplicit := by decide +kernel
theorem gl_l_marks_isinstance : (defScope s_l_marks).names.lookup ("isinstance" : Str) = some .globalImplicit := by decide +kernel
theorem gl_l_marks_Taken : (defScope s_l_marks).names.lookup ("Taken" : Str) = some .globalImplicit := by decide +kernel
theorem gl_l_marks_Busy : (defScope s_l_marks).names.lookup ("Busy" : Str) = some .globalImplicit := by decide +kernel
theorem gl_l_marks_NoLine : (defScope s_l_marks).names.lookup ("NoLine" : Str) = some .globalImplicit := by decide +kernel
theorem gl_l_marks_NoStore : (defScope s_l_marks).names.lookup ("NoStore" : Str) = some .globalImplicit := by decide +kernel
theorem gl_l_marks_NoTable : (defScope s_l_marks).names.lookup ("NoTable" : Str) = some .globalImplicit := by decide +kernel
theorem gl_l_marks_NoHouse : (defScope s_l_marks).names.lookup ("NoHouse" : Str) = some .globalImplicit := by decide +kernel
theorem gl_l_marks_NoName : (defScope s_l_marks).names.lookup ("NoName" : Str) = some .globalImplicit := by decide +kernel
theorem gl_l_marks_NoDeed : (defScope s_l_marks).names.lookup ("NoDeed" : Str) = some .globalImplicit := by decide +kernel
theorem gl_l_marks_Looked : (defScope s_l_marks).names.lookup ("Looked" : Str) = some .globalImplicit := by decide +kernel
theorem gl_l_marks_Waits : (defScope s_l_marks).names.lookup ("Waits" : Str) = some .globalImplicit := by decide +kernel
theorem gl_l_marks_Late : (defScope s_l_marks).names.lookup ("Late" : Str) = some .globalImplicit := by decide +kernel
theorem gl_l_marks_NoRow : (defScope s_l_marks).names.lookup ("NoRow" : Str) = some .globalImplicit := by decide +kernel
theorem gl_l_marks_NoText : (defScope s_l_marks).names.lookup ("NoText" : Str) = some .globalImplicit := by decide +kernel
theorem gl_l_marks_Stopped : (defScope s_l_marks).names.lookup ("Stopped" : Str) = some .globalImplicit := by decide +kernel
theorem gl_l_marks_NoNumber : (defScope s_l_marks).names.lookup ("NoNumber" : Str) = some .globalImplicit := by decide +kernel
theorem gl_l_kinds_isinstance : (defScope s_l_kinds).names.lookup ("isinstance" : Str) = some .globalImplicit := by decide +kernel
theorem gl_l_kinds_KeyError : (defScope s_l_kinds).names.lookup ("KeyError" : Str) = some .globalImplicit := by decide +kernel
theorem gl_l_kinds_LookupError : (defScope s_l_kinds).names.lookup ("LookupError" : Str) = some .globalImplicit := by decide +kernel
theorem gl_l_kinds_RuntimeError : (defScope s_l_kinds).names.lookup ("RuntimeError" : Str) = some .globalImplicit := by decide +kernel
theorem gl_l_kinds_ValueError : (defScope s_l_kinds).names.lookup ("ValueError" : Str) = some .globalImplicit := by decide +kernel
theorem gl_l_kinds_IndexError : (defScope s_l_kinds).names.lookup ("IndexError" : Str) = some .globalImplicit := by decide +kernel
theorem gl_l_kinds_ArithmeticError : (defScope s_l_kinds).names.lookup ("ArithmeticError" : Str) = some .globalImplicit := by decide +kernel
theorem gl_l_kinds_OverflowError : (defScope s_l_kinds).names.lookup ("OverflowError" : Str) = some .globalImplicit := by decide +kernel
theorem gl_l_kinds_TypeError : (defScope s_l_kinds).names.lookup ("TypeError" : Str) = some .globalImplicit := by decide +kernel
theorem gl_l_kinds_ZeroDivisionError : (defScope s_l_kinds).names.lookup ("ZeroDivisionError" : Str) = some .globalImplicit := by decide +kernel
theorem gl_l_word_l_take : (defScope s_l_word).names.lookup ("_law_take" : Str) = some .globalImplicit := by decide +kernel
theorem gl_law_l_hand : (defScope s_law).names.lookup ("_law_hand" : Str) = some .globalImplicit := by decide +kernel
theorem gl_law_l_of : (defScope s_law).names.lookup ("_law_of" : Str) = some .globalImplicit := by decide +kernel
theorem gl_law_l_take : (defScope s_law).names.lookup ("_law_take" : Str) = some .globalImplicit := by decide +kernel
theorem gl_law_NoRow : (defScope s_law).names.lookup ("NoRow" : Str) = some .globalImplicit := by decide +kernel
theorem gl_law_NoTable : (defScope s_law).names.lookup ("NoTable" : Str) = some .globalImplicit := by decide +kernel
theorem gl_law_NoHouse : (defScope s_law).names.lookup ("NoHouse" : Str) = some .globalImplicit := by decide +kernel
theorem gl_law_NoName : (defScope s_law).names.lookup ("NoName" : Str) = some .globalImplicit := by decide +kernel
theorem gl_law_NoDeed : (defScope s_law).names.lookup ("NoDeed" : Str) = some .globalImplicit := by decide +kernel
theorem gl_law_Taken : (defScope s_law).names.lookup ("Taken" : Str) = some .globalImplicit := by decide +kernel
theorem gl_law_Busy : (defScope s_law).names.lookup ("Busy" : Str) = some .globalImplicit := by decide +kernel
theorem gl_law_NoLine : (defScope s_law).names.lookup ("NoLine" : Str) = some .globalImplicit := by decide +kernel
theorem gl_law_NoStore : (defScope s_law).names.lookup ("NoStore" : Str) = some .globalImplicit := by decide +kernel
theorem gl_law_NoText : (defScope s_law).names.lookup ("NoText" : Str) = some .globalImplicit := by decide +kernel
theorem gl_law_Stopped : (defScope s_law).names.lookup ("Stopped" : Str) = some .globalImplicit := by decide +kernel
theorem gl_law_NoNumber : (defScope s_law).names.lookup ("NoNumber" : Str) = some .globalImplicit := by decide +kernel
theorem gl_law_Looked : (defScope s_law).names.lookup ("Looked" : Str) = some .globalImplicit := by decide +kernel
theorem gl_law_Waits : (defScope s_law).names.lookup ("Waits" : Str) = some .globalImplicit := by decide +kernel
theorem gl_law_Late : (defScope s_law).names.lookup ("Late" : Str) = some .globalImplicit := by decide +kernel
theorem gl_law_l_kinds : (defScope s_law).names.lookup ("_law_kinds" : Str) = some .globalImplicit := by decide +kernel
theorem gl_law_l_marks : (defScope s_law).names.lookup ("_law_marks" : Str) = some .globalImplicit := by decide +kernel
theorem gl_law_repr : (defScope s_law).names.lookup ("repr" : Str) = some .globalImplicit := by decide +kernel
theorem bb_len : bootBuiltins "len" = some (.builtin "len") := by decide +kernel
theorem bb_abs : bootBuiltins "abs" = some (.builtin "abs") := by decide +kernel
theorem bb_isinstance : bootBuiltins "isinstance" = some (.builtin "isinstance") := by decide +kernel
theorem bb_repr : bootBuiltins "repr" = some (.builtin "repr") := by decide +kernel
theorem bt_int : bootBuiltins "int" = some (.type "int") := by decide +kernel
theorem bt_KeyError : bootBuiltins "KeyError" = some (.type "KeyError") := by decide +kernel
theorem bt_LookupError : bootBuiltins "LookupError" = some (.type "LookupError") := by decide +kernel
theorem bt_RuntimeError : bootBuiltins "RuntimeError" = some (.type "RuntimeError") := by decide +kernel
theorem bt_ValueError : bootBuiltins "ValueError" = some (.type "ValueError") := by decide +kernel
theorem bt_IndexError : bootBuiltins "IndexError" = some (.type "IndexError") := by decide +kernel
theorem bt_ArithmeticError : bootBuiltins "ArithmeticError" = some (.type "ArithmeticError") := by decide +kernel
theorem bt_OverflowError : bootBuiltins "OverflowError" = some (.type "OverflowError") := by decide +kernel
theorem bt_TypeError : bootBuiltins "TypeError" = some (.type "TypeError") := by decide +kernel
theorem bt_ZeroDivisionError : bootBuiltins "ZeroDivisionError" = some (.type "ZeroDivisionError") := by decide +kernel
/-! ### what the top leaves, and what a def keeps -/
structure Tx (K : PySem.W.Frag) (mg : Str → Option Value) : Prop where
  len : mg "len" = none
  abs : mg "abs" = none
  int : mg "int" = none
  bool : mg "bool" = none
  min : mg "min" = none
  max : mg "max" = none
  all : mg "all" = none
  isinstance : mg "isinstance" = none
  range : mg "range" = none
  list : mg "list" = none
  tuple : mg "tuple" = none
  sorted : mg "sorted" = none
  set : mg "set" = none
  enumerate : mg "enumerate" = none
  repr : mg "repr" = none
  ValueError : mg "ValueError" = none
  RuntimeError : mg "RuntimeError" = none
  LookupError : mg "LookupError" = none
  KeyError : mg "KeyError" = none
  OverflowError : mg "OverflowError" = none
  ArithmeticError : mg "ArithmeticError" = none
  IndexError : mg "IndexError" = none
  ZeroDivisionError : mg "ZeroDivisionError" = none
  TypeError : mg "TypeError" = none
def freeNames : List Str := ["len", "abs", "int", "bool", "min", "max", "all", "isinstance", "range", "list", "tuple", "sorted", "set", "enumerate", "repr", "ValueError", "RuntimeError", "LookupError", "KeyError", "OverflowError", "ArithmeticError", "IndexError", "ZeroDivisionError", "TypeError"]
theorem tx_mk {K : PySem.W.Frag} {mg : Str → Option Value} (h : ∀ x ∈ freeNames, mg x = none) : Tx K mg :=
  ⟨h _ (by decide), h _ (by decide), h _ (by decide), h _ (by decide), h _ (by decide), h _ (by decide), h _ (by decide), h _ (by decide), h _ (by decide), h _ (by decide), h _ (by decide), h _ (by decide), h _ (by decide), h _ (by decide), h _ (by decide), h _ (by decide), h _ (by decide), h _ (by decide), h _ (by decide), h _ (by decide), h _ (by decide), h _ (by decide), h _ (by decide), h _ (by decide)⟩
/-- a def without defaults -/
structure Def0 (K : PySem.W.Frag) (mg : Str → Option Value) (x : Str) (st : Stmt) (ps : List Str) : Prop where
  ex : ∃ (f : Addr) (fd : FuncData), FunD K x x (defArgs st) (defBody st) (defScope st) [] [] f fd ∧ mg x = some (.ref f) ∧ Binds K fd ps []
/-- a def with keyword-only defaults: n values by place, the rest by name or left out -/
structure DefK (K : PySem.W.Frag) (mg : Str → Option Value) (x : Str) (st : Stmt) (ps : List Str) (n : Nat) (kws : List (Str × V)) : Prop where
  ex : ∃ (f : Addr) (fd : FuncData), FunD K x x (defArgs st) (defBody st) (defScope st) [] kws f fd ∧ mg x = some (.ref f) ∧ (∃ ds, Vals (kws.map (·.2)) ds ∧ Binds K fd ps ds) ∧ ∃ g, KBn K fd ps n (kws.map (·.1)) g (fun vs zs => vs ++ zs)
structure CalK (P : Program) (w : World) (K : PySem.W.Frag) (mg : Str → Option Value) (base : Heap) (k : Nat) (x : Str) (n : Nat) (ks : List Str) (sp : Sp) : Prop where
  ex : ∃ (f : Addr) (fd : FuncData) (ps : List Str) (g : List Value → List Value → List Value), FnOk P w K mg base CX0 k f fd ps sp ∧ mg x = some (.ref f) ∧ PySem.W.keepIn K (.ref f) = true ∧ KBn K fd ps n ks g (fun vs zs => vs ++ zs)
section
variable {P : Program} {w : World} {K : PySem.W.Frag} {mg : Str → Option Value} {base : Heap} {x : Str} {st : Stmt} {N ps : List Str} {k n : Nat} {sp : Sp} {kws : List (Str × V)}
/-- the body of a def, as its rule asks it -/
def BodyOk (P : Program) (w : World) (K : PySem.W.Frag) (mg : Str → Option Value) (base : Heap) (x : Str) (st : Stmt) (N : List Str) (k : Nat) (sp : Sp) : Prop :=
  ∀ (f : Addr) (cdv : Value) (A : Around) (outer : List Env) (s : Shared) (H : Hp) (vs : List V) (Q : VK) (E : XK), Room k (A.deeper (envOfC x (defScope st) s.heap.objs.size f cdv)) → sp vs H Q E →
      ∃ t, PSs (cxOf CX0 P w K mg base N x (defScope st) f cdv A outer s H E).nox (defBody st) t ∧ t { nx := fun _ H' => Q .non H', rt := Q } (start N vs) H
theorem Def0.cal (D : Def0 K mg x st ps) (S : FnScope N ps (defScope st)) (len : ∀ vs H Q E, sp vs H Q E → vs.length = ps.length) (hb : BodyOk P w K mg base x st N k sp) : C8.Cal P w K mg base (k + 1) x sp [] := by
  obtain ⟨f, fd, F, g, b⟩ := D.ex
  refine ⟨f, fd, ps, [], F.ok (CX := CX0) S len (fun cdv A outer s H vs Q E hr h => ?_), g, F.kp, b, .nil⟩
  obtain ⟨t, h1, h2⟩ := hb f cdv A outer s H vs Q E hr h
  exact ⟨t, h1.nox, h2⟩
theorem DefK.ok (D : DefK K mg x st ps n kws) (S : FnScope N ps (defScope st)) (len : ∀ vs H Q E, sp vs H Q E → vs.length = ps.length) (hb : BodyOk P w K mg base x st N k sp) :
    CalK P w K mg base (k + 1) x n (kws.map (·.1)) sp ∧ C8.Cal P w K mg base (k + 1) x sp (kws.map (·.2)) := by
  obtain ⟨f, fd, F, g, ⟨ds, hd, b⟩, gg, kb⟩ := D.ex
  have h : FnOk P w K mg base CX0 (k + 1) f fd ps sp := F.ok (CX := CX0) S len (fun cdv A outer s H vs Q E hr h => by
    obtain ⟨t, h1, h2⟩ := hb f cdv A outer s H vs Q E hr h
    exact ⟨t, h1.nox, h2⟩)
  exact ⟨⟨f, fd, ps, gg, h, g, F.kp, kb⟩, ⟨f, fd, ps, ds, h, g, F.kp, b, hd⟩⟩
end
section
variable {X : Cx} {k j n : Nat} {ks : List Str} {sp : Sp} {x : Str} {p pos : Pos} {e : Expr} {es : List Expr} {kws : List Keyword} {t tk : TA}
theorem pe_ck (c : CalK X.prog X.w X.K X.mg X.base k x n ks sp) (hr : Room j X.A) (hk : k ≤ j) (hg : Gl X x) (ha : PA X (e :: es) t) (hkw : PK X kws tk) (hall : (backToKw pos (keywordEach kws X.env)).all (·.1.isSome) = true := by rfl) (hks : (backToKw pos (keywordEach kws X.env)).filterMap (·.1) = ks := by rfl)
    (hdb : (x == ("__debug__" : Str)) = false := by decide) (he : starEach (e :: es) X.env = (false, eval e X.env) :: starEach es X.env := by rfl)
    (hpl : ((backTo pos (starEach (e :: es) X.env)).any (·.1) || (backToKw pos (keywordEach kws X.env)).any (·.1.isNone)) = false := by rfl) :
    PE X (.Call (.Name x p) (e :: es) kws pos) (tCallN n ks.length sp (fun vs zs => vs ++ zs) E0 t tk) := by
  obtain ⟨f, fd, ps, g, F, hm, kp, kb⟩ := c.ex
  exact pe_callN F (hr.mono hk) hg hm kp kb pass0 ha hkw hall hks hdb he hpl
end
/-! ### heaps: all but the drawing hand stands -/
def Fr (h : Addr) (H H' : Hp) : Prop := ∀ a o, a ≠ h → H a = some o → H' a = some o
theorem Fr.refl (h : Addr) (H : Hp) : Fr h H H := fun _ _ _ e => e
theorem Fr.trans {h : Addr} {H H1 H2 : Hp} (a : Fr h H H1) (b : Fr h H1 H2) : Fr h H H2 := fun x o n e => b x o n (a x o n e)
theorem Fr.new {h : Addr} {H : Hp} {p : Addr} {o : HO} (e : H p = none) : Fr h H (upd H p o) := fun a u _ q => by
  rw [upd_ne (ne_of_none q e)]
  exact q
/-- what h did not know may change -/
theorem Fr.mut {h : Addr} {H H' : Hp} {p : Addr} {o : HO} (f : Fr h H H') (e : H p = none) : Fr h H (upd H' p o) := fun a u n q => by
  rw [upd_ne (ne_of_none q e)]
  exact f a u n q
theorem Fr.hand {h : Addr} {H : Hp} {o : HO} : Fr h H (upd H h o) := fun a u n q => by
  rw [upd_ne n]
  exact q
theorem Fr.seq {h : Addr} {K : PySem.W.Frag} {H H' : Hp} {a : Addr} {xs : List V} (f : Fr h H H') (n : a ≠ h) (q : SqL K H a xs) : SqL K H' a xs := by
  rcases q with (q | ⟨o, q⟩) | q
  · exact .inl (.inl (f _ _ n q))
  · exact .inl (.inr ⟨o, f _ _ n q⟩)
  · exact .inr q
theorem Fr.seqT {h : Addr} {K : PySem.W.Frag} {H H' : Hp} {a : Addr} {xs : List V} (f : Fr h H H') (n : a ≠ h) (q : SqT K H a xs) : SqT K H' a xs := by
  rcases q with (q | ⟨o, q⟩) | q
  · exact .inl (.inl (f _ _ n q))
  · exact .inl (.inr ⟨o, f _ _ n q⟩)
  · exact .inr q
/-- the hand: three numbers; n bounds how often it drew -/
def HS (h : Addr) (n : Nat) (H : Hp) : Prop := ∃ g b c : Int, H h = some (.lst [.int g, .int b, .int c]) ∧ 0 ≤ g ∧ g < 10 ^ 90 ∧ 0 ≤ b ∧ b < 2 ^ 62 ∧ 0 ≤ c ∧ c ≤ n
theorem HS.mono {h : Addr} {n m : Nat} {H : Hp} (q : HS h n H) (l : n ≤ m) : HS h m H := by
  obtain ⟨g, b, c, e, g0, g1, b0, b1, c0, c1⟩ := q
  exact ⟨g, b, c, e, g0, g1, b0, b1, c0, by omega⟩
theorem HS.new {h : Addr} {n : Nat} {H : Hp} {p : Addr} {o : HO} (q : HS h n H) (e : H p = none) : HS h n (upd H p o) := by
  obtain ⟨g, b, c, eh, r⟩ := q
  exact ⟨g, b, c, (by rw [upd_ne (ne_of_none eh e)]; exact eh), r⟩
theorem HS.at {h : Addr} {n : Nat} {H : Hp} (q : HS h n H) : ∃ o, H h = some o := by
  obtain ⟨g, b, c, e, _⟩ := q
  exact ⟨_, e⟩
theorem HS.ne {h : Addr} {n : Nat} {H : Hp} {p : Addr} (q : HS h n H) (e : H p = none) : p ≠ h := by
  obtain ⟨g, b, c, eh, _⟩ := q
  exact fun z => by
    rw [z, eh] at e
    cases e
/-! ### the drawing defs of the law -/
def lim : Nat := 100000
/-- hand(script, k) -/
def spHand (K : PySem.W.Frag) : Sp := fun vs H Q _ => ∃ (a : Addr) (ns : List Int) (k : Nat), vs = [.ref a, .int k] ∧ SqL K H a (ns.map V.int) ∧ k ≤ 100 ∧ ∀ p H', H p = none → (∀ q o, H q = some o → H' q = some o) → HS p 0 H' → Q (.ref p) H'
/-- take(hand, many): some number below many -/
def spTake : Sp := fun vs H Q _ => ∃ (h : Addr) (m : Int) (n : Nat), vs = [.ref h, .int m] ∧ HS h n H ∧ n < lim ∧ 0 < m ∧ m ≤ 10 ^ 18 ∧ ∀ d H', 0 ≤ d → d < m → HS h (n + 1) H' → Fr h H H' → Q (.int d) H'
/-- of(hand, some) -/
def spOf (K : PySem.W.Frag) : Sp := fun vs H Q _ => ∃ (h a : Addr) (xs : List V) (n : Nat), vs = [.ref h, .ref a] ∧ HS h n H ∧ n < lim ∧ a ≠ h ∧ SqL K H a xs ∧ 0 < xs.length ∧ xs.length ≤ 1000 ∧ ∀ v H', v ∈ xs → HS h (n + 1) H' → Fr h H H' → Q v H'
theorem pow_ok {i j : Int} (h : 0 ≤ j ∧ j ≤ 1000000 ∧ i.natAbs < 2 ^ 64) : CPow i j := h
theorem atI_in {xs : List V} {i : Int} (h0 : 0 ≤ i) (h1 : i < xs.length) : ∃ v, atI xs i = some v ∧ v ∈ xs := by
  have h2 : i.toNat < xs.length := by omega
  refine ⟨xs[i.toNat], ?_, List.getElem_mem h2⟩
  have e := atI_nat (xs := xs) (j := i.toNat) (List.getElem?_eq_getElem h2)
  rw [Int.toNat_of_nonneg h0] at e
  exact e
theorem if01 (b : Bool) : 0 ≤ (if b = true then (1 : Int) else 0) ∧ (if b = true then (1 : Int) else 0) ≤ 1 := by
  cases b <;> decide
theorem w45 : (((10 : Int) ^ (45 : Int).toNat).natAbs) < 2 ^ 150 := by decide +kernel
theorem e90 : ((10 : Int) ^ (45 : Int).toNat) * ((10 : Int) ^ (45 : Int).toNat) = 10 ^ 90 := by decide +kernel
theorem p17 : ((10 : Int) ^ (17 : Int).toNat) = 100000000000000000 := by decide +kernel
theorem p18 : ((10 : Int) ^ (18 : Int).toNat) = 1000000000000000000 := by decide +kernel
theorem p19 : ((2 : Int) ^ (19 : Int).toNat) = 524288 := by decide +kernel
theorem p20 : ((2 : Int) ^ (20 : Int).toNat) = 1048576 := by decide +kernel
theorem cdw {i j : Int} (h : 0 < j) (h1 : j ≤ 1000000000000000000) : CDivW i j := wide_div (b := 64) h (by omega) (by decide) (by decide)
section
variable {P : Program} {w : World} {K : PySem.W.Frag} {mg : Str → Option Value} {base : Heap}
theorem ok_hand (T : Tx K mg) : BodyOk P w K mg base "_law_hand" s_l_hand N_l_hand 0 (spHand K) := by
  intro f cdv A outer s H vs Q E hr h
  obtain ⟨a, ns, k, rfl, hS, hk, q⟩ := h
  refine ⟨_, (pss_cons (ps_set (i := 2) sc_l_hand.nd rfl (Or.inl rfl) (pe_ifExp (pt_cmpR op_lt (pv 1) (pe_callB call_len_seq (gl_of gl_l_hand_len) T.len bb_len (pa_cons (pv 0) pa_nil)) (nomark _)) (pe_ix ix_list (pv 0) (pv 1) (fun _ _ => rfl)) pe_int))
      (pss_cons (ps_set (i := 3) sc_l_hand.nd rfl (Or.inl rfl) (pe_op op_mul (pe_op op_mod (pe_callB call_abs (gl_of gl_l_hand_abs) T.abs bb_abs (pa_cons (pv 2) pa_nil)) (pe_op op_mulW (pe_op op_pow pe_int pe_int) (pe_op op_pow pe_int pe_int))) (pe_callTy call_int1 (gl_of gl_l_hand_int) T.int bt_int (pa_cons (pe_cmpR op_ge (pe_callB call_abs (gl_of gl_l_hand_abs) T.abs bb_abs (pa_cons (pv 2) pa_nil)) (pe_op op_pow pe_int pe_int) (nomark _)) pa_nil))))
      (pss_one (ps_ret (pe_lst (pa_cons (pv 3) (pa_cons (pe_op op_add (pe_op op_add (pe_op op_mod (pv 2) pe_int) (pe_op op_mul pe_int (pv 1))) pe_int) (pa_cons pe_int pa_nil)))))))), ?_⟩
  refine st_seq (st_setH (PV := fun v H' => H' = H ∧ ∃ c : Int, v = .int c) (fun Q2 q2 => ?_) (fun v H' hv => ?_))
  · refine ⟨_, rfl, _, rfl, a, _, rfl, .inl hS, _, _, rfl, rfl, _, rfl, ite2 (fun e => ?_) (fun e => ?_)⟩
    · have e1 := of_decide_eq_true e
      rw [List.length_map] at e1
      have e2 : k < ns.length := by omega
      refine ⟨_, rfl, _, rfl, a, _, _, .int ns[k], rfl, rfl, hS, ?_, q2 _ _ ⟨rfl, _, rfl⟩⟩
      refine atI_nat ?_
      rw [List.getElem?_map, List.getElem?_eq_getElem e2]
      rfl
    · exact q2 _ _ ⟨rfl, _, rfl⟩
  · obtain ⟨rfl, c, rfl⟩ := hv
    refine st_seq ?_
    refine ⟨_, rfl, _, rfl, _, _, rfl, rfl, pow_ok (by decide), _, _, rfl, rfl, pow_ok (by decide), _, _, rfl, rfl, wide_mul w45 w45 (by decide) (by decide) (by decide), _, _, rfl, rfl, ?_, ?_⟩
    · rw [e90]
      show (0 : Int) < 10 ^ 90
      decide
    · refine ⟨_, rfl, _, rfl, _, _, rfl, rfl, pow_ok (by decide), _, _, rfl, rfl, .inr ⟨_, rfl, _, _, rfl, rfl, .inr ?_, ?_⟩⟩
      · have z := if01 (decide (((10 : Int) ^ (18 : Int).toNat) ≤ (if c < 0 then -c else c)))
        exact ⟨Int.lt_of_lt_of_le (by decide) z.1, Int.lt_of_le_of_lt z.2 (by decide)⟩
      · refine ⟨_, rfl, _, rfl, _, _, rfl, rfl, (show (0 : Int) < 2305843009213693951 by decide), _, rfl, _, _, rfl, rfl, .inl (by decide), _, _, rfl, rfl, _, _, rfl, rfl, by show 3 ≤ sizeLine; decide, fun p np => ?_⟩
        refine q _ _ np (fun b o e => ?_) ⟨_, _, _, upd_same, ?_, ?_, ?_, ?_, ?_, ?_⟩
        · rw [upd_ne (ne_of_none e np)]
          exact e
        · rw [e90]
          exact Int.mul_nonneg (Int.emod_nonneg _ (by decide)) (if01 _).1
        · rw [e90]
          have h1 : (if c < 0 then -c else c) % (10 ^ 90) < 10 ^ 90 := Int.emod_lt_of_pos _ (by decide)
          have h0 : 0 ≤ (if c < 0 then -c else c) % (10 ^ 90) := Int.emod_nonneg _ (by decide)
          cases (decide (((10 : Int) ^ (18 : Int).toNat) ≤ (if c < 0 then -c else c))) with
          | true =>
            rw [if_pos rfl, Int.mul_one]
            exact h1
          | false =>
            rw [if_neg Bool.false_ne_true, Int.mul_zero]
            decide
        · have h1 : 0 ≤ c % 2305843009213693951 := Int.emod_nonneg _ (by decide)
          omega
        · have h1 : c % 2305843009213693951 < 2305843009213693951 := Int.emod_lt_of_pos _ (by decide)
          have h2 : (2 : Int) ^ 62 = 4611686018427387904 := by decide
          omega
        · decide
        · decide
def primes : List V := [.int 2147483647, .int 2147483629, .int 2147483587, .int 2147483579, .int 2147483563, .int 2147483549, .int 2147483543, .int 2147483497]
theorem primes_in : ∀ v ∈ primes, ∃ q : Int, v = .int q ∧ 0 < q ∧ q < 2147483648 := by
  intro v hv
  simp only [primes, List.mem_cons, List.not_mem_nil, or_false] at hv
  rcases hv with rfl | rfl | rfl | rfl | rfl | rfl | rfl | rfl <;> exact ⟨_, rfl, by decide, by decide⟩
theorem ok_take (T : Tx K mg) : BodyOk P w K mg base "_law_take" s_l_take N_l_take 0 spTake := by
  intro f cdv A outer s H vs Q E hr h
  obtain ⟨h, m, n, rfl, ⟨g, b, c, eh, g0, g1, b0, b1, c0, c1⟩, hn, m0, m1, q⟩ := h
  refine ⟨_, (pss_cons (ps_if (pt_cmpR op_gt (pe_ix ix_list (pv 0) pe_int (fun _ _ => rfl)) pe_int (nomark _)) (pss_cons (ps_set (i := 2) sc_l_take.nd rfl (Or.inl rfl) (pe_op op_mod (pe_ix ix_list (pv 0) pe_int (fun _ _ => rfl)) (pv 1)))
      (pss_cons (ps_asg (pe_op op_fdivW (pe_ix ix_list (pv 0) pe_int (fun _ _ => rfl)) (pv 1)) (pg_sub (pv 0) pe_int set_list))
      (pss_one (ps_ret (pv 2))))) pss_nil)
      (pss_cons (ps_asg (pe_op op_add (pe_ix ix_list (pv 0) pe_int (fun _ _ => rfl)) pe_int) (pg_sub (pv 0) pe_int set_list))
      (pss_cons (ps_set (i := 3) sc_l_take.nd rfl (Or.inl rfl) (pe_lst (pa_cons pe_int (pa_cons pe_int (pa_cons pe_int (pa_cons pe_int (pa_cons pe_int (pa_cons pe_int (pa_cons pe_int (pa_cons pe_int pa_nil))))))))))
      (pss_cons (ps_set (i := 4) sc_l_take.nd rfl (Or.inl rfl) (pe_ix ix_list (pv 3) (pe_op op_mod (pe_ix ix_list (pv 0) pe_int (fun _ _ => rfl)) pe_int) (fun _ _ => rfl)))
      (pss_cons (ps_set (i := 5) sc_l_take.nd rfl (Or.inl rfl) (pe_op op_mod (pe_op op_pow (pe_op op_add (pe_ix ix_list (pv 0) pe_int (fun _ _ => rfl)) (pe_op op_mul pe_int (pe_ix ix_list (pv 0) pe_int (fun _ _ => rfl)))) pe_int) (pv 4)))
      (pss_one (ps_ret (pe_op op_mod (pe_op op_fdivW (pe_op op_mod (pe_op op_mul (pv 5) (pe_op op_add (pe_op op_mod (pv 5) pe_int) (pe_ix ix_list (pv 0) pe_int (fun _ _ => rfl)))) (pv 4)) pe_int) (pv 1))))))))), ?_⟩
  have hn2 : (n : Int) < 100000 := by
    have z : n < 100000 := hn
    omega
  have p18' : (10 : Int) ^ 18 = 1000000000000000000 := by decide
  have p62 : (2 : Int) ^ 62 = 4611686018427387904 := by decide
  refine st_seq ?_
  refine ⟨_, rfl, h, _, _, _, rfl, rfl, SqL.of eh, rfl, _, _, rfl, rfl, _, rfl, ite2 (fun z => ?_) (fun z => ?_)⟩
  · refine ⟨_, rfl, h, _, _, _, rfl, rfl, SqL.of eh, rfl, _, rfl, _, _, rfl, rfl, m0, ?_⟩
    refine ⟨_, rfl, h, _, _, _, rfl, rfl, SqL.of eh, rfl, _, rfl, _, _, rfl, rfl, cdw m0 (by omega), ?_⟩
    refine ⟨_, rfl, h, _, _, 0, rfl, rfl, eh, rfl, ?_⟩
    refine ⟨_, rfl, q _ _ (Int.emod_nonneg _ (by omega)) (Int.emod_lt_of_pos _ m0) ⟨_, b, c, upd_same, ?_, ?_, b0, b1, c0, ?_⟩ Fr.hand⟩
    · exact Int.ediv_nonneg g0 (by omega)
    · exact Int.lt_of_le_of_lt (Int.ediv_le_self _ g0) g1
    · omega
  · refine st_seq ?_
    refine ⟨_, rfl, h, _, _, _, rfl, rfl, SqL.of eh, rfl, _, _, rfl, rfl, _, rfl, h, _, _, 2, rfl, rfl, eh, rfl, ?_⟩
    have e2 : (upd H h (.lst [.int g, .int b, .int (c + 1)])) h = some (.lst [.int g, .int b, .int (c + 1)]) := upd_same
    refine st_seq ⟨by show 8 ≤ sizeLine; decide, fun p np => ?_⟩
    have hpn : h ≠ p := ne_of_none e2 np
    have e3 : (upd (upd H h (.lst [.int g, .int b, .int (c + 1)])) p (.lst primes)) h = some (.lst [.int g, .int b, .int (c + 1)]) := by
      rw [upd_ne hpn]
      exact e2
    obtain ⟨v, ev, hv⟩ := atI_in (xs := primes) (i := (c + 1) % 8) (Int.emod_nonneg _ (by decide)) (Int.emod_lt_of_pos _ (by decide))
    obtain ⟨r, rfl, r0, r1⟩ := primes_in v hv
    refine st_seq ?_
    refine ⟨_, rfl, _, rfl, h, _, _, _, rfl, rfl, SqL.of e3, rfl, _, _, rfl, rfl, (show (0 : Int) < 8 by decide), p, _, _, _, rfl, rfl, SqL.of upd_same, ev, ?_⟩
    refine st_seq ?_
    refine ⟨_, rfl, h, _, _, _, rfl, rfl, SqL.of e3, rfl, _, rfl, h, _, _, _, rfl, rfl, SqL.of e3, rfl, _, _, rfl, rfl, .inl (by decide), _, _, rfl, rfl, _, _, rfl, rfl, pow_ok ⟨by decide, by decide, by omega⟩, _, rfl, _, _, rfl, rfl, r0, ?_⟩
    refine ⟨_, rfl, _, rfl, _, _, rfl, rfl, (show (0 : Int) < 1009 by decide), _, rfl, h, _, _, _, rfl, rfl, SqL.of e3, rfl, _, _, rfl, rfl, _, _, rfl, rfl, .inl ?_, _, rfl, _, _, rfl, rfl, r0, _, _, rfl, rfl, cdw (by decide) (by decide), _, rfl, _, _, rfl, rfl, m0, ?_⟩
    · have h1 : 0 ≤ (b + 7919 * (c + 1)) ^ (5 : Int).toNat % r := Int.emod_nonneg _ (by omega)
      have h2 : (b + 7919 * (c + 1)) ^ (5 : Int).toNat % r < r := Int.emod_lt_of_pos _ r0
      have h3 : (2 : Int) ^ 64 = 18446744073709551616 := by decide
      rw [h3]
      exact ⟨by omega, by omega⟩
    · refine q _ _ (Int.emod_nonneg _ (by omega)) (Int.emod_lt_of_pos _ m0) ⟨g, b, c + 1, e3, g0, g1, b0, b1, by omega, by omega⟩ (Fr.trans Fr.hand (Fr.new np))
end
/-! ### the fifteen classes -/
def names : List Str := ["NoStore", "NoLine", "Busy", "Taken", "NoDeed", "NoName", "NoHouse", "NoTable", "NoRow", "Late", "Waits", "Looked", "NoNumber", "Stopped", "NoText"]
def kindNames : List String := ["ValueError", "RuntimeError", "LookupError", "KeyError", "OverflowError", "ArithmeticError", "IndexError", "ZeroDivisionError", "TypeError"]
def kindIx : List (List Int) := [[0], [0], [1], [2, 3], [2], [2], [2], [2], [2], [1], [1], [1], [0], [4, 5], [0]]
/-- which of the kinds the i-th class stands under -/
def kindB (i j : Nat) : Bool := (kindIx.getD i []).contains (j : Int)
def sameB (j i : Nat) : Bool := decide (j = i)
abbrev cl (K : PySem.W.Frag) (x : Str) : Addr := He.ga K x
def IsEx (K : PySem.W.Frag) (C : Addr) : Prop := ∃ B newId initId bmF bmB, PySem.OneX.ExT K C B newId initId bmF bmB
abbrev mV : List Value := [.type "ValueError", .type "Exception", .type "BaseException", .type "object"]
abbrev mR : List Value := [.type "RuntimeError", .type "Exception", .type "BaseException", .type "object"]
abbrev mL : List Value := [.type "LookupError", .type "Exception", .type "BaseException", .type "object"]
abbrev mK : List Value := [.type "KeyError", .type "LookupError", .type "Exception", .type "BaseException", .type "object"]
abbrev mO : List Value := [.type "OverflowError", .type "ArithmeticError", .type "Exception", .type "BaseException", .type "object"]
structure Zx (K : PySem.W.Frag) (mg : Str → Option Value) : Prop where
  g_NoStore : mg "NoStore" = some (.ref (cl K "NoStore"))
  g_NoLine : mg "NoLine" = some (.ref (cl K "NoLine"))
  g_Busy : mg "Busy" = some (.ref (cl K "Busy"))
  g_Taken : mg "Taken" = some (.ref (cl K "Taken"))
  g_NoDeed : mg "NoDeed" = some (.ref (cl K "NoDeed"))
  g_NoName : mg "NoName" = some (.ref (cl K "NoName"))
  g_NoHouse : mg "NoHouse" = some (.ref (cl K "NoHouse"))
  g_NoTable : mg "NoTable" = some (.ref (cl K "NoTable"))
  g_NoRow : mg "NoRow" = some (.ref (cl K "NoRow"))
  g_Late : mg "Late" = some (.ref (cl K "Late"))
  g_Waits : mg "Waits" = some (.ref (cl K "Waits"))
  g_Looked : mg "Looked" = some (.ref (cl K "Looked"))
  g_NoNumber : mg "NoNumber" = some (.ref (cl K "NoNumber"))
  g_Stopped : mg "Stopped" = some (.ref (cl K "Stopped"))
  g_NoText : mg "NoText" = some (.ref (cl K "NoText"))
  k_NoStore : PySem.W.keepIn K (.ref (cl K "NoStore")) = true
  k_NoLine : PySem.W.keepIn K (.ref (cl K "NoLine")) = true
  k_Busy : PySem.W.keepIn K (.ref (cl K "Busy")) = true
  ex : ∀ x ∈ names, IsEx K (cl K x)
  m : ∀ (i j : Nat) (x y : Str), names[i]? = some x → names[j]? = some y → PySem.W.kitOne K (.ref (cl K x)) (.ref (cl K y)) = some (sameB j i)
  d : ∀ (i j : Nat) (x : Str) (t : String), names[i]? = some x → kindNames[j]? = some t → PySem.W.kitOne K (.ref (cl K x)) (.type t) = some (kindB i j)
  q_NoStore : PySem.W.excIn K (cl K "NoStore") mV "ValueError.__new__" = true
  q_NoLine : PySem.W.excIn K (cl K "NoLine") mV "ValueError.__new__" = true
  q_Busy : PySem.W.excIn K (cl K "Busy") mR "RuntimeError.__new__" = true
  t_Taken : PySem.OneX.ExT K (cl K "Taken") "LookupError" "LookupError.__new__" "LookupError.__init__" mL mK
  t_NoDeed : PySem.OneX.ExT K (cl K "NoDeed") "LookupError" "LookupError.__new__" "LookupError.__init__" mL mL
  t_NoName : PySem.OneX.ExT K (cl K "NoName") "LookupError" "LookupError.__new__" "LookupError.__init__" mL mL
  t_NoHouse : PySem.OneX.ExT K (cl K "NoHouse") "LookupError" "LookupError.__new__" "LookupError.__init__" mL mL
  t_NoTable : PySem.OneX.ExT K (cl K "NoTable") "LookupError" "LookupError.__new__" "LookupError.__init__" mL mL
  t_NoRow : PySem.OneX.ExT K (cl K "NoRow") "LookupError" "LookupError.__new__" "LookupError.__init__" mL mL
  t_Late : PySem.OneX.ExT K (cl K "Late") "RuntimeError" "RuntimeError.__new__" "RuntimeError.__init__" mR mR
  t_Waits : PySem.OneX.ExT K (cl K "Waits") "RuntimeError" "RuntimeError.__new__" "RuntimeError.__init__" mR mR
  t_Looked : PySem.OneX.ExT K (cl K "Looked") "RuntimeError" "RuntimeError.__new__" "RuntimeError.__init__" mR mR
  t_NoNumber : PySem.OneX.ExT K (cl K "NoNumber") "ValueError" "ValueError.__new__" "ValueError.__init__" mV mV
  t_Stopped : PySem.OneX.ExT K (cl K "Stopped") "OverflowError" "OverflowError.__new__" "OverflowError.__init__" mO mO
  t_NoText : PySem.OneX.ExT K (cl K "NoText") "ValueError" "ValueError.__new__" "ValueError.__init__" mV mV
  o_Taken : PySem.OneX_name.OneT K (cl K "Taken") (He.ma K (cl K "Taken") "__init__") "Taken.__init__"
  o_NoDeed : PySem.OneX_name.OneT K (cl K "NoDeed") (He.ma K (cl K "NoDeed") "__init__") "NoDeed.__init__"
  o_NoName : PySem.OneX_name.OneT K (cl K "NoName") (He.ma K (cl K "NoName") "__init__") "NoName.__init__"
  o_NoHouse : PySem.OneX_name.OneT K (cl K "NoHouse") (He.ma K (cl K "NoHouse") "__init__") "NoHouse.__init__"
  o_NoTable : PySem.OneX_name.OneT K (cl K "NoTable") (He.ma K (cl K "NoTable") "__init__") "NoTable.__init__"
  o_NoRow : PySem.OneX_key.OneT K (cl K "NoRow") (He.ma K (cl K "NoRow") "__init__") "NoRow.__init__"
  o_Late : PySem.OneX_key.OneT K (cl K "Late") (He.ma K (cl K "Late") "__init__") "Late.__init__"
  o_Waits : PySem.OneX_who.OneT K (cl K "Waits") (He.ma K (cl K "Waits") "__init__") "Waits.__init__"
  o_Looked : PySem.OneX_name.OneT K (cl K "Looked") (He.ma K (cl K "Looked") "__init__") "Looked.__init__"
  o_NoNumber : PySem.OneX_number.OneT K (cl K "NoNumber") (He.ma K (cl K "NoNumber") "__init__") "NoNumber.__init__"
  o_Stopped : PySem.OneX_by.OneT K (cl K "Stopped") (He.ma K (cl K "Stopped") "__init__") "Stopped.__init__"
  o_NoText : PySem.OneX_row.OneT K (cl K "NoText") (He.ma K (cl K "NoText") "__init__") "NoText.__init__"
/-- the exception at e, of the class x, what it bears -/
def It (K : PySem.W.Frag) (H : Hp) (e : Addr) (p : Str × Option (Str × V)) : Prop := match p.2 with
  | none => H e = some (exo e (cl K p.1) none)
  | some (fl, v) => ∃ d, H d = some (.xd [(fl, v)]) ∧ H e = some (exo e (cl K p.1) (some d))
theorem same_new {H : Hp} {p : Addr} {o : HO} (h : H p = none) : Same H (upd H p o) := fun b x e => by
  rw [upd_ne (ne_of_none e h)]
  exact e
theorem same_mut {H H' : Hp} {p : Addr} {o : HO} (e : Same H H') (h : H p = none) : Same H (upd H' p o) := fun b x q => by
  rw [upd_ne (ne_of_none q h)]
  exact e b x q
theorem Fr.same {h : Addr} {H H' : Hp} (e : Same H H') : Fr h H H' := fun a o _ q => e a o q
theorem It.same {K : PySem.W.Frag} {H H' : Hp} {e : Addr} {p : Str × Option (Str × V)} (s : Same H H') (i : It K H e p) : It K H' e p := by
  obtain ⟨x, f⟩ := p
  cases f with
  | none => exact s _ _ i
  | some q =>
    obtain ⟨fl, v⟩ := q
    obtain ⟨d, h1, h2⟩ := i
    exact ⟨d, s _ _ h1, s _ _ h2⟩
theorem its_same {K : PySem.W.Frag} {H H' : Hp} (s : Same H H') : ∀ {es : List Addr} {ps : List (Str × Option (Str × V))}, Paired (It K H) es ps → Paired (It K H') es ps
  | _, _, .nil => .nil
  | _, _, .cons h t => .cons (h.same s) (its_same s t)
/-- an exception is there, whatever it bears -/
def Exv (K : PySem.W.Frag) (H : Hp) (a C : Addr) (dO : Option Addr) : Prop := H a = some (exo a C dO) ∧ ∀ d, dO = some d → ∃ fs, H d = some (.xd fs)
theorem It.exv {K : PySem.W.Frag} {H : Hp} {e : Addr} {p : Str × Option (Str × V)} (i : It K H e p) : ∃ dO, Exv K H e (cl K p.1) dO := by
  obtain ⟨x, f⟩ := p
  cases f with
  | none => exact ⟨none, i, fun d z => by cases z⟩
  | some q =>
    obtain ⟨fl, v⟩ := q
    obtain ⟨d, h1, h2⟩ := i
    exact ⟨some d, h2, fun d' z => by cases z; exact ⟨_, h1⟩⟩
theorem Exv.same {K : PySem.W.Frag} {H H' : Hp} {a C : Addr} {dO : Option Addr} (s : Same H H') (x : Exv K H a C dO) : Exv K H' a C dO := ⟨s _ _ x.1, fun d z => by
  obtain ⟨fs, q⟩ := x.2 d z
  exact ⟨fs, s _ _ q⟩⟩
theorem mk0_step {K : PySem.W.Frag} {x : Str} {H : Hp} {Q : VK} (go : ∀ a H', Same H H' → It K H' a (x, none) → Q (.ref a) H') : ∀ a, H a = none → Q (.ref a) (upd H a (exo a (cl K x) none)) := fun a na => go a _ (same_new na) upd_same
theorem one_step {K : PySem.W.Frag} {x fl : Str} {v : V} {H : Hp} {Q : VK} (go : ∀ e H', Same H H' → It K H' e (x, some (fl, v)) → Q (.ref e) H') : ∀ e d, H e = none → H d = none → d ≠ e → Q (.ref e) (upd (upd H d (.xd [(fl, v)])) e (exo e (cl K x) (some d))) := fun e d he hd ne => by
  refine go e _ ((same_new hd).trans (same_new ?_)) ⟨d, ?_, upd_same⟩
  · rw [upd_ne ne.symm]
    exact he
  · rw [upd_ne ne]
    exact upd_same
def spOfS : Sp := fun vs H Q _ => ∃ (h : Addr) (z : Str) (n : Nat), vs = [.ref h, .str z] ∧ HS h n H ∧ n < lim ∧ 0 < z.length ∧ z.length ≤ 1000 ∧ ∀ c H', c ∈ z.cps.toList → HS h (n + 1) H' → Fr h H H' → Q (.str ⟨#[c]⟩) H'
def spOf1 (K : PySem.W.Frag) : Sp := fun vs H Q E => spOf K vs H Q E ∨ spOfS vs H Q E
def Word (w : Str) : Prop := w.length ≤ 8 ∧ ∀ c ∈ w.cps.toList, c < 128
def spWord : Sp := fun vs H Q _ => ∃ (h : Addr) (n : Nat), vs = [.ref h] ∧ HS h n H ∧ n + 9 < lim ∧ ∀ w H', Word w → HS h (n + 9) H' → Fr h H H' → Q (.str w) H'
def spMarks (K : PySem.W.Frag) : Sp := fun vs H Q _ => ∃ (a : Addr) (dO : Option Addr) (i : Nat) (x : Str), vs = [.ref a] ∧ names[i]? = some x ∧ Exv K H a (cl K x) dO ∧ ∀ p H', H p = none → Same H H' → H' p = some (.lst (((List.range 15).map fun j => sameB j i).map V.bl)) → Q (.ref p) H'
def spKinds (K : PySem.W.Frag) : Sp := fun vs H Q _ => ∃ (a : Addr) (dO : Option Addr) (i : Nat) (x : Str), vs = [.ref a] ∧ names[i]? = some x ∧ Exv K H a (cl K x) dO ∧ ∀ p H', H p = none → Same H H' → H' p = some (.lst (((List.range 9).map fun j => kindB i j).map V.bl)) → Q (.ref p) H'
def abc : Str := "abcdefghijklmnopqrstuvwxyz"
theorem abc_small : ∀ c ∈ abc.cps.toList, c < 128 := by decide +kernel
theorem join1 : ∀ cs : List Nat, TL.joinL [] (cs.map fun c => [c]) = cs
  | [] => rfl
  | [c] => rfl
  | c :: d :: r => by
    show [c] ++ ([] ++ TL.joinL [] ((d :: r).map fun c => [c])) = c :: d :: r
    rw [join1 (d :: r)]
    rfl
section
variable {P : Program} {w : World} {K : PySem.W.Frag} {mg : Str → Option Value} {base : Heap}
theorem ok_of (T : Tx K mg) (c_l_take : C8.Cal P w K mg base 1 "_law_take" spTake []) : BodyOk P w K mg base "_law_of" s_l_of N_l_of 1 (spOf1 K) := by
  intro f cdv A outer s H vs Q E hr h
  have p18' : (10 : Int) ^ 18 = 1000000000000000000 := by decide
  refine ⟨_, (pss_one (ps_ret (pe_ix ix_seq (pv 1) (C8.pe_c c_l_take hr (by decide) (gl_of gl_l_of_l_take) (pa_cons (pv 0) (pa_cons (pe_callB call_len (gl_of gl_l_of_len) T.len bb_len (pa_cons (pv 1) pa_nil)) pa_nil))) (fun _ _ => rfl)))), ?_⟩
  rcases h with ⟨h, a, xs, n, rfl, hs, hn, ne, hS, l0, l1, q⟩ | ⟨h, z, n, rfl, hs, hn, l0, l1, q⟩
  · refine ⟨_, rfl, _, rfl, _, rfl, _, _, rfl, .inl ⟨xs, hS, rfl⟩, h, _, n, rfl, hs, hn, by omega, by omega, fun d H1 d0 d1 hs1 f1 => ?_⟩
    obtain ⟨v, ev, hv⟩ := atI_in d0 d1
    exact .inl ⟨a, xs, d, v, rfl, rfl, f1.seq ne hS, ev, q v H1 hv hs1 f1⟩
  · have lz : z.length ≤ sizeLine := Nat.le_of_lt (small1000 l1)
    refine ⟨_, rfl, _, rfl, _, rfl, _, _, rfl, ⟨lz, rfl⟩, h, _, n, rfl, hs, hn, by omega, by omega, fun d H1 d0 d1 hs1 f1 => ?_⟩
    have e : z.length = z.cps.toList.length := by simp [Str.length]
    have d2 : d.toNat < z.cps.toList.length := by omega
    have ev := atI_nat (xs := z.cps.toList) (j := d.toNat) (List.getElem?_eq_getElem d2)
    rw [Int.toNat_of_nonneg d0] at ev
    exact .inr (.inr ⟨z, d, z.cps.toList[d.toNat], rfl, rfl, lz, ev, q _ H1 (List.getElem_mem d2) hs1 f1⟩)
theorem ok_word (T : Tx K mg) (c_l_take : C8.Cal P w K mg base 1 "_law_take" spTake []) (c_l_of : C8.Cal P w K mg base 2 "_law_of" (spOf1 K) []) : BodyOk P w K mg base "_law_word" s_l_word N_l_word 2 spWord := by
  intro f cdv A outer s H vs Q E hr h
  obtain ⟨h, n, rfl, hs, hn, q⟩ := h
  have hn2 : n + 9 < 100000 := hn
  refine ⟨_, (pss_cons (ps_set (i := 1) sc_l_word.nd rfl (Or.inl rfl) (pe_op op_add pe_int (C8.pe_c c_l_take hr (by decide) (gl_of gl_l_word_l_take) (pa_cons (pv 0) (pa_cons pe_int pa_nil)))))
      (pss_one (ps_ret (pe_join pe_str (pe_lc (own := [("_law_turn", 2)]) (g := gName 2) (tt := tYes) rfl sc_l_word.nd (pi_range1 (by rfl) T.range (pa_cons (pv 1) pa_nil)) (blkOk_by (own := [("_law_turn", 2)]) (N := N_l_word) (sc := defScope s_l_word) (by decide +kernel)) (fun _ _ _ _ _ => pg_name (i := 2) sc_l_word.nd rfl (Or.inl rfl)) (fun _ _ _ _ _ => pts_nil) (fun _ _ _ _ _ => (C8.pe_c c_l_of hr (by decide) (by rfl) (pa_cons (pv 0) (pa_cons pe_str pa_nil))))))))), ?_⟩
  refine st_seq ?_
  refine ⟨_, rfl, h, 8, n, rfl, hs, (show n < 100000 by omega), by decide, by decide, fun d H1 d0 d1 hs1 f1 => ?_⟩
  refine ⟨_, _, rfl, rfl, ?_⟩
  refine ⟨⟨_, rfl⟩, _, rfl, 1 + d, rfl, by omega, by omega, fun D nD => ?_⟩
  have nDh : D ≠ h := hs1.ne nD
  refine lc_range (lo := 0) (fun j H' => HS h (n + 1 + j) H' ∧ Fr h H1 H' ∧ ∃ cs : List Nat, cs.length = j ∧ (∀ c ∈ cs, c < 128) ∧ H' D = some (.lst (((cs.map fun c => [c]).map SX.S).map V.str))) ?_ (fun j H2 hj hP => ?_) (fun H2 hP => ?_)
  · exact ⟨hs1.new nD, Fr.new nD, [], rfl, (fun c hc => by cases hc), upd_same⟩
  · obtain ⟨hs2, f2, cs, lc, hc, eD⟩ := hP
    refine ⟨rfl, ?_⟩
    refine ⟨_, rfl, .inr ⟨h, abc, n + 1 + j, rfl, hs2, (show n + 1 + j < 100000 by omega), by decide, by decide, fun c H3 hcm hs3 f3 => ?_⟩⟩
    refine ⟨_, f3 _ _ nDh eD, ?_, ?_, Fr.mut (f2.trans f3) nD, cs ++ [c], ?_, ?_, ?_⟩
    · rw [List.length_map, List.length_map, List.length_map]
      exact small1000 (by omega)
    · obtain ⟨g, b, cc, eh, r⟩ := hs3
      exact ⟨g, b, cc, (by rw [upd_ne nDh.symm]; exact eh), r⟩
    · rw [List.length_append, lc]
      rfl
    · intro y hy
      rcases List.mem_append.mp hy with e | e
      · exact hc y e
      · rw [List.mem_singleton.mp e]
        exact abc_small c hcm
    · rw [upd_same, List.map_append, List.map_append, List.map_append]
      rfl
  · obtain ⟨hs2, f2, cs, lc, hc, eD⟩ := hP
    refine ⟨SX.S [], D, (cs.map fun c => [c]).map SX.S, rfl, rfl, .inl (SqL.of eD), ?_, ?_⟩
    · rw [SX.lens, List.map_map, List.length_map, List.length_map]
      have e : (cs.map ((fun x : List Nat => x.length) ∘ fun c => [c])).sum ≤ cs.length := by
        clear eD hc lc
        induction cs with
        | nil => exact Nat.le_refl 0
        | cons c r ih =>
          rw [List.map_cons, List.sum_cons, List.length_cons]
          show 1 + _ ≤ _
          omega
      show _ + cs.length * 0 ≤ _
      omega
    · rw [SX.join_S, join1]
      have l8 : cs.length ≤ 8 := by omega
      exact q (SX.S cs) H2 ⟨by rw [SX.S_len]; exact l8, hc⟩ (hs2.mono (by omega)) (f1.trans f2)
end
section
variable {P : Program} {w : World} {K : PySem.W.Frag} {mg : Str → Option Value} {base : Heap}
/-! ### isinstance of one exception and several classes, by one lemma -/
def tIsi (K : PySem.W.Frag) : List Str → TA
  | [] => tNil
  | y :: ys => tCons (tCB (rIsx K) (tCons (tVar 0) (tCons (tC (.ref (He.ga K y))) tNil))) (tIsi K ys)
def Asks (K : PySem.W.Frag) (C : Addr) (ys : List Str) (bs : List Bool) : Prop := Paired (fun y b => PySem.W.kitOne K (.ref C) (.ref (He.ga K y)) = some b) ys bs
theorem isi_ev {σ : L2.St} {H : Hp} {a C : Addr} {dO : Option Addr} (hσ : σ[0]? = some (some (.ref a))) (hex : IsEx K C) (xv : Exv K H a C dO) : ∀ {ys : List Str} {bs : List Bool} {Q : List V → Hp → Prop}, Asks K C ys bs → Q (bs.map V.bl) H → tIsi K ys σ H Q
  | [], _, Q, .nil, q => q
  | y :: ys, _, Q, .cons h t, q => ⟨_, hσ, a, C, dO, _, _, _, rfl, hex, xv.1, xv.2, .own _, h, isi_ev hσ hex xv t q⟩
def nm1 : List Str := ["NoStore", "NoLine", "Busy", "Taken"]
def nm2 : List Str := ["NoDeed", "NoName", "NoHouse", "NoTable"]
def nm3 : List Str := ["NoRow", "Late", "Waits", "Looked"]
def nm4 : List Str := ["NoNumber", "Stopped", "NoText"]
def bm1 (i : Nat) : List Bool := [sameB 0 i, sameB 1 i, sameB 2 i, sameB 3 i]
def bm2 (i : Nat) : List Bool := [sameB 4 i, sameB 5 i, sameB 6 i, sameB 7 i]
def bm3 (i : Nat) : List Bool := [sameB 8 i, sameB 9 i, sameB 10 i, sameB 11 i]
def bm4 (i : Nat) : List Bool := [sameB 12 i, sameB 13 i, sameB 14 i]
theorem asks1 (Z : Zx K mg) {i : Nat} {x : Str} (hx : names[i]? = some x) : Asks K (cl K x) nm1 (bm1 i) := .cons (Z.m i 0 x _ hx rfl) (.cons (Z.m i 1 x _ hx rfl) (.cons (Z.m i 2 x _ hx rfl) (.cons (Z.m i 3 x _ hx rfl) .nil)))
theorem asks2 (Z : Zx K mg) {i : Nat} {x : Str} (hx : names[i]? = some x) : Asks K (cl K x) nm2 (bm2 i) := .cons (Z.m i 4 x _ hx rfl) (.cons (Z.m i 5 x _ hx rfl) (.cons (Z.m i 6 x _ hx rfl) (.cons (Z.m i 7 x _ hx rfl) .nil)))
theorem asks3 (Z : Zx K mg) {i : Nat} {x : Str} (hx : names[i]? = some x) : Asks K (cl K x) nm3 (bm3 i) := .cons (Z.m i 8 x _ hx rfl) (.cons (Z.m i 9 x _ hx rfl) (.cons (Z.m i 10 x _ hx rfl) (.cons (Z.m i 11 x _ hx rfl) .nil)))
theorem asks4 (Z : Zx K mg) {i : Nat} {x : Str} (hx : names[i]? = some x) : Asks K (cl K x) nm4 (bm4 i) := .cons (Z.m i 12 x _ hx rfl) (.cons (Z.m i 13 x _ hx rfl) (.cons (Z.m i 14 x _ hx rfl) .nil))
/-- xs = [..], xs = xs + [..], xs = xs + [..], return xs + [..] -/
def tMarks (K : PySem.W.Frag) : TS := tSeq (tAsg (tLst (tIsi K nm1)) (gName 1)) (tSeq (tAsg (tOp rCat (tVar 1) (tLst (tIsi K nm2))) (gName 1)) (tSeq (tAsg (tOp rCat (tVar 1) (tLst (tIsi K nm3))) (gName 1)) (tRet (tOp rCat (tVar 1) (tLst (tIsi K nm4))))))
theorem bls {n m : Nat} {xs ys : List Bool} (hx : xs.length = n) (hy : ys.length = m) (h : n + m ≤ 100) : (xs.map V.bl).length + (ys.map V.bl).length ≤ sizeLine := by
  rw [List.length_map, List.length_map, hx, hy]
  exact Nat.le_of_lt (small1000 (by omega))
theorem cat_step {σ : L2.St} {H : Hp} {a C p : Addr} {dO : Option Addr} {xs : List Bool} {ys : List Str} {bs : List Bool} {Q : VK} (h0 : σ[0]? = some (some (.ref a))) (h1 : σ[1]? = some (some (.ref p))) (hex : IsEx K C) (xv : Exv K H a C dO) (hp : H p = some (.lst (xs.map V.bl))) (as : Asks K C ys bs) (lx : xs.length ≤ 50) (lb : bs.length ≤ 50)
    (go : ∀ p' H', H p' = none → Same H H' → H' p' = some (.lst ((xs ++ bs).map V.bl)) → Q (.ref p') H') : tOp rCat (tVar 1) (tLst (tIsi K ys)) σ H Q := by
  refine ⟨_, h1, isi_ev h0 hex xv as ⟨?_, fun q nq => ?_⟩⟩
  · rw [List.length_map]
    exact Nat.le_of_lt (small1000 (by omega))
  · refine ⟨p, q, xs.map V.bl, bs.map V.bl, rfl, rfl, same_new nq _ _ hp, upd_same, ?_, fun r nr => ?_⟩
    · rw [List.length_map, List.length_map]
      exact Nat.le_of_lt (small1000 (by omega))
    · refine go r _ (Same.free (same_new nq) nr) ((same_new nq).trans (same_new nr)) ?_
      rw [upd_same, List.map_append]
theorem marks_run (Z : Zx K mg) {vs : List V} {H : Hp} {Q : VK} {E : XK} (h : spMarks K vs H Q E) : tMarks K { nx := fun _ H' => Q .non H', rt := Q } (start N_l_marks vs) H := by
  obtain ⟨a, dO, i, x, rfl, hx, xv, q⟩ := h
  have hex : IsEx K (cl K x) := Z.ex x (List.mem_of_getElem? hx)
  refine isi_ev (K := K) rfl hex xv (asks1 Z hx) ⟨(show 4 ≤ sizeLine by decide), fun p1 n1 => ?_⟩
  refine cat_step (K := K) rfl rfl hex (xv.same (same_new n1)) upd_same (asks2 Z hx) (show 4 ≤ 50 by decide) (show 4 ≤ 50 by decide) fun p2 H2 n2 s2 e2 => ?_
  have s2' := (same_new n1).trans s2
  refine cat_step (K := K) rfl rfl hex (xv.same s2') e2 (asks3 Z hx) (show 8 ≤ 50 by decide) (show 4 ≤ 50 by decide) fun p3 H3 n3 s3 e3 => ?_
  have s3' := s2'.trans s3
  refine cat_step (K := K) rfl rfl hex (xv.same s3') e3 (asks4 Z hx) (show 12 ≤ 50 by decide) (show 3 ≤ 50 by decide) fun p4 H4 n4 s4 e4 => ?_
  exact q p4 H4 (Same.free s3' n4) (s3'.trans s4) e4
theorem ok_marks (T : Tx K mg) (Z : Zx K mg) : BodyOk P w K mg base "_law_marks" s_l_marks N_l_marks 0 (spMarks K) := fun f cdv A outer s H vs Q E hr h => ⟨tMarks K, (pss_cons (ps_set (i := 1) sc_l_marks.nd rfl (Or.inl rfl) (pe_lst (pa_cons (pe_callB call_isx (gl_of gl_l_marks_isinstance) T.isinstance bb_isinstance (pa_cons (pv 0) (pa_cons (pe_glob (v := .ref (He.ga K "NoStore")) (gl_of gl_l_marks_NoStore) Z.g_NoStore rfl) pa_nil))) (pa_cons (pe_callB call_isx (gl_of gl_l_marks_isinstance) T.isinstance bb_isinstance (pa_cons (pv 0) (pa_cons (pe_glob (v := .ref (He.ga K "NoLine")) (gl_of gl_l_marks_NoLine) Z.g_NoLine rfl) pa_nil))) (pa_cons (pe_callB call_isx (gl_of gl_l_marks_isinstance) T.isinstance bb_isinstance (pa_cons (pv 0) (pa_cons (pe_glob (v := .ref (He.ga K "Busy")) (gl_of gl_l_marks_Busy) Z.g_Busy rfl) pa_nil))) (pa_cons (pe_callB call_isx (gl_of gl_l_marks_isinstance) T.isinstance bb_isinstance (pa_cons (pv 0) (pa_cons (pe_glob (v := .ref (He.ga K "Taken")) (gl_of gl_l_marks_Taken) Z.g_Taken rfl) pa_nil))) pa_nil))))))
      (pss_cons (ps_set (i := 1) sc_l_marks.nd rfl (Or.inl rfl) (pe_op op_cat (pv 1) (pe_lst (pa_cons (pe_callB call_isx (gl_of gl_l_marks_isinstance) T.isinstance bb_isinstance (pa_cons (pv 0) (pa_cons (pe_glob (v := .ref (He.ga K "NoDeed")) (gl_of gl_l_marks_NoDeed) Z.g_NoDeed rfl) pa_nil))) (pa_cons (pe_callB call_isx (gl_of gl_l_marks_isinstance) T.isinstance bb_isinstance (pa_cons (pv 0) (pa_cons (pe_glob (v := .ref (He.ga K "NoName")) (gl_of gl_l_marks_NoName) Z.g_NoName rfl) pa_nil))) (pa_cons (pe_callB call_isx (gl_of gl_l_marks_isinstance) T.isinstance bb_isinstance (pa_cons (pv 0) (pa_cons (pe_glob (v := .ref (He.ga K "NoHouse")) (gl_of gl_l_marks_NoHouse) Z.g_NoHouse rfl) pa_nil))) (pa_cons (pe_callB call_isx (gl_of gl_l_marks_isinstance) T.isinstance bb_isinstance (pa_cons (pv 0) (pa_cons (pe_glob (v := .ref (He.ga K "NoTable")) (gl_of gl_l_marks_NoTable) Z.g_NoTable rfl) pa_nil))) pa_nil)))))))
      (pss_cons (ps_set (i := 1) sc_l_marks.nd rfl (Or.inl rfl) (pe_op op_cat (pv 1) (pe_lst (pa_cons (pe_callB call_isx (gl_of gl_l_marks_isinstance) T.isinstance bb_isinstance (pa_cons (pv 0) (pa_cons (pe_glob (v := .ref (He.ga K "NoRow")) (gl_of gl_l_marks_NoRow) Z.g_NoRow rfl) pa_nil))) (pa_cons (pe_callB call_isx (gl_of gl_l_marks_isinstance) T.isinstance bb_isinstance (pa_cons (pv 0) (pa_cons (pe_glob (v := .ref (He.ga K "Late")) (gl_of gl_l_marks_Late) Z.g_Late rfl) pa_nil))) (pa_cons (pe_callB call_isx (gl_of gl_l_marks_isinstance) T.isinstance bb_isinstance (pa_cons (pv 0) (pa_cons (pe_glob (v := .ref (He.ga K "Waits")) (gl_of gl_l_marks_Waits) Z.g_Waits rfl) pa_nil))) (pa_cons (pe_callB call_isx (gl_of gl_l_marks_isinstance) T.isinstance bb_isinstance (pa_cons (pv 0) (pa_cons (pe_glob (v := .ref (He.ga K "Looked")) (gl_of gl_l_marks_Looked) Z.g_Looked rfl) pa_nil))) pa_nil)))))))
      (pss_one (ps_ret (pe_op op_cat (pv 1) (pe_lst (pa_cons (pe_callB call_isx (gl_of gl_l_marks_isinstance) T.isinstance bb_isinstance (pa_cons (pv 0) (pa_cons (pe_glob (v := .ref (He.ga K "NoNumber")) (gl_of gl_l_marks_NoNumber) Z.g_NoNumber rfl) pa_nil))) (pa_cons (pe_callB call_isx (gl_of gl_l_marks_isinstance) T.isinstance bb_isinstance (pa_cons (pv 0) (pa_cons (pe_glob (v := .ref (He.ga K "Stopped")) (gl_of gl_l_marks_Stopped) Z.g_Stopped rfl) pa_nil))) (pa_cons (pe_callB call_isx (gl_of gl_l_marks_isinstance) T.isinstance bb_isinstance (pa_cons (pv 0) (pa_cons (pe_glob (v := .ref (He.ga K "NoText")) (gl_of gl_l_marks_NoText) Z.g_NoText rfl) pa_nil))) pa_nil)))))))))), marks_run Z h⟩
def kd1 (i : Nat) : List V := [.bl (kindB i 0), .bl (kindB i 1), .bl (kindB i 2), .bl (kindB i 3)]
def kd2 (i : Nat) : List V := [.bl (kindB i 4), .bl (kindB i 5), .bl (kindB i 6)]
def kd3 (i : Nat) : List V := [.bl (kindB i 7), .bl (kindB i 8)]
theorem ok_kinds (T : Tx K mg) (Z : Zx K mg) : BodyOk P w K mg base "_law_kinds" s_l_kinds N_l_kinds 0 (spKinds K) := by
  intro f cdv A outer s H vs Q E hr h
  obtain ⟨a, dO, i, x, rfl, hx, xv, q⟩ := h
  have hex : IsEx K (cl K x) := Z.ex x (List.mem_of_getElem? hx)
  have M0 : PySem.W.kitOne K (.ref (cl K x)) (.type "ValueError") = some (kindB i 0) := Z.d i 0 x "ValueError" hx rfl
  have M1 : PySem.W.kitOne K (.ref (cl K x)) (.type "RuntimeError") = some (kindB i 1) := Z.d i 1 x "RuntimeError" hx rfl
  have M2 : PySem.W.kitOne K (.ref (cl K x)) (.type "LookupError") = some (kindB i 2) := Z.d i 2 x "LookupError" hx rfl
  have M3 : PySem.W.kitOne K (.ref (cl K x)) (.type "KeyError") = some (kindB i 3) := Z.d i 3 x "KeyError" hx rfl
  have M4 : PySem.W.kitOne K (.ref (cl K x)) (.type "OverflowError") = some (kindB i 4) := Z.d i 4 x "OverflowError" hx rfl
  have M5 : PySem.W.kitOne K (.ref (cl K x)) (.type "ArithmeticError") = some (kindB i 5) := Z.d i 5 x "ArithmeticError" hx rfl
  have M6 : PySem.W.kitOne K (.ref (cl K x)) (.type "IndexError") = some (kindB i 6) := Z.d i 6 x "IndexError" hx rfl
  have M7 : PySem.W.kitOne K (.ref (cl K x)) (.type "ZeroDivisionError") = some (kindB i 7) := Z.d i 7 x "ZeroDivisionError" hx rfl
  have M8 : PySem.W.kitOne K (.ref (cl K x)) (.type "TypeError") = some (kindB i 8) := Z.d i 8 x "TypeError" hx rfl
  refine ⟨_, (pss_cons (ps_set (i := 1) sc_l_kinds.nd rfl (Or.inl rfl) (pe_lst (pa_cons (pe_callB call_isx (gl_of gl_l_kinds_isinstance) T.isinstance bb_isinstance (pa_cons (pv 0) (pa_cons (pe_bltn (v := .ty "ValueError") (gl_of gl_l_kinds_ValueError) T.ValueError bt_ValueError rfl) pa_nil))) (pa_cons (pe_callB call_isx (gl_of gl_l_kinds_isinstance) T.isinstance bb_isinstance (pa_cons (pv 0) (pa_cons (pe_bltn (v := .ty "RuntimeError") (gl_of gl_l_kinds_RuntimeError) T.RuntimeError bt_RuntimeError rfl) pa_nil))) (pa_cons (pe_callB call_isx (gl_of gl_l_kinds_isinstance) T.isinstance bb_isinstance (pa_cons (pv 0) (pa_cons (pe_bltn (v := .ty "LookupError") (gl_of gl_l_kinds_LookupError) T.LookupError bt_LookupError rfl) pa_nil))) (pa_cons (pe_callB call_isx (gl_of gl_l_kinds_isinstance) T.isinstance bb_isinstance (pa_cons (pv 0) (pa_cons (pe_bltn (v := .ty "KeyError") (gl_of gl_l_kinds_KeyError) T.KeyError bt_KeyError rfl) pa_nil))) pa_nil))))))
      (pss_cons (ps_set (i := 1) sc_l_kinds.nd rfl (Or.inl rfl) (pe_op op_cat (pv 1) (pe_lst (pa_cons (pe_callB call_isx (gl_of gl_l_kinds_isinstance) T.isinstance bb_isinstance (pa_cons (pv 0) (pa_cons (pe_bltn (v := .ty "OverflowError") (gl_of gl_l_kinds_OverflowError) T.OverflowError bt_OverflowError rfl) pa_nil))) (pa_cons (pe_callB call_isx (gl_of gl_l_kinds_isinstance) T.isinstance bb_isinstance (pa_cons (pv 0) (pa_cons (pe_bltn (v := .ty "ArithmeticError") (gl_of gl_l_kinds_ArithmeticError) T.ArithmeticError bt_ArithmeticError rfl) pa_nil))) (pa_cons (pe_callB call_isx (gl_of gl_l_kinds_isinstance) T.isinstance bb_isinstance (pa_cons (pv 0) (pa_cons (pe_bltn (v := .ty "IndexError") (gl_of gl_l_kinds_IndexError) T.IndexError bt_IndexError rfl) pa_nil))) pa_nil))))))
      (pss_one (ps_ret (pe_op op_cat (pv 1) (pe_lst (pa_cons (pe_callB call_isx (gl_of gl_l_kinds_isinstance) T.isinstance bb_isinstance (pa_cons (pv 0) (pa_cons (pe_bltn (v := .ty "ZeroDivisionError") (gl_of gl_l_kinds_ZeroDivisionError) T.ZeroDivisionError bt_ZeroDivisionError rfl) pa_nil))) (pa_cons (pe_callB call_isx (gl_of gl_l_kinds_isinstance) T.isinstance bb_isinstance (pa_cons (pv 0) (pa_cons (pe_bltn (v := .ty "TypeError") (gl_of gl_l_kinds_TypeError) T.TypeError bt_TypeError rfl) pa_nil))) pa_nil)))))))), ?_⟩
  refine st_seq ?_
  refine ⟨_, rfl, a, _, dO, _, _, _, rfl, hex, xv.1, xv.2, .ty _, M0, _, rfl, a, _, dO, _, _, _, rfl, hex, xv.1, xv.2, .ty _, M1, _, rfl, a, _, dO, _, _, _, rfl, hex, xv.1, xv.2, .ty _, M2, _, rfl, a, _, dO, _, _, _, rfl, hex, xv.1, xv.2, .ty _, M3, (show 4 ≤ sizeLine by decide), fun p1 n1 => ?_⟩
  have s1 : Same H (upd H p1 (.lst (kd1 i))) := same_new n1
  have x1 := xv.same s1
  have e1 : (upd H p1 (.lst (kd1 i))) p1 = some (.lst (kd1 i)) := upd_same
  refine st_seq ?_
  refine ⟨_, rfl, _, rfl, a, _, dO, _, _, _, rfl, hex, x1.1, x1.2, .ty _, M4, _, rfl, a, _, dO, _, _, _, rfl, hex, x1.1, x1.2, .ty _, M5, _, rfl, a, _, dO, _, _, _, rfl, hex, x1.1, x1.2, .ty _, M6, (show 3 ≤ sizeLine by decide), fun p2 n2 => ?_⟩
  have e12 : (upd (upd H p1 (.lst (kd1 i))) p2 (.lst (kd2 i))) p1 = some (.lst (kd1 i)) := same_new n2 _ _ e1
  have e22 : (upd (upd H p1 (.lst (kd1 i))) p2 (.lst (kd2 i))) p2 = some (.lst (kd2 i)) := upd_same
  have l12 : (kd1 i).length + (kd2 i).length ≤ sizeLine := (show 4 + 3 ≤ sizeLine by decide)
  refine ⟨p1, p2, kd1 i, kd2 i, rfl, rfl, e12, e22, l12, fun p3 n3 => ?_⟩
  have e3 : (upd (upd (upd H p1 (.lst (kd1 i))) p2 (.lst (kd2 i))) p3 (.lst (kd1 i ++ kd2 i))) p3 = some (.lst (kd1 i ++ kd2 i)) := upd_same
  have s2 := s1.trans ((same_new (o := .lst (kd2 i)) n2).trans (same_new (o := .lst (kd1 i ++ kd2 i)) n3))
  have x2 := xv.same s2
  refine ⟨_, rfl, _, rfl, a, _, dO, _, _, _, rfl, hex, x2.1, x2.2, .ty _, M7, _, rfl, a, _, dO, _, _, _, rfl, hex, x2.1, x2.2, .ty _, M8, (show 2 ≤ sizeLine by decide), fun p4 n4 => ?_⟩
  have e34 := same_new (o := .lst (kd3 i)) n4 _ _ e3
  have e44 : (upd (upd (upd (upd H p1 (.lst (kd1 i))) p2 (.lst (kd2 i))) p3 (.lst (kd1 i ++ kd2 i))) p4 (.lst (kd3 i))) p4 = some (.lst (kd3 i)) := upd_same
  have l34 : (kd1 i ++ kd2 i).length + (kd3 i).length ≤ sizeLine := (show 7 + 2 ≤ sizeLine by decide)
  refine ⟨p3, p4, kd1 i ++ kd2 i, kd3 i, rfl, rfl, e34, e44, l34, fun p5 n5 => ?_⟩
  have s4 := s2.trans (same_new (o := .lst (kd3 i)) n4)
  have e55 : (upd (upd (upd (upd (upd H p1 (.lst (kd1 i))) p2 (.lst (kd2 i))) p3 (.lst (kd1 i ++ kd2 i))) p4 (.lst (kd3 i))) p5 (.lst ((kd1 i ++ kd2 i) ++ kd3 i))) p5 = some (.lst (((List.range 9).map fun j => kindB i j).map V.bl)) := upd_same
  exact q p5 _ (Same.free s4 n5) (s4.trans (same_new (o := .lst ((kd1 i ++ kd2 i) ++ kd3 i)) n5)) e55
def spLaw (K : PySem.W.Frag) : Sp := fun vs H Q _ => ∃ (a : Addr) (ns : List Int), vs = [.ref a] ∧ SqL K H a (ns.map V.int) ∧ ns.length ≤ 63 ∧ ∀ H', Q (.bl true) H'
theorem par_H {ta : TA} {D : Ends} {σ : L2.St} {H : Hp} {i j : Nat} (PV : V → V → Hp → Prop) (h : ∀ Q2 : List V → Hp → Prop, (∀ v w H', PV v w H' → Q2 [v, w] H') → ta σ H Q2) (q : ∀ v w H', PV v w H' → D.nx ((σ.set i (some v)).set j (some w)) H') : tPar i j ta D σ H := h _ fun v w H' p => ⟨v, w, rfl, q v w H' p⟩
theorem mk0_cons {x : Str} {t : TA} {σ : L2.St} {H : Hp} {Q : List V → Hp → Prop} (go : ∀ a H', Same H H' → It K H' a (x, none) → t σ H' fun vs H2 => Q (.ref a :: vs) H2) : tCons (fun _ H Q => ∀ a, H a = none → Q (.ref a) (upd H a (exo a (cl K x) none))) t σ H Q := fun a na => go a _ (same_new na) upd_same
theorem one_cons {x fl : Str} {te : TE} {v : V} {t : TA} {σ : L2.St} {H : Hp} {Q : List V → Hp → Prop} (hv : Val te σ H v) (go : ∀ a H', Same H H' → It K H' a (x, some (fl, v)) → t σ H' fun vs H2 => Q (.ref a :: vs) H2) : tCons (tOne fl (cl K x) (tCons te tNil)) t σ H Q :=
  hv _ ⟨v, rfl, one_step (Q := fun u H1 => t σ H1 fun xs H2 => Q (u :: xs) H2) fun e H' s i => go e H' s i⟩
theorem val_ix {σ : L2.St} {H : Hp} {k : Nat} {p : Addr} {xs : List V} {i : Int} {v : V} (hσ : σ[k]? = some (some (.ref p))) (hp : H p = some (.lst xs)) (hi : atI xs i = some v) : Val (tOp (rIxL K) (tVar k) (tC (.int i))) σ H v := fun Q q => ⟨_, hσ, p, xs, i, v, rfl, rfl, SqL.of hp, hi, q⟩
def tInts : List Int → TA
  | [] => tNil
  | k :: ks => tCons (tC (.int k)) (tInts ks)
def tInner : List (List Int) → TA
  | [] => tNil
  | ks :: r => tCons (tLst (tInts ks)) (tInner r)
theorem ints_ev {σ : L2.St} {H : Hp} (ks : List Int) : ∀ {Q : List V → Hp → Prop}, Q (ks.map V.int) H → tInts ks σ H Q := by
  induction ks with
  | nil => exact fun q => q
  | cons k r ih => exact fun {Q} q => ih (Q := fun vs H2 => Q (.int k :: vs) H2) q
theorem inner_ev {σ : L2.St} : ∀ {kss : List (List Int)} {H : Hp} {Q : List V → Hp → Prop}, (∀ ks ∈ kss, ks.length ≤ 100) → (∀ (ps : List Addr) H', Same H H' → Paired (fun p ks => H' p = some (.lst (ks.map V.int))) ps kss → Q (ps.map V.ref) H') → tInner kss σ H Q
  | [], H, Q, _, q => q [] H (Same.refl H) .nil
  | ks :: r, H, Q, hl, q => by
    refine ints_ev ks ⟨?_, fun p np => ?_⟩
    · rw [List.length_map]
      exact Nat.le_of_lt (small1000 (by have := hl ks List.mem_cons_self; omega))
    · refine inner_ev (fun z hz => hl z (List.mem_cons_of_mem _ hz)) fun ps H' s pr => ?_
      exact q (p :: ps) H' ((same_new np).trans s) (.cons (s _ _ upd_same) pr)
def odds (w0 : Str) (t1 l1 : Addr) : List V := [.non, .bl true, .int 0, .int (-1), .str w0, .ref t1, .ref l1, .int (10 ^ (17 : Int).toNat)]
theorem for_enum {a : Addr} {xs : List V} {g : TG} {tb : TS} {D : Ends} {σ : L2.St} {H : Hp} (Pv : Nat → L2.St → Hp → Prop) (h0 : Pv 0 σ H) (hl : ∀ i σ H, i ≤ xs.length → Pv i σ H → SqL K H a xs)
    (hs : ∀ (i : Nat) (x : V) (T : Addr) (σ : L2.St) (H : Hp), xs[i]? = some x → Pv i σ H → H T = none → g (.ref T) σ (upd H T (.tup [.int (i : Nat), x])) fun σ2 H2 => tb { D with nx := Pv (i + 1), ct := Pv (i + 1), bk := D.nx } σ2 H2) (hd : ∀ σ H, Pv xs.length σ H → D.nx σ H) :
    ∃ W : Nat → Nat → L2.St → Hp → Prop, (∃ m, W 0 m σ H) ∧ ∀ i m σ H, W i m σ H → ((Ite K a).stop i H ∧ D.nx σ H) ∨ ((Ite K a).go i H ∧ ∃ N : L2.St → Hp → Prop, (∀ σ' H', N σ' H' → ∃ m', m' < m ∧ W (i + 1) m' σ' H') ∧ ∀ x H', (Ite K a).yld i H x H' → g x σ H' fun σ2 H2 => tb { D with nx := N, ct := N, bk := D.nx } σ2 H2) := by
  refine ⟨fun i m σ H => m = xs.length - i ∧ i ≤ xs.length ∧ Pv i σ H, ⟨xs.length, by simp, Nat.zero_le _, h0⟩, ?_⟩
  rintro i m σ H ⟨rfl, hi, p⟩
  have q := hl i σ H hi p
  by_cases hlt : i < xs.length
  · refine .inr ⟨⟨xs, xs[i], q, List.getElem?_eq_getElem hlt⟩, Pv (i + 1), fun σ' H' p' => ⟨xs.length - (i + 1), by omega, rfl, hlt, p'⟩, fun v H' hy => ?_⟩
    obtain ⟨T, x, rfl, nT, rfl, fx⟩ := hy
    exact hs i x T σ H (fx xs q) p nT
  · have e : i = xs.length := by omega
    subst e
    exact .inl ⟨⟨xs, q, Nat.le_refl _⟩, hd σ H p⟩
theorem dp_bools {H : Hp} : ∀ bs : List Bool, DpAll K H (bs.map V.bl) (bs.map PyData.bool)
  | [] => .nil
  | b :: r => .cons (.bl b) (dp_bools r)
theorem lay_bools : ∀ bs : List Bool, PyData.canLayAll0 (bs.map PyData.bool) = true
  | [] => rfl
  | b :: r => by
    show (PyData.canLay0 (.bool b) && PyData.canLayAll0 (r.map PyData.bool)) = true
    rw [lay_bools r]
    rfl
theorem dep_bools : ∀ bs : List Bool, PyData.depthAll (bs.map PyData.bool) = 0
  | [] => rfl
  | b :: r => by
    show max (PyData.depth (.bool b)) (PyData.depthAll (r.map PyData.bool)) = 0
    rw [dep_bools r]
    rfl
theorem shape_bools (bs : List Bool) : SeqAt.shaped (.list (bs.map PyData.bool)) = true := by
  show (PyData.canLayAll0 (bs.map PyData.bool) && decide (PyData.depthAll (bs.map PyData.bool) + 1 ≤ 64)) = true
  rw [lay_bools, dep_bools]
  rfl
theorem eq_bools (bs : List Bool) : PyData.eqv (.list (bs.map PyData.bool)) (.list (bs.map PyData.bool)) = true := SeqAt.eqv_refl _ (lay_bools bs)
theorem in_ints (j : Int) : ∀ ks : List Int, inV (.int j) (ks.map V.int) = ks.contains j
  | [] => rfl
  | k :: r => by
    show (eqV (.int k) (.int j) || inV (.int j) (r.map V.int)) = _
    rw [in_ints j r, List.contains_cons]
    show ((k == j) || _) = _
    rw [Bool.beq_comm]
theorem flat_ints : ∀ ks : List Int, (ks.map V.int).all flatV = true
  | [] => rfl
  | k :: r => by
    show (flatV (.int k) && (r.map V.int).all flatV) = true
    rw [flat_ints r]
    rfl
/-- the odd thing's data -/
structure Odd (d : PyData) : Prop where
  sh : d.showable = true
  nd : d.hasDict = false
  dp : d.depth ≤ 1
  ls : d.leavesShort 20 = true
  wt : d.weight ≤ 100
theorem word_ls {w : Str} (h : Word w) : (w.cps.toList.all fun c => decide (c < 16 ^ 8)) = true := by
  rw [List.all_eq_true]
  intro c hc
  exact decide_eq_true (Nat.lt_of_lt_of_le (h.2 c hc) (by decide))
theorem word_wt {w : Str} (h : Word w) : w.cps.size ≤ 8 := h.1
theorem odd_data {H : Hp} {v : V} {w0 w1 : Str} {t1 l1 : Addr} (h0 : Word w0) (h1 : Word w1) (ht : H t1 = some (.tup [.int 1, .str w1])) (hl : H l1 = some (.lst [.str w0])) (hv : v ∈ odds w0 t1 l1) : ∃ d, Dp K H v d ∧ Odd d := by
  simp only [odds, List.mem_cons, List.not_mem_nil, or_false] at hv
  have z0 := word_wt h0
  have z1 := word_wt h1
  rcases hv with rfl | rfl | rfl | rfl | rfl | rfl | rfl | rfl
  · exact ⟨_, .non, rfl, rfl, by decide, rfl, by decide⟩
  · exact ⟨_, .bl true, rfl, rfl, by decide, rfl, by decide⟩
  · exact ⟨_, .int 0, by decide +kernel, rfl, by decide, by decide +kernel, by decide +kernel⟩
  · exact ⟨_, .int (-1), by decide +kernel, rfl, by decide, by decide +kernel, by decide +kernel⟩
  · exact ⟨_, .str w0, rfl, rfl, Nat.zero_le _, word_ls h0, by show w0.cps.size ≤ 100; omega⟩
  · refine ⟨_, .tup (SqT.of ht) (.cons (.int 1) (.cons (.str w1) .nil)), ?_, rfl, Nat.le_refl 1, ?_, ?_⟩
    · show (PyData.showable (.int 1) && (PyData.showable (.str w1) && true)) = true
      rw [show PyData.showable (.int 1) = true by decide +kernel]
      rfl
    · show (PyData.leavesShort 20 (.int 1) && ((w1.cps.toList.all fun c => decide (c < 16 ^ 8)) && true)) = true
      rw [word_ls h1, show PyData.leavesShort 20 (.int 1) = true by decide +kernel]
      rfl
    · show PyData.weight (.int 1) + 1 + (w1.cps.size + 1 + 0) ≤ 100
      rw [show PyData.weight (.int 1) = 1 by decide +kernel]
      omega
  · refine ⟨_, .lst (SqL.of hl) (.cons (.str w0) .nil), rfl, rfl, Nat.le_refl 1, ?_, ?_⟩
    · show ((w0.cps.toList.all fun c => decide (c < 16 ^ 8)) && true) = true
      rw [word_ls h0]
      rfl
    · show w0.cps.size + 1 + 0 ≤ 100
      omega
  · exact ⟨_, .int _, by decide +kernel, rfl, by decide, by decide +kernel, by decide +kernel⟩
theorem seven {d : PyData} (o : Odd d) : (PyData.list [d, d, d, d, d, d, d]).showable = true ∧ (PyData.list [d, d, d, d, d, d, d]).hasDict = false ∧ (PyData.list [d, d, d, d, d, d, d]).depth ≤ 60 ∧ (PyData.list [d, d, d, d, d, d, d]).shown.length ≤ sizeLine := by
  have o3 := o.dp
  have o5 := o.wt
  refine ⟨?_, ?_, ?_, ?_⟩
  · simp only [PyData.showable, PyData.showableAll, o.sh, Bool.and_self]
  · simp only [PyData.hasDict, PyData.hasDictAll, o.nd, Bool.or_self]
  · simp only [PyData.depth, PyData.depthAll]
    omega
  · have z := PyData.shown_le 20 (by decide) (.list [d, d, d, d, d, d, d]) (by simp only [PyData.leavesShort, PyData.leavesShortAll, o.ls, Bool.and_self])
    simp only [PyData.weight, PyData.weightAll] at z
    have e : sizeLine = 16777216 := sizeLine_eq
    omega
theorem ix_listK {X : Cx} {K1 : PySem.W.Frag} (hK : X.K = K1) : IxR X (rIxL K1) := by
  subst hK
  exact ix_list
theorem op_in_seqK {X : Cx} {K1 : PySem.W.Frag} (hK : X.K = K1) : OpR X (compareOp .In) (rIn K1 false) := by
  subst hK
  exact op_in_seq
theorem pe_xvK {X : Cx} {K1 : PySem.W.Frag} {e : Expr} {te : TE} {f : Str} {pos : Pos} (hK : X.K = K1) (he : PE X e te) (hb : attributeBase e f X.env (eval e X.env) = eval e X.env := by rfl) : PE X (.Attribute e f pos) (tXv K1 f te) := by
  subst hK
  exact pe_xv he hb
def items (odd gone : V) (w0 w1 w2 : Str) (at_ : Int) : List (Str × Option (Str × V)) :=
  [("NoStore", none), ("NoLine", none), ("Busy", none), ("Taken", some ("name", odd)), ("NoDeed", some ("name", odd)), ("NoName", some ("name", odd)), ("NoHouse", some ("name", odd)), ("NoTable", some ("name", odd)), ("NoRow", some ("key", odd)),
   ("Late", some ("key", .str w0)), ("Waits", some ("who", .str w1)), ("Looked", some ("name", .str w2)), ("NoNumber", some ("number", odd)), ("Stopped", some ("by", gone)), ("NoText", some ("row", .int at_))]
theorem items_names (odd gone : V) (w0 w1 w2 : Str) (at_ : Int) : (items odd gone w0 w1 w2 at_).map (·.1) = names := rfl
theorem paired_at {α β : Type} {R : α → β → Prop} : ∀ {xs : List α} {ys : List β} {i : Nat} {x : α}, Paired R xs ys → xs[i]? = some x → ∃ y, ys[i]? = some y ∧ R x y
  | _, _, _, _, .nil, h => by simp at h
  | _, _, 0, _, .cons r _, h => by
    simp at h
    subst h
    exact ⟨_, rfl, r⟩
  | _, _, i + 1, x, .cons _ t, h => paired_at (i := i) t (by simpa using h)
/-- the gone ones: a tuple of none, one or two pairs of words -/
def Gone (K : PySem.W.Frag) (H : Hp) (g : Addr) : Prop := ∃ d, Dp K H (.ref g) d ∧ SeqAt.shaped d = true
theorem word_ok {w : Str} (h : Word w) : PyData.strOk w = true := by
  unfold PyData.strOk
  rw [← Array.all_toList, List.all_eq_true]
  intro c hc
  exact decide_eq_true (Nat.lt_of_lt_of_le (h.2 c hc) (by decide))
def dPair (x y : Str) : PyData := .tuple [.str x, .str y]
theorem pair_lay {x y : Str} (hx : PyData.strOk x = true) (hy : PyData.strOk y = true) : PyData.canLay0 (dPair x y) = true := by
  show (PyData.strOk x && (PyData.strOk y && true)) = true
  rw [hx, hy]
  rfl
theorem asg_lst {t : TA} {D : Ends} {σ : L2.St} {H : Hp} {i : Nat} (h : t σ H fun xs H1 => xs.length ≤ sizeLine ∧ ∀ p, H1 p = none → D.nx (σ.set i (some (.ref p))) (upd H1 p (.lst xs))) : tAsg (tLst t) (gName i) D σ H := h
theorem lst_of {t : TA} {σ : L2.St} {H : Hp} {Q : VK} (h : t σ H fun xs H1 => xs.length ≤ sizeLine ∧ ∀ p, H1 p = none → Q (.ref p) (upd H1 p (.lst xs))) : tLst t σ H Q := h
theorem nil_of {σ : L2.St} {H : Hp} {Q : List V → Hp → Prop} (h : Q [] H) : tNil σ H Q := h
theorem ints_same {H H' : Hp} (s : Same H H') : ∀ {ps : List Addr} {kk : List (List Int)}, Paired (fun p ks => H p = some (.lst (ks.map V.int))) ps kk → Paired (fun p ks => H' p = some (.lst (ks.map V.int))) ps kk
  | _, _, .nil => .nil
  | _, _, .cons h t => .cons (s _ _ h) (ints_same s t)
theorem refs_at {es : List Addr} {i : Nat} {x : V} (h : (es.map V.ref)[i]? = some x) : ∃ e, es[i]? = some e ∧ x = .ref e := by
  rw [List.getElem?_map] at h
  cases q : es[i]? with
  | none => rw [q] at h; cases h
  | some e => rw [q] at h; exact ⟨e, rfl, (Option.some.inj h).symm⟩
theorem asg_inner {kss : List (List Int)} {D : Ends} {σ : L2.St} {H : Hp} {i : Nat} (hl : ∀ ks ∈ kss, ks.length ≤ 100) (hk : kss.length ≤ 100) (q : ∀ (ps : List Addr) (KL : Addr) H', Same H H' → Paired (fun p ks => H' p = some (.lst (ks.map V.int))) ps kss → H' KL = some (.lst (ps.map V.ref)) → D.nx (σ.set i (some (.ref KL))) H') : tAsg (tLst (tInner kss)) (gName i) D σ H := by
  refine inner_ev (σ := σ) (kss := kss) (H := H) hl fun ps H' s pr => ⟨?_, fun KL nk => ?_⟩
  · rw [List.length_map, Paired.length pr]
    exact Nat.le_of_lt (small1000 (by omega))
  · refine q ps KL _ (s.trans (same_new nk)) ?_ upd_same
    exact ints_same (same_new nk) pr
theorem paired_at2 {α β : Type} {R : α → β → Prop} : ∀ {xs : List α} {ys : List β} {i : Nat} {y : β}, Paired R xs ys → ys[i]? = some y → ∃ x, xs[i]? = some x ∧ R x y
  | _, _, _, _, .nil, h => by simp at h
  | _, _, 0, _, .cons r _, h => by
    simp at h
    subst h
    exact ⟨_, rfl, r⟩
  | _, _, i + 1, x, .cons _ t, h => paired_at2 (i := i) t (by simpa using h)
theorem same_eq (j i : Nat) : decide (V.int (0 + (j : Int)) = V.int (i : Int)) = sameB j i := by
  unfold sameB
  refine decide_eq_decide.mpr ⟨fun z => ?_, fun z => ?_⟩
  · have := V.int.inj z
    omega
  · subst z
    rw [Int.zero_add]
theorem kind_at {i : Nat} (h : i < 15) : kindIx[i]? = some (kindIx.getD i []) := by
  rw [List.getD_eq_getElem?_getD, List.getElem?_eq_getElem (show i < kindIx.length from h)]
  rfl
def Fld (K : PySem.W.Frag) (H : Hp) (e : Addr) (fl : Str) (v : V) : Prop := ∃ (C d : Addr) (fs : List (Str × V)), IsEx K C ∧ PySem.W.findIn K (.ref C) fl = some none ∧ H e = some (exo e C (some d)) ∧ H d = some (.xd fs) ∧ fs.lookup fl = some v
theorem Fld.same {H H' : Hp} {e : Addr} {fl : Str} {v : V} (s : Same H H') (f : Fld K H e fl v) : Fld K H' e fl v := by
  obtain ⟨C, d, fs, h1, h2, h3, h4, h5⟩ := f
  exact ⟨C, d, fs, h1, h2, s _ _ h3, s _ _ h4, h5⟩
theorem fld_of {H : Hp} {e : Addr} {x fl : Str} {v : V} (hex : IsEx K (cl K x)) (hno : PySem.W.findIn K (.ref (cl K x)) fl = some none) (i : It K H e (x, some (fl, v))) : Fld K H e fl v := by
  obtain ⟨d, h1, h2⟩ := (show ∃ d, H d = some (.xd [(fl, v)]) ∧ H e = some (exo e (cl K x) (some d)) from i)
  exact ⟨_, d, _, hex, hno, h2, h1, by simp [List.lookup]⟩
theorem val_xv {te : TE} {σ : L2.St} {H : Hp} {e : Addr} {fl : Str} {v : V} (hv : Val te σ H (.ref e)) (f : Fld K H e fl v) : Val (tXv K fl te) σ H v := by
  obtain ⟨C, d, fs, h1, h2, h3, h4, h5⟩ := f
  exact fun Q q => hv _ ⟨e, C, d, fs, v, rfl, h1, h2, h3, h4, h5, q⟩
theorem cons_val {te : TE} {t : TA} {σ : L2.St} {H : Hp} {v : V} {Q : List V → Hp → Prop} (hv : Val te σ H v) (h : t σ H fun vs H2 => Q (v :: vs) H2) : tCons te t σ H Q := hv _ h
theorem sqL_same {H H' : Hp} {a : Addr} {xs : List V} (s : Same H H') (q : SqL K H a xs) : SqL K H' a xs := s.seq q
theorem sqT_same {H H' : Hp} {a : Addr} {xs : List V} (s : Same H H') (h : SqT K H a xs) : SqT K H' a xs := by
  rcases h with (h | ⟨o, h⟩) | h
  · exact .inl (.inl (s _ _ h))
  · exact .inl (.inr ⟨o, s _ _ h⟩)
  · exact .inr h
mutual
theorem dp_same {H H' : Hp} (s : Same H H') : ∀ {v : V} {d : PyData}, Dp K H v d → Dp K H' v d
  | _, _, .non => .non
  | _, _, .bl b => .bl b
  | _, _, .int i => .int i
  | _, _, .str x => .str x
  | _, _, .lst q a => .lst (sqL_same s q) (dpa_same s a)
  | _, _, .tup q a => .tup (sqT_same s q) (dpa_same s a)
theorem dpa_same {H H' : Hp} (s : Same H H') : ∀ {vs : List V} {ds : List PyData}, DpAll K H vs ds → DpAll K H' vs ds
  | _, _, .nil => .nil
  | _, _, .cons h t => .cons (dp_same s h) (dpa_same s t)
end
theorem dec_refl (v : V) : decide (v = v) = true := decide_eq_true rfl
theorem ok_law (T : Tx K mg) (Z : Zx K mg) (c_l_hand : C8.Cal P w K mg base 1 "_law_hand" (spHand K) []) (c_l_take : C8.Cal P w K mg base 1 "_law_take" spTake []) (c_l_of : C8.Cal P w K mg base 2 "_law_of" (spOf1 K) []) (c_l_word : C8.Cal P w K mg base 3 "_law_word" spWord [])
    (c_l_marks : C8.Cal P w K mg base 1 "_law_marks" (spMarks K) []) (c_l_kinds : C8.Cal P w K mg base 1 "_law_kinds" (spKinds K) []) (f : Addr) (cdv : Value) (s : Shared) (H : Hp) (vs : List V) (Q : VK) (E : XK)
    (hr : Room 3 (callerA.deeper (envOfC "law" (defScope s_law) s.heap.objs.size f cdv))) (h : spLaw K vs H Q E) :
    ∃ t, PSs (cxOf CX0 P w K mg base N_law "law" (defScope s_law) f cdv callerA [] s H E).nox (defBody s_law) t ∧ t { nx := fun _ H' => Q .non H', rt := Q } (start N_law vs) H := by
  obtain ⟨a, ns, rfl, hS, hl, q⟩ := h
  refine ⟨_, (pss_cons (ps_set (i := 1) sc_law.nd rfl (Or.inr rfl) (C8.pe_c c_l_hand hr (by decide) (gl_of gl_law_l_hand) (pa_cons (pv 0) (pa_cons pe_int pa_nil))))
      (pss_cons (ps_setLc (i := 2) (own := [("_law_turn", 11)]) (g := gName 11) (tt := tYes) rfl sc_law.nd rfl rfl (sw_true rfl rfl rfl (by decide +kernel)) (pi_range1 (by rfl) T.range (pa_cons pe_int pa_nil)) (blkOk_by (own := [("_law_turn", 11)]) (N := N_law) (sc := defScope s_law) (by decide +kernel)) (fun _ _ _ _ _ => pg_name (i := 11) sc_law.nd rfl (Or.inl rfl)) (fun _ _ _ _ _ => pts_nil) (fun _ _ _ _ _ => (C8.pe_c c_l_word hr (by decide) (by rfl) (pa_cons (pv 1) pa_nil))))
      (pss_cons (ps_set (i := 3) sc_law.nd rfl (Or.inl rfl) (C8.pe_c c_l_of hr (by decide) (gl_of gl_law_l_of) (pa_cons (pv 1) (pa_cons (pe_lst (pa_cons pe_non (pa_cons pe_bl (pa_cons pe_int (pa_cons (pe_un un_neg pe_int) (pa_cons (pe_ix ix_list (pv 2) pe_int (fun _ _ => rfl)) (pa_cons (pe_tup (pa_cons pe_int (pa_cons (pe_ix ix_list (pv 2) pe_int (fun _ _ => rfl)) pa_nil))) (pa_cons (pe_lst (pa_cons (pe_ix ix_list (pv 2) pe_int (fun _ _ => rfl)) pa_nil)) (pa_cons (pe_op op_pow pe_int pe_int) pa_nil))))))))) pa_nil))))
      (pss_cons (ps_par (i := 4) (j := 5) (by rfl) sc_law.nd rfl rfl (by decide) rfl rfl (pa_cons (C8.pe_c c_l_take hr (by decide) (gl_of gl_law_l_take) (pa_cons (pv 1) (pa_cons pe_int pa_nil))) (pa_cons (pe_slice sl_tupA (pe_tup (pa_cons (pe_tup (pa_cons pe_str (pa_cons (pe_ix ix_list (pv 2) pe_int (fun _ _ => rfl)) pa_nil))) (pa_cons (pe_tup (pa_cons pe_str (pa_cons (pe_ix ix_list (pv 2) pe_int (fun _ _ => rfl)) pa_nil))) pa_nil))) po_none (po_some (C8.pe_c c_l_take hr (by decide) (gl_of gl_law_l_take) (pa_cons (pv 1) (pa_cons pe_int pa_nil))))) pa_nil)) (by rfl))
      (pss_cons (ps_set (i := 6) sc_law.nd rfl (Or.inl rfl) (pe_lst (pa_cons (pe_mk0 PySem.F.excBase_ValueError Z.q_NoStore Z.g_NoStore Z.k_NoStore (gl_of gl_law_NoStore)) (pa_cons (pe_mk0 PySem.F.excBase_ValueError Z.q_NoLine Z.g_NoLine Z.k_NoLine (gl_of gl_law_NoLine)) (pa_cons (pe_mk0 PySem.F.excBase_RuntimeError Z.q_Busy Z.g_Busy Z.k_Busy (gl_of gl_law_Busy)) (pa_cons (pe_one_name Z.t_Taken Z.o_Taken Z.g_Taken hr (gl_of gl_law_Taken) (pa_cons (pv 3) pa_nil)) (pa_cons (pe_one_name Z.t_NoDeed Z.o_NoDeed Z.g_NoDeed hr (gl_of gl_law_NoDeed) (pa_cons (pv 3) pa_nil)) (pa_cons (pe_one_name Z.t_NoName Z.o_NoName Z.g_NoName hr (gl_of gl_law_NoName) (pa_cons (pv 3) pa_nil)) (pa_cons (pe_one_name Z.t_NoHouse Z.o_NoHouse Z.g_NoHouse hr (gl_of gl_law_NoHouse) (pa_cons (pv 3) pa_nil)) (pa_cons (pe_one_name Z.t_NoTable Z.o_NoTable Z.g_NoTable hr (gl_of gl_law_NoTable) (pa_cons (pv 3) pa_nil)) (pa_cons (pe_one_key Z.t_NoRow Z.o_NoRow Z.g_NoRow hr (gl_of gl_law_NoRow) (pa_cons (pv 3) pa_nil)) pa_nil)))))))))))
      (pss_cons (ps_set (i := 6) sc_law.nd rfl (Or.inl rfl) (pe_op op_cat (pv 6) (pe_lst (pa_cons (pe_one_key Z.t_Late Z.o_Late Z.g_Late hr (gl_of gl_law_Late) (pa_cons (pe_ix ix_list (pv 2) pe_int (fun _ _ => rfl)) pa_nil)) (pa_cons (pe_one_who Z.t_Waits Z.o_Waits Z.g_Waits hr (gl_of gl_law_Waits) (pa_cons (pe_ix ix_list (pv 2) pe_int (fun _ _ => rfl)) pa_nil)) (pa_cons (pe_one_name Z.t_Looked Z.o_Looked Z.g_Looked hr (gl_of gl_law_Looked) (pa_cons (pe_ix ix_list (pv 2) pe_int (fun _ _ => rfl)) pa_nil)) (pa_cons (pe_one_number Z.t_NoNumber Z.o_NoNumber Z.g_NoNumber hr (gl_of gl_law_NoNumber) (pa_cons (pv 3) pa_nil)) (pa_cons (pe_one_by Z.t_Stopped Z.o_Stopped Z.g_Stopped hr (gl_of gl_law_Stopped) (pa_cons (pv 5) pa_nil)) (pa_cons (pe_one_row Z.t_NoText Z.o_NoText Z.g_NoText hr (gl_of gl_law_NoText) (pa_cons (pv 4) pa_nil)) pa_nil)))))))))
      (pss_cons (ps_set (i := 7) sc_law.nd rfl (Or.inr rfl) (pe_lst (pa_cons (pe_lst (pa_cons pe_int pa_nil)) (pa_cons (pe_lst (pa_cons pe_int pa_nil)) (pa_cons (pe_lst (pa_cons pe_int pa_nil)) (pa_cons (pe_lst (pa_cons pe_int (pa_cons pe_int pa_nil))) (pa_cons (pe_lst (pa_cons pe_int pa_nil)) (pa_cons (pe_lst (pa_cons pe_int pa_nil)) (pa_cons (pe_lst (pa_cons pe_int pa_nil)) (pa_cons (pe_lst (pa_cons pe_int pa_nil)) (pa_cons (pe_lst (pa_cons pe_int pa_nil)) (pa_cons (pe_lst (pa_cons pe_int pa_nil)) (pa_cons (pe_lst (pa_cons pe_int pa_nil)) (pa_cons (pe_lst (pa_cons pe_int pa_nil)) (pa_cons (pe_lst (pa_cons pe_int pa_nil)) (pa_cons (pe_lst (pa_cons pe_int (pa_cons pe_int pa_nil))) (pa_cons (pe_lst (pa_cons pe_int pa_nil)) pa_nil)))))))))))))))))
      (pss_cons (ps_for PassesOwn.never rfl (pi_enum (by rfl) T.enumerate (pa_cons (pv 6) pa_nil)) (pg_tup rfl (pgs_cons (pg_name (i := 8) sc_law.nd rfl (Or.inr rfl)) (pgs_cons (pg_name (i := 9) sc_law.nd rfl (Or.inl rfl)) pgs_nil))) (pss_one (ps_if (PW.pt (pw_or (pt_cmpR (op_neD hr.units) (C8.pe_c c_l_marks hr (by decide) (gl_of gl_law_l_marks) (pa_cons (pv 9) pa_nil)) (pe_lc (own := [("_law_j", 12)]) (g := gName 12) (tt := tYes) rfl sc_law.nd (pi_range1 (by rfl) T.range (pa_cons pe_int pa_nil)) (blkOk_by (own := [("_law_j", 12)]) (N := N_law) (sc := defScope s_law) (by decide +kernel)) (fun _ _ _ _ _ => pg_name (i := 12) sc_law.nd rfl (Or.inl rfl)) (fun _ _ _ _ _ => pts_nil) (fun _ _ _ _ _ => (pe_cmpR op_eq (pv 12) (pv 8) (nomark _)))) (nomark _)) (pw_or1 (pt_cmpR (op_neD hr.units) (C8.pe_c c_l_kinds hr (by decide) (gl_of gl_law_l_kinds) (pa_cons (pv 9) pa_nil)) (pe_lc (own := [("_law_j", 12)]) (g := gName 12) (tt := tYes) rfl sc_law.nd (pi_range1 (by rfl) T.range (pa_cons pe_int pa_nil)) (blkOk_by (own := [("_law_j", 12)]) (N := N_law) (sc := defScope s_law) (by decide +kernel)) (fun _ _ _ _ _ => pg_name (i := 12) sc_law.nd rfl (Or.inl rfl)) (fun _ _ _ _ _ => pts_nil) (fun _ _ _ _ _ => (pe_cmpR (op_in_seqK (K1 := K) rfl) (pv 12) (pe_ix (ix_listK (K1 := K) rfl) (pv 7) (pv 8) (fun _ _ => rfl)) (by rfl)))) (nomark _))))) (pss_one (ps_ret pe_bl)) pss_nil)))
      (pss_cons (ps_set (i := 10) sc_law.nd rfl (Or.inl rfl) (pe_op op_cat (pe_lc (own := [("_law_e", 9)]) (g := gName 9) (tt := tYes) rfl sc_law.nd (pi_list (pe_slice sl_list (pv 6) (po_some pe_int) (po_some pe_int))) (blkOk_by (own := [("_law_e", 9)]) (N := N_law) (sc := defScope s_law) (by decide +kernel)) (fun _ _ _ _ _ => pg_name (i := 9) sc_law.nd rfl (Or.inl rfl)) (fun _ _ _ _ _ => pts_nil) (fun _ _ _ _ _ => (pe_xvK (K1 := K) rfl (pv 9)))) (pe_lst (pa_cons (pe_xvK (K1 := K) rfl (pe_ix ix_list (pv 6) pe_int (fun _ _ => rfl))) (pa_cons (pe_xvK (K1 := K) rfl (pe_ix ix_list (pv 6) pe_int (fun _ _ => rfl))) pa_nil)))))
      (pss_cons (ps_if (PW.pt (pw_or (pt_cmpR op_ne (pe_callB (call_repr (by rfl) hr.units) (gl_of gl_law_repr) T.repr bb_repr (pa_cons (pv 10) pa_nil)) (pe_callB (call_repr (by rfl) hr.units) (gl_of gl_law_repr) T.repr bb_repr (pa_cons (pe_op op_rep (pe_lst (pa_cons (pv 3) pa_nil)) pe_int) pa_nil)) (nomark _)) (pw_or (pt_cmpR op_ne (pe_xvK (K1 := K) rfl (pe_ix ix_list (pv 6) pe_int (fun _ _ => rfl))) (pe_ix ix_list (pv 2) pe_int (fun _ _ => rfl)) (nomark _)) (pw_or1 (pt_cmpR op_ne (pe_xvK (K1 := K) rfl (pe_ix ix_list (pv 6) pe_int (fun _ _ => rfl))) (pe_ix ix_list (pv 2) pe_int (fun _ _ => rfl)) (nomark _)))))) (pss_one (ps_ret pe_bl)) pss_nil)
      (pss_one (ps_ret (pe_and (pe_cmpR op_eq (pe_xvK (K1 := K) rfl (pe_ix ix_list (pv 6) pe_int (fun _ _ => rfl))) (pe_ix ix_list (pv 2) pe_int (fun _ _ => rfl)) (nomark _)) (pe_and (pe_cmpR (op_eqD hr.units) (pe_xvK (K1 := K) rfl (pe_ix ix_list (pv 6) pe_int (fun _ _ => rfl))) (pv 5) (nomark _)) (pe_one (pe_cmpR op_eq (pe_xvK (K1 := K) rfl (pe_ix ix_list (pv 6) pe_int (fun _ _ => rfl))) (pv 4) (nomark _))))))))))))))))), ?_⟩
  refine st_seq ?_
  refine ⟨_, rfl, a, ns, 0, rfl, hS, by decide, fun p H1 np ke hs => ?_⟩
  -- words
  dsimp only [gName]
  refine st_seq ?_
  refine ⟨4, rfl, by decide, by decide, fun D nD => ?_⟩
  have nDp : D ≠ p := hs.ne nD
  refine lc_range (lo := 0) (n := 4) (fun j H' => HS p (9 * j) H' ∧ Fr p H1 H' ∧ ∃ ws : List Str, ws.length = j ∧ (∀ u ∈ ws, Word u) ∧ H' D = some (.lst (ws.map V.str))) ?_ (fun j H2 hj hP => ?_) (fun H2 hP => ?_)
  · exact ⟨hs.new nD, Fr.new nD, [], rfl, (fun u hu => by cases hu), upd_same⟩
  · obtain ⟨hs2, f2, ws, lw, hw, eD⟩ := hP
    refine ⟨rfl, ?_⟩
    refine ⟨_, rfl, p, 9 * j, rfl, hs2, (show 9 * j + 9 < 100000 by omega), fun u H3 hu hs3 f3 => ?_⟩
    refine ⟨_, f3 _ _ nDp eD, ?_, ?_, Fr.mut (f2.trans f3) nD, ws ++ [u], ?_, ?_, ?_⟩
    · rw [List.length_map]
      exact small1000 (by omega)
    · refine HS.mono ?_ (show 9 * j + 9 ≤ 9 * (j + 1) by omega)
      obtain ⟨g, b, c, eh, r⟩ := hs3
      exact ⟨g, b, c, (by rw [upd_ne nDp.symm]; exact eh), r⟩
    · rw [List.length_append, lw]
      rfl
    · intro y hy
      rcases List.mem_append.mp hy with e | e
      · exact hw y e
      · rw [List.mem_singleton.mp e]
        exact hu
    · rw [upd_same, List.map_append]
      rfl
  · obtain ⟨hs2, f2, ws, lw, hw, eD⟩ := hP
    obtain ⟨w0, w1, w2, w3, rfl⟩ : ∃ w0 w1 w2 w3, ws = [w0, w1, w2, w3] := by
      match ws, lw with
      | [w0, w1, w2, w3], _ => exact ⟨w0, w1, w2, w3, rfl⟩
    have h0 : Word w0 := hw w0 (by simp)
    have h1 : Word w1 := hw w1 (by simp)
    have eD' : H2 D = some (.lst [.str w0, .str w1, .str w2, .str w3]) := eD
    -- odd
    dsimp only [gName]
    refine st_seq ?_
    refine ⟨_, rfl, _, rfl, _, rfl, D, _, _, _, rfl, rfl, SqL.of eD', rfl, _, rfl, D, _, _, _, rfl, rfl, SqL.of eD', rfl, (show 2 ≤ sizeLine by decide), fun t1 nt1 => ?_⟩
    have eD1 : (upd H2 t1 (.tup [.int 1, .str w1])) D = some (.lst [.str w0, .str w1, .str w2, .str w3]) := same_new nt1 _ _ eD'
    have et1 : (upd H2 t1 (.tup [.int 1, .str w1])) t1 = some (.tup [.int 1, .str w1]) := upd_same
    have hs3 : HS p (9 * 4) (upd H2 t1 (.tup [.int 1, .str w1])) := hs2.new nt1
    have nt1p : t1 ≠ p := hs2.ne nt1
    refine ⟨_, rfl, D, _, _, _, rfl, rfl, SqL.of eD1, rfl, (show 1 ≤ sizeLine by decide), fun l1 nl1 => ?_⟩
    have eD2 : (upd (upd H2 t1 (.tup [.int 1, .str w1])) l1 (.lst [.str w0])) D = some (.lst [.str w0, .str w1, .str w2, .str w3]) := same_new nl1 _ _ eD1
    have et2 : (upd (upd H2 t1 (.tup [.int 1, .str w1])) l1 (.lst [.str w0])) t1 = some (.tup [.int 1, .str w1]) := same_new nl1 _ _ et1
    have el2 : (upd (upd H2 t1 (.tup [.int 1, .str w1])) l1 (.lst [.str w0])) l1 = some (.lst [.str w0]) := upd_same
    have hs4 : HS p (9 * 4) (upd (upd H2 t1 (.tup [.int 1, .str w1])) l1 (.lst [.str w0])) := hs3.new nl1
    have nl1p : l1 ≠ p := hs3.ne nl1
    refine ⟨_, _, rfl, rfl, pow_ok (by decide), (show 8 ≤ sizeLine by decide), fun L nL => ?_⟩
    refine .inl ⟨p, L, odds w0 t1 l1, 9 * 4, rfl, hs4.new nL, (show 9 * 4 < 100000 by decide), hs4.ne nL, SqL.of upd_same, (show 0 < 8 by decide), (show 8 ≤ 1000 by decide), fun odd H3 hodd hs5 f5 => ?_⟩
    have eD3 := f5 _ _ nDp (same_new (o := .lst (odds w0 t1 l1)) nL _ _ eD2)
    have et3 := f5 _ _ nt1p (same_new (o := .lst (odds w0 t1 l1)) nL _ _ et2)
    have el3 := f5 _ _ nl1p (same_new (o := .lst (odds w0 t1 l1)) nL _ _ el2)
    -- at, gone
    dsimp only [gName]
    refine st_seq (par_H (PV := fun v u H' => ∃ (at_ : Int) (g : Addr), v = .int at_ ∧ u = .ref g ∧ Fr p H3 H' ∧ ∃ d, Dp K H' (.ref g) d ∧ SeqAt.shaped d = true) (fun Q2 q2 => ?_) (fun v u H4 hv => ?_))
    · refine ⟨_, rfl, p, 3000, 9 * 4 + 1, rfl, hs5, (show 9 * 4 + 1 < 100000 by decide), by decide, by decide, fun at_ H4 a0 a1 hs6 f6 => ?_⟩
      have eD4 := f6 _ _ nDp eD3
      refine ⟨_, rfl, D, _, _, _, rfl, rfl, SqL.of eD4, rfl, (show 2 ≤ sizeLine by decide), fun ta nta => ?_⟩
      have eD5 : (upd H4 ta (.tup [.str "deed", .str w2])) D = some (.lst [.str w0, .str w1, .str w2, .str w3]) := same_new nta _ _ eD4
      refine ⟨_, rfl, D, _, _, _, rfl, rfl, SqL.of eD5, rfl, (show 2 ≤ sizeLine by decide), fun tb ntb => ?_⟩
      refine ⟨(show 2 ≤ sizeLine by decide), fun tc ntc => ?_⟩
      have ea : (upd (upd (upd H4 ta (.tup [.str "deed", .str w2])) tb (.tup [.str "house", .str w3])) tc (.tup [.ref ta, .ref tb])) ta = some (.tup [.str "deed", .str w2]) := same_new ntc _ _ (same_new ntb _ _ upd_same)
      have eb : (upd (upd (upd H4 ta (.tup [.str "deed", .str w2])) tb (.tup [.str "house", .str w3])) tc (.tup [.ref ta, .ref tb])) tb = some (.tup [.str "house", .str w3]) := same_new ntc _ _ upd_same
      have ec : (upd (upd (upd H4 ta (.tup [.str "deed", .str w2])) tb (.tup [.str "house", .str w3])) tc (.tup [.ref ta, .ref tb])) tc = some (.tup [.ref ta, .ref tb]) := upd_same
      have hs7 : HS p (9 * 4 + 1 + 1) (upd (upd (upd H4 ta (.tup [.str "deed", .str w2])) tb (.tup [.str "house", .str w3])) tc (.tup [.ref ta, .ref tb])) := ((hs6.new nta).new ntb).new ntc
      have fr7 : Fr p H3 (upd (upd (upd H4 ta (.tup [.str "deed", .str w2])) tb (.tup [.str "house", .str w3])) tc (.tup [.ref ta, .ref tb])) := f6.trans ((Fr.new nta).trans ((Fr.new ntb).trans (Fr.new ntc)))
      have nap : ta ≠ p := hs6.ne nta
      have nbp : tb ≠ p := (hs6.new nta).ne ntb
      have ncp : tc ≠ p := ((hs6.new nta).new ntb).ne ntc
      have l2 : PyData.canLay0 (dPair "deed" w2) = true := pair_lay (by decide +kernel) (word_ok (hw w2 (by simp)))
      have l3 : PyData.canLay0 (dPair "house" w3) = true := pair_lay (by decide +kernel) (word_ok (hw w3 (by simp)))
      refine ⟨_, rfl, p, 3, 9 * 4 + 1 + 1, rfl, hs7, (show 9 * 4 + 1 + 1 < 100000 by decide), by decide, by decide, fun m H5 m0 m1 hs8 f8 => ?_⟩
      have fr8 := fr7.trans f8
      have ea8 := f8 _ _ nap ea
      have eb8 := f8 _ _ nbp eb
      have ec8 := f8 _ _ ncp ec
      have da : Dp K H5 (.ref ta) (dPair "deed" w2) := .tup (SqT.of ea8) (.cons (.str _) (.cons (.str _) .nil))
      have db : Dp K H5 (.ref tb) (dPair "house" w3) := .tup (SqT.of eb8) (.cons (.str _) (.cons (.str _) .nil))
      have hm : m = 0 ∨ m = 1 ∨ m = 2 := by omega
      rcases hm with rfl | rfl | rfl
      · refine ⟨_, rfl, tc, [.ref ta, .ref tb], rfl, SqT.of ec8, fun z => absurd z.2 (show ¬ (0 : Nat) = 2 by decide), fun _ g ng => q2 _ _ _ ⟨at_, g, rfl, rfl, fr8.trans (Fr.new ng), .tuple [], .tup (SqT.of upd_same) .nil, rfl⟩⟩
      · refine ⟨_, rfl, tc, [.ref ta, .ref tb], rfl, SqT.of ec8, fun z => absurd z.2 (show ¬ (1 : Nat) = 2 by decide), fun _ g ng => q2 _ _ _ ⟨at_, g, rfl, rfl, fr8.trans (Fr.new ng), .tuple [dPair "deed" w2], .tup (SqT.of upd_same) (.cons (.tup (SqT.of (same_new ng _ _ ea8)) (.cons (.str _) (.cons (.str _) .nil))) .nil), ?_⟩⟩
        show ((PyData.canLay0 (dPair "deed" w2) && true) && true) = true
        rw [l2]
        rfl
      · refine ⟨_, rfl, tc, [.ref ta, .ref tb], rfl, SqT.of ec8, fun _ => q2 _ _ _ ⟨at_, tc, rfl, rfl, fr8, .tuple [dPair "deed" w2, dPair "house" w3], .tup (SqT.of ec8) (.cons da (.cons db .nil)), ?_⟩, fun z => absurd ⟨rfl, rfl⟩ z⟩
        show ((PyData.canLay0 (dPair "deed" w2) && (PyData.canLay0 (dPair "house" w3) && true)) && true) = true
        rw [l2, l3]
        rfl
    · obtain ⟨at_, g, rfl, rfl, f6, hg⟩ := hv
      have eD6 := f6 _ _ nDp eD3
      have et6 := f6 _ _ nt1p et3
      have el6 := f6 _ _ nl1p el3
      dsimp only
      refine st_seq (asg_lst ?_)
      refine mk0_cons (K := K) fun a0 G0 s0 i0 => ?_
      refine mk0_cons (K := K) fun a1 G1 s1 i1 => ?_
      refine mk0_cons (K := K) fun a2 G2 s2 i2 => ?_
      refine one_cons (K := K) (val_var rfl) fun a3 G3 s3 i3 => ?_
      refine one_cons (K := K) (val_var rfl) fun a4 G4 s4 i4 => ?_
      refine one_cons (K := K) (val_var rfl) fun a5 G5 s5 i5 => ?_
      refine one_cons (K := K) (val_var rfl) fun a6 G6 s6 i6 => ?_
      refine one_cons (K := K) (val_var rfl) fun a7 G7 s7 i7 => ?_
      refine one_cons (K := K) (val_var rfl) fun a8 G8 s8 i8 => ?_
      refine nil_of ⟨(show 9 ≤ sizeLine by decide), fun L1 nL1 => ?_⟩
      have b8 : Same H4 G8 := s0.trans (s1.trans (s2.trans (s3.trans (s4.trans (s5.trans (s6.trans (s7.trans s8)))))))
      have eL1 : (upd G8 L1 (.lst [.ref a0, .ref a1, .ref a2, .ref a3, .ref a4, .ref a5, .ref a6, .ref a7, .ref a8])) L1 = some (.lst [.ref a0, .ref a1, .ref a2, .ref a3, .ref a4, .ref a5, .ref a6, .ref a7, .ref a8]) := upd_same
      have b9 : Same H4 (upd G8 L1 (.lst [.ref a0, .ref a1, .ref a2, .ref a3, .ref a4, .ref a5, .ref a6, .ref a7, .ref a8])) := b8.trans (same_new nL1)
      have c9 : Same G8 (upd G8 L1 (.lst [.ref a0, .ref a1, .ref a2, .ref a3, .ref a4, .ref a5, .ref a6, .ref a7, .ref a8])) := same_new nL1
      generalize upd G8 L1 (.lst [.ref a0, .ref a1, .ref a2, .ref a3, .ref a4, .ref a5, .ref a6, .ref a7, .ref a8]) = F0 at eL1 b9 c9
      dsimp only
      refine st_seq ?_
      refine ⟨_, rfl, lst_of ?_⟩
      have eD7 := b9 _ _ eD6
      refine one_cons (K := K) (val_ix (K := K) rfl eD7 rfl) fun a9 G9 s9 i9 => ?_
      refine one_cons (K := K) (val_ix (K := K) rfl (s9 _ _ eD7) rfl) fun a10 G10 s10 i10 => ?_
      refine one_cons (K := K) (val_ix (K := K) rfl (s10 _ _ (s9 _ _ eD7)) rfl) fun a11 G11 s11 i11 => ?_
      refine one_cons (K := K) (val_var rfl) fun a12 G12 s12 i12 => ?_
      refine one_cons (K := K) (val_var rfl) fun a13 G13 s13 i13 => ?_
      refine one_cons (K := K) (val_var rfl) fun a14 G14 s14 i14 => ?_
      refine nil_of ⟨(show 6 ≤ sizeLine by decide), fun L2 nL2 => ?_⟩
      have b14 : Same F0 G14 := s9.trans (s10.trans (s11.trans (s12.trans (s13.trans s14))))
      have eA : (upd G14 L2 (.lst [.ref a9, .ref a10, .ref a11, .ref a12, .ref a13, .ref a14])) L1 = some (.lst [.ref a0, .ref a1, .ref a2, .ref a3, .ref a4, .ref a5, .ref a6, .ref a7, .ref a8]) := same_new nL2 _ _ (b14 _ _ eL1)
      have eB : (upd G14 L2 (.lst [.ref a9, .ref a10, .ref a11, .ref a12, .ref a13, .ref a14])) L2 = some (.lst [.ref a9, .ref a10, .ref a11, .ref a12, .ref a13, .ref a14]) := upd_same
      have sA : Same G14 (upd G14 L2 (.lst [.ref a9, .ref a10, .ref a11, .ref a12, .ref a13, .ref a14])) := same_new nL2
      generalize upd G14 L2 (.lst [.ref a9, .ref a10, .ref a11, .ref a12, .ref a13, .ref a14]) = F3 at eA eB sA
      refine ⟨L1, L2, _, _, rfl, rfl, eA, eB, (show 9 + 6 ≤ sizeLine by decide), fun L3 nL3 => ?_⟩
      obtain ⟨es, hes⟩ : ∃ es : List Addr, es = [a0, a1, a2, a3, a4, a5, a6, a7, a8, a9, a10, a11, a12, a13, a14] := ⟨_, rfl⟩
      have eL3 : (upd F3 L3 (.lst ([.ref a0, .ref a1, .ref a2, .ref a3, .ref a4, .ref a5, .ref a6, .ref a7, .ref a8] ++ [.ref a9, .ref a10, .ref a11, .ref a12, .ref a13, .ref a14]))) L3 = some (.lst (es.map V.ref)) := by
        rw [hes]
        exact upd_same
      have t14 : Same G14 (upd F3 L3 (.lst ([.ref a0, .ref a1, .ref a2, .ref a3, .ref a4, .ref a5, .ref a6, .ref a7, .ref a8] ++ [.ref a9, .ref a10, .ref a11, .ref a12, .ref a13, .ref a14]))) := sA.trans (same_new nL3)
      generalize upd F3 L3 (.lst ([.ref a0, .ref a1, .ref a2, .ref a3, .ref a4, .ref a5, .ref a6, .ref a7, .ref a8] ++ [.ref a9, .ref a10, .ref a11, .ref a12, .ref a13, .ref a14])) = F1 at eL3 t14
      have tF : Same F0 F1 := b14.trans t14
      have t8 : Same G8 F1 := c9.trans tF
      have t7 := s8.trans t8
      have t6 := s7.trans t7
      have t5 := s6.trans t6
      have t4 := s5.trans t5
      have t3 := s4.trans t4
      have t2 := s3.trans t3
      have t1' := s2.trans t2
      have t0 := s1.trans t1'
      have t13 := s14.trans t14
      have t12 := s13.trans t13
      have t11 := s12.trans t12
      have t10 := s11.trans t11
      have t9 := s10.trans t10
      have its : Paired (It K F1) es (items odd (.ref g) w0 w1 w2 at_) := by
        rw [hes]
        exact .cons (i0.same t0) (.cons (i1.same t1') (.cons (i2.same t2) (.cons (i3.same t3) (.cons (i4.same t4) (.cons (i5.same t5) (.cons (i6.same t6) (.cons (i7.same t7) (.cons (i8.same t8) (.cons (i9.same t9) (.cons (i10.same t10) (.cons (i11.same t11) (.cons (i12.same t12) (.cons (i13.same t13) (.cons (i14.same t14) .nil))))))))))))))
      have sH : Same H4 F1 := b9.trans tF
      dsimp only [gName]
      refine st_seq (asg_inner (kss := kindIx) (by decide) (by decide) fun ps KL F2 sk pk eK => ?_)
      have its2 := its_same sk its
      have eL4 := sk _ _ eL3
      dsimp only
      refine st_seq ?_
      refine ⟨_, rfl, L3, es.map V.ref, rfl, SqL.of eL4, ?_⟩
      refine for_enum (K := K) (xs := es.map V.ref) (fun i σ H' => (∃ y8 y9, σ = [some (.ref a), some (.ref p), some (.ref D), some odd, some (.int at_), some (.ref g), some (.ref L3), some (.ref KL), y8, y9, none, none, none]) ∧ Same F2 H') ⟨⟨none, none, rfl⟩, Same.refl _⟩ (fun i σ H' _ hP => ?_) (fun i x Tt σ H' hx hP nT => ?_) (fun σ H' hP => ?_)
      · exact SqL.of (hP.2 _ _ eL4)
      · obtain ⟨⟨y8, y9, rfl⟩, sm⟩ := hP
        obtain ⟨e, he, rfl⟩ := refs_at hx
        obtain ⟨it, hit, hIt⟩ := paired_at its2 he
        have hn : names[i]? = some it.1 := by
          rw [← items_names odd (.ref g) w0 w1 w2 at_, List.getElem?_map, hit]
          rfl
        have hi15 : i < 15 := (List.getElem?_eq_some_iff.mp hn).1
        obtain ⟨dO, xv⟩ := (hIt.same sm).exv
        have sT : Same H' (upd H' Tt (.tup [.int (i : Nat), .ref e])) := same_new nT
        refine ⟨Tt, _, rfl, SqT.of upd_same, rfl, _, _, rfl, _, _, rfl, rfl, ?_⟩
        generalize upd H' Tt (.tup [.int (i : Nat), .ref e]) = H0 at sT
        refine ⟨_, rfl, e, dO, i, it.1, rfl, hn, xv.same sT, fun p1 Hm np1 sm1 e1 => ?_⟩
        refine ⟨15, rfl, by decide, by decide, fun D1 nD1 => ?_⟩
        refine lc_range (lo := 0) (n := 15) (fun j H9 => Same Hm H9 ∧ H9 D1 = some (.lst (((List.range j).map fun q => sameB q i).map V.bl))) ⟨same_new nD1, upd_same⟩ (fun j H9 hj hP => ?_) (fun H9 hP => ?_)
        · refine ⟨rfl, ?_⟩
          refine ⟨_, rfl, _, rfl, rfl, _, hP.2, ?_, same_mut hP.1 nD1, ?_⟩
          · rw [List.length_map, List.length_map, List.length_range]
            exact small1000 (by omega)
          · rw [same_eq, upd_same, List.range_succ, List.map_append, List.map_append]
            rfl
        · obtain ⟨sm2, eD1⟩ := hP
          refine ⟨.list (((List.range 15).map fun q => sameB q i).map PyData.bool), .list (((List.range 15).map fun q => sameB q i).map PyData.bool), .lst (SqL.of (sm2 _ _ e1)) (dp_bools _), .lst (SqL.of eD1) (dp_bools _), shape_bools _, shape_bools _, _, rfl, ?_⟩
          rw [eq_bools]
          refine iteF ?_
          have s9 : Same H' H9 := sT.trans (sm1.trans sm2)
          refine ⟨_, rfl, e, dO, i, it.1, rfl, hn, xv.same s9, fun p3 Hk np3 sm3 e3 => ?_⟩
          refine ⟨9, rfl, by decide, by decide, fun D3 nD3 => ?_⟩
          have sK : Same F2 Hk := sm.trans (s9.trans sm3)
          obtain ⟨pi, hpi, epi⟩ := paired_at2 (ints_same sK pk) (kind_at hi15)
          have eKk := sK _ _ eK
          have atK : atI (ps.map V.ref) ((i : Nat) : Int) = some (.ref pi) := atI_nat (by rw [List.getElem?_map, hpi]; rfl)
          refine lc_range (lo := 0) (n := 9) (fun j H8 => Same Hk H8 ∧ H8 D3 = some (.lst (((List.range j).map fun q => kindB i q).map V.bl))) ⟨same_new nD3, upd_same⟩ (fun j H8 hj hP => ?_) (fun H8 hP => ?_)
          · refine ⟨rfl, ?_⟩
            refine ⟨_, rfl, _, rfl, _, rfl, KL, ps.map V.ref, _, .ref pi, rfl, rfl, SqL.of (hP.1 _ _ eKk), atK, pi, _, rfl, .inl (SqL.of (hP.1 _ _ epi)), rfl, flat_ints _, _, hP.2, ?_, same_mut hP.1 nD3, ?_⟩
            · rw [List.length_map, List.length_map, List.length_range]
              exact small1000 (by omega)
            · rw [upd_same, List.range_succ, List.map_append, List.map_append]
              show some (HO.lst (_ ++ [V.bl (inV (.int (0 + (j : Int))) ((kindIx.getD i []).map V.int))])) = _
              rw [in_ints, Int.zero_add]
              rfl
          · obtain ⟨sm4, eD3⟩ := hP
            refine ⟨.list (((List.range 9).map fun q => kindB i q).map PyData.bool), .list (((List.range 9).map fun q => kindB i q).map PyData.bool), .lst (SqL.of (sm4 _ _ e3)) (dp_bools _), .lst (SqL.of eD3) (dp_bools _), shape_bools _, shape_bools _, _, rfl, ?_⟩
            rw [eq_bools]
            exact iteF ⟨⟨_, _, rfl⟩, sm.trans (s9.trans (sm3.trans sm4))⟩
      · obtain ⟨⟨y8, y9, rfl⟩, sm⟩ := hP
        subst hes
        have sP : Same F1 H' := sk.trans sm
        have n : ∀ {x : Str}, x ∈ names → IsEx K (cl K x) := fun h => Z.ex _ h
        have f3 : Fld K H' a3 "name" odd := fld_of (n (by decide +kernel)) Z.o_Taken.noN (i3.same (t3.trans sP))
        have f4' : Fld K H' a4 "name" odd := fld_of (n (by decide +kernel)) Z.o_NoDeed.noN (i4.same (t4.trans sP))
        have f5' : Fld K H' a5 "name" odd := fld_of (n (by decide +kernel)) Z.o_NoName.noN (i5.same (t5.trans sP))
        have f6' : Fld K H' a6 "name" odd := fld_of (n (by decide +kernel)) Z.o_NoHouse.noN (i6.same (t6.trans sP))
        have f7' : Fld K H' a7 "name" odd := fld_of (n (by decide +kernel)) Z.o_NoTable.noN (i7.same (t7.trans sP))
        have f8' : Fld K H' a8 "key" odd := fld_of (n (by decide +kernel)) Z.o_NoRow.noN (i8.same (t8.trans sP))
        have f9' : Fld K H' a9 "key" (.str w0) := fld_of (n (by decide +kernel)) Z.o_Late.noN (i9.same (t9.trans sP))
        have f10' : Fld K H' a10 "who" (.str w1) := fld_of (n (by decide +kernel)) Z.o_Waits.noN (i10.same (t10.trans sP))
        have f11' : Fld K H' a11 "name" (.str w2) := fld_of (n (by decide +kernel)) Z.o_Looked.noN (i11.same (t11.trans sP))
        have f12' : Fld K H' a12 "number" odd := fld_of (n (by decide +kernel)) Z.o_NoNumber.noN (i12.same (t12.trans sP))
        have f13' : Fld K H' a13 "by" (.ref g) := fld_of (n (by decide +kernel)) Z.o_Stopped.noN (i13.same (t13.trans sP))
        have f14' : Fld K H' a14 "row" (.int at_) := fld_of (n (by decide +kernel)) Z.o_NoText.noN (i14.same (t14.trans sP))
        have eL5 : H' L3 = some (.lst [.ref a0, .ref a1, .ref a2, .ref a3, .ref a4, .ref a5, .ref a6, .ref a7, .ref a8, .ref a9, .ref a10, .ref a11, .ref a12, .ref a13, .ref a14]) := sm _ _ eL4
        dsimp only
        refine st_seq ?_
        refine ⟨_, rfl, 3, rfl, 8, rfl, L3, _, rfl, SqL.of eL5, fun S nS => ?_⟩
        have eS : (upd H' S (.lst (cutV [.ref a0, .ref a1, .ref a2, .ref a3, .ref a4, .ref a5, .ref a6, .ref a7, .ref a8, .ref a9, .ref a10, .ref a11, .ref a12, .ref a13, .ref a14] (some 3) (some 8)))) S = some (.lst [.ref a3, .ref a4, .ref a5, .ref a6, .ref a7]) := upd_same
        have sS : Same H' (upd H' S (.lst (cutV [.ref a0, .ref a1, .ref a2, .ref a3, .ref a4, .ref a5, .ref a6, .ref a7, .ref a8, .ref a9, .ref a10, .ref a11, .ref a12, .ref a13, .ref a14] (some 3) (some 8)))) := same_new nS
        generalize upd H' S (.lst (cutV [.ref a0, .ref a1, .ref a2, .ref a3, .ref a4, .ref a5, .ref a6, .ref a7, .ref a8, .ref a9, .ref a10, .ref a11, .ref a12, .ref a13, .ref a14] (some 3) (some 8))) = Hs at eS sS
        refine ⟨S, rfl, ⟨_, SqL.of eS⟩, fun D2 nD2 => ?_⟩
        refine lc_list (K := K) (a := S) (xs := [.ref a3, .ref a4, .ref a5, .ref a6, .ref a7]) (fun j H9 => Same Hs H9 ∧ H9 D2 = some (.lst (List.replicate j odd))) ⟨same_new nD2, upd_same⟩ (fun j H9 _ hP => SqL.of (hP.1 _ _ eS)) (fun j v H9 hv hP => ?_) (fun H9 hP => ?_)
        · have fv : ∃ e, v = .ref e ∧ Fld K H' e "name" odd := by
            match j, hv with
            | 0, hv => exact ⟨a3, (Option.some.inj hv).symm, f3⟩
            | 1, hv => exact ⟨a4, (Option.some.inj hv).symm, f4'⟩
            | 2, hv => exact ⟨a5, (Option.some.inj hv).symm, f5'⟩
            | 3, hv => exact ⟨a6, (Option.some.inj hv).symm, f6'⟩
            | 4, hv => exact ⟨a7, (Option.some.inj hv).symm, f7'⟩
            | n + 5, hv => simp at hv
          have hj5 : j < 5 := (List.getElem?_eq_some_iff.mp hv).1
          obtain ⟨e, rfl, ff⟩ := fv
          refine ⟨rfl, ?_⟩
          obtain ⟨C, dx, fs, h1x, h2x, h3x, h4x, h5x⟩ := ff.same (sS.trans hP.1)
          refine ⟨_, rfl, e, C, dx, fs, odd, rfl, h1x, h2x, h3x, h4x, h5x, _, hP.2, ?_, same_mut hP.1 nD2, ?_⟩
          · rw [List.length_replicate]
            exact small1000 (by omega)
          · rw [upd_same, List.replicate_succ']
        · obtain ⟨sm2, eD2⟩ := hP
          have s9 : Same H' H9 := sS.trans sm2
          refine lst_of ?_
          refine cons_val (val_xv (K := K) (val_ix (K := K) rfl (s9 _ _ eL5) rfl) (f8'.same s9)) ?_
          refine cons_val (val_xv (K := K) (val_ix (K := K) rfl (s9 _ _ eL5) rfl) (f12'.same s9)) ?_
          refine nil_of ⟨(show 2 ≤ sizeLine by decide), fun B nB => ?_⟩
          have eX : (upd H9 B (.lst [odd, odd])) D2 = some (.lst (List.replicate 5 odd)) := same_new nB _ _ eD2
          have eY : (upd H9 B (.lst [odd, odd])) B = some (.lst [odd, odd]) := upd_same
          have sB : Same H' (upd H9 B (.lst [odd, odd])) := s9.trans (same_new nB)
          generalize upd H9 B (.lst [odd, odd]) = Hb at eX eY sB
          refine ⟨D2, B, _, _, rfl, rfl, eX, eY, (show 5 + 2 ≤ sizeLine by decide), fun Hd nHd => ?_⟩
          have eH : (upd Hb Hd (.lst (List.replicate 5 odd ++ [odd, odd]))) Hd = some (.lst [odd, odd, odd, odd, odd, odd, odd]) := upd_same
          have sZ : Same H' (upd Hb Hd (.lst (List.replicate 5 odd ++ [odd, odd]))) := sB.trans (same_new nHd)
          generalize upd Hb Hd (.lst (List.replicate 5 odd ++ [odd, odd])) = Hz at eH sZ
          have s4z : Same H4 Hz := sH.trans (sP.trans sZ)
          obtain ⟨dd, hdp, ho⟩ := odd_data (K := K) h0 h1 (s4z _ _ et6) (s4z _ _ el6) hodd
          obtain ⟨q1, q2, q3, q4⟩ := seven ho
          dsimp only [gName]
          refine st_seq ?_
          refine ⟨_, rfl, Hd, .list [dd, dd, dd, dd, dd, dd, dd], rfl, .lst (SqL.of eH) (.cons hdp (.cons hdp (.cons hdp (.cons hdp (.cons hdp (.cons hdp (.cons hdp .nil))))))), q1, q2, q3, q4, ?_⟩
          refine ⟨_, rfl, (show 1 ≤ sizeLine by decide), fun r nr => ?_⟩
          have er : (upd Hz r (.lst [odd])) r = some (.lst [odd]) := upd_same
          have sr : Same Hz (upd Hz r (.lst [odd])) := same_new nr
          generalize upd Hz r (.lst [odd]) = Hr at er sr
          refine ⟨r, 7, [odd], rfl, rfl, er, by decide, by decide, (show 1 * 7 ≤ sizeLine by decide), fun r2 nr2 => ?_⟩
          have er2 : (upd Hr r2 (.lst (List.replicate (7 : Int).toNat [odd]).flatten)) r2 = some (.lst [odd, odd, odd, odd, odd, odd, odd]) := upd_same
          have sr2 : Same Hz (upd Hr r2 (.lst (List.replicate (7 : Int).toNat [odd]).flatten)) := sr.trans (same_new nr2)
          generalize upd Hr r2 (.lst (List.replicate (7 : Int).toNat [odd]).flatten) = Hq at er2 sr2
          have hdq := dp_same (K := K) sr2 hdp
          refine ⟨r2, .list [dd, dd, dd, dd, dd, dd, dd], rfl, .lst (SqL.of er2) (.cons hdq (.cons hdq (.cons hdq (.cons hdq (.cons hdq (.cons hdq (.cons hdq .nil))))))), q1, q2, q3, q4, ?_⟩
          refine ⟨rfl, _, rfl, ?_⟩
          rw [dec_refl]
          refine iteF ?_
          have sq : Same H' Hq := sZ.trans sr2
          have eLq := sq _ _ eL5
          have eDq := (s4z.trans sr2) _ _ eD6
          obtain ⟨dg, hdg, hsh⟩ := hg
          have hdg2 := dp_same (K := K) (s4z.trans sr2) hdg
          have nn : ∀ u : V, (!decide (u = u)) = false := fun u => by rw [dec_refl]; rfl
          refine ans_or (b := false) (ans_ne (val_xv (K := K) (val_ix (K := K) rfl eLq rfl) (f9'.same sq)) (val_ix (K := K) rfl eDq rfl) rfl (nn _)) (ans_ne (val_xv (K := K) (val_ix (K := K) rfl eLq rfl) (f10'.same sq)) (val_ix (K := K) rfl eDq rfl) rfl (nn _)) _ ?_
          refine iteF ?_
          refine val_op (z := .bl true) (val_xv (K := K) (val_ix (K := K) rfl eLq rfl) (f11'.same sq)) (val_ix (K := K) rfl eDq rfl) (fun Q' q' => ⟨rfl, by rw [dec_refl]; exact q'⟩) _ ⟨true, rfl, iteT ?_⟩
          refine val_op (z := .bl true) (val_xv (K := K) (val_ix (K := K) rfl eLq rfl) (f13'.same sq)) (val_var rfl) (fun Q' q' => ⟨dg, dg, hdg2, hdg2, hsh, hsh, by rw [SeqAt.eqv_refl _ (SeqAt.canLay_of_shaped hsh)]; exact q'⟩) _ ⟨true, rfl, iteT ?_⟩
          exact val_op (z := .bl true) (val_xv (K := K) (val_ix (K := K) rfl eLq rfl) (f14'.same sq)) (val_var rfl) (fun Q' q' => ⟨rfl, by rw [dec_refl]; exact q'⟩) _ (q _)
end
/-! ### the head -/
theorem def0_mk {K : PySem.W.Frag} {h : Heap} {mg : Str → Option Value} {x : Str} {st : Stmt} {ps : List Str} (X : K.In h) (G : h.Ns mainGlobals mg) (g : (He.Fa.glo x).ok K = true)
    (F : ∃ fd, FunD K x x (defArgs st) (defBody st) (defScope st) [] [] (He.ga K x) fd)
    (hb : ∀ (kV doc pm : Value) (an : Option Addr) (cdv ct : Value) (us : List Value), us.length = ps.length → bindArgs (PySem.W.fnOf x x (defArgs st) (defBody st) (defScope st) .none kV doc pm an cdv ct) ⟨us, []⟩ = pure (ps.zip us)) : Def0 K mg x st ps := by
  obtain ⟨fd, F⟩ := F
  exact ⟨_, fd, F, He.glo_ok X G g, F.bindsN hb⟩
theorem defK_mk {K : PySem.W.Frag} {h : Heap} {mg : Str → Option Value} {x : Str} {st : Stmt} {ps : List Str} {n : Nat} {y : Str} {v : V} (X : K.In h) (G : h.Ns mainGlobals mg) (g : (He.Fa.glo x).ok K = true)
    (F : ∃ fd, FunD K x x (defArgs st) (defBody st) (defScope st) [] [(y, v)] (He.ga K x) fd) (hn : n + 1 = ps.length)
    (hb : ∀ (D : Addr) (doc pm : Value) (an : Option Addr) (cdv ct : Value) (us ks : List Value), us.length = n → ks.length = 1 →
      KwChain D (([y] : List Str).zip ks) (bindArgs (PySem.W.fnOf x x (defArgs st) (defBody st) (defScope st) .none (.ref D) doc pm an cdv ct) ⟨us, []⟩) (ps.zip (us ++ ks)))
    (hk : ∀ (kV doc pm : Value) (an : Option Addr) (cdv ct : Value) (us ws : List Value), us.length = n → ws.length = 1 →
      bindArgs (PySem.W.fnOf x x (defArgs st) (defBody st) (defScope st) .none kV doc pm an cdv ct) ⟨us, ([y] : List Str).zip ws⟩ = pure (ps.zip (us ++ ws))) : DefK K mg x st ps n [(y, v)] := by
  obtain ⟨fd, F⟩ := F
  refine ⟨_, fd, F, He.glo_ok X G g, F.binds0 n (by simp) hn hb, fun us ws => us ++ ws, ⟨fun s us ws _ l1 l2 => ?_, fun r1 r2 => r1.append r2⟩⟩
  obtain ⟨oc, od, dV, kV, doc, pm, an, cdv, ct, osl, rfl, lk, hcd, hD, hK⟩ := F.ex
  rcases hD with ⟨_, rfl⟩ | ⟨e, _⟩
  · exact .of_eq (hk kV doc pm an cdv ct us ws l1 l2)
  · exact absurd rfl e
theorem int_g {K : PySem.W.Frag} {h : Heap} {mg : Str → Option Value} {x : Str} {i : Int} (X : K.In h) (G : h.Ns mainGlobals mg) (g : (He.Fa.int x i).ok K = true) : ∃ u, mg x = some u ∧ RelV (.int i) u := by
  obtain ⟨t, e⟩ := He.int_ok X G g
  exact ⟨_, e, t, rfl⟩
def d_l_hand : He.DefD := ⟨("_law_hand", none), "_law_hand", "_law_hand", defArgs s_l_hand, defBody s_l_hand, defScope s_l_hand, [], []⟩
def d_l_take : He.DefD := ⟨("_law_take", none), "_law_take", "_law_take", defArgs s_l_take, defBody s_l_take, defScope s_l_take, [], []⟩
def d_l_of : He.DefD := ⟨("_law_of", none), "_law_of", "_law_of", defArgs s_l_of, defBody s_l_of, defScope s_l_of, [], []⟩
def d_l_marks : He.DefD := ⟨("_law_marks", none), "_law_marks", "_law_marks", defArgs s_l_marks, defBody s_l_marks, defScope s_l_marks, [], []⟩
def d_l_kinds : He.DefD := ⟨("_law_kinds", none), "_law_kinds", "_law_kinds", defArgs s_l_kinds, defBody s_l_kinds, defScope s_l_kinds, [], []⟩
def d_l_word : He.DefD := ⟨("_law_word", none), "_law_word", "_law_word", defArgs s_l_word, defBody s_l_word, defScope s_l_word, [], []⟩
def d_law : He.DefD := ⟨("law", none), "law", "law", defArgs s_law, defBody s_law, defScope s_law, [], []⟩
def fn : List He.DefD := [d_l_hand, d_l_take, d_l_of, d_l_marks, d_l_kinds, d_l_word, d_law]
/-! ### the head: what the top left, told of K -/
section
open PySem.W
def gB (K : Frag) : Bool := He.eqO (specialIn K (.builtin "object.__class__") "__get__") (some (some (.builtin "getset_descriptor.__get__"))) && decide (takesIn K (.builtin "object.__class__") = some true)
def cB (K : Frag) (x : Str) (bmB : List Value) (newId : String) : Bool := excInitIn K (cl K x) bmB newId && (hasDictIn K (cl K x) && (keepIn K (.ref (cl K x)) && (He.eqO (findIn K (.ref (cl K x)) "__getattribute__") (some (some (.builtin "BaseException.__getattribute__"))) && (He.eqO (findIn K (.ref (cl K x)) "__getattr__") (some none) &&
  (decide (subIn K (.ref (cl K x)) (.type "BaseException") = some true) && (decide (typeIn K (.ref (cl K x)) = some (.type "type")) && (He.eqO (findIn K (.ref (cl K x)) "__setattr__") (some (some (.builtin "object.__setattr__"))) && (He.eqO (findIn K (.ref (cl K x)) "__class__") (some (some (.builtin "object.__class__"))) && decide (mroIn K (cl K x) (.type "object") = some true)))))))))
def oB (K : Frag) (x fl : Str) : Bool := He.eqO (findIn K (.ref (cl K x)) fl) (some none) && (He.eqO (findIn K (.ref (cl K x)) "__init__") (some (some (.ref (He.ma K (cl K x) "__init__")))) && decide (typeIn K (.ref (He.ma K (cl K x) "__init__")) = some (.type "function")))
def kB (K : Frag) : Bool := (List.range 15).all fun i => ((List.range 15).all fun j => decide (kitOne K (.ref (cl K (names.getD i ""))) (.ref (cl K (names.getD j ""))) = some (sameB j i))) && (List.range 9).all fun j => decide (kitOne K (.ref (cl K (names.getD i ""))) (.type (kindNames.getD j "")) = some (kindB i j))
theorem ext_of {K : Frag} {x : Str} {bmB bmF : List Value} {B newId initId : String} (g : gB K = true) (h : cB K x bmB newId = true) (fb : ExcBaseFacts B newId initId bmF) (ab : PySem.OneX.Above B bmB) (ps : ∀ self, refuseLoop self "__setattr__" bmB = pure ()) (ob : bmB.contains (.type "object") = true) : PySem.OneX.ExT K (cl K x) B newId initId bmF bmB := by
  obtain ⟨g1, g2⟩ := He.ba g
  obtain ⟨h1, h⟩ := He.ba h
  obtain ⟨h2, h⟩ := He.ba h
  obtain ⟨h3, h⟩ := He.ba h
  obtain ⟨h4, h⟩ := He.ba h
  obtain ⟨h5, h⟩ := He.ba h
  obtain ⟨h6, h⟩ := He.ba h
  obtain ⟨h7, h⟩ := He.ba h
  obtain ⟨h8, h⟩ := He.ba h
  obtain ⟨h9, h10⟩ := He.ba h
  exact ⟨fb, ab, ps, ob, h1, h2, h3, He.eqO_ok h4, He.eqO_ok h5, of_decide_eq_true h6, of_decide_eq_true h7, He.eqO_ok h8, He.eqO_ok h9, of_decide_eq_true h10, He.eqO_ok g1, of_decide_eq_true g2⟩
theorem pV : ∀ self, refuseLoop self "__setattr__" mV = pure () := fun self => by kernel_rfl
theorem pR : ∀ self, refuseLoop self "__setattr__" mR = pure () := fun self => by kernel_rfl
theorem pL : ∀ self, refuseLoop self "__setattr__" mL = pure () := fun self => by kernel_rfl
theorem pK : ∀ self, refuseLoop self "__setattr__" mK = pure () := fun self => by kernel_rfl
theorem pO : ∀ self, refuseLoop self "__setattr__" mO = pure () := fun self => by kernel_rfl
theorem aV : PySem.OneX.Above "ValueError" mV := ⟨by decide +kernel, by decide +kernel, by decide +kernel⟩
theorem aR : PySem.OneX.Above "RuntimeError" mR := ⟨by decide +kernel, by decide +kernel, by decide +kernel⟩
theorem aL : PySem.OneX.Above "LookupError" mL := ⟨by decide +kernel, by decide +kernel, by decide +kernel⟩
theorem aK : PySem.OneX.Above "LookupError" mK := ⟨by decide +kernel, by decide +kernel, by decide +kernel⟩
theorem aO : PySem.OneX.Above "OverflowError" mO := ⟨by decide +kernel, by decide +kernel, by decide +kernel⟩
end
abbrev s_init_Taken : Stmt := inClass (top 4) 0
def d_init_Taken : He.DefD := ⟨("Taken", some "__init__"), "__init__", "Taken.__init__", defArgs s_init_Taken, defBody s_init_Taken, defScope s_init_Taken, [], []⟩
abbrev s_init_NoDeed : Stmt := inClass (top 5) 0
def d_init_NoDeed : He.DefD := ⟨("NoDeed", some "__init__"), "__init__", "NoDeed.__init__", defArgs s_init_NoDeed, defBody s_init_NoDeed, defScope s_init_NoDeed, [], []⟩
abbrev s_init_NoName : Stmt := inClass (top 6) 0
def d_init_NoName : He.DefD := ⟨("NoName", some "__init__"), "__init__", "NoName.__init__", defArgs s_init_NoName, defBody s_init_NoName, defScope s_init_NoName, [], []⟩
abbrev s_init_NoHouse : Stmt := inClass (top 7) 0
def d_init_NoHouse : He.DefD := ⟨("NoHouse", some "__init__"), "__init__", "NoHouse.__init__", defArgs s_init_NoHouse, defBody s_init_NoHouse, defScope s_init_NoHouse, [], []⟩
abbrev s_init_NoTable : Stmt := inClass (top 8) 0
def d_init_NoTable : He.DefD := ⟨("NoTable", some "__init__"), "__init__", "NoTable.__init__", defArgs s_init_NoTable, defBody s_init_NoTable, defScope s_init_NoTable, [], []⟩
abbrev s_init_NoRow : Stmt := inClass (top 9) 0
def d_init_NoRow : He.DefD := ⟨("NoRow", some "__init__"), "__init__", "NoRow.__init__", defArgs s_init_NoRow, defBody s_init_NoRow, defScope s_init_NoRow, [], []⟩
abbrev s_init_Late : Stmt := inClass (top 10) 0
def d_init_Late : He.DefD := ⟨("Late", some "__init__"), "__init__", "Late.__init__", defArgs s_init_Late, defBody s_init_Late, defScope s_init_Late, [], []⟩
abbrev s_init_Waits : Stmt := inClass (top 11) 0
def d_init_Waits : He.DefD := ⟨("Waits", some "__init__"), "__init__", "Waits.__init__", defArgs s_init_Waits, defBody s_init_Waits, defScope s_init_Waits, [], []⟩
abbrev s_init_Looked : Stmt := inClass (top 12) 0
def d_init_Looked : He.DefD := ⟨("Looked", some "__init__"), "__init__", "Looked.__init__", defArgs s_init_Looked, defBody s_init_Looked, defScope s_init_Looked, [], []⟩
abbrev s_init_NoNumber : Stmt := inClass (top 13) 0
def d_init_NoNumber : He.DefD := ⟨("NoNumber", some "__init__"), "__init__", "NoNumber.__init__", defArgs s_init_NoNumber, defBody s_init_NoNumber, defScope s_init_NoNumber, [], []⟩
abbrev s_init_Stopped : Stmt := inClass (top 14) 0
def d_init_Stopped : He.DefD := ⟨("Stopped", some "__init__"), "__init__", "Stopped.__init__", defArgs s_init_Stopped, defBody s_init_Stopped, defScope s_init_Stopped, [], []⟩
abbrev s_init_NoText : Stmt := inClass (top 15) 0
def d_init_NoText : He.DefD := ⟨("NoText", some "__init__"), "__init__", "NoText.__init__", defArgs s_init_NoText, defBody s_init_NoText, defScope s_init_NoText, [], []⟩
def fnX : List He.DefD := fn ++ [d_init_Taken, d_init_NoDeed, d_init_NoName, d_init_NoHouse, d_init_NoTable, d_init_NoRow, d_init_Late, d_init_Waits, d_init_Looked, d_init_NoNumber, d_init_Stopped, d_init_NoText]
def exB (K : PySem.W.Frag) : Bool := gB K && (kB K && ([cB K "NoStore" mV "ValueError.__new__", cB K "NoLine" mV "ValueError.__new__", cB K "Busy" mR "RuntimeError.__new__", cB K "Taken" mK "LookupError.__new__", cB K "NoDeed" mL "LookupError.__new__", cB K "NoName" mL "LookupError.__new__", cB K "NoHouse" mL "LookupError.__new__", cB K "NoTable" mL "LookupError.__new__", cB K "NoRow" mL "LookupError.__new__", cB K "Late" mR "RuntimeError.__new__", cB K "Waits" mR "RuntimeError.__new__", cB K "Looked" mR "RuntimeError.__new__", cB K "NoNumber" mV "ValueError.__new__", cB K "Stopped" mO "OverflowError.__new__", cB K "NoText" mV "ValueError.__new__", oB K "Taken" "name", oB K "NoDeed" "name", oB K "NoName" "name", oB K "NoHouse" "name", oB K "NoTable" "name", oB K "NoRow" "key", oB K "Late" "key", oB K "Waits" "who", oB K "Looked" "name", oB K "NoNumber" "number", oB K "Stopped" "by", oB K "NoText" "row"].all id && (PySem.W.excIn K (cl K "NoStore") mV "ValueError.__new__" && (PySem.W.excIn K (cl K "NoLine") mV "ValueError.__new__" && PySem.W.excIn K (cl K "Busy") mR "RuntimeError.__new__"))))
theorem one_of_name {K : PySem.W.Frag} {x qn : Str} {st : Stmt} (h : oB K x "name" = true) (F : ∃ fd, FunD K "__init__" qn (defArgs st) (defBody st) (defScope st) [] [] (He.ma K (cl K x) "__init__") fd) (hA : ∃ p1 p2, defArgs st = PySem.OneX_name.iA p1 p2) (hB : ∃ q1 q2 q3 q4, defBody st = PySem.OneX_name.iB q1 q2 q3 q4) (hS : defScope st = PySem.OneX_name.iS) : PySem.OneX_name.OneT K (cl K x) (He.ma K (cl K x) "__init__") qn := by
  obtain ⟨o1, h⟩ := He.ba h
  obtain ⟨o2, o3⟩ := He.ba h
  obtain ⟨fd, F⟩ := F
  obtain ⟨p1, p2, eA⟩ := hA
  obtain ⟨q1, q2, q3, q4, eB⟩ := hB
  obtain ⟨oc, od, dV, kV, doc, pm, an, cdv, ct, osl, rfl, lk, hcd, hD, _⟩ := F.ex
  rw [eA, eB, hS] at lk
  rcases hD with ⟨_, rfl⟩ | ⟨e, _⟩
  · exact ⟨He.eqO_ok o1, He.eqO_ok o2, of_decide_eq_true o3, ⟨oc, od, kV, doc, pm, an, cdv, ct, osl, p1, p2, q1, q2, q3, q4, lk, hcd⟩⟩
  · exact absurd rfl e
theorem one_of_key {K : PySem.W.Frag} {x qn : Str} {st : Stmt} (h : oB K x "key" = true) (F : ∃ fd, FunD K "__init__" qn (defArgs st) (defBody st) (defScope st) [] [] (He.ma K (cl K x) "__init__") fd) (hA : ∃ p1 p2, defArgs st = PySem.OneX_key.iA p1 p2) (hB : ∃ q1 q2 q3 q4, defBody st = PySem.OneX_key.iB q1 q2 q3 q4) (hS : defScope st = PySem.OneX_key.iS) : PySem.OneX_key.OneT K (cl K x) (He.ma K (cl K x) "__init__") qn := by
  obtain ⟨o1, h⟩ := He.ba h
  obtain ⟨o2, o3⟩ := He.ba h
  obtain ⟨fd, F⟩ := F
  obtain ⟨p1, p2, eA⟩ := hA
  obtain ⟨q1, q2, q3, q4, eB⟩ := hB
  obtain ⟨oc, od, dV, kV, doc, pm, an, cdv, ct, osl, rfl, lk, hcd, hD, _⟩ := F.ex
  rw [eA, eB, hS] at lk
  rcases hD with ⟨_, rfl⟩ | ⟨e, _⟩
  · exact ⟨He.eqO_ok o1, He.eqO_ok o2, of_decide_eq_true o3, ⟨oc, od, kV, doc, pm, an, cdv, ct, osl, p1, p2, q1, q2, q3, q4, lk, hcd⟩⟩
  · exact absurd rfl e
theorem one_of_who {K : PySem.W.Frag} {x qn : Str} {st : Stmt} (h : oB K x "who" = true) (F : ∃ fd, FunD K "__init__" qn (defArgs st) (defBody st) (defScope st) [] [] (He.ma K (cl K x) "__init__") fd) (hA : ∃ p1 p2, defArgs st = PySem.OneX_who.iA p1 p2) (hB : ∃ q1 q2 q3 q4, defBody st = PySem.OneX_who.iB q1 q2 q3 q4) (hS : defScope st = PySem.OneX_who.iS) : PySem.OneX_who.OneT K (cl K x) (He.ma K (cl K x) "__init__") qn := by
  obtain ⟨o1, h⟩ := He.ba h
  obtain ⟨o2, o3⟩ := He.ba h
  obtain ⟨fd, F⟩ := F
  obtain ⟨p1, p2, eA⟩ := hA
  obtain ⟨q1, q2, q3, q4, eB⟩ := hB
  obtain ⟨oc, od, dV, kV, doc, pm, an, cdv, ct, osl, rfl, lk, hcd, hD, _⟩ := F.ex
  rw [eA, eB, hS] at lk
  rcases hD with ⟨_, rfl⟩ | ⟨e, _⟩
  · exact ⟨He.eqO_ok o1, He.eqO_ok o2, of_decide_eq_true o3, ⟨oc, od, kV, doc, pm, an, cdv, ct, osl, p1, p2, q1, q2, q3, q4, lk, hcd⟩⟩
  · exact absurd rfl e
theorem one_of_number {K : PySem.W.Frag} {x qn : Str} {st : Stmt} (h : oB K x "number" = true) (F : ∃ fd, FunD K "__init__" qn (defArgs st) (defBody st) (defScope st) [] [] (He.ma K (cl K x) "__init__") fd) (hA : ∃ p1 p2, defArgs st = PySem.OneX_number.iA p1 p2) (hB : ∃ q1 q2 q3 q4, defBody st = PySem.OneX_number.iB q1 q2 q3 q4) (hS : defScope st = PySem.OneX_number.iS) : PySem.OneX_number.OneT K (cl K x) (He.ma K (cl K x) "__init__") qn := by
  obtain ⟨o1, h⟩ := He.ba h
  obtain ⟨o2, o3⟩ := He.ba h
  obtain ⟨fd, F⟩ := F
  obtain ⟨p1, p2, eA⟩ := hA
  obtain ⟨q1, q2, q3, q4, eB⟩ := hB
  obtain ⟨oc, od, dV, kV, doc, pm, an, cdv, ct, osl, rfl, lk, hcd, hD, _⟩ := F.ex
  rw [eA, eB, hS] at lk
  rcases hD with ⟨_, rfl⟩ | ⟨e, _⟩
  · exact ⟨He.eqO_ok o1, He.eqO_ok o2, of_decide_eq_true o3, ⟨oc, od, kV, doc, pm, an, cdv, ct, osl, p1, p2, q1, q2, q3, q4, lk, hcd⟩⟩
  · exact absurd rfl e
theorem one_of_by {K : PySem.W.Frag} {x qn : Str} {st : Stmt} (h : oB K x "by" = true) (F : ∃ fd, FunD K "__init__" qn (defArgs st) (defBody st) (defScope st) [] [] (He.ma K (cl K x) "__init__") fd) (hA : ∃ p1 p2, defArgs st = PySem.OneX_by.iA p1 p2) (hB : ∃ q1 q2 q3 q4, defBody st = PySem.OneX_by.iB q1 q2 q3 q4) (hS : defScope st = PySem.OneX_by.iS) : PySem.OneX_by.OneT K (cl K x) (He.ma K (cl K x) "__init__") qn := by
  obtain ⟨o1, h⟩ := He.ba h
  obtain ⟨o2, o3⟩ := He.ba h
  obtain ⟨fd, F⟩ := F
  obtain ⟨p1, p2, eA⟩ := hA
  obtain ⟨q1, q2, q3, q4, eB⟩ := hB
  obtain ⟨oc, od, dV, kV, doc, pm, an, cdv, ct, osl, rfl, lk, hcd, hD, _⟩ := F.ex
  rw [eA, eB, hS] at lk
  rcases hD with ⟨_, rfl⟩ | ⟨e, _⟩
  · exact ⟨He.eqO_ok o1, He.eqO_ok o2, of_decide_eq_true o3, ⟨oc, od, kV, doc, pm, an, cdv, ct, osl, p1, p2, q1, q2, q3, q4, lk, hcd⟩⟩
  · exact absurd rfl e
theorem one_of_row {K : PySem.W.Frag} {x qn : Str} {st : Stmt} (h : oB K x "row" = true) (F : ∃ fd, FunD K "__init__" qn (defArgs st) (defBody st) (defScope st) [] [] (He.ma K (cl K x) "__init__") fd) (hA : ∃ p1 p2, defArgs st = PySem.OneX_row.iA p1 p2) (hB : ∃ q1 q2 q3 q4, defBody st = PySem.OneX_row.iB q1 q2 q3 q4) (hS : defScope st = PySem.OneX_row.iS) : PySem.OneX_row.OneT K (cl K x) (He.ma K (cl K x) "__init__") qn := by
  obtain ⟨o1, h⟩ := He.ba h
  obtain ⟨o2, o3⟩ := He.ba h
  obtain ⟨fd, F⟩ := F
  obtain ⟨p1, p2, eA⟩ := hA
  obtain ⟨q1, q2, q3, q4, eB⟩ := hB
  obtain ⟨oc, od, dV, kV, doc, pm, an, cdv, ct, osl, rfl, lk, hcd, hD, _⟩ := F.ex
  rw [eA, eB, hS] at lk
  rcases hD with ⟨_, rfl⟩ | ⟨e, _⟩
  · exact ⟨He.eqO_ok o1, He.eqO_ok o2, of_decide_eq_true o3, ⟨oc, od, kV, doc, pm, an, cdv, ct, osl, p1, p2, q1, q2, q3, q4, lk, hcd⟩⟩
  · exact absurd rfl e
def fa : List He.Fa := [.glo "_law_hand", .glo "_law_take", .glo "_law_of", .glo "_law_marks", .glo "_law_kinds", .glo "_law_word", .glo "law", .glo "NoStore", .glo "NoLine", .glo "Busy", .glo "Taken", .glo "NoDeed", .glo "NoName", .glo "NoHouse", .glo "NoTable", .glo "NoRow", .glo "Late", .glo "Waits", .glo "Looked", .glo "NoNumber", .glo "Stopped", .glo "NoText", .keep "NoStore", .keep "NoLine", .keep "Busy"] ++ freeNames.map .free
abbrev R : PySem.W.OpenRow := PySem.W.OpenLaw.row PySem.Challenge.rw_roundstore_k01_refusals_made_by_hand
def hk : PySem.W.Hook where
  α := He.AlD × Bool
  obs := fun s => (He.obsDG 5 fa fnX s.heap.get?, exB (He.frG s.heap.get? (He.asD s.heap.get? 5)))
  val := fun _ => (He.valD fnX, true)
  says := fun _ h => ∃ K : PySem.W.Frag, K.In h ∧ He.SaysD fa fnX K ∧ exB K = true
  of := fun _ _ e => ⟨_, He.frG_in, congrArg (fun z : He.AlD × Bool => z.1) e, congrArg (fun z : He.AlD × Bool => z.2) e⟩
  keeps := fun _ _ _ ⟨K, hK, c, d⟩ k => ⟨K, PySem.W.Frag.In.keeps hK k, c, d⟩
def ob (s : PySem.W.SharedT) : He.AlD × Bool := (He.obsDG 5 fa fnX (HandSHeadRun.getT s), exB (He.frG (HandSHeadRun.getT s) (He.asD (HandSHeadRun.getT s) 5)))
theorem ob_eq (s : PySem.W.SharedT) : ob s = hk.obs s.abs := by
  have e : HandSHeadRun.getT s = s.abs.heap.get? := funext (HandSHeadRun.getT_eq s)
  unfold ob
  rw [e]
  rfl
theorem zx_of {K : PySem.W.Frag} {h : Heap} {mg : Str → Option Value} (X : K.In h) (G : h.Ns mainGlobals mg) (c : He.SaysD fa fnX K) (hx : exB K = true) : Zx K mg := by
  obtain ⟨hg, hx⟩ := He.ba hx
  obtain ⟨hk, hx⟩ := He.ba hx
  obtain ⟨hall, hx⟩ := He.ba hx
  obtain ⟨q0, hx⟩ := He.ba hx
  obtain ⟨q1, q2⟩ := He.ba hx
  simp only [List.all_cons, List.all_nil, id_eq, Bool.and_eq_true, and_true] at hall
  obtain ⟨c_NoStore, c_NoLine, c_Busy, c_Taken, c_NoDeed, c_NoName, c_NoHouse, c_NoTable, c_NoRow, c_Late, c_Waits, c_Looked, c_NoNumber, c_Stopped, c_NoText, o_Taken, o_NoDeed, o_NoName, o_NoHouse, o_NoTable, o_NoRow, o_Late, o_Waits, o_Looked, o_NoNumber, o_Stopped, o_NoText⟩ := hall
  have t_NoStore := ext_of (bmF := mV) (initId := "ValueError.__init__") hg c_NoStore PySem.F.excBase_ValueError aV pV (by decide +kernel)
  have t_NoLine := ext_of (bmF := mV) (initId := "ValueError.__init__") hg c_NoLine PySem.F.excBase_ValueError aV pV (by decide +kernel)
  have t_Busy := ext_of (bmF := mR) (initId := "RuntimeError.__init__") hg c_Busy PySem.F.excBase_RuntimeError aR pR (by decide +kernel)
  have t_Taken := ext_of (bmF := mL) (initId := "LookupError.__init__") hg c_Taken PySem.F.excBase_LookupError aK pK (by decide +kernel)
  have t_NoDeed := ext_of (bmF := mL) (initId := "LookupError.__init__") hg c_NoDeed PySem.F.excBase_LookupError aL pL (by decide +kernel)
  have t_NoName := ext_of (bmF := mL) (initId := "LookupError.__init__") hg c_NoName PySem.F.excBase_LookupError aL pL (by decide +kernel)
  have t_NoHouse := ext_of (bmF := mL) (initId := "LookupError.__init__") hg c_NoHouse PySem.F.excBase_LookupError aL pL (by decide +kernel)
  have t_NoTable := ext_of (bmF := mL) (initId := "LookupError.__init__") hg c_NoTable PySem.F.excBase_LookupError aL pL (by decide +kernel)
  have t_NoRow := ext_of (bmF := mL) (initId := "LookupError.__init__") hg c_NoRow PySem.F.excBase_LookupError aL pL (by decide +kernel)
  have t_Late := ext_of (bmF := mR) (initId := "RuntimeError.__init__") hg c_Late PySem.F.excBase_RuntimeError aR pR (by decide +kernel)
  have t_Waits := ext_of (bmF := mR) (initId := "RuntimeError.__init__") hg c_Waits PySem.F.excBase_RuntimeError aR pR (by decide +kernel)
  have t_Looked := ext_of (bmF := mR) (initId := "RuntimeError.__init__") hg c_Looked PySem.F.excBase_RuntimeError aR pR (by decide +kernel)
  have t_NoNumber := ext_of (bmF := mV) (initId := "ValueError.__init__") hg c_NoNumber PySem.F.excBase_ValueError aV pV (by decide +kernel)
  have t_Stopped := ext_of (bmF := mO) (initId := "OverflowError.__init__") hg c_Stopped PySem.F.excBase_OverflowError aO pO (by decide +kernel)
  have t_NoText := ext_of (bmF := mV) (initId := "ValueError.__init__") hg c_NoText PySem.F.excBase_ValueError aV pV (by decide +kernel)
  have hm : ∀ (i : Nat) (x : Str), names[i]? = some x → i < 15 ∧ names.getD i "" = x := fun i x e => ⟨(List.getElem?_eq_some_iff.mp e).1, by rw [List.getD_eq_getElem?_getD, e] <;> rfl⟩
  have hkk : ∀ i, i < 15 → (∀ j, j < 15 → PySem.W.kitOne K (.ref (cl K (names.getD i ""))) (.ref (cl K (names.getD j ""))) = some (sameB j i)) ∧ ∀ j, j < 9 → PySem.W.kitOne K (.ref (cl K (names.getD i ""))) (.type (kindNames.getD j "")) = some (kindB i j) := fun i hi => by
    obtain ⟨z1, z2⟩ := He.ba (List.all_eq_true.mp hk i (List.mem_range.mpr hi))
    exact ⟨fun j hj => of_decide_eq_true (List.all_eq_true.mp z1 j (List.mem_range.mpr hj)), fun j hj => of_decide_eq_true (List.all_eq_true.mp z2 j (List.mem_range.mpr hj))⟩
  refine {
    g_NoStore := He.glo_ok X G (c.fact 7 (f := .glo "NoStore") rfl)
    g_NoLine := He.glo_ok X G (c.fact 8 (f := .glo "NoLine") rfl)
    g_Busy := He.glo_ok X G (c.fact 9 (f := .glo "Busy") rfl)
    g_Taken := He.glo_ok X G (c.fact 10 (f := .glo "Taken") rfl)
    g_NoDeed := He.glo_ok X G (c.fact 11 (f := .glo "NoDeed") rfl)
    g_NoName := He.glo_ok X G (c.fact 12 (f := .glo "NoName") rfl)
    g_NoHouse := He.glo_ok X G (c.fact 13 (f := .glo "NoHouse") rfl)
    g_NoTable := He.glo_ok X G (c.fact 14 (f := .glo "NoTable") rfl)
    g_NoRow := He.glo_ok X G (c.fact 15 (f := .glo "NoRow") rfl)
    g_Late := He.glo_ok X G (c.fact 16 (f := .glo "Late") rfl)
    g_Waits := He.glo_ok X G (c.fact 17 (f := .glo "Waits") rfl)
    g_Looked := He.glo_ok X G (c.fact 18 (f := .glo "Looked") rfl)
    g_NoNumber := He.glo_ok X G (c.fact 19 (f := .glo "NoNumber") rfl)
    g_Stopped := He.glo_ok X G (c.fact 20 (f := .glo "Stopped") rfl)
    g_NoText := He.glo_ok X G (c.fact 21 (f := .glo "NoText") rfl)
    k_NoStore := He.keep_ok (c.fact 22 (f := .keep "NoStore") rfl)
    k_NoLine := He.keep_ok (c.fact 23 (f := .keep "NoLine") rfl)
    k_Busy := He.keep_ok (c.fact 24 (f := .keep "Busy") rfl)
    ex := fun x hx => ?ex
    m := fun i j x y h1 h2 => ?m
    d := fun i j x t h1 h2 => ?d
    q_NoStore := q0, q_NoLine := q1, q_Busy := q2
    t_Taken := t_Taken
    t_NoDeed := t_NoDeed
    t_NoName := t_NoName
    t_NoHouse := t_NoHouse
    t_NoTable := t_NoTable
    t_NoRow := t_NoRow
    t_Late := t_Late
    t_Waits := t_Waits
    t_Looked := t_Looked
    t_NoNumber := t_NoNumber
    t_Stopped := t_Stopped
    t_NoText := t_NoText
    o_Taken := one_of_name (st := s_init_Taken) o_Taken (c.def_ 7 (d := d_init_Taken) rfl) ⟨_, _, rfl⟩ ⟨_, _, _, _, rfl⟩ rfl
    o_NoDeed := one_of_name (st := s_init_NoDeed) o_NoDeed (c.def_ 8 (d := d_init_NoDeed) rfl) ⟨_, _, rfl⟩ ⟨_, _, _, _, rfl⟩ rfl
    o_NoName := one_of_name (st := s_init_NoName) o_NoName (c.def_ 9 (d := d_init_NoName) rfl) ⟨_, _, rfl⟩ ⟨_, _, _, _, rfl⟩ rfl
    o_NoHouse := one_of_name (st := s_init_NoHouse) o_NoHouse (c.def_ 10 (d := d_init_NoHouse) rfl) ⟨_, _, rfl⟩ ⟨_, _, _, _, rfl⟩ rfl
    o_NoTable := one_of_name (st := s_init_NoTable) o_NoTable (c.def_ 11 (d := d_init_NoTable) rfl) ⟨_, _, rfl⟩ ⟨_, _, _, _, rfl⟩ rfl
    o_NoRow := one_of_key (st := s_init_NoRow) o_NoRow (c.def_ 12 (d := d_init_NoRow) rfl) ⟨_, _, rfl⟩ ⟨_, _, _, _, rfl⟩ rfl
    o_Late := one_of_key (st := s_init_Late) o_Late (c.def_ 13 (d := d_init_Late) rfl) ⟨_, _, rfl⟩ ⟨_, _, _, _, rfl⟩ rfl
    o_Waits := one_of_who (st := s_init_Waits) o_Waits (c.def_ 14 (d := d_init_Waits) rfl) ⟨_, _, rfl⟩ ⟨_, _, _, _, rfl⟩ rfl
    o_Looked := one_of_name (st := s_init_Looked) o_Looked (c.def_ 15 (d := d_init_Looked) rfl) ⟨_, _, rfl⟩ ⟨_, _, _, _, rfl⟩ rfl
    o_NoNumber := one_of_number (st := s_init_NoNumber) o_NoNumber (c.def_ 16 (d := d_init_NoNumber) rfl) ⟨_, _, rfl⟩ ⟨_, _, _, _, rfl⟩ rfl
    o_Stopped := one_of_by (st := s_init_Stopped) o_Stopped (c.def_ 17 (d := d_init_Stopped) rfl) ⟨_, _, rfl⟩ ⟨_, _, _, _, rfl⟩ rfl
    o_NoText := one_of_row (st := s_init_NoText) o_NoText (c.def_ 18 (d := d_init_NoText) rfl) ⟨_, _, rfl⟩ ⟨_, _, _, _, rfl⟩ rfl
  }
  case ex =>
    simp only [names, List.mem_cons, List.not_mem_nil, or_false] at hx
    rcases hx with rfl | rfl | rfl | rfl | rfl | rfl | rfl | rfl | rfl | rfl | rfl | rfl | rfl | rfl | rfl
    · exact ⟨_, _, _, _, _, t_NoStore⟩
    · exact ⟨_, _, _, _, _, t_NoLine⟩
    · exact ⟨_, _, _, _, _, t_Busy⟩
    · exact ⟨_, _, _, _, _, t_Taken⟩
    · exact ⟨_, _, _, _, _, t_NoDeed⟩
    · exact ⟨_, _, _, _, _, t_NoName⟩
    · exact ⟨_, _, _, _, _, t_NoHouse⟩
    · exact ⟨_, _, _, _, _, t_NoTable⟩
    · exact ⟨_, _, _, _, _, t_NoRow⟩
    · exact ⟨_, _, _, _, _, t_Late⟩
    · exact ⟨_, _, _, _, _, t_Waits⟩
    · exact ⟨_, _, _, _, _, t_Looked⟩
    · exact ⟨_, _, _, _, _, t_NoNumber⟩
    · exact ⟨_, _, _, _, _, t_Stopped⟩
    · exact ⟨_, _, _, _, _, t_NoText⟩
  case m =>
    obtain ⟨a1, a2⟩ := hm i x h1
    obtain ⟨b1, b2⟩ := hm j y h2
    have z := (hkk i a1).1 j b1
    rw [a2, b2] at z
    exact z
  case d =>
    obtain ⟨a1, a2⟩ := hm i x h1
    have b1 : j < 9 := (List.getElem?_eq_some_iff.mp h2).1
    have b2 : kindNames.getD j "" = t := by rw [List.getD_eq_getElem?_getD, h2] <;> rfl
    have z := (hkk i a1).2 j b1
    rw [a2, b2] at z
    exact z

theorem run (w : World) : HandSHeadRun.RunEq R (PySem.W.view R.prog [23]) hk ob 4000 ["NoStore", "NoLine", "Busy", "Taken", "NoDeed", "NoName", "NoHouse", "NoTable", "NoRow", "Late", "Waits", "Looked", "NoNumber", "Stopped", "NoText", "_law_hand", "_law_take", "_law_of", "_law_marks", "_law_kinds", "_law_word"] w := by
  intro os
  kernel_rfl
theorem facts {P : Program} {w : World} {K : PySem.W.Frag} {h : Heap} {mg : Str → Option Value} {f : Addr} (X : K.In h) (G : h.Ns mainGlobals mg) (hfa : mg ("law" : Str) = some (.ref f)) (c : He.SaysD fa fnX K) (hx : exB K = true) :
    ∃ fd : FuncData, (∀ (s : Shared) (v : Value), BindsTo s fd ⟨[v], []⟩ [("_law_script", v)]) ∧ ∀ base : Heap, K.In base → base.Ns mainGlobals mg → FnAt callerA P w K mg base CX0 4 f fd ["_law_script"] (spLaw K) := by
  have T : Tx K mg := tx_mk fun x hx => He.free_ok X G (by
    obtain ⟨i, hi, e⟩ := List.mem_iff_getElem.mp hx
    exact c.fact (25 + i) (f := .free x) (by
      show ([.glo "_law_hand", .glo "_law_take", .glo "_law_of", .glo "_law_marks", .glo "_law_kinds", .glo "_law_word", .glo "law", .glo "NoStore", .glo "NoLine", .glo "Busy", .glo "Taken", .glo "NoDeed", .glo "NoName", .glo "NoHouse", .glo "NoTable", .glo "NoRow", .glo "Late", .glo "Waits", .glo "Looked", .glo "NoNumber", .glo "Stopped", .glo "NoText", .keep "NoStore", .keep "NoLine", .keep "Busy"] ++ freeNames.map He.Fa.free)[25 + i]? = _
      rw [List.getElem?_append_right (by show 25 ≤ _; omega)]
      show (freeNames.map He.Fa.free)[25 + i - 25]? = _
      rw [Nat.add_sub_cancel_left, List.getElem?_map, List.getElem?_eq_getElem hi, e]
      rfl))
  have Z := zx_of X G c hx
  have D_l_hand : Def0 K mg "_law_hand" s_l_hand ["_law_script", "_law_k"] := def0_mk X G (c.fact 0 (f := .glo "_law_hand") rfl) (c.def_ 0 (d := d_l_hand) rfl) fun _ _ _ _ _ _ us hl => match us, hl with | [_, _], _ => rfl
  have D_l_take : Def0 K mg "_law_take" s_l_take ["_law_hand_here", "_law_many"] := def0_mk X G (c.fact 1 (f := .glo "_law_take") rfl) (c.def_ 1 (d := d_l_take) rfl) fun _ _ _ _ _ _ us hl => match us, hl with | [_, _], _ => rfl
  have D_l_of : Def0 K mg "_law_of" s_l_of ["_law_hand_here", "_law_some"] := def0_mk X G (c.fact 2 (f := .glo "_law_of") rfl) (c.def_ 2 (d := d_l_of) rfl) fun _ _ _ _ _ _ us hl => match us, hl with | [_, _], _ => rfl
  have D_l_marks : Def0 K mg "_law_marks" s_l_marks ["_law_e"] := def0_mk X G (c.fact 3 (f := .glo "_law_marks") rfl) (c.def_ 3 (d := d_l_marks) rfl) fun _ _ _ _ _ _ us hl => match us, hl with | [_], _ => rfl
  have D_l_kinds : Def0 K mg "_law_kinds" s_l_kinds ["_law_e"] := def0_mk X G (c.fact 4 (f := .glo "_law_kinds") rfl) (c.def_ 4 (d := d_l_kinds) rfl) fun _ _ _ _ _ _ us hl => match us, hl with | [_], _ => rfl
  have D_l_word : Def0 K mg "_law_word" s_l_word ["_law_hand_here"] := def0_mk X G (c.fact 5 (f := .glo "_law_word") rfl) (c.def_ 5 (d := d_l_word) rfl) fun _ _ _ _ _ _ us hl => match us, hl with | [_], _ => rfl
  obtain ⟨fd, F⟩ := c.def_ 6 (d := d_law) rfl
  have e := hfa.symm.trans (He.glo_ok X G (c.fact 6 (f := .glo "law") rfl))
  cases e
  have b := FunD.bindsA (ps := ["_law_script"]) F fun _ _ _ _ _ _ us hl => match us, hl with | [_], _ => rfl
  refine ⟨fd, fun s v => b s [v] rfl, fun base _ _ => ?_⟩
  have C_l_hand := D_l_hand.cal (P := P) (w := w) (base := base) (sp := spHand K) sc_l_hand (fun vs H Q E h => by first | (obtain ⟨_, rfl, _⟩ := h; rfl) | (obtain ⟨_, _, rfl, _⟩ := h; rfl) | (obtain ⟨_, _, _, rfl, _⟩ := h; rfl) | (obtain ⟨_, _, _, _, rfl, _⟩ := h; rfl) | (rcases h with ⟨_, _, _, _, rfl, _⟩ | ⟨_, _, _, rfl, _⟩ <;> rfl)) (ok_hand T)
  have C_l_take := D_l_take.cal (P := P) (w := w) (base := base) (sp := spTake) sc_l_take (fun vs H Q E h => by first | (obtain ⟨_, rfl, _⟩ := h; rfl) | (obtain ⟨_, _, rfl, _⟩ := h; rfl) | (obtain ⟨_, _, _, rfl, _⟩ := h; rfl) | (obtain ⟨_, _, _, _, rfl, _⟩ := h; rfl) | (rcases h with ⟨_, _, _, _, rfl, _⟩ | ⟨_, _, _, rfl, _⟩ <;> rfl)) (ok_take T)
  have C_l_of := D_l_of.cal (P := P) (w := w) (base := base) (sp := spOf1 K) sc_l_of (fun vs H Q E h => by rcases h with ⟨_, _, _, _, rfl, _⟩ | ⟨_, _, _, rfl, _⟩ <;> rfl) (ok_of T C_l_take)
  have C_l_word := D_l_word.cal (P := P) (w := w) (base := base) (sp := spWord) sc_l_word (fun vs H Q E h => by first | (obtain ⟨_, rfl, _⟩ := h; rfl) | (obtain ⟨_, _, rfl, _⟩ := h; rfl) | (obtain ⟨_, _, _, rfl, _⟩ := h; rfl) | (obtain ⟨_, _, _, _, rfl, _⟩ := h; rfl) | (rcases h with ⟨_, _, _, _, rfl, _⟩ | ⟨_, _, _, rfl, _⟩ <;> rfl)) (ok_word T C_l_take C_l_of)
  have C_l_marks := D_l_marks.cal (P := P) (w := w) (base := base) (sp := spMarks K) sc_l_marks (fun vs H Q E h => by first | (obtain ⟨_, rfl, _⟩ := h; rfl) | (obtain ⟨_, _, rfl, _⟩ := h; rfl) | (obtain ⟨_, _, _, rfl, _⟩ := h; rfl) | (obtain ⟨_, _, _, _, rfl, _⟩ := h; rfl) | (rcases h with ⟨_, _, _, _, rfl, _⟩ | ⟨_, _, _, rfl, _⟩ <;> rfl)) (ok_marks T Z)
  have C_l_kinds := D_l_kinds.cal (P := P) (w := w) (base := base) (sp := spKinds K) sc_l_kinds (fun vs H Q E h => by first | (obtain ⟨_, rfl, _⟩ := h; rfl) | (obtain ⟨_, _, rfl, _⟩ := h; rfl) | (obtain ⟨_, _, _, rfl, _⟩ := h; rfl) | (obtain ⟨_, _, _, _, rfl, _⟩ := h; rfl) | (rcases h with ⟨_, _, _, _, rfl, _⟩ | ⟨_, _, _, rfl, _⟩ <;> rfl)) (ok_kinds T Z)
  refine fnat_of (CX := CX0) F sc_law (fun vs H Q E h => by first | (obtain ⟨_, rfl, _⟩ := h; rfl) | (obtain ⟨_, _, rfl, _⟩ := h; rfl) | (obtain ⟨_, _, _, rfl, _⟩ := h; rfl) | (obtain ⟨_, _, _, _, rfl, _⟩ := h; rfl) | (rcases h with ⟨_, _, _, _, rfl, _⟩ | ⟨_, _, _, rfl, _⟩ <;> rfl)) fun cdv s H vs Q E hr h => ?_
  obtain ⟨t, h1, h2⟩ := ok_law (P := P) (w := w) (base := base) T Z C_l_hand C_l_take C_l_of C_l_word C_l_marks C_l_kinds _ cdv s H vs Q E hr h
  exact ⟨t, h1.nox, h2⟩
end Rd
open PySem PySem.W PySem.Calls PyProof.Rows
theorem PySem.Challenge.cw_roundstore_k01_refusals_made_by_hand_holds : PySem.Challenge.rw_roundstore_k01_refusals_made_by_hand.Holds := by
  w_on; o_law
  refine HandSHeadRun.head_any (r := OpenLaw.row PySem.Challenge.rw_roundstore_k01_refusals_made_by_hand) (q := view (OpenLaw.row PySem.Challenge.rw_roundstore_k01_refusals_made_by_hand).prog [23]) (H := Rd.hk) (ob := Rd.ob) (M := 4000) (loose := ["NoStore", "NoLine", "Busy", "Taken", "NoDeed", "NoName", "NoHouse", "NoTable", "NoRow", "Late", "Waits", "Looked", "NoNumber", "Stopped", "NoText", "_law_hand", "_law_take", "_law_of", "_law_marks", "_law_kinds", "_law_word"]) (d := HandSHeadRun.topDef (OpenLaw.row PySem.Challenge.rw_roundstore_k01_refusals_made_by_hand).prog 23) (kwd := []) Rd.ob_eq
    (by kernel_rfl) (fun s => by kernel_rfl) Rd.run (by kernel_rfl) (by kernel_rfl) (by kernel_rfl) (by rfl) (by first | assumption | decide +kernel) (by decide +kernel) ⟨rfl, rfl, rfl, rfl, rfl, by decide +kernel⟩ ?hw ?hc
  case hw => w_witness2
  case hc =>
    refine L2.walk_at (l := PySem.Challenge.rw_roundstore_k01_refusals_made_by_hand) (n := 63) (k := 4) (x := "_law_script") rfl (by decide) (by kernel_rfl) ⟨rfl, by decide, by decide⟩ ?F
    intro w mg fa h Y G hmg0
    obtain ⟨K, KX, c, hx⟩ := Y
    have hmg : mg ("law" : PySem.Str) = some (.ref fa) := by
      have e : (HandSHeadRun.topDef (OpenLaw.row PySem.Challenge.rw_roundstore_k01_refusals_made_by_hand).prog 23).name = ("law" : PySem.Str) := by kernel_rfl
      rw [← e]
      exact hmg0
    obtain ⟨fd, hb, hF⟩ := Rd.facts (P := (PySem.Challenge.rw_roundstore_k01_refusals_made_by_hand).prog) (w := w) KX G hmg c hx
    exact ⟨K, fd, Rd.spLaw K, KX, hb, fun H a ns hl _ hS => ⟨a, ns, rfl, hS, hl, fun _ => rfl⟩, hF⟩
