import PyProof.Rows.All
import Wide.All
import OpenK.AllK
import Wide.FinOn
import KE.KStateDown
import KE.KDictPairs
import KE.KDictZip
import KE.GoesMore
import KE.GoesEnum
import KE.DataMinMax
import KE.SortData
import HandS.Star
import HandS.ForMost
import HandS.More
import HandS.Conv
import HandS.Flow
import HandS.Style
import HandS.Steps
import HandS.Codes
import HandS.IsInst
import HandS.TupAny
import HandS.NoneIn
import HandS.RaiseMore
import HandS.SortInts
import HandS.SetFor
import HandS.Strs
import HandS.Wide
import HandS.WordsExc
import HandS.Defaults
import HandS.Walk
import HandS.Zip
import HandS.TupMul
import HandS.Head0
import HandS.Head1
import HandS.Head2
import HandS.HeadEnd
import HandS.HeadHook1
import HandS.HeadHook2
import PySem.Challenge.RW_roundstore_k50_worst_by_a_walk
set_option Elab.async false
set_option linter.all false
set_option maxRecDepth 100000
set_option maxHeartbeats 8000000
/-! ### rules within a comprehension -/
namespace L2
open PySem PySem.Spec PyProof.Rows
section
variable {X : Cx} {K1 : PySem.W.Frag}
theorem op_catAK (h : X.K = K1) : OpR X (binaryOp .Add) (rCatA K1) := by
  subst h
  exact op_catA
def rLenS (K : PySem.W.Frag) : List V → Hp → VK → Prop := fun xs H Q => ∃ p ys, xs = [.ref p] ∧ (SqL K H p ys ∨ SqT K H p ys) ∧ Q (.int ys.length) H
theorem call_len_seqK (h : X.K = K1) : CallR X (.builtin "len") (rLenS K1) := by
  subst h
  exact call_len_seq
end
end L2
/-! ### repr of data, whatever it is -/
namespace L2
open PySem PySem.Spec PyProof.Rows
section
variable {X : Cx} {K1 : PySem.W.Frag}
def rReprA (K : PySem.W.Frag) : List V → Hp → VK → Prop := fun xs H Q => ∃ (v : V) (d : PyData), xs = [v] ∧ Dp K H v d ∧ d.showable = true ∧ d.hasDict = false ∧ d.depth ≤ 60 ∧ d.shown.length ≤ sizeLine ∧ Q (.str d.shown) H
theorem call_reprK (hK : X.K = K1) (hg : X.A.guards = some []) (hu : X.A.units + 64 < cLine) : CallR X (.builtin "repr") (rReprA K1) := by
  subst hK
  intro pins s σ H xs us Q I r h
  obtain ⟨v, d, rfl, hd, hs, hnd, hdp, hsz, q⟩ := h
  obtain ⟨u, rfl, rv⟩ := vals1 r
  cases hd with
  | non =>
    cases rv
    exact PySem.P.repr_of_none ⟨.str _, H, I.tok _, ⟨_, rfl⟩, q⟩
  | bl b =>
    cases rv
    exact PySem.P.repr_of_bool ⟨.str _, H, I.tok _, ⟨_, rfl⟩, q⟩
  | int i =>
    obtain ⟨t, rfl⟩ := rv
    exact PySem.P.repr_of_int (of_decide_eq_true hs) ⟨.str _, H, I.tok _, ⟨_, rfl⟩, q⟩
  | str x =>
    obtain ⟨t, rfl⟩ := rv
    exact PySem.P.repr_of_str ⟨.str _, H, I.tok _, ⟨_, rfl⟩, q⟩ hsz
  | lst a1 a2 =>
    cases rv
    obtain ⟨as, hr⟩ := Dp.reads I _ _ _ (.lst a1 a2) rfl
    exact repr_of_reads' hr hs (PyData.noDict_hsm hnd) hg (by omega) (fun _ _ e => e) (fun h' u tk hk => ⟨.str _, H, I.kept (t' := tk) hk, ⟨u, rfl⟩, q⟩) hsz
  | tup a1 a2 =>
    cases rv
    obtain ⟨as, hr⟩ := Dp.reads I _ _ _ (.tup a1 a2) rfl
    exact repr_of_reads' hr hs (PyData.noDict_hsm hnd) hg (by omega) (fun _ _ e => e) (fun h' u tk hk => ⟨.str _, H, I.kept (t' := tk) hk, ⟨u, rfl⟩, q⟩) hsz
theorem ix_listK (hK : X.K = K1) : IxR X (rIxL K1) := by
  subst hK
  exact ix_list
theorem ix_tupK (hK : X.K = K1) : IxR X (rIxT K1) := by
  subst hK
  exact ix_tup
theorem op_in_seqK (hK : X.K = K1) : OpR X (compareOp .In) (rIn K1 false) := by
  subst hK
  exact op_in_seq
end
end L2
/-! ### the law's own call, what runs around it told: nothing is being shown -/
namespace L2
open PySem PySem.Spec PyProof.Rows
/-- the promise of the def at f, called where A runs around -/
def FnAt (A : Around) (P : Program) (w : World) (K : PySem.W.Frag) (mg : Str → Option Value) (base : Heap) (CX : CXT) (k : Nat) (f : Addr) (fd : FuncData) (ps : List Str) (sp : Sp) : Prop :=
  ∀ (s : Shared) (H : Hp) (args : Args) (us : List Value) (vs : List V) (Q : VK) (E : XK), Room k A → Env0 P w K mg base A [] s H → BindsTo s fd args (ps.zip us) → Vals vs us → sp vs H Q E → codeAny (model P w) A (.call (.ref f) args) (CR CX [] P w H s Q E) s
theorem fnat_of {A : Around} {CX : CXT} {P : Program} {w : World} {K : PySem.W.Frag} {mg : Str → Option Value} {base : Heap} {k : Nat} {f : Addr} {fd : FuncData} {x qual : Str} {params : Arguments} {body : List Stmt} {scope : Scope} {N ps : List Str} {sp : Sp} {dvs : List V} {kws : List (Str × V)}
    (F : FunD K x qual params body scope dvs kws f fd) (S : FnScope N ps scope) (len : ∀ vs H Q E, sp vs H Q E → vs.length = ps.length)
    (hb : ∀ (cdv : Value) (s : Shared) (H : Hp) (vs : List V) (Q : VK) (E : XK), Room k (A.deeper (envOfC qual scope s.heap.objs.size f cdv)) → sp vs H Q E → ∃ t, PSs (cxOf CX P w K mg base N qual scope f cdv A [] s H E) body t ∧ t { nx := fun _ H' => Q .non H', rt := Q } (start N vs) H) :
    FnAt A P w K mg base CX (k + 1) f fd ps sp := by
  obtain ⟨oc, od, dV, kV, doc, pm, an, cdv, ct, osl, rfl, lk, hcd, _, _⟩ := F.ex
  intro s H args us vs Q E hr e0 bt r hsp
  have lv := len _ _ _ _ hsp
  have inK : K.In s.heap := e0.mod.kin.keeps fun b o e => (e0.bs b o e).1
  have nolim : s.heap.NoLimit := e0.mod.nolimit.keeps fun b o e => (e0.bs b o e).1
  have kinds : ∀ y ∈ ps.zip us, scope.names.lookup y.1 = some .local ∨ (scope.names.lookup y.1 = some .cell ∧ ((cellsFrom (s.heap.objs.size + 1) scope.names []).lookup y.1).isSome = true) := fun ⟨n, v⟩ hy =>
    (S.par n (List.of_mem_zip hy).1).elim .inl fun q => .inr ⟨q, PySem.W.cellsFrom_some _ _ _ (.inl q)⟩
  refine codeAny_call_function hr.depth (inK _ _ lk) rfl S.co S.gen rfl (PySem.W.codeRec_of inK hcd) (bt _ _ _ _ (wpAny_newFunctionEnv_cells S.kind kinds fun env he s1 x => ?_))
  subst he
  obtain ⟨t, ht, hq⟩ := hb cdv s H vs Q E (hr.deeper _) hsp
  have I : Inv (cxOf CX P w K mg base N qual scope f cdv A [] s H E) [] (start N vs) H s1 := inv_start S hr.hd e0 lv r x
  refine ⟨nolim.keeps x.toInCall.keep, codeAny_func (wpAny_mono (ht.run [] s1 (start N vs) H _ I hq) (fun fl s' hs => ?_) fun e s' hs => hs)⟩
  match fl, hs with
  | .ret u, ⟨v, σ', H', J, rv, q⟩ => exact ⟨v, H', J.os, J.bare, J.base, J.hok, rv, q⟩
  | .next, ⟨σ', H', J, q⟩ => exact ⟨V.non, H', J.os, J.bare, J.base, J.hok, rfl, q⟩
  | .brk, ⟨_, _, _, q⟩ => exact False.elim q
  | .cont, ⟨_, _, _, q⟩ => exact False.elim q
theorem law_at {P : Program} {w : World} {K : PySem.W.Frag} {mg mb : Str → Option Value} {k : Nat} {fa a : Addr} {fd : FuncData} {x : Str} {sp : Sp} {s1 : Shared} {vs : List Value} {ns : List Int} (KX : K.In s1.heap) (hns : s1.heap.Ns mainGlobals mg) (hb : s1.heap.Ns builtinsNs mb) (hbb : ∀ x : Str, x ≠ "__name__" → mb x = bootBuiltins x)
    (hlim : s1.heap.NoLimit) (hg : s1.gens = #[]) (ha : s1.heap.get? a = some { cls := .type "list", data := .seq vs.toArray }) (hi : IntsAre vs ns) (hl : ns.length ≤ sizeLine) (hr : Room k callerA)
    (F : ∀ base : Heap, K.In base → base.Ns mainGlobals mg → FnAt callerA P w K mg base CX0 k fa fd [x] sp) (hbind : ∀ (s : Shared) (u : Value), BindsTo s fd ⟨[u], []⟩ [(x, u)]) (hsp : ∀ H : Hp, Only H → SqL K H a (ns.map V.int) → sp [.ref a] H (fun v _ => v = .bl true) fun _ _ _ => False) :
    codeAny (model P w) callerA (.call (.ref fa) ⟨[.ref a], []⟩) (fun r s' => r = .ok (.ret (.bool true)) ∧ OldK s1.heap s'.heap ∧ s'.os = s1.os ∧ AllBare s'.gens) s1 := by
  have rv := vals_ints hi
  have core : ∀ H : Hp, Only H → SqL K H a (ns.map V.int) → HOk P w H s1.heap → (∀ b, H b ≠ none → b = a) → (H a ≠ none → K.lookup a = none) → codeAny (model P w) callerA (.call (.ref fa) ⟨[.ref a], []⟩) (fun r s' => r = .ok (.ret (.bool true)) ∧ OldK s1.heap s'.heap ∧ s'.os = s1.os ∧ AllBare s'.gens) s1 := by
    intro H only hS hok alone out
    have stays : ∀ {b : Addr} {o : Obj}, s1.heap.get? b = some o → H b = none → (hidT s1.heap H).get? b = some o := fun e n => hidT_get e n
    have free : ∀ {b : Addr} {o : Obj} {es : Array DictEntry} {ep : Nat}, s1.heap.get? b = some o → o.data = .dict es ep → H b = none := fun {b o es ep} e dd => by
      cases q : H b with
      | none => rfl
      | some u =>
        have eb : b = a := alone b fun z => by rw [q] at z; cases z
        subst eb
        rw [ha] at e
        cases e
        cases (show Data.seq vs.toArray _ = Data.dict es ep from dd)
    have names : ∀ {b : Addr} {m : Str → Option Value}, s1.heap.Ns b m → (hidT s1.heap H).Ns b m := fun {b m} ⟨o, es, ep, e, dd, r⟩ => ⟨o, es, ep, stays e (free e dd), dd, r⟩
    have inB : K.In (hidT s1.heap H) := fun b o e => stays (KX b o e) (by
      cases q : H b with
      | none => rfl
      | some u =>
        have eb : b = a := alone b fun z => by rw [q] at z; cases z
        subst eb
        rw [out fun z => by rw [q] at z; cases z] at e
        cases e)
    have modB : Mod K mg (hidT s1.heap H) := ⟨inB, names hns, ⟨mb, names hb, hbb⟩, let ⟨mc, h1, h2⟩ := hlim; ⟨mc, names h1, h2⟩⟩
    have env : Env0 P w K mg (hidT s1.heap H) callerA [] s1 H := ⟨rfl, modB, fun b o e => of_hidT e, Nat.le_of_eq (hidT_size _ _), trivial, fun b z => (nomatch (show b ∈ ([] : List Addr) from z)), hok, .of_eq hg⟩
    refine codeAny_mono (F _ inB (names hns) s1 H ⟨[.ref a], []⟩ [.ref a] [.ref a] _ _ hr env (hbind s1 (.ref a)) (.cons rfl .nil) (hsp H only hS)) fun r s' h => ?_
    match r, h with
    | .error e, h => exact (show False from h).elim
    | .ok .next, h => exact (show False from h).elim
    | .ok .brk, h => exact (show False from h).elim
    | .ok .cont, h => exact (show False from h).elim
    | .ok (.ret u), ⟨v, H', os, bare, un, hok', r', q⟩ =>
      have q' : v = .bl true := q
      subst q'
      obtain rfl : u = Value.bool true := r'
      refine ⟨rfl, OldK.of_keep fun b o e => ?_, os, bare⟩
      cases q : H b with
      | none => exact un.keep b o e q (fun z => nomatch (show b ∈ ([] : List Addr) from z)) (by simp)
      | some u =>
        rcases only b with z | ⟨ob, xs, z⟩
        · rw [q] at z; cases z
        · obtain ⟨e1, _⟩ := hok b _ z; obtain ⟨e2, _⟩ := hok' b _ (un.frzs b ob _ z)
          rw [e] at e1; cases e1; exact e2
  cases hk : K.lookup a with
  | some o =>
    have e := KX a o hk; rw [ha] at e; cases e
    exact core (fun _ => none) (fun _ => .inl rfl) (.inr ⟨_, vs.toArray, _, hk, rfl, rfl, rfl, by rw [List.size_toArray, hi.length]; exact hl, by simpa using rv⟩) (fun b u z => (nomatch (show (none : Option HO) = some u from z))) (fun b z => absurd rfl z) fun z => absurd rfl z
  | none =>
    refine core (fun b => if b = a then some (.frz { cls := .type "list", data := .seq vs.toArray } (.lst (ns.map V.int))) else none) (fun b => ?_) (.inl (.inr ⟨_, if_pos rfl⟩)) (fun b u z => ?_) (fun b z => Decidable.byContradiction fun hb => z (if_neg hb)) fun _ => hk
    · by_cases eb : b = a
      · exact .inr ⟨_, _, if_pos eb⟩
      · exact .inl (if_neg eb)
    · by_cases eb : b = a
      · cases (if_pos eb).symm.trans z
        subst eb
        exact ⟨ha, by rw [List.length_map]; exact hl, vs, _, rv, ha⟩
      · cases (if_neg eb).symm.trans z
theorem walk_at {l : PySem.W.OpenLaw} {n k : Nat} {q : Program} {loose : List Str} {XP : (Str → Option Value) → Heap → Prop} {YP : World → Heap → Prop} {d : DefRec} {x : Str} (hn : l.most = some n) (hn2 : n ≤ sizeLine) (hdf : d.params.defaults = []) (hr : Room k callerA)
    (F : ∀ (w : World) (mg : Str → Option Value) (fa : Addr) (h : Heap), YP w h → h.Ns mainGlobals mg → mg d.name = some (.ref fa) → ∃ (K : PySem.W.Frag) (fd : FuncData) (sp : Sp), K.In h ∧ (∀ (s : Shared) (u : Value), BindsTo s fd ⟨[u], []⟩ [(x, u)]) ∧
        (∀ (H : Hp) (a : Addr) (ns : List Int), ns.length ≤ n → Only H → SqL K H a (ns.map V.int) → sp [.ref a] H (fun v _ => v = .bl true) fun _ _ _ => False) ∧ ∀ base : Heap, K.In base → base.Ns mainGlobals mg → FnAt callerA l.prog w K mg base CX0 k fa fd [x] sp) :
    PySem.W.WalkO q loose XP YP l.row.toRowW d [] (fun f vs => PySem.call f vs) := by
  refine Att.attach_call hn hdf fun w s₀ s1 mg mb fa o pm cd doc a vs ns G Y ho hd hcd hmg hobj hints hlen hg => ?_
  obtain ⟨K, fd, sp, KX, hb, hsp, hF⟩ := F w mg fa _ Y G.T.g hmg
  exact law_at KX G.T.g G.T.b G.T.builtins G.T.nolimit hg hobj hints (Nat.le_trans hlen hn2) hr hF hb fun H hO hS => hsp H a ns hlen hO hS
/-- repr of data, where nothing is being shown -/
def rRepr (K : PySem.W.Frag) : List V → Hp → VK → Prop := fun xs H Q => ∃ (a : Addr) (d : PyData), xs = [.ref a] ∧ Dp K H (.ref a) d ∧ d.showable = true ∧ d.hasDict = false ∧ d.depth ≤ 60 ∧ d.shown.length ≤ sizeLine ∧ Q (.str d.shown) H
theorem call_repr {X : Cx} (hg : X.A.guards = some []) (hu : X.A.units + 64 < cLine) : CallR X (.builtin "repr") (rRepr X.K) := by
  intro pins s σ H xs us Q I r h
  obtain ⟨a, d, rfl, hd, hs, hnd, hdp, hsz, q⟩ := h
  rw [Vals.ref1 r]
  obtain ⟨as, hr⟩ := Dp.reads I d (.ref a) (.ref a) hd rfl
  exact repr_of_reads' hr hs (PyData.noDict_hsm hnd) hg (by omega) (fun _ _ e => e) (fun h' u tk hk => ⟨.str d.shown, H, I.kept (t' := tk) hk, ⟨u, rfl⟩, q⟩) hsz
end L2
namespace Rd
open PySem PySem.Spec PyProof.Rows L2
def top (i : Nat) : Stmt := PySem.Challenge.pw_roundstore_k50_worst_by_a_walk.main.body.getD i (.Pass ⟨0, 0, 0, 0⟩)
abbrev s_worst : Stmt := top 1
abbrev N_worst : List Str := ["tables", "every", "longest"]
theorem sc_worst : FnScope N_worst ["tables", "every", "longest"] (defScope s_worst) := ⟨rfl, rfl, rfl, by decide +kernel, rfl, by decide +kernel, by decide +kernel⟩
abbrev s_l_hand : Stmt := top 3
abbrev N_l_hand : List Str := ["_law_script", "_law_k", "_law_cell", "_law_great"]
theorem sc_l_hand : FnScope N_l_hand ["_law_script", "_law_k"] (defScope s_l_hand) := ⟨rfl, rfl, rfl, by decide +kernel, rfl, by decide +kernel, by decide +kernel⟩
abbrev s_l_take : Stmt := top 4
abbrev N_l_take : List Str := ["_law_hand_here", "_law_many", "_law_digit", "_law_primes", "_law_prime", "_law_drawn"]
theorem sc_l_take : FnScope N_l_take ["_law_hand_here", "_law_many"] (defScope s_l_take) := ⟨rfl, rfl, rfl, by decide +kernel, rfl, by decide +kernel, by decide +kernel⟩
abbrev s_l_of : Stmt := top 5
abbrev N_l_of : List Str := ["_law_hand_here", "_law_some"]
theorem sc_l_of : FnScope N_l_of ["_law_hand_here", "_law_some"] (defScope s_l_of) := ⟨rfl, rfl, rfl, by decide +kernel, rfl, by decide +kernel, by decide +kernel⟩
abbrev s_l_walked : Stmt := top 6
abbrev N_l_walked : List Str := ["_law_tables", "_law_gap", "_law_late", "_law_eldests", "_law_least", "_law_given", "_law_floor", "_law_turn"]
theorem sc_l_walked : FnScope N_l_walked ["_law_tables", "_law_gap", "_law_late"] (defScope s_l_walked) := ⟨rfl, rfl, rfl, by decide +kernel, rfl, by decide +kernel, by decide +kernel⟩
abbrev s_law : Stmt := top 7
abbrev N_law : List Str := ["_law_script", "_law_k", "_law_hand_here", "_law_turn", "_law_tables", "_law_gap", "_law_late", "_law_due", "_law_told", "_law_one"]
theorem sc_law : FnScope N_law ["_law_script"] (defScope s_law) := ⟨rfl, rfl, rfl, by decide +kernel, rfl, by decide +kernel, by decide +kernel⟩
theorem gl_of {X : Cx} {x : Str} {sc : Scope} (h : sc.names.lookup x = some .globalImplicit) (e : X.env.scope = sc := by rfl) : Gl X x := by
  unfold Gl Env.kindOf
  rw [e]
  exact h
theorem gl_l_hand_len : (defScope s_l_hand).names.lookup ("len" : Str) = some .globalImplicit := by decide +kernel
theorem gl_l_hand_abs : (defScope s_l_hand).names.lookup ("abs" : Str) = some .globalImplicit := by decide +kernel
theorem gl_l_hand_int : (defScope s_l_hand).names.lookup ("int" : Str) = some .globalImplicit := by decide +kernel
theorem gl_l_of_l_take : (defScope s_l_of).names.lookup ("_law_take" : Str) = some .globalImplicit := by decide +kernel
theorem gl_l_of_len : (defScope s_l_of).names.lookup ("len" : Str) = some .globalImplicit := by decide +kernel
theorem gl_l_walked_max : (defScope s_l_walked).names.lookup ("max" : Str) = some .globalImplicit := by decide +kernel
theorem gl_l_walked_min : (defScope s_l_walked).names.lookup ("min" : Str) = some .globalImplicit := by decide +kernel
theorem gl_law_min : (defScope s_law).names.lookup ("min" : Str) = some .globalImplicit := by decide +kernel
theorem gl_law_len : (defScope s_law).names.lookup ("len" : Str) = some .globalImplicit := by decide +kernel
theorem gl_law_repr : (defScope s_law).names.lookup ("repr" : Str) = some .globalImplicit := by decide +kernel
theorem gl_law_worst : (defScope s_law).names.lookup ("worst" : Str) = some .globalImplicit := by decide +kernel
theorem gl_law_sum : (defScope s_law).names.lookup ("sum" : Str) = some .globalImplicit := by decide +kernel
theorem gl_law_l_hand : (defScope s_law).names.lookup ("_law_hand" : Str) = some .globalImplicit := by decide +kernel
theorem gl_law_l_take : (defScope s_law).names.lookup ("_law_take" : Str) = some .globalImplicit := by decide +kernel
theorem gl_law_l_walked : (defScope s_law).names.lookup ("_law_walked" : Str) = some .globalImplicit := by decide +kernel
theorem gl_law_l_of : (defScope s_law).names.lookup ("_law_of" : Str) = some .globalImplicit := by decide +kernel
theorem bb_len : bootBuiltins "len" = some (.builtin "len") := by decide +kernel
theorem bb_abs : bootBuiltins "abs" = some (.builtin "abs") := by decide +kernel
theorem bb_max : bootBuiltins "max" = some (.builtin "max") := by decide +kernel
theorem bb_min : bootBuiltins "min" = some (.builtin "min") := by decide +kernel
theorem bb_repr : bootBuiltins "repr" = some (.builtin "repr") := by decide +kernel
theorem bb_sum : bootBuiltins "sum" = some (.builtin "sum") := by decide +kernel
theorem bt_int : bootBuiltins "int" = some (.type "int") := by decide +kernel
/-! ### what the top leaves, and what a def keeps -/
structure Tx (K : PySem.W.Frag) (mg : Str → Option Value) : Prop where
  len : mg "len" = none
  abs : mg "abs" = none
  int : mg "int" = none
  bool : mg "bool" = none
  min : mg "min" = none
  max : mg "max" = none
  all : mg "all" = none
  isinstance : mg "isinstance" = none
  range : mg "range" = none
  list : mg "list" = none
  tuple : mg "tuple" = none
  sorted : mg "sorted" = none
  set : mg "set" = none
  enumerate : mg "enumerate" = none
  repr : mg "repr" = none
  dict : mg "dict" = none
  zip : mg "zip" = none
  str : mg "str" = none
  sum : mg "sum" = none
def freeNames : List Str := ["len", "abs", "int", "bool", "min", "max", "all", "isinstance", "range", "list", "tuple", "sorted", "set", "enumerate", "repr", "dict", "zip", "str", "sum"]
theorem tx_mk {K : PySem.W.Frag} {mg : Str → Option Value} (h : ∀ x ∈ freeNames, mg x = none) : Tx K mg :=
  ⟨h _ (by decide), h _ (by decide), h _ (by decide), h _ (by decide), h _ (by decide), h _ (by decide), h _ (by decide), h _ (by decide), h _ (by decide), h _ (by decide), h _ (by decide), h _ (by decide), h _ (by decide), h _ (by decide), h _ (by decide), h _ (by decide), h _ (by decide), h _ (by decide), h _ (by decide)⟩
/-- a def without defaults -/
structure Def0 (K : PySem.W.Frag) (mg : Str → Option Value) (x : Str) (st : Stmt) (ps : List Str) : Prop where
  ex : ∃ (f : Addr) (fd : FuncData), FunD K x x (defArgs st) (defBody st) (defScope st) [] [] f fd ∧ mg x = some (.ref f) ∧ Binds K fd ps []
/-- a def with keyword-only defaults: n values by place, the rest by name or left out -/
structure DefK (K : PySem.W.Frag) (mg : Str → Option Value) (x : Str) (st : Stmt) (ps : List Str) (n : Nat) (kws : List (Str × V)) : Prop where
  ex : ∃ (f : Addr) (fd : FuncData), FunD K x x (defArgs st) (defBody st) (defScope st) [] kws f fd ∧ mg x = some (.ref f) ∧ (∃ ds, Vals (kws.map (·.2)) ds ∧ Binds K fd ps ds) ∧ ∃ g, KBn K fd ps n (kws.map (·.1)) g (fun vs zs => vs ++ zs)
structure CalK (P : Program) (w : World) (K : PySem.W.Frag) (mg : Str → Option Value) (base : Heap) (k : Nat) (x : Str) (n : Nat) (ks : List Str) (sp : Sp) : Prop where
  ex : ∃ (f : Addr) (fd : FuncData) (ps : List Str) (g : List Value → List Value → List Value), FnOk P w K mg base CX0 k f fd ps sp ∧ mg x = some (.ref f) ∧ PySem.W.keepIn K (.ref f) = true ∧ KBn K fd ps n ks g (fun vs zs => vs ++ zs)
section
variable {P : Program} {w : World} {K : PySem.W.Frag} {mg : Str → Option Value} {base : Heap} {x : Str} {st : Stmt} {N ps : List Str} {k n : Nat} {sp : Sp} {kws : List (Str × V)}
/-- the body of a def, as its rule asks it -/
def BodyOk (P : Program) (w : World) (K : PySem.W.Frag) (mg : Str → Option Value) (base : Heap) (x : Str) (st : Stmt) (N : List Str) (k : Nat) (sp : Sp) : Prop :=
  ∀ (f : Addr) (cdv : Value) (A : Around) (outer : List Env) (s : Shared) (H : Hp) (vs : List V) (Q : VK) (E : XK), Room k (A.deeper (envOfC x (defScope st) s.heap.objs.size f cdv)) → sp vs H Q E →
      ∃ t, PSs (cxOf CX0 P w K mg base N x (defScope st) f cdv A outer s H E).nox (defBody st) t ∧ t { nx := fun _ H' => Q .non H', rt := Q } (start N vs) H
theorem Def0.cal (D : Def0 K mg x st ps) (S : FnScope N ps (defScope st)) (len : ∀ vs H Q E, sp vs H Q E → vs.length = ps.length) (hb : BodyOk P w K mg base x st N k sp) : C8.Cal P w K mg base (k + 1) x sp [] := by
  obtain ⟨f, fd, F, g, b⟩ := D.ex
  refine ⟨f, fd, ps, [], F.ok (CX := CX0) S len (fun cdv A outer s H vs Q E hr h => ?_), g, F.kp, b, .nil⟩
  obtain ⟨t, h1, h2⟩ := hb f cdv A outer s H vs Q E hr h
  exact ⟨t, h1.nox, h2⟩
theorem DefK.ok (D : DefK K mg x st ps n kws) (S : FnScope N ps (defScope st)) (len : ∀ vs H Q E, sp vs H Q E → vs.length = ps.length) (hb : BodyOk P w K mg base x st N k sp) :
    CalK P w K mg base (k + 1) x n (kws.map (·.1)) sp ∧ C8.Cal P w K mg base (k + 1) x sp (kws.map (·.2)) := by
  obtain ⟨f, fd, F, g, ⟨ds, hd, b⟩, gg, kb⟩ := D.ex
  have h : FnOk P w K mg base CX0 (k + 1) f fd ps sp := F.ok (CX := CX0) S len (fun cdv A outer s H vs Q E hr h => by
    obtain ⟨t, h1, h2⟩ := hb f cdv A outer s H vs Q E hr h
    exact ⟨t, h1.nox, h2⟩)
  exact ⟨⟨f, fd, ps, gg, h, g, F.kp, kb⟩, ⟨f, fd, ps, ds, h, g, F.kp, b, hd⟩⟩
end
section
variable {X : Cx} {k j n : Nat} {ks : List Str} {sp : Sp} {x : Str} {p pos : Pos} {e : Expr} {es : List Expr} {kws : List Keyword} {t tk : TA}
theorem pe_ck (c : CalK X.prog X.w X.K X.mg X.base k x n ks sp) (hr : Room j X.A) (hk : k ≤ j) (hg : Gl X x) (ha : PA X (e :: es) t) (hkw : PK X kws tk) (hall : (backToKw pos (keywordEach kws X.env)).all (·.1.isSome) = true := by rfl) (hks : (backToKw pos (keywordEach kws X.env)).filterMap (·.1) = ks := by rfl)
    (hdb : (x == ("__debug__" : Str)) = false := by decide) (he : starEach (e :: es) X.env = (false, eval e X.env) :: starEach es X.env := by rfl)
    (hpl : ((backTo pos (starEach (e :: es) X.env)).any (·.1) || (backToKw pos (keywordEach kws X.env)).any (·.1.isNone)) = false := by rfl) :
    PE X (.Call (.Name x p) (e :: es) kws pos) (tCallN n ks.length sp (fun vs zs => vs ++ zs) E0 t tk) := by
  obtain ⟨f, fd, ps, g, F, hm, kp, kb⟩ := c.ex
  exact pe_callN F (hr.mono hk) hg hm kp kb pass0 ha hkw hall hks hdb he hpl
end
/-! ### heaps: all but the drawing hand stands -/
def Fr (h : Addr) (H H' : Hp) : Prop := ∀ a o, a ≠ h → H a = some o → H' a = some o
theorem Fr.refl (h : Addr) (H : Hp) : Fr h H H := fun _ _ _ e => e
theorem Fr.trans {h : Addr} {H H1 H2 : Hp} (a : Fr h H H1) (b : Fr h H1 H2) : Fr h H H2 := fun x o n e => b x o n (a x o n e)
theorem Fr.new {h : Addr} {H : Hp} {p : Addr} {o : HO} (e : H p = none) : Fr h H (upd H p o) := fun a u _ q => by
  rw [upd_ne (ne_of_none q e)]
  exact q
/-- what h did not know may change -/
theorem Fr.mut {h : Addr} {H H' : Hp} {p : Addr} {o : HO} (f : Fr h H H') (e : H p = none) : Fr h H (upd H' p o) := fun a u n q => by
  rw [upd_ne (ne_of_none q e)]
  exact f a u n q
theorem Fr.hand {h : Addr} {H : Hp} {o : HO} : Fr h H (upd H h o) := fun a u n q => by
  rw [upd_ne n]
  exact q
theorem Fr.seq {h : Addr} {K : PySem.W.Frag} {H H' : Hp} {a : Addr} {xs : List V} (f : Fr h H H') (n : a ≠ h) (q : SqL K H a xs) : SqL K H' a xs := by
  rcases q with (q | ⟨o, q⟩) | q
  · exact .inl (.inl (f _ _ n q))
  · exact .inl (.inr ⟨o, f _ _ n q⟩)
  · exact .inr q
theorem Fr.seqT {h : Addr} {K : PySem.W.Frag} {H H' : Hp} {a : Addr} {xs : List V} (f : Fr h H H') (n : a ≠ h) (q : SqT K H a xs) : SqT K H' a xs := by
  rcases q with (q | ⟨o, q⟩) | q
  · exact .inl (.inl (f _ _ n q))
  · exact .inl (.inr ⟨o, f _ _ n q⟩)
  · exact .inr q
/-- the hand: three numbers; n bounds how often it drew -/
def HS (h : Addr) (n : Nat) (H : Hp) : Prop := ∃ g b c : Int, H h = some (.lst [.int g, .int b, .int c]) ∧ 0 ≤ g ∧ g < 10 ^ 240 ∧ 0 ≤ b ∧ b < 2 ^ 62 ∧ 0 ≤ c ∧ c ≤ n
theorem HS.mono {h : Addr} {n m : Nat} {H : Hp} (q : HS h n H) (l : n ≤ m) : HS h m H := by
  obtain ⟨g, b, c, e, g0, g1, b0, b1, c0, c1⟩ := q
  exact ⟨g, b, c, e, g0, g1, b0, b1, c0, by omega⟩
theorem HS.new {h : Addr} {n : Nat} {H : Hp} {p : Addr} {o : HO} (q : HS h n H) (e : H p = none) : HS h n (upd H p o) := by
  obtain ⟨g, b, c, eh, r⟩ := q
  exact ⟨g, b, c, (by rw [upd_ne (ne_of_none eh e)]; exact eh), r⟩
theorem HS.at {h : Addr} {n : Nat} {H : Hp} (q : HS h n H) : ∃ o, H h = some o := by
  obtain ⟨g, b, c, e, _⟩ := q
  exact ⟨_, e⟩
theorem HS.ne {h : Addr} {n : Nat} {H : Hp} {p : Addr} (q : HS h n H) (e : H p = none) : p ≠ h := by
  obtain ⟨g, b, c, eh, _⟩ := q
  exact fun z => by
    rw [z, eh] at e
    cases e
/-! ### the drawing defs of the law -/
def lim : Nat := 100000
/-- hand(script, k) -/
def spHand (K : PySem.W.Frag) : Sp := fun vs H Q _ => ∃ (a : Addr) (ns : List Int) (k : Nat), vs = [.ref a, .int k] ∧ SqL K H a (ns.map V.int) ∧ k ≤ 100 ∧ ∀ p H', H p = none → (∀ q o, H q = some o → H' q = some o) → HS p 0 H' → Q (.ref p) H'
/-- take(hand, many): some number below many -/
def spTake : Sp := fun vs H Q _ => ∃ (h : Addr) (m : Int) (n : Nat), vs = [.ref h, .int m] ∧ HS h n H ∧ n < lim ∧ 0 < m ∧ m ≤ 10 ^ 18 ∧ ∀ d H', 0 ≤ d → d < m → HS h (n + 1) H' → Fr h H H' → Q (.int d) H'
/-- of(hand, some) -/
def spOf (K : PySem.W.Frag) : Sp := fun vs H Q _ => ∃ (h a : Addr) (xs : List V) (n : Nat), vs = [.ref h, .ref a] ∧ HS h n H ∧ n < lim ∧ a ≠ h ∧ SqL K H a xs ∧ 0 < xs.length ∧ xs.length ≤ 1000 ∧ ∀ v H', v ∈ xs → HS h (n + 1) H' → Fr h H H' → Q v H'
/-! ### calls by any of the keywords -/
structure CalW (P : Program) (w : World) (K : PySem.W.Frag) (mg : Str → Option Value) (base : Heap) (k : Nat) (x : Str) (n : Nat) (ks : List Str) (gV : List V → List V → List V) (sp : Sp) : Prop where
  ex : ∃ (f : Addr) (fd : FuncData) (ps : List Str) (g : List Value → List Value → List Value), FnOk P w K mg base CX0 k f fd ps sp ∧ mg x = some (.ref f) ∧ PySem.W.keepIn K (.ref f) = true ∧ KBn K fd ps n ks g gV
section
variable {X : Cx} {k j n : Nat} {ks : List Str} {gV : List V → List V → List V} {sp : Sp} {x : Str} {p pos : Pos} {e : Expr} {es : List Expr} {kws : List Keyword} {t tk : TA}
theorem pe_cw (c : CalW X.prog X.w X.K X.mg X.base k x n ks gV sp) (hr : Room j X.A) (hk : k ≤ j) (hg : Gl X x) (ha : PA X (e :: es) t) (hkw : PK X kws tk) (hall : (backToKw pos (keywordEach kws X.env)).all (·.1.isSome) = true := by rfl) (hks : (backToKw pos (keywordEach kws X.env)).filterMap (·.1) = ks := by rfl)
    (hdb : (x == ("__debug__" : Str)) = false := by decide) (he : starEach (e :: es) X.env = (false, eval e X.env) :: starEach es X.env := by rfl)
    (hpl : ((backTo pos (starEach (e :: es) X.env)).any (·.1) || (backToKw pos (keywordEach kws X.env)).any (·.1.isNone)) = false := by rfl) :
    PE X (.Call (.Name x p) (e :: es) kws pos) (tCallN n ks.length sp gV E0 t tk) := by
  obtain ⟨f, fd, ps, g, F, hm, kp, kb⟩ := c.ex
  exact pe_callN F (hr.mono hk) hg hm kp kb pass0 ha hkw hall hks hdb he hpl
end
theorem vals_getD {zs : List V} {ws : List Value} (r : Vals zs ws) (i : Nat) : RelV (zs.getD i .non) (ws.getD i .none) := by
  induction r generalizing i with
  | nil => exact rfl
  | cons h t ih =>
    cases i with
    | zero => exact h
    | succ i => exact ih i
theorem kw_mk {K : PySem.W.Frag} {x qual : Str} {params : Arguments} {body : List Stmt} {scope : Scope} {kws : List (Str × V)} {f : Addr} {fd : FuncData} {ps : List Str} (F : FunD K x qual params body scope [] kws f fd) (hk : kws ≠ []) (n : Nat) (ks : List Str) (miss : List (Str × V)) (hm : ∀ q ∈ miss, q ∈ kws)
    (mix : List Value → List Value → List Value → List Value) (mixV : List V → List V → List V → List V) (hr : ∀ {vs : List V} {us : List Value} {zs : List V} {ws : List Value} {es : List V} {ds : List Value}, Vals vs us → Vals zs ws → Vals es ds → Vals (mixV vs zs es) (mix us ws ds))
    (h : ∀ (D : Addr) (doc pm : Value) (an : Option Addr) (cdv ct : Value) (us ws ds : List Value), us.length = n → ws.length = ks.length → ds.length = miss.length →
      KwChain D ((miss.map (·.1)).zip ds) (bindArgs (PySem.W.fnOf x qual params body scope .none (.ref D) doc pm an cdv ct) ⟨us, ks.zip ws⟩) (ps.zip (mix us ws ds))) : ∃ g, KBn K fd ps n ks g (fun vs zs => mixV vs zs (miss.map (·.2))) := by
  obtain ⟨oc, od, dV, kV, doc, pm, an, cdv, ct, osl, rfl, lk, hcd, hD, hK⟩ := F.ex
  rcases hD with ⟨_, rfl⟩ | ⟨e, _⟩
  · rcases hK with e | ⟨D, rfl, hq⟩
    · exact absurd e hk
    · obtain ⟨ds, hl, rk, hks⟩ := kwd_vals (ms := miss) fun q hq' => hq q (hm q hq')
      refine ⟨fun us ws => mix us ws ds, ⟨fun s us ws X l1 l2 => ?_, fun r1 r2 => hr r1 r2 rk⟩⟩
      exact BindsTo.of_looks fun M => KwChain.looks X hks (h D doc pm an cdv ct us ws ds l1 l2 hl)
  · exact absurd rfl e
theorem pow_ok {i j : Int} (h : 0 ≤ j ∧ j ≤ 1000000 ∧ i.natAbs < 2 ^ 64) : CPow i j := h
theorem atI_in {xs : List V} {i : Int} (h0 : 0 ≤ i) (h1 : i < xs.length) : ∃ v, atI xs i = some v ∧ v ∈ xs := by
  have h2 : i.toNat < xs.length := by omega
  refine ⟨xs[i.toNat], ?_, List.getElem_mem h2⟩
  have e := atI_nat (xs := xs) (j := i.toNat) (List.getElem?_eq_getElem h2)
  rw [Int.toNat_of_nonneg h0] at e
  exact e
theorem if01 (b : Bool) : 0 ≤ (if b = true then (1 : Int) else 0) ∧ (if b = true then (1 : Int) else 0) ≤ 1 := by
  cases b <;> decide
theorem w60 : (((10 : Int) ^ (60 : Int).toNat).natAbs) < 2 ^ 200 := by decide +kernel
theorem w120 : (((10 : Int) ^ (60 : Int).toNat * (10 : Int) ^ (60 : Int).toNat).natAbs) < 2 ^ 400 := by decide +kernel
theorem w180 : (((10 : Int) ^ (60 : Int).toNat * (10 : Int) ^ (60 : Int).toNat * (10 : Int) ^ (60 : Int).toNat).natAbs) < 2 ^ 600 := by decide +kernel
theorem e240 : ((10 : Int) ^ (60 : Int).toNat * (10 : Int) ^ (60 : Int).toNat * (10 : Int) ^ (60 : Int).toNat * (10 : Int) ^ (60 : Int).toNat) = 10 ^ 240 := by decide +kernel
theorem p17 : ((10 : Int) ^ (17 : Int).toNat) = 100000000000000000 := by decide +kernel
theorem p18 : ((10 : Int) ^ (18 : Int).toNat) = 1000000000000000000 := by decide +kernel
theorem p19 : ((2 : Int) ^ (19 : Int).toNat) = 524288 := by decide +kernel
theorem p20 : ((2 : Int) ^ (20 : Int).toNat) = 1048576 := by decide +kernel
theorem cdw {i j : Int} (h : 0 < j) (h1 : j ≤ 1000000000000000000) : CDivW i j := wide_div (b := 64) h (by omega) (by decide) (by decide)
section
variable {P : Program} {w : World} {K : PySem.W.Frag} {mg : Str → Option Value} {base : Heap}
theorem ok_hand (T : Tx K mg) : BodyOk P w K mg base "_law_hand" s_l_hand N_l_hand 0 (spHand K) := by
  intro f cdv A outer s H vs Q E hr h
  obtain ⟨a, ns, k, rfl, hS, hk, q⟩ := h
  refine ⟨_, (pss_cons (ps_set (i := 2) sc_l_hand.nd rfl (Or.inl rfl) (pe_ifExp (pt_cmpR op_lt (pv 1) (pe_callB call_len_seq (gl_of gl_l_hand_len) T.len bb_len (pa_cons (pv 0) pa_nil)) (nomark _)) (pe_ix ix_list (pv 0) (pv 1) (fun _ _ => rfl)) pe_int))
      (pss_cons (ps_set (i := 3) sc_l_hand.nd rfl (Or.inl rfl) (pe_op op_mulW (pe_op op_mulW (pe_op op_mulW (pe_op op_pow pe_int pe_int) (pe_op op_pow pe_int pe_int)) (pe_op op_pow pe_int pe_int)) (pe_op op_pow pe_int pe_int)))
      (pss_one (ps_ret (pe_lst (pa_cons (pe_op op_mul (pe_op op_mod (pe_callB call_abs (gl_of gl_l_hand_abs) T.abs bb_abs (pa_cons (pv 2) pa_nil)) (pv 3)) (pe_callTy call_int1 (gl_of gl_l_hand_int) T.int bt_int (pa_cons (pe_cmpR op_ge (pe_callB call_abs (gl_of gl_l_hand_abs) T.abs bb_abs (pa_cons (pv 2) pa_nil)) (pe_op op_pow pe_int pe_int) (nomark _)) pa_nil))) (pa_cons (pe_op op_add (pe_op op_add (pe_op op_mod (pv 2) pe_int) (pe_op op_mul pe_int (pv 1))) pe_int) (pa_cons pe_int pa_nil)))))))), ?_⟩
  refine st_seq (st_setH (PV := fun v H' => H' = H ∧ ∃ c : Int, v = .int c) (fun Q2 q2 => ?_) (fun v H' hv => ?_))
  · refine ⟨_, rfl, _, rfl, a, _, rfl, .inl hS, _, _, rfl, rfl, _, rfl, ite2 (fun e => ?_) (fun e => ?_)⟩
    · have e1 := of_decide_eq_true e
      rw [List.length_map] at e1
      have e2 : k < ns.length := by omega
      refine ⟨_, rfl, _, rfl, a, _, _, .int ns[k], rfl, rfl, hS, ?_, q2 _ _ ⟨rfl, _, rfl⟩⟩
      refine atI_nat ?_
      rw [List.getElem?_map, List.getElem?_eq_getElem e2]
      rfl
    · exact q2 _ _ ⟨rfl, _, rfl⟩
  · obtain ⟨rfl, c, rfl⟩ := hv
    dsimp only
    refine st_seq (st_setH (PV := fun v Hx => Hx = H' ∧ v = .int (10 ^ 240)) (fun Q2 q2 => ?_) (fun v Hx hv => ?_))
    · refine ⟨_, _, rfl, rfl, pow_ok (by decide), _, _, rfl, rfl, pow_ok (by decide), _, _, rfl, rfl, wide_mul w60 w60 (by decide) (by decide) (by decide), _, _, rfl, rfl, pow_ok (by decide), _, _, rfl, rfl, wide_mul w120 w60 (by decide) (by decide) (by decide), _, _, rfl, rfl, pow_ok (by decide), _, _, rfl, rfl, wide_mul w180 w60 (by decide) (by decide) (by decide), ?_⟩
      refine q2 _ _ ⟨rfl, ?_⟩
      exact congrArg V.int e240
    obtain ⟨rfl, rfl⟩ := hv
    refine ⟨_, rfl, _, rfl, _, rfl, _, _, rfl, rfl, (show (0 : Int) < 10 ^ 240 by decide), ?_⟩
    refine ⟨_, rfl, _, rfl, _, _, rfl, rfl, pow_ok (by decide), _, _, rfl, rfl, .inr ⟨_, rfl, _, _, rfl, rfl, .inr ?_, ?_⟩⟩
    · have z := if01 (decide (((10 : Int) ^ (18 : Int).toNat) ≤ (if c < 0 then -c else c)))
      exact ⟨Int.lt_of_lt_of_le (by decide) z.1, Int.lt_of_le_of_lt z.2 (by decide)⟩
    · refine ⟨_, rfl, _, _, rfl, rfl, (show (0 : Int) < 2305843009213693951 by decide), _, rfl, _, _, rfl, rfl, .inl (by decide), _, _, rfl, rfl, _, _, rfl, rfl, by show 3 ≤ sizeLine; decide, fun p np => ?_⟩
      refine q _ _ np (fun b o e => ?_) ⟨_, _, _, upd_same, ?_, ?_, ?_, ?_, ?_, ?_⟩
      · rw [upd_ne (ne_of_none e np)]
        exact e
      · exact Int.mul_nonneg (Int.emod_nonneg _ (by decide)) (if01 _).1
      · have h1 : (if c < 0 then -c else c) % (10 ^ 240) < 10 ^ 240 := Int.emod_lt_of_pos _ (by decide)
        have h0 : 0 ≤ (if c < 0 then -c else c) % (10 ^ 240) := Int.emod_nonneg _ (by decide)
        cases (decide (((10 : Int) ^ (18 : Int).toNat) ≤ (if c < 0 then -c else c))) with
        | true =>
          rw [if_pos rfl, Int.mul_one]
          exact h1
        | false =>
          rw [if_neg Bool.false_ne_true, Int.mul_zero]
          decide
      · have h1 : 0 ≤ c % 2305843009213693951 := Int.emod_nonneg _ (by decide)
        omega
      · have h1 : c % 2305843009213693951 < 2305843009213693951 := Int.emod_lt_of_pos _ (by decide)
        have h2 : (2 : Int) ^ 62 = 4611686018427387904 := by decide
        omega
      · decide
      · decide
def primes : List V := [.int 2147483647, .int 2147483629, .int 2147483587, .int 2147483579, .int 2147483563, .int 2147483549, .int 2147483543, .int 2147483497]
theorem primes_in : ∀ v ∈ primes, ∃ q : Int, v = .int q ∧ 0 < q ∧ q < 2147483648 := by
  intro v hv
  simp only [primes, List.mem_cons, List.not_mem_nil, or_false] at hv
  rcases hv with rfl | rfl | rfl | rfl | rfl | rfl | rfl | rfl <;> exact ⟨_, rfl, by decide, by decide⟩
theorem ok_take (T : Tx K mg) : BodyOk P w K mg base "_law_take" s_l_take N_l_take 0 spTake := by
  intro f cdv A outer s H vs Q E hr h
  obtain ⟨h, m, n, rfl, ⟨g, b, c, eh, g0, g1, b0, b1, c0, c1⟩, hn, m0, m1, q⟩ := h
  refine ⟨_, (pss_cons (ps_if (pt_cmpR op_gt (pe_ix ix_list (pv 0) pe_int (fun _ _ => rfl)) pe_int (nomark _)) (pss_cons (ps_set (i := 2) sc_l_take.nd rfl (Or.inl rfl) (pe_op op_mod (pe_ix ix_list (pv 0) pe_int (fun _ _ => rfl)) (pv 1)))
      (pss_cons (ps_asg (pe_op op_fdivW (pe_ix ix_list (pv 0) pe_int (fun _ _ => rfl)) (pv 1)) (pg_sub (pv 0) pe_int set_list))
      (pss_one (ps_ret (pv 2))))) pss_nil)
      (pss_cons (ps_asg (pe_op op_add (pe_ix ix_list (pv 0) pe_int (fun _ _ => rfl)) pe_int) (pg_sub (pv 0) pe_int set_list))
      (pss_cons (ps_set (i := 3) sc_l_take.nd rfl (Or.inl rfl) (pe_lst (pa_cons pe_int (pa_cons pe_int (pa_cons pe_int (pa_cons pe_int (pa_cons pe_int (pa_cons pe_int (pa_cons pe_int (pa_cons pe_int pa_nil))))))))))
      (pss_cons (ps_set (i := 4) sc_l_take.nd rfl (Or.inl rfl) (pe_ix ix_list (pv 3) (pe_op op_mod (pe_ix ix_list (pv 0) pe_int (fun _ _ => rfl)) pe_int) (fun _ _ => rfl)))
      (pss_cons (ps_set (i := 5) sc_l_take.nd rfl (Or.inl rfl) (pe_op op_mod (pe_op op_pow (pe_op op_add (pe_ix ix_list (pv 0) pe_int (fun _ _ => rfl)) (pe_op op_mul pe_int (pe_ix ix_list (pv 0) pe_int (fun _ _ => rfl)))) pe_int) (pv 4)))
      (pss_one (ps_ret (pe_op op_mod (pe_op op_fdivW (pe_op op_mod (pe_op op_mul (pv 5) (pe_op op_add (pe_op op_mod (pv 5) pe_int) (pe_ix ix_list (pv 0) pe_int (fun _ _ => rfl)))) (pv 4)) pe_int) (pv 1))))))))), ?_⟩
  have hn2 : (n : Int) < 100000 := by
    have z : n < 100000 := hn
    omega
  have p18' : (10 : Int) ^ 18 = 1000000000000000000 := by decide
  have p62 : (2 : Int) ^ 62 = 4611686018427387904 := by decide
  refine st_seq ?_
  refine ⟨_, rfl, h, _, _, _, rfl, rfl, SqL.of eh, rfl, _, _, rfl, rfl, _, rfl, ite2 (fun z => ?_) (fun z => ?_)⟩
  · refine ⟨_, rfl, h, _, _, _, rfl, rfl, SqL.of eh, rfl, _, rfl, _, _, rfl, rfl, m0, ?_⟩
    refine ⟨_, rfl, h, _, _, _, rfl, rfl, SqL.of eh, rfl, _, rfl, _, _, rfl, rfl, cdw m0 (by omega), ?_⟩
    refine ⟨_, rfl, h, _, _, 0, rfl, rfl, eh, rfl, ?_⟩
    refine ⟨_, rfl, q _ _ (Int.emod_nonneg _ (by omega)) (Int.emod_lt_of_pos _ m0) ⟨_, b, c, upd_same, ?_, ?_, b0, b1, c0, ?_⟩ Fr.hand⟩
    · exact Int.ediv_nonneg g0 (by omega)
    · exact Int.lt_of_le_of_lt (Int.ediv_le_self _ g0) g1
    · omega
  · refine st_seq ?_
    refine ⟨_, rfl, h, _, _, _, rfl, rfl, SqL.of eh, rfl, _, _, rfl, rfl, _, rfl, h, _, _, 2, rfl, rfl, eh, rfl, ?_⟩
    have e2 : (upd H h (.lst [.int g, .int b, .int (c + 1)])) h = some (.lst [.int g, .int b, .int (c + 1)]) := upd_same
    refine st_seq ⟨by show 8 ≤ sizeLine; decide, fun p np => ?_⟩
    have hpn : h ≠ p := ne_of_none e2 np
    have e3 : (upd (upd H h (.lst [.int g, .int b, .int (c + 1)])) p (.lst primes)) h = some (.lst [.int g, .int b, .int (c + 1)]) := by
      rw [upd_ne hpn]
      exact e2
    obtain ⟨v, ev, hv⟩ := atI_in (xs := primes) (i := (c + 1) % 8) (Int.emod_nonneg _ (by decide)) (Int.emod_lt_of_pos _ (by decide))
    obtain ⟨r, rfl, r0, r1⟩ := primes_in v hv
    refine st_seq ?_
    refine ⟨_, rfl, _, rfl, h, _, _, _, rfl, rfl, SqL.of e3, rfl, _, _, rfl, rfl, (show (0 : Int) < 8 by decide), p, _, _, _, rfl, rfl, SqL.of upd_same, ev, ?_⟩
    refine st_seq ?_
    refine ⟨_, rfl, h, _, _, _, rfl, rfl, SqL.of e3, rfl, _, rfl, h, _, _, _, rfl, rfl, SqL.of e3, rfl, _, _, rfl, rfl, .inl (by decide), _, _, rfl, rfl, _, _, rfl, rfl, pow_ok ⟨by decide, by decide, by omega⟩, _, rfl, _, _, rfl, rfl, r0, ?_⟩
    refine ⟨_, rfl, _, rfl, _, _, rfl, rfl, (show (0 : Int) < 1009 by decide), _, rfl, h, _, _, _, rfl, rfl, SqL.of e3, rfl, _, _, rfl, rfl, _, _, rfl, rfl, .inl ?_, _, rfl, _, _, rfl, rfl, r0, _, _, rfl, rfl, cdw (by decide) (by decide), _, rfl, _, _, rfl, rfl, m0, ?_⟩
    · have h1 : 0 ≤ (b + 7919 * (c + 1)) ^ (5 : Int).toNat % r := Int.emod_nonneg _ (by omega)
      have h2 : (b + 7919 * (c + 1)) ^ (5 : Int).toNat % r < r := Int.emod_lt_of_pos _ r0
      have h3 : (2 : Int) ^ 64 = 18446744073709551616 := by decide
      rw [h3]
      exact ⟨by omega, by omega⟩
    · refine q _ _ (Int.emod_nonneg _ (by omega)) (Int.emod_lt_of_pos _ m0) ⟨g, b, c + 1, e3, g0, g1, b0, b1, by omega, by omega⟩ (Fr.trans Fr.hand (Fr.new np))
end
/-! ### the law's own going round -/
def wayI (x y s : Int) : Int := if x ≤ y then y - x else y - x + s
theorem way_eq {x y s : Int} (x0 : 0 ≤ x) (x1 : x < s) (y0 : 0 ≤ y) (y1 : y < s) : (y - x) % s = wayI x y s := by
  unfold wayI
  split
  · rw [Int.emod_eq_of_lt (by omega) (by omega)]
  · have z : (y - x) % s = (y - x + s) % s := by
      rw [Int.add_emod_right]
    rw [z, Int.emod_eq_of_lt (by omega) (by omega)]
theorem HS.same {h : Addr} {n : Nat} {H H' : Hp} (q : HS h n H) (e : Same H H') : HS h n H' := by
  obtain ⟨g, b, c, eh, r⟩ := q
  exact ⟨g, b, c, e _ _ eh, r⟩
theorem Fr.same {h : Addr} {H H' : Hp} (e : Same H H') : Fr h H H' := fun a o _ q => e a o q
theorem same_new {H : Hp} {p : Addr} {o : HO} (h : H p = none) : Same H (upd H p o) := fun b x e => by
  rw [upd_ne (ne_of_none e h)]
  exact e
theorem seq_new {K : PySem.W.Frag} {H H' : Hp} {a p : Addr} {xs : List V} (q : SqL K H a xs) (e : H p = none) (f : Fr p H H') : SqL K H' a xs := by
  rcases q with (q | ⟨o, q⟩) | q
  · exact .inl (.inl (f _ _ (ne_of_none q e) q))
  · exact .inl (.inr ⟨o, f _ _ (ne_of_none q e) q⟩)
  · exact .inr q
theorem all_rep (n : Nat) : (List.replicate n true).all id = true := by
  rw [List.all_eq_true]
  intro x hx
  exact (List.eq_of_mem_replicate hx)
theorem if_join {c : TT} {t1 t2 : TS} {D : Ends} {σ : L2.St} {H : Hp} (J : L2.St → Hp → Prop) (h : ∀ (N : L2.St → Hp → Prop), (∀ σ' H', J σ' H' → N σ' H') → tIfS c t1 t2 { D with nx := N } σ H) (q : ∀ σ' H', J σ' H' → D.nx σ' H') : tIfS c t1 t2 D σ H := h D.nx q
def spLaw (K : PySem.W.Frag) : Sp := fun vs H Q _ => ∃ (a : Addr) (ns : List Int), vs = [.ref a] ∧ SqL K H a (ns.map V.int) ∧ ns.length ≤ 63 ∧ ∀ H', Q (.bl true) H'
section
variable {P : Program} {w : World} {K : PySem.W.Frag} {mg : Str → Option Value} {base : Heap}
theorem ok_of (T : Tx K mg) (c_l_take : C8.Cal P w K mg base 1 "_law_take" spTake []) : BodyOk P w K mg base "_law_of" s_l_of N_l_of 1 (spOf K) := by
  intro f cdv A outer s H vs Q E hr h
  obtain ⟨h, a, xs, n, rfl, hs, hn, ne, hS, l0, l1, q⟩ := h
  refine ⟨_, (pss_one (ps_ret (pe_ix ix_list (pv 1) (C8.pe_c c_l_take hr (by decide) (gl_of gl_l_of_l_take) (pa_cons (pv 0) (pa_cons (pe_callB call_len_seq (gl_of gl_l_of_len) T.len bb_len (pa_cons (pv 1) pa_nil)) pa_nil))) (fun _ _ => rfl)))), ?_⟩
  refine ⟨_, rfl, _, rfl, _, rfl, a, xs, rfl, .inl hS, h, _, n, rfl, hs, hn, ?_, ?_, fun d H1 d0 d1 hs1 f1 => ?_⟩
  · omega
  · have z : (10 : Int) ^ 18 = 1000000000000000000 := by decide
    omega
  · obtain ⟨v, ev, hv⟩ := atI_in d0 d1
    exact ⟨a, xs, d, v, rfl, rfl, f1.seq ne hS, ev, q v H1 hv hs1 f1⟩
end
/-! ### tuples: sums, slices, whatever they share -/
theorem catA_ev {K : PySem.W.Frag} {H : Hp} {a b : Addr} {xs ys : List V} {Q : VK} (ha : SqT K H a xs) (hb : SqT K H b ys) (hz : xs.length + ys.length ≤ 1000) (go : ∀ p H', Same H H' → SqT K H' p (xs ++ ys) → Q (.ref p) H') : rCatA K (.ref a) (.ref b) H Q := by
  refine ⟨a, b, xs, ys, rfl, rfl, ha, hb, Nat.le_of_lt (small1000 hz), fun e => ?_, fun e1 e2 => ?_, fun e1 e2 p np => ?_⟩
  · subst e
    exact go b H (fun _ _ q => q) hb
  · subst e2
    refine go a H (fun _ _ q => q) ?_
    rw [List.append_nil]
    exact ha
  · exact go p _ (same_new np) (SqT.of upd_same)
theorem slA_ev {K : PySem.W.Frag} {H : Hp} {a : Addr} {xs : List V} {lo hi : Option Int} {Q : VK} (ha : SqT K H a xs) (go : ∀ p H', Same H H' → SqT K H' p (cutV xs lo hi) → Q (.ref p) H') : rSlA K (.ref a) lo hi H Q := by
  refine ⟨a, xs, rfl, ha, fun e => ?_, fun e p np => ?_⟩
  · refine go a H (fun _ _ q => q) ?_
    unfold cutV
    rw [e.1, e.2, List.drop_zero, Nat.sub_zero, List.take_length]
    exact ha
  · exact go p _ (same_new np) (SqT.of upd_same)
theorem sqT_fr {K : PySem.W.Frag} {L : Addr} {H H' : Hp} {a : Addr} {xs zs : List V} (eL : H L = some (.lst zs)) (f : Fr L H H') (s : SqT K H a xs) : SqT K H' a xs := by
  rcases s with (s | ⟨o, s⟩) | s
  · exact .inl (.inl (f _ _ (fun e => by rw [e, eL] at s; cases s) s))
  · exact .inl (.inr ⟨o, f _ _ (fun e => by rw [e, eL] at s; cases s) s⟩)
  · exact .inr s
theorem HS.fr {h L : Addr} {n : Nat} {H H' : Hp} (q : HS h n H) (f : Fr L H H') (ne : L ≠ h) : HS h n H' := by
  obtain ⟨g, b, c, eh, r⟩ := q
  exact ⟨g, b, c, f _ _ ne.symm eh, r⟩
theorem HS.upd {h L : Addr} {n : Nat} {H : Hp} {o : HO} (q : HS h n H) (ne : L ≠ h) : HS h n (upd H L o) := by
  obtain ⟨g, b, c, eh, r⟩ := q
  exact ⟨g, b, c, (by rw [upd_ne ne.symm]; exact eh), r⟩
theorem lg {i : Int} (h : i.natAbs < 2 ^ 64) : i.natAbs.log2 < 1920 := by
  by_cases z : i.natAbs = 0
  · rw [z]
    decide
  · rw [Nat.log2_lt z]
    exact Nat.lt_trans h (Nat.pow_lt_pow_right (by decide) (by decide))
theorem same_mut {H H' : Hp} {p : Addr} {o : HO} (e : Same H H') (h : H p = none) : Same H (upd H' p o) := fun b x q => by
  rw [upd_ne (ne_of_none q h)]
  exact e b x q
theorem dec_refl (v : V) : decide (v = v) = true := decide_eq_true rfl
theorem take_add1 {α : Type} (l : List α) (i : Nat) (h : i < l.length) : l.take (i + 1) = l.take i ++ [l[i]] := by
  rw [List.take_succ, List.getElem?_eq_getElem h]
  rfl
/-! ### small data -/
structure Small (m : Nat) (d : PyData) : Prop where
  sh : d.showable = true
  nd : d.hasDict = false
  dp : d.depth ≤ 3
  ls : d.leavesShort 20 = true
  wt : d.weight ≤ m
theorem Small.fits {m : Nat} {d : PyData} (s : Small m d) (h : m ≤ 100000) : d.showable = true ∧ d.hasDict = false ∧ d.depth ≤ 60 ∧ d.shown.length ≤ sizeLine := by
  have o3 := s.dp
  have o5 := s.wt
  refine ⟨s.sh, s.nd, by omega, ?_⟩
  have z := PyData.shown_le 20 (by decide) d s.ls
  have e : sizeLine = 16777216 := sizeLine_eq
  omega
/-- a thing without parts, and its data -/
structure Lf (v : V) (d : PyData) : Prop where
  at_ : ∀ (K : PySem.W.Frag) (H : Hp), Dp K H v d
  sh : d.showable = true
  nd : d.hasDict = false
  dp : d.depth = 0
  ls : d.leavesShort 20 = true
  wt : d.weight ≤ 64
theorem Lf.small {v : V} {d : PyData} (l : Lf v d) : Small 64 d := ⟨l.sh, l.nd, by rw [l.dp]; decide, l.ls, l.wt⟩
theorem lf_non : Lf .non .none := ⟨fun _ _ => .non, rfl, rfl, rfl, rfl, by decide⟩
theorem lf_int {i : Int} (h : i.natAbs < 2 ^ 62) : Lf (.int i) (.int i) := by
  have e62 : (2 : Nat) ^ 62 = 4611686018427387904 := by decide
  refine ⟨fun _ _ => .int i, decide_eq_true (lg (Nat.lt_trans h (by decide))), rfl, rfl, ?_, ?_⟩
  · show decide ((PyData.shown (.int i)).length ≤ 20) = true
    refine decide_eq_true ?_
    have e := int_text_length_le10 (k := 19) (a := i) (by decide) (by omega)
    show (Str.ofString (toString i)).length ≤ 20
    rw [PySem.ofString_length]
    exact e
  · show (if i == 0 then 0 else i.natAbs.log2 + 1) ≤ 64
    split
    · decide
    · rename_i z
      have z1 : i.natAbs ≠ 0 := fun e => z (by simpa using e)
      have z2 := (Nat.log2_lt z1).mpr h
      omega
theorem lf_str {z : Str} (h : z.cps.size ≤ 64) (ha : (z.cps.toList.all fun c => decide (c < 16 ^ 8)) = true) : Lf (.str z) (.str z) := ⟨fun _ _ => .str z, rfl, rfl, rfl, ha, h⟩
def onV : Option Int → V
  | none => .non
  | some i => .int i
def onD : Option Int → PyData
  | none => .none
  | some i => .int i
theorem lf_on {x : Option Int} (h : ∀ i, x = some i → 0 ≤ i ∧ i < 1048576) : Lf (onV x) (onD x) := by
  cases x with
  | none => exact lf_non
  | some i =>
    have z := h i rfl
    have e62 : (2 : Nat) ^ 62 = 4611686018427387904 := by decide
    exact lf_int (by omega)
theorem small_tup4 {K : PySem.W.Frag} {H : Hp} {p : Addr} {a b c d : V} {da db dc dd : PyData} (h : SqT K H p [a, b, c, d]) (la : Lf a da) (lb : Lf b db) (lc : Lf c dc) (ld : Lf d dd) :
    Dp K H (.ref p) (.tuple [da, db, dc, dd]) ∧ Small 300 (.tuple [da, db, dc, dd]) := by
  refine ⟨.tup h (.cons (la.at_ K H) (.cons (lb.at_ K H) (.cons (lc.at_ K H) (.cons (ld.at_ K H) .nil)))), ?_, ?_, ?_, ?_, ?_⟩
  · simp only [PyData.showable, PyData.showableAll, la.sh, lb.sh, lc.sh, ld.sh, Bool.and_self]
  · simp only [PyData.hasDict, PyData.hasDictAll, la.nd, lb.nd, lc.nd, ld.nd, Bool.or_self]
  · simp only [PyData.depth, PyData.depthAll, la.dp, lb.dp, lc.dp, ld.dp]
    decide
  · simp only [PyData.leavesShort, PyData.leavesShortAll, la.ls, lb.ls, lc.ls, ld.ls, Bool.and_self]
  · simp only [PyData.weight, PyData.weightAll]
    have := la.wt
    have := lb.wt
    have := lc.wt
    have := ld.wt
    omega
/-! ### rounds -/
theorem HS.neT {h : Addr} {n : Nat} {H : Hp} {p : Addr} {xs : List V} (q : HS h n H) (e : H p = some (.tup xs)) : p ≠ h := by
  obtain ⟨g, b, c, eh, _⟩ := q
  intro z
  rw [z, eh] at e
  cases e
theorem HS.sqT {h : Addr} {n : Nat} {K : PySem.W.Frag} {H H' : Hp} {a : Addr} {xs : List V} (q : HS h n H) (f : Fr h H H') (s : SqT K H a xs) : SqT K H' a xs := by
  obtain ⟨g, b, c, eh, _⟩ := q
  rcases s with (s | ⟨o, s⟩) | s
  · exact .inl (.inl (f _ _ (fun e => by rw [e, eh] at s; cases s) s))
  · exact .inl (.inr ⟨o, f _ _ (fun e => by rw [e, eh] at s; cases s) s⟩)
  · exact .inr s
theorem sqT_same {K : PySem.W.Frag} {H H' : Hp} {a : Addr} {xs : List V} (s : Same H H') (h : SqT K H a xs) : SqT K H' a xs := by
  rcases h with (h | ⟨o, h⟩) | h
  · exact .inl (.inl (s _ _ h))
  · exact .inl (.inr ⟨o, s _ _ h⟩)
  · exact .inr h
theorem flat_ints : ∀ ks : List Int, (ks.map V.int).all flatV = true
  | [] => rfl
  | k :: r => by
    show (flatV (.int k) && (r.map V.int).all flatV) = true
    rw [flat_ints r]
    rfl
/-- at a a tuple of pairs of whole numbers -/
def Rs (K : PySem.W.Frag) (H : Hp) (a : Addr) (rs : List (Int × Int)) : Prop := ∃ vs : List V, SqT K H a vs ∧ vs.length = rs.length ∧ ∀ (i : Nat) (r : Int × Int), rs[i]? = some r → ∃ b : Addr, vs[i]? = some (V.ref b) ∧ SqT K H b [.int r.1, .int r.2]
theorem Rs.same {K : PySem.W.Frag} {H H' : Hp} {a : Addr} {rs : List (Int × Int)} (q : Rs K H a rs) (s : Same H H') : Rs K H' a rs := by
  obtain ⟨vs, h1, h2, h3⟩ := q
  refine ⟨vs, sqT_same s h1, h2, fun i r hr => ?_⟩
  obtain ⟨b, e, hb⟩ := h3 i r hr
  exact ⟨b, e, sqT_same s hb⟩
theorem Rs.fr {K : PySem.W.Frag} {h : Addr} {n : Nat} {H H' : Hp} {a : Addr} {rs : List (Int × Int)} (q : Rs K H a rs) (hs : HS h n H) (f : Fr h H H') : Rs K H' a rs := by
  obtain ⟨vs, h1, h2, h3⟩ := q
  refine ⟨vs, hs.sqT f h1, h2, fun i r hr => ?_⟩
  obtain ⟨b, e, hb⟩ := h3 i r hr
  exact ⟨b, e, hs.sqT f hb⟩
def lft (b : Bool) (l st : Int) : Int := if b = true ∧ l < st then l else st
theorem lft_le (b : Bool) (l st : Int) : lft b l st ≤ st := by
  unfold lft
  split <;> omega
theorem lft_ge {b : Bool} {l st : Int} (h : 0 ≤ l) (h2 : 0 ≤ st) : 0 ≤ lft b l st := by
  unfold lft
  split <;> omega
/-- the steps behind each round, to the first above the room -/
def pas (sm : Nat → Bool) (room : Int) : List (Int × Int) → Nat → Int → List Int
  | [], _, _ => []
  | r :: rs, k, st => if room < lft (sm k) r.2 st + r.1 then [lft (sm k) r.2 st + r.1] else (lft (sm k) r.2 st + r.1) :: pas sm room rs (k + 1) (lft (sm k) r.2 st + r.1)
theorem pas_len (sm : Nat → Bool) (room : Int) : ∀ (rs : List (Int × Int)) (k : Nat) (st : Int), (pas sm room rs k st).length ≤ rs.length
  | [], _, _ => Nat.le_refl _
  | r :: rs, k, st => by
    unfold pas
    split
    · simp
    · simp only [List.length_cons]
      have := pas_len sm room rs (k + 1) (lft (sm k) r.2 st + r.1)
      omega
theorem pas_bound (sm : Nat → Bool) (room B : Int) : ∀ (rs : List (Int × Int)) (k : Nat) (st : Int), 0 ≤ st → (∀ r ∈ rs, 0 ≤ r.1 ∧ r.1 ≤ B ∧ 0 ≤ r.2) → ∀ x ∈ pas sm room rs k st, 0 ≤ x ∧ x ≤ st + B * rs.length
  | [], _, _, _, _, x, hx => by cases hx
  | r :: rs, k, st, h0, hr, x, hx => by
    have r0 := hr r (List.mem_cons_self ..)
    have B0 : 0 ≤ B := by omega
    have z1 : 0 ≤ lft (sm k) r.2 st ∧ lft (sm k) r.2 st ≤ st := ⟨lft_ge r0.2.2 h0, lft_le _ _ _⟩
    have e : B * ((r :: rs).length : Int) = B * rs.length + B := by
      rw [List.length_cons, Int.natCast_add, Int.mul_add]
      simp
    have m0 : 0 ≤ B * (rs.length : Int) := Int.mul_nonneg B0 (by omega)
    rw [e]
    unfold pas at hx
    split at hx
    · rw [List.mem_singleton.mp hx]
      omega
    · rcases List.mem_cons.mp hx with z | z
      · rw [z]
        omega
      · have ih := pas_bound sm room B rs (k + 1) _ (by omega) (fun q hq => hr q (List.mem_cons_of_mem _ hq)) x z
        omega
/-- one turn of the loop: what is told so far, what stands -/
theorem pas_turn {sm : Nat → Bool} {room : Int} {rs : List (Int × Int)} {i : Nat} {r : Int × Int} {st : Int} {acc tot : List Int} (hr : rs[i]? = some r) (h : tot = acc ++ pas sm room (rs.drop i) i st) :
    (room < lft (sm i) r.2 st + r.1 → tot = acc ++ [lft (sm i) r.2 st + r.1]) ∧
    (¬ room < lft (sm i) r.2 st + r.1 → tot = (acc ++ [lft (sm i) r.2 st + r.1]) ++ pas sm room (rs.drop (i + 1)) (i + 1) (lft (sm i) r.2 st + r.1)) := by
  obtain ⟨hi, e⟩ := List.getElem?_eq_some_iff.mp hr
  have ed : rs.drop i = r :: rs.drop (i + 1) := by
    rw [List.drop_eq_getElem_cons hi, e]
  rw [ed] at h
  unfold pas at h
  refine ⟨fun c => ?_, fun c => ?_⟩
  · rw [if_pos c] at h
    exact h
  · rw [if_neg c] at h
    rw [h, List.append_assoc]
    rfl
def spPasses (K : PySem.W.Frag) : Sp := fun vs H Q _ => ∃ (a b : Addr) (room : Int) (rs : List (Int × Int)) (ys : List Int), vs = [.ref a, .ref b, .int room] ∧ Rs K H a rs ∧ rs.length ≤ 1000 ∧ SqT K H b (ys.map V.int) ∧
  ∀ p H', Same H H' → SqT K H' p ((pas (fun k => inV (.int (k : Nat)) (ys.map V.int)) room rs 0 0).map V.int) → Q (.ref p) H'
def spStepsL (K : PySem.W.Frag) : Sp := fun vs H Q _ => ∃ (a b : Addr) (room : Int) (rs : List (Int × Int)) (ys : List Int), vs = [.ref a, .ref b, .int room] ∧ Rs K H a rs ∧ rs.length ≤ 1000 ∧ SqT K H b (ys.map V.int) ∧
  ∀ p H', H p = none → Same H H' → H' p = some (.lst ((pas (fun k => inV (.int (k : Nat)) (ys.map V.int)) room rs 0 0).map V.int)) → Q (.ref p) H'
/-! ### lists of small data -/
structure SmallA (m D : Nat) (ds : List PyData) : Prop where
  sh : PyData.showableAll ds = true
  nd : PyData.hasDictAll ds = false
  dp : PyData.depthAll ds ≤ D
  ls : PyData.leavesShortAll 20 ds = true
  wt : PyData.weightAll ds ≤ m
theorem SmallA.nil {m D : Nat} : SmallA m D [] := ⟨rfl, rfl, Nat.zero_le _, rfl, Nat.zero_le _⟩
theorem SmallA.cons {m a D : Nat} {d : PyData} {ds : List PyData} (h : Small a d) (hd : d.depth ≤ D) (t : SmallA m D ds) : SmallA (m + a + 2) D (d :: ds) := by
  refine ⟨?_, ?_, ?_, ?_, ?_⟩
  · simp only [PyData.showableAll, h.sh, t.sh, Bool.and_self]
  · simp only [PyData.hasDictAll, h.nd, t.nd, Bool.or_self]
  · have := t.dp
    simp only [PyData.depthAll]
    omega
  · simp only [PyData.leavesShortAll, h.ls, t.ls, Bool.and_self]
  · have := t.wt
    have := h.wt
    simp only [PyData.weightAll]
    omega
theorem SmallA.mono {m m' D : Nat} {ds : List PyData} (h : SmallA m D ds) (l : m ≤ m') : SmallA m' D ds := ⟨h.sh, h.nd, h.dp, h.ls, Nat.le_trans h.wt l⟩
theorem SmallA.all {a D : Nat} : ∀ {ds : List PyData}, (∀ d ∈ ds, Small a d ∧ d.depth ≤ D) → SmallA ((a + 2) * ds.length) D ds
  | [], _ => .nil
  | d :: ds, h => by
    have z := SmallA.all (ds := ds) fun x hx => h x (List.mem_cons_of_mem _ hx)
    have y := h d (List.mem_cons_self ..)
    refine (SmallA.cons y.1 y.2 z).mono ?_
    rw [List.length_cons, Nat.mul_add]
    omega
theorem SmallA.tup {m : Nat} {ds : List PyData} (h : SmallA m 2 ds) : Small m (.tuple ds) := by
  refine ⟨?_, ?_, ?_, ?_, ?_⟩
  · simp only [PyData.showable, h.sh]
  · simp only [PyData.hasDict, h.nd]
  · have := h.dp
    simp only [PyData.depth]
    omega
  · simp only [PyData.leavesShort, h.ls]
  · simp only [PyData.weight]
    exact h.wt
theorem dpAll_ints (K : PySem.W.Frag) (H : Hp) : ∀ ns : List Int, DpAll K H (ns.map V.int) (ns.map PyData.int)
  | [] => .nil
  | n :: ns => .cons (.int n) (dpAll_ints K H ns)
theorem ints_data {K : PySem.W.Frag} {H : Hp} {p : Addr} {ns : List Int} (h : SqT K H p (ns.map V.int)) (hb : ∀ x ∈ ns, x.natAbs < 2 ^ 62) (hl : ns.length ≤ 1000) : Dp K H (.ref p) (.tuple (ns.map PyData.int)) ∧ Small 66000 (.tuple (ns.map PyData.int)) := by
  refine ⟨.tup h (dpAll_ints K H ns), SmallA.tup (SmallA.mono (SmallA.all (a := 64) (D := 2) (ds := ns.map PyData.int) fun d hd => ?_) ?_)⟩
  · obtain ⟨x, hx, rfl⟩ := List.mem_map.mp hd
    have l := lf_int (hb x hx)
    exact ⟨l.small, by rw [l.dp]; decide⟩
  · rw [List.length_map]
    omega
def rsD (rs : List (Int × Int)) : List PyData := rs.map fun r => .tuple [.int r.1, .int r.2]
theorem small_pair {x y : Int} (hx : x.natAbs < 2 ^ 62) (hy : y.natAbs < 2 ^ 62) : Small 140 (.tuple [.int x, .int y]) ∧ (PyData.tuple [.int x, .int y]).depth ≤ 2 := by
  have l1 := lf_int hx
  have l2 := lf_int hy
  have z : SmallA 136 0 [.int x, .int y] := (SmallA.cons l1.small (by rw [l1.dp]; decide) (SmallA.cons l2.small (by rw [l2.dp]; decide) (SmallA.nil (m := 0)))).mono (by decide)
  have z2 : SmallA 136 2 [.int x, .int y] := ⟨z.sh, z.nd, Nat.le_trans z.dp (by decide), z.ls, z.wt⟩
  have z3 := SmallA.tup z2
  refine ⟨⟨z3.sh, z3.nd, z3.dp, z3.ls, Nat.le_trans z3.wt (by decide)⟩, ?_⟩
  have := z.dp
  simp only [PyData.depth]
  omega
theorem rs_all {K : PySem.W.Frag} {H : Hp} : ∀ {vs : List V} {rs : List (Int × Int)}, vs.length = rs.length → (∀ (i : Nat) (r : Int × Int), rs[i]? = some r → ∃ b, vs[i]? = some (.ref b) ∧ SqT K H b [.int r.1, .int r.2]) → DpAll K H vs (rsD rs)
  | [], [], _, _ => .nil
  | [], _ :: _, h, _ => by cases h
  | _ :: _, [], h, _ => by cases h
  | v :: vs, r :: rs, h, g => by
    obtain ⟨b, e, hb⟩ := g 0 r rfl
    cases e
    exact .cons (.tup hb (.cons (.int _) (.cons (.int _) .nil))) (rs_all (Nat.succ.inj h) fun i q hq => g (i + 1) q hq)
theorem rs_data {K : PySem.W.Frag} {H : Hp} {p : Addr} {rs : List (Int × Int)} (h : Rs K H p rs) (hb : ∀ r ∈ rs, r.1.natAbs < 2 ^ 62 ∧ r.2.natAbs < 2 ^ 62) (hl : rs.length ≤ 100) : Dp K H (.ref p) (.tuple (rsD rs)) ∧ Small 20000 (.tuple (rsD rs)) := by
  obtain ⟨vs, h1, h2, h3⟩ := h
  refine ⟨.tup h1 (rs_all h2 h3), SmallA.tup (SmallA.mono (SmallA.all (a := 140) (D := 2) (ds := rsD rs) fun d hd => ?_) ?_)⟩
  · obtain ⟨r, hr, rfl⟩ := List.mem_map.mp hd
    exact small_pair (hb r hr).1 (hb r hr).2
  · unfold rsD
    rw [List.length_map]
    omega
/-- the law's body, called by the caller itself -/
def BodyAt (P : Program) (w : World) (K : PySem.W.Frag) (mg : Str → Option Value) (base : Heap) (x : Str) (st : Stmt) (N : List Str) (k : Nat) (sp : Sp) : Prop :=
  ∀ (f : Addr) (cdv : Value) (s : Shared) (H : Hp) (vs : List V) (Q : VK) (E : XK), Room k (callerA.deeper (envOfC x (defScope st) s.heap.objs.size f cdv)) → sp vs H Q E →
      ∃ t, PSs (cxOf CX0 P w K mg base N x (defScope st) f cdv callerA [] s H E).nox (defBody st) t ∧ t { nx := fun _ H' => Q .non H', rt := Q } (start N vs) H
/-! ### k50: the walk, number by number -/
def stp (T g l n : Nat) (s : List Nat × Nat) : List Nat × Nat := (if n % g = 0 then s.1.set ((n / g - 1) % T) (n - l) else s.1, Nat.max s.2 (n - s.1.foldl Nat.min (n - l)))
def run5 (T g l : Nat) : Nat → List Nat × Nat
  | 0 => (List.replicate T 0, 0)
  | n + 1 => stp T g l (n + 1) (run5 T g l n)
def chk5 (T g l : Nat) : Bool := Nat.beq (run5 T g l (g * (2 * T + 1) + 2 * l + 1)).2 (T * g + l)
def chkT (T : Nat) : Bool := (List.range 9).all fun g => (List.range 20).all fun l => chk5 T (g + 1) (l + 1)
theorem chk_1 : chkT 1 = true := by decide +kernel
theorem chk_2 : chkT 2 = true := by decide +kernel
theorem chk_3 : chkT 3 = true := by decide +kernel
theorem chk_4 : chkT 4 = true := by decide +kernel
theorem chk_5 : chkT 5 = true := by decide +kernel
theorem chk_6 : chkT 6 = true := by decide +kernel
theorem walked {T g l : Nat} (T0 : 1 ≤ T) (T1 : T ≤ 6) (g0 : 1 ≤ g) (g1 : g ≤ 9) (l0 : 1 ≤ l) (l1 : l ≤ 20) : (run5 T g l (g * (2 * T + 1) + 2 * l + 1)).2 = T * g + l := by
  have h : chkT T = true := by
    match T, T0, T1 with
    | 1, _, _ => exact chk_1
    | 2, _, _ => exact chk_2
    | 3, _, _ => exact chk_3
    | 4, _, _ => exact chk_4
    | 5, _, _ => exact chk_5
    | 6, _, _ => exact chk_6
    | n + 7, _, h => exact absurd h (by omega)
  have h1 := List.all_eq_true.mp h (g - 1) (List.mem_range.mpr (by omega))
  have h2 := List.all_eq_true.mp h1 (l - 1) (List.mem_range.mpr (by omega))
  rw [show g - 1 + 1 = g by omega, show l - 1 + 1 = l by omega] at h2
  exact Nat.eq_of_beq_eq_true h2
theorem run_len (T g l : Nat) : ∀ n, (run5 T g l n).1.length = T
  | 0 => List.length_replicate
  | n + 1 => by
    show (if (n + 1) % g = 0 then (run5 T g l n).1.set (((n + 1) / g - 1) % T) (n + 1 - l) else (run5 T g l n).1).length = T
    split
    · rw [List.length_set]
      exact run_len T g l n
    · exact run_len T g l n
theorem fold_min : ∀ (es : List Nat) (x : Nat), (es.foldl Nat.min x ∈ x :: es) ∧ es.foldl Nat.min x ≤ x ∧ ∀ e ∈ es, es.foldl Nat.min x ≤ e
  | [], x => ⟨List.mem_cons_self .., Nat.le_refl _, fun e h => by cases h⟩
  | y :: es, x => by
    obtain ⟨h1, h2, h3⟩ := fold_min es (Nat.min x y)
    have e : (y :: es).foldl Nat.min x = es.foldl Nat.min (Nat.min x y) := rfl
    rw [e]
    have a : Nat.min x y ≤ x := Nat.min_le_left x y
    have b : Nat.min x y ≤ y := Nat.min_le_right x y
    refine ⟨?_, Nat.le_trans h2 a, fun z hz => ?_⟩
    · rcases List.mem_cons.mp h1 with q | q
      · rw [q]
        rcases Nat.le_total x y with c | c
        · rw [show Nat.min x y = x from Nat.min_eq_left c]
          exact List.mem_cons_self ..
        · rw [show Nat.min x y = y from Nat.min_eq_right c]
          exact List.mem_cons_of_mem _ (List.mem_cons_self ..)
      · exact List.mem_cons_of_mem _ (List.mem_cons_of_mem _ q)
    · rcases List.mem_cons.mp hz with q | q
      · rw [q]
        exact Nat.le_trans h2 b
      · exact h3 z q
theorem min_is {es : List Nat} {x : Nat} {m : Int} (hm : m ∈ (es.map fun e => ((e : Nat) : Int)) ++ [((x : Nat) : Int)]) (hle : ∀ y ∈ (es.map fun e => ((e : Nat) : Int)) ++ [((x : Nat) : Int)], m ≤ y) : m = ((es.foldl Nat.min x : Nat) : Int) := by
  obtain ⟨h1, h2, h3⟩ := fold_min es x
  have up : m ≤ ((es.foldl Nat.min x : Nat) : Int) := by
    refine hle _ ?_
    rcases List.mem_cons.mp h1 with q | q
    · rw [q]
      exact List.mem_append_right _ (List.mem_cons_self ..)
    · exact List.mem_append_left _ (List.mem_map.mpr ⟨_, q, rfl⟩)
  rcases List.mem_append.mp hm with q | q
  · obtain ⟨e, he, rfl⟩ := List.mem_map.mp q
    have := h3 e he
    omega
  · have q2 := List.mem_singleton.mp q
    omega
theorem ixN_ok {n j : Nat} {i : Int} (e : i = (j : Nat)) (h : j < n) : ixN n i = some j := by
  subst e
  unfold ixN
  rw [if_pos (by omega), if_pos (by omega), Int.toNat_natCast]
theorem rep_ints (k : Nat) (x : Int) : (List.replicate k [V.int x]).flatten = (List.replicate k x).map V.int := by
  induction k with
  | zero => rfl
  | succ k ih =>
    rw [List.replicate_succ, List.replicate_succ, List.flatten_cons, ih]
    rfl
theorem sum_rep (k : Nat) (x : Int) : (List.replicate k x).sum = k * x := by
  induction k with
  | zero => simp
  | succ k ih =>
    rw [List.replicate_succ, List.sum_cons, ih, Int.natCast_add, Int.add_mul]
    omega
def spWorst : Sp := fun vs H Q _ => ∃ (T e l : Int), vs = [.int T, .int e, .int l] ∧ 0 ≤ T ∧ T ≤ 1000 ∧ Q (.int (T * e + l)) H
def spWalked : Sp := fun vs H Q _ => ∃ (T g l : Int), vs = [.int T, .int g, .int l] ∧ 1 ≤ T ∧ T ≤ 6 ∧ 1 ≤ g ∧ g ≤ 9 ∧ 1 ≤ l ∧ l ≤ 20 ∧ ∀ H', Same H H' → Q (.int (T * g + l)) H'
abbrev gEL (vs zs : List V) : List V := vs ++ [zs.getD 0 .non, zs.getD 1 .non]
abbrev gLE (vs zs : List V) : List V := vs ++ [zs.getD 1 .non, zs.getD 0 .non]
theorem kw_need {P : Program} {w : World} {K : PySem.W.Frag} {h : Heap} {mg : Str → Option Value} {base : Heap} {x : Str} {st : Stmt} {N : List Str} {p1 y1 y2 : Str} {k : Nat} {sp : Sp} (X : K.In h) (G : h.Ns mainGlobals mg) (g : (He.Fa.glo x).ok K = true)
    (F : ∃ fd, FunD K x x (defArgs st) (defBody st) (defScope st) [] [] (He.ga K x) fd) (S : FnScope N [p1, y1, y2] (defScope st)) (len : ∀ vs H Q E, sp vs H Q E → vs.length = 3) (hb : BodyOk P w K mg base x st N k sp)
    (b1 : ∀ (kV doc pm : Value) (an : Option Addr) (cdv ct : Value) (a e l : Value), bindArgs (PySem.W.fnOf x x (defArgs st) (defBody st) (defScope st) .none kV doc pm an cdv ct) ⟨[a], [(y1, e), (y2, l)]⟩ = pure ([p1, y1, y2].zip [a, e, l]))
    (b2 : ∀ (kV doc pm : Value) (an : Option Addr) (cdv ct : Value) (a e l : Value), bindArgs (PySem.W.fnOf x x (defArgs st) (defBody st) (defScope st) .none kV doc pm an cdv ct) ⟨[a], [(y2, l), (y1, e)]⟩ = pure ([p1, y1, y2].zip [a, e, l])) :
    CalW P w K mg base (k + 1) x 1 [y1, y2] gEL sp ∧ CalW P w K mg base (k + 1) x 1 [y2, y1] gLE sp := by
  obtain ⟨fd, F⟩ := F
  have hok : FnOk P w K mg base CX0 (k + 1) (He.ga K x) fd [p1, y1, y2] sp := F.ok (CX := CX0) S (fun vs H Q E h => len vs H Q E h) (fun cdv A outer s H vs Q E hr h => by
    obtain ⟨t, h1, h2⟩ := hb _ cdv A outer s H vs Q E hr h
    exact ⟨t, h1.nox, h2⟩)
  refine ⟨⟨_, fd, _, fun us ws => us ++ [ws.getD 0 .none, ws.getD 1 .none], hok, He.glo_ok X G g, F.kp, ⟨fun s us ws _ l1 l2 => ?_, fun r1 r2 => r1.append (.cons (vals_getD r2 0) (.cons (vals_getD r2 1) .nil))⟩⟩, ⟨_, fd, _, fun us ws => us ++ [ws.getD 1 .none, ws.getD 0 .none], hok, He.glo_ok X G g, F.kp, ⟨fun s us ws _ l1 l2 => ?_, fun r1 r2 => r1.append (.cons (vals_getD r2 1) (.cons (vals_getD r2 0) .nil))⟩⟩⟩
  · obtain ⟨oc, od, dV, kV, doc, pm, an, cdv, ct, osl, rfl, lk, hcd, hD, hK⟩ := F.ex
    rcases hD with ⟨_, rfl⟩ | ⟨e, _⟩
    · match us, ws, l1, l2 with
      | [a], [e, l], _, _ => exact .of_eq (b1 kV doc pm an cdv ct a e l)
    · exact absurd rfl e
  · obtain ⟨oc, od, dV, kV, doc, pm, an, cdv, ct, osl, rfl, lk, hcd, hD, hK⟩ := F.ex
    rcases hD with ⟨_, rfl⟩ | ⟨e, _⟩
    · match us, ws, l1, l2 with
      | [a], [l, e], _, _ => exact .of_eq (b2 kV doc pm an cdv ct a e l)
    · exact absurd rfl e
section
variable {P : Program} {w : World} {K : PySem.W.Frag} {mg : Str → Option Value} {base : Heap}
theorem ok_worst : BodyOk P w K mg base "worst" s_worst N_worst 0 spWorst := by
  intro f cdv A outer s H vs Q E hr h
  obtain ⟨T, e, l, rfl, T0, T1, q⟩ := h
  refine ⟨_, (pss_one (ps_ret (pe_op op_add (pe_op op_mul (pv 0) (pv 1)) (pv 2)))), ?_⟩
  exact ⟨_, rfl, _, rfl, _, _, rfl, rfl, .inl ⟨by omega, by omega⟩, _, rfl, _, _, rfl, rfl, q⟩
theorem ok_walked (T : Tx K mg) : BodyOk P w K mg base "_law_walked" s_l_walked N_l_walked 0 spWalked := by
  intro f cdv A outer s H vs Q E hr h
  obtain ⟨t', g', l', rfl, t0', t1', g0', g1', l0', l1', q'⟩ := h
  obtain ⟨t, rfl⟩ := Int.eq_ofNat_of_zero_le (show 0 ≤ t' by omega)
  obtain ⟨g, rfl⟩ := Int.eq_ofNat_of_zero_le (show 0 ≤ g' by omega)
  obtain ⟨l, rfl⟩ := Int.eq_ofNat_of_zero_le (show 0 ≤ l' by omega)
  have t0 : 1 ≤ t := by omega
  have t1 : t ≤ 6 := by omega
  have g0 : 1 ≤ g := by omega
  have g1 : g ≤ 9 := by omega
  have l0 : 1 ≤ l := by omega
  have l1 : l ≤ 20 := by omega
  have q : ∀ H', Same H H' → Q (.int ((t * g + l : Nat) : Int)) H' := fun H' s' => by
    rw [Int.natCast_add, Int.natCast_mul]
    exact q' H' s'
  refine ⟨_, (pss_cons (ps_par (i := 3) (j := 4) (by rfl) sc_l_walked.nd rfl rfl (by decide) rfl rfl (pa_cons (pe_op op_rep (pe_lst (pa_cons pe_int pa_nil)) (pv 0)) (pa_cons pe_int pa_nil)) (by rfl))
      (pss_cons (ps_for PassesOwn.never rfl (pi_range2 (by rfl) T.range (pa_cons pe_int (pa_cons (pe_op op_add (pe_op op_add (pe_op op_mul (pv 1) (pe_op op_add (pe_op op_mul pe_int (pv 0)) pe_int)) (pe_op op_mul pe_int (pv 2))) pe_int) pa_nil))) (pg_name (i := 5) sc_l_walked.nd rfl (Or.inl rfl)) (pss_cons (ps_set (i := 6) sc_l_walked.nd rfl (Or.inl rfl) (pe_callB (cr_min rfl) (gl_of gl_l_walked_min) T.min bb_min (pa_cons (pe_op op_cat (pv 3) (pe_lst (pa_cons (pe_callB (call_max2 rfl) (gl_of gl_l_walked_max) T.max bb_max (pa_cons pe_int (pa_cons (pe_op op_sub (pv 5) (pv 2)) pa_nil))) pa_nil))) pa_nil)))
      (pss_cons (ps_set (i := 4) sc_l_walked.nd rfl (Or.inl rfl) (pe_callB (call_max2 rfl) (gl_of gl_l_walked_max) T.max bb_max (pa_cons (pv 4) (pa_cons (pe_op op_sub (pv 5) (pv 6)) pa_nil))))
      (pss_one (ps_if (pt_cmpR op_eq (pe_op op_sub (pv 5) (pe_op op_mul (pe_op op_fdivW (pv 5) (pv 1)) (pv 1))) pe_int (nomark _)) (pss_cons (ps_set (i := 7) sc_l_walked.nd rfl (Or.inl rfl) (pe_op op_sub (pe_op op_fdivW (pv 5) (pv 1)) pe_int))
      (pss_one (ps_asg (pe_callB (call_max2 rfl) (gl_of gl_l_walked_max) T.max bb_max (pa_cons pe_int (pa_cons (pe_op op_sub (pv 5) (pv 2)) pa_nil))) (pg_sub (pv 3) (pe_op op_sub (pv 7) (pe_op op_mul (pe_op op_fdivW (pv 7) (pv 0)) (pv 0))) set_list)))) pss_nil)))))
      (pss_one (ps_ret (pv 4))))), ?_⟩
  refine st_seq ?_
  refine ⟨(show 1 ≤ sizeLine by decide), fun i0 ni0 => ?_⟩
  refine ⟨_, rfl, i0, _, _, rfl, rfl, upd_same, by omega, by omega, ?_, fun L nL => ?_⟩
  · show 1 * ((t : Int)).toNat ≤ sizeLine
    exact Nat.le_of_lt (small1000 (by omega))
  refine ⟨_, _, rfl, ?_⟩
  have nLH : H L = none := by
    cases z : H L with
    | none => rfl
    | some o =>
      rw [same_new ni0 _ _ z] at nL
      cases nL
  have eL : (upd (upd H i0 (.lst [.int 0])) L (.lst (List.replicate ((t : Int)).toNat [V.int 0]).flatten)) L = some (.lst (((run5 t g l 0).1.map fun e => ((e : Nat) : Int)).map V.int)) := by
    rw [upd_same, rep_ints, Int.toNat_natCast]
    show _ = some (HO.lst (((List.replicate t 0).map fun e => ((e : Nat) : Int)).map V.int))
    rw [List.map_replicate (f := fun e => ((e : Nat) : Int))]
    rfl
  have s1 : Same H (upd (upd H i0 (.lst [.int 0])) L (.lst (List.replicate ((t : Int)).toNat [V.int 0]).flatten)) := (same_new ni0).trans (same_new nL)
  generalize upd (upd H i0 (.lst [.int 0])) L (.lst (List.replicate ((t : Int)).toNat [V.int 0]).flatten) = H1 at eL s1
  dsimp only
  refine st_seq ?_
  have gt : (g : Int) * (2 * (t : Int) + 1) ≤ 9 * 13 := by
    have z : (g : Int) * (2 * (t : Int) + 1) ≤ 9 * (2 * (t : Int) + 1) := Int.mul_le_mul_of_nonneg_right (by omega) (by omega)
    omega
  have gp : 0 ≤ (g : Int) * (2 * (t : Int) + 1) := Int.mul_nonneg (by omega) (by omega)
  refine ⟨_, rfl, _, rfl, _, _, rfl, rfl, .inl (by decide), _, _, rfl, rfl, _, _, rfl, rfl, .inl ⟨by omega, by omega⟩, _, rfl, _, _, rfl, rfl, .inl (by decide), _, _, rfl, rfl, _, _, rfl, rfl, _, _, rfl, ⟨by decide, by decide, by omega, by omega⟩, ?_⟩
  have eN : ((g : Int) * (2 * (t : Int) + 1) + 2 * (l : Int) + 2 - 1).toNat = g * (2 * t + 1) + 2 * l + 1 := by
    have z : (g : Int) * (2 * (t : Int) + 1) = ((g * (2 * t + 1) : Nat) : Int) := by
      rw [Int.natCast_mul, Int.natCast_add, Int.natCast_mul]
      rfl
    omega
  refine for_range (lo := 1) (fun i σ H' => ∃ (y5 y6 y7 : Option V), σ = [some (.int t), some (.int g), some (.int l), some (.ref L), some (.int ((run5 t g l i).2 : Nat)), y5, y6, y7] ∧ Same H H' ∧ H' L = some (.lst (((run5 t g l i).1.map fun e => ((e : Nat) : Int)).map V.int))) ⟨none, none, none, rfl, s1, eL⟩ (fun i σ H2 hi hP => ?_) (fun σ H2 hP => ?_)
  · obtain ⟨y5, y6, y7, rfl, s2, eL2⟩ := hP
    have lr := run_len t g l i
    generalize hes : (run5 t g l i).1 = es at eL2 lr
    generalize hb : (run5 t g l i).2 = bb
    have hn : run5 t g l (i + 1) = (if (i + 1) % g = 0 then es.set (((i + 1) / g - 1) % t) (i + 1 - l) else es, Nat.max bb (i + 1 - es.foldl Nat.min (i + 1 - l))) := by
      rw [← hes, ← hb]
      rfl
    have e1 : (1 : Int) + (i : Int) = ((i + 1 : Nat) : Int) := by omega
    rw [e1]
    generalize hN : i + 1 = n at hn
    have i9 : n ≤ 200 := by
      have z : i < ((g : Int) * (2 * (t : Int) + 1) + 2 * (l : Int) + 2 - 1).toNat := hi
      omega
    have emx : (if ((n : Nat) : Int) - (l : Int) > 0 then ((n : Nat) : Int) - (l : Int) else 0) = ((n - l : Nat) : Int) := by
      split <;> omega
    -- the floor
    refine st_seq ?_
    refine ⟨_, rfl, _, rfl, _, rfl, _, _, rfl, rfl, _, _, rfl, (show 1 ≤ sizeLine by decide), fun c nc => ?_⟩
    refine ⟨L, c, _, _, rfl, rfl, same_new nc _ _ eL2, upd_same, ?_, fun d nd => ?_⟩
    · rw [List.length_map, List.length_map, lr]
      show t + 1 ≤ sizeLine
      exact Nat.le_of_lt (small1000 (by omega))
    have ed : (upd (upd H2 c (.lst [.int (if ((n : Nat) : Int) - (l : Int) > 0 then ((n : Nat) : Int) - (l : Int) else 0)])) d (.lst ((es.map fun e => ((e : Nat) : Int)).map V.int ++ [.int (if ((n : Nat) : Int) - (l : Int) > 0 then ((n : Nat) : Int) - (l : Int) else 0)]))) d = some (.lst (((es.map fun e => ((e : Nat) : Int)) ++ [((n - l : Nat) : Int)]).map V.int)) := by
      rw [upd_same, emx, List.map_append]
      rfl
    have s3 : Same H2 (upd (upd H2 c (.lst [.int (if ((n : Nat) : Int) - (l : Int) > 0 then ((n : Nat) : Int) - (l : Int) else 0)])) d (.lst ((es.map fun e => ((e : Nat) : Int)).map V.int ++ [.int (if ((n : Nat) : Int) - (l : Int) > 0 then ((n : Nat) : Int) - (l : Int) else 0)]))) := (same_new nc).trans (same_new nd)
    generalize upd (upd H2 c (.lst [.int (if ((n : Nat) : Int) - (l : Int) > 0 then ((n : Nat) : Int) - (l : Int) else 0)])) d (.lst ((es.map fun e => ((e : Nat) : Int)).map V.int ++ [.int (if ((n : Nat) : Int) - (l : Int) > 0 then ((n : Nat) : Int) - (l : Int) else 0)])) = H3 at ed s3
    refine ⟨d, _, rfl, SqL.of ed, ?_, fun m hm hle => ?_⟩
    · rw [List.length_append]
      show 0 < _ + 1
      omega
    obtain rfl := min_is hm hle
    have fl := (fold_min es (n - l)).2.1
    have eL3 := s3 _ _ eL2
    generalize es.foldl Nat.min (n - l) = fo at fl hn
    have ems : (if ((n : Nat) : Int) - ((fo : Nat) : Int) > ((bb : Nat) : Int) then ((n : Nat) : Int) - ((fo : Nat) : Int) else ((bb : Nat) : Int)) = ((Nat.max bb (n - fo) : Nat) : Int) := by
      have z : Nat.max bb (n - fo) = if bb ≤ n - fo then n - fo else bb := Nat.max_def ..
      rw [z]
      split <;> split <;> omega
    -- the most
    refine st_seq ?_
    refine ⟨_, rfl, _, rfl, _, rfl, _, _, rfl, rfl, _, _, rfl, ?_⟩
    have dv : ((n : Nat) : Int) / (g : Int) = ((n / g : Nat) : Int) := rfl
    have dm := Nat.div_add_mod n g
    have qg : ((n / g : Nat) : Int) * (g : Int) = ((g * (n / g) : Nat) : Int) := by
      rw [Int.natCast_mul, Int.mul_comm]
    have ql : n / g ≤ n := Nat.div_le_self ..
    have p64 : (2 : Int) ^ 64 = 18446744073709551616 := by decide
    -- a freezing
    refine ⟨_, rfl, _, rfl, _, rfl, _, _, rfl, rfl, cdw (by omega) (by omega), _, rfl, _, _, rfl, rfl, .inr ⟨by omega, by omega⟩, _, _, rfl, rfl, rfl, _, rfl, ite2 (fun e => ?_) (fun e => ?_)⟩
    · have e2 : n % g = 0 := by
        have z := V.int.inj (of_decide_eq_true e)
        rw [dv, qg] at z
        omega
      have q1 : 1 ≤ n / g := by
        have z : g ≤ n := by
          by_cases c : n < g
          · rw [Nat.mod_eq_of_lt c] at e2
            omega
          · omega
        exact (Nat.le_div_iff_mul_le (by omega)).mpr (by omega)
      rw [if_pos e2] at hn
      have et : ((n : Nat) : Int) / (g : Int) - 1 = ((n / g - 1 : Nat) : Int) := by
        rw [dv]
        omega
      refine st_seq (st_setH (PV := fun v Hx => Hx = H3 ∧ v = .int ((n / g - 1 : Nat) : Int)) (fun Q2 q2 => ?_) (fun v Hx hv => ?_))
      · refine ⟨_, rfl, _, rfl, _, _, rfl, rfl, cdw (by omega) (by omega), _, _, rfl, rfl, q2 _ _ ⟨rfl, ?_⟩⟩
        exact congrArg V.int et
      obtain ⟨rfl, rfl⟩ := hv
      generalize n / g - 1 = u at hn
      have dvt : ((u : Nat) : Int) / (t : Int) = ((u / t : Nat) : Int) := rfl
      have dmt := Nat.div_add_mod u t
      have qt : ((u / t : Nat) : Int) * (t : Int) = ((t * (u / t) : Nat) : Int) := by
        rw [Int.natCast_mul, Int.mul_comm]
      have rt : u % t < t := Nat.mod_lt _ (by omega)
      refine ⟨_, rfl, _, rfl, _, _, rfl, rfl, _, _, rfl, _, rfl, _, rfl, _, rfl, _, rfl, _, _, rfl, rfl, cdw (by omega) (by omega), _, rfl, _, _, rfl, rfl, .inr ⟨by omega, by omega⟩, _, _, rfl, rfl, L, _, _, u % t, rfl, rfl, eL3, ixN_ok ?_ ?_, ?_⟩
      · rw [dvt, qt]
        omega
      · rw [List.length_map, List.length_map, lr]
        exact rt
      · rw [hn]
        refine ⟨some (.int ((n : Nat) : Int)), some (.int ((fo : Nat) : Int)), some (.int ((u : Nat) : Int)), ?_, same_mut (s2.trans s3) nLH, ?_⟩
        · dsimp only
          rw [← ems]
          rfl
        · rw [upd_same, emx, List.map_set, List.map_set]
    · have e2 : ¬ n % g = 0 := fun z => by
        have e3 : ((n : Nat) : Int) - ((n / g : Nat) : Int) * (g : Int) = 0 := by
          rw [qg]
          omega
        exact e (decide_eq_true (congrArg V.int e3))
      rw [if_neg e2] at hn
      rw [hn]
      refine ⟨some (.int ((n : Nat) : Int)), some (.int ((fo : Nat) : Int)), y7, ?_, s2.trans s3, eL3⟩
      dsimp only
      rw [← ems]
      rfl
  · obtain ⟨y5, y6, y7, rfl, s2, eL2⟩ := hP
    refine ⟨_, rfl, ?_⟩
    have e := walked t0 t1 g0 g1 l0 l1
    have z : (run5 t g l ((g : Int) * (2 * (t : Int) + 1) + 2 * (l : Int) + 2 - 1).toNat).2 = t * g + l := by
      rw [eN]
      exact e
    rw [z]
    exact q _ s2
theorem ok_int (x : Int) : PyData.strOk (PyData.shown (.int x)) = true := by
  unfold PyData.strOk
  rw [← Array.all_toList, List.all_eq_true]
  intro k hk
  refine decide_eq_true ?_
  by_cases c : k ≠ 45 ∧ (k < 48 ∨ 57 < k)
  · exact absurd hk (shown_int_free' c x)
  · omega
theorem shape_two (x : Int) : SeqAt.shaped (.list [.str (PyData.shown (.int x)), .str (PyData.shown (.int x))]) = true := by
  show ((PyData.strOk (PyData.shown (.int x)) && (PyData.strOk (PyData.shown (.int x)) && true)) && decide (1 ≤ 64)) = true
  rw [ok_int]
  rfl
theorem ok_law (T : Tx K mg) (c_l_hand : C8.Cal P w K mg base 1 "_law_hand" (spHand K) []) (c_l_take : C8.Cal P w K mg base 1 "_law_take" spTake []) (c_l_of : C8.Cal P w K mg base 2 "_law_of" (spOf K) []) (c_l_walked : C8.Cal P w K mg base 1 "_law_walked" spWalked [])
    (w_worst_every_longest : CalW P w K mg base 1 "worst" 1 ["every", "longest"] gEL spWorst) (w_worst_longest_every : CalW P w K mg base 1 "worst" 1 ["longest", "every"] gLE spWorst) : BodyAt P w K mg base "law" s_law N_law 2 (spLaw K) := by
  intro f cdv s H vs Q E hr h
  obtain ⟨a, ns, rfl, hS, hl, q⟩ := h
  have p18' : (10 : Int) ^ 18 = 1000000000000000000 := by decide
  have p62 : (2 : Nat) ^ 62 = 4611686018427387904 := by decide
  have p9 : (10 : Int) ^ (9 : Int).toNat = 1000000000 := by decide
  refine ⟨_, (pss_cons (ps_for PassesOwn.never rfl (pi_range1 (by rfl) T.range (pa_cons (pe_op op_add pe_int (pe_callB (call_min2 rfl) (gl_of gl_law_min) T.min bb_min (pa_cons pe_int (pa_cons (pe_callB call_len_seq (gl_of gl_law_len) T.len bb_len (pa_cons (pv 0) pa_nil)) pa_nil)))) pa_nil)) (pg_name (i := 1) sc_law.nd rfl (Or.inl rfl)) (pss_cons (ps_set (i := 2) sc_law.nd rfl (Or.inl rfl) (C8.pe_c c_l_hand hr (by decide) (gl_of gl_law_l_hand) (pa_cons (pv 0) (pa_cons (pv 1) pa_nil))))
      (pss_cons (ps_for PassesOwn.never rfl (pi_range1 (by rfl) T.range (pa_cons pe_int pa_nil)) (pg_name (i := 3) sc_law.nd rfl (Or.inl rfl)) (pss_cons (ps_par3 (i := 4) (j := 5) (l := 6) (by rfl) sc_law.nd rfl rfl rfl (by decide) (by decide) (by decide) rfl rfl rfl (pa_cons (pe_op op_add pe_int (C8.pe_c c_l_take hr (by decide) (gl_of gl_law_l_take) (pa_cons (pv 2) (pa_cons pe_int pa_nil)))) (pa_cons (pe_op op_add pe_int (C8.pe_c c_l_take hr (by decide) (gl_of gl_law_l_take) (pa_cons (pv 2) (pa_cons pe_int pa_nil)))) (pa_cons (pe_op op_add pe_int (C8.pe_c c_l_take hr (by decide) (gl_of gl_law_l_take) (pa_cons (pv 2) (pa_cons pe_int pa_nil)))) pa_nil))) (by rfl))
      (pss_cons (ps_set (i := 7) sc_law.nd rfl (Or.inl rfl) (pe_callB (call_reprK (K1 := K) rfl (by rfl) hr.units) (gl_of gl_law_repr) T.repr bb_repr (pa_cons (C8.pe_c c_l_walked hr (by decide) (gl_of gl_law_l_walked) (pa_cons (pv 4) (pa_cons (pv 5) (pa_cons (pv 6) pa_nil)))) pa_nil)))
      (pss_cons (ps_set (i := 8) sc_law.nd rfl (Or.inl rfl) (pe_lst (pa_cons (pe_cw w_worst_every_longest hr (by decide) (gl_of gl_law_worst) (pa_cons (pv 4) pa_nil) (pk_cons (pv 5) (pk_cons (pv 6) pk_nil))) (pa_cons (pe_cw w_worst_longest_every hr (by decide) (gl_of gl_law_worst) (pa_cons (pv 4) pa_nil) (pk_cons (pv 6) (pk_cons (pv 5) pk_nil))) pa_nil))))
      (pss_one (ps_if (pt_cmpR (op_neD hr.units) (pe_lc (own := [("_law_one", 9)]) (g := gName 9) (tt := tYes) rfl sc_law.nd (pi_list (pv 8)) (blkOk_by (own := [("_law_one", 9)]) (N := N_law) (sc := defScope s_law) (by decide +kernel)) (fun _ _ _ _ _ => pg_name (i := 9) sc_law.nd rfl (Or.inl rfl)) (fun _ _ _ _ _ => pts_nil) (fun _ _ _ _ _ => (pe_callB (call_reprK (K1 := K) rfl (by rfl) hr.units) (by rfl) T.repr bb_repr (pa_cons (pv 9) pa_nil)))) (pe_lst (pa_cons (pv 7) (pa_cons (pv 7) pa_nil))) (nomark _)) (pss_one (ps_ret pe_bl)) pss_nil))))))
      (pss_cons (ps_par (i := 5) (j := 6) (by rfl) sc_law.nd rfl rfl (by decide) rfl rfl (pa_cons (pe_op op_add pe_int (C8.pe_c c_l_take hr (by decide) (gl_of gl_law_l_take) (pa_cons (pv 2) (pa_cons (pe_op op_pow pe_int pe_int) pa_nil)))) (pa_cons (C8.pe_c c_l_of hr (by decide) (gl_of gl_law_l_of) (pa_cons (pv 2) (pa_cons (pe_lst (pa_cons pe_int (pa_cons (pe_op op_add pe_int (C8.pe_c c_l_take hr (by decide) (gl_of gl_law_l_take) (pa_cons (pv 2) (pa_cons (pe_op op_pow pe_int pe_int) pa_nil)))) (pa_cons (pe_op op_pow pe_int pe_int) pa_nil)))) pa_nil))) pa_nil)) (by rfl))
      (pss_one (ps_if (pt_cmpR op_ne (pe_callB (call_reprK (K1 := K) rfl (by rfl) hr.units) (gl_of gl_law_repr) T.repr bb_repr (pa_cons (pe_cw w_worst_every_longest hr (by decide) (gl_of gl_law_worst) (pa_cons (pv 4) pa_nil) (pk_cons (pv 5) (pk_cons (pv 6) pk_nil))) pa_nil)) (pe_callB (call_reprK (K1 := K) rfl (by rfl) hr.units) (gl_of gl_law_repr) T.repr bb_repr (pa_cons (pe_op op_add (pe_callB (cr_sum rfl) (gl_of gl_law_sum) T.sum bb_sum (pa_cons (pe_op op_rep (pe_lst (pa_cons (pv 5) pa_nil)) (pv 4)) pa_nil)) (pv 6)) pa_nil)) (nomark _)) (pss_one (ps_ret pe_bl)) pss_nil))))))
      (pss_one (ps_ret pe_bl))), ?_⟩
  refine st_seq ?_
  refine ⟨_, rfl, a, _, rfl, .inl hS, _, _, rfl, _, _, rfl, rfl, _, rfl, ?_, ?_, ?_⟩
  · split <;> omega
  · rw [List.length_map]
    split <;> omega
  · refine for_range (lo := 0) (fun i σ H' => (∃ y1 y2 y3 y4 y5 y6 y7 y8 y9, σ = [some (.ref a), y1, y2, y3, y4, y5, y6, y7, y8, y9]) ∧ SqL K H' a (ns.map V.int)) ⟨⟨none, none, none, none, none, none, none, none, none, rfl⟩, hS⟩ (fun i σ H1 hi hP => ?_) (fun σ H1 hP => ?_)
    · obtain ⟨⟨y1, y2, y3, y4, y5, y6, y7, y8, y9, rfl⟩, hS1⟩ := hP
      have hi2 : i ≤ 8 := by
        rw [List.length_map] at hi
        split at hi <;> omega
      refine st_seq ?_
      refine ⟨_, rfl, _, rfl, a, ns, i, ?_, hS1, by omega, fun p H2 np ke hs => ?_⟩
      · show [V.ref a, V.int (0 + (i : Int))] = _
        rw [Int.zero_add]
      have fr2 : Fr p H1 H2 := fun b o _ e => ke b o e
      refine st_seq ?_
      refine ⟨3, rfl, by decide, by decide, ?_⟩
      refine for_range (lo := 0) (n := (3 : Int).toNat) (fun j σ H' => ∃ (y1 y3 y4 y5 y6 y7 y8 y9 : Option V), σ = [some (.ref a), y1, some (.ref p), y3, y4, y5, y6, y7, y8, y9] ∧ (j = 0 ∨ ∃ t : Int, y4 = some (.int t) ∧ 1 ≤ t ∧ t ≤ 6) ∧ HS p (3 * j) H' ∧ Fr p H1 H') ?_ (fun j σ H3 hj hP => ?_) (fun σ H3 hP => ?_)
      · exact ⟨_, _, _, _, _, _, _, _, rfl, .inl rfl, hs, fr2⟩
      · obtain ⟨y1', y3', y4', y5', y6', y7', y8', y9', rfl, _, hs3, f3⟩ := hP
        have hj2 : j < 3 := hj
        refine st_seq ?_
        refine ⟨_, rfl, p, 6, 3 * j, rfl, hs3, (show 3 * j < 100000 by omega), by decide, by decide, fun d1 H4 d10 d11 hs4 f4 => ?_⟩
        refine ⟨_, _, rfl, rfl, _, rfl, p, 9, 3 * j + 1, rfl, hs4, (show 3 * j + 1 < 100000 by omega), by decide, by decide, fun d2 H5 d20 d21 hs5 f5 => ?_⟩
        refine ⟨_, _, rfl, rfl, _, rfl, p, 20, 3 * j + 2, rfl, hs5, (show 3 * j + 2 < 100000 by omega), by decide, by decide, fun d3 H6 d30 d31 hs6 f6 => ?_⟩
        refine ⟨_, _, rfl, rfl, _, _, _, rfl, ?_⟩
        have g6 : Fr p H1 H6 := f3.trans (f4.trans (f5.trans f6))
        dsimp only
        refine st_seq ?_
        refine ⟨_, rfl, _, rfl, _, rfl, 1 + d1, 1 + d2, 1 + d3, rfl, by omega, by omega, by omega, by omega, by omega, by omega, fun H7 s7 => ?_⟩
        have mb : (1 + d1) * (1 + d2) ≤ 6 * 9 := Int.mul_le_mul (by omega) (by omega) (by omega) (by omega)
        have m0 : 0 ≤ (1 + d1) * (1 + d2) := Int.mul_nonneg (by omega) (by omega)
        have lx : Lf (.int ((1 + d1) * (1 + d2) + (1 + d3))) (.int ((1 + d1) * (1 + d2) + (1 + d3))) := lf_int (by omega)
        obtain ⟨u1, u2, u3, u4⟩ := lx.small.fits (by decide)
        refine ⟨_, _, rfl, lx.at_ K H7, u1, u2, u3, u4, ?_⟩
        generalize hx : (1 + d1) * (1 + d2) + (1 + d3) = x at lx u1 u2 u3 u4
        refine st_seq ?_
        refine ⟨_, rfl, _, rfl, _, rfl, rfl, rfl, 1 + d1, 1 + d2, 1 + d3, rfl, by omega, by omega, ?_⟩
        refine ⟨_, rfl, _, rfl, _, rfl, rfl, rfl, 1 + d1, 1 + d2, 1 + d3, rfl, by omega, by omega, ?_⟩
        rw [hx]
        refine ⟨(show 2 ≤ sizeLine by decide), fun L nL => ?_⟩
        have eL : (upd H7 L (.lst [.int x, .int x])) L = some (.lst [.int x, .int x]) := upd_same
        have s8 : Same H7 (upd H7 L (.lst [.int x, .int x])) := same_new nL
        generalize upd H7 L (.lst [.int x, .int x]) = H8 at eL s8
        dsimp only
        refine ⟨_, rfl, L, rfl, ⟨_, SqL.of eL⟩, fun D nD => ?_⟩
        refine lc_list (K := K) (a := L) (xs := [.int x, .int x]) (fun j' H' => Same H8 H' ∧ H' D = some (.lst (List.replicate j' (V.str (PyData.shown (.int x)))))) ?_ (fun j' H' _ hP => ?_) (fun j' y H' hy hP => ?_) (fun H9 hP => ?_)
        · exact ⟨same_new nD, upd_same⟩
        · exact SqL.of (hP.1 _ _ eL)
        · obtain ⟨s9, eD⟩ := hP
          have hjl : j' < 2 := (List.getElem?_eq_some_iff.mp hy).1
          have ey : y = .int x := by
            have z := List.mem_of_getElem? hy
            simp only [List.mem_cons, List.not_mem_nil, or_false] at z
            rcases z with rfl | rfl <;> rfl
          subst ey
          refine ⟨rfl, ?_⟩
          refine ⟨_, rfl, _, _, rfl, lx.at_ K H', u1, u2, u3, u4, _, eD, ?_, same_mut s9 nD, ?_⟩
          · rw [List.length_replicate]
            exact small1000 (by omega)
          · rw [upd_same, List.replicate_succ']
        obtain ⟨s9, eD⟩ := hP
        have eD2 : H9 D = some (.lst [V.str (PyData.shown (.int x)), V.str (PyData.shown (.int x))]) := eD
        refine ⟨_, rfl, _, rfl, (show 2 ≤ sizeLine by decide), fun R nR => ?_⟩
        refine ⟨.list [.str (PyData.shown (.int x)), .str (PyData.shown (.int x))], .list [.str (PyData.shown (.int x)), .str (PyData.shown (.int x))], .lst (SqL.of (same_new nR _ _ eD2)) (.cons (.str _) (.cons (.str _) .nil)), .lst (SqL.of upd_same) (.cons (.str _) (.cons (.str _) .nil)), shape_two x, shape_two x, _, rfl, ?_⟩
        rw [show PyData.eqv (.list [.str (PyData.shown (.int x)), .str (PyData.shown (.int x))]) (.list [.str (PyData.shown (.int x)), .str (PyData.shown (.int x))]) = true from SeqAt.eqv_refl _ (SeqAt.canLay_of_shaped (shape_two x))]
        refine iteF ?_
        have sAll : Same H6 (upd H9 R (.lst [V.str (PyData.shown (.int x)), V.str (PyData.shown (.int x))])) := s7.trans (s8.trans (s9.trans (same_new nR)))
        exact ⟨_, _, _, _, _, _, _, _, rfl, .inr ⟨1 + d1, rfl, by omega, by omega⟩, (hs6.same sAll).mono (by omega), g6.trans (Fr.same sAll)⟩
      · obtain ⟨y1', y3', y4', y5', y6', y7', y8', y9', rfl, hy, hs3, f3⟩ := hP
        obtain ⟨t, rfl, t0, t1⟩ : ∃ t : Int, y4' = some (.int t) ∧ 1 ≤ t ∧ t ≤ 6 := by
          rcases hy with z | z
          · exact absurd z (by decide)
          · exact z
        have hs9 : HS p 9 H3 := hs3
        -- gap, late
        refine st_seq ?_
        refine ⟨_, rfl, _, _, rfl, rfl, pow_ok (by decide), p, _, 9, rfl, hs9, (show 9 < 100000 by decide), by decide, by decide, fun d1 H4 d10 d11 hs4 f4 => ?_⟩
        rw [p9] at d11
        refine ⟨_, _, rfl, rfl, _, rfl, _, rfl, _, _, rfl, rfl, pow_ok (by decide), p, _, 10, rfl, hs4, (show 10 < 100000 by decide), by decide, by decide, fun d2 H5 d20 d21 hs5 f5 => ?_⟩
        rw [p9] at d21
        refine ⟨_, _, rfl, rfl, _, _, rfl, rfl, pow_ok (by decide), (show 3 ≤ sizeLine by decide), fun l1 nl1 => ?_⟩
        refine ⟨p, l1, _, 11, rfl, hs5.new nl1, (show 11 < 100000 by decide), hs5.ne nl1, SqL.of upd_same, (show 0 < 3 by decide), (show 3 ≤ 1000 by decide), fun v H6 hv hs6 f6 => ?_⟩
        have hx : ∃ z : Int, v = .int z ∧ 0 ≤ z ∧ z ≤ 1000000001 := by
          simp only [p9, List.mem_cons, List.not_mem_nil, or_false] at hv
          rcases hv with rfl | rfl | rfl <;> exact ⟨_, rfl, by omega, by omega⟩
        obtain ⟨l, rfl, l0, l1'⟩ := hx
        refine ⟨_, _, rfl, ?_⟩
        have g6 : Fr p H1 H6 := f3.trans (f4.trans (f5.trans ((Fr.new nl1).trans f6)))
        dsimp only
        refine ⟨_, rfl, _, rfl, _, rfl, rfl, rfl, t, 1 + d1, l, rfl, by omega, by omega, ?_⟩
        have mb : t * (1 + d1) ≤ 6 * 1000000000 := Int.mul_le_mul (by omega) (by omega) (by omega) (by omega)
        have m0 : 0 ≤ t * (1 + d1) := Int.mul_nonneg (by omega) (by omega)
        have lx : Lf (.int (t * (1 + d1) + l)) (.int (t * (1 + d1) + l)) := lf_int (by omega)
        obtain ⟨u1, u2, u3, u4⟩ := lx.small.fits (by decide)
        refine ⟨_, _, rfl, lx.at_ K H6, u1, u2, u3, u4, ?_⟩
        refine ⟨_, rfl, (show 1 ≤ sizeLine by decide), fun c nc => ?_⟩
        refine ⟨_, rfl, c, _, _, rfl, rfl, upd_same, by omega, by omega, ?_, fun d nd => ?_⟩
        · show 1 * t.toNat ≤ sizeLine
          exact Nat.le_of_lt (small1000 (by omega))
        have ed : (upd (upd H6 c (.lst [.int (1 + d1)])) d (.lst (List.replicate t.toNat [V.int (1 + d1)]).flatten)) d = some (.lst ((List.replicate t.toNat (1 + d1)).map V.int)) := by
          rw [upd_same, rep_ints]
        have s7 : Same H6 (upd (upd H6 c (.lst [.int (1 + d1)])) d (.lst (List.replicate t.toNat [V.int (1 + d1)]).flatten)) := (same_new nc).trans (same_new nd)
        generalize upd (upd H6 c (.lst [.int (1 + d1)])) d (.lst (List.replicate t.toNat [V.int (1 + d1)]).flatten) = H7 at ed s7
        refine ⟨d, _, rfl, SqL.of ed, _, rfl, _, _, rfl, rfl, ?_⟩
        have es : (List.replicate t.toNat (1 + d1)).sum + l = t * (1 + d1) + l := by
          rw [sum_rep, Int.toNat_of_nonneg (by omega)]
        refine ⟨_, .int (t * (1 + d1) + l), rfl, ?_, u1, u2, u3, u4, rfl, _, rfl, ?_⟩
        · show Dp K H7 (.int ((List.replicate t.toNat (1 + d1)).sum + l)) _
          rw [es]
          exact lx.at_ K H7
        · rw [dec_refl]
          refine iteF ?_
          exact ⟨⟨_, _, _, _, _, _, _, _, _, rfl⟩, seq_new hS1 np (g6.trans (Fr.same s7))⟩
    · exact q _
end
/-! ### the head -/
theorem def0_mk {K : PySem.W.Frag} {h : Heap} {mg : Str → Option Value} {x : Str} {st : Stmt} {ps : List Str} (X : K.In h) (G : h.Ns mainGlobals mg) (g : (He.Fa.glo x).ok K = true)
    (F : ∃ fd, FunD K x x (defArgs st) (defBody st) (defScope st) [] [] (He.ga K x) fd)
    (hb : ∀ (kV doc pm : Value) (an : Option Addr) (cdv ct : Value) (us : List Value), us.length = ps.length → bindArgs (PySem.W.fnOf x x (defArgs st) (defBody st) (defScope st) .none kV doc pm an cdv ct) ⟨us, []⟩ = pure (ps.zip us)) : Def0 K mg x st ps := by
  obtain ⟨fd, F⟩ := F
  exact ⟨_, fd, F, He.glo_ok X G g, F.bindsN hb⟩
theorem defK_mk {K : PySem.W.Frag} {h : Heap} {mg : Str → Option Value} {x : Str} {st : Stmt} {ps : List Str} {n : Nat} {y : Str} {v : V} (X : K.In h) (G : h.Ns mainGlobals mg) (g : (He.Fa.glo x).ok K = true)
    (F : ∃ fd, FunD K x x (defArgs st) (defBody st) (defScope st) [] [(y, v)] (He.ga K x) fd) (hn : n + 1 = ps.length)
    (hb : ∀ (D : Addr) (doc pm : Value) (an : Option Addr) (cdv ct : Value) (us ks : List Value), us.length = n → ks.length = 1 →
      KwChain D (([y] : List Str).zip ks) (bindArgs (PySem.W.fnOf x x (defArgs st) (defBody st) (defScope st) .none (.ref D) doc pm an cdv ct) ⟨us, []⟩) (ps.zip (us ++ ks)))
    (hk : ∀ (kV doc pm : Value) (an : Option Addr) (cdv ct : Value) (us ws : List Value), us.length = n → ws.length = 1 →
      bindArgs (PySem.W.fnOf x x (defArgs st) (defBody st) (defScope st) .none kV doc pm an cdv ct) ⟨us, ([y] : List Str).zip ws⟩ = pure (ps.zip (us ++ ws))) : DefK K mg x st ps n [(y, v)] := by
  obtain ⟨fd, F⟩ := F
  refine ⟨_, fd, F, He.glo_ok X G g, F.binds0 n (by simp) hn hb, fun us ws => us ++ ws, ⟨fun s us ws _ l1 l2 => ?_, fun r1 r2 => r1.append r2⟩⟩
  obtain ⟨oc, od, dV, kV, doc, pm, an, cdv, ct, osl, rfl, lk, hcd, hD, hK⟩ := F.ex
  rcases hD with ⟨_, rfl⟩ | ⟨e, _⟩
  · exact .of_eq (hk kV doc pm an cdv ct us ws l1 l2)
  · exact absurd rfl e
theorem int_g {K : PySem.W.Frag} {h : Heap} {mg : Str → Option Value} {x : Str} {i : Int} (X : K.In h) (G : h.Ns mainGlobals mg) (g : (He.Fa.int x i).ok K = true) : ∃ u, mg x = some u ∧ RelV (.int i) u := by
  obtain ⟨t, e⟩ := He.int_ok X G g
  exact ⟨_, e, t, rfl⟩
def d_worst : He.DefD := ⟨("worst", none), "worst", "worst", defArgs s_worst, defBody s_worst, defScope s_worst, [], []⟩
def d_l_hand : He.DefD := ⟨("_law_hand", none), "_law_hand", "_law_hand", defArgs s_l_hand, defBody s_l_hand, defScope s_l_hand, [], []⟩
def d_l_take : He.DefD := ⟨("_law_take", none), "_law_take", "_law_take", defArgs s_l_take, defBody s_l_take, defScope s_l_take, [], []⟩
def d_l_of : He.DefD := ⟨("_law_of", none), "_law_of", "_law_of", defArgs s_l_of, defBody s_l_of, defScope s_l_of, [], []⟩
def d_l_walked : He.DefD := ⟨("_law_walked", none), "_law_walked", "_law_walked", defArgs s_l_walked, defBody s_l_walked, defScope s_l_walked, [], []⟩
def d_law : He.DefD := ⟨("law", none), "law", "law", defArgs s_law, defBody s_law, defScope s_law, [], []⟩
def fn : List He.DefD := [d_worst, d_l_hand, d_l_take, d_l_of, d_l_walked, d_law]
--@ level 3
def fa : List He.Fa := [.glo "worst", .glo "_law_hand", .glo "_law_take", .glo "_law_of", .glo "_law_walked", .glo "law"] ++ freeNames.map .free
abbrev R : PySem.W.OpenRow := PySem.W.OpenLaw.row PySem.Challenge.rw_roundstore_k50_worst_by_a_walk
abbrev hk : PySem.W.Hook := He.hookD 4 fa fn
def ob (s : PySem.W.SharedT) : He.AlD := He.obsDG 4 fa fn (HandSHeadRun.getT s)
theorem ob_eq (s : PySem.W.SharedT) : ob s = hk.obs s.abs := He.obsDG_eq (HandSHeadRun.getT_eq s)
theorem run (w : World) : HandSHeadRun.RunEq R (PySem.W.view R.prog [7]) hk ob 2000 ["worst", "_law_hand", "_law_take", "_law_of", "_law_walked"] w := by
  intro os
  kernel_rfl
theorem facts {P : Program} {w : World} {K : PySem.W.Frag} {h : Heap} {mg : Str → Option Value} {f : Addr} (X : K.In h) (G : h.Ns mainGlobals mg) (hfa : mg ("law" : Str) = some (.ref f)) (c : He.SaysD fa fn K) :
    ∃ fd : FuncData, (∀ (s : Shared) (v : Value), BindsTo s fd ⟨[v], []⟩ [("_law_script", v)]) ∧ ∀ base : Heap, K.In base → base.Ns mainGlobals mg → FnAt callerA P w K mg base CX0 3 f fd ["_law_script"] (spLaw K) := by
  have T : Tx K mg := tx_mk fun x hx => He.free_ok X G (by
    obtain ⟨i, hi, e⟩ := List.mem_iff_getElem.mp hx
    exact c.fact (6 + i) (f := .free x) (by
      show ([.glo "worst", .glo "_law_hand", .glo "_law_take", .glo "_law_of", .glo "_law_walked", .glo "law"] ++ freeNames.map He.Fa.free)[6 + i]? = _
      rw [List.getElem?_append_right (by show 6 ≤ _; omega)]
      show (freeNames.map He.Fa.free)[6 + i - 6]? = _
      rw [Nat.add_sub_cancel_left, List.getElem?_map, List.getElem?_eq_getElem hi, e]
      rfl))
  have D_l_hand : Def0 K mg "_law_hand" s_l_hand ["_law_script", "_law_k"] := def0_mk X G (c.fact 1 (f := .glo "_law_hand") rfl) (c.def_ 1 (d := d_l_hand) rfl) fun _ _ _ _ _ _ us hl => match us, hl with | [_, _], _ => rfl
  have D_l_take : Def0 K mg "_law_take" s_l_take ["_law_hand_here", "_law_many"] := def0_mk X G (c.fact 2 (f := .glo "_law_take") rfl) (c.def_ 2 (d := d_l_take) rfl) fun _ _ _ _ _ _ us hl => match us, hl with | [_, _], _ => rfl
  have D_l_of : Def0 K mg "_law_of" s_l_of ["_law_hand_here", "_law_some"] := def0_mk X G (c.fact 3 (f := .glo "_law_of") rfl) (c.def_ 3 (d := d_l_of) rfl) fun _ _ _ _ _ _ us hl => match us, hl with | [_, _], _ => rfl
  have D_l_walked : Def0 K mg "_law_walked" s_l_walked ["_law_tables", "_law_gap", "_law_late"] := def0_mk X G (c.fact 4 (f := .glo "_law_walked") rfl) (c.def_ 4 (d := d_l_walked) rfl) fun _ _ _ _ _ _ us hl => match us, hl with | [_, _, _], _ => rfl
  obtain ⟨fd, F⟩ := c.def_ 5 (d := d_law) rfl
  have e := hfa.symm.trans (He.glo_ok X G (c.fact 5 (f := .glo "law") rfl))
  cases e
  have b := FunD.bindsA (ps := ["_law_script"]) F fun _ _ _ _ _ _ us hl => match us, hl with | [_], _ => rfl
  refine ⟨fd, fun s v => b s [v] rfl, fun base _ _ => ?_⟩
  obtain ⟨W_el, W_le⟩ := kw_need (P := P) (w := w) (base := base) (sp := spWorst) (st := s_worst) (N := N_worst) (p1 := "tables") (y1 := "every") (y2 := "longest") X G (c.fact 0 (f := .glo "worst") rfl) (c.def_ 0 (d := d_worst) rfl) sc_worst (fun vs H Q E h => by obtain ⟨_, _, _, rfl, _⟩ := h; rfl) ok_worst (fun _ _ _ _ _ _ _ _ _ => rfl) (fun _ _ _ _ _ _ _ _ _ => rfl)
  have C_l_hand := D_l_hand.cal (P := P) (w := w) (base := base) (sp := spHand K) sc_l_hand (fun vs H Q E h => by first | (rcases h with ⟨_, _, _, _, rfl, _⟩ | ⟨_, _, _, _, rfl, _⟩ <;> rfl) | (obtain ⟨rfl, _⟩ := h; rfl) | (obtain ⟨_, rfl, _⟩ := h; rfl) | (obtain ⟨_, _, rfl, _⟩ := h; rfl) | (obtain ⟨_, _, _, rfl, _⟩ := h; rfl) | (obtain ⟨_, _, _, _, rfl, _⟩ := h; rfl) | (obtain ⟨_, _, _, _, _, rfl, _⟩ := h; rfl) | (obtain ⟨_, _, _, _, _, _, rfl, _⟩ := h; rfl) | (obtain ⟨_, _, _, _, _, _, _, rfl, _⟩ := h; rfl) | (obtain ⟨_, _, _, _, _, _, _, _, rfl, _⟩ := h; rfl) | (obtain ⟨_, _, _, _, _, _, _, _, _, rfl, _⟩ := h; rfl) | (obtain ⟨_, _, _, _, _, _, _, _, _, _, rfl, _⟩ := h; rfl) | (obtain ⟨_, _, _, _, _, _, _, _, _, _, _, rfl, _⟩ := h; rfl) | (obtain ⟨_, _, _, _, _, _, _, _, _, _, _, _, rfl, _⟩ := h; rfl) | (obtain ⟨_, _, _, _, _, _, _, _, _, _, _, _, _, rfl, _⟩ := h; rfl) | (obtain ⟨_, _, _, _, _, _, _, _, _, _, _, _, _, _, rfl, _⟩ := h; rfl) | (obtain ⟨_, _, _, _, _, _, _, _, _, _, _, _, _, _, _, rfl, _⟩ := h; rfl) | (obtain ⟨_, _, _, _, _, _, _, _, _, _, _, _, _, _, _, _, rfl, _⟩ := h; rfl) | (obtain ⟨_, _, _, _, _, _, _, _, _, _, _, _, _, _, _, _, _, rfl, _⟩ := h; rfl)) (ok_hand T)
  have C_l_take := D_l_take.cal (P := P) (w := w) (base := base) (sp := spTake) sc_l_take (fun vs H Q E h => by first | (rcases h with ⟨_, _, _, _, rfl, _⟩ | ⟨_, _, _, _, rfl, _⟩ <;> rfl) | (obtain ⟨rfl, _⟩ := h; rfl) | (obtain ⟨_, rfl, _⟩ := h; rfl) | (obtain ⟨_, _, rfl, _⟩ := h; rfl) | (obtain ⟨_, _, _, rfl, _⟩ := h; rfl) | (obtain ⟨_, _, _, _, rfl, _⟩ := h; rfl) | (obtain ⟨_, _, _, _, _, rfl, _⟩ := h; rfl) | (obtain ⟨_, _, _, _, _, _, rfl, _⟩ := h; rfl) | (obtain ⟨_, _, _, _, _, _, _, rfl, _⟩ := h; rfl) | (obtain ⟨_, _, _, _, _, _, _, _, rfl, _⟩ := h; rfl) | (obtain ⟨_, _, _, _, _, _, _, _, _, rfl, _⟩ := h; rfl) | (obtain ⟨_, _, _, _, _, _, _, _, _, _, rfl, _⟩ := h; rfl) | (obtain ⟨_, _, _, _, _, _, _, _, _, _, _, rfl, _⟩ := h; rfl) | (obtain ⟨_, _, _, _, _, _, _, _, _, _, _, _, rfl, _⟩ := h; rfl) | (obtain ⟨_, _, _, _, _, _, _, _, _, _, _, _, _, rfl, _⟩ := h; rfl) | (obtain ⟨_, _, _, _, _, _, _, _, _, _, _, _, _, _, rfl, _⟩ := h; rfl) | (obtain ⟨_, _, _, _, _, _, _, _, _, _, _, _, _, _, _, rfl, _⟩ := h; rfl) | (obtain ⟨_, _, _, _, _, _, _, _, _, _, _, _, _, _, _, _, rfl, _⟩ := h; rfl) | (obtain ⟨_, _, _, _, _, _, _, _, _, _, _, _, _, _, _, _, _, rfl, _⟩ := h; rfl)) (ok_take T)
  have C_l_of := D_l_of.cal (P := P) (w := w) (base := base) (sp := spOf K) sc_l_of (fun vs H Q E h => by first | (rcases h with ⟨_, _, _, _, rfl, _⟩ | ⟨_, _, _, _, rfl, _⟩ <;> rfl) | (obtain ⟨rfl, _⟩ := h; rfl) | (obtain ⟨_, rfl, _⟩ := h; rfl) | (obtain ⟨_, _, rfl, _⟩ := h; rfl) | (obtain ⟨_, _, _, rfl, _⟩ := h; rfl) | (obtain ⟨_, _, _, _, rfl, _⟩ := h; rfl) | (obtain ⟨_, _, _, _, _, rfl, _⟩ := h; rfl) | (obtain ⟨_, _, _, _, _, _, rfl, _⟩ := h; rfl) | (obtain ⟨_, _, _, _, _, _, _, rfl, _⟩ := h; rfl) | (obtain ⟨_, _, _, _, _, _, _, _, rfl, _⟩ := h; rfl) | (obtain ⟨_, _, _, _, _, _, _, _, _, rfl, _⟩ := h; rfl) | (obtain ⟨_, _, _, _, _, _, _, _, _, _, rfl, _⟩ := h; rfl) | (obtain ⟨_, _, _, _, _, _, _, _, _, _, _, rfl, _⟩ := h; rfl) | (obtain ⟨_, _, _, _, _, _, _, _, _, _, _, _, rfl, _⟩ := h; rfl) | (obtain ⟨_, _, _, _, _, _, _, _, _, _, _, _, _, rfl, _⟩ := h; rfl) | (obtain ⟨_, _, _, _, _, _, _, _, _, _, _, _, _, _, rfl, _⟩ := h; rfl) | (obtain ⟨_, _, _, _, _, _, _, _, _, _, _, _, _, _, _, rfl, _⟩ := h; rfl) | (obtain ⟨_, _, _, _, _, _, _, _, _, _, _, _, _, _, _, _, rfl, _⟩ := h; rfl) | (obtain ⟨_, _, _, _, _, _, _, _, _, _, _, _, _, _, _, _, _, rfl, _⟩ := h; rfl)) (ok_of T C_l_take)
  have C_l_walked := D_l_walked.cal (P := P) (w := w) (base := base) (sp := spWalked) sc_l_walked (fun vs H Q E h => by first | (rcases h with ⟨_, _, _, _, rfl, _⟩ | ⟨_, _, _, _, rfl, _⟩ <;> rfl) | (obtain ⟨rfl, _⟩ := h; rfl) | (obtain ⟨_, rfl, _⟩ := h; rfl) | (obtain ⟨_, _, rfl, _⟩ := h; rfl) | (obtain ⟨_, _, _, rfl, _⟩ := h; rfl) | (obtain ⟨_, _, _, _, rfl, _⟩ := h; rfl) | (obtain ⟨_, _, _, _, _, rfl, _⟩ := h; rfl) | (obtain ⟨_, _, _, _, _, _, rfl, _⟩ := h; rfl) | (obtain ⟨_, _, _, _, _, _, _, rfl, _⟩ := h; rfl) | (obtain ⟨_, _, _, _, _, _, _, _, rfl, _⟩ := h; rfl) | (obtain ⟨_, _, _, _, _, _, _, _, _, rfl, _⟩ := h; rfl) | (obtain ⟨_, _, _, _, _, _, _, _, _, _, rfl, _⟩ := h; rfl) | (obtain ⟨_, _, _, _, _, _, _, _, _, _, _, rfl, _⟩ := h; rfl) | (obtain ⟨_, _, _, _, _, _, _, _, _, _, _, _, rfl, _⟩ := h; rfl) | (obtain ⟨_, _, _, _, _, _, _, _, _, _, _, _, _, rfl, _⟩ := h; rfl) | (obtain ⟨_, _, _, _, _, _, _, _, _, _, _, _, _, _, rfl, _⟩ := h; rfl) | (obtain ⟨_, _, _, _, _, _, _, _, _, _, _, _, _, _, _, rfl, _⟩ := h; rfl) | (obtain ⟨_, _, _, _, _, _, _, _, _, _, _, _, _, _, _, _, rfl, _⟩ := h; rfl) | (obtain ⟨_, _, _, _, _, _, _, _, _, _, _, _, _, _, _, _, _, rfl, _⟩ := h; rfl)) (ok_walked T)
  refine fnat_of (CX := CX0) F sc_law (fun vs H Q E h => by first | (rcases h with ⟨_, _, _, _, rfl, _⟩ | ⟨_, _, _, _, rfl, _⟩ <;> rfl) | (obtain ⟨rfl, _⟩ := h; rfl) | (obtain ⟨_, rfl, _⟩ := h; rfl) | (obtain ⟨_, _, rfl, _⟩ := h; rfl) | (obtain ⟨_, _, _, rfl, _⟩ := h; rfl) | (obtain ⟨_, _, _, _, rfl, _⟩ := h; rfl) | (obtain ⟨_, _, _, _, _, rfl, _⟩ := h; rfl) | (obtain ⟨_, _, _, _, _, _, rfl, _⟩ := h; rfl) | (obtain ⟨_, _, _, _, _, _, _, rfl, _⟩ := h; rfl) | (obtain ⟨_, _, _, _, _, _, _, _, rfl, _⟩ := h; rfl) | (obtain ⟨_, _, _, _, _, _, _, _, _, rfl, _⟩ := h; rfl) | (obtain ⟨_, _, _, _, _, _, _, _, _, _, rfl, _⟩ := h; rfl) | (obtain ⟨_, _, _, _, _, _, _, _, _, _, _, rfl, _⟩ := h; rfl) | (obtain ⟨_, _, _, _, _, _, _, _, _, _, _, _, rfl, _⟩ := h; rfl) | (obtain ⟨_, _, _, _, _, _, _, _, _, _, _, _, _, rfl, _⟩ := h; rfl) | (obtain ⟨_, _, _, _, _, _, _, _, _, _, _, _, _, _, rfl, _⟩ := h; rfl) | (obtain ⟨_, _, _, _, _, _, _, _, _, _, _, _, _, _, _, rfl, _⟩ := h; rfl) | (obtain ⟨_, _, _, _, _, _, _, _, _, _, _, _, _, _, _, _, rfl, _⟩ := h; rfl) | (obtain ⟨_, _, _, _, _, _, _, _, _, _, _, _, _, _, _, _, _, rfl, _⟩ := h; rfl)) (fun cdv s H vs Q E hr h => ?_)
  obtain ⟨t, h1, h2⟩ := ok_law (P := P) (w := w) (base := base) T C_l_hand C_l_take C_l_of C_l_walked W_el W_le _ cdv s H vs Q E hr h
  exact ⟨t, h1.nox, h2⟩
end Rd
open PySem PySem.W PySem.Calls PyProof.Rows
theorem PySem.Challenge.cw_roundstore_k50_worst_by_a_walk_holds : PySem.Challenge.rw_roundstore_k50_worst_by_a_walk.Holds := by
  w_on; o_law
  refine HandSHeadRun.head_any (r := OpenLaw.row PySem.Challenge.rw_roundstore_k50_worst_by_a_walk) (q := view (OpenLaw.row PySem.Challenge.rw_roundstore_k50_worst_by_a_walk).prog [7]) (H := Rd.hk) (ob := Rd.ob) (M := 2000) (loose := ["worst", "_law_hand", "_law_take", "_law_of", "_law_walked"]) (d := HandSHeadRun.topDef (OpenLaw.row PySem.Challenge.rw_roundstore_k50_worst_by_a_walk).prog 7) (kwd := []) Rd.ob_eq
    (by kernel_rfl) (fun s => by kernel_rfl) Rd.run (by kernel_rfl) (by kernel_rfl) (by kernel_rfl) (by rfl) (by first | assumption | decide +kernel) (by decide +kernel) ⟨rfl, rfl, rfl, rfl, rfl, by decide +kernel⟩ ?hw ?hc
  case hw => w_witness2
  case hc =>
    refine L2.walk_at (l := PySem.Challenge.rw_roundstore_k50_worst_by_a_walk) (n := 63) (k := 3) (x := "_law_script") rfl (by decide) (by kernel_rfl) ⟨rfl, by decide, by decide⟩ ?F
    intro w mg fa h Y G hmg0
    obtain ⟨K, KX, c⟩ := Y
    have hmg : mg ("law" : PySem.Str) = some (.ref fa) := by
      have e : (HandSHeadRun.topDef (OpenLaw.row PySem.Challenge.rw_roundstore_k50_worst_by_a_walk).prog 7).name = ("law" : PySem.Str) := by kernel_rfl
      rw [← e]
      exact hmg0
    obtain ⟨fd, hb, hF⟩ := Rd.facts (P := (PySem.Challenge.rw_roundstore_k50_worst_by_a_walk).prog) (w := w) KX G hmg c
    exact ⟨K, fd, Rd.spLaw K, KX, hb, fun H a ns hl _ hS => ⟨a, ns, rfl, hS, hl, fun _ => rfl⟩, hF⟩
