import PyProof.Rows.All
import Wide.All
import OpenK.AllK
import Wide.FinOn
import HandS.ForMost
import HandS.Exc
import HandS.ExcInit
import HandS.Nested
import HandS.WordsExc
import KE.KExcSuper
import HandS.ExcIs
import HandS.ExcField
import HandS.IsInst
import HandS.FStr
import HandS.RaiseMore
import KE.KExcIs
import PyProof.NeKinds
import PyProof.CallStr
import HandS.Text
import PyProof.InstNe
import HandS.SlotsOwn
import HandS.OwnEq
import KE.KCallOwn
import HandS.Zip
import HandS.Walk
import HandS.Star
import PyProof.Rows.FinIter
import KE.KOpsOwn
import OpenK.KMeth
import OpenK.KOps
import KE.GoesMore
import PyProof.Draws
import PyProof.EnumMake
import HandS.Iter
import HandS.ClsMeth
import HandS.Comp
import HandS.Property
import HandS.Wide
import HandS.Records
import KE.IntTextLaws
import HandS.Codes
import HandS.HeadHook1
import HandS.TupAny
import HandS.DictComp
import HandS.Dict
import HandS.List
import HandS.Small
import HandS.HotCalls
import HandS.ExcCtx
import HandS.Deep
import HandS.Strs
import KE.DataEq
import KE.KUnpackStar
import HandS.Replace
import PyProof.MeetsStr3
import PyProof.FitsReplace
import PySem.Challenge.RW_waterbyturns_k74_standing_texts
import HandS.ReplaceList
set_option Elab.async false
set_option linter.all false
set_option maxRecDepth 100000
set_option maxHeartbeats 4000000
namespace Wx
open PySem PySem.Spec PyProof.Rows L2 NdefX
/-! super().__init__(..) in the __init__ of an own exception class whose line goes over own classes to ValueError -/
section
variable {prog : Program} {w : World} {A : Around} {E : Value → Shared → Prop} {hp : Heap} {g : Array GenState} {d : Drawn} {t : Nat} {os : OsState}
theorem mw_called {u x t0 : Addr} {us : List Value} {Q : Value → Shared → Prop} {C N : Addr} {nm q : Str} {bs bm : List Value} {hdct : Bool} {sn : List Str} {sub : List Value} {ab : Bool} {col : Option Bool} {dd : Option Addr} {k0 k1 k2 k3 k5 : Option Value}
    (cC : hp.get? C = some (excClassObj nm q C N bs bm hdct sn sub ab col dd k0 k1 k2 k3 k5 "ValueError.__new__")) (cx : hp.get? x = some (PySem.HandSPX.excO C t0)) (cu : hp.get? u = some (PySem.W.kxs_mw "ValueError.__init__" x)) (hl : us.length ≤ sizeLine)
    (fin : ∀ h' t1, (∀ b o, b ≠ x → hp.get? b = some o → h'.get? b = some o) → h'.get? x = some (PySem.HandSPX.excO C t1) → Q .none ⟨h', g, d, t, os⟩) : wpAny (model prog w) A (call (.ref u) us) Q E ⟨hp, g, d, t, os⟩ := by
  refine wpAny_call (codeAny_of_tree ?_)
  show wpAny _ A.in1 (callAny (Value.ref u) (Args.mk us [])) _ _ _
  unfold callAny
  dsimp only
  refine wpAny_bind (wpAny_load cu ?_)
  have mt : (Value.type "method-wrapper" == Value.type "method" || Value.type "method-wrapper" == Value.type "builtin_function_or_method" || Value.type "method-wrapper" == Value.type "method-wrapper") = true := by decide
  simp only [PySem.W.kxs_mw, mt, if_true]
  refine PySem.W.KFB.if_so (by decide) (wpAny_bind (PySem.W.check_bound_init F.excBase_ValueError.toExcCallFacts cC cx rfl (wpAny_bind (wpAny_pure (wpAny_pure ?_)))))
  refine And.intro (plainId_quiet F.excBase_ValueError.init.plain _) (codeAny_builtin F.excBase_ValueError.initEntry ?_)
  exact PySem.W.exc_init_tree (cls := Value.ref C) (t0 := t0) (dv := Option.none) (c2 := Value.none) (c3 := Value.none) (b4 := Value.bool false) cx hl fun h' k e _ => fin h' _ k e
end
/-- the first statement: super().__init__(e, ..) -/
abbrev stSuper (p0 p1 p2 p3 p4 : Pos) (e : Expr) (es : List Expr) : Stmt := .Expr (.Call (.Attribute (.Call (.Name "super" p0) [] [] p1) "__init__" p2) (e :: es) [] p3) p4
abbrev nfS (name qual : Str) (params : Arguments) (body : List Stmt) (scope : Scope) (cc cda : Addr) : NF := ⟨name, qual, params, body, scope, [("__class__", cc)], cda⟩
/-- what the written part says -/
structure SupTxt (P : Program) (K : PySem.W.Frag) (mg : Str → Option Value) (C cda cc : Addr) (qual : Str) : Prop where
  oex : OexC K C
  code : PySem.W.codeIn K (.ref cda) qual = true
  file : ∃ (ccl : Value) (cdd : Option Addr) (vs : Array Value) (ccs : Array (Option Value)) (fl : Str) (tf : Tok), K.lookup cda = some ⟨ccl, cdd, .fields vs, ccs⟩ ∧ vs[2]? = some (.str fl tf) ∧ ((P.main.file : Str) == fl) = true
  cell : ∃ (cl : Value) (cld : Option Addr) (csl : Array (Option Value)), K.lookup cc = some ⟨cl, cld, .cell (some (.ref C)), csl⟩
  sup : mg "super" = none
  top : (P.main.scope.names.lookup ("super" : Str)).isSome = false
  mro : PySem.W.mroIn K C (.ref C) = some true
  subB : PySem.W.subIn K (.ref C) (.type "ValueError") = some true
  ini : PySem.W.ks_superIn K C C "__init__" = some (some (.builtin "ValueError.__init__"))
  opq : PySem.W.nsIn K cStatics "thirdparty.any" = some none
theorem exo_upd {H : Hp} {a C : Addr} {d : Option Addr} (e : H a = some (exo a C d)) : upd H a (exo a C d) = H := by
  funext b
  by_cases hb : b = a
  · rw [hb, upd_same, e]
  · rw [upd_ne hb]
section
variable {CX : CXT} {P : Program} {w : World} {K : PySem.W.Frag} {mg : Str → Option Value} {base : Heap} {name qual : Str} {params : Arguments} {scope : Scope} {dV kV doc pm ct oc : Value} {an od : Option Addr} {osl : Array (Option Value)} {f cda cc C : Addr}
  {N ps : List Str} {k : Nat} {sp : Sp} {e : Expr} {es : List Expr} {rest : List Stmt} {p0 p1 p2 p3 p4 : Pos} {ar : Arg}
theorem fn_super (lk : K.lookup f = some ⟨oc, od, .func (PySem.W.fnX name qual params (stSuper p0 p1 p2 p3 p4 e es :: rest) scope [("__class__", cc)] dV kV doc pm an (.ref cda) ct), osl⟩)
    (T : SupTxt P K mg C cda cc qual) (S : NScope N ps ["__class__"] scope) (hp : (params.posonlyargs ++ params.args).head? = some ar) (har : N[0]? = some ar.arg) (hal : scope.names.lookup ar.arg = some .local) (hks : scope.names.lookup ("super" : Str) = some .globalImplicit)
    (len : ∀ vs H Q E, sp vs H Q E → vs.length = ps.length)
    (hbody : ∀ (A : Around) (outer : List Env) (s : Shared) (H : Hp) (vs : List V) (Q : VK) (E : XK), Room k (A.deeper (envF (nfS name qual params (stSuper p0 p1 p2 p3 p4 e es :: rest) scope cc cda) f s.heap.objs.size)) → sp vs H Q E →
      ∃ ta tr, PA (ncx CX P w K mg base N (nfS name qual params (stSuper p0 p1 p2 p3 p4 e es :: rest) scope cc cda) f A outer s H E) (e :: es) ta ∧ PSs (ncx CX P w K mg base N (nfS name qual params (stSuper p0 p1 p2 p3 p4 e es :: rest) scope cc cda) f A outer s H E) rest tr ∧ ∃ (a : Addr) (vr : List V), vs = .ref a :: vr ∧ H a = some (exo a C none) ∧
        ta (startF N vs [some (.ref C)]) H fun ws H1 => ws.length ≤ 1000 ∧ H1 a = some (exo a C none) ∧ tr { nx := fun _ H' => Q .non H', rt := Q } (startF N vs [some (.ref C)]) H1)
    (hi : ∀ L : Addr, interactive (envF (nfS name qual params (stSuper p0 p1 p2 p3 p4 e es :: rest) scope cc cda) f L) = false := by intros; rfl)
    (hs : ∀ L : Addr, swapsWith (.Call (.Attribute (.Call (.Name "super" p0) [] [] p1) "__init__" p2) (e :: es) [] p3) none p4.line (envF (nfS name qual params (stSuper p0 p1 p2 p3 p4 e es :: rest) scope cc cda) f L) = pure false := by intros; rfl)
    (he : ∀ L : Addr, starEach (e :: es) (envF (nfS name qual params (stSuper p0 p1 p2 p3 p4 e es :: rest) scope cc cda) f L) = (false, eval e (envF (nfS name qual params (stSuper p0 p1 p2 p3 p4 e es :: rest) scope cc cda) f L)) :: starEach es (envF (nfS name qual params (stSuper p0 p1 p2 p3 p4 e es :: rest) scope cc cda) f L) := by intros; rfl)
    (hpl : ∀ L : Addr, (backTo p3 (starEach es (envF (nfS name qual params (stSuper p0 p1 p2 p3 p4 e es :: rest) scope cc cda) f L))).any (·.1) = false := by intros; rfl)
    (hev : ∀ L : Addr, ∃ pl, eval (.Call (.Attribute (.Call (.Name "super" p0) [] [] p1) "__init__" p2) (e :: es) [] p3) (envF (nfS name qual params (stSuper p0 p1 p2 p3 p4 e es :: rest) scope cc cda) f L) = (do
      let ov ← attributeBase (.Call (.Name "super" p0) [] [] p1) "__init__" (envF (nfS name qual params (stSuper p0 p1 p2 p3 p4 e es :: rest) scope cc cda) f L) (eval (.Call (.Name "super" p0) [] [] p1) (envF (nfS name qual params (stSuper p0 p1 p2 p3 p4 e es :: rest) scope cc cda) f L))
      standAt p2.atName
      let r ← holding [ov] (getMethod ov "__init__" pl)
      callWith p3 r.1 r.2 (backTo p3 (starEach (e :: es) (envF (nfS name qual params (stSuper p0 p1 p2 p3 p4 e es :: rest) scope cc cda) f L))) []) := by intros; exact ⟨_, rfl⟩) :
    FnOk P w K mg base CX (k + 1) f (PySem.W.fnX name qual params (stSuper p0 p1 p2 p3 p4 e es :: rest) scope [("__class__", cc)] dV kV doc pm an (.ref cda) ct) ps sp := by
  obtain ⟨clv, cld, csl, hcell⟩ := T.cell
  obtain ⟨ccl, cdd, vsC, ccs, flC, tfC, hcode, hvsC, hfile⟩ := T.file
  refine ⟨len, fun A outer s H args us vs Q E hr e0 hbind r hsp => ?_⟩
  have hl := len _ _ _ _ hsp
  have KX : K.In s.heap := e0.mod.kin.keeps fun b o z => (e0.bs b o z).1
  have lim : s.heap.NoLimit := e0.mod.nolimit.keeps fun b o z => (e0.bs b o z).1
  let F : NF := (nfS name qual params (stSuper p0 p1 p2 p3 p4 e es :: rest) scope cc cda)
  have Hc : H cc = none := (e0.bs cc _ (e0.mod.kin _ _ hcell)).2
  have CA : CellsAt F.cl ["__class__"] [some (V.ref C)] s.heap H := by
    have key : ∀ y c, F.cl.lookup y = some c → y = "__class__" ∧ c = cc := fun y c z => by
      by_cases q : y = "__class__"
      · subst q
        have z : some cc = some c := by simpa [F, List.lookup] using z
        exact ⟨rfl, (Option.some.inj z).symm⟩
      · have : (y == ("__class__" : Str)) = false := by simpa using q
        simp [F, List.lookup, this] at z
    refine ⟨rfl, fun y c z => ?_, fun x y c z z' => ?_, fun i y z => ?_⟩
    · obtain ⟨_, rfl⟩ := key y c z
      exact ⟨Hc, _, _, KX _ _ hcell, rfl⟩
    · rw [(key x c z).1, (key y c z').1]
    · have hi : i = 0 ∧ y = "__class__" := by
        cases i with
        | zero => exact ⟨rfl, (Option.some.inj z).symm⟩
        | succ i => simp at z
      obtain ⟨rfl, rfl⟩ := hi
      refine ⟨cc, by simp [F, List.lookup], fun v hv => ?_⟩
      have hv : V.ref C = v := Option.some.inj (Option.some.inj hv)
      subst hv
      exact ⟨.ref C, rfl, _, KX _ _ hcell, rfl⟩
  refine PySem.ks_codeAny_call_defAt (fd := PySem.W.fnX name qual params (stSuper p0 p1 p2 p3 p4 e es :: rest) scope [("__class__", cc)] dV kV doc pm an (.ref cda) ct) (body := stSuper p0 p1 p2 p3 p4 e es :: rest) (binds := ps.zip us) hr.depth (KX _ _ lk) rfl lim
    (PySem.W.codeRec_of KX T.code) rfl hbind S.nocell (fun y hy => S.par y.1 (List.of_mem_zip hy).1) (fun h₁ hns kp => ?_) S.co S.gen S.kind
  show PySem.wpAt (model P w) (A.deeper (envF F f s.heap.objs.size)) (.func (stSuper p0 p1 p2 p3 p4 e es :: rest) (envF F f s.heap.objs.size)) (execs (stSuper p0 p1 p2 p3 p4 e es :: rest) (envF F f s.heap.objs.size)) _ _ _
  have I : Inv (ncx CX P w K mg base N F f A outer s H E) [] (startF N vs [some (.ref C)]) H { s with heap := h₁, toks := s.toks + (ps.zip us).length } := inv_startN (F := F) S hr.hd e0 hl r CA hns kp
  obtain ⟨ta, tr, hA, hR, a, vr, rfl, ea, hq⟩ := hbody A outer s H vs Q E (hr.deeper _) hsp
  obtain ⟨nm, qn, Nn, bs, bm, sn, sub, ab, col, dd, k0, k1, k2, k3, k5, hC, hbm⟩ := T.oex.cls
  have hcl : PySem.W.clsIn K C = some { name := nm, bases := bs, mro := .ref C :: bm, ns := Nn, qualname := qn, hasDict := true, slotNames := sn, subclasses := sub, abstract := ab, collection := col, hasDel := false } := by unfold PySem.W.clsIn; rw [hC] <;> rfl
  -- the local that holds the object
  have self : ∀ {s1 : Shared} {H1 : Hp} {pins : List (Addr × Obj)}, Inv (ncx CX P w K mg base N F f A outer s H E) pins (startF N (.ref a :: vr) [some (.ref C)]) H1 s1 → ∃ m, s1.heap.Ns (envF F f s.heap.objs.size).locals m ∧ m ar.arg = some (.ref a) := fun J => by
    obtain ⟨m, hm, hl⟩ := J.loc
    obtain ⟨u, ru, hk⟩ := hl 0 ar.arg (.ref a) har rfl (.inl hal)
    refine ⟨m, hm, ?_⟩
    rcases hk with ⟨_, hk⟩ | ⟨hk, _⟩
    · rw [hk]
      exact congrArg some ru
    · exfalso
      have hk : scope.names.lookup ar.arg = some .cell ∨ scope.names.lookup ar.arg = some .free := hk
      rw [hal] at hk
      rcases hk with z | z <;> cases z
  have fin : ∀ {fl : Flow} {s' : Shared}, SP (ncx CX P w K mg base N F f A outer s H E) [] { nx := fun _ H' => Q .non H', rt := Q } fl s' → CR CX outer P w H s Q E (.ok (.ret (match fl with | .ret v => v | _ => .none))) s' := fun {fl s'} hs' => by
    have out : ∀ {σ' : L2.St} {H' : Hp} {v : V} {u : Value}, Inv (ncx CX P w K mg base N F f A outer s H E) [] σ' H' s' → L2.RelV v u → Q v H' → CE outer P w H s Q u s' := fun {σ' H' v u} J rv q => ⟨v, H', J.os, J.bare, J.base, J.hok, rv, q⟩
    cases fl with
    | ret u =>
      obtain ⟨v, σ', H', J, rv, q⟩ := hs'
      exact out J rv q
    | next =>
      obtain ⟨σ', H', J, q⟩ := hs'
      exact out (v := V.non) (u := Value.none) J rfl q
    | brk =>
      obtain ⟨_, _, _, q⟩ := hs'
      exact q.elim
    | cont =>
      obtain ⟨_, _, _, q⟩ := hs'
      exact q.elim
  obtain ⟨pl, hev⟩ := hev s.heap.objs.size
  refine PySem.ks_wpAt_execs_cons (PySem.ks_wpAt_Expr_any (PySem.ks_wpAt_MethodCall (pl := pl) ?_ hev) (hi _) (hs _))
  · obtain ⟨m, hm, hma⟩ := self I
    obtain ⟨oD, hD1, hD2⟩ : ∃ oD, h₁.get? C = some oD ∧ oD.data = .cls { name := nm, bases := bs, mro := .ref C :: bm, ns := Nn, qualname := qn, hasDict := true, slotNames := sn, subclasses := sub, abstract := ab, collection := col, hasDel := false } := ⟨_, I.kIn _ _ hC, rfl⟩
    refine PySem.ks_wpAt_super_base (env := envF F f s.heap.objs.size) hks (S.frk _ (by simp)) rfl rfl (I.kIn _ _ lk) rfl hp rfl (I.kIn _ _ hcode) rfl hvsC hfile T.top ?_
    obtain ⟨mb, hb1, hb2⟩ := I.mod.blt
    refine PySem.W.ks_loadName_global S.kind hks (Calls.loadGlobal_builtin (I.mod.glob.keeps I.bk) T.sup (hb1.keeps I.bk) ((hb2 "super" (by decide)).trans (by decide +kernel : bootBuiltins "super" = some (.type "super"))) ⟨rfl, ?_⟩)
    refine wpAny_loadName_free S.kind (S.frk _ (by simp)) rfl ⟨_, I.kIn _ _ hcell, rfl⟩ ?_
    refine wpAny_loadName_local S.kind hal hm hma ?_
    refine PySem.ks_wpAny_isType_cls hD1 hD2 ⟨rfl, ?_⟩
    obtain ⟨t1, ho⟩ := exo_at I.hok ea
    have IA : PySem.W.InstAt h₁ a { cls := .ref C, dict := none, data := .fields #[.ref t1, .none, .none, .none, .bool false, .none] } C none := ⟨ho, rfl, rfl, trivial⟩
    refine PySem.ks_wpAny_call_super hD1 hD2 ho rfl (fun c z => by cases z) (PySem.W.looks_mroIn I.kIn T.mro) (fun h2 e2 k2 => ?_)
    have J2 : Inv (ncx CX P w K mg base N F f A outer s H E) [] (startF N (.ref a :: vr) [some (.ref C)]) H { s with heap := h2, toks := s.toks + (ps.zip us).length } := I.kept k2
    have ni : PySem.W.alongIn K "__init__" (((Value.ref C :: bm).dropWhile (· != .ref C)).drop 1) = some (some (.builtin "ValueError.__init__")) := by
      have z := T.ini
      unfold PySem.W.ks_superIn at z
      rw [hcl] at z
      exact z
    have ho2 := k2 _ _ ho
    have hI : PySem.W.Looks (model P w) h2 (isInstance (.ref a) (.type "ValueError")) true := (show PySem.W.InstAt h2 a _ C none from ⟨ho2, rfl, rfl, trivial⟩).type.andThen (PySem.W.looks_subIn J2.kIn T.subB)
    refine PySem.W.kxs_getMethod PySem.W.kxs_ValueError e2 (PySem.W.looks_opaque J2.kIn T.opq) ((PySem.W.looks_clsIn J2.kIn hcl).andThen .now) rfl J2.kIn ni hI (PySem.W.ks_ne I.kIn IA hcl) (by decide) ?_
    have J3 : Inv (ncx CX P w K mg base N F f A outer s H E) [] (startF N (.ref a :: vr) [some (.ref C)]) H { s with heap := h2.push (PySem.W.kxs_mw "ValueError.__init__" a), toks := s.toks + (ps.zip us).length + 1 } := J2.kept fun b o z => Heap.get?_push_of_some _ z
    have hmw : (h2.push (PySem.W.kxs_mw "ValueError.__init__" a)).get? h2.objs.size = some (PySem.W.kxs_mw "ValueError.__init__" a) := Heap.get?_push_at rfl rfl
    have J4 : Inv (ncx CX P w K mg base N F f A outer s H E) [(h2.objs.size, PySem.W.kxs_mw "ValueError.__init__" a)] (startF N (.ref a :: vr) [some (.ref C)]) H { s with heap := h2.push (PySem.W.kxs_mw "ValueError.__init__" a), toks := s.toks + (ps.zip us).length + 1 } := by
      refine ⟨J3.ok, J3.os, J3.bare, J3.base, J3.loc, J3.cell, J3.free, J3.freeC, fun p hp => ?_, J3.hok, J3.len⟩
      have hp : p = (h2.objs.size, PySem.W.kxs_mw "ValueError.__init__" a) := by
        have z : p ∈ ([] : List (Addr × Obj)) ++ [(h2.objs.size, PySem.W.kxs_mw "ValueError.__init__" a)] := hp
        simpa using z
      subst hp
      refine ⟨hmw, J2.hok.fresh (Nat.le_refl _), fun z => absurd J2.lt ?_, fun z => ?_, fun v z => by cases z⟩
      · rw [← z]
        exact Nat.lt_irrefl _
      · obtain ⟨_, o1, ho1, _⟩ := J2.ok.funs.mem z
        obtain ⟨o2, ho2'⟩ := J2.base.there _ _ ho1 (fun y => absurd (show _ ∈ ([] : List Addr) from y) (by simp))
        exact absurd (Heap.lt_size ho2') (Nat.lt_irrefl _)
    rw [he s.heap.objs.size]
    refine PySem.W.kxs_callWith (i := "ValueError.__init__") (x := a) (by show (false || (backTo p3 (starEach es (envF F f s.heap.objs.size))).any fun y => y.1) = false; rw [hpl s.heap.objs.size]; rfl) ?_
    refine Calls.evalArgs_plain ?_
    have run := hA.run p3 _ _ _ _ _ J4 hq
    rw [show starEach (e :: es) (ncx CX P w K mg base N F f A outer s H E).env = _ from he s.heap.objs.size] at run
    refine thn run fun us4 s4 hap => ?_
    obtain ⟨ws, H4, I4, r4, hw, ea4, tr4⟩ := hap
    obtain ⟨cu4, _⟩ := I4.pin _ (List.mem_append_right _ List.mem_cons_self)
    refine ⟨cu4, ?_⟩
    obtain ⟨t4, ho4⟩ := exo_at I4.hok ea4
    have hlen4 : us4.length ≤ sizeLine := by
      rw [← Paired.length r4]
      exact Nat.le_of_lt (small1000 hw)
    obtain ⟨h4, g4, d4, tk4, os4⟩ := s4
    refine mw_called (I4.kIn _ _ hC) ho4 cu4 hlen4 fun h5 t5 k5 e5 => ?_
    have I5 := I4.write (t' := tk4) (x := a) (e := a) (o := exo a C none) (by rw [ea4]; exact True.intro) (.inl rfl) k5 ⟨_, e5⟩ (exo_ok e5)
    rw [exo_upd ea4] at I5
    have I6 : Inv (ncx CX P w K mg base N F f A outer s H E) [] (startF N (.ref a :: vr) [some (.ref C)]) H4 ⟨h5, g4, d4, tk4, os4⟩ := ⟨I5.ok, I5.os, I5.bare, I5.base, I5.loc, I5.cell, I5.free, I5.freeC, fun p hp => absurd (show p ∈ ([] : List (Addr × Obj)) ++ [] from hp) (by simp), I5.hok, I5.len⟩
    exact wpAt_of_wpAny (wpAny_mono (hR.run [] _ _ _ _ I6 tr4) (fun fl s' z => fin z) fun _ _ z => z)
end
end Wx

namespace Wx
open PySem PySem.Spec PyProof.Rows L2
/-! a caught exception that is kept behind its except suite -/
/-- at a: an exception of the class cls, its dict d -/
def exv (cls : Value) (d : Option Addr) (a : Addr) : HO := .ext fun h => ∃ (oe : Obj) (vs : Array Value), h.get? a = some oe ∧ Zc cls d oe ∧ oe.data = .fields vs
theorem exv_ok {P : Program} {w : World} {H : Hp} {h : Heap} {a : Addr} {cls : Value} {d : Option Addr} {oe : Obj} {vs : Array Value} (e : h.get? a = some oe) (z : Zc cls d oe) (q : oe.data = .fields vs) : ObjOk P w H h a (exv cls d a) :=
  ⟨⟨oe, vs, e, z, q⟩, ⟨oe, e⟩, fun _ _ ⟨o, v, x, y⟩ k => ⟨o, v, k o x, y⟩⟩
theorem exv_at {P : Program} {w : World} {H : Hp} {h : Heap} {a : Addr} {cls : Value} {d : Option Addr} (x : HOk P w H h) (e : H a = some (exv cls d a)) : ∃ (oe : Obj) (vs : Array Value), h.get? a = some oe ∧ Zc cls d oe ∧ oe.data = .fields vs := by
  have y : ObjOk P w H h a (.ext fun h => ∃ (oe : Obj) (vs : Array Value), h.get? a = some oe ∧ Zc cls d oe ∧ oe.data = .fields vs) := x a _ e
  exact y.1
section
variable {X : Cx} {pins : List (Addr × Obj)} {σ : L2.St} {H : Hp} {s : Shared}
theorem tracked {a : Addr} {oe : Obj} {vs : Array Value} {cls : Value} {d : Option Addr} (J : Inv X ((a, oe) :: pins) σ H s) (n0 : X.s_0.heap.get? a = none) (np : ∀ p, p ∈ X.pn ++ pins → p.1 ≠ a) (hz : Zc cls d oe) (hd : oe.data = .fields vs) :
    Inv X pins σ (upd H a (exv cls d a)) s := by
  obtain ⟨ga, na, nL, nF, nc⟩ := J.pin (a, oe) (List.mem_append_right _ List.mem_cons_self)
  have ga : s.heap.get? a = some oe := ga
  have na : H a = none := na
  have neS : ∀ {b : Addr} {o : HO}, H b = some o → b ≠ a := fun e => ne_of_none e na
  have ne0 : ∀ {b : Addr} {o : Obj}, X.s_0.heap.get? b = some o → b ≠ a := fun {b o} e z => by
    rw [z, n0] at e
    cases e
  refine ⟨J.ok, J.os, J.bare, ⟨J.base.keep, J.base.slot, fun b o e n x => ?_, J.base.there, fun b xs e => ?_, fun b o u e => ?_, fun b ps e => ?_⟩, J.loc, J.cell, ?_, fun y c e => ?_, fun p hp => ?_, fun b u e => ?_, J.len⟩
  · rw [upd_ne (ne0 e)]
    exact J.base.free b o e n x
  · have q := J.base.tups b xs e
    rw [upd_ne (neS q)]
    exact q
  · have q := J.base.frzs b o u e
    rw [upd_ne (neS q)]
    exact q
  · obtain ⟨ms, q⟩ := J.base.tbls b ps e
    exact ⟨ms, by rw [upd_ne (neS q)]; exact q⟩
  · rw [upd_ne (fun z => nL z.symm)]
    exact J.free
  · have nca : c ≠ a := fun z => by
      obtain ⟨v, o, q1, q2⟩ := J.cell y c e
      rw [z, ga] at q1
      cases q1
      exact nc _ q2
    rw [upd_ne nca]
    exact J.freeC y c e
  · have hm : p ∈ X.pn ++ (a, oe) :: pins := by
      rcases List.mem_append.mp hp with z | z
      · exact List.mem_append_left _ z
      · exact List.mem_append_right _ (List.mem_cons_of_mem _ z)
    obtain ⟨q1, q2, q3, q4, q5⟩ := J.pin p hm
    exact ⟨q1, by rw [upd_ne (np p hp)]; exact q2, q3, q4, q5⟩
  · by_cases hb : b = a
    · subst hb
      rw [upd_same] at e
      cases e
      exact exv_ok ga hz hd
    · rw [upd_ne hb] at e
      exact (J.hok b u e).stay (fun _ _ _ q => q) (fun c q => by rw [upd_ne (neS q)]; exact q) fun c xs q => by rw [upd_ne (neS q)]; exact q
end
/-- what 'except x as n: ..' wishes, the exception kept: slot i is n's -/
def wKeep (K : PySem.W.Frag) (c : Value) (i : Nat) (ts : Addr → Value → Option Addr → TS) (Wout : WX) (D : Ends) : WX := fun cls d σ H =>
  ∃ b, PySem.W.exmOne K cls c = some b ∧ (b = true → ∀ a, H a = none → ts a cls d { nx := fun σ1 H1 => D.nx (σ1.set i none) (upd H1 a (exv cls d a)), rt := fun v H1 => D.rt v (upd H1 a (exv cls d a)), bk := fun σ1 H1 => D.bk (σ1.set i none) (upd H1 a (exv cls d a)), ct := fun σ1 H1 => D.ct (σ1.set i none) (upd H1 a (exv cls d a)) } (σ.set i (some (.ref a))) H) ∧
    (b = false → Wout cls d σ H)
section
variable {X : Cx} {x n : Str} {c : Value} {i : Nat} {body suite : List Stmt} {b₀ : Stmt} {np pos pos' : Pos} {tb : WX → TS} {ts : Addr → Value → Option Addr → TS} {Wout : WX}
theorem ps_try_keep (hex : X.ex = []) (stk : X.stack = X.env :: X.outer) (frm : X.env.frame = some X.env.locals) (nd : X.N.Nodup) (atI : X.N[i]? = some n) (lcl : X.env.kindOf n = some .local) (nms : Names X x c) (tko : Takes X Wout)
    (hbody : ∀ (W : WX) (pn : List (Addr × Obj)) (xe : Value → Shared → Prop), Takes (X.tr pn xe) W → PassesOwn (model X.prog X.w) X.A X.env xe → PSs (X.tr pn xe) body (tb W))
    (hsuite : ∀ (a : Addr) (oe : Obj) (cls : Value) (d : Option Addr) (pn : List (Addr × Obj)), Zc cls d oe → (∃ vs, oe.data = .fields vs) → PSs (X.suite a ((a, oe) :: pn)) (b₀ :: suite) (ts a cls d)) :
    PS X (.Try body [.ExceptHandler (some (.Name x np)) (some n) (b₀ :: suite) pos'] [] [] pos) (fun D σ H => tb (wKeep X.K c i ts Wout D) D σ H) := by
  refine ⟨fun pins s σ H D I0 rd => ?_⟩
  have okX := I0.ok
  have frA : X.A.frames = some (X.env :: X.outer) := okX.frames.trans (congrArg some stk)
  have locN : Loc X.env.scope n := Or.inl lcl
  refine wpAny_Try_except (wpAny_mono ((hbody (wKeep X.K c i ts Wout D) (X.pn ++ pins) (fun e s₁ => wpAny (model X.prog X.w) X.A (noteFrame e X.env) (fun _ s₂ => wpAny (model X.prog X.w) X.A (setFlight e none) (fun _ s₃ =>
      wpAny (model X.prog X.w) X.A (handleBy e X.env [.ExceptHandler (some (.Name x np)) (some n) (b₀ :: suite) pos']) (SP X pins D) X.xe s₃) X.xe s₂) X.xe s₁) (fun u s' caught => ?_) PassesOwn.looking).run [] s σ H D (I0.toTry _) rd) (fun fl s1 done => ?_) (fun _ _ z => z))
  · obtain ⟨a, B, sI, pinsT, σT, HT, cls, d, rfl, JT, nb, upT, skyT, naT, osT, agT, b, hcl, hyes, hno⟩ := caught
    have JX : Inv X pins σT HT sI := Inv.ofTry JT okX
    have skyX : Sky B (X.env :: X.outer) a (Zc cls d) X.env.locals s'.heap := stk ▸ skyT
    show wpAny _ X.A (noteFrame (Value.ref a) X.env) _ _ _
    refine Sky.land Zc.steady frA frm skyX (fun hq flq upq => ?_)
    have Jq : Inv X pins σT HT { s' with heap := hq } := JX.landed nb flq.1 (upT.trans upq) osT agT
    obtain ⟨oeq, vsq, heq, hzq, hdq⟩ := flq.there
    have nfr : a ∉ frs (X.env :: X.outer) := fun hm => by
      obtain ⟨_, o', e', nf'⟩ := flq.2.2.1.mem hm
      have z := heq.symm.trans e'
      cases z
      exact nf' _ hdq
    have nLoc : a ≠ X.env.locals := fun z => nfr (List.mem_filterMap.mpr ⟨X.env, List.mem_cons_self, frm.trans (congrArg some z.symm)⟩)
    have nOut : a ∉ X.fs := fun hm => by
      obtain ⟨ev, hev, qv⟩ := List.mem_filterMap.mp hm
      exact nfr (List.mem_filterMap.mpr ⟨ev, List.mem_cons_of_mem _ hev, qv⟩)
    -- the exception is younger than the frame
    have sInone : sI.heap.get? a = none := by
      cases z : sI.heap.get? a with
      | none => rfl
      | some o =>
        have Bn : B.get? a = none := by
          rcases skyX with ⟨_, q, _⟩ | q | q
          · exact q
          · exact q.2.1
          · exact q.2.1
        have y := nb a o z (fun hm => nfr (by rw [← stk]; exact hm))
        rw [Bn] at y
        cases y
    have s0none : X.s_0.heap.get? a = none := by
      cases z : X.s_0.heap.get? a with
      | none => rfl
      | some o =>
        obtain ⟨o2, y⟩ := JX.base.there a o z (by rw [hex]; simp)
        rw [sInone] at y
        cases y
    have pinNe : ∀ p, p ∈ X.pn ++ pins → p.1 ≠ a := fun p hp z => by
      have y := (JX.pin p hp).1
      rw [z, sInone] at y
      cases y
    have Sq := Jq.suite heq hdq naT nLoc nOut
    refine wpAny_handleBy_cons (codeAny_handlers_test ?_) (by rintro ⟨⟩)
    have LTy : PySem.W.Looks (model X.prog X.w) hq (typeOf (.ref a)) cls := fun A Q E s k q => wpAny_typeOf_ref (k _ _ heq) (hzq.1 ▸ q)
    have LEx := PySem.W.exm_one (M := model X.prog X.w) Jq.kIn LTy hcl
    have tst : ∀ {Q : Value → Shared → Prop} {E : Value → Shared → Prop}, Q c { s' with heap := hq } → wpAny (model X.prog X.w) (X.A.mark (some (.ref a))) (eval (.Name x np) X.env) Q E { s' with heap := hq } := fun {Q E} q => by
      obtain ⟨g1, g2, g3 | ⟨g3, g4, g5⟩⟩ := nms
      · exact ld_glob (X := X.suite a ((a, oeq) :: (X.pn ++ pins))) Sq g1 g3 q g2
      · exact ld_blt (X := X.suite a ((a, oeq) :: (X.pn ++ pins))) Sq g1 g3 g4 q g5 g2
    refine tst (LEx.here ?_)
    cases b with
    | true =>
      refine codeAny_handlers_suite_as (HandSPX.lands_againZ flq fun hr flr upr => ?_)
      have Jr : Inv X pins σT HT { s' with heap := hr } := JX.landed nb flr.1 ((upT.trans upq).trans upr) osT agT
      obtain ⟨oer, vsr, her, hzr, hdr⟩ := flr.there
      have Sr := Jr.suite her hdr naT nLoc nOut
      refine store_ok (X := X.suite a ((a, oer) :: (X.pn ++ pins))) (v := V.ref a) Sr nd atI locN rfl (fun s5 S5 => ?_) (Or.inr lcl)
      refine wpAny_mono ((hsuite a oer cls d (X.pn ++ pins) hzr ⟨_, hdr⟩).run [] s5 _ HT _ S5 (hyes rfl a naT)) (fun fl s6 out => ?_) (fun _ _ z => z.elim)
      have leave : ∀ {σ6 : L2.St} {H6 : Hp} {Q : Shared → Prop}, Inv (X.suite a ((a, oer) :: (X.pn ++ pins))) [] σ6 H6 s6 → (∀ s7, Inv X pins (σ6.set i none) (upd H6 a (exv cls d a)) s7 → Q s7) →
          wpAny (model X.prog X.w) X.A (do bindName X.env n .none; unbindBehindTheSuite X.env n pos') (fun _ s7 => Q s7) X.xe s6 := fun {σ6 H6 Q} S6 hQ => by
        have S7 : Inv X ((a, oer) :: pins) σ6 H6 s6 := ⟨okX, S6.os, S6.bare, S6.base, S6.loc, S6.cell, S6.free, S6.freeC, fun p hp => S6.pin p (by
          rw [List.append_nil]
          rcases List.mem_append.mp hp with z | z
          · exact List.mem_cons_of_mem _ (List.mem_append_left _ z)
          · rcases List.mem_cons.mp z with y | y
            · rw [y]
              exact List.mem_cons_self
            · exact List.mem_cons_of_mem _ (List.mem_append_right _ y)), S6.hok, S6.len⟩
        exact gone_ok S7 nd atI lcl fun s7 J7 => hQ s7 (tracked J7 s0none pinNe hzr hdr)
      cases fl with
      | next =>
        obtain ⟨σ6, H6, S6, q6⟩ := out
        exact leave S6 fun s7 J7 => ⟨_, _, J7, q6⟩
      | brk =>
        obtain ⟨σ6, H6, S6, q6⟩ := out
        exact leave S6 fun s7 J7 => ⟨_, _, J7, q6⟩
      | cont =>
        obtain ⟨σ6, H6, S6, q6⟩ := out
        exact leave S6 fun s7 J7 => ⟨_, _, J7, q6⟩
      | ret u =>
        obtain ⟨v6, σ6, H6, S6, r6, q6⟩ := out
        exact leave S6 fun s7 J7 => ⟨_, _, _, J7, r6, q6⟩
    | false =>
      show wpAny _ X.A (handleBy (Value.ref a) X.env []) _ _ _
      refine wpAny_handleBy_nil ?_
      obtain ⟨z1, z2, z3, oe, vs, T1, oT1, tsT, he, hz, hd, h1, hr1⟩ := id flq
      unfold PySem.passOn
      refine wpAny_bind (wpAny_field he hd h1 ?_)
      rw [if_neg (show ¬ ((Value.ref T1 == Value.none) = true) by simp)]
      have fin : wpAny (model X.prog X.w) X.A (setFlight (.ref a) X.env.frame) (fun _ s4 => wpAny (model X.prog X.w) X.A (throw (.ref a) : Sem Flow) (SP X pins D) X.xe s4) X.xe { s' with heap := hq } := by
        rw [frm]
        exact HandSPX.setFlight_upZ flq fun h4 hh4 up4 => wpAny_throw (tko _ _ ⟨a, B, sI, pins, σT, HT, cls, d, rfl, JX, nb, (upT.trans upq).trans up4, .inr (.inr (by rw [stk]; exact hh4)), naT, osT, agT, hno rfl⟩)
      first
        | exact wpAny_bind (wpAny_pure (wpAny_bind fin))
        | exact wpAny_bind fin
  · cases fl with
    | next =>
      obtain ⟨σ1, H1, J1, q1⟩ := done
      exact wpAny_execs_nil ⟨σ1, H1, J1.ofTry okX, q1⟩
    | brk =>
      obtain ⟨σ1, H1, J1, q1⟩ := done
      exact ⟨σ1, H1, J1.ofTry okX, q1⟩
    | cont =>
      obtain ⟨σ1, H1, J1, q1⟩ := done
      exact ⟨σ1, H1, J1.ofTry okX, q1⟩
    | ret u =>
      obtain ⟨v1, σ1, H1, J1, r1, q1⟩ := done
      exact ⟨v1, σ1, H1, J1.ofTry okX, r1, q1⟩
end
end Wx

namespace Wx
open PySem PySem.Spec PyProof.Rows L2 NdefX
section
variable {X : Cx}
/-- e.n, e a kept exception of an own class -/
def tEv (K : PySem.W.Frag) (n : Str) (te : TE) : TE := fun σ H Q => te σ H fun x H1 => ∃ (a C dd : Addr) (fs : List (Str × V)) (v : V), x = .ref a ∧ XfC K C ∧ PySem.W.findIn K (.ref C) n = some none ∧ H1 a = some (exv (.ref C) (some dd) a) ∧ H1 dd = some (.xd fs) ∧ fs.lookup n = some v ∧ Q v H1
theorem pe_ev {e : Expr} {te : TE} {pos : Pos} {n : Str} (he : PE X e te) (hb : attributeBase e n X.env (eval e X.env) = eval e X.env := by rfl) : PE X (.Attribute e n pos) (tEv X.K n te) := by
  refine ⟨fun pins s σ H Q I h => attr_of hb (thn (he.run pins s σ H _ I h) fun u s1 got => ?_)⟩
  obtain ⟨x, H1, I1, rx, a, C, dd, fs, v, ex, T, hno, ea, ed, hl, q⟩ := got
  subst ex
  obtain rfl : u = Value.ref a := rx
  obtain ⟨oe, vs, ga, hz, hd⟩ := exv_at I1.hok ea
  obtain ⟨mA, hns, hr⟩ : ObjOk X.prog X.w H1 s1.heap dd (.xd fs) := I1.hok dd _ ed
  obtain ⟨od, ho, hlk⟩ := lookIn_ns hns
  obtain ⟨u, hu, ru⟩ := RelO.some_of (v := v) (o := mA n) (by rw [← hl]; exact hr n)
  have inst : PySem.W.InstAt s1.heap a oe C (some od) := ⟨ga, hz.1, by unfold PySem.W.notCls; rw [hd] <;> rfl, by rw [hz.2]; exact ho⟩
  exact HandSPX.exc_get I1.kIn inst T.ga T.gg T.exC (PySem.W.findObj_own T.hdC hno rfl (by rw [hlk, hu])) (handed_of ru) ⟨v, H1, I1.tok _, ru, q⟩
/-- isinstance(e, c), e a kept exception of an own class -/
def rIsX (K : PySem.W.Frag) : List V → Hp → VK → Prop := fun xs H Q => ∃ (a C : Addr) (d : Option Addr) (c : V) (u : Value) (b : Bool), xs = [.ref a, c] ∧ ClsV c u ∧ ExcC K C ∧ H a = some (exv (.ref C) d a) ∧ (∀ dd, d = some dd → ∃ fs, H dd = some (.xd fs)) ∧ PySem.W.kitOne K (.ref C) u = some b ∧ Q (.bl b) H
theorem call_isX : CallR X (.builtin "isinstance") (rIsX X.K) := by
  intro pins s σ H xs us Q I r h
  obtain ⟨a, C, d, c, u, b, rfl, hc, T, ea, hd, hk, q⟩ := h
  cases r with
  | cons r1 r2 =>
    cases r2 with
    | cons r3 r4 =>
      cases r4
      cases r1
      have eu := hc.eq r3
      subst eu
      obtain ⟨oe, vs, ga, hz, hf⟩ := exv_at I.hok ea
      have inst : ∃ od, PySem.W.InstAt s.heap a oe C od := by
        cases d with
        | none => exact ⟨none, ga, hz.1, by unfold PySem.W.notCls; rw [hf] <;> rfl, by rw [hz.2]; trivial⟩
        | some dd =>
          obtain ⟨fs, ed⟩ := hd dd rfl
          obtain ⟨mA, hns, _⟩ : ObjOk X.prog X.w H s.heap dd (.xd fs) := I.hok dd _ ed
          obtain ⟨od, ho, _⟩ := lookIn_ns hns
          exact ⟨some od, ga, hz.1, by unfold PySem.W.notCls; rw [hf] <;> rfl, by rw [hz.2]; exact ho⟩
      obtain ⟨od, inst⟩ := inst
      have hcl : (PySem.W.clsIn X.K C).isSome = true := by
        obtain ⟨cd, hcd, _⟩ := PySem.W.any_some T.hd
        rw [hcd]
        rfl
      exact PySem.W.kia_one (PySem.W.kitx_exc hcl T.hg T.hk T.hs T.ha T.hn T.ht T.hm) I.kIn inst hk (fun z => nomatch z) fun tk => ⟨.bl b, H, I.kept (t' := tk) fun _ _ z => z, rfl, q⟩
theorem call_repr_str : CallR X (.builtin "repr") (fun xs H Q => ∃ z, xs = [.str z] ∧ (reprText z).length ≤ sizeLine ∧ Q (.str (reprText z)) H) := by
  intro pins s σ H xs us Q I r h
  obtain ⟨z, rfl, hz, q⟩ := h
  obtain ⟨u, rfl, t, rfl⟩ := vals1 r
  exact PySem.P.repr_of_str ⟨.str (reprText z), H, I.tok _, ⟨_, rfl⟩, q⟩ hz
end
/-! ### what the errors' modules promise -/
/-- a value that a message can show -/
def ShowOk (x : V) : Prop := (∃ z, x = .str z ∧ (reprText z).length ≤ 20000) ∨ (∃ i, x = .int i) ∨ x = .non ∨ ∃ b, x = .bl b
def sp_shown : Sp := fun vs H Q _ => ∃ x, vs = [x] ∧ ShowOk x ∧ ∀ y : Str, y.length ≤ 20000 → Q (.str y) H
/-- __init__ of an own error: the object at a gets a dict of these fields -/
def InitLeaves (H : Hp) (a C : Addr) (fs : List (Str × V)) (Q : VK) : Prop := ∀ (dx : Addr) (H' : Hp), H dx = none → (∀ b o, b ≠ a → H b = some o → H' b = some o) → H' a = some (exo a C (some dx)) → H' dx = some (exd dx fs) → Q .non H'
def spBadNumber (C : Addr) : Sp := fun vs H Q _ => ∃ (a : Addr) (z : Str) (v : V), vs = [.ref a, .str z, v] ∧ H a = some (exo a C none) ∧ z.length ≤ 1000 ∧ ShowOk v ∧ InitLeaves H a C [("value", v), ("what", .str z)] Q
def spBadName (C : Addr) : Sp := fun vs H Q _ => ∃ (a : Addr) (v : V), vs = [.ref a, v] ∧ H a = some (exo a C none) ∧ ShowOk v ∧ InitLeaves H a C [("name", v)] Q
/-- all that is asked of an own error class -/
structure ErrC (P : Program) (K : PySem.W.Frag) (mg : Str → Option Value) (x qual : Str) (C f cda cc : Addr) : Prop where
  g : mg x = some (.ref C)
  sup : SupTxt P K mg C cda cc qual
  ini : PySem.W.findIn K (.ref C) "__init__" = some (some (.ref f))
  tyI : PySem.W.typeIn K (.ref f) = some (.type "function")
  xf : XfC K C
  isx : ExcC K C
  exm : PySem.W.exmOne K (.ref C) (.ref C) = some true
  noWhat : PySem.W.findIn K (.ref C) "what" = some none
  noValue : PySem.W.findIn K (.ref C) "value" = some none
  noName : PySem.W.findIn K (.ref C) "name" = some none
  noTurn : PySem.W.findIn K (.ref C) "turn" = some none
theorem init_leaves2 {H : Hp} {a C : Addr} {f1 f2 : Str} {v1 v2 : V} {Q : VK} (ha : H a = some (exo a C none)) (k : InitLeaves H a C [(f2, v2), (f1, v1)] Q) {dx : Addr} (nd : H dx = none) (ne : dx ≠ a) :
    Q .non (upd (upd (upd H dx (exd dx [(f1, v1)])) a (exo a C (some dx))) dx (exd dx [(f2, v2), (f1, v1)])) := by
  refine k dx _ nd (fun b o nb e => ?_) ?_ upd_same
  · have nbd : b ≠ dx := ne_of_none e nd
    rw [upd_ne nbd, upd_ne nb, upd_ne nbd]
    exact e
  · rw [upd_ne (Ne.symm ne)]
    exact upd_same
theorem init_leaves1 {H : Hp} {a C : Addr} {f1 : Str} {v1 : V} {Q : VK} (k : InitLeaves H a C [(f1, v1)] Q) {dx : Addr} (nd : H dx = none) (ne : dx ≠ a) : Q .non (upd (upd H dx (exd dx [(f1, v1)])) a (exo a C (some dx))) := by
  refine k dx _ nd (fun b o nb e => ?_) upd_same ?_
  · rw [upd_ne nb, upd_ne (ne_of_none e nd)]
    exact e
  · rw [upd_ne ne]
    exact upd_same
/-- C(..) made: its promise by what __init__ leaves; the exception itself goes, its dict stays -/
theorem made_of {H1 : Hp} {a C : Addr} {fs : List (Str × V)} {Q : XK} (na : H1 a = none) (k : ∀ (d : Addr) (H' : Hp), H1 d = none → Same H1 H' → H' d = some (.xd fs) → Q (.ref C) (some d) H') :
    InitLeaves (upd H1 a (exo a C none)) a C fs (fun v H2 => v = .non ∧ ∃ (d : Addr) (gs : List (Str × V)), H2 a = some (exo a C (some d)) ∧ H2 d = some (exd d gs) ∧ H1 d = none ∧ Q (.ref C) (some d) (upd (del H2 a) d (.xd gs))) := fun dx H' nd keep ha hd => by
  have nda : dx ≠ a := fun z => by
    rw [z, upd_same] at nd
    cases nd
  have nd1 : H1 dx = none := by
    rw [upd_ne nda] at nd
    exact nd
  refine ⟨rfl, dx, fs, ha, hd, nd1, k dx _ nd1 (fun b o e => ?_) upd_same⟩
  have nba : b ≠ a := ne_of_none e na
  rw [upd_ne (ne_of_none e nd1), del_ne nba]
  exact keep b o nba (by rw [upd_ne nba]; exact e)
end Wx

namespace Wx
open PySem PySem.Spec PyProof.Rows L2 NdefX
theorem gives_lt_ib (p : Bool) (b : Int) (u : Tok) : Gives (Builtin.«int.__lt__» ⟨[.bool p, .int b u], []⟩) (.val (Value.bool (decide ((if p = true then (1 : Int) else 0) < b)))) :=
  .of_wp fun M A E s Q h => by obtain ⟨hp, g, d, tk, os⟩ := s; wp_walk; exact ⟨_, rfl, h⟩
theorem gives_gt_ib (p : Bool) (b : Int) (u : Tok) : Gives (Builtin.«int.__gt__» ⟨[.bool p, .int b u], []⟩) (.val (Value.bool (decide ((if p = true then (1 : Int) else 0) > b)))) :=
  .of_wp fun M A E s Q h => by obtain ⟨hp, g, d, tk, os⟩ := s; wp_walk; exact ⟨_, rfl, h⟩
section
variable {prog : Program} {w : World} {A : Around} {E : Value → Shared → Prop} {s : Shared}
theorem lt_bool_int {p : Bool} {b : Int} {u : Tok} {Q : Value → Shared → Prop} (h : Q (.bool (decide (PyProof.Rows.b2i p < b))) s) : wpAny (model prog w) A (compareOp .Lt (.bool p) (.int b u)) Q E s := by
  show wpAny _ A (richCompare .Lt _ _) Q E s
  exact PySem.SeqAt.rc_left_or rfl (typeIs_int s b u) (by decide) F.sub_int_bool F.slot_bool_lt
    (call_gives F.slot_bool_lt rfl F.entry_int_lt (F.args_int_lt_2 _ _) (gives_lt_ib p b u) ⟨nofun, h⟩) (.inl rfl)
theorem lt_int_bool {p : Bool} {a : Int} {t : Tok} {Q : Value → Shared → Prop} (h : Q (.bool (decide (a < PyProof.Rows.b2i p))) s) : wpAny (model prog w) A (compareOp .Lt (.int a t) (.bool p)) Q E s := by
  show wpAny _ A (richCompare .Lt _ _) Q E s
  exact PySem.SeqAt.rc_sub_first_or (typeIs_int s a t) rfl (by decide) F.sub_bool_int F.slot_bool_gt
    (call_gives F.slot_bool_gt rfl F.entry_int_gt (F.args_int_gt_2 _ _) (gives_gt_ib p a t) ⟨nofun, h⟩) (.inl rfl)
end
def nV : V → Option Int | .int i => some i | .bl b => some (if b = true then 1 else 0) | _ => none
section
variable {X : Cx}
theorem op_ltM : OpR X (compareOp .Lt) (fun x y H Q => ∃ i j, nV x = some i ∧ nV y = some j ∧ Q (.bl (decide (i < j))) H) := by
  intro pins s σ H x y v u Q I rx ry h
  obtain ⟨i, j, hx, hy, q⟩ := h
  cases x with
  | int a =>
    obtain rfl : a = i := Option.some.inj hx
    obtain ⟨t, rfl⟩ := rx
    cases y with
    | int b =>
      obtain rfl : b = j := Option.some.inj hy
      obtain ⟨t', rfl⟩ := ry
      exact PyProof.Rows.lt_int (fin_bl I q rfl)
    | bl b =>
      obtain rfl : (if b = true then 1 else 0) = j := Option.some.inj hy
      cases ry
      exact lt_int_bool (fin_bl I q rfl)
    | _ => cases hy
  | bl a =>
    obtain rfl : (if a = true then 1 else 0) = i := Option.some.inj hx
    cases rx
    cases y with
    | int b =>
      obtain rfl : b = j := Option.some.inj hy
      obtain ⟨t', rfl⟩ := ry
      exact lt_bool_int (fin_bl I q rfl)
    | bl b =>
      obtain rfl : (if b = true then 1 else 0) = j := Option.some.inj hy
      cases ry
      exact PyProof.Rows.lt_bool (fin_bl I q rfl)
    | _ => cases hy
  | _ => cases hx
theorem call_str_ib : CallR X (.type "str") (fun xs H Q => (∃ i, xs = [.int i] ∧ i.natAbs.log2 < 1920 ∧ Q (.str (toString i)) H) ∨ ∃ b, xs = [.bl b] ∧ Q (.str (if b = true then "True" else "False")) H) := by
  intro pins s σ H xs us Q I r h
  rcases h with ⟨i, rfl, hz, q⟩ | ⟨b, rfl, q⟩
  · obtain ⟨u, rfl, t, rfl⟩ := vals1 r
    exact PySem.P.str_of_int hz ⟨.str _, H, I.tok _, ⟨_, rfl⟩, q⟩
  · obtain ⟨u, rfl, hu⟩ := vals1 r
    obtain rfl : u = Value.bool b := hu
    exact PySem.P.str_of_bool ⟨.str _, H, I.tok _, ⟨_, by cases b <;> rfl⟩, q⟩
end
end Wx

namespace Wx
open PySem PySem.Spec PyProof.Rows L2 NdefX
/-! == and != by an own __eq__, any answer; C(..) inside a try -/
section
variable {prog : Program} {w : World} {A : Around} {E : Value → Shared → Prop} {K : PySem.W.Frag} {s : Shared} {x C f : Addr} {ox : Obj} {od : Option Obj}
theorem ifBound_B {M : Model} {name : Str} {id : String} {args : List Value} {Q : Option Value → Shared → Prop} (X : K.In s.heap) (I : PySem.W.InstAt s.heap x ox C od) (hs : PySem.W.findIn K (.ref C) name = some (some (.builtin id)))
    (hb : ∀ self, bindSpecial (.builtin id) self = pure (.builtin id, [self]))
    (h : wpAny M A (call (.builtin id) (.ref x :: args)) (fun v => Q (some v)) E s) : wpAny M A (callSpecialIfBound? (.ref x) name args) Q E s := by
  simp only [callSpecialIfBound?, bindSpecialIfBound?]
  refine wpAny_holding (wpAny_bind (wpAny_bind (wpAny_bind (I.type.here ((PySem.W.looks_findIn X hs).here ?_)))))
  refine wpAny_bind (wpAny_askSetting (wpAny_ite ?_))
  have fin : wpAny M A (call (.builtin id) ([.ref x] ++ args) >>= fun v => pure (some v)) Q E s := wpAny_bind (wpAny_mono h (fun v s' h' => wpAny_pure h') fun _ _ h' => h')
  simp only [hb]
  split
  · exact wpAny_bind (wpAny_pure (wpAny_pure (by exact fin)))
  · exact wpAny_tryCatch (wpAny_bind (wpAny_pure (wpAny_pure (by exact fin))))
theorem objNe_K {b : Value} {Q : Fin → Shared → Prop} (X : K.In s.heap) (I : PySem.W.InstAt s.heap x ox C od) (hs : PySem.W.findIn K (.ref C) "__eq__" = some (some (.ref f))) (hf : PySem.W.isFn K (.ref f) = true) (hu : A.units < cLine)
    (h : wpAny (model prog w) A (call (.ref f) [.ref x, b]) (fun v s' => ∃ k, v = .bool k ∧ Q (.done (.ret (.bool (!k)))) s') E s) : wpAny (model prog w) A (Builtin.«object.__ne__» ⟨[.ref x, b], []⟩) Q E s := by
  unfold Builtin.«object.__ne__»
  repeat (first
    | with_reducible refine wpAny_cRoomFor hu ?_
    | (refine wpAny_bind (m := callSpecialIfBound? (.ref x) (Str.ofString "__eq__") [b])
        (PySem.W.ifBound_K X I hs hf (wpAny_mono h (fun r s' hr => by
          obtain ⟨k, rfl, hq⟩ := hr
          repeat (first | exact hq | exact wpAny_pure hq | exact wpAny_truthy_bool hq | (refine wpAny_bind (m := truthy (.bool _)) (wpAny_truthy_bool ?_)) | wp_step)) fun _ _ e => e)))
    | wp_step)
/-- x != y by the class's own __eq__ -/
theorem ne_K {L : Addr} {h₀ : Heap} {m : Str → Option Value} {b tb : Value} {Q : Value → Shared → Prop} (hu : A.units + 1 < cLine) (FR : Fr h₀ L s.heap m) (X₀ : K.In h₀) (I : PySem.W.InstAt s.heap x ox C od) (hb : PySem.W.Looks (model prog w) s.heap (typeOf b) tb) (hn : PySem.W.notFirst K C tb = true)
    (hne : PySem.W.findIn K (.ref C) "__ne__" = some (some (.builtin "object.__ne__"))) (ho : PySem.W.subIn K (.ref C) (.type "object") = some true)
    (hs : PySem.W.findIn K (.ref C) "__eq__" = some (some (.ref f))) (hf : PySem.W.isFn K (.ref f) = true)
    (h : wpAny (model prog w) A.in1 (call (.ref f) [.ref x, b]) (fun v s' => ∃ k, v = .bool k ∧ Q (.bool (!k)) s') E s) : wpAny (model prog w) A (richCompare .NotEq (.ref x) b) Q E s := by
  have X := X₀.keeps FR.keep
  have one : wpAny (model prog w) A (tryCompare (.ref x) "__ne__" b) (fun r s' => ∃ v, r = some v ∧ Q v s') E s := by
    simp only [tryCompare]
    refine wpAny_bind (ifBound_B X I hne F.cmp_object.ne.bind (wpAny_call (codeAny_call_builtin F.cmp_object.ne.plain F.cmpEntry_ne
      (@PySem.W.check_slot (model prog w) _ _ s "object.__ne__" "object" "__ne__" (.ref x) [b] [] _ F.cmpKind_ne F.cmpSplit_ne (I.type.andThen (PySem.W.looks_subIn X ho)) (F.cmpArgs_ne _ _)
        (objNe_K (A := A.in1) X I hs hf hu (wpAny_mono h (fun v s' hv => ?_) fun _ _ e => e))))))
    obtain ⟨k, rfl, hq⟩ := hv
    first | exact ⟨k, rfl, wpAny_pure ⟨_, rfl, hq⟩⟩ | exact ⟨k, rfl, wpAny_pure (wpAny_pure ⟨_, rfl, hq⟩)⟩ | exact ⟨k, rfl, _, rfl, hq⟩
  unfold richCompare
  simp only [oneThing_ref]
  refine wpAny_holding (wpAny_bind (wpAny_cRoomFor (Nat.lt_of_succ_lt hu) ?_))
  rw [cmpInfo_NotEq]
  dsimp only
  refine wpAny_bind (I.type.here (wpAny_bind (hb.here ?_)))
  split
  · rename_i q
    have e : PySem.W.subIn K tb (.ref C) = some false := by
      rcases Bool.or_eq_true_iff.mp hn with e | e
      · rw [beq_iff_eq.mp e] at q; simp at q
      · exact beq_iff_eq.mp e
    refine wpAny_bind ((PySem.W.looks_subIn X e).here ?_)
    simp only [Bool.false_eq_true, if_false]
    refine wpAny_bind (wpAny_mono one (fun r s' z => ?_) fun _ _ e => e)
    obtain ⟨v, rfl, hq⟩ := z
    exact wpAny_pure hq
  · refine wpAny_bind (wpAny_pure ?_)
    simp only [Bool.false_eq_true, if_false]
    refine wpAny_bind (wpAny_mono one (fun r s' z => ?_) fun _ _ e => e)
    obtain ⟨v, rfl, hq⟩ := z
    exact wpAny_pure hq
end
/-- two instances of the class at C -/
def rOwnI (K : PySem.W.Frag) (C : Addr) (sp : Sp) (E : XK) (g : Bool → Bool) : R2 := fun x y H Q => ∃ a dx fs b dy gs, x = .ref a ∧ y = .ref b ∧ H a = some (.ins C dx fs) ∧ H b = some (.ins C dy gs) ∧ sp [x, y] H (fun z H' => ∃ k, z = .bl k ∧ Q (.bl (g k)) H') E
section
variable {X : Cx} {CX : CXT} {C f : Addr} {n : Nat} {fd : FuncData} {ps : List Str} {sp : Sp} {E : XK}
theorem run_two {A : Around} {pins : List (Addr × Obj)} {σ : L2.St} {H : Hp} {s : Shared} {us : List Value} {vs : List V} {Q : VK} (F : FnOk X.prog X.w X.K X.mg X.base CX n f fd ps sp) (hr : Room n A) (e0 : Env0 X.prog X.w X.K X.mg X.base A X.stack s H) (hb : Binds X.K fd ps []) (hx : Passes CX X E)
    (I : Inv X pins σ H s) (r : Vals vs us) (h : sp vs H Q E) : wpAny (model X.prog X.w) A (call (.ref f) us) (EP X pins σ Q) X.xe s := by
  have hl : us.length = ps.length := by rw [← r.length]; exact F.len _ _ _ _ h
  refine wpAny_call (codeAny_mono (F.run A X.stack s H ⟨us, []⟩ us vs Q E hr e0 (by
    have := hb s us I.kIn (by simpa using hl)
    simpa using this) r h) fun r s' hq => ?_)
  cases r with
  | error e => exact hx pins σ H s e s' I hq
  | ok fl =>
    cases fl with
    | ret w => exact I.after hq
    | next => exact False.elim hq
    | brk => exact False.elim hq
    | cont => exact False.elim hq
theorem op_eqI (F : FnOk X.prog X.w X.K X.mg X.base CX n f fd ps sp) (hr : Room n X.A) (hs : PySem.W.findIn X.K (.ref C) "__eq__" = some (some (.ref f))) (hf : PySem.W.isFn X.K (.ref f) = true) (hb : Binds X.K fd ps []) (hx : Passes CX X E) : OpR X (compareOp .Eq) (rOwnI X.K C sp E id) := by
  intro pins s σ H x y v u Q I rx ry h
  obtain ⟨a, dx, fs, b, dy, gs, rfl, rfl, ha, hb', q⟩ := h
  cases (show v = Value.ref a from rx)
  cases (show u = Value.ref b from ry)
  obtain ⟨mA, J, _⟩ := ins_get I.hok ha
  obtain ⟨mB, J', _⟩ := ins_get I.hok hb'
  obtain ⟨od, J, _⟩ := J.look
  obtain ⟨od', J', _⟩ := J'.look
  obtain ⟨m, hF⟩ := I.fr
  show wpAny (model X.prog X.w) X.A (richCompare .Eq _ _) (EP X pins σ Q) X.xe s
  refine PySem.W.cmp_K (op := .Eq) (tb := .ref C) hr.units0 hF I.ok.mod.kin J J'.type (by simp [PySem.W.notFirst]) hs hf ?_
  refine wpAny_mono (run_two (us := [.ref a, .ref b]) (vs := [.ref a, .ref b]) F hr I.env0 hb hx I (.cons rfl (.cons rfl .nil)) q) (fun w s' z => ?_) fun _ _ x => x
  obtain ⟨z', H', I', rz, k, ez, qz⟩ := z
  subst ez
  cases (show w = Value.bool k from rz)
  exact ⟨.bl k, H', I', rfl, qz⟩
theorem op_neI (F : FnOk X.prog X.w X.K X.mg X.base CX n f fd ps sp) (hr : Room (n + 1) X.A) (hne : PySem.W.findIn X.K (.ref C) "__ne__" = some (some (.builtin "object.__ne__"))) (ho : PySem.W.subIn X.K (.ref C) (.type "object") = some true)
    (hs : PySem.W.findIn X.K (.ref C) "__eq__" = some (some (.ref f))) (hf : PySem.W.isFn X.K (.ref f) = true) (hb : Binds X.K fd ps []) (hx : Passes CX X E) : OpR X (compareOp .NotEq) (rOwnI X.K C sp E not) := by
  intro pins s σ H x y v u Q I rx ry h
  obtain ⟨a, dx, fs, b, dy, gs, rfl, rfl, ha, hb', q⟩ := h
  cases (show v = Value.ref a from rx)
  cases (show u = Value.ref b from ry)
  obtain ⟨mA, J, _⟩ := ins_get I.hok ha
  obtain ⟨mB, J', _⟩ := ins_get I.hok hb'
  obtain ⟨od, J, _⟩ := J.look
  obtain ⟨od', J', _⟩ := J'.look
  obtain ⟨m, hF⟩ := I.fr
  show wpAny (model X.prog X.w) X.A (richCompare .NotEq _ _) (EP X pins σ Q) X.xe s
  have hr1 : Room n X.A.in1 := hr.in1
  refine ne_K (tb := .ref C) hr1.units0 hF I.ok.mod.kin J J'.type (by simp [PySem.W.notFirst]) hne ho hs hf ?_
  refine wpAny_mono (run_two (us := [.ref a, .ref b]) (vs := [.ref a, .ref b]) F hr1 I.env0.in1 hb hx I (.cons rfl (.cons rfl .nil)) q) (fun w s' z => ?_) fun _ _ x => x
  obtain ⟨z', H', I', rz, k, ez, qz⟩ := z
  subst ez
  cases (show w = Value.bool k from rz)
  exact ⟨k, rfl, .bl (!k), H', I', rfl, qz⟩
end
section
variable {X : Cx} {CX : CXT} {k : Nat} {f C : Addr} {fd : FuncData} {ps : List Str} {sp : Sp} {E : L2.St → XK} {x : Str} {p pos : Pos} {e : Expr} {es : List Expr} {t : TA}
/-- C(..) where what is raised is wished for at the caller's slots -/
def tMakeS (C : Addr) (sp : Sp) (E : L2.St → XK) (t : TA) : TE := fun σ H Q => t σ H fun vs H1 => ∀ x dx, H1 x = none → H1 dx = none → dx ≠ x → sp (.ref x :: vs) (upd (upd H1 dx (.own x)) x (.ins C dx [])) (fun v H2 => v = .non ∧ Q (.ref x) H2) (E σ)
theorem pe_makeS (M : Mk X.K C f) (F : FnOk X.prog X.w X.K X.mg X.base CX k f fd ps sp) (hr : Room (k + 1) X.A) (hg : Gl X x) (hm : X.mg x = some (.ref C)) (hb : Binds X.K fd ps []) (hx : ∀ σ, PassesAt CX X σ (E σ))
    (ha : PA X (e :: es) t) (hdb : (x == ("__debug__" : Str)) = false := by decide) (he : starEach (e :: es) X.env = (false, eval e X.env) :: starEach es X.env := by rfl) (hpl : (backTo pos (starEach es X.env)).any (·.1) = false := by rfl) :
    PE X (.Call (.Name x p) (e :: es) [] pos) (tMakeS C sp E t) := by
  refine ⟨fun pins s σ H Q I h => ?_⟩
  refine wpAny_Call_Name_kw (ld_glob I hg hm ?_ hdb)
  refine PySem.W.callWith_K (h₀ := X.base) I.ok.mod.kin M.kp (thn (ha.run pos pins s σ H _ I h) fun us s1 ⟨vs, H1, I1, r, q⟩ => ⟨I1.kIn, ?_⟩) he hpl
  have hq := q (s1.heap.objs.size + 1) s1.heap.objs.size (I1.hok.fresh (Nat.le_succ _)) (I1.hok.fresh (Nat.le_refl _)) (Nat.ne_of_lt (Nat.lt_succ_self _))
  have I2 := Inv.made (C := C) I1
  have r2 : Vals (V.ref (s1.heap.objs.size + 1) :: vs) (Value.ref (s1.heap.objs.size + 1) :: us) := .cons rfl r
  have hl : (Value.ref (s1.heap.objs.size + 1) :: us).length = ps.length := by
    have e := r2.length
    rw [F.len _ _ _ _ hq] at e
    exact e.symm
  refine wpAny_call (make_map (f := f) I1.kIn M.makes M.init (beq_iff_eq.mp M.fn) (codeAny_mono (F.run _ X.stack _ _ ⟨Value.ref (s1.heap.objs.size + 1) :: us, []⟩ (Value.ref (s1.heap.objs.size + 1) :: us) _ _ (E σ) (hr.make C us [])
    (I2.env0.make C us []) (by
      have := hb _ (Value.ref (s1.heap.objs.size + 1) :: us) I2.kIn (by simpa using hl)
      simpa using this) r2 hq) fun r s' hq' => ?_))
  cases r with
  | error e => exact hx σ pins _ _ e s' I2 hq'
  | ok fl =>
    cases fl with
    | ret u =>
      obtain ⟨v, H', I3, rv, ev, q3⟩ := I2.after hq'
      subst ev
      exact ⟨rv, ⟨V.ref (s1.heap.objs.size + 1), H', I3, rfl, q3⟩⟩
    | next => exact False.elim hq'
    | brk => exact False.elim hq'
    | cont => exact False.elim hq'
end
end Wx

namespace Wx
open PySem PySem.Spec PyProof.Rows L2 NdefX
def wKeeps (K : PySem.W.Frag) (i : Nat) (Wout : WX) (D : Ends) : List (Value × (Addr → Value → Option Addr → TS)) → WX
  | [] => Wout
  | (c, ts) :: r => fun cls d σ H =>
    ∃ b, PySem.W.exmOne K cls c = some b ∧ (b = true → ∀ a, H a = none → ts a cls d { nx := fun σ1 H1 => D.nx (σ1.set i none) (upd H1 a (exv cls d a)), rt := fun v H1 => D.rt v (upd H1 a (exv cls d a)), bk := fun σ1 H1 => D.bk (σ1.set i none) (upd H1 a (exv cls d a)), ct := fun σ1 H1 => D.ct (σ1.set i none) (upd H1 a (exv cls d a)) } (σ.set i (some (.ref a))) H) ∧
      (b = false → wKeeps K i Wout D r cls d σ H)
inductive HdsKeep (X : Cx) (n : Str) : List ExceptHandler → List (Value × (Addr → Value → Option Addr → TS)) → Prop
  | nil : HdsKeep X n [] []
  | cons {x : Str} {c : Value} {ts : Addr → Value → Option Addr → TS} {b₀ : Stmt} {suite : List Stmt} {np pos' : Pos} {hds : List ExceptHandler} {l : List (Value × (Addr → Value → Option Addr → TS))} (hc : Names X x c)
      (hsu : ∀ (a : Addr) (oe : Obj) (cls : Value) (d : Option Addr) (pn : List (Addr × Obj)), Zc cls d oe → (∃ vs, oe.data = .fields vs) → PSs (X.suite a ((a, oe) :: pn)) (b₀ :: suite) (ts a cls d)) (r : HdsKeep X n hds l) :
      HdsKeep X n (.ExceptHandler (some (.Name x np)) (some n) (b₀ :: suite) pos' :: hds) ((c, ts) :: l)
section
variable {X : Cx} {n : Str} {i : Nat} {body : List Stmt} {h₀ : ExceptHandler} {hds : List ExceptHandler} {l : List (Value × (Addr → Value → Option Addr → TS))} {pos : Pos} {tb : WX → TS} {Wout : WX}
/-- several clauses, each one keeping its exception under the same name -/
theorem ps_try_keeps (hex : X.ex = []) (stk : X.stack = X.env :: X.outer) (frm : X.env.frame = some X.env.locals) (nd : X.N.Nodup) (atI : X.N[i]? = some n) (lcl : X.env.kindOf n = some .local) (tko : Takes X Wout)
    (hbody : ∀ (W : WX) (pn : List (Addr × Obj)) (xe : Value → Shared → Prop), Takes (X.tr pn xe) W → PassesOwn (model X.prog X.w) X.A X.env xe → PSs (X.tr pn xe) body (tb W))
    (hh : HdsKeep X n (h₀ :: hds) l) :
    PS X (.Try body (h₀ :: hds) [] [] pos) (fun D σ H => tb (wKeeps X.K i Wout D l) D σ H) := by
  refine ⟨fun pins s σ H D I0 rd => ?_⟩
  have okX := I0.ok
  have frA : X.A.frames = some (X.env :: X.outer) := okX.frames.trans (congrArg some stk)
  have locN : Loc X.env.scope n := Or.inl lcl
  refine wpAny_Try_except (wpAny_mono ((hbody (wKeeps X.K i Wout D l) (X.pn ++ pins) (fun e s₁ => wpAny (model X.prog X.w) X.A (noteFrame e X.env) (fun _ s₂ => wpAny (model X.prog X.w) X.A (setFlight e none) (fun _ s₃ =>
      wpAny (model X.prog X.w) X.A (handleBy e X.env (h₀ :: hds)) (SP X pins D) X.xe s₃) X.xe s₂) X.xe s₁) (fun u s' caught => ?_) PassesOwn.looking).run [] s σ H D (I0.toTry _) rd) (fun fl s1 done => ?_) (fun _ _ z => z))
  · obtain ⟨a, B, sI, pinsT, σT, HT, cls, d, rfl, JT, nb, upT, skyT, naT, osT, agT, wl⟩ := caught
    have JX : Inv X pins σT HT sI := Inv.ofTry JT okX
    have skyX : Sky B (X.env :: X.outer) a (Zc cls d) X.env.locals s'.heap := stk ▸ skyT
    show wpAny _ X.A (noteFrame (Value.ref a) X.env) _ _ _
    refine Sky.land Zc.steady frA frm skyX (fun hq flq upq => ?_)
    have Jq : Inv X pins σT HT { s' with heap := hq } := JX.landed nb flq.1 (upT.trans upq) osT agT
    obtain ⟨oeq, vsq, heq, hzq, hdq⟩ := flq.there
    have nfr : a ∉ frs (X.env :: X.outer) := fun hm => by
      obtain ⟨_, o', e', nf'⟩ := flq.2.2.1.mem hm
      have z := heq.symm.trans e'
      cases z
      exact nf' _ hdq
    have nLoc : a ≠ X.env.locals := fun z => nfr (List.mem_filterMap.mpr ⟨X.env, List.mem_cons_self, frm.trans (congrArg some z.symm)⟩)
    have nOut : a ∉ X.fs := fun hm => by
      obtain ⟨ev, hev, qv⟩ := List.mem_filterMap.mp hm
      exact nfr (List.mem_filterMap.mpr ⟨ev, List.mem_cons_of_mem _ hev, qv⟩)
    -- the exception is younger than the frame
    have sInone : sI.heap.get? a = none := by
      cases z : sI.heap.get? a with
      | none => rfl
      | some o =>
        have Bn : B.get? a = none := by
          rcases skyX with ⟨_, q, _⟩ | q | q
          · exact q
          · exact q.2.1
          · exact q.2.1
        have y := nb a o z (fun hm => nfr (by rw [← stk]; exact hm))
        rw [Bn] at y
        cases y
    have s0none : X.s_0.heap.get? a = none := by
      cases z : X.s_0.heap.get? a with
      | none => rfl
      | some o =>
        obtain ⟨o2, y⟩ := JX.base.there a o z (by rw [hex]; simp)
        rw [sInone] at y
        cases y
    have pinNe : ∀ p, p ∈ X.pn ++ pins → p.1 ≠ a := fun p hp z => by
      have y := (JX.pin p hp).1
      rw [z, sInone] at y
      cases y
    have Sq := Jq.suite heq hdq naT nLoc nOut
    have LTy : PySem.W.Looks (model X.prog X.w) hq (typeOf (.ref a)) cls := fun A Q E s k q => wpAny_typeOf_ref (k _ _ heq) (hzq.1 ▸ q)
    have go : ∀ (hs : List ExceptHandler) (l : List (Value × (Addr → Value → Option Addr → TS))), HdsKeep X n hs l → wKeeps X.K i Wout D l cls d σT HT → wpAny (model X.prog X.w) X.A (handleBy (Value.ref a) X.env hs) (SP X pins D) X.xe { s' with heap := hq } := by
      intro hs l hk
      induction hk with
      | nil =>
        intro wout
        refine wpAny_handleBy_nil ?_
        obtain ⟨z1, z2, z3, oe, vs, T1, oT1, tsT, he, hz, hd, h1, hr1⟩ := id flq
        unfold PySem.passOn
        refine wpAny_bind (wpAny_field he hd h1 ?_)
        rw [if_neg (show ¬ ((Value.ref T1 == Value.none) = true) by simp)]
        have fin : wpAny (model X.prog X.w) X.A (setFlight (.ref a) X.env.frame) (fun _ s4 => wpAny (model X.prog X.w) X.A (throw (.ref a) : Sem Flow) (SP X pins D) X.xe s4) X.xe { s' with heap := hq } := by
          rw [frm]
          exact HandSPX.setFlight_upZ flq fun h4 hh4 up4 => wpAny_throw (tko _ _ ⟨a, B, sI, pins, σT, HT, cls, d, rfl, JX, nb, (upT.trans upq).trans up4, .inr (.inr (by rw [stk]; exact hh4)), naT, osT, agT, wout⟩)
        first
          | exact wpAny_bind (wpAny_pure (wpAny_bind fin))
          | exact wpAny_bind fin
      | @cons x c ts b₀ suite np pos' hs l nms hsuite hrest ih =>
        intro wl
        obtain ⟨b, hcl, hyes, hno⟩ := wl
        refine wpAny_handleBy_cons (codeAny_handlers_test ?_) (by rintro ⟨⟩)
        have LEx := PySem.W.exm_one (M := model X.prog X.w) Jq.kIn LTy hcl
        have tst : ∀ {Q : Value → Shared → Prop} {E : Value → Shared → Prop}, Q c { s' with heap := hq } → wpAny (model X.prog X.w) (X.A.mark (some (.ref a))) (eval (.Name x np) X.env) Q E { s' with heap := hq } := fun {Q E} q => by
          obtain ⟨g1, g2, g3 | ⟨g3, g4, g5⟩⟩ := nms
          · exact ld_glob (X := X.suite a ((a, oeq) :: (X.pn ++ pins))) Sq g1 g3 q g2
          · exact ld_blt (X := X.suite a ((a, oeq) :: (X.pn ++ pins))) Sq g1 g3 g4 q g5 g2
        refine tst (LEx.here ?_)
        cases b with
        | true =>
          refine codeAny_handlers_suite_as (HandSPX.lands_againZ flq fun hr flr upr => ?_)
          have Jr : Inv X pins σT HT { s' with heap := hr } := JX.landed nb flr.1 ((upT.trans upq).trans upr) osT agT
          obtain ⟨oer, vsr, her, hzr, hdr⟩ := flr.there
          have Sr := Jr.suite her hdr naT nLoc nOut
          refine store_ok (X := X.suite a ((a, oer) :: (X.pn ++ pins))) (v := V.ref a) Sr nd atI locN rfl (fun s5 S5 => ?_) (Or.inr lcl)
          refine wpAny_mono ((hsuite a oer cls d (X.pn ++ pins) hzr ⟨_, hdr⟩).run [] s5 _ HT _ S5 (hyes rfl a naT)) (fun fl s6 out => ?_) (fun _ _ z => z.elim)
          have leave : ∀ {σ6 : L2.St} {H6 : Hp} {Q : Shared → Prop}, Inv (X.suite a ((a, oer) :: (X.pn ++ pins))) [] σ6 H6 s6 → (∀ s7, Inv X pins (σ6.set i none) (upd H6 a (exv cls d a)) s7 → Q s7) →
              wpAny (model X.prog X.w) X.A (do bindName X.env n .none; unbindBehindTheSuite X.env n pos') (fun _ s7 => Q s7) X.xe s6 := fun {σ6 H6 Q} S6 hQ => by
            have S7 : Inv X ((a, oer) :: pins) σ6 H6 s6 := ⟨okX, S6.os, S6.bare, S6.base, S6.loc, S6.cell, S6.free, S6.freeC, fun p hp => S6.pin p (by
              rw [List.append_nil]
              rcases List.mem_append.mp hp with z | z
              · exact List.mem_cons_of_mem _ (List.mem_append_left _ z)
              · rcases List.mem_cons.mp z with y | y
                · rw [y]
                  exact List.mem_cons_self
                · exact List.mem_cons_of_mem _ (List.mem_append_right _ y)), S6.hok, S6.len⟩
            exact gone_ok S7 nd atI lcl fun s7 J7 => hQ s7 (tracked J7 s0none pinNe hzr hdr)
          cases fl with
          | next =>
            obtain ⟨σ6, H6, S6, q6⟩ := out
            exact leave S6 fun s7 J7 => ⟨_, _, J7, q6⟩
          | brk =>
            obtain ⟨σ6, H6, S6, q6⟩ := out
            exact leave S6 fun s7 J7 => ⟨_, _, J7, q6⟩
          | cont =>
            obtain ⟨σ6, H6, S6, q6⟩ := out
            exact leave S6 fun s7 J7 => ⟨_, _, J7, q6⟩
          | ret u =>
            obtain ⟨v6, σ6, H6, S6, r6, q6⟩ := out
            exact leave S6 fun s7 J7 => ⟨_, _, _, J7, r6, q6⟩
        | false => exact ih (hno rfl)
    exact go _ _ hh wl
  · cases fl with
    | next =>
      obtain ⟨σ1, H1, J1, q1⟩ := done
      exact wpAny_execs_nil ⟨σ1, H1, J1.ofTry okX, q1⟩
    | brk =>
      obtain ⟨σ1, H1, J1, q1⟩ := done
      exact ⟨σ1, H1, J1.ofTry okX, q1⟩
    | cont =>
      obtain ⟨σ1, H1, J1, q1⟩ := done
      exact ⟨σ1, H1, J1.ofTry okX, q1⟩
    | ret u =>
      obtain ⟨v1, σ1, H1, J1, r1, q1⟩ := done
      exact ⟨v1, σ1, H1, J1.ofTry okX, r1, q1⟩
end
end Wx

namespace Wx
open PySem PySem.Spec PyProof.Rows L2 NdefX
theorem dropPin {X : Cx} {pins : List (Addr × Obj)} {σ : L2.St} {H : Hp} {s : Shared} {p : Addr × Obj} (J : Inv X (p :: pins) σ H s) : Inv X pins σ H s :=
  ⟨J.ok, J.os, J.bare, J.base, J.loc, J.cell, J.free, J.freeC, fun q hq => J.pin q (by
    rcases List.mem_append.mp hq with z | z
    · exact List.mem_append_left _ z
    · exact List.mem_append_right _ (List.mem_cons_of_mem _ z)), J.hok, J.len⟩
def wAss (K : PySem.W.Frag) (i : Nat) (Wout : WX) (D : Ends) : List (Value × (Addr → Value → Option Addr → TS)) → WX
  | [] => Wout
  | (c, ts) :: r => fun cls d σ H =>
    ∃ b, PySem.W.exmOne K cls c = some b ∧ (b = true → ∀ a, H a = none → ts a cls d { nx := fun σ1 H1 => D.nx (σ1.set i none) H1, rt := D.rt, bk := fun σ1 H1 => D.bk (σ1.set i none) H1, ct := fun σ1 H1 => D.ct (σ1.set i none) H1 } (σ.set i (some (.ref a))) H) ∧
      (b = false → wAss K i Wout D r cls d σ H)
inductive HdsAs (X : Cx) (n : Str) : List ExceptHandler → List (Value × (Addr → Value → Option Addr → TS)) → Prop
  | nil : HdsAs X n [] []
  | cons {x : Str} {c : Value} {ts : Addr → Value → Option Addr → TS} {b₀ : Stmt} {suite : List Stmt} {np pos' : Pos} {hds : List ExceptHandler} {l : List (Value × (Addr → Value → Option Addr → TS))} (hc : Names X x c)
      (hsu : ∀ (a : Addr) (oe : Obj) (cls : Value) (d : Option Addr) (pn : List (Addr × Obj)), Zc cls d oe → (∃ vs, oe.data = .fields vs) → PSs (X.suite a ((a, oe) :: pn)) (b₀ :: suite) (ts a cls d)) (r : HdsAs X n hds l) :
      HdsAs X n (.ExceptHandler (some (.Name x np)) (some n) (b₀ :: suite) pos' :: hds) ((c, ts) :: l)
section
variable {X : Cx} {n : Str} {i : Nat} {body : List Stmt} {h₀ : ExceptHandler} {hds : List ExceptHandler} {l : List (Value × (Addr → Value → Option Addr → TS))} {pos : Pos} {tb : WX → TS} {Wout : WX}
/-- several clauses with the same name; the exception is let go behind the suite -/
theorem ps_try_ass (hex : X.ex = []) (stk : X.stack = X.env :: X.outer) (frm : X.env.frame = some X.env.locals) (nd : X.N.Nodup) (atI : X.N[i]? = some n) (lcl : X.env.kindOf n = some .local) (tko : Takes X Wout)
    (hbody : ∀ (W : WX) (pn : List (Addr × Obj)) (xe : Value → Shared → Prop), Takes (X.tr pn xe) W → PassesOwn (model X.prog X.w) X.A X.env xe → PSs (X.tr pn xe) body (tb W))
    (hh : HdsAs X n (h₀ :: hds) l) :
    PS X (.Try body (h₀ :: hds) [] [] pos) (fun D σ H => tb (wAss X.K i Wout D l) D σ H) := by
  refine ⟨fun pins s σ H D I0 rd => ?_⟩
  have okX := I0.ok
  have frA : X.A.frames = some (X.env :: X.outer) := okX.frames.trans (congrArg some stk)
  have locN : Loc X.env.scope n := Or.inl lcl
  refine wpAny_Try_except (wpAny_mono ((hbody (wAss X.K i Wout D l) (X.pn ++ pins) (fun e s₁ => wpAny (model X.prog X.w) X.A (noteFrame e X.env) (fun _ s₂ => wpAny (model X.prog X.w) X.A (setFlight e none) (fun _ s₃ =>
      wpAny (model X.prog X.w) X.A (handleBy e X.env (h₀ :: hds)) (SP X pins D) X.xe s₃) X.xe s₂) X.xe s₁) (fun u s' caught => ?_) PassesOwn.looking).run [] s σ H D (I0.toTry _) rd) (fun fl s1 done => ?_) (fun _ _ z => z))
  · obtain ⟨a, B, sI, pinsT, σT, HT, cls, d, rfl, JT, nb, upT, skyT, naT, osT, agT, wl⟩ := caught
    have JX : Inv X pins σT HT sI := Inv.ofTry JT okX
    have skyX : Sky B (X.env :: X.outer) a (Zc cls d) X.env.locals s'.heap := stk ▸ skyT
    show wpAny _ X.A (noteFrame (Value.ref a) X.env) _ _ _
    refine Sky.land Zc.steady frA frm skyX (fun hq flq upq => ?_)
    have Jq : Inv X pins σT HT { s' with heap := hq } := JX.landed nb flq.1 (upT.trans upq) osT agT
    obtain ⟨oeq, vsq, heq, hzq, hdq⟩ := flq.there
    have nfr : a ∉ frs (X.env :: X.outer) := fun hm => by
      obtain ⟨_, o', e', nf'⟩ := flq.2.2.1.mem hm
      have z := heq.symm.trans e'
      cases z
      exact nf' _ hdq
    have nLoc : a ≠ X.env.locals := fun z => nfr (List.mem_filterMap.mpr ⟨X.env, List.mem_cons_self, frm.trans (congrArg some z.symm)⟩)
    have nOut : a ∉ X.fs := fun hm => by
      obtain ⟨ev, hev, qv⟩ := List.mem_filterMap.mp hm
      exact nfr (List.mem_filterMap.mpr ⟨ev, List.mem_cons_of_mem _ hev, qv⟩)
    -- the exception is younger than the frame
    have sInone : sI.heap.get? a = none := by
      cases z : sI.heap.get? a with
      | none => rfl
      | some o =>
        have Bn : B.get? a = none := by
          rcases skyX with ⟨_, q, _⟩ | q | q
          · exact q
          · exact q.2.1
          · exact q.2.1
        have y := nb a o z (fun hm => nfr (by rw [← stk]; exact hm))
        rw [Bn] at y
        cases y
    have s0none : X.s_0.heap.get? a = none := by
      cases z : X.s_0.heap.get? a with
      | none => rfl
      | some o =>
        obtain ⟨o2, y⟩ := JX.base.there a o z (by rw [hex]; simp)
        rw [sInone] at y
        cases y
    have pinNe : ∀ p, p ∈ X.pn ++ pins → p.1 ≠ a := fun p hp z => by
      have y := (JX.pin p hp).1
      rw [z, sInone] at y
      cases y
    have Sq := Jq.suite heq hdq naT nLoc nOut
    have LTy : PySem.W.Looks (model X.prog X.w) hq (typeOf (.ref a)) cls := fun A Q E s k q => wpAny_typeOf_ref (k _ _ heq) (hzq.1 ▸ q)
    have go : ∀ (hs : List ExceptHandler) (l : List (Value × (Addr → Value → Option Addr → TS))), HdsAs X n hs l → wAss X.K i Wout D l cls d σT HT → wpAny (model X.prog X.w) X.A (handleBy (Value.ref a) X.env hs) (SP X pins D) X.xe { s' with heap := hq } := by
      intro hs l hk
      induction hk with
      | nil =>
        intro wout
        refine wpAny_handleBy_nil ?_
        obtain ⟨z1, z2, z3, oe, vs, T1, oT1, tsT, he, hz, hd, h1, hr1⟩ := id flq
        unfold PySem.passOn
        refine wpAny_bind (wpAny_field he hd h1 ?_)
        rw [if_neg (show ¬ ((Value.ref T1 == Value.none) = true) by simp)]
        have fin : wpAny (model X.prog X.w) X.A (setFlight (.ref a) X.env.frame) (fun _ s4 => wpAny (model X.prog X.w) X.A (throw (.ref a) : Sem Flow) (SP X pins D) X.xe s4) X.xe { s' with heap := hq } := by
          rw [frm]
          exact HandSPX.setFlight_upZ flq fun h4 hh4 up4 => wpAny_throw (tko _ _ ⟨a, B, sI, pins, σT, HT, cls, d, rfl, JX, nb, (upT.trans upq).trans up4, .inr (.inr (by rw [stk]; exact hh4)), naT, osT, agT, wout⟩)
        first
          | exact wpAny_bind (wpAny_pure (wpAny_bind fin))
          | exact wpAny_bind fin
      | @cons x c ts b₀ suite np pos' hs l nms hsuite hrest ih =>
        intro wl
        obtain ⟨b, hcl, hyes, hno⟩ := wl
        refine wpAny_handleBy_cons (codeAny_handlers_test ?_) (by rintro ⟨⟩)
        have LEx := PySem.W.exm_one (M := model X.prog X.w) Jq.kIn LTy hcl
        have tst : ∀ {Q : Value → Shared → Prop} {E : Value → Shared → Prop}, Q c { s' with heap := hq } → wpAny (model X.prog X.w) (X.A.mark (some (.ref a))) (eval (.Name x np) X.env) Q E { s' with heap := hq } := fun {Q E} q => by
          obtain ⟨g1, g2, g3 | ⟨g3, g4, g5⟩⟩ := nms
          · exact ld_glob (X := X.suite a ((a, oeq) :: (X.pn ++ pins))) Sq g1 g3 q g2
          · exact ld_blt (X := X.suite a ((a, oeq) :: (X.pn ++ pins))) Sq g1 g3 g4 q g5 g2
        refine tst (LEx.here ?_)
        cases b with
        | true =>
          refine codeAny_handlers_suite_as (HandSPX.lands_againZ flq fun hr flr upr => ?_)
          have Jr : Inv X pins σT HT { s' with heap := hr } := JX.landed nb flr.1 ((upT.trans upq).trans upr) osT agT
          obtain ⟨oer, vsr, her, hzr, hdr⟩ := flr.there
          have Sr := Jr.suite her hdr naT nLoc nOut
          refine store_ok (X := X.suite a ((a, oer) :: (X.pn ++ pins))) (v := V.ref a) Sr nd atI locN rfl (fun s5 S5 => ?_) (Or.inr lcl)
          refine wpAny_mono ((hsuite a oer cls d (X.pn ++ pins) hzr ⟨_, hdr⟩).run [] s5 _ HT _ S5 (hyes rfl a naT)) (fun fl s6 out => ?_) (fun _ _ z => z.elim)
          have leave : ∀ {σ6 : L2.St} {H6 : Hp} {Q : Shared → Prop}, Inv (X.suite a ((a, oer) :: (X.pn ++ pins))) [] σ6 H6 s6 → (∀ s7, Inv X pins (σ6.set i none) H6 s7 → Q s7) →
              wpAny (model X.prog X.w) X.A (do bindName X.env n .none; unbindBehindTheSuite X.env n pos') (fun _ s7 => Q s7) X.xe s6 := fun {σ6 H6 Q} S6 hQ => by
            have S7 : Inv X ((a, oer) :: pins) σ6 H6 s6 := ⟨okX, S6.os, S6.bare, S6.base, S6.loc, S6.cell, S6.free, S6.freeC, fun p hp => S6.pin p (by
              rw [List.append_nil]
              rcases List.mem_append.mp hp with z | z
              · exact List.mem_cons_of_mem _ (List.mem_append_left _ z)
              · rcases List.mem_cons.mp z with y | y
                · rw [y]
                  exact List.mem_cons_self
                · exact List.mem_cons_of_mem _ (List.mem_append_right _ y)), S6.hok, S6.len⟩
            exact gone_ok S7 nd atI lcl fun s7 J7 => hQ s7 (dropPin J7)
          cases fl with
          | next =>
            obtain ⟨σ6, H6, S6, q6⟩ := out
            exact leave S6 fun s7 J7 => ⟨_, _, J7, q6⟩
          | brk =>
            obtain ⟨σ6, H6, S6, q6⟩ := out
            exact leave S6 fun s7 J7 => ⟨_, _, J7, q6⟩
          | cont =>
            obtain ⟨σ6, H6, S6, q6⟩ := out
            exact leave S6 fun s7 J7 => ⟨_, _, J7, q6⟩
          | ret u =>
            obtain ⟨v6, σ6, H6, S6, r6, q6⟩ := out
            exact leave S6 fun s7 J7 => ⟨_, _, _, J7, r6, q6⟩
        | false => exact ih (hno rfl)
    exact go _ _ hh wl
  · cases fl with
    | next =>
      obtain ⟨σ1, H1, J1, q1⟩ := done
      exact wpAny_execs_nil ⟨σ1, H1, J1.ofTry okX, q1⟩
    | brk =>
      obtain ⟨σ1, H1, J1, q1⟩ := done
      exact ⟨σ1, H1, J1.ofTry okX, q1⟩
    | cont =>
      obtain ⟨σ1, H1, J1, q1⟩ := done
      exact ⟨σ1, H1, J1.ofTry okX, q1⟩
    | ret u =>
      obtain ⟨v1, σ1, H1, J1, r1, q1⟩ := done
      exact ⟨v1, σ1, H1, J1.ofTry okX, r1, q1⟩
end
end Wx

namespace Wx
open PySem PySem.Spec PyProof.Rows L2 NdefX
/-! a list comprehension from which an exception may leave -/
/-- in the air over the frames l, the frame L at work: sI is the state without it -/
def Aloft (stk : List Env) (L : Addr) (sI : Shared) (H : Hp) (E : XK) (u : Value) (s' : Shared) : Prop :=
  ∃ (a : Addr) (B : Heap) (cls : Value) (d : Option Addr), u = .ref a ∧ (∀ b o, sI.heap.get? b = some o → b ∉ frs stk → B.get? b = some o) ∧ sI.heap.UpToSlots s'.heap ∧
    Sky B stk a (Zc cls d) L s'.heap ∧ H a = none ∧ s'.os = sI.os ∧ AllBare s'.gens ∧ E cls d H
/-- what is let out at the slots σ is taken -/
structure Air (X : Cx) (σ : L2.St) (E : XK) : Prop where
  ex : ∃ (ev : Env) (outer : List Env) (L : Addr), X.stack = ev :: outer ∧ ev.frame = some L ∧ X.env.frame = some L ∧
    ∀ (pins : List (Addr × Obj)) (H : Hp) (sI : Shared) (u : Value) (s' : Shared), Inv X pins σ H sI → Aloft X.stack L sI H E u s' → X.xe u s'
section
variable {X : Cx} {pins : List (Addr × Obj)} {σ : L2.St} {H : Hp} {s s' : Shared} {E : XK} {W : WX}
theorem air_of {σ : L2.St} (tk : Takes X W) (hs : X.stack = X.env :: X.outer) (hf : X.env.frame = some X.env.locals) : Air X σ (WE W σ) :=
  ⟨X.env, X.outer, X.env.locals, hs, hf, hf, fun pins H sI u s' I ⟨a, B, cls, d, e, nb, up, sky, na, os, ag, w⟩ => tk u s' ⟨a, B, sI, pins, σ, H, cls, d, e, I, nb, up, sky, na, os, ag, w⟩⟩
theorem Air.pass (x : Air X σ E) : PassesAt (L2.CX X.prog X.w) X σ E := fun pins H s u s' I c => by
  obtain ⟨ev, outer, L, hs, hf, hg, k⟩ := x.ex
  obtain ⟨a, B, H', cls, d, rfl, fl, hok, ub, na, os, ag, hE⟩ := c
  obtain ⟨G, g1, g2⟩ := restrict s'.heap fun b => (B.get? b).isSome || decide (b ∈ frs X.stack)
  have st : B.StaysIn s'.heap := fl.1
  have gB : ∀ b o, B.get? b = some o → G.get? b = some o := fun b o e => by
    have q : ((B.get? b).isSome || decide (b ∈ frs X.stack)) = true := by rw [e]; rfl
    exact (g1 b q).trans (st b o e)
  have gF : ∀ b, b ∈ frs X.stack → G.get? b = s'.heap.get? b := fun b hb => g1 b (by rw [decide_eq_true hb, Bool.or_true])
  have back : ∀ b o, G.get? b = some o → s'.heap.get? b = some o ∧ ((B.get? b).isSome = true ∨ b ∈ frs X.stack) := fun b o e => by
    by_cases q : ((B.get? b).isSome || decide (b ∈ frs X.stack)) = true
    · rw [g1 b q] at e
      refine ⟨e, ?_⟩
      rcases Bool.or_eq_true_iff.mp q with y | y
      · exact .inl y
      · exact .inr (of_decide_eq_true y)
    · rw [g2 b (Bool.eq_false_iff.mpr q)] at e
      cases e
  have I1 : Inv X pins σ H' { s with heap := G, gens := s'.gens, drawn := s'.drawn, toks := s'.toks } := by
    refine I.call (ch := []) ⟨fun b o e n hb _ => gB b o (ub.keep b o e n hb), fun b o e n hb _ => ?_, fun b o e n _ => ub.free b o e n, fun b o e _ => ?_, ub.tups, ub.frzs, ub.tbls⟩ (hok.kept gB) ag (fun _ z => nomatch z)
    · obtain ⟨sl, q⟩ := ub.slot b o e hb
      exact ⟨sl, (gF b hb).trans q⟩
    · by_cases hb : b ∈ frs X.stack
      · obtain ⟨sl, q⟩ := ub.slot b o e hb
        exact ⟨_, (gF b hb).trans q⟩
      · obtain ⟨o', q⟩ := ub.there b o e hb
        exact ⟨o', gB b o' q⟩
  refine k pins H' _ _ _ I1 ⟨a, B, cls, d, rfl, fun b o e hb => ?_, Heap.UpToSlots.of_keeps fun b o e => (back b o e).1, .inr (.inl fl), na, os, ag, hE⟩
  obtain ⟨e1, e2 | e2⟩ := back b o e
  · obtain ⟨o', q⟩ := Option.isSome_iff_exists.mp e2
    have z := (st b o' q).symm.trans e1
    cases z
    exact q
  · exact absurd e2 hb
end
theorem passNo {X : Cx} (σ : L2.St) : PassesAt (L2.CX X.prog X.w) X σ ((fun _ _ _ _ => False : L2.St → XK) σ) := fun _ _ _ _ _ _ c => by
  obtain ⟨_, _, _, _, _, _, _, _, _, _, _, _, hE⟩ := c
  exact hE.elim
theorem funFrames_step {h h2 B B' : Heap} : ∀ {l : List Env}, h.FunFrames B l → (∀ b, B.get? b = none → B'.get? b = none) → (∀ b o, B.get? b = none → h.get? b = some o → h2.get? b = some o) → h2.FunFrames B' l
  | [], _, _, _ => trivial
  | env :: l, hl, k1, k2 => by
    obtain ⟨hk, ⟨L, o, hf, hn, ho, hd⟩, hr⟩ := hl
    exact ⟨hk, ⟨L, o, hf, k1 _ hn, k2 _ _ hn ho, hd⟩, funFrames_step hr k1 k2⟩
theorem note_same {e : Value} {e1 e2 : Env} (h : e1.frame = e2.frame) : noteFrame e e1 = noteFrame e e2 := by
  unfold noteFrame PySem.frameOf
  rw [h]
section
variable {M : Model} {A : Around} {E : Value → Shared → Prop} {s : Shared} {env : Env}
/-- behind a block: let go of its names; an exception goes on by the block's own environment -/
def postX (M : Model) (A : Around) (E : Value → Shared → Prop) (use : Option (Value → Sem Unit)) (Q : Value → Shared → Prop) (acc : Value) (cenv : Env) (r : Result) (s' : Shared) : Prop :=
  match r, use with
  | .ok _, none => ∃ m, s'.heap.Ns cenv.locals m ∧ ∀ h', Heap.SameBut cenv.locals s'.heap h' → Q acc { s' with heap := h' }
  | .ok _, some u => wpAny M A (u acc) (fun _ s'' => ∃ m, s''.heap.Ns cenv.locals m ∧ ∀ h', Heap.SameBut cenv.locals s''.heap h' → Q .none { s'' with heap := h' }) E s'
  | .error x, _ => ∃ m, s'.heap.Ns cenv.locals m ∧ ∀ h', Heap.SameBut cenv.locals s'.heap h' → wpAny M A (passOn "comprehension.variables-let-go" x cenv : Sem Value) (fun _ _ => False) E { s' with heap := h' }
theorem comprehension_freeX {e : Expr} {scope : Scope} {pos : Pos} {newAcc first : Sem Value} {g : Comprehension} {gs : List Comprehension} {cl : List (Str × Addr)} {use : Option (Value → Sem Unit)}
    {Q : Value → Shared → Prop}
    (hcl : clausesOf e = g :: gs) (hs : ∀ x, foldedSetIterable g.iter env x = pure x) (hclos : closureFor scope env = pure cl)
    (hkind : scope.kind = .function) (hnames : ∀ x ∈ scope.names, x.2 = .local → scope.names.lookup x.1 = some .local)
    (h : wpAny M A first (fun x s₁ => wpAny M A (pyIter x) (fun it s₂ => wpAny M A newAcc (fun acc s₃ =>
      wpAny M A (newFunctionEnv scope env.globals cl [] env.qual none .none (some env)) (fun cenv s₄ =>
        codeAny M A (.compStart e 0 it acc { cenv with scope := relabel scope env }) (postX M A E use Q acc { cenv with scope := relabel scope env }) s₄) E s₃) E s₂) E s₁) E s) :
    wpAny M A (comprehension e scope env pos newAcc false first use) Q E s := by
  unfold comprehension
  rw [hclos, hcl]
  refine wpAny_bind (wpAny_mono h (fun x s₁ h₁ => wpAny_bind (wpAny_standAt (wpAny_bind (wpAny_of_eq (hs x) (wpAny_bind (wpAny_holding (wpAny_mono h₁ (fun it s₂ h₂ =>
    wpAny_standIf (wpAny_bind (wpAny_mono h₂ (fun acc s₃ h₃ => wpAny_bind (wpAny_pure (wpAny_bind (wpAny_mono h₃ (fun cenv s₄ h₄ => ?_) fun _ _ h' => h')))) fun _ _ h' => h')))
      fun _ _ h' => h'))))))) fun _ _ h' => h')
  dsimp only
  have hv : ∀ x ∈ (scope.names.filter fun x => (x.2 == .local || x.2 == .cell) && x.1 != (".0" : Str)).reverse, x.2 = .local →
      Env.kindOf { cenv with scope := relabel scope env } x.1 = some .local := fun x hx hl => lookup_relabel_local (hnames x (List.mem_filter.mp (List.mem_reverse.mp hx)).1 hl)
  have hv' : ∀ x ∈ (scope.names.filter fun x => (x.2 == .local || x.2 == .cell) && x.1 != (".0" : Str)).reverse.drop 1 ++ (scope.names.filter fun x => (x.2 == .local || x.2 == .cell) && x.1 != (".0" : Str)).reverse.take 1,
      x.2 = .local → Env.kindOf { cenv with scope := relabel scope env } x.1 = some .local := fun x hx hl => by
    rcases List.mem_append.mp hx with h1 | h1
    · exact hv x (List.mem_of_mem_drop h1) hl
    · exact hv x (List.mem_of_mem_take h1) hl
  refine wpAny_holding (wpAny_bind (wpAny_attempt (wpAny_holding (wpAny_run (codeAny_mono h₄ fun r s' hr => ?_)))))
  cases r with
  | ok f =>
    cases use with
    | none =>
      obtain ⟨m, hn, hr⟩ := hr
      exact wpAny_bind (wpAny_holding (wpAny_comp_letGo (cenv := { cenv with scope := relabel scope env }) hkind _ s' m hv hn fun h' m' _ hs' => wpAny_pure (hr h' hs')))
    | some u =>
      refine wpAny_bind (wpAny_rule (wpAny_bind (wpAny_holding (wpAny_mono hr (fun _ s'' hr' => ?_) fun _ _ h' => h'))))
      obtain ⟨m, hn, hr'⟩ := hr'
      exact wpAny_bind (wpAny_comp_letGo (cenv := { cenv with scope := relabel scope env }) hkind _ s'' m hv' hn fun h' m' _ hs' => wpAny_pure (hr' h' hs'))
  | error x =>
    have hr' : ∃ m, s'.heap.Ns cenv.locals m ∧ ∀ h', Heap.SameBut cenv.locals s'.heap h' → wpAny M A (passOn "comprehension.variables-let-go" x { cenv with scope := relabel scope env } : Sem Value) (fun _ _ => False) E { s' with heap := h' } := by cases use <;> exact hr
    obtain ⟨m, hn, hr⟩ := hr'
    exact wpAny_bind (wpAny_holding (wpAny_comp_letGo (cenv := { cenv with scope := relabel scope env }) hkind _ s' m hv hn fun h' m' _ hs' => wpAny_mono (hr h' hs') (fun _ _ f => f.elim) fun _ _ y => y))
end
section
variable {X : Cx}
theorem lc_coreX {E : L2.St → XK} {pins : List (Addr × Obj)} {s : Shared} {σ : L2.St} {H : Hp} {Q : VK} {elt tg iter : Expr} {ifs : List Expr} {scope : Scope} {own : List (Str × Nat)} {pos pos' : Pos} {wi : TI} {g : TG} {tt : TT} {te : XK → TE} {Qf : Value → Shared → Prop}
    (hc : X.calm = true) (hN : X.N.Nodup) (I : Inv X pins σ H s) (hi : PI X tg iter wi) (ok : BlkOk X.N X.env.scope scope own)
    (hg : ∀ (s : Shared) (H : Hp) (C : Addr) (cl : List (Str × Addr)) (fp : List Addr), PG (X.blk s H scope (compEnvC scope cl C X.env) fp) tg g) (ht : ∀ (s : Shared) (H : Hp) (C : Addr) (cl : List (Str × Addr)) (fp : List Addr), PTs (X.blk s H scope (compEnvC scope cl C X.env) fp) ifs tt)
    (air : Air X σ (E σ)) (he : ∀ (s : Shared) (H : Hp) (C : Addr) (cl : List (Str × Addr)) (fp : List Addr) (xe : Value → Shared → Prop) (E1 : XK), (∀ σ1, Air ((X.blk s H scope (compEnvC scope cl C X.env) fp).wish xe) σ1 E1) → PE ((X.blk s H scope (compEnvC scope cl C X.env) fp).wish xe) elt (te E1)) (hs : ∀ x, foldedSetIterable iter X.env x = pure x)
    (h : tLc wi g tt (te (E σ)) (own.map (·.2)) σ H Q)
    (hRR : ∀ D C s' m H', Inv X pins σ H' s' → Q (.ref D) H' → s'.heap.Ns C m → FpOk X pins H' C → compPost (model X.prog X.w) X.A X.xe none Qf (.ref D) C (.ok .next) s') :
    wpAny (model X.prog X.w) X.A (comprehension (.ListComp elt [⟨tg, iter, ifs, 0⟩] scope pos) scope X.env pos' (newList []) false (eval iter X.env) none) Qf X.xe s := by
  have hfree : ∀ y ∈ scope.names, y.2 = .free → ∃ c, X.env.cells.lookup y.1 = some c := fun y hy e => by
    rcases ok.free y hy e with k | k
    · exact I.ok.has _ (.inl k)
    · exact I.ok.has _ (.inr k)
  refine comprehension_freeX (use := none) rfl hs (closure_ok hfree) ok.kind (fun y hy e => by rw [ok.uniq y hy, e])
    (thn (hi.run pins s σ H _ I h) fun xv s1 hx => thn hx fun itv s2 h2 => ?_)
  obtain ⟨it, fp, tn, J, H2, e, I2, T, st2, f2, q⟩ := h2
  subst e
  refine wpAny_newObj_type (newEnv_comp ?_) (by show 0 ≤ sizeLine; decide)
  generalize hD : s2.heap.objs.size = D
  have hDn : H2 D = none := I2.hok.fresh (Nat.le_of_eq hD)
  obtain ⟨W, ⟨m0, w0⟩, turn⟩ := q D hDn
  -- the new list
  generalize hs3 : ({ s2 with heap := s2.heap.push { cls := .type "list", data := .seq ([] : List Value).toArray } } : Shared) = s3
  have I3 : Inv X pins σ (upd H2 D (.lst [])) s3 := by
    rw [← hs3]
    refine I2.laid (t' := s2.toks) (fun b o e => Heap.get?_push_of_some _ e) (Nat.le_of_eq hD) ⟨Nat.zero_le _, [], 0, .nil, ?_⟩
    rw [← hD]
    exact Heap.get?_push_size _ rfl
  have h3 : s3.heap = s2.heap.push { cls := .type "list", data := .seq ([] : List Value).toArray } := by rw [← hs3]
  have sz : ∀ b ∈ fp, b < s2.heap.objs.size := fun b hb => by
    obtain ⟨o, e, _⟩ := T.obj _ _ st2 b hb
    exact Heap.lt_size e
  have f3 : ∀ b ∈ fp, FpOk X pins (upd H2 D (.lst [])) b ∧ b < s3.heap.objs.size := fun b hb => by
    have hlt := sz b hb
    refine ⟨⟨?_, (f2 b hb).2⟩, by rw [h3, Heap.size_push]; exact Nat.lt_succ_of_lt hlt⟩
    rw [upd_ne (by rw [← hD]; exact Nat.ne_of_lt hlt)]
    exact (f2 b hb).1
  have st3 : tn 0 s3.heap := T.keep _ _ _ st2 fun b _ o e => by rw [h3]; exact Heap.get?_push_of_some _ e
  have I4 := block_start I3 ok hN f3
  have pg := hg s3 (upd H2 D (.lst [])) s3.heap.objs.size (cellsFrom (s3.heap.objs.size + 1) scope.names (cloFrom X.env.cells scope.names [])) fp
  have pt := ht s3 (upd H2 D (.lst [])) s3.heap.objs.size (cellsFrom (s3.heap.objs.size + 1) scope.names (cloFrom X.env.cells scope.names [])) fp
  have pe := he s3 (upd H2 D (.lst [])) s3.heap.objs.size (cellsFrom (s3.heap.objs.size + 1) scope.names (cloFrom X.env.cells scope.names [])) fp
  have cF : (compEnvC scope (cellsFrom (s3.heap.objs.size + 1) scope.names (cloFrom X.env.cells scope.names [])) s3.heap.objs.size X.env).frame = X.env.frame := rfl
  show codeAny _ _ (.compStart (.ListComp elt [⟨tg, iter, ifs, 0⟩] scope pos) 0 (.ref it) (.ref D) (compEnvC scope (cellsFrom (s3.heap.objs.size + 1) scope.names (cloFrom X.env.cells scope.names [])) s3.heap.objs.size X.env)) (postX (model X.prog X.w) X.A X.xe none Qf (.ref D) (compEnvC scope (cellsFrom (s3.heap.objs.size + 1) scope.names (cloFrom X.env.cells scope.names [])) s3.heap.objs.size X.env)) { s3 with heap := pushCells (s3.heap.push { cls := .type "dict", data := .dict #[] }) scope.names }
  have nfp : ∀ b ∈ fp, (upd H2 D (.lst [])) b = none := fun b hb => (f3 b hb).1.1
  generalize hce : compEnvC scope (cellsFrom (s3.heap.objs.size + 1) scope.names (cloFrom X.env.cells scope.names [])) s3.heap.objs.size X.env = ce at I4 pg pt pe cF ⊢
  have cL : ce.locals = s3.heap.objs.size := by subst hce; rfl
  generalize hH3 : upd H2 D (.lst []) = H3 at I3 I4 pg pt pe w0 nfp f3
  generalize hs4 : ({ s3 with heap := pushCells (s3.heap.push { cls := .type "dict", data := .dict #[] }) scope.names } : Shared) = s4 at I4 ⊢
  have st4 : tn 0 s4.heap := T.keep _ _ _ st3 fun b _ o e => by rw [← hs4]; exact pushCells_keeps _ _ _ _ (Heap.get?_push_of_some _ e)
  have stat : ∀ {σ' : L2.St} {H' : Hp} {s' : Shared}, Inv (X.blk s3 H3 scope ce fp) [] σ' H' s' → (∀ b ∈ fp, H' b = none) → ∀ b ∈ fp, FpOk (X.blk s3 H3 scope ce fp) [] H' b := fun {σ' H' s'} I' hn b hb =>
    ⟨hn b hb, (I'.ok.exf b hb).1, I'.ok.exfs b hb, .inl hb, fun x c e => (I'.ok.exf b hb).2 x c e, fun p hp => absurd (show p ∈ ([] : List (Addr × Obj)) ++ [] from hp) (by simp)⟩
  have loop : codeAny (model X.prog X.w) X.A (.compLoop (.ListComp elt [⟨tg, iter, ifs, 0⟩] scope pos) 0 (.ref it) (.ref D) ce) (postX (model X.prog X.w) X.A X.xe none Qf (.ref D) ce) s4 := by
    refine compLoop_any (fun n s' => ∃ i H', Inv (X.blk s3 H3 scope ce fp) [] (wipe σ (own.map (·.2))) H' s' ∧ tn i s'.heap ∧ (∀ b ∈ fp, H' b = none) ∧ W i n H') ?_ m0 ⟨0, H3, I4, st4, nfp, w0⟩
    rintro n s5 ⟨i, H5, I5, st5, n5, w5⟩
    rcases turn i n H5 w5 with ⟨stop, qq⟩ | ⟨go, Nx, hNx, step⟩
    · have td := T.done (X.blk s3 H3 scope ce fp) rfl rfl rfl hc i [] s5 _ H5 (fun _ _ => False) I5 (stat I5 n5) st5 stop
      refine thnF td fun r s6 ⟨hr, I6⟩ => ?_
      subst hr
      -- back in the def's context
      have I7 : Inv X pins σ H5 s6 := I3.call' (ch := fp) I6.os I6.base I6.hok I6.bare fun b hb => ⟨(f3 b hb).1.2.2.2.1, (f3 b hb).1.2.1, (f3 b hb).1.2.2.2.2.1, (f3 b hb).1.2.2.2.2.2⟩
      have nC : H5 s3.heap.objs.size = none := by
        have z : H5 ce.locals = none := I6.free
        rw [cL] at z
        exact z
      obtain ⟨m, hn, _⟩ := I6.loc
      have hn : s6.heap.Ns ce.locals m := hn
      rw [cL] at hn
      have hR := hRR D s3.heap.objs.size s6 m H5 I7 qq hn (I3.fpOk (Nat.le_refl _) nC)
      rw [← cL] at hR
      exact hR
    · have ti := T.item (X.blk s3 H3 scope ce fp) rfl rfl rfl hc i [] s5 _ H5 (fun _ _ => False) I5 (stat I5 n5) st5 go
      refine thnF ti fun r s6 ⟨u, hr, h6⟩ => ?_
      subst hr
      refine thnF h6 fun _ s7 ⟨x, H7, I7, r7, y7, st7, n7⟩ => ?_
      have I7' := I7.pinned (stat I7 n7) (T.obj _ _ st7)
      refine thnF (pg.run _ s7 _ H7 x u _ I7' r7 (step x H7 y7)) fun _ s8 ⟨σ8, H8, I8, hw8, q8⟩ => ?_
      refine thnF (pt.run _ s8 σ8 H8 _ I8 q8) fun b s9 ⟨H9, I9, q9⟩ => ?_
      -- the turn's end
      have fin : ∀ {s' : Shared} {H' : Hp}, Inv (X.blk s3 H3 scope ce fp) ([] ++ pinsAt fp s7.heap) σ8 H' s' → Nx H' → ∃ m, m < n ∧ ∃ i H', Inv (X.blk s3 H3 scope ce fp) [] (wipe σ (own.map (·.2))) H' s' ∧ tn i s'.heap ∧ (∀ b ∈ fp, H' b = none) ∧ W i m H' := fun {s' H'} I' nx => by
        obtain ⟨m', hm, w'⟩ := hNx H' nx
        have pin' : ∀ b ∈ fp, ∀ o, s7.heap.get? b = some o → s'.heap.get? b = some o ∧ H' b = none := fun b hb o e =>
          let z := I'.pin (b, o) (List.mem_append_right _ (List.mem_append_right _ (mem_pinsAt hb e)))
          ⟨z.1, z.2.1⟩
        have hl : (wipe σ (own.map (·.2))).length = σ8.length := by rw [← hw8, wipe_length]
        refine ⟨m', hm, i + 1, H', (I'.unpinned (pins := [])).weak hl (fun j v e => ?_), T.keep _ _ _ st7 fun b hb o e => (pin' b hb o e).1, fun b hb => ?_, w'⟩
        · rw [← hw8] at e
          exact (wipe_some e).1
        · obtain ⟨o, e, _⟩ := T.obj _ _ st7 b hb
          exact (pin' b hb o e).2
      cases b with
      | false =>
        simp only [Bool.false_eq_true, if_false] at q9 ⊢
        exact fin I9 q9
      | true =>
        simp only [if_true] at q9 ⊢
        obtain ⟨ev, outer, L, hstk, hfr, hXf, kx⟩ := air.ex
        refine wpAny_mono ((pe (fun u s' => ∃ H' sI, Inv X pins σ H' sI ∧ (∃ m, sI.heap.Ns ce.locals m) ∧ H' ce.locals = none ∧ Aloft X.stack L sI H' (E σ) u s') (E σ) (fun σ1 => ⟨ev, outer, L, hstk, hfr, cF.trans hXf, fun pins1 H1 sI u s' I1 al => ?_⟩)).run _ s9 σ8 H9 _ (I9.wish _) q9) (fun z s10 ⟨yv, H10, I10, r10, acc, hD10, hz10, nx⟩ => ?_) (fun u s10 hx => ?_)
        · have I1' := I1.unwish
          obtain ⟨m, hn, _⟩ := I1'.loc
          exact ⟨H1, sI, I3.call' (ch := fp) I1'.os I1'.base I1'.hok I1'.bare fun b hb => ⟨(f3 b hb).1.2.2.2.1, (f3 b hb).1.2.1, (f3 b hb).1.2.2.2.2.1, (f3 b hb).1.2.2.2.2.2⟩, ⟨m, hn⟩, I1'.free, al⟩
        · exact app_ok (X := X.blk s3 H3 scope ce fp) I10.unwish hD10 hz10 r10 fun s11 I11 => fin I11 nx
        · obtain ⟨H', sI, JX, ⟨m, hn⟩, nC, a, B, cls, d, rfl, nb, up, sky, na, os, ag, w⟩ := hx
          have fpC : FpOk X pins H' ce.locals := I3.fpOk (by rw [cL]; exact Nat.le_refl _) nC
          obtain ⟨f0, f1, f2, f3', f4, f5⟩ := fpC
          have frA : X.A.frames = some (ev :: outer) := I3.ok.frames.trans (congrArg some hstk)
          have cNot : ce.locals ∉ frs X.stack := fun hm => by
            rcases List.mem_cons.mp (I3.stkSub _ hm) with z | z
            · exact f1 z
            · exact f2 z
          show wpAny _ X.A (noteFrame (Value.ref a) ce) _ _ _
          rw [note_same (e2 := ev) (by rw [cF, hXf, hfr])]
          -- noted by the frame
          have held : ∀ {Q : Unit → Shared → Prop} {E' : Value → Shared → Prop}, (∀ h1, HandSPX.HeldZ B (ev :: outer) a (Zc cls d) L h1 → s10.heap.UpToSlots h1 → Q () { s10 with heap := h1 }) → wpAny (model X.prog X.w) X.A (noteFrame (.ref a) ev) Q E' s10 := fun {Q E'} k => by
            rw [hstk] at sky
            rcases sky with ⟨hB, hn, hl, oe, vs, he, hz, hd, h1⟩ | fl | hh
            · exact HandSPX.look_newZ Zc.steady frA hl hfr he hB hn hd h1 hz k
            · exact HandSPX.looks_onZ Zc.steady frA hfr fl k
            · exact HandSPX.againZ hfr hh.2.2.2 (k s10.heap hh (Heap.UpToSlots.refl _))
          refine held fun h1 hh1 up1 => ?_
          have upH : sI.heap.UpToSlots h1 := up.trans up1
          refine ⟨m, upH.ns hn, fun h2 sb2 => ?_⟩
          -- the ground without the block's names
          obtain ⟨B', b1, b2⟩ := restrict B fun b => decide (b ≠ ce.locals)
          obtain ⟨G, g1, g2⟩ := restrict sI.heap fun b => decide (b ≠ ce.locals)
          have bB : ∀ b o, B'.get? b = some o → b ≠ ce.locals ∧ B.get? b = some o := fun b o e => by
            by_cases q : b = ce.locals
            · rw [b2 b (by simp [q])] at e
              cases e
            · exact ⟨q, by rw [b1 b (by simp [q])] at e; exact e⟩
          have gG : ∀ b o, G.get? b = some o → b ≠ ce.locals ∧ sI.heap.get? b = some o := fun b o e => by
            by_cases q : b = ce.locals
            · rw [g2 b (by simp [q])] at e
              cases e
            · exact ⟨q, by rw [g1 b (by simp [q])] at e; exact e⟩
          obtain ⟨k1, k2, k3, oe, vs, T1, oT1, ts, he1, hz1, hd1, hv1, hbT, hTa, hT1, hdT, hfl⟩ := hh1
          obtain ⟨oC, es, ep, hoC, hdC, _⟩ := hn
          have BC : B.get? ce.locals = some oC := nb _ _ hoC cNot
          have aC : a ≠ ce.locals := fun z => by rw [z] at k2; rw [k2] at BC; cases BC
          have TC : T1 ≠ ce.locals := fun z => by rw [z] at hbT; rw [hbT] at BC; cases BC
          have sb : ∀ b, b ≠ ce.locals → h2.get? b = h1.get? b := sb2.2
          have B'a : B'.get? a = none := by rw [b1 a (by simp [aC])]; exact k2
          have B'T : B'.get? T1 = none := by rw [b1 T1 (by simp [TC])]; exact hbT
          have fF : h2.FunFrames B' (ev :: outer) := funFrames_step k3 (fun b q => by
              cases z : B'.get? b with
              | none => rfl
              | some o =>
                rw [(bB b o z).2] at q
                cases q) fun b o q e => (sb b (fun z => by rw [z, BC] at q; cases q)).trans e
          have kB : B'.StaysIn h2 := fun b o e => (sb b (bB b o e).1).trans (k1 b o (bB b o e).2)
          have he2 : h2.get? a = some oe := (sb a aC).trans he1
          have hh2 : HandSPX.HeldZ B' (ev :: outer) a (Zc cls d) L h2 := ⟨kB, B'a, fF, oe, vs, T1, oT1, ts, he2, hz1, hd1, hv1, B'T, hTa, (sb T1 TC).trans hT1, hdT, hfl⟩
          unfold PySem.passOn
          refine wpAny_bind (wpAny_field he2 hd1 hv1 ?_)
          rw [if_neg (show ¬ ((Value.ref T1 == Value.none) = true) by simp)]
          have fin2 : wpAny (model X.prog X.w) X.A (setFlight (.ref a) ce.frame) (fun _ s4 => wpAny (model X.prog X.w) X.A (throw (.ref a) : Sem Value) (fun _ _ => False) X.xe s4) X.xe { s10 with heap := h2 } := by
            rw [cF, hXf]
            refine HandSPX.setFlight_onZ hh2 fun h4 hh4 up4 => wpAny_throw ?_
            refine kx pins H' { sI with heap := G } _ _ (JX.turned (t' := sI.toks) (fun b o hb e => (g1 b (by simp [hb])).trans e) f0 f1 f3' f4 f5) ⟨a, B', cls, d, rfl, fun b o e hb => ?_, ?_, ?_, na, os, ag, w⟩
            · obtain ⟨q1, q2⟩ := gG b o e
              exact (b1 b (by simp [q1])).trans (nb b o q2 hb)
            · refine Heap.UpToSlots.trans (fun b o e nf => ?_) up4
              obtain ⟨q1, q2⟩ := gG b o e
              obtain ⟨sl, q3⟩ := upH b o q2 nf
              exact ⟨sl, (sb b q1).trans q3⟩
            · rw [hstk]
              exact .inr (.inr hh4)
          first
            | exact wpAny_bind (wpAny_pure (wpAny_bind fin2))
            | exact wpAny_bind fin2
  exact codeAny_compStart_list loop (T.self X.A 0 _ _ _ st4 loop)
/-- [elt for target in iter if ..]; what elt lets out is let out -/
theorem pe_lcX {E : L2.St → XK} {elt tg iter : Expr} {ifs : List Expr} {scope : Scope} {own : List (Str × Nat)} {pos : Pos} {wi : TI} {g : TG} {tt : TT} {te : XK → TE} (air : ∀ σ, Air X σ (E σ)) (hc : X.calm = true) (hN : X.N.Nodup) (hi : PI X tg iter wi) (ok : BlkOk X.N X.env.scope scope own)
    (hg : ∀ (s : Shared) (H : Hp) (C : Addr) (cl : List (Str × Addr)) (fp : List Addr), PG (X.blk s H scope (compEnvC scope cl C X.env) fp) tg g) (ht : ∀ (s : Shared) (H : Hp) (C : Addr) (cl : List (Str × Addr)) (fp : List Addr), PTs (X.blk s H scope (compEnvC scope cl C X.env) fp) ifs tt)
    (he : ∀ (s : Shared) (H : Hp) (C : Addr) (cl : List (Str × Addr)) (fp : List Addr) (xe : Value → Shared → Prop) (E1 : XK), (∀ σ1, Air ((X.blk s H scope (compEnvC scope cl C X.env) fp).wish xe) σ1 E1) → PE ((X.blk s H scope (compEnvC scope cl C X.env) fp).wish xe) elt (te E1)) (hs : ∀ x, foldedSetIterable iter X.env x = pure x := by intro _; rfl) :
    PE X (.ListComp elt [⟨tg, iter, ifs, 0⟩] scope pos) (fun σ H Q => tLc wi g tt (te (E σ)) (own.map (·.2)) σ H Q) := by
  refine ⟨fun pins s σ H Q I h => ?_⟩
  rw [eval_ListComp]
  refine lc_coreX hc hN I hi ok hg ht (air σ) he hs h fun D C s' m H' I' q hn f => ⟨m, hn, fun h'' sb => ?_⟩
  obtain ⟨f0, f1, f2, f3, f4, f5⟩ := f
  exact ⟨.ref D, H', I'.turned (t' := s'.toks) (fun b o hb e => (sb.2 b hb).trans e) f0 f1 f3 f4 f5, rfl, q⟩
end
end Wx

namespace Wx
open PySem PySem.Spec PyProof.Rows L2 NdefX RZ
/-! walks over a list or a tuple; <= and str by own defs; tuples of ints compared -/
section
variable {X : Cx} {tg : Expr}
def iSeq (K : PySem.W.Frag) (tl : TE) : TI := fun σ H R => tl σ H fun x H1 => ∃ a xs, x = .ref a ∧ ((SqL K H1 a xs ∧ R (Itl K a) H1) ∨ (SqT K H1 a xs ∧ R (Itt K a) H1))
theorem pi_seq {l : Expr} {tl : TE} (hl : PE X l tl) : PI X tg l (iSeq X.K tl) := by
  refine ⟨fun pins s σ H R I h => ?_⟩
  refine thn (hl.run pins s σ H _ I h) fun v s1 ⟨x, H1, I1, r1, q1⟩ => ?_
  obtain ⟨a, xs, e, q⟩ := q1
  subst e
  cases r1
  have fresh : ∀ b ∈ [s1.heap.objs.size], FpOk X pins H1 b := fun b hb => by
    have e : b = s1.heap.objs.size := by simpa using hb
    subst e
    exact I1.fpOk (Nat.le_refl _) (I1.hok.fresh (Nat.le_refl _))
  rcases q with ⟨hq, q⟩ | ⟨hq, q⟩
  · obtain ⟨its, rv, p, hz⟩ := I1.list hq
    refine wpAny_pyIter_list p.isList ?_
    exact ⟨s1.heap.objs.size, [s1.heap.objs.size], _, _, H1, rfl, I1.kept (t' := s1.toks) fun b o e => Heap.get?_push_of_some _ e, turn_list a _, ⟨_, Heap.get?_push_size _ rfl, rfl, rfl⟩, fresh, q⟩
  · obtain ⟨its, rv, p, hz⟩ := I1.tuple hq
    refine wpAny_pyIter_tuple (show s1.heap.IsTuple a its.toArray from p) ?_
    exact ⟨s1.heap.objs.size, [s1.heap.objs.size], _, _, H1, rfl, I1.kept (t' := s1.toks) fun b o e => Heap.get?_push_of_some _ e, turn_tuple a _, ⟨_, Heap.get?_push_size _ rfl, rfl, rfl⟩, fresh, q⟩
end
section
variable {X : Cx} {CX : CXT} {C f : Addr} {n : Nat} {fd : FuncData} {ps : List Str} {sp : Sp} {E : XK}
theorem op_leI (F : FnOk X.prog X.w X.K X.mg X.base CX n f fd ps sp) (hr : Room n X.A) (hs : PySem.W.findIn X.K (.ref C) "__le__" = some (some (.ref f))) (hf : PySem.W.isFn X.K (.ref f) = true) (hb : Binds X.K fd ps []) (hx : Passes CX X E) : OpR X (compareOp .LtE) (rOwnI X.K C sp E id) := by
  intro pins s σ H x y v u Q I rx ry h
  obtain ⟨a, dx, fs, b, dy, gs, rfl, rfl, ha, hb', q⟩ := h
  cases (show v = Value.ref a from rx)
  cases (show u = Value.ref b from ry)
  obtain ⟨mA, J, _⟩ := ins_get I.hok ha
  obtain ⟨mB, J', _⟩ := ins_get I.hok hb'
  obtain ⟨od, J, _⟩ := J.look
  obtain ⟨od', J', _⟩ := J'.look
  obtain ⟨m, hF⟩ := I.fr
  show wpAny (model X.prog X.w) X.A (richCompare .LtE _ _) (EP X pins σ Q) X.xe s
  refine PySem.W.cmp_K (op := .LtE) (tb := .ref C) hr.units0 hF I.ok.mod.kin J J'.type (by simp [PySem.W.notFirst]) hs hf ?_
  refine wpAny_mono (run_two (us := [.ref a, .ref b]) (vs := [.ref a, .ref b]) F hr I.env0 hb hx I (.cons rfl (.cons rfl .nil)) q) (fun w s' z => ?_) fun _ _ x => x
  obtain ⟨z', H', I', rz, k, ez, qz⟩ := z
  subst ez
  cases (show w = Value.bool k from rz)
  exact ⟨.bl k, H', I', rfl, qz⟩
/-- str(x) by the class's own __str__ -/
theorem call_strOwn (F : FnOk X.prog X.w X.K X.mg X.base CX n f fd ps sp) (hr : Room (n + 2) X.A) (hs : PySem.W.findIn X.K (.ref C) "__str__" = some (some (.ref f))) (hf : PySem.W.isFn X.K (.ref f) = true) (hb : Binds X.K fd ps []) (hx : Passes CX X E) :
    CallR X (.type "str") (fun xs H Q => ∃ a dx fs, xs = [.ref a] ∧ H a = some (.ins C dx fs) ∧ sp xs H (fun z H' => ∃ t : Str, z = .str t ∧ Q z H') E) := by
  intro pins s σ H xs us Q I r h
  obtain ⟨a, dx, fs, rfl, ha, q⟩ := h
  obtain ⟨u, rfl, hu⟩ := vals1 r
  cases (show u = Value.ref a from hu)
  obtain ⟨mA, J, _⟩ := ins_get I.hok ha
  obtain ⟨od, J, _⟩ := J.look
  have hr1 : Room (n + 1) X.A.in1 := hr.in1
  have hr2 : Room n X.A.in1.in1 := hr1.in1
  refine PySem.W.kso_call hr2.units0 I.kIn J hs hf ?_
  refine wpAny_mono (run_two (us := [.ref a]) (vs := [.ref a]) F hr2 I.env0.in1.in1 hb hx I (.cons rfl .nil) q) (fun w s' z => ?_) fun _ _ x => x
  obtain ⟨z', H', I', rz, t, ez, qz⟩ := z
  subst ez
  obtain ⟨tk, rfl⟩ := rz
  exact ⟨.str t, H', I', ⟨_, rfl⟩, qz⟩
end
/-! ### data -/
theorem eqvAll_ints : ∀ (xs ys : List Int), PyData.eqvAll (xs.map PyData.int) (ys.map PyData.int) = decide (xs = ys)
  | [], [] => rfl
  | [], y :: ys => rfl
  | x :: xs, [] => rfl
  | x :: xs, y :: ys => by
    show (PyData.eqv (.int x) (.int y) && PyData.eqvAll (xs.map PyData.int) (ys.map PyData.int)) = _
    rw [eqvAll_ints xs ys]
    show ((x == y) && _) = _
    by_cases h : x = y
    · subst h
      by_cases h2 : xs = ys
      · subst h2
        simp
      · simp [h2]
    · have e : (x == y) = false := beq_eq_false_iff_ne.mpr h
      rw [e, Bool.false_and, decide_eq_false (fun q => h (by injection q))]
theorem eqv_intsT (xs ys : List Int) : PyData.eqv (.tuple (xs.map PyData.int)) (.tuple (ys.map PyData.int)) = decide (xs = ys) := eqvAll_ints xs ys
theorem eqv_intsL (xs ys : List Int) : PyData.eqv (.list (xs.map PyData.int)) (.list (ys.map PyData.int)) = decide (xs = ys) := eqvAll_ints xs ys
theorem lay_ints : ∀ xs : List Int, PyData.canLayAll0 (xs.map PyData.int) = true
  | [] => rfl
  | x :: xs => lay_ints xs
theorem depth_ints : ∀ xs : List Int, PyData.depthAll (xs.map PyData.int) ≤ 1
  | [] => by decide
  | x :: xs => by
    have ih := depth_ints xs
    simp only [List.map_cons, PyData.depthAll, PyData.depth]
    omega
theorem shaped_intsT (xs : List Int) : SeqAt.shaped (.tuple (xs.map PyData.int)) = true := by
  have h := depth_ints xs
  show (PyData.canLay0 (.tuple (xs.map PyData.int)) && decide ((PyData.tuple (xs.map PyData.int)).depth ≤ 64)) = true
  rw [Bool.and_eq_true]
  refine ⟨by simp only [PyData.canLay0]; exact lay_ints xs, decide_eq_true ?_⟩
  simp only [PyData.depth]
  omega
theorem shaped_intsL (xs : List Int) : SeqAt.shaped (.list (xs.map PyData.int)) = true := by
  have h := depth_ints xs
  show (PyData.canLay0 (.list (xs.map PyData.int)) && decide ((PyData.list (xs.map PyData.int)).depth ≤ 64)) = true
  rw [Bool.and_eq_true]
  refine ⟨by simp only [PyData.canLay0]; exact lay_ints xs, decide_eq_true ?_⟩
  simp only [PyData.depth]
  omega
theorem dpAll_ints {K : PySem.W.Frag} {H : Hp} : ∀ xs : List Int, DpAll K H (xs.map V.int) (xs.map PyData.int)
  | [] => .nil
  | x :: xs => .cons (.int x) (dpAll_ints xs)
theorem dp_intsT {K : PySem.W.Frag} {H : Hp} {a : Addr} {xs : List Int} (h : SqT K H a (xs.map V.int)) : Dp K H (.ref a) (.tuple (xs.map PyData.int)) := .tup h (dpAll_ints xs)
theorem dp_intsL {K : PySem.W.Frag} {H : Hp} {a : Addr} {xs : List Int} (h : SqL K H a (xs.map V.int)) : Dp K H (.ref a) (.list (xs.map PyData.int)) := .lst h (dpAll_ints xs)
theorem walk_zipT {K : PySem.W.Frag} {a b : Addr} {xs ys : List V} {n : Nat} (hn : n = min xs.length ys.length) : Walk (ItzT K a b) n (fun H => SqT K H a xs ∧ SqT K H b ys) (YPair (fun i => xs[i]?) (fun i => ys[i]?)) := by
  subst hn
  refine ⟨fun i _ hi q => ?_, fun _ q => ⟨xs, ys, q.1, q.2, by omega⟩, fun i H v H' _ q y => ?_⟩
  · have h1 : i < xs.length := by omega
    have h2 : i < ys.length := by omega
    exact ⟨xs, ys, xs[i], ys[i], q.1, q.2, by simp [h1], by simp [h2]⟩
  · obtain ⟨T, x, z, h1, h2, h3, h4, h5⟩ := y
    exact ⟨T, x, z, h1, h2, h3, h4 xs q.1, h5 ys q.2⟩
end Wx

namespace Wx
open PySem PySem.Spec PyProof.Rows L2 NdefX RZ
/-! own operators: an instance and a whole number, two instances of one class -/
theorem back_rel {Q : Value → Shared → Prop} {x : V} {v : Value} {s : Shared} (r : RelV x v) (h : Q v s) : PySem.W.CmpBack Q v s := by
  cases x with
  | non => cases (show v = Value.none from r); exact h
  | bl b => cases (show v = Value.bool b from r); exact h
  | int i => obtain ⟨t, rfl⟩ := r; exact h
  | str z => obtain ⟨t, rfl⟩ := r; exact h
  | byt b => obtain ⟨t, rfl⟩ := r; exact h
  | flt b => obtain ⟨t, rfl⟩ := r; exact h
  | ref a => cases (show v = Value.ref a from r); exact h
  | ty n => cases (show v = Value.type n from r); exact h
/-- what the class at C says of an own operator of the names nm, rn -/
structure OpC (K : PySem.W.Frag) (C f : Addr) (nm rn : Str) : Prop where
  first : PySem.W.selfFirst K C = true
  own : PySem.W.findIn K (.ref C) nm = some (some (.ref f))
  fn : PySem.W.isFn K (.ref f) = true
  back : ∃ rc, PySem.W.findIn K (.ref C) rn = some rc ∧ (rc = none ∨ ∃ g : Addr, rc = some (.ref g))
  i1 : ∃ fo, PySem.W.findIn K (.type "int") nm = some fo
  i2 : ∃ ro, PySem.W.findIn K (.type "int") rn = some ro
  isub : PySem.W.subIn K (.type "int") (.ref C) = some false
def tOwnN (C : Addr) (sp : Sp) (E : L2.St → XK) (ta tb : TE) : TE := fun σ H Q => ta σ H fun x H1 => tb σ H1 fun y H2 => ∃ a dx fs i, x = .ref a ∧ y = .int i ∧ H2 a = some (.ins C dx fs) ∧ sp [x, y] H2 Q (E σ)
def tOwnB (C : Addr) (sp : Sp) (E : L2.St → XK) (ta tb : TE) : TE := fun σ H Q => ta σ H fun x H1 => tb σ H1 fun y H2 => ∃ a dx fs b dy gs, x = .ref a ∧ y = .ref b ∧ H2 a = some (.ins C dx fs) ∧ H2 b = some (.ins C dy gs) ∧ sp [x, y] H2 Q (E σ)
section
variable {X : Cx} {CX : CXT} {C f : Addr} {n : Nat} {fd : FuncData} {ps : List Str} {sp : Sp} {E : L2.St → XK} {op : Operator} {a b : Expr} {ta tb : TE} {pos : Pos} {nm rn : Str}
theorem pe_ownN (F : FnOk X.prog X.w X.K X.mg X.base CX n f fd ps sp) (hr : Room n X.A) (O : OpC X.K C f nm rn) (hb : Binds X.K fd ps []) (hx : ∀ σ, PassesAt CX X σ (E σ)) (en : PySem.dunder op.info.2 = nm) (er : PySem.dunderR op.info.2 = rn) (ha : PE X a ta) (hb' : PE X b tb) : PE X (.BinOp a op b pos) (tOwnN C sp E ta tb) := by
  subst en er
  refine ⟨fun pins s σ H Q I h => ?_⟩
  refine wpAny_BinOp (binT ha hb' I h fun v u s2 x y H2 I2 rx ry q => ?_)
  obtain ⟨p, dx, fs, i, rfl, rfl, hp, q⟩ := q
  cases (show v = Value.ref p from rx)
  obtain ⟨t, rfl⟩ := id ry
  obtain ⟨mA, J, _⟩ := ins_get I2.hok hp
  obtain ⟨od, J, _⟩ := J.look
  obtain ⟨m, hF⟩ := I2.fr
  obtain ⟨rc, e1, e2⟩ := O.back
  obtain ⟨fo, e3⟩ := O.i1
  obtain ⟨ro, e4⟩ := O.i2
  refine PySem.W.ksp_binT (T := "int") hF I2.ok.mod.kin J rfl O.first O.own O.fn e1 e2 e3 e4 O.isub ?_
  exact wpAny_mono (run_fnS (us := [.ref p, .int i t]) (vs := [.ref p, .int i]) F hr hb (hx σ) I2 (.cons rfl (.cons ⟨t, rfl⟩ .nil)) q) (fun w s' z => by
    obtain ⟨z', H', I', rz, qz⟩ := z
    exact back_rel rz ⟨z', H', I', rz, qz⟩) fun _ _ x => x
theorem pe_ownB (F : FnOk X.prog X.w X.K X.mg X.base CX n f fd ps sp) (hr : Room n X.A) (O : OpC X.K C f nm rn) (hb : Binds X.K fd ps []) (hx : ∀ σ, PassesAt CX X σ (E σ)) (en : PySem.dunder op.info.2 = nm) (er : PySem.dunderR op.info.2 = rn) (ha : PE X a ta) (hb' : PE X b tb) : PE X (.BinOp a op b pos) (tOwnB C sp E ta tb) := by
  subst en er
  refine ⟨fun pins s σ H Q I h => ?_⟩
  refine wpAny_BinOp (binT ha hb' I h fun v u s2 x y H2 I2 rx ry q => ?_)
  obtain ⟨p, dx, fs, r, dy, gs, rfl, rfl, hp, hq, q⟩ := q
  cases (show v = Value.ref p from rx)
  cases (show u = Value.ref r from ry)
  obtain ⟨mA, J, _⟩ := ins_get I2.hok hp
  obtain ⟨mB, J', _⟩ := ins_get I2.hok hq
  obtain ⟨od, J, _⟩ := J.look
  obtain ⟨od', J', _⟩ := J'.look
  obtain ⟨m, hF⟩ := I2.fr
  refine PySem.W.binop_K hF I2.ok.mod.kin J J'.type O.first O.own O.fn ?_
  exact wpAny_mono (run_fnS (us := [.ref p, .ref r]) (vs := [.ref p, .ref r]) F hr hb (hx σ) I2 (.cons rfl (.cons rfl .nil)) q) (fun w s' z => by
    obtain ⟨z', H', I', rz, qz⟩ := z
    exact back_rel rz ⟨z', H', I', rz, qz⟩) fun _ _ x => x
end
end Wx

/-! == and != of lists and tuples whose items have an own ==, with either answer -/
namespace GB
open PySem PySem.SeqAt
open AutoSeq1 (wpAny_loadPart')
open MeetsSeq MeetsSeq2 MeetsSeq3 SeqRoads2
open GQ (FinOf call_here)
theorem all_take {e : Nat → Bool} {N i : Nat} (h : ((List.range N).take i).all e = true) (hi : i < N) (t : e i = true) : ((List.range N).take (i + 1)).all e = true := by
  have q : (List.range N).take (i + 1) = (List.range N).take i ++ [i] := by
    rw [List.take_add_one, List.getElem?_range hi]
    rfl
  rw [q, List.all_append, h]
  simp [t]
theorem all_no {e : Nat → Bool} {N i : Nat} (hi : i < N) (t : e i = false) : (List.range N).all e = false := by
  refine Bool.eq_false_iff.mpr fun h => ?_
  have := List.all_eq_true.mp h i (List.mem_range.mpr hi)
  rw [t] at this
  cases this
theorem all_end {e : Nat → Bool} {N i : Nat} (h : ((List.range N).take i).all e = true) (hi : N ≤ i) : (List.range N).all e = true := by
  rw [List.take_of_length_le (by simpa using hi)] at h
  exact h
section
variable {prog : Program} {w : World} {A : Around} {R : Result → Shared → Prop}
def ListB (prog : Program) (w : World) (A : Around) (E : Value → Shared → Prop) (l b : Addr) (N : Nat) (e : Nat → Bool) (I : Shared → Prop) : Prop :=
  ∀ s, I s → ∃ (items items2 : Array Value) (n n2 : Nat), s.heap.get? l = some { cls := .type "list", data := .seq items n } ∧ s.heap.get? b = some { cls := .type "list", data := .seq items2 n2 } ∧ items.size = N ∧ items2.size = N ∧
    ∀ i (h1 : i < items.size) (h2 : i < items2.size), wpAny (model prog w) A.in1 (eqBool items[i] items2[i]) (fun r s' => r = e i ∧ I s') E s

theorem eq_loopB (l b : Addr) (N : Nat) (e : Nat → Bool) (I : Shared → Prop) (hl : ListB prog w A (fun e s' => R (.error e) s') l b N e I)
    (fin : ∀ s, I s → R (.ok (.ret (.bool ((List.range N).all e)))) s) (k : Nat) :
    ∀ i : Nat, N - i = k → i ≤ N → ((List.range N).take i).all e = true → ∀ s, I s →
      wpAny (model prog w) A.in1 (Builtin.«list.__eq__.loop» ⟨[.ref l, .ref b, rawInt i, rawInt 2], []⟩) (FinOf prog w A R) (fun e s' => R (.error e) s') s := by
  induction k with
  | zero =>
    intro i hk hi ha s h
    obtain ⟨items, items2, n, n2, hl1, hb1, hs1, hs2, _⟩ := hl _ h
    have hi' : i = N := by omega
    have hR := fin s h
    rw [all_end ha (by omega)] at hR
    obtain ⟨hp, g, d, tk, os⟩ := s
    wp_walk using wpAny_loadPart' hl1, wpAny_loadPart' hb1
    have hi1 : items[((i : Nat) : Int).toNat]? = none := by simp; omega
    have hi2 : items2[((i : Nat) : Int).toNat]? = none := by simp; omega
    rw [hi1, hi2]
    wp_walk using wpAny_loadPart' hl1, wpAny_loadPart' hb1
    show R (.ok (.ret (.bool (items.size == items2.size)))) _
    rw [hs1, hs2]
    simpa using hR
  | succ k ih =>
    intro i hk hi ha s h
    obtain ⟨items, items2, n, n2, hl1, hb1, hs1, hs2, turn⟩ := hl _ h
    have hlt : i < items.size := by omega
    have hlt2 : i < items2.size := by omega
    have ht := turn i hlt hlt2
    obtain ⟨hp, g, d, tk, os⟩ := s
    wp_walk using wpAny_loadPart' hl1, wpAny_loadPart' hb1
    have hi1 : items[((i : Nat) : Int).toNat]? = some items[i] := by simp [hlt]
    have hi2 : items2[((i : Nat) : Int).toNat]? = some items2[i] := by simp [hlt2]
    have hc : ((i : Int) + 1) = ((i + 1 : Nat) : Int) := by omega
    rw [hi1, hi2]
    refine wpAny_bind (wpAny_mono ht (fun r s2 h2 => ?_) fun _ _ x => x)
    obtain ⟨hr, h2⟩ := h2
    subst hr
    cases hb' : e i with
    | true =>
      have hrec := ih (i + 1) (by omega) (by omega) (all_take ha (by omega) hb') s2 h2
      obtain ⟨hp2, g2, d2, tk2, os2⟩ := s2
      wp_walk
      rw [hc]
      exact ⟨plainId_quiet plain_eq_loop _, codeAny_builtin entry_eq_loop (by
        rw [Around.under_plainId plain_eq_loop _]
        exact hrec)⟩
    | false =>
      obtain ⟨items', items2', n', n2', hl1', hb1', hs1', hs2', _⟩ := hl _ h2
      have hR := fin s2 h2
      rw [all_no (by omega) hb'] at hR
      obtain ⟨hp2, g2, d2, tk2, os2⟩ := s2
      wp_walk using wpAny_loadPart' hl1', wpAny_loadPart' hb1'
      have hi1 : items'[((i : Nat) : Int).toNat]? = some (items'[i]'(by omega)) := by simp [show i < items'.size by omega]
      have hi2 : items2'[((i : Nat) : Int).toNat]? = some (items2'[i]'(by omega)) := by simp [show i < items2'.size by omega]
      rw [hi1, hi2]
      wp_walk
      simpa using hR
theorem list_eqB (l b : Addr) (N : Nat) (e : Nat → Bool) (I : Shared → Prop) (hl : ListB prog w A (fun e s' => R (.error e) s') l b N e I)
    (fin : ∀ s, I s → R (.ok (.ret (.bool ((List.range N).all e)))) s) {s : Shared} (h : I s) :
    wpAny (model prog w) A.in1 (Builtin.«list.__eq__» ⟨[.ref l, .ref b], []⟩) (FinOf prog w A R) (fun e s' => R (.error e) s') s := by
  obtain ⟨items, items2, n, n2, hl1, hb1, hs1, hs2, _⟩ := hl _ h
  have hrec := eq_loopB (A := A) (R := R) l b N e I hl fin _ 0 rfl (Nat.zero_le _) rfl s h
  obtain ⟨hp, g, d, tk, os⟩ := s
  have f3 := AutoSeq1.sub_list_list
  have hne : ¬ (items.size != items2.size) = true := by simp [hs1, hs2]
  wp_walk using wpAny_loadPart' hl1, wpAny_loadPart' hb1
  exact ⟨plainId_quiet plain_eq_loop _, codeAny_builtin entry_eq_loop (by
    rw [Around.under_plainId plain_eq_loop _]
    exact hrec)⟩
theorem list_eqD (l b : Addr) (items items2 : Array Value) (n n2 : Nat) (hc0 : (items.size != items2.size) = true) {s : Shared} (hl1 : s.heap.get? l = some { cls := .type "list", data := .seq items n }) (hb1 : s.heap.get? b = some { cls := .type "list", data := .seq items2 n2 })
    (fin : R (.ok (.ret (.bool false))) s) :
    wpAny (model prog w) A.in1 (Builtin.«list.__eq__» ⟨[.ref l, .ref b], []⟩) (FinOf prog w A R) (fun e s' => R (.error e) s') s := by
  obtain ⟨hp, g, d, tk, os⟩ := s
  have f3 := AutoSeq1.sub_list_list
  wp_walk using wpAny_loadPart' hl1, wpAny_loadPart' hb1
  exact fin
theorem tuple_eqB (l b : Addr) (items items2 : Array Value) (n n2 : Nat) (dd dd2 : Option Addr) (sl sl2 : Array (Option Value)) (e : Nat → Bool) (I : Shared → Prop)
    (turn : ∀ i (h1 : i < items.size) (h2 : i < items2.size) s, I s → wpAny (model prog w) A.in1 (eqBool items[i] items2[i]) (fun r s' => r = e i ∧ I s') (fun e s' => R (.error e) s') s)
    (fin : ∀ s, I s → R (.ok (.ret (.bool ((List.range (min items.size items2.size)).all e && items.size == items2.size)))) s) {s : Shared} (hl1 : s.heap.get? l = some { cls := .type "tuple", dict := dd, data := .seq items n, slots := sl }) (hb1 : s.heap.get? b = some { cls := .type "tuple", dict := dd2, data := .seq items2 n2, slots := sl2 }) (h : I s) :
    wpAny (model prog w) A.in1 (Builtin.«tuple.__eq__» ⟨[.ref l, .ref b], []⟩) (FinOf prog w A R) (fun e s' => R (.error e) s') s := by
  have f2 := AutoSeq1.sub_tuple_tuple
  have hZ : (items.toList.zip items2.toList).length = min items.size items2.size := by simp
  have h0 := h
  obtain ⟨hp, g, d, tk, os⟩ := s
  wp_walk using wpAny_loadPart' hl1, wpAny_loadPart' hb1, wpAny_forIn_list _ (fun rest b s' => b.1 = none ∧ ∃ i, rest = (items.toList.zip items2.toList).drop i ∧ ((List.range (min items.size items2.size)).take i).all e = true ∧ I s') _
  case turn =>
    rintro ⟨y, x⟩ rest b s' ⟨hb', i, hz, ha, hI⟩
    have hlt : i < (items.toList.zip items2.toList).length := by
      rcases Nat.lt_or_ge i (items.toList.zip items2.toList).length with h' | h'
      · exact h'
      · rw [List.drop_of_length_le h'] at hz; cases hz
    have hm : i < min items.size items2.size := hZ ▸ hlt
    have h1 : i < items.size := Nat.lt_of_lt_of_le hm (Nat.min_le_left _ _)
    have h2 : i < items2.size := Nat.lt_of_lt_of_le hm (Nat.min_le_right _ _)
    rw [List.drop_eq_getElem_cons hlt] at hz
    injection hz with hyx hrest
    have hy : y = items[i] := by have := congrArg Prod.fst hyx; simpa using this
    have hx : x = items2[i] := by have := congrArg Prod.snd hyx; simpa using this
    subst hy hx
    refine wpAny_bind (wpAny_mono (turn i h1 h2 s' hI) (fun r s2 q2 => ?_) fun _ _ x => x)
    obtain ⟨hr, q2⟩ := q2
    subst hr
    cases hy : e i with
    | true =>
      wp_walk
      exact ⟨rfl, i + 1, hrest, all_take ha hm hy, q2⟩
    | false =>
      have hR := fin s2 q2
      rw [all_no hm hy] at hR
      wp_walk
      simpa using hR
  case fin =>
    rintro ⟨b1, b2⟩ s' ⟨hb', i, hz, ha, hI⟩
    simp only at hb'
    subst hb'
    have hge : min items.size items2.size ≤ i := by
      rcases Nat.lt_or_ge i (items.toList.zip items2.toList).length with h' | h'
      · rw [List.drop_eq_getElem_cons h'] at hz; cases hz
      · exact hZ ▸ h'
    have hR := fin s' hI
    rw [all_end ha hge] at hR
    wp_walk
    simpa [Builtin.Tuple.tupleCompareSizes, bne] using hR
  case h =>
    exact ⟨rfl, 0, rfl, rfl, h0⟩
section
variable {E : Value → Shared → Prop} {s : Shared}
theorem rc_list_eq {l b : Addr} {N : Nat} {e : Nat → Bool} {Q : Value → Shared → Prop} (hu : A.units < cLine) (I : Shared → Prop) (hl : ListB prog w A E l b N e I)
    (fin : ∀ s, I s → Q (.bool ((List.range N).all e)) s) (h : I s) : wpAny (model prog w) A (richCompare .Eq (.ref l) (.ref b)) Q E s := by
  obtain ⟨items, items2, n, n2, hl1, hb1, _, _, _⟩ := hl _ h
  refine wpAny_richCompare_same_room (op := .Eq) ⟨_, hl1, rfl⟩ ⟨_, hb1, rfl⟩ F.slot_list_eq (call_here F.slot_list_eq ⟨_, hl1, rfl⟩ F.entry_list_eq (F.args_list_eq_2 _ _) ?_) hu
  exact list_eqB (R := wants (fun v s' => v ≠ .notImplemented ∧ Q v s') E) l b N e I hl (fun s' q => ⟨(fun x => nomatch x), fin s' q⟩) h
theorem rc_list_eqD {l b : Addr} {items items2 : Array Value} {n n2 : Nat} {Q : Value → Shared → Prop} (hu : A.units < cLine) (hc0 : (items.size != items2.size) = true) (hl1 : s.heap.get? l = some { cls := .type "list", data := .seq items n }) (hb1 : s.heap.get? b = some { cls := .type "list", data := .seq items2 n2 })
    (fin : Q (.bool false) s) : wpAny (model prog w) A (richCompare .Eq (.ref l) (.ref b)) Q E s := by
  refine wpAny_richCompare_same_room (op := .Eq) ⟨_, hl1, rfl⟩ ⟨_, hb1, rfl⟩ F.slot_list_eq (call_here F.slot_list_eq ⟨_, hl1, rfl⟩ F.entry_list_eq (F.args_list_eq_2 _ _) ?_) hu
  exact list_eqD (R := wants (fun v s' => v ≠ .notImplemented ∧ Q v s') E) l b items items2 n n2 hc0 hl1 hb1 ⟨(fun x => nomatch x), fin⟩
theorem rc_tup_eq {l b : Addr} {items items2 : Array Value} {e : Nat → Bool} {Q : Value → Shared → Prop} (hu : A.units < cLine) (I : Shared → Prop) (hl : s.heap.IsTuple l items) (hb : s.heap.IsTuple b items2)
    (turn : ∀ i (h1 : i < items.size) (h2 : i < items2.size) s, I s → wpAny (model prog w) A.in1 (eqBool items[i] items2[i]) (fun r s' => r = e i ∧ I s') E s)
    (fin : ∀ s, I s → Q (.bool ((List.range (min items.size items2.size)).all e && items.size == items2.size)) s) (h : I s) : wpAny (model prog w) A (richCompare .Eq (.ref l) (.ref b)) Q E s := by
  obtain ⟨⟨cls, dd, data, sl⟩, ho, hc, n, hd⟩ := id hl
  obtain ⟨⟨cls2, dd2, data2, sl2⟩, ho2, hc2, n2, hd2⟩ := id hb
  simp only at hc hd hc2 hd2
  subst hc hd hc2 hd2
  refine wpAny_richCompare_same_room (op := .Eq) ⟨_, ho, rfl⟩ ⟨_, ho2, rfl⟩ F.slot_tuple_eq (call_here F.slot_tuple_eq ⟨_, ho, rfl⟩ F.entry_tuple_eq (F.args_tuple_eq_2 _ _) ?_) hu
  exact tuple_eqB (R := wants (fun v s' => v ≠ .notImplemented ∧ Q v s') E) l b items items2 n n2 dd dd2 sl sl2 e I turn (fun s' q => ⟨(fun x => nomatch x), fin s' q⟩) ho ho2 h
end

theorem ne_loopB (l b : Addr) (N : Nat) (e : Nat → Bool) (I : Shared → Prop) (hl : ListB prog w A (fun e s' => R (.error e) s') l b N e I)
    (fin : ∀ s, I s → R (.ok (.ret (.bool (!(List.range N).all e)))) s) (k : Nat) :
    ∀ i : Nat, N - i = k → i ≤ N → ((List.range N).take i).all e = true → ∀ s, I s →
      wpAny (model prog w) A.in1 (Builtin.«list.__eq__.loop» ⟨[.ref l, .ref b, rawInt i, rawInt 3], []⟩) (FinOf prog w A R) (fun e s' => R (.error e) s') s := by
  induction k with
  | zero =>
    intro i hk hi ha s h
    obtain ⟨items, items2, n, n2, hl1, hb1, hs1, hs2, _⟩ := hl _ h
    have hi' : i = N := by omega
    have hR := fin s h
    rw [all_end ha (by omega)] at hR
    obtain ⟨hp, g, d, tk, os⟩ := s
    wp_walk using wpAny_loadPart' hl1, wpAny_loadPart' hb1
    have hi1 : items[((i : Nat) : Int).toNat]? = none := by simp; omega
    have hi2 : items2[((i : Nat) : Int).toNat]? = none := by simp; omega
    rw [hi1, hi2]
    wp_walk using wpAny_loadPart' hl1, wpAny_loadPart' hb1
    show R (.ok (.ret (.bool (items.size != items2.size)))) _
    rw [hs1, hs2]
    simpa using hR
  | succ k ih =>
    intro i hk hi ha s h
    obtain ⟨items, items2, n, n2, hl1, hb1, hs1, hs2, turn⟩ := hl _ h
    have hlt : i < items.size := by omega
    have hlt2 : i < items2.size := by omega
    have ht := turn i hlt hlt2
    obtain ⟨hp, g, d, tk, os⟩ := s
    wp_walk using wpAny_loadPart' hl1, wpAny_loadPart' hb1
    have hi1 : items[((i : Nat) : Int).toNat]? = some items[i] := by simp [hlt]
    have hi2 : items2[((i : Nat) : Int).toNat]? = some items2[i] := by simp [hlt2]
    have hc : ((i : Int) + 1) = ((i + 1 : Nat) : Int) := by omega
    rw [hi1, hi2]
    refine wpAny_bind (wpAny_mono ht (fun r s2 h2 => ?_) fun _ _ x => x)
    obtain ⟨hr, h2⟩ := h2
    subst hr
    cases hb' : e i with
    | true =>
      have hrec := ih (i + 1) (by omega) (by omega) (all_take ha (by omega) hb') s2 h2
      obtain ⟨hp2, g2, d2, tk2, os2⟩ := s2
      wp_walk
      rw [hc]
      exact ⟨plainId_quiet plain_eq_loop _, codeAny_builtin entry_eq_loop (by
        rw [Around.under_plainId plain_eq_loop _]
        exact hrec)⟩
    | false =>
      obtain ⟨items', items2', n', n2', hl1', hb1', hs1', hs2', _⟩ := hl _ h2
      have hR := fin s2 h2
      rw [all_no (by omega) hb'] at hR
      obtain ⟨hp2, g2, d2, tk2, os2⟩ := s2
      wp_walk using wpAny_loadPart' hl1', wpAny_loadPart' hb1'
      have hi1 : items'[((i : Nat) : Int).toNat]? = some (items'[i]'(by omega)) := by simp [show i < items'.size by omega]
      have hi2 : items2'[((i : Nat) : Int).toNat]? = some (items2'[i]'(by omega)) := by simp [show i < items2'.size by omega]
      rw [hi1, hi2]
      wp_walk
      simpa using hR
theorem list_neB (l b : Addr) (N : Nat) (e : Nat → Bool) (I : Shared → Prop) (hl : ListB prog w A (fun e s' => R (.error e) s') l b N e I)
    (fin : ∀ s, I s → R (.ok (.ret (.bool (!(List.range N).all e)))) s) {s : Shared} (h : I s) :
    wpAny (model prog w) A.in1 (Builtin.«list.__ne__» ⟨[.ref l, .ref b], []⟩) (FinOf prog w A R) (fun e s' => R (.error e) s') s := by
  obtain ⟨items, items2, n, n2, hl1, hb1, hs1, hs2, _⟩ := hl _ h
  have hrec := ne_loopB (A := A) (R := R) l b N e I hl fin _ 0 rfl (Nat.zero_le _) rfl s h
  obtain ⟨hp, g, d, tk, os⟩ := s
  have f3 := AutoSeq1.sub_list_list
  have hne : ¬ (items.size != items2.size) = true := by simp [hs1, hs2]
  wp_walk using wpAny_loadPart' hl1, wpAny_loadPart' hb1
  exact ⟨plainId_quiet plain_eq_loop _, codeAny_builtin entry_eq_loop (by
    rw [Around.under_plainId plain_eq_loop _]
    exact hrec)⟩
theorem list_neD (l b : Addr) (items items2 : Array Value) (n n2 : Nat) (hc0 : (items.size != items2.size) = true) {s : Shared} (hl1 : s.heap.get? l = some { cls := .type "list", data := .seq items n }) (hb1 : s.heap.get? b = some { cls := .type "list", data := .seq items2 n2 })
    (fin : R (.ok (.ret (.bool true))) s) :
    wpAny (model prog w) A.in1 (Builtin.«list.__ne__» ⟨[.ref l, .ref b], []⟩) (FinOf prog w A R) (fun e s' => R (.error e) s') s := by
  obtain ⟨hp, g, d, tk, os⟩ := s
  have f3 := AutoSeq1.sub_list_list
  wp_walk using wpAny_loadPart' hl1, wpAny_loadPart' hb1
  exact fin
theorem tuple_neB (l b : Addr) (items items2 : Array Value) (n n2 : Nat) (dd dd2 : Option Addr) (sl sl2 : Array (Option Value)) (e : Nat → Bool) (I : Shared → Prop)
    (turn : ∀ i (h1 : i < items.size) (h2 : i < items2.size) s, I s → wpAny (model prog w) A.in1 (eqBool items[i] items2[i]) (fun r s' => r = e i ∧ I s') (fun e s' => R (.error e) s') s)
    (fin : ∀ s, I s → R (.ok (.ret (.bool (!((List.range (min items.size items2.size)).all e && items.size == items2.size))))) s) {s : Shared} (hl1 : s.heap.get? l = some { cls := .type "tuple", dict := dd, data := .seq items n, slots := sl }) (hb1 : s.heap.get? b = some { cls := .type "tuple", dict := dd2, data := .seq items2 n2, slots := sl2 }) (h : I s) :
    wpAny (model prog w) A.in1 (Builtin.«tuple.__ne__» ⟨[.ref l, .ref b], []⟩) (FinOf prog w A R) (fun e s' => R (.error e) s') s := by
  have f2 := AutoSeq1.sub_tuple_tuple
  have hZ : (items.toList.zip items2.toList).length = min items.size items2.size := by simp
  have h0 := h
  obtain ⟨hp, g, d, tk, os⟩ := s
  wp_walk using wpAny_loadPart' hl1, wpAny_loadPart' hb1, wpAny_forIn_list _ (fun rest b s' => b.1 = none ∧ ∃ i, rest = (items.toList.zip items2.toList).drop i ∧ ((List.range (min items.size items2.size)).take i).all e = true ∧ I s') _
  case turn =>
    rintro ⟨y, x⟩ rest b s' ⟨hb', i, hz, ha, hI⟩
    have hlt : i < (items.toList.zip items2.toList).length := by
      rcases Nat.lt_or_ge i (items.toList.zip items2.toList).length with h' | h'
      · exact h'
      · rw [List.drop_of_length_le h'] at hz; cases hz
    have hm : i < min items.size items2.size := hZ ▸ hlt
    have h1 : i < items.size := Nat.lt_of_lt_of_le hm (Nat.min_le_left _ _)
    have h2 : i < items2.size := Nat.lt_of_lt_of_le hm (Nat.min_le_right _ _)
    rw [List.drop_eq_getElem_cons hlt] at hz
    injection hz with hyx hrest
    have hy : y = items[i] := by have := congrArg Prod.fst hyx; simpa using this
    have hx : x = items2[i] := by have := congrArg Prod.snd hyx; simpa using this
    subst hy hx
    refine wpAny_bind (wpAny_mono (turn i h1 h2 s' hI) (fun r s2 q2 => ?_) fun _ _ x => x)
    obtain ⟨hr, q2⟩ := q2
    subst hr
    cases hy : e i with
    | true =>
      wp_walk
      exact ⟨rfl, i + 1, hrest, all_take ha hm hy, q2⟩
    | false =>
      have hR := fin s2 q2
      rw [all_no hm hy] at hR
      wp_walk
      simpa using hR
  case fin =>
    rintro ⟨b1, b2⟩ s' ⟨hb', i, hz, ha, hI⟩
    simp only at hb'
    subst hb'
    have hge : min items.size items2.size ≤ i := by
      rcases Nat.lt_or_ge i (items.toList.zip items2.toList).length with h' | h'
      · rw [List.drop_eq_getElem_cons h'] at hz; cases hz
      · exact hZ ▸ h'
    have hR := fin s' hI
    rw [all_end ha hge] at hR
    wp_walk
    simpa [Builtin.Tuple.tupleCompareSizes, bne] using hR
  case h =>
    exact ⟨rfl, 0, rfl, rfl, h0⟩
section
variable {E : Value → Shared → Prop} {s : Shared}
theorem rc_list_ne {l b : Addr} {N : Nat} {e : Nat → Bool} {Q : Value → Shared → Prop} (hu : A.units < cLine) (I : Shared → Prop) (hl : ListB prog w A E l b N e I)
    (fin : ∀ s, I s → Q (.bool (!(List.range N).all e)) s) (h : I s) : wpAny (model prog w) A (richCompare .NotEq (.ref l) (.ref b)) Q E s := by
  obtain ⟨items, items2, n, n2, hl1, hb1, _, _, _⟩ := hl _ h
  refine wpAny_richCompare_same_room (op := .NotEq) ⟨_, hl1, rfl⟩ ⟨_, hb1, rfl⟩ F.slot_list_ne (call_here F.slot_list_ne ⟨_, hl1, rfl⟩ F.entry_list_ne (F.args_list_ne_2 _ _) ?_) hu
  exact list_neB (R := wants (fun v s' => v ≠ .notImplemented ∧ Q v s') E) l b N e I hl (fun s' q => ⟨(fun x => nomatch x), fin s' q⟩) h
theorem rc_list_neD {l b : Addr} {items items2 : Array Value} {n n2 : Nat} {Q : Value → Shared → Prop} (hu : A.units < cLine) (hc0 : (items.size != items2.size) = true) (hl1 : s.heap.get? l = some { cls := .type "list", data := .seq items n }) (hb1 : s.heap.get? b = some { cls := .type "list", data := .seq items2 n2 })
    (fin : Q (.bool true) s) : wpAny (model prog w) A (richCompare .NotEq (.ref l) (.ref b)) Q E s := by
  refine wpAny_richCompare_same_room (op := .NotEq) ⟨_, hl1, rfl⟩ ⟨_, hb1, rfl⟩ F.slot_list_ne (call_here F.slot_list_ne ⟨_, hl1, rfl⟩ F.entry_list_ne (F.args_list_ne_2 _ _) ?_) hu
  exact list_neD (R := wants (fun v s' => v ≠ .notImplemented ∧ Q v s') E) l b items items2 n n2 hc0 hl1 hb1 ⟨(fun x => nomatch x), fin⟩
theorem rc_tup_ne {l b : Addr} {items items2 : Array Value} {e : Nat → Bool} {Q : Value → Shared → Prop} (hu : A.units < cLine) (I : Shared → Prop) (hl : s.heap.IsTuple l items) (hb : s.heap.IsTuple b items2)
    (turn : ∀ i (h1 : i < items.size) (h2 : i < items2.size) s, I s → wpAny (model prog w) A.in1 (eqBool items[i] items2[i]) (fun r s' => r = e i ∧ I s') E s)
    (fin : ∀ s, I s → Q (.bool (!((List.range (min items.size items2.size)).all e && items.size == items2.size))) s) (h : I s) : wpAny (model prog w) A (richCompare .NotEq (.ref l) (.ref b)) Q E s := by
  obtain ⟨⟨cls, dd, data, sl⟩, ho, hc, n, hd⟩ := id hl
  obtain ⟨⟨cls2, dd2, data2, sl2⟩, ho2, hc2, n2, hd2⟩ := id hb
  simp only at hc hd hc2 hd2
  subst hc hd hc2 hd2
  refine wpAny_richCompare_same_room (op := .NotEq) ⟨_, ho, rfl⟩ ⟨_, ho2, rfl⟩ F.slot_tuple_ne (call_here F.slot_tuple_ne ⟨_, ho, rfl⟩ F.entry_tuple_ne (F.args_tuple_ne_2 _ _) ?_) hu
  exact tuple_neB (R := wants (fun v s' => v ≠ .notImplemented ∧ Q v s') E) l b items items2 n n2 dd dd2 sl sl2 e I turn (fun s' q => ⟨(fun x => nomatch x), fin s' q⟩) ho ho2 h
end
end
end GB
namespace Wx
open PySem PySem.Spec PyProof.Rows L2 NdefX RZ
/-! what a value stands for, and == by it -/
abbrev Rep (α : Type) := V → Hp → α → Prop
def RMon {α : Type} (R : Rep α) : Prop := ∀ x H H' a, Ext H H' → R x H a → R x H' a
def RFun {α : Type} (R : Rep α) : Prop := ∀ x H a a', R x H a → R x H a' → a = a'
def Reps {α : Type} (R : Rep α) (H : Hp) : List V → List α → Prop
  | [], [] => True
  | x :: xs, a :: as => R x H a ∧ Reps R H xs as
  | _, _ => False
section
variable {α : Type} {R : Rep α} {H H' : Hp}
theorem Reps.len : ∀ {xs : List V} {as : List α}, Reps R H xs as → xs.length = as.length
  | [], [], _ => rfl
  | _ :: xs, _ :: as, h => by rw [List.length_cons, List.length_cons, Reps.len h.2]
  | [], _ :: _, h => h.elim
  | _ :: _, [], h => h.elim
theorem Reps.mono (hR : RMon R) (e : Ext H H') : ∀ {xs : List V} {as : List α}, Reps R H xs as → Reps R H' xs as
  | [], [], _ => trivial
  | _ :: xs, _ :: as, h => ⟨hR _ _ _ _ e h.1, Reps.mono hR e h.2⟩
  | [], _ :: _, h => h.elim
  | _ :: _, [], h => h.elim
theorem Reps.imp {S : Rep α} (hR : ∀ x a, R x H a → S x H' a) : ∀ {xs : List V} {as : List α}, Reps R H xs as → Reps S H' xs as
  | [], [], _ => trivial
  | _ :: xs, _ :: as, h => ⟨hR _ _ h.1, Reps.imp hR h.2⟩
  | [], _ :: _, h => h.elim
  | _ :: _, [], h => h.elim
theorem Reps.fn (hR : RFun R) : ∀ {xs : List V} {as bs : List α}, Reps R H xs as → Reps R H xs bs → as = bs
  | [], [], [], _, _ => rfl
  | _ :: xs, _ :: as, _ :: bs, h, h' => by rw [hR _ _ _ _ h.1 h'.1, Reps.fn hR h.2 h'.2]
  | [], _ :: _, _, h, _ => h.elim
  | [], _, _ :: _, _, h => h.elim
  | _ :: _, [], _, h, _ => h.elim
  | _ :: _, _, [], _, h => h.elim
theorem Reps.get : ∀ {xs : List V} {as : List α} {i : Nat} {x : V} {a : α}, Reps R H xs as → xs[i]? = some x → as[i]? = some a → R x H a
  | _ :: xs, _ :: as, 0, x, a, h, h1, h2 => by
    have e1 := Option.some.inj h1
    have e2 := Option.some.inj h2
    subst e1 e2
    exact h.1
  | _ :: xs, _ :: as, i + 1, x, a, h, h1, h2 => Reps.get (i := i) h.2 h1 h2
  | [], _, _, _, _, _, h, _ => by simp at h
  | _ :: _, [], _, _, _, h, _, _ => h.elim
theorem Reps.at {xs : List V} {as : List α} {i : Nat} {x : V} (h : Reps R H xs as) (h1 : xs[i]? = some x) : ∃ a, as[i]? = some a ∧ R x H a := by
  have hi : i < as.length := by rw [← h.len]; exact (List.getElem?_eq_some_iff.mp h1).1
  exact ⟨_, List.getElem?_eq_getElem hi, h.get h1 (List.getElem?_eq_getElem hi)⟩
theorem Reps.at' {xs : List V} {as : List α} {i : Nat} {a : α} (h : Reps R H xs as) (h1 : as[i]? = some a) : ∃ x, xs[i]? = some x ∧ R x H a := by
  have hi : i < xs.length := by rw [h.len]; exact (List.getElem?_eq_some_iff.mp h1).1
  exact ⟨_, List.getElem?_eq_getElem hi, h.get (List.getElem?_eq_getElem hi) h1⟩
theorem Reps.app : ∀ {xs ys : List V} {as bs : List α}, Reps R H xs as → Reps R H ys bs → Reps R H (xs ++ ys) (as ++ bs)
  | [], _, [], _, _, h' => h'
  | _ :: xs, _, _ :: as, _, h, h' => ⟨h.1, Reps.app h.2 h'⟩
  | [], _, _ :: _, _, h, _ => h.elim
  | _ :: _, _, [], _, h, _ => h.elim
theorem Reps.one {x : V} {a : α} (h : R x H a) : Reps R H [x] [a] := ⟨h, trivial⟩
theorem Reps.rep {x : V} {a : α} (h : R x H a) : ∀ n, Reps R H (List.replicate n x) (List.replicate n a)
  | 0 => trivial
  | n + 1 => ⟨h, Reps.rep h n⟩
theorem Reps.take : ∀ {xs : List V} {as : List α} (n : Nat), Reps R H xs as → Reps R H (xs.take n) (as.take n)
  | _, _, 0, _ => by rw [List.take_zero, List.take_zero]; trivial
  | [], [], n + 1, _ => trivial
  | _ :: xs, _ :: as, n + 1, h => ⟨h.1, Reps.take n h.2⟩
  | [], _ :: _, _ + 1, h => h.elim
  | _ :: _, [], _ + 1, h => h.elim
theorem Reps.drop : ∀ {xs : List V} {as : List α} (n : Nat), Reps R H xs as → Reps R H (xs.drop n) (as.drop n)
  | _, _, 0, h => h
  | [], [], n + 1, _ => trivial
  | _ :: xs, _ :: as, n + 1, h => Reps.drop n h.2
  | [], _ :: _, _ + 1, h => h.elim
  | _ :: _, [], _ + 1, h => h.elim
theorem Reps.set : ∀ {xs : List V} {as : List α} (i : Nat) {x : V} {a : α}, Reps R H xs as → R x H a → Reps R H (xs.set i x) (as.set i a)
  | [], [], _, _, _, _, _ => trivial
  | _ :: xs, _ :: as, 0, _, _, h, h' => ⟨h', h.2⟩
  | _ :: xs, _ :: as, i + 1, _, _, h, h' => ⟨h.1, Reps.set i h.2 h'⟩
  | [], _ :: _, _, _, _, h, _ => h.elim
  | _ :: _, [], _, _, _, h, _ => h.elim
end
/-- a tuple, a list whose items stand for as -/
def repT {α : Type} (R : Rep α) : Rep (List α) := fun x H as => ∃ p xs, x = .ref p ∧ H p = some (.tup xs) ∧ Reps R H xs as
def repL {α : Type} (R : Rep α) : Rep (List α) := fun x H as => ∃ p xs, x = .ref p ∧ H p = some (.lst xs) ∧ Reps R H xs as
def repI : Rep Int := fun x _ i => x = .int i
section
variable {α : Type} {R : Rep α}
theorem repT_mono (hR : RMon R) : RMon (repT R) := fun x H H' a e h => by
  obtain ⟨p, xs, rfl, h1, h2⟩ := h
  exact ⟨p, xs, rfl, e _ _ h1, h2.mono hR e⟩
theorem repL_mono (hR : RMon R) : RMon (repL R) := fun x H H' a e h => by
  obtain ⟨p, xs, rfl, h1, h2⟩ := h
  exact ⟨p, xs, rfl, e _ _ h1, h2.mono hR e⟩
theorem repT_fn (hR : RFun R) : RFun (repT R) := fun x H a b h h' => by
  obtain ⟨p, xs, rfl, h1, h2⟩ := h
  obtain ⟨q, ys, e, h3, h4⟩ := h'
  cases e
  rw [h1] at h3
  cases h3
  exact h2.fn hR h4
theorem repL_fn (hR : RFun R) : RFun (repL R) := fun x H a b h h' => by
  obtain ⟨p, xs, rfl, h1, h2⟩ := h
  obtain ⟨q, ys, e, h3, h4⟩ := h'
  cases e
  rw [h1] at h3
  cases h3
  exact h2.fn hR h4
theorem repI_mono : RMon repI := fun _ _ _ _ _ h => h
theorem repI_fn : RFun repI := fun x H a b h h' => by rw [h] at h'; injection h'
end
theorem all_eqs {α : Type} [DecidableEq α] [Inhabited α] : ∀ (as bs : List α), ((List.range (min as.length bs.length)).all (fun i => decide (as[i]? = bs[i]?)) && as.length == bs.length) = decide (as = bs) := fun as bs => by
  rw [Bool.eq_iff_iff, Bool.and_eq_true, List.all_eq_true, decide_eq_true_iff, beq_iff_eq]
  constructor
  · rintro ⟨h, hl⟩
    apply List.ext_getElem?
    intro i
    by_cases hi : i < as.length
    · exact of_decide_eq_true (h i (List.mem_range.mpr (by omega)))
    · rw [List.getElem?_eq_none (by omega), List.getElem?_eq_none (by omega)]
  · rintro rfl
    exact ⟨fun i _ => decide_eq_true rfl, rfl⟩
def EqR {α : Type} [DecidableEq α] (X : Cx) (n : Nat) (R : Rep α) : Prop :=
  ∀ (A : Around) (pins : List (Addr × Obj)) (s : Shared) (σ : L2.St) (H : Hp) (x y : V) (u v : Value) (a b : α), Sub X n A → Inv X pins σ H s → RelV x u → RelV y v → R x H a → R y H b →
    wpAny (model X.prog X.w) A (eqBool u v) (fun r s' => r = decide (a = b) ∧ ∃ H', Inv X pins σ H' s' ∧ Ext H H') X.xe s
def RcR {α : Type} [DecidableEq α] (op : CmpOp) (g : Bool → Bool) (X : Cx) (n : Nat) (R : Rep α) : Prop :=
  ∀ (A : Around) (pins : List (Addr × Obj)) (s : Shared) (σ : L2.St) (H : Hp) (x y : V) (u v : Value) (a b : α), Sub X n A → Inv X pins σ H s → RelV x u → RelV y v → R x H a → R y H b →
    wpAny (model X.prog X.w) A (richCompare op u v) (fun r s' => r = .bool (g (decide (a = b))) ∧ ∃ H', Inv X pins σ H' s' ∧ Ext H H') X.xe s
section
variable {α : Type} [DecidableEq α] {R : Rep α} {X : Cx} {n m : Nat}
theorem EqR.mono (h : EqR X n R) (hn : n ≤ m) : EqR X m R := fun A pins s σ H x y u v a b sb => h A pins s σ H x y u v a b (sb.mono hn)
theorem eqR_int : EqR X 0 repI := by
  intro A pins s σ H x y u v a b sb I rx ry h1 h2
  cases h1
  cases h2
  have q := eqAt_V (A := A) (s := s) rx ry rfl rfl
  refine q X.prog X.w X.xe _ ⟨?_, H, I, Ext.rfl'⟩
  show eqV (.int a) (.int b) = decide (a = b)
  first | rfl | simp [eqV]
theorem RcR.eqR (h : RcR .Eq id X n R) (hr : ∀ x H a, R x H a → ∃ p, x = .ref p) (hf : RFun R) : EqR X n R := by
  intro A pins s σ H x y u v a b sb I rx ry h1 h2
  obtain ⟨p, rfl⟩ := hr _ _ _ h1
  obtain ⟨q, rfl⟩ := hr _ _ _ h2
  cases rx
  cases ry
  by_cases hab : p = q
  · subst hab
    have e := hf _ _ _ _ h1 h2
    subst e
    rw [decide_eq_true rfl]
    exact SeqAt.EqAt.same (A := A) (s := s) (.ref p) X.prog X.w X.xe _ ⟨rfl, H, I, Ext.rfl'⟩
  · refine GQ.eqBool_refG hab (wpAny_mono (h A pins s σ H (.ref p) (.ref q) _ _ a b sb I rfl rfl h1 h2) (fun r s' z => ?_) fun _ _ x => x)
    obtain ⟨hr', z⟩ := z
    exact ⟨_, hr', rfl, z⟩
theorem turnR (hM : RMon R) (h : EqR X n R) {A : Around} (sb : Sub X (n + 1) A) {pins : List (Addr × Obj)} {σ : L2.St} {H : Hp} {xs ys : List V} {as bs : List α} {its its2 : List Value} (p : Reps R H xs as) (q : Reps R H ys bs) (r : Vals xs its) (r2 : Vals ys its2)
    (i : Nat) (h1 : i < its.toArray.size) (h2 : i < its2.toArray.size) (s' : Shared) (l : LoopI X pins σ H s') :
    wpAny (model X.prog X.w) A.in1 (eqBool its.toArray[i] its2.toArray[i]) (fun r s2 => r = decide (as[i]? = bs[i]?) ∧ LoopI X pins σ H s2) X.xe s' := by
  obtain ⟨H1, I1, e1⟩ := l
  have g1 : its[i]? = some its.toArray[i] := by
    have h1' : i < its.length := by simpa using h1
    rw [List.getElem?_eq_getElem h1'] <;> simp
  have g2 : its2[i]? = some its2.toArray[i] := by
    have h2' : i < its2.length := by simpa using h2
    rw [List.getElem?_eq_getElem h2'] <;> simp
  have k1 : i < xs.length := by rw [r.length]; simpa using h1
  have k2 : i < ys.length := by rw [r2.length]; simpa using h2
  obtain ⟨u, hu, ru⟩ := r.get (List.getElem?_eq_getElem k1)
  obtain ⟨v, hv, rv⟩ := r2.get (List.getElem?_eq_getElem k2)
  rw [g1] at hu
  rw [g2] at hv
  rw [Option.some.inj hu, Option.some.inj hv]
  obtain ⟨a, ha, ra⟩ := p.at (List.getElem?_eq_getElem k1)
  obtain ⟨b, hb, rb⟩ := q.at (List.getElem?_eq_getElem k2)
  refine wpAny_mono (h A.in1 pins s' σ H1 _ _ u v a b sb.in1 I1 ru rv (hM _ _ _ _ e1 ra) (hM _ _ _ _ e1 rb)) (fun r s2 z => ?_) fun _ _ x => x
  obtain ⟨hr, H2, I2, e2⟩ := z
  refine ⟨?_, H2, I2, e1.trans e2⟩
  rw [hr, ha, hb]
  simp
theorem rc_T {op : CmpOp} {g : Bool → Bool} (hop : (op = .Eq ∧ g = id) ∨ (op = .NotEq ∧ g = not)) [Inhabited α] (hM : RMon R) (h : EqR X n R) : RcR op g X (n + 1) (repT R) := by
  intro A pins s σ H x y u v as bs sb I rx ry h1 h2
  obtain ⟨a, xs, rfl, ha, p⟩ := h1
  obtain ⟨b, ys, rfl, hb, q⟩ := h2
  cases rx
  cases ry
  obtain ⟨its, r, e, z⟩ := I.tuple (SqT.of (K := X.K) ha)
  obtain ⟨its2, r2, e2, z2⟩ := I.tuple (SqT.of (K := X.K) hb)
  have l1 : its.toArray.size = as.length := by rw [List.size_toArray, ← r.length]; exact p.len
  have l2 : its2.toArray.size = bs.length := by rw [List.size_toArray, ← r2.length]; exact q.len
  have ans : ((List.range (min its.toArray.size its2.toArray.size)).all (fun i => decide (as[i]? = bs[i]?)) && its.toArray.size == its2.toArray.size) = decide (as = bs) := by rw [l1, l2]; exact all_eqs as bs
  rcases hop with ⟨rfl, rfl⟩ | ⟨rfl, rfl⟩
  · exact GB.rc_tup_eq (e := fun i => decide (as[i]? = bs[i]?)) sb.room.units0 (fun s' => LoopI X pins σ H s') e e2 (fun i h1 h2 s' l => turnR hM h sb p q r r2 i h1 h2 s' l) (fun s' l => ⟨by rw [ans]; rfl, l⟩) ⟨H, I, Ext.rfl'⟩
  · exact GB.rc_tup_ne (e := fun i => decide (as[i]? = bs[i]?)) sb.room.units0 (fun s' => LoopI X pins σ H s') e e2 (fun i h1 h2 s' l => turnR hM h sb p q r r2 i h1 h2 s' l) (fun s' l => ⟨by rw [ans], l⟩) ⟨H, I, Ext.rfl'⟩
theorem rc_L {op : CmpOp} {g : Bool → Bool} (hop : (op = .Eq ∧ g = id) ∨ (op = .NotEq ∧ g = not)) [Inhabited α] (hM : RMon R) (h : EqR X n R) : RcR op g X (n + 1) (repL R) := by
  intro A pins s σ H x y u v as bs sb I rx ry h1 h2
  obtain ⟨a, xs, rfl, ha, p⟩ := h1
  obtain ⟨b, ys, rfl, hb, q⟩ := h2
  cases rx
  cases ry
  by_cases hl : as.length = bs.length
  · have ans : ((List.range xs.length).all (fun i => decide (as[i]? = bs[i]?))) = decide (as = bs) := by
      rw [← all_eqs as bs, p.len, hl]
      simp
    have LB : GB.ListB X.prog X.w A X.xe a b xs.length (fun i => decide (as[i]? = bs[i]?)) (fun s' => LoopI X pins σ H s') := fun s' l => by
      obtain ⟨H1, I1, e1⟩ := id l
      obtain ⟨z, its, k, r, e⟩ := I1.hok a _ (e1 _ _ ha)
      obtain ⟨z2, its2, k2, r2, e2⟩ := I1.hok b _ (e1 _ _ hb)
      refine ⟨its.toArray, its2.toArray, k, k2, e, e2, by rw [List.size_toArray, ← r.length], by rw [List.size_toArray, ← r2.length, q.len, p.len, hl], fun i h1 h2 => ?_⟩
      exact turnR hM h sb p q r r2 i h1 h2 s' l
    rcases hop with ⟨rfl, rfl⟩ | ⟨rfl, rfl⟩
    · exact GB.rc_list_eq sb.room.units0 _ LB (fun s' l => ⟨by rw [ans]; rfl, l⟩) ⟨H, I, Ext.rfl'⟩
    · exact GB.rc_list_ne sb.room.units0 _ LB (fun s' l => ⟨by rw [ans], l⟩) ⟨H, I, Ext.rfl'⟩
  · obtain ⟨z, its, k, r, e⟩ := I.hok a _ ha
    obtain ⟨z2, its2, k2, r2, e2⟩ := I.hok b _ hb
    have hc : (its.toArray.size != its2.toArray.size) = true := by
      rw [List.size_toArray, List.size_toArray, ← r.length, ← r2.length, p.len, q.len]
      simpa using hl
    have ans : decide (as = bs) = false := decide_eq_false (fun z => hl (by rw [z]))
    rcases hop with ⟨rfl, rfl⟩ | ⟨rfl, rfl⟩
    · exact GB.rc_list_eqD sb.room.units0 hc e e2 ⟨by rw [ans]; rfl, H, I, Ext.rfl'⟩
    · exact GB.rc_list_neD sb.room.units0 hc e e2 ⟨by rw [ans]; rfl, H, I, Ext.rfl'⟩
theorem eqR_T [Inhabited α] (hM : RMon R) (hF : RFun R) (h : EqR X n R) : EqR X (n + 1) (repT R) := (rc_T (.inl ⟨rfl, rfl⟩) hM h).eqR (fun _ _ _ d => let ⟨p, _, hx, _⟩ := d; ⟨p, hx⟩) (repT_fn hF)
theorem eqR_L [Inhabited α] (hM : RMon R) (hF : RFun R) (h : EqR X n R) : EqR X (n + 1) (repL R) := (rc_L (.inl ⟨rfl, rfl⟩) hM h).eqR (fun _ _ _ d => let ⟨p, _, hx, _⟩ := d; ⟨p, hx⟩) (repL_fn hF)
/-- x == y, x != y as expressions -/
def rEqR (R : Rep α) (g : Bool → Bool) : R2 := fun x y H Q => ∃ a b, R x H a ∧ R y H b ∧ ∀ H', Ext H H' → Q (.bl (g (decide (a = b)))) H'
theorem op_eqR {g : Bool → Bool} (h : RcR .Eq g X n R) (hr : Room n X.A) : OpR X (compareOp .Eq) (rEqR R g) := by
  intro pins s σ H x y v u Q I rx ry hq
  obtain ⟨a, b, ra, rb, q⟩ := hq
  show wpAny (model X.prog X.w) X.A (richCompare .Eq v u) (EP X pins σ Q) X.xe s
  refine wpAny_mono (h X.A pins s σ H x y v u a b ⟨hr, rfl⟩ I rx ry ra rb) (fun r s' z => ?_) fun _ _ x => x
  obtain ⟨hr', H', I', e⟩ := z
  subst hr'
  exact ⟨.bl _, H', I', rfl, q H' e⟩
theorem op_neR {g : Bool → Bool} (h : RcR .NotEq g X n R) (hr : Room n X.A) : OpR X (compareOp .NotEq) (rEqR R g) := by
  intro pins s σ H x y v u Q I rx ry hq
  obtain ⟨a, b, ra, rb, q⟩ := hq
  show wpAny (model X.prog X.w) X.A (richCompare .NotEq v u) (EP X pins σ Q) X.xe s
  refine wpAny_mono (h X.A pins s σ H x y v u a b ⟨hr, rfl⟩ I rx ry ra rb) (fun r s' z => ?_) fun _ _ x => x
  obtain ⟨hr', H', I', e⟩ := z
  subst hr'
  exact ⟨.bl _, H', I', rfl, q H' e⟩
/-- an own class: its __eq__ answers by what the instances stand for -/
theorem rcR_ins {CX : CXT} {C f : Addr} {fd : FuncData} {ps : List Str} {sp : Sp} {E : XK} (F : FnOk X.prog X.w X.K X.mg X.base CX n f fd ps sp)
    (hs : PySem.W.findIn X.K (.ref C) "__eq__" = some (some (.ref f))) (hf : PySem.W.isFn X.K (.ref f) = true) (hb : Binds X.K fd ps []) (hx : Passes CX X E)
    (hi : ∀ x H a, R x H a → ∃ p dx fs, x = .ref p ∧ H p = some (.ins C dx fs))
    (hsp : ∀ p q H a b (Q : VK), R (.ref p) H a → R (.ref q) H b → (∀ H', Ext H H' → Q (.bl (decide (a = b))) H') → sp [.ref p, .ref q] H Q E) : RcR .Eq id X n R := by
  intro A pins s σ H x y u v a b sb I rx ry h1 h2
  obtain ⟨p, dx, fs, rfl, ha⟩ := hi _ _ _ h1
  obtain ⟨q, dy, gs, rfl, hb'⟩ := hi _ _ _ h2
  cases rx
  cases ry
  obtain ⟨mA, J, _⟩ := ins_get I.hok ha
  obtain ⟨mB, J', _⟩ := ins_get I.hok hb'
  obtain ⟨od, J, _⟩ := J.look
  obtain ⟨od', J', _⟩ := J'.look
  obtain ⟨m, hF⟩ := I.fr
  refine PySem.W.cmp_K (op := .Eq) (tb := .ref C) sb.room.units0 hF I.ok.mod.kin J J'.type (by simp [PySem.W.notFirst]) hs hf ?_
  have h := hsp p q H a b (fun v H' => v = .bl (decide (a = b)) ∧ Ext H H') h1 h2 (fun H' e => ⟨rfl, e⟩)
  have e0 : Env0 X.prog X.w X.K X.mg X.base A X.stack s H := by
    have e := I.env0
    exact ⟨by rw [sb.fr]; exact e.frames, e.mod, e.bs, e.bsz, e.funs, e.frf, e.hok, e.bare⟩
  have hl := F.len _ _ _ _ h
  have r2 : Vals [V.ref p, V.ref q] [Value.ref p, Value.ref q] := .cons rfl (.cons rfl .nil)
  refine wpAny_call (codeAny_mono (F.run A X.stack s H ⟨[.ref p, .ref q], []⟩ [.ref p, .ref q] [.ref p, .ref q] _ E sb.room e0 (by
    have := hb s [.ref p, .ref q] I.kIn (by simpa using hl)
    simpa using this) r2 h) fun r s' hq => ?_)
  cases r with
  | error e => exact hx pins σ H s e s' I hq
  | ok fl =>
    cases fl with
    | ret w =>
      obtain ⟨z, H', I', rz, ez, ex⟩ := I.after hq
      subst ez
      cases rz
      exact ⟨rfl, H', I', ex⟩
    | next => exact False.elim hq
    | brk => exact False.elim hq
    | cont => exact False.elim hq
theorem eqR_ins {CX : CXT} {C f : Addr} {fd : FuncData} {ps : List Str} {sp : Sp} {E : XK} (F : FnOk X.prog X.w X.K X.mg X.base CX n f fd ps sp)
    (hs : PySem.W.findIn X.K (.ref C) "__eq__" = some (some (.ref f))) (hf : PySem.W.isFn X.K (.ref f) = true) (hb : Binds X.K fd ps []) (hx : Passes CX X E)
    (hi : ∀ x H a, R x H a → ∃ p dx fs, x = .ref p ∧ H p = some (.ins C dx fs))
    (hsp : ∀ p q H a b (Q : VK), R (.ref p) H a → R (.ref q) H b → (∀ H', Ext H H' → Q (.bl (decide (a = b))) H') → sp [.ref p, .ref q] H Q E) (hF : RFun R) : EqR X n R :=
  (rcR_ins F hs hf hb hx hi hsp).eqR (fun x H a h => let ⟨p, _, _, e, _⟩ := hi x H a h; ⟨p, e⟩) hF
end
end Wx

namespace Wx
open PySem PySem.Spec PyProof.Rows L2 NdefX RZ StX
/-! own [..] and len, a class made of a starred list, defs with a starred parameter that may raise -/
abbrev rTupOf (K : PySem.W.Frag) : List V → Hp → VK → Prop := fun xs H Q => ∃ p ys, xs = [.ref p] ∧ ((SqL K H p ys ∧ ∀ l, H l = none → Q (.ref l) (upd H l (.tup ys))) ∨ (SqT K H p ys ∧ Q (.ref p) H))
section
variable {X : Cx}
def rIxA (K : PySem.W.Frag) : R2 := fun x y H Q => ∃ p xs i v, x = .ref p ∧ y = .int i ∧ (SqL K H p xs ∨ SqT K H p xs) ∧ atI xs i = some v ∧ Q v H
theorem ix_lortu : IxR X (rIxA X.K) := by
  intro value slice pins s σ H x y v u Q I rx ry h hs
  obtain ⟨p, xs, i, z, hx, hy, hq, he, q⟩ := h
  rcases hq with hq | hq
  · exact ix_list value slice pins s σ H x y v u Q I rx ry ⟨p, xs, i, z, hx, hy, hq, he, q⟩ hs
  · exact ix_tup value slice pins s σ H x y v u Q I rx ry ⟨p, xs, i, z, hx, hy, hq, he, q⟩ hs
end
section
variable {X : Cx} {CX : CXT} {C f : Addr} {n k : Nat} {fd : FuncData} {ps : List Str} {sp : Sp} {E : L2.St → XK} {a b e : Expr} {es : List Expr} {ta tb te : TE} {t : TA} {x : Str} {pos p sp_ : Pos}
/-- a call in a deeper place, what is raised told at the slots -/
theorem run_inS {A : Around} {pins : List (Addr × Obj)} {σ : L2.St} {H : Hp} {s : Shared} {us : List Value} {vs : List V} {Q : VK} {E : XK} (F : FnOk X.prog X.w X.K X.mg X.base CX n f fd ps sp) (hr : Room n A) (e0 : Env0 X.prog X.w X.K X.mg X.base A X.stack s H) (hb : Binds X.K fd ps []) (hx : PassesAt CX X σ E)
    (I : Inv X pins σ H s) (r : Vals vs us) (h : sp vs H Q E) : wpAny (model X.prog X.w) A (call (.ref f) us) (EP X pins σ Q) X.xe s := by
  have hl : us.length = ps.length := by rw [← r.length]; exact F.len _ _ _ _ h
  refine wpAny_call (codeAny_mono (F.run A X.stack s H ⟨us, []⟩ us vs Q E hr e0 (by
    have := hb s us I.kIn (by simpa using hl)
    simpa using this) r h) fun r s' hq => ?_)
  cases r with
  | error e => exact hx pins H s e s' I hq
  | ok fl =>
    cases fl with
    | ret w => exact I.after hq
    | next => exact False.elim hq
    | brk => exact False.elim hq
    | cont => exact False.elim hq
theorem run_inR {A : Around} {pins : List (Addr × Obj)} {σ : L2.St} {H : Hp} {s : Shared} {us : List Value} {vs : List V} {Q : VK} {E : XK} (F : FnR X.prog X.w X.K X.mg X.base CX n f sp) (hr : Room n A) (e0 : Env0 X.prog X.w X.K X.mg X.base A X.stack s H) (hx : PassesAt CX X σ E)
    (I : Inv X pins σ H s) (r : Vals vs us) (h : sp vs H Q E) : codeAny (model X.prog X.w) A (.call (.ref f) ⟨us, []⟩) (fun r s' => match r with | .ok (.ret v) => EP X pins σ Q v s' | .ok _ => False | .error e => X.xe e s') s := by
  refine codeAny_mono (F A X.stack s H us vs Q E hr e0 r h) fun r s' hq => ?_
  cases r with
  | error e => exact hx pins H s e s' I hq
  | ok fl =>
    cases fl with
    | ret w => exact I.after hq
    | next => exact False.elim hq
    | brk => exact False.elim hq
    | cont => exact False.elim hq
def tIxOwn (C : Addr) (sp : Sp) (E : L2.St → XK) (ta tb : TE) : TE := fun σ H Q => ta σ H fun x H1 => tb σ H1 fun y H2 => ∃ a dx fs, x = .ref a ∧ H2 a = some (.ins C dx fs) ∧ sp [x, y] H2 Q (E σ)
/-- x[i] by an own __getitem__ -/
theorem pe_ixOwn (F : FnOk X.prog X.w X.K X.mg X.base CX n f fd ps sp) (hr : Room (n + 1) X.A) (hs : PySem.W.findIn X.K (.ref C) "__getitem__" = some (some (.ref f))) (hf : PySem.W.fnIn X.K f = true) (hfn : PySem.W.isFn X.K (.ref f) = true) (hb : Binds X.K fd ps []) (hx : ∀ σ, PassesAt CX X σ (E σ))
    (ha : PE X a ta) (hb' : PE X b tb) (hsl : ∀ v i, subscripted b true v i = runValue (.builtin "lifetime.subscript" ⟨[v, i], []⟩) := by intro _ _; with_unfolding_all rfl) : PE X (.Subscript a b pos) (tIxOwn C sp E ta tb) := by
  refine ⟨fun pins s σ H Q I h => ?_⟩
  refine Subscript_ (binT ha hb' I h fun v u s2 x y H2 I2 rx ry q => ?_)
  obtain ⟨p, dx, fs, rfl, hp, q⟩ := q
  cases (show v = Value.ref p from rx)
  obtain ⟨mA, J, _⟩ := ins_get I2.hok hp
  obtain ⟨od, J, _⟩ := J.look
  obtain ⟨m, hF⟩ := I2.fr
  refine PySem.W.sub_K hF I2.ok.mod.kin J hs hf hfn ?_ (hsl _ _)
  exact run_inS (us := [.ref p, u]) (vs := [.ref p, y]) F hr.in1 I2.env0.in1 hb (hx σ) I2 (.cons rfl (.cons ry .nil)) q
/-- len(x) by an own __len__ -/
theorem call_lenOwn {E : XK} (F : FnOk X.prog X.w X.K X.mg X.base CX n f fd ps sp) (hr : Room (n + 1) X.A) (hs : PySem.W.findIn X.K (.ref C) "__len__" = some (some (.ref f))) (hfn : PySem.W.isFn X.K (.ref f) = true) (hb : Binds X.K fd ps []) (hx : Passes CX X E) :
    CallR X (.builtin "len") (fun xs H Q => ∃ a dx fs, xs = [.ref a] ∧ H a = some (.ins C dx fs) ∧ sp xs H (fun z H' => ∃ n : Nat, z = .int n ∧ n ≤ 1000000 ∧ Q (.int n) H') E) := by
  intro pins s σ H xs us Q I r h
  obtain ⟨p, dx, fs, rfl, hp, q⟩ := h
  obtain ⟨u, rfl, rx⟩ := vals1 r
  cases (show u = Value.ref p from rx)
  obtain ⟨mA, J, _⟩ := ins_get I.hok hp
  obtain ⟨od, J, _⟩ := J.look
  obtain ⟨m, hF⟩ := I.fr
  refine PySem.W.len_K hF I.ok.mod.kin J hs hfn ?_
  refine wpAny_mono (run_inS (us := [.ref p]) (vs := [.ref p]) F hr.in1 I.env0.in1 hb (fun pins H s e s' I c => hx pins σ H s e s' I c) I (.cons rfl .nil) q) (fun w s' z => ?_) fun _ _ x => x
  obtain ⟨z', H', I', rz, k, ez, hk, qz⟩ := z
  subst ez
  obtain ⟨t, rfl⟩ := rz
  exact ⟨⟨by omega, by omega⟩, .int k, H', I'.tok _, ⟨_, rfl⟩, qz⟩
/-- the spec of a def with a starred last parameter, as it is called -/
def spStar (m : Nat) (sp : Sp) : Sp := fun vs H Q E => ∃ ws rest, vs = ws ++ rest ∧ ws.length = m ∧ rest.length ≤ sizeLine ∧ ∀ p, H p = Option.none → sp (ws ++ [V.ref p]) (upd H p (.tup rest)) Q E
theorem star1 {sp : Sp} {a : V} {rest : List V} {H : Hp} {Q : VK} {E : XK} (hl : rest.length ≤ sizeLine) (h : ∀ p, H p = Option.none → sp [a, .ref p] (upd H p (.tup rest)) Q E) : spStar 1 sp (a :: rest) H Q E := ⟨[a], rest, rfl, rfl, hl, h⟩
def tMakeRS (C : Addr) (sp : Sp) (E : L2.St → XK) (t : TA) : TE := fun σ H Q => t σ H fun vs H1 => ∀ x dx, H1 x = Option.none → H1 dx = Option.none → dx ≠ x →
  sp (V.ref x :: vs) (upd (upd H1 dx (.own x)) x (.ins C dx [])) (fun v H2 => v = .non ∧ Q (.ref x) H2) (E σ)
theorem run_makeRS {pins : List (Addr × Obj)} {σ : L2.St} {H : Hp} {s : Shared} {Q : VK} {us : List Value} {vs : List V} {E : XK} (M : Mk X.K C f) (F : FnR X.prog X.w X.K X.mg X.base CX k f sp) (hr : Room (k + 1) X.A) (hx : PassesAt CX X σ E) (I : Inv X pins σ H s) (r : Vals vs us)
    (h : ∀ x dx, H x = Option.none → H dx = Option.none → dx ≠ x → sp (V.ref x :: vs) (upd (upd H dx (.own x)) x (.ins C dx [])) (fun v H2 => v = .non ∧ Q (.ref x) H2) E) :
    wpAny (model X.prog X.w) X.A (call (.ref C) us) (EP X pins σ Q) X.xe s := by
  have hq := h (s.heap.objs.size + 1) s.heap.objs.size (I.hok.fresh (Nat.le_succ _)) (I.hok.fresh (Nat.le_refl _)) (Nat.ne_of_lt (Nat.lt_succ_self _))
  have I2 := Inv.made (C := C) I
  have r2 : Vals (V.ref (s.heap.objs.size + 1) :: vs) (Value.ref (s.heap.objs.size + 1) :: us) := .cons rfl r
  refine wpAny_call (make_map (f := f) I.kIn M.makes M.init (beq_iff_eq.mp M.fn) (codeAny_mono (F _ X.stack _ _ (Value.ref (s.heap.objs.size + 1) :: us) _ _ E (hr.make C us []) (I2.env0.make C us []) r2 hq) fun r s' hq' => ?_))
  cases r with
  | error e => exact hx pins _ _ e s' I2 hq'
  | ok fl =>
    cases fl with
    | ret u =>
      obtain ⟨v, H', I3, rv, ev, q3⟩ := I2.after hq'
      subst ev
      exact ⟨rv, ⟨V.ref (s.heap.objs.size + 1), H', I3, rfl, q3⟩⟩
    | next => exact False.elim hq'
    | brk => exact False.elim hq'
    | cont => exact False.elim hq'
/-- C(e, ..) -/
theorem pe_makeRS (M : Mk X.K C f) (F : FnR X.prog X.w X.K X.mg X.base CX k f sp) (hr : Room (k + 1) X.A) (hg : Gl X x) (hm : X.mg x = some (.ref C)) (hx : ∀ σ, PassesAt CX X σ (E σ)) (ha : PA X (e :: es) t) (hdb : (x == ("__debug__" : Str)) = false := by decide)
    (he : starEach (e :: es) X.env = (false, eval e X.env) :: starEach es X.env := by rfl) (hpl : (backTo pos (starEach es X.env)).any (·.1) = false := by rfl) : PE X (.Call (.Name x p) (e :: es) [] pos) (tMakeRS C sp E t) := by
  refine ⟨fun pins s σ H Q I h => ?_⟩
  refine wpAny_Call_Name_kw (ld_glob I hg hm ?_ hdb)
  refine PySem.W.callWith_K (h₀ := X.base) I.ok.mod.kin M.kp (thn (ha.run pos pins s σ H _ I h) fun us s1 ⟨vs, H1, I1, r, q⟩ => ⟨I1.kIn, ?_⟩) he hpl
  exact run_makeRS M F hr (hx σ) I1 r q
/-- C() -/
theorem pe_makeRS0 (M : Mk X.K C f) (F : FnR X.prog X.w X.K X.mg X.base CX k f sp) (hr : Room (k + 1) X.A) (hg : Gl X x) (hm : X.mg x = some (.ref C)) (hx : ∀ σ, PassesAt CX X σ (E σ)) (hdb : (x == ("__debug__" : Str)) = false := by decide) :
    PE X (.Call (.Name x p) [] [] pos) (tMakeRS C sp E (fun _ H Q => Q [] H)) := by
  refine ⟨fun pins s σ H Q I h => ?_⟩
  refine wpAny_Call_Name_kw (ld_glob I hg hm ?_ hdb)
  refine PySem.W.callWith_K0 I.kIn M.kp ?_
  exact run_makeRS (us := []) M F hr (hx σ) I .nil h
/-- C(*y) -/
def tMakeStar (K : PySem.W.Frag) (C : Addr) (sp : Sp) (E : L2.St → XK) (te : TE) : TE := fun σ H Q => te σ H fun y H1 => ∃ a xs, y = V.ref a ∧ (SqT K H1 a xs ∨ SqL K H1 a xs) ∧ ∀ x dx, H1 x = Option.none → H1 dx = Option.none → dx ≠ x →
  sp (V.ref x :: xs) (upd (upd H1 dx (.own x)) x (.ins C dx [])) (fun v H2 => v = .non ∧ Q (.ref x) H2) (E σ)
theorem pe_makeStar (M : Mk X.K C f) (F : FnR X.prog X.w X.K X.mg X.base CX k f sp) (hr : Room (k + 1) X.A) (hg : Gl X x) (hm : X.mg x = some (.ref C)) (hx : ∀ σ, PassesAt CX X σ (E σ)) (he : PE X e te) (hdb : (x == ("__debug__" : Str)) = false := by decide)
    (hst : starEach [.Starred e sp_] X.env = [(true, eval e X.env)] := by rfl) : PE X (.Call (.Name x p) [.Starred e sp_] [] pos) (tMakeStar X.K C sp E te) := by
  refine ⟨fun pins s σ H Q I h => ?_⟩
  refine wpAny_Call_Name_kw (ld_glob I hg hm ?_ hdb)
  refine PySem.W.callWith_S (h₀ := X.base) I.ok.mod.kin M.kp (thn (he.run pins s σ H _ I h) fun v s1 ⟨y, H1, I1, ry, a, xs, ey, hxs, q⟩ => ?_) hst
  subst ey
  obtain rfl : v = Value.ref a := ry
  exact star_any I1 hxs fun us s2 I2 rv => ⟨I2.kIn, run_makeRS M F hr (hx σ) I2 rv q⟩
end
section
variable {P : Program} {w : World} {K : PySem.W.Frag} {mg : Str → Option Value} {base : Heap}
/-- a def whose last parameter is starred -/
theorem okStar {x qual : Str} {st : Stmt} {f : Addr} {fd : FuncData} {N ps : List Str} {pv : Str} {k : Nat} {sp : Sp} (F : L2.Fun K x qual st f fd) (S : FnScope N (ps ++ [pv]) (defScope st))
    (hb : ∀ (kV doc pm : Value) (an : Option Addr) (cdv ct : Value) (us rest : List Value), us.length = ps.length → bindArgs (PySem.W.fnOf x qual (defArgs st) (defBody st) (defScope st) .none kV doc pm an cdv ct) ⟨us ++ rest, []⟩ = (newTuple rest >>= fun t => pure (ps.zip us ++ [(pv, t)])))
    (hbody : ∀ (cdv : Value) (A : Around) (outer : List Env) (s : Shared) (H : Hp) (vs : List V) (Q : VK) (E : XK), Room k (A.deeper (envOfC qual (defScope st) s.heap.objs.size f cdv)) → sp vs H Q E →
      ∃ t, PSs (cxOf (L2.CX P w) P w K mg base N qual (defScope st) f cdv A outer s H E) (defBody st) t ∧ t { nx := fun _ H' => Q .non H', rt := Q } (start N vs) H) : FnR P w K mg base (L2.CX P w) (k + 1) f (spStar ps.length sp) := by
  obtain ⟨oc, od, kV, doc, pm, an, cdv, ct, osl, rfl, lk, hcd⟩ := F.ex
  exact fn_star lk hcd S cxUp (hb kV doc pm an cdv ct) fun A outer s H vs Q E hr hsp => hbody cdv A outer s H vs Q E hr hsp
end
end Wx

namespace Wx
open PySem PySem.Spec PyProof.Rows L2 NdefX RZ StX
section
variable {X : Cx}
theorem lc_coreU {E : L2.St → XK} {pins : List (Addr × Obj)} {s : Shared} {σ : L2.St} {H : Hp} {Q : VK} {elt tg iter : Expr} {ifs : List Expr} {scope : Scope} {own : List (Str × Nat)} {pos pos' : Pos} {wi : TI} {g : TG} {tt : TT} {te : XK → TE} {Qf : Value → Shared → Prop} {us_ : Value → Sem Unit}
    (hc : X.calm = true) (hN : X.N.Nodup) (I : Inv X pins σ H s) (hi : PI X tg iter wi) (ok : BlkOk X.N X.env.scope scope own)
    (hg : ∀ (s : Shared) (H : Hp) (C : Addr) (cl : List (Str × Addr)) (fp : List Addr), PG (X.blk s H scope (compEnvC scope cl C X.env) fp) tg g) (ht : ∀ (s : Shared) (H : Hp) (C : Addr) (cl : List (Str × Addr)) (fp : List Addr), PTs (X.blk s H scope (compEnvC scope cl C X.env) fp) ifs tt)
    (air : Air X σ (E σ)) (he : ∀ (s : Shared) (H : Hp) (C : Addr) (cl : List (Str × Addr)) (fp : List Addr) (xe : Value → Shared → Prop) (E1 : XK), (∀ σ1, Air ((X.blk s H scope (compEnvC scope cl C X.env) fp).wish xe) σ1 E1) → PE ((X.blk s H scope (compEnvC scope cl C X.env) fp).wish xe) elt (te E1)) (hs : ∀ x, foldedSetIterable iter X.env x = pure x)
    (h : tLc wi g tt (te (E σ)) (own.map (·.2)) σ H Q)
    (hRR : ∀ D C s' m H', Inv X pins σ H' s' → Q (.ref D) H' → s'.heap.Ns C m → FpOk X pins H' C → compPost (model X.prog X.w) X.A X.xe (some us_) Qf (.ref D) C (.ok .next) s') :
    wpAny (model X.prog X.w) X.A (comprehension (.ListComp elt [⟨tg, iter, ifs, 0⟩] scope pos) scope X.env pos' (newList []) false (eval iter X.env) (some us_)) Qf X.xe s := by
  have hfree : ∀ y ∈ scope.names, y.2 = .free → ∃ c, X.env.cells.lookup y.1 = some c := fun y hy e => by
    rcases ok.free y hy e with k | k
    · exact I.ok.has _ (.inl k)
    · exact I.ok.has _ (.inr k)
  refine comprehension_freeX (use := some us_) rfl hs (closure_ok hfree) ok.kind (fun y hy e => by rw [ok.uniq y hy, e])
    (thn (hi.run pins s σ H _ I h) fun xv s1 hx => thn hx fun itv s2 h2 => ?_)
  obtain ⟨it, fp, tn, J, H2, e, I2, T, st2, f2, q⟩ := h2
  subst e
  refine wpAny_newObj_type (newEnv_comp ?_) (by show 0 ≤ sizeLine; decide)
  generalize hD : s2.heap.objs.size = D
  have hDn : H2 D = none := I2.hok.fresh (Nat.le_of_eq hD)
  obtain ⟨W, ⟨m0, w0⟩, turn⟩ := q D hDn
  -- the new list
  generalize hs3 : ({ s2 with heap := s2.heap.push { cls := .type "list", data := .seq ([] : List Value).toArray } } : Shared) = s3
  have I3 : Inv X pins σ (upd H2 D (.lst [])) s3 := by
    rw [← hs3]
    refine I2.laid (t' := s2.toks) (fun b o e => Heap.get?_push_of_some _ e) (Nat.le_of_eq hD) ⟨Nat.zero_le _, [], 0, .nil, ?_⟩
    rw [← hD]
    exact Heap.get?_push_size _ rfl
  have h3 : s3.heap = s2.heap.push { cls := .type "list", data := .seq ([] : List Value).toArray } := by rw [← hs3]
  have sz : ∀ b ∈ fp, b < s2.heap.objs.size := fun b hb => by
    obtain ⟨o, e, _⟩ := T.obj _ _ st2 b hb
    exact Heap.lt_size e
  have f3 : ∀ b ∈ fp, FpOk X pins (upd H2 D (.lst [])) b ∧ b < s3.heap.objs.size := fun b hb => by
    have hlt := sz b hb
    refine ⟨⟨?_, (f2 b hb).2⟩, by rw [h3, Heap.size_push]; exact Nat.lt_succ_of_lt hlt⟩
    rw [upd_ne (by rw [← hD]; exact Nat.ne_of_lt hlt)]
    exact (f2 b hb).1
  have st3 : tn 0 s3.heap := T.keep _ _ _ st2 fun b _ o e => by rw [h3]; exact Heap.get?_push_of_some _ e
  have I4 := block_start I3 ok hN f3
  have pg := hg s3 (upd H2 D (.lst [])) s3.heap.objs.size (cellsFrom (s3.heap.objs.size + 1) scope.names (cloFrom X.env.cells scope.names [])) fp
  have pt := ht s3 (upd H2 D (.lst [])) s3.heap.objs.size (cellsFrom (s3.heap.objs.size + 1) scope.names (cloFrom X.env.cells scope.names [])) fp
  have pe := he s3 (upd H2 D (.lst [])) s3.heap.objs.size (cellsFrom (s3.heap.objs.size + 1) scope.names (cloFrom X.env.cells scope.names [])) fp
  have cF : (compEnvC scope (cellsFrom (s3.heap.objs.size + 1) scope.names (cloFrom X.env.cells scope.names [])) s3.heap.objs.size X.env).frame = X.env.frame := rfl
  show codeAny _ _ (.compStart (.ListComp elt [⟨tg, iter, ifs, 0⟩] scope pos) 0 (.ref it) (.ref D) (compEnvC scope (cellsFrom (s3.heap.objs.size + 1) scope.names (cloFrom X.env.cells scope.names [])) s3.heap.objs.size X.env)) (postX (model X.prog X.w) X.A X.xe (some us_) Qf (.ref D) (compEnvC scope (cellsFrom (s3.heap.objs.size + 1) scope.names (cloFrom X.env.cells scope.names [])) s3.heap.objs.size X.env)) { s3 with heap := pushCells (s3.heap.push { cls := .type "dict", data := .dict #[] }) scope.names }
  have nfp : ∀ b ∈ fp, (upd H2 D (.lst [])) b = none := fun b hb => (f3 b hb).1.1
  generalize hce : compEnvC scope (cellsFrom (s3.heap.objs.size + 1) scope.names (cloFrom X.env.cells scope.names [])) s3.heap.objs.size X.env = ce at I4 pg pt pe cF ⊢
  have cL : ce.locals = s3.heap.objs.size := by subst hce; rfl
  generalize hH3 : upd H2 D (.lst []) = H3 at I3 I4 pg pt pe w0 nfp f3
  generalize hs4 : ({ s3 with heap := pushCells (s3.heap.push { cls := .type "dict", data := .dict #[] }) scope.names } : Shared) = s4 at I4 ⊢
  have st4 : tn 0 s4.heap := T.keep _ _ _ st3 fun b _ o e => by rw [← hs4]; exact pushCells_keeps _ _ _ _ (Heap.get?_push_of_some _ e)
  have stat : ∀ {σ' : L2.St} {H' : Hp} {s' : Shared}, Inv (X.blk s3 H3 scope ce fp) [] σ' H' s' → (∀ b ∈ fp, H' b = none) → ∀ b ∈ fp, FpOk (X.blk s3 H3 scope ce fp) [] H' b := fun {σ' H' s'} I' hn b hb =>
    ⟨hn b hb, (I'.ok.exf b hb).1, I'.ok.exfs b hb, .inl hb, fun x c e => (I'.ok.exf b hb).2 x c e, fun p hp => absurd (show p ∈ ([] : List (Addr × Obj)) ++ [] from hp) (by simp)⟩
  have loop : codeAny (model X.prog X.w) X.A (.compLoop (.ListComp elt [⟨tg, iter, ifs, 0⟩] scope pos) 0 (.ref it) (.ref D) ce) (postX (model X.prog X.w) X.A X.xe (some us_) Qf (.ref D) ce) s4 := by
    refine compLoop_any (fun n s' => ∃ i H', Inv (X.blk s3 H3 scope ce fp) [] (wipe σ (own.map (·.2))) H' s' ∧ tn i s'.heap ∧ (∀ b ∈ fp, H' b = none) ∧ W i n H') ?_ m0 ⟨0, H3, I4, st4, nfp, w0⟩
    rintro n s5 ⟨i, H5, I5, st5, n5, w5⟩
    rcases turn i n H5 w5 with ⟨stop, qq⟩ | ⟨go, Nx, hNx, step⟩
    · have td := T.done (X.blk s3 H3 scope ce fp) rfl rfl rfl hc i [] s5 _ H5 (fun _ _ => False) I5 (stat I5 n5) st5 stop
      refine thnF td fun r s6 ⟨hr, I6⟩ => ?_
      subst hr
      -- back in the def's context
      have I7 : Inv X pins σ H5 s6 := I3.call' (ch := fp) I6.os I6.base I6.hok I6.bare fun b hb => ⟨(f3 b hb).1.2.2.2.1, (f3 b hb).1.2.1, (f3 b hb).1.2.2.2.2.1, (f3 b hb).1.2.2.2.2.2⟩
      have nC : H5 s3.heap.objs.size = none := by
        have z : H5 ce.locals = none := I6.free
        rw [cL] at z
        exact z
      obtain ⟨m, hn, _⟩ := I6.loc
      have hn : s6.heap.Ns ce.locals m := hn
      rw [cL] at hn
      have hR := hRR D s3.heap.objs.size s6 m H5 I7 qq hn (I3.fpOk (Nat.le_refl _) nC)
      rw [← cL] at hR
      exact hR
    · have ti := T.item (X.blk s3 H3 scope ce fp) rfl rfl rfl hc i [] s5 _ H5 (fun _ _ => False) I5 (stat I5 n5) st5 go
      refine thnF ti fun r s6 ⟨u, hr, h6⟩ => ?_
      subst hr
      refine thnF h6 fun _ s7 ⟨x, H7, I7, r7, y7, st7, n7⟩ => ?_
      have I7' := I7.pinned (stat I7 n7) (T.obj _ _ st7)
      refine thnF (pg.run _ s7 _ H7 x u _ I7' r7 (step x H7 y7)) fun _ s8 ⟨σ8, H8, I8, hw8, q8⟩ => ?_
      refine thnF (pt.run _ s8 σ8 H8 _ I8 q8) fun b s9 ⟨H9, I9, q9⟩ => ?_
      -- the turn's end
      have fin : ∀ {s' : Shared} {H' : Hp}, Inv (X.blk s3 H3 scope ce fp) ([] ++ pinsAt fp s7.heap) σ8 H' s' → Nx H' → ∃ m, m < n ∧ ∃ i H', Inv (X.blk s3 H3 scope ce fp) [] (wipe σ (own.map (·.2))) H' s' ∧ tn i s'.heap ∧ (∀ b ∈ fp, H' b = none) ∧ W i m H' := fun {s' H'} I' nx => by
        obtain ⟨m', hm, w'⟩ := hNx H' nx
        have pin' : ∀ b ∈ fp, ∀ o, s7.heap.get? b = some o → s'.heap.get? b = some o ∧ H' b = none := fun b hb o e =>
          let z := I'.pin (b, o) (List.mem_append_right _ (List.mem_append_right _ (mem_pinsAt hb e)))
          ⟨z.1, z.2.1⟩
        have hl : (wipe σ (own.map (·.2))).length = σ8.length := by rw [← hw8, wipe_length]
        refine ⟨m', hm, i + 1, H', (I'.unpinned (pins := [])).weak hl (fun j v e => ?_), T.keep _ _ _ st7 fun b hb o e => (pin' b hb o e).1, fun b hb => ?_, w'⟩
        · rw [← hw8] at e
          exact (wipe_some e).1
        · obtain ⟨o, e, _⟩ := T.obj _ _ st7 b hb
          exact (pin' b hb o e).2
      cases b with
      | false =>
        simp only [Bool.false_eq_true, if_false] at q9 ⊢
        exact fin I9 q9
      | true =>
        simp only [if_true] at q9 ⊢
        obtain ⟨ev, outer, L, hstk, hfr, hXf, kx⟩ := air.ex
        refine wpAny_mono ((pe (fun u s' => ∃ H' sI, Inv X pins σ H' sI ∧ (∃ m, sI.heap.Ns ce.locals m) ∧ H' ce.locals = none ∧ Aloft X.stack L sI H' (E σ) u s') (E σ) (fun σ1 => ⟨ev, outer, L, hstk, hfr, cF.trans hXf, fun pins1 H1 sI u s' I1 al => ?_⟩)).run _ s9 σ8 H9 _ (I9.wish _) q9) (fun z s10 ⟨yv, H10, I10, r10, acc, hD10, hz10, nx⟩ => ?_) (fun u s10 hx => ?_)
        · have I1' := I1.unwish
          obtain ⟨m, hn, _⟩ := I1'.loc
          exact ⟨H1, sI, I3.call' (ch := fp) I1'.os I1'.base I1'.hok I1'.bare fun b hb => ⟨(f3 b hb).1.2.2.2.1, (f3 b hb).1.2.1, (f3 b hb).1.2.2.2.2.1, (f3 b hb).1.2.2.2.2.2⟩, ⟨m, hn⟩, I1'.free, al⟩
        · exact app_ok (X := X.blk s3 H3 scope ce fp) I10.unwish hD10 hz10 r10 fun s11 I11 => fin I11 nx
        · obtain ⟨H', sI, JX, ⟨m, hn⟩, nC, a, B, cls, d, rfl, nb, up, sky, na, os, ag, w⟩ := hx
          have fpC : FpOk X pins H' ce.locals := I3.fpOk (by rw [cL]; exact Nat.le_refl _) nC
          obtain ⟨f0, f1, f2, f3', f4, f5⟩ := fpC
          have frA : X.A.frames = some (ev :: outer) := I3.ok.frames.trans (congrArg some hstk)
          have cNot : ce.locals ∉ frs X.stack := fun hm => by
            rcases List.mem_cons.mp (I3.stkSub _ hm) with z | z
            · exact f1 z
            · exact f2 z
          show wpAny _ X.A (noteFrame (Value.ref a) ce) _ _ _
          rw [note_same (e2 := ev) (by rw [cF, hXf, hfr])]
          -- noted by the frame
          have held : ∀ {Q : Unit → Shared → Prop} {E' : Value → Shared → Prop}, (∀ h1, HandSPX.HeldZ B (ev :: outer) a (Zc cls d) L h1 → s10.heap.UpToSlots h1 → Q () { s10 with heap := h1 }) → wpAny (model X.prog X.w) X.A (noteFrame (.ref a) ev) Q E' s10 := fun {Q E'} k => by
            rw [hstk] at sky
            rcases sky with ⟨hB, hn, hl, oe, vs, he, hz, hd, h1⟩ | fl | hh
            · exact HandSPX.look_newZ Zc.steady frA hl hfr he hB hn hd h1 hz k
            · exact HandSPX.looks_onZ Zc.steady frA hfr fl k
            · exact HandSPX.againZ hfr hh.2.2.2 (k s10.heap hh (Heap.UpToSlots.refl _))
          refine held fun h1 hh1 up1 => ?_
          have upH : sI.heap.UpToSlots h1 := up.trans up1
          refine ⟨m, upH.ns hn, fun h2 sb2 => ?_⟩
          -- the ground without the block's names
          obtain ⟨B', b1, b2⟩ := restrict B fun b => decide (b ≠ ce.locals)
          obtain ⟨G, g1, g2⟩ := restrict sI.heap fun b => decide (b ≠ ce.locals)
          have bB : ∀ b o, B'.get? b = some o → b ≠ ce.locals ∧ B.get? b = some o := fun b o e => by
            by_cases q : b = ce.locals
            · rw [b2 b (by simp [q])] at e
              cases e
            · exact ⟨q, by rw [b1 b (by simp [q])] at e; exact e⟩
          have gG : ∀ b o, G.get? b = some o → b ≠ ce.locals ∧ sI.heap.get? b = some o := fun b o e => by
            by_cases q : b = ce.locals
            · rw [g2 b (by simp [q])] at e
              cases e
            · exact ⟨q, by rw [g1 b (by simp [q])] at e; exact e⟩
          obtain ⟨k1, k2, k3, oe, vs, T1, oT1, ts, he1, hz1, hd1, hv1, hbT, hTa, hT1, hdT, hfl⟩ := hh1
          obtain ⟨oC, es, ep, hoC, hdC, _⟩ := hn
          have BC : B.get? ce.locals = some oC := nb _ _ hoC cNot
          have aC : a ≠ ce.locals := fun z => by rw [z] at k2; rw [k2] at BC; cases BC
          have TC : T1 ≠ ce.locals := fun z => by rw [z] at hbT; rw [hbT] at BC; cases BC
          have sb : ∀ b, b ≠ ce.locals → h2.get? b = h1.get? b := sb2.2
          have B'a : B'.get? a = none := by rw [b1 a (by simp [aC])]; exact k2
          have B'T : B'.get? T1 = none := by rw [b1 T1 (by simp [TC])]; exact hbT
          have fF : h2.FunFrames B' (ev :: outer) := funFrames_step k3 (fun b q => by
              cases z : B'.get? b with
              | none => rfl
              | some o =>
                rw [(bB b o z).2] at q
                cases q) fun b o q e => (sb b (fun z => by rw [z, BC] at q; cases q)).trans e
          have kB : B'.StaysIn h2 := fun b o e => (sb b (bB b o e).1).trans (k1 b o (bB b o e).2)
          have he2 : h2.get? a = some oe := (sb a aC).trans he1
          have hh2 : HandSPX.HeldZ B' (ev :: outer) a (Zc cls d) L h2 := ⟨kB, B'a, fF, oe, vs, T1, oT1, ts, he2, hz1, hd1, hv1, B'T, hTa, (sb T1 TC).trans hT1, hdT, hfl⟩
          unfold PySem.passOn
          refine wpAny_bind (wpAny_field he2 hd1 hv1 ?_)
          rw [if_neg (show ¬ ((Value.ref T1 == Value.none) = true) by simp)]
          have fin2 : wpAny (model X.prog X.w) X.A (setFlight (.ref a) ce.frame) (fun _ s4 => wpAny (model X.prog X.w) X.A (throw (.ref a) : Sem Value) (fun _ _ => False) X.xe s4) X.xe { s10 with heap := h2 } := by
            rw [cF, hXf]
            refine HandSPX.setFlight_onZ hh2 fun h4 hh4 up4 => wpAny_throw ?_
            refine kx pins H' { sI with heap := G } _ _ (JX.turned (t' := sI.toks) (fun b o hb e => (g1 b (by simp [hb])).trans e) f0 f1 f3' f4 f5) ⟨a, B', cls, d, rfl, fun b o e hb => ?_, ?_, ?_, na, os, ag, w⟩
            · obtain ⟨q1, q2⟩ := gG b o e
              exact (b1 b (by simp [q1])).trans (nb b o q2 hb)
            · refine Heap.UpToSlots.trans (fun b o e nf => ?_) up4
              obtain ⟨q1, q2⟩ := gG b o e
              obtain ⟨sl, q3⟩ := upH b o q2 nf
              exact ⟨sl, (sb b q1).trans q3⟩
            · rw [hstk]
              exact .inr (.inr hh4)
          first
            | exact wpAny_bind (wpAny_pure (wpAny_bind fin2))
            | exact wpAny_bind fin2
  exact codeAny_compStart_list loop (T.self X.A 0 _ _ _ st4 loop)
/-- name = [..], what the element lets out is let out -/
theorem ps_setLcX {E : L2.St → XK} {i : Nat} {y : Str} {py : Pos} {elt tg iter : Expr} {ifs : List Expr} {scope : Scope} {own : List (Str × Nat)} {pos spos : Pos} {wi : TI} {g : TG} {tt : TT} {te : XK → TE} (air : ∀ σ, Air X σ (E σ)) (hc : X.calm = true) (hN : X.N.Nodup) (hy : X.N[i]? = some y) (hyl : X.env.scope.names.lookup y = some .local)
    (hsw : swapsWith (.ListComp elt [⟨tg, iter, ifs, 0⟩] scope pos) (some (.Name y py)) spos.line X.env = pure true) (hi : PI X tg iter wi) (ok : BlkOk X.N X.env.scope scope own)
    (hg : ∀ (s : Shared) (H : Hp) (C : Addr) (cl : List (Str × Addr)) (fp : List Addr), PG (X.blk s H scope (compEnvC scope cl C X.env) fp) tg g) (ht : ∀ (s : Shared) (H : Hp) (C : Addr) (cl : List (Str × Addr)) (fp : List Addr), PTs (X.blk s H scope (compEnvC scope cl C X.env) fp) ifs tt)
    (he : ∀ (s : Shared) (H : Hp) (C : Addr) (cl : List (Str × Addr)) (fp : List Addr) (xe : Value → Shared → Prop) (E1 : XK), (∀ σ1, Air ((X.blk s H scope (compEnvC scope cl C X.env) fp).wish xe) σ1 E1) → PE ((X.blk s H scope (compEnvC scope cl C X.env) fp).wish xe) elt (te E1)) (hs : ∀ x, foldedSetIterable iter X.env x = pure x := by intro _; rfl) :
    PS X (.Assign [.Name y py] (.ListComp elt [⟨tg, iter, ifs, 0⟩] scope pos) spos) (tAsg (fun σ H Q => tLc wi g tt (te (E σ)) (own.map (·.2)) σ H Q) (gName i)) := by
  refine ⟨fun pins s σ H D I h => ?_⟩
  rw [exec_Assign_Name_used _ _ _ _ hsw]
  refine wpAny_bind (wpAny_standAt (wpAny_bind ?_))
  show wpAny _ X.A (do let _ ← comprehension (.ListComp elt [⟨tg, iter, ifs, 0⟩] scope pos) scope X.env (firstIterPos [⟨tg, iter, ifs, 0⟩] pos) (newList []) false (eval iter X.env) (some (assign (.Name y py) X.env))) _ _ s
  have h : tLc wi g tt (te (E σ)) (own.map (·.2)) σ H (fun x H1 => gName i x σ H1 D.nx) := h
  refine wpAny_bind (thn (lc_coreU (Qf := fun _ s' => SP X pins D .next s') hc hN I hi ok hg ht (air σ) he hs h fun L C s' m H' I' q hn f => ?_) fun _ s' hq => wpAny_pure (wpAny_pure hq))
  show wpAny _ _ (assign (.Name y py) X.env (.ref L)) _ _ _
  refine wpAny_assign_Name (store_ok2 (v := V.ref L) I' hN hy (.inl hyl) rfl (fun s2 I2 ⟨a, sb, ha⟩ => ?_) (.inr hyl))
  obtain ⟨f0, f1, f2, f3, f4, f5⟩ := f
  have haC : C ≠ a := by
    rcases ha with z | z
    · rw [z]; exact f1
    · exact fun e => f4 y a z e.symm
  refine ⟨m, hn.sameBut sb haC, fun h3 sb3 => ?_⟩
  exact ⟨_, H', I2.turned (t' := s2.toks) (fun b o hb e => (sb3.2 b hb).trans e) f0 f1 f3 f4 f5, q⟩
end
end Wx

/-! enumerate of a tuple -/
namespace PySem
open AutoSeq1 (wpAny_loadPart')
theorem meets_enumerate_newTup (l : Addr) (items : Array Value) (n : Nat) (dct : Option Addr) (sl : Array (Option Value)) :
    Meets (Builtin.«enumerate.__new__» ⟨[.type "enumerate", .ref l], []⟩) (fun _ R s => s.heap.get? l = some { cls := .type "tuple", dict := dct, data := .seq items n, slots := sl } ∧
      R (.ok (.ret (.ref (s.heap.push { cls := .type "tuple_iterator", data := .fields #[.ref l, .int 0 0] }).objs.size)))
        { s with heap := (s.heap.push { cls := .type "tuple_iterator", data := .fields #[.ref l, .int 0 0] }).push { cls := .type "enumerate", data := .fields #[.none, .bool false, .ref s.heap.objs.size, rawInt 0, .none, .none] } }) :=
  .of_wp fun prog w A R s h => by
    obtain ⟨hp, g, d, tk, os⟩ := s; obtain ⟨hl, h⟩ := h
    have hsub := sub_enumerate
    have hL : Heap.IsTuple (Shared.heap ⟨hp, g, d, tk, os⟩) l items := ⟨_, hl, rfl, n, rfl⟩
    wp_walk using wpAny_loadPart' hl
    refine wpAny_stack_any fun st => wpAny_pure ?_
    split
    · rename_i c _ _ _ _ _
      cases (c == Value.type "enumerate")
      · wp_walk using wpAny_loadPart' hl, wpAny_pyIter_tuple hL
        exact ⟨_, rfl, h⟩
      · wp_walk using wpAny_loadPart' hl, wpAny_pyIter_tuple hL
        exact ⟨_, rfl, h⟩
    · wp_walk using wpAny_loadPart' hl, wpAny_pyIter_tuple hL
      exact ⟨_, rfl, h⟩
section
variable {prog : Program} {w : World} {A : Around} {E : Value → Shared → Prop} {s : Shared}
theorem call_enumerate_tuple {l : Addr} {items : Array Value} {Q : Value → Shared → Prop} (hL : s.heap.IsTuple l items)
    (h : ∀ h', IsEnum h' (s.heap.objs.size + 1) s.heap.objs.size 0 .none → h'.IsTupleIter s.heap.objs.size l 0 → h'.objs.size = s.heap.objs.size + 2 →
      (∀ b o, s.heap.get? b = some o → h'.get? b = some o) → Q (.ref (s.heap.objs.size + 1)) { s with heap := h' }) :
    wpAny (model prog w) A (call (.type "enumerate") [.ref l]) Q E s := by
  obtain ⟨⟨c, dct, dt, sl⟩, hl, hc, n, hd⟩ := hL
  replace hc : c = .type "tuple" := hc
  replace hd : dt = .seq items n := hd
  subst hc hd
  refine callType_new F.called_enumerate (by decide) (F.typeCall_enumerate_1 _) (F.newCall_enumerate_1 _) (fun obj => F.args_object_init_2 obj _) F.entry_enumerate_new
    (meets_enumerate_newTup l items n dct sl) ⟨hl, ?_⟩
  have hz : (s.heap.push { cls := .type "tuple_iterator", data := .fields #[.ref l, .int 0 0] }).objs.size = s.heap.objs.size + 1 := Heap.size_push ..
  show _ ∧ _
  rw [hz]
  have he : IsEnum ((s.heap.push { cls := .type "tuple_iterator", data := .fields #[.ref l, .int 0 0] }).push
      { cls := .type "enumerate", data := .fields #[.none, .bool false, .ref s.heap.objs.size, rawInt 0, .none, .none] }) (s.heap.objs.size + 1) s.heap.objs.size 0 .none := by
    have := Heap.get?_push_size (s.heap.push { cls := .type "tuple_iterator", data := .fields #[.ref l, .int 0 0] })
      (o := { cls := .type "enumerate", data := .fields #[.none, .bool false, .ref s.heap.objs.size, rawInt 0, .none, .none] }) rfl
    rw [hz] at this; exact this
  refine ⟨⟨_, he, rfl⟩, h _ he ⟨_, Heap.get?_push_of_some _ (Heap.get?_push_size _ rfl), rfl, rfl⟩ (by rw [Heap.size_push, hz]) fun b o x => Heap.get?_push_of_some _ (Heap.get?_push_of_some _ x)⟩
theorem wpAny_pyNext_enum_endT {e it l : Addr} {i : Nat} {items : Array Value} {old : Value} {c : Int} {Q : Option Value → Shared → Prop} (hh : A.handled = none)
    (he : IsEnum s.heap e it c old) (hit : s.heap.IsTupleIter it l i) (hl : s.heap.IsTuple l items) (hx : items[i]? = none)
    (hQ : ∀ h', Heap.ExtBut it s.heap h' → Q none { s with heap := h' }) : wpAny (model prog w) A (pyNext (.ref e)) Q E s := by
  have hTy : s.TypeIs (.ref e) "enumerate" := ⟨_, he, rfl⟩
  unfold pyNext
  refine wpAny_bind (wpAny_attempt (wpAny_callSpecial?_slot (name := Str.ofString "__next__") hTy F.slot_enumerate_next
    (wpAny_call_entry F.slot_enumerate_next hTy F.entry_enumerate_next ?_ (F.args_enumerate_next_1 _))))
  show wpAny _ _ (field (.ref e) 2 >>= _) _ _ _
  refine wpAny_bind (wpAny_field he rfl (x := .ref it) rfl ?_)
  refine wpAny_bind (wpAny_nextOf_tuple_end hh hit hl hx fun h' x he' hx' => ?_)
  obtain ⟨o, ho, hc⟩ := hx'
  refine wpAny_bind (wpAny_isInstance (T := "StopIteration") (b := true) ⟨o, ho, hc⟩ isSubtype_stop ?_)
  exact wpAny_pure (hQ _ he')
end
end PySem
namespace Wx
open PySem PySem.Spec PyProof.Rows L2 NdefX RZ StX
/-- the tuple at a as it stands at each turn, each item in a new pair -/
def IteT (K : PySem.W.Frag) (a : Addr) : It :=
  ⟨fun i H => ∃ (xs : List V) (x : V), SqT K H a xs ∧ xs[i]? = some x, fun i H v H' => ∃ T x, v = .ref T ∧ H T = none ∧ H' = upd H T (.tup [.int (i : Nat), x]) ∧ ∀ xs, SqT K H a xs → xs[i]? = some x, fun i H => ∃ xs : List V, SqT K H a xs ∧ xs.length ≤ i⟩
theorem turn_enumT {P : Program} {w : World} {K : PySem.W.Frag} {elts : List Expr} {kk : Nat} {tpos : Pos} (a e it : Addr) (nai : a ≠ it) (nae : a ≠ e) :
    Turn P w K (.Tuple elts kk tpos) (IteT K a) [e, it] e (fun i h => (∃ old, IsEnum h e it ((i : Nat) : Int) old) ∧ h.IsTupleIter it a i ∧ e ≠ it) where
  mem := by simp
  obj := fun i h st b hb => by
    obtain ⟨⟨old, he⟩, ⟨o, ho, hc, hd⟩, _⟩ := st
    have e' : b = e ∨ b = it := by simpa using hb
    rcases e' with z | z
    · rw [z]; exact ⟨_, he, fun v q => nomatch q⟩
    · rw [z]; exact ⟨o, ho, fun v q => by rw [hd] at q; cases q⟩
  keep := fun i h h' st k => let ⟨⟨old, he⟩, hi, hne⟩ := st; ⟨⟨old, k e (by simp) _ he⟩, hi.at fun o q => k it (by simp) o q, hne⟩
  item := by
    intro X hP hw hK hc i pins s σ H E I hf st hg
    subst hP hw hK
    obtain ⟨⟨old, he⟩, hit, hne⟩ := st
    obtain ⟨xs, x, hq, hx⟩ := hg
    obtain ⟨its, rv, p, hz⟩ := I.tuple hq
    obtain ⟨u, hu, ru⟩ := rv.get hx
    have hel : e < s.heap.objs.size := Heap.lt_size he
    have hil : it < s.heap.objs.size := by obtain ⟨_, q, _⟩ := hit; exact Heap.lt_size q
    have hpt : s.heap.IsTuple a its.toArray := p
    have hlt : i < its.toArray.size := by
      have := (List.getElem?_eq_some_iff.mp hu).1
      simpa using this
    refine wpAny_pyNext_enum_itemD (Draws.tuple (A := X.A.in1) (show X.A.in1.handled = none from I.ok.hd hc) it a nai its.toArray) he ⟨hit, hpt⟩ hlt hne (by simp [hne, Ne.symm nae]) fun x' h' tk hx' ho hit' hT hsz hk => ?_
    have ex : x' = u := by
      have z : its.toArray[i]? = some u := by simpa using hu
      rw [z] at hx'
      exact (Option.some.inj hx').symm
    subst ex
    refine ⟨_, rfl, wpAny_letOwnedTupleGo_enum (s := { s with heap := h', toks := tk + 1 }) ho fun h'' he' sb => ?_⟩
    have hT2 : h''.get? s.heap.objs.size = some { cls := .type "tuple", data := .seq #[.int i tk, x'] } := (sb.2 _ (Nat.ne_of_gt hel)).trans hT
    have new : ObjOk X.prog X.w (upd H s.heap.objs.size (.tup [.int (i : Nat), x])) h'' s.heap.objs.size (.tup [.int (i : Nat), x]) :=
      ⟨by show 2 ≤ sizeLine; decide, [.int i tk, x'], .cons ⟨_, rfl⟩ (.cons ru .nil), ⟨_, hT2, rfl, _, rfl⟩⟩
    have I1 : Inv X pins σ (upd H s.heap.objs.size (.tup [.int (i : Nat), x])) { s with heap := h'', toks := tk + 1 } :=
      I.turnedNew (ch := [e, it]) (fun b ob hb q => (sb.2 b (fun z => hb (by simp [z]))).trans (hk b ob (fun z => hb (by simp [z])) (fun z => hb (by simp [z])) q)) hf (Nat.le_refl _) new
    refine ⟨.ref s.heap.objs.size, _, I1, rfl, ⟨_, x, rfl, I.hok.fresh (Nat.le_refl _), rfl, fun ys hy => by rw [I.tuple_inj hy hq]; exact hx⟩, ⟨⟨x', ?_⟩, hit'.1.at fun o q => (sb.2 it (Ne.symm hne)).trans q, hne⟩, fun b hb => ?_⟩
    · have e1 : ((i + 1 : Nat) : Int) = (i : Int) + 1 := by omega
      rw [e1]; exact he'
    · have hb' : b < s.heap.objs.size := by
        have e' : b = e ∨ b = it := by simpa using hb
        rcases e' with z | z
        · rw [z]; exact hel
        · rw [z]; exact hil
      rw [upd_ne (Nat.ne_of_lt hb')]
      exact (hf b hb).1
  done := by
    intro X hP hw hK hc i pins s σ H E I hf st hg
    subst hP hw hK
    obtain ⟨⟨old, he⟩, hit, hne⟩ := st
    obtain ⟨xs, hq, hx⟩ := hg
    obtain ⟨its, rv, p, hz⟩ := I.tuple hq
    obtain ⟨f0, f1, f2, f3, f4, f5⟩ := hf it (by simp)
    have hl := rv.length
    exact wpAny_pyNext_enum_endT (I.ok.hd hc) he hit (show s.heap.IsTuple a its.toArray from p) (by simp; omega) fun h' eb => ⟨rfl, I.turned (t' := s.toks) (fun b o hb q => eb b o hb q) f0 f1 f3 f4 f5⟩
  self := fun A i s Q E st h => let ⟨⟨_, he⟩, _⟩ := st; wpAny_pyIter_enum he h
def iEnumT (K : PySem.W.Frag) (ta : TA) : TI := fun σ H R => ta σ H fun vs H1 => ∃ a xs, vs = [.ref a] ∧ SqT K H1 a xs ∧ R (IteT K a) H1
theorem pi_enumT {X : Cx} {e : Expr} {ta : TA} {p pos tpos : Pos} {elts : List Expr} {kk : Nat} (hg : Gl X "enumerate") (hm : X.mg "enumerate" = none) (ha : PA X [e] ta) (hs : starEach [e] X.env = [(false, eval e X.env)] := by rfl) :
    PI X (.Tuple elts kk tpos) (.Call (.Name "enumerate" p) [e] [] pos) (iEnumT X.K ta) := by
  refine ⟨fun pins s σ H R I h => ?_⟩
  refine Call_ (ld_blt I hg hm boot_enumerate (PyProof.Rows.callWith_type1 (thn (ha.run pos pins s σ H _ I h) fun us s1 ⟨vs, H1, I1, r1, q1⟩ => ?_) hs rfl))
  obtain ⟨a, xs, ex, hq, q⟩ := q1
  subst ex
  cases r1 with
  | cons r rr =>
    cases rr
    cases r
    obtain ⟨its, rv, p', hz⟩ := I1.tuple hq
    have hat : a < s1.heap.objs.size := by obtain ⟨_, z, _⟩ := id p'; exact Heap.lt_size z
    refine call_enumerate_tuple (show s1.heap.IsTuple a its.toArray from p') fun h' he hit hsz hk => wpAny_pyIter_enum he ?_
    have I2 : Inv X pins σ H1 { s1 with heap := h' } := I1.kept (t' := s1.toks) hk
    refine ⟨s1.heap.objs.size + 1, [s1.heap.objs.size + 1, s1.heap.objs.size], _, _, H1, rfl, I2, turn_enumT a (s1.heap.objs.size + 1) s1.heap.objs.size (Nat.ne_of_lt hat) (Nat.ne_of_lt (Nat.lt_succ_of_lt hat)), ⟨⟨.none, he⟩, hit, Nat.succ_ne_self _⟩, fun b hb => ?_, q⟩
    have e' : b = s1.heap.objs.size + 1 ∨ b = s1.heap.objs.size := by simpa using hb
    have hle : s1.heap.objs.size ≤ b := by
      rcases e' with z | z
      · rw [z]; exact Nat.le_add_right _ _
      · rw [z]; exact Nat.le_refl _
    exact I1.fpOk hle (I1.hok.fresh hle)
theorem walk_enumT {K : PySem.W.Frag} {a : Addr} {xs : List V} : Walk (IteT K a) xs.length (fun H => SqT K H a xs) (YPair (fun i => some (.int (i : Nat))) (fun i => xs[i]?)) := by
  refine ⟨fun i _ hi q => ⟨xs, xs[i], q, by simp [hi]⟩, fun _ q => ⟨xs, q, Nat.le_refl _⟩, fun i H v H' _ q y => ?_⟩
  obtain ⟨T, x, h1, h2, h3, h4⟩ := y
  exact ⟨T, .int (i : Nat), x, h1, h2, h3, rfl, h4 xs q⟩
end Wx

namespace Wx
open PySem PySem.Spec PyProof.Rows L2 NdefX RZ StX
/-! C.m(..) and C.m(), m a staticmethod that may raise -/
/-- C.m is a staticmethod: its record at p, its def at g -/
structure SMet (K : PySem.W.Frag) (C : Addr) (mc : Value) (m : Str) (p g : Addr) : Prop where
  at_ : PySem.W.findCls K (.ref C) mc m = some (.get (.builtin "staticmethod.__get__") (.ref p) .none (.ref C))
  rc : ∃ rest, PySem.W.recIn K p "staticmethod" = some (.ref g :: rest)
  kp : PySem.W.keepIn K (.ref g) = true
def tSMeth (C : Addr) (sp : Sp) (E : L2.St → XK) (ta : TE) (t : TA) : TE := fun σ H Q => ta σ H fun x H1 => x = .ref C ∧ t σ H1 fun vs H2 => sp vs H2 Q (E σ)
section
variable {X : Cx} {CX : CXT} {k : Nat} {C p g : Addr} {mc : Value} {fd : FuncData} {ps : List Str} {sp : Sp} {E : L2.St → XK} {o e : Expr} {es : List Expr} {m : Str} {pos apos : Pos} {ta : TE} {t : TA} {pl : Sem Bool}
theorem getsmet_ok {pins : List (Addr × Obj)} {σ : L2.St} {H : Hp} {s : Shared} {A : Around} {Q : Value × List Value → Shared → Prop} {Ex : Value → Shared → Prop} (I : Inv X pins σ H s) (r : ClX.CRead X.K C mc) (c : SMet X.K C mc m p g)
    (h : ∀ s', Inv X pins σ H s' → Q (.ref g, []) s') : wpAny (model X.prog X.w) A (getMethod (.ref C) m pl) Q Ex s := by
  refine PySem.W.method_cls I.kIn r.ga ?_
  obtain ⟨rest, hp⟩ := c.rc
  refine PySem.W.cls_bind I.kIn r.rd c.at_ ?_
  refine wpAny_call (PySem.W.sm_get (s := { s with toks := s.toks + 1 }) I.kIn hp (PySem.W.handed_on rfl ?_))
  exact h _ (I.tok _)
theorem run_fnRS {pins : List (Addr × Obj)} {σ : L2.St} {H : Hp} {s : Shared} {Q : VK} {us : List Value} {vs : List V} {E : XK} (F : FnR X.prog X.w X.K X.mg X.base CX k g sp) (hr : Room k X.A) (hx : PassesAt CX X σ E)
    (I : Inv X pins σ H s) (r : Vals vs us) (h : sp vs H Q E) : wpAny (model X.prog X.w) X.A (call (.ref g) us) (EP X pins σ Q) X.xe s := by
  refine wpAny_call (codeAny_mono (F X.A X.stack s H us vs Q E hr I.env0 r h) fun r s' hq => ?_)
  cases r with
  | error e => exact hx pins H s e s' I hq
  | ok fl =>
    cases fl with
    | ret u => exact I.after hq
    | next => exact False.elim hq
    | brk => exact False.elim hq
    | cont => exact False.elim hq
/-- C.m(..), a def -/
theorem pe_smeth (he : PE X o ta) (r : ClX.CRead X.K C mc) (c : SMet X.K C mc m p g) (F : FnOk X.prog X.w X.K X.mg X.base CX k g fd ps sp) (hr : Room k X.A) (hb : Binds X.K fd ps []) (hx : ∀ σ, PassesAt CX X σ (E σ)) (ha : PA X (e :: es) t)
    (hst : starEach (e :: es) X.env = (false, eval e X.env) :: starEach es X.env := by rfl) (hpl : (backTo pos (starEach es X.env)).any (·.1) = false := by rfl)
    (ht : eval (.Call (.Attribute o m apos) (e :: es) [] pos) X.env = (do
      let ov ← eval o X.env
      standAt apos.atName
      let (f, first) ← holding [ov] (getMethod ov m pl)
      callWith pos f first (backTo pos (starEach (e :: es) X.env)) (backToKw pos (keywordEach [] X.env))) := by rfl) :
    PE X (.Call (.Attribute o m apos) (e :: es) [] pos) (tSMeth C sp E ta t) := by
  refine ⟨fun pins s σ H Q I h => ?_⟩
  refine PySem.W.methodCall_KW (pl := pl) (thn (he.run pins s σ H _ I h) fun u s1 ⟨x, H1, I1, rx, ex, q⟩ => ?_) ht
  subst ex
  obtain rfl : u = Value.ref C := rx
  refine getsmet_ok I1 r c fun s2 I2 => ?_
  refine PySem.W.callWith_K (first := []) (h₀ := X.base) I.ok.mod.kin c.kp (thn (ha.run pos pins s2 σ H1 _ I2 q) fun us s3 ⟨vs, H2, I3, rv, q2⟩ => ⟨I3.kIn, ?_⟩) hst hpl
  exact run_fnS F hr hb (hx σ) I3 rv q2
/-- .. a def with a starred parameter -/
theorem pe_smethR (he : PE X o ta) (r : ClX.CRead X.K C mc) (c : SMet X.K C mc m p g) (F : FnR X.prog X.w X.K X.mg X.base CX k g sp) (hr : Room k X.A) (hx : ∀ σ, PassesAt CX X σ (E σ)) (ha : PA X (e :: es) t)
    (hst : starEach (e :: es) X.env = (false, eval e X.env) :: starEach es X.env := by rfl) (hpl : (backTo pos (starEach es X.env)).any (·.1) = false := by rfl)
    (ht : eval (.Call (.Attribute o m apos) (e :: es) [] pos) X.env = (do
      let ov ← eval o X.env
      standAt apos.atName
      let (f, first) ← holding [ov] (getMethod ov m pl)
      callWith pos f first (backTo pos (starEach (e :: es) X.env)) (backToKw pos (keywordEach [] X.env))) := by rfl) :
    PE X (.Call (.Attribute o m apos) (e :: es) [] pos) (tSMeth C sp E ta t) := by
  refine ⟨fun pins s σ H Q I h => ?_⟩
  refine PySem.W.methodCall_KW (pl := pl) (thn (he.run pins s σ H _ I h) fun u s1 ⟨x, H1, I1, rx, ex, q⟩ => ?_) ht
  subst ex
  obtain rfl : u = Value.ref C := rx
  refine getsmet_ok I1 r c fun s2 I2 => ?_
  refine PySem.W.callWith_K (first := []) (h₀ := X.base) I.ok.mod.kin c.kp (thn (ha.run pos pins s2 σ H1 _ I2 q) fun us s3 ⟨vs, H2, I3, rv, q2⟩ => ⟨I3.kIn, ?_⟩) hst hpl
  exact run_fnRS F hr (hx σ) I3 rv q2
/-- .. without arguments -/
theorem pe_smethR0 (he : PE X o ta) (r : ClX.CRead X.K C mc) (c : SMet X.K C mc m p g) (F : FnR X.prog X.w X.K X.mg X.base CX k g sp) (hr : Room k X.A) (hx : ∀ σ, PassesAt CX X σ (E σ))
    (ht : eval (.Call (.Attribute o m apos) [] [] pos) X.env = (do
      let ov ← eval o X.env
      standAt apos.atName
      let (f, first) ← holding [ov] (getMethod ov m pl)
      callWith pos f first (backTo pos (starEach [] X.env)) (backToKw pos (keywordEach [] X.env))) := by rfl) :
    PE X (.Call (.Attribute o m apos) [] [] pos) (tSMeth C sp E ta (fun _ H Q => Q [] H)) := by
  refine ⟨fun pins s σ H Q I h => ?_⟩
  refine PySem.W.methodCall_KW (pl := pl) (thn (he.run pins s σ H _ I h) fun u s1 ⟨x, H1, I1, rx, ex, q⟩ => ?_) ht
  subst ex
  obtain rfl : u = Value.ref C := rx
  refine getsmet_ok I1 r c fun s2 I2 => ?_
  exact PySem.W.callWith_K0 (first := []) I2.kIn c.kp (run_fnRS (us := []) F hr (hx σ) I2 .nil q)
end
end Wx

namespace Wx
open PySem PySem.Spec PyProof.Rows L2 NdefX
/-! xs[::-1] of a list -/
theorem fm_congr {α β : Type} {f g : α → Option β} : ∀ {l : List α}, (∀ x, x ∈ l → f x = g x) → l.filterMap f = l.filterMap g
  | [], _ => rfl
  | x :: l, h => by
    rw [List.filterMap_cons, List.filterMap_cons, h x List.mem_cons_self, fm_congr (l := l) fun y hy => h y (List.mem_cons_of_mem _ hy)]
theorem filterMap_rev {α : Type} : ∀ (n : Nat) (l : List α), l.length = n → (List.range n).filterMap (fun k => l[n - 1 - k]?) = l.reverse
  | 0, l, h => by
    rw [List.eq_nil_of_length_eq_zero h]
    rfl
  | n + 1, l, h => by
    obtain ⟨m, x, rfl⟩ : ∃ m x, l = m ++ [x] := by
      have hne : l ≠ [] := fun q => by rw [q] at h; cases h
      exact ⟨l.dropLast, l.getLast hne, (List.dropLast_concat_getLast hne).symm⟩
    have hm : m.length = n := by simpa using h
    rw [List.range_succ_eq_map, List.filterMap_cons, List.filterMap_map]
    have e0 : (m ++ [x])[n + 1 - 1 - 0]? = some x := by
      rw [List.getElem?_append_right (by omega)]
      have : n + 1 - 1 - 0 - m.length = 0 := by omega
      rw [this]
      rfl
    rw [e0]
    have ih := filterMap_rev n m hm
    have ec : (List.range n).filterMap ((fun k => (m ++ [x])[n + 1 - 1 - k]?) ∘ Nat.succ) = (List.range n).filterMap (fun k => m[n - 1 - k]?) := by
      refine fm_congr fun k hk => ?_
      have hk := List.mem_range.mp hk
      show (m ++ [x])[n + 1 - 1 - (k + 1)]? = _
      rw [List.getElem?_append_left (by omega)]
      congr 1
      omega
    rw [ec, ih, List.reverse_append]
    rfl
theorem slicePick_rev (its : List Value) : slicePick its.toArray none none (some (-1)) = its.reverse.toArray := by
  unfold slicePick
  congr 1
  rw [← filterMap_rev its.length its rfl]
  have eb : sliceBounds none none (some (-1)) its.toArray.size = ((its.length : Int) - 1, -1, -1) := by
    unfold sliceBounds
    simp
  rw [eb]
  show (sliceRange ((its.length : Int) - 1) (-1) (-1)).filterMap _ = _
  have ec : (if (-1 : Int) > 0 then (if ((its.length : Int) - 1) < -1 then ((-1) - ((its.length : Int) - 1) + (-1) - 1) / (-1) else 0) else (if ((its.length : Int) - 1) > -1 then (((its.length : Int) - 1) - (-1) - (-1) - 1) / (-(-1)) else 0)).toNat = its.length := by
    rw [if_neg (by decide)]
    split
    · have : (((its.length : Int) - 1) - (-1) - (-1) - 1) / (-(-1)) = its.length := by
        rw [show (-(-1) : Int) = 1 by decide, Int.ediv_one]
        omega
      rw [this]
      omega
    · omega
  show (((List.range (Int.toNat (if (-1 : Int) > 0 then (if ((its.length : Int) - 1) < -1 then ((-1) - ((its.length : Int) - 1) + (-1) - 1) / (-1) else 0) else (if ((its.length : Int) - 1) > -1 then (((its.length : Int) - 1) - (-1) - (-1) - 1) / (-(-1)) else 0)))).map fun (k : Nat) => (((its.length : Int) - 1) + (-1) * (k : Int)).toNat)).filterMap _ = _
  rw [ec, List.filterMap_map]
  refine fm_congr fun k hk => ?_
  have hk := List.mem_range.mp hk
  show its.toArray[(((its.length : Int) - 1) + (-1) * (k : Int)).toNat]? = _
  rw [show (((its.length : Int) - 1) + (-1) * (k : Int)).toNat = its.length - 1 - k by omega, List.getElem?_toArray]
section
variable {X : Cx} {e st : Expr} {te ts : TE} {pos p2 : Pos}
def tRev (K : PySem.W.Frag) (te ts : TE) : TE := fun σ H Q => te σ H fun x H1 => ts σ H1 fun y H2 => ∃ a xs, y = .int (-1) ∧ x = .ref a ∧ SqL K H2 a xs ∧ ∀ p, H2 p = none → Q (.ref p) (upd H2 p (.lst xs.reverse))
theorem pe_rev (he : PE X e te) (hs : PE X st ts) : PE X (.Subscript e (.Slice none none (some st) p2) pos) (tRev X.K te ts) := by
  refine ⟨fun pins s σ H Q I h => ?_⟩
  refine Subscript_ (thn (he.run pins s σ H _ I h) fun v s1 ⟨x, H1, I1, r1, q1⟩ => ?_)
  refine wpAny_Slice ?_
  rw [evalPart_none]
  refine wpAny_pure (wpAny_pure ?_)
  rw [evalPart_some]
  refine thn (hs.run pins s1 σ H1 _ I1 q1) fun u s2 ⟨y, H2, I2, r2, q2⟩ => ?_
  obtain ⟨a, xs, rfl, rfl, hx, q⟩ := q2
  obtain ⟨t, rfl⟩ := r2
  cases r1
  have I4 : Inv X pins σ H2 { s2 with heap := s2.heap.push { cls := .type "slice", data := .fields #[.none, .none, .int (-1) t] } } := I2.kept (t' := s2.toks) fun b ob q => Heap.get?_push_of_some _ q
  obtain ⟨its, r, ht, hz⟩ := I4.list hx
  have hsl : Heap.IsSliceOf (s2.heap.push { cls := .type "slice", data := .fields #[.none, .none, .int (-1) t] }) s2.heap.objs.size .none .none (.int (-1) t) := Heap.IsSliceOf.new ..
  show wpAny (model X.prog X.w) X.A (subscriptTail e (.Slice none none (some st) p2) (.ref a) (.ref s2.heap.objs.size)) (EP X pins σ Q) X.xe { s2 with heap := s2.heap.push { cls := .type "slice", data := .fields #[.none, .none, .int (-1) t] } }
  refine tail_any (ops := [.ref a, .ref s2.heap.objs.size]) (T := "list") ht.isList.typeIs slot_list_getitem.lookup ?_ (by with_unfolding_all rfl)
  refine wpAny_getItem_list_slice ht.isList hsl .none .none (.int (-1) t) (by simp) ?_ (by have := r.length; rw [List.size_toArray]; omega)
  rw [slicePick_rev]
  generalize hG : s2.heap.push { cls := .type "slice", data := .fields #[.none, .none, .int (-1) t] } = G at I4 ht ⊢
  refine ⟨.ref G.objs.size, _, I4.laid (t' := s2.toks) (o := .lst xs.reverse) (fun b ob q => Heap.get?_push_of_some _ q) (Nat.le_refl _) ?_, rfl, q _ (I4.hok.fresh (Nat.le_refl _))⟩
  exact ⟨by rw [List.length_reverse]; exact hz, _, 0, r.reverse, Heap.get?_push_size _ rfl⟩
theorem pe_revK {K : PySem.W.Frag} (hK : X.K = K) (he : PE X e te) (hs : PE X st ts) : PE X (.Subscript e (.Slice none none (some st) p2) pos) (tRev K te ts) := by
  subst hK
  exact pe_rev he hs
end
end Wx

/-! x in o by an own __contains__; comprehensions with two clauses (own work) -/
namespace Wx
open PySem PySem.Spec PyProof.Rows L2
/-- y in x, x an instance whose own __contains__ answers True or False -/
def rInO (C : Addr) (sp : Sp) (E : XK) : R2 := fun y x H Q => ∃ (a dx : Addr) (fs : List (Str × V)), x = .ref a ∧ H a = some (.ins C dx fs) ∧ sp [x, y] H (fun z H' => ∃ b, z = .bl b ∧ Q (.bl b) H') E
section
variable {X : Cx} {CX : CXT} {C f : Addr} {n : Nat} {fd : FuncData} {ps : List Str} {sp : Sp} {E : XK}
theorem op_inO (F : FnOk X.prog X.w X.K X.mg X.base CX n f fd ps sp) (hr : Room n X.A) (hs : PySem.W.findIn X.K (.ref C) "__contains__" = some (some (.ref f))) (hf : PySem.W.isFn X.K (.ref f) = true) (hb : Binds X.K fd ps []) (hx : Passes CX X E) : OpR X (compareOp .In) (rInO C sp E) := by
  intro pins s σ H y x v u Q I ry rx h
  obtain ⟨a, dx, fs, rfl, ha, q⟩ := h
  cases (show u = Value.ref a from rx)
  obtain ⟨mA, J, _⟩ := ins_get I.hok ha
  obtain ⟨od, J, _⟩ := J.look
  obtain ⟨m, hF⟩ := I.fr
  refine PySem.W.in_K hF I.ok.mod.kin J hs hf ?_
  refine wpAny_mono (run_two (us := [.ref a, v]) (vs := [.ref a, y]) F hr I.env0 hb hx I (.cons rfl (.cons ry .nil)) q) (fun w s' z => ?_) fun _ _ x => x
  obtain ⟨z', H', I', rz, k, ez, qz⟩ := z
  subst ez
  cases (show w = Value.bool k from rz)
  exact wpAny_truthy_bool ⟨.bl k, H', I', rfl, qz⟩
end
section
variable {J : It} {n : Nat} {G : Hp → Prop} {Y : Nat → Hp → V → Hp → Prop}
/-- the first clause of two -/
theorem lc2_it (w : Walk J n G Y) {g : TG} {tt : TT} {vs : List Nat} {σ : L2.St} {H1 : Hp} {D : Addr} {Qd : Hp → Prop} {F : (Hp → Prop) → L2.St → Hp → Prop} (Pv : Nat → Hp → Prop) (h0 : Pv 0 (upd H1 D (.lst []))) (hG : ∀ i H, i ≤ n → Pv i H → G H)
    (hs : ∀ i x H H', i < n → Pv i H → Y i H x H' → g x (wipe σ vs) H' fun σ2 H2 => wipe σ2 vs = wipe σ vs ∧ tt σ2 H2 fun b H3 => if b = true then F (Pv (i + 1)) σ2 H3 else Pv (i + 1) H3) (hd : ∀ H, Pv n H → Qd H) :
    ∃ W : Nat → Nat → Hp → Prop, (∃ m, W 0 m (upd H1 D (.lst []))) ∧ ∀ i m H, W i m H →
      (J.stop i H ∧ Qd H) ∨ (J.go i H ∧ ∃ Nx : Hp → Prop, (∀ H', Nx H' → ∃ m', m' < m ∧ W (i + 1) m' H') ∧ ∀ x H', J.yld i H x H' → g x (wipe σ vs) H' fun σ2 H2 => wipe σ2 vs = wipe σ vs ∧ tt σ2 H2 fun b H3 =>
        if b = true then F Nx σ2 H3 else Nx H3) := by
  refine ⟨fun i m H => m = n - i ∧ i ≤ n ∧ Pv i H, ⟨n, by simp, Nat.zero_le _, h0⟩, ?_⟩
  rintro i m H ⟨rfl, hi, p⟩
  have q := hG i H hi p
  by_cases hlt : i < n
  · exact .inr ⟨w.goes i H hlt q, Pv (i + 1), fun H' p' => ⟨n - (i + 1), by omega, rfl, hlt, p'⟩, fun x H' y => hs i x H H' hlt p (w.yields i H x H' hlt q y)⟩
  · have e : i = n := by omega
    subst e
    exact .inl ⟨w.stops H q, hd H p⟩
/-- the second clause of two -/
theorem lcIn_it (w : Walk J n G Y) {g1 : TG} {tt1 : TT} {te : TE} {vs1 : List Nat} {σ2 : L2.St} {H4 : Hp} {D : Addr} {Nx : Hp → Prop} (Pv : Nat → Hp → Prop) (h0 : Pv 0 H4) (hG : ∀ i H, i ≤ n → Pv i H → G H)
    (hs : ∀ j x H H', j < n → Pv j H → Y j H x H' → g1 x (wipe σ2 vs1) H' fun σ3 H5 => wipe σ3 vs1 = wipe σ2 vs1 ∧ tt1 σ3 H5 fun b H6 =>
      if b = true then te σ3 H6 fun y H7 => ∃ acc, H7 D = some (.lst acc) ∧ acc.length < sizeLine ∧ Pv (j + 1) (upd H7 D (.lst (acc ++ [y]))) else Pv (j + 1) H6) (hd : ∀ H, Pv n H → Nx H) :
    ∃ W1 : Nat → Nat → Hp → Prop, (∃ m, W1 0 m H4) ∧ ∀ j k H, W1 j k H →
      (J.stop j H ∧ Nx H) ∨ (J.go j H ∧ ∃ Nx1 : Hp → Prop, (∀ H', Nx1 H' → ∃ k', k' < k ∧ W1 (j + 1) k' H') ∧ ∀ x H', J.yld j H x H' → g1 x (wipe σ2 vs1) H' fun σ3 H5 => wipe σ3 vs1 = wipe σ2 vs1 ∧ tt1 σ3 H5 fun b H6 =>
        if b = true then te σ3 H6 fun y H7 => ∃ acc, H7 D = some (.lst acc) ∧ acc.length < sizeLine ∧ Nx1 (upd H7 D (.lst (acc ++ [y]))) else Nx1 H6) := by
  refine ⟨fun i m H => m = n - i ∧ i ≤ n ∧ Pv i H, ⟨n, by simp, Nat.zero_le _, h0⟩, ?_⟩
  rintro i m H ⟨rfl, hi, p⟩
  have q := hG i H hi p
  by_cases hlt : i < n
  · exact .inr ⟨w.goes i H hlt q, Pv (i + 1), fun H' p' => ⟨n - (i + 1), by omega, rfl, hlt, p'⟩, fun x H' y => hs i x H H' hlt p (w.yields i H x H' hlt q y)⟩
  · have e : i = n := by omega
    subst e
    exact .inl ⟨w.stops H q, hd H p⟩
end
end Wx

/-! own layer: defs read as predicate transformers over plain data -/
namespace Dn
open PySem PySem.Spec PyProof.Rows L2 Wx NdefX

/-! ### what is raised -/
structure StdV where
  levels : List Int
  tank : Int
  mood : Int
  deriving DecidableEq
inductive Ex where
  | name (v : V) | number (w : Str) (v : V) | turn (t : List Str) | standing (s : StdV) | many (n : Int) | dried (p : Str) (d : Int) | notSafe (s : StdV)
  | paper (r : Int) (w : Str) | unlike | fits (d : Int) | text (l : Int) | undo | deed (p : Int) | other (c : Str)
  deriving DecidableEq
/-- what a piece of the program does: what is wanted of its value, of what it raises -/
abbrev WP (α : Type) := (α → Prop) → (Ex → Prop) → Prop
def rt {α : Type} (a : α) : WP α := fun Q _ => Q a
def bd {α β : Type} (m : WP α) (k : α → WP β) : WP β := fun Q E => m (fun a => k a Q E) E
def rs {α : Type} (e : Ex) : WP α := fun _ E => E e
def nd {α : Type} (p : Prop) (m : WP α) : WP α := fun Q E => p ∧ m Q E
def noE {α : Type} (m : WP α) : WP α := fun Q _ => m Q fun _ => False

/-! ### the part of the heap that may be read -/
def vis (L : List Addr) (H : Hp) : Hp := fun b => if b ∈ L then none else H b
theorem vis_out {L : List Addr} {H : Hp} {b : Addr} (h : b ∉ L) : vis L H b = H b := if_neg h
theorem vis_in {L : List Addr} {H : Hp} {b : Addr} (h : b ∈ L) : vis L H b = none := if_pos h
theorem vis_some {L : List Addr} {H : Hp} {b : Addr} {o : HO} (h : vis L H b = some o) : b ∉ L ∧ H b = some o := by
  unfold vis at h
  split at h
  · cases h
  · exact ⟨by assumption, h⟩
theorem vis_le {L : List Addr} {H : Hp} : Same (vis L H) H := fun _ _ h => (vis_some h).2
theorem vis_mono {L : List Addr} {H H' : Hp} (h : ∀ b o, b ∉ L → H b = some o → H' b = some o) : Same (vis L H) (vis L H') := fun b o e => by
  obtain ⟨n, e⟩ := vis_some e
  rw [vis_out n]
  exact h b o n e
theorem vis_same {L : List Addr} {H H' : Hp} (h : Same H H') : Same (vis L H) (vis L H') := vis_mono fun b o _ e => h b o e
theorem vis_less {L L' : List Addr} {H : Hp} (h : ∀ b ∈ L', b ∈ L) : Same (vis L H) (vis L' H) := fun b o e => by
  obtain ⟨n, e⟩ := vis_some e
  rw [vis_out fun m => n (h b m)]
  exact e
theorem same_new {H : Hp} {a : Addr} {o : HO} (n : H a = none) : Same H (upd H a o) := fun b p e => by
  rw [upd_ne (ne_of_none e n)]
  exact e
theorem vis_new {L : List Addr} {H : Hp} {a : Addr} {o : HO} (n : a ∉ L) : vis L (upd H a o) a = some o := by rw [vis_out n, upd_same]
theorem notin_new {L : List Addr} {H : Hp} {a : Addr} (d : ∀ b ∈ L, H b ≠ none) (n : H a = none) : a ∉ L := fun m => d a m n

/-! ### kinds of values -/
structure Ty (α : Type) where
  rep : V → Hp → α → Prop
  mono : ∀ {x : V} {H H' : Hp} {a : α}, Same H H' → rep x H a → rep x H' a
/-- what does not lean on the heap -/
def Flat {α : Type} (T : Ty α) : Prop := ∀ {x : V} {H H' : Hp} {a : α}, T.rep x H a → T.rep x H' a
def tyI : Ty Int := ⟨fun x _ i => x = .int i, fun _ h => h⟩
def tyB : Ty Bool := ⟨fun x _ i => x = .bl i, fun _ h => h⟩
def tyS : Ty Str := ⟨fun x _ i => x = .str i, fun _ h => h⟩
def tyN : Ty Unit := ⟨fun x _ _ => x = .non, fun _ h => h⟩
/-- a number, a text, a bool, None -/
def tyX : Ty V := ⟨fun x _ v => x = v ∧ ∀ a, v ≠ .ref a, fun _ h => h⟩
/-- an object at a known place -/
def tyA (a : Addr) : Ty Unit := ⟨fun x _ _ => x = .ref a, fun _ h => h⟩
theorem flatI : Flat tyI := fun h => h
theorem flatB : Flat tyB := fun h => h
theorem flatS : Flat tyS := fun h => h
theorem flatN : Flat tyN := fun h => h
theorem flatX : Flat tyX := fun h => h
theorem flatA {a : Addr} : Flat (tyA a) := fun h => h
theorem Ty.all {α : Type} (T : Ty α) {H H' : Hp} (s : Same H H') {xs : List V} {as : List α} (h : Reps T.rep H xs as) : Reps T.rep H' xs as := h.imp fun _ _ q => T.mono s q
section
variable {K : PySem.W.Frag} {H H' : Hp} {a : Addr} {xs : List V}
theorem same_rd {u : HO} (e : Same H H') (h : Rd H a u) : Rd H' a u := h.imp (fun q => e _ _ q) fun ⟨o, q⟩ => ⟨o, e _ _ q⟩
theorem same_sqL (e : Same H H') (h : SqL K H a xs) : SqL K H' a xs := h.imp (same_rd e) id
theorem same_sqT (e : Same H H') (h : SqT K H a xs) : SqT K H' a xs := h.imp (same_rd e) id
end
variable (K : PySem.W.Frag)
def tyL {α : Type} (T : Ty α) : Ty (List α) := ⟨fun x H as => ∃ p xs, x = .ref p ∧ H p = some (.lst xs) ∧ Reps T.rep H xs as, fun s ⟨p, xs, e, h, r⟩ => ⟨p, xs, e, s _ _ h, T.all s r⟩⟩
def tyT {α : Type} (T : Ty α) : Ty (List α) := ⟨fun x H as => ∃ p xs, x = .ref p ∧ SqT K H p xs ∧ Reps T.rep H xs as, fun s ⟨p, xs, e, h, r⟩ => ⟨p, xs, e, same_sqT s h, T.all s r⟩⟩
/-- a list or a tuple -/
def tyQ {α : Type} (T : Ty α) : Ty (List α) := ⟨fun x H as => ∃ p xs, x = .ref p ∧ (SqL K H p xs ∨ SqT K H p xs) ∧ Reps T.rep H xs as, fun s ⟨p, xs, e, h, r⟩ => ⟨p, xs, e, h.imp (same_sqL s) (same_sqT s), T.all s r⟩⟩
def tyO {α : Type} (T : Ty α) : Ty (Option α) := ⟨fun x H o => match o with
  | none => x = .non
  | some a => x ≠ .non ∧ T.rep x H a, fun {x H H' o} s h => by
    cases o with
    | none => exact h
    | some a => exact ⟨h.1, T.mono s h.2⟩⟩
/-- items of a tuple of several kinds -/
structure TyS (α : Type) where
  rep : List V → Hp → α → Prop
  mono : ∀ {x : List V} {H H' : Hp} {a : α}, Same H H' → rep x H a → rep x H' a
def tsN : TyS Unit := ⟨fun x _ _ => x = [], fun _ h => h⟩
def tsC {α β : Type} (T : Ty α) (S : TyS β) : TyS (α × β) := ⟨fun x H p => ∃ v r, x = v :: r ∧ T.rep v H p.1 ∧ S.rep r H p.2, fun s ⟨v, r, e, h, q⟩ => ⟨v, r, e, T.mono s h, S.mono s q⟩⟩
/-- a tuple of two, three .. -/
def tyP {α : Type} (S : TyS α) : Ty α := ⟨fun x H a => ∃ p xs, x = .ref p ∧ SqT K H p xs ∧ S.rep xs H a, fun s ⟨p, xs, e, h, r⟩ => ⟨p, xs, e, same_sqT s h, S.mono s r⟩⟩
def ts1 {α : Type} (T : Ty α) : TyS α := ⟨fun x H a => ∃ v, x = [v] ∧ T.rep v H a, fun s ⟨v, e, h⟩ => ⟨v, e, T.mono s h⟩⟩
def ts2 {α β : Type} (T : Ty α) (S : Ty β) : TyS (α × β) := ⟨fun x H a => ∃ v w, x = [v, w] ∧ T.rep v H a.1 ∧ S.rep w H a.2, fun s ⟨v, w, e, h, q⟩ => ⟨v, w, e, T.mono s h, S.mono s q⟩⟩
def ts3 {α β γ : Type} (T : Ty α) (S : Ty β) (R : Ty γ) : TyS (α × β × γ) := ⟨fun x H a => ∃ v w u, x = [v, w, u] ∧ T.rep v H a.1 ∧ S.rep w H a.2.1 ∧ R.rep u H a.2.2, fun s ⟨v, w, u, e, h, q, r⟩ => ⟨v, w, u, e, T.mono s h, S.mono s q, R.mono s r⟩⟩
def ts4 {α β γ δ : Type} (T : Ty α) (S : Ty β) (R : Ty γ) (U : Ty δ) : TyS (α × β × γ × δ) := ⟨fun x H a => ∃ v w u t, x = [v, w, u, t] ∧ T.rep v H a.1 ∧ S.rep w H a.2.1 ∧ R.rep u H a.2.2.1 ∧ U.rep t H a.2.2.2, fun s ⟨v, w, u, t, e, h, q, r, z⟩ => ⟨v, w, u, t, e, T.mono s h, S.mono s q, R.mono s r, U.mono s z⟩⟩
/-- an instance of the class C with such attributes, read as an α -/
def tyC {α : Type} (C : Addr) (fs : List Str) (S : TyS α) : Ty α := ⟨fun x H a => ∃ p dx vs, x = .ref p ∧ H p = some (.ins C dx (fs.zip vs)) ∧ vs.length = fs.length ∧ S.rep vs H a, fun s ⟨p, dx, vs, e, h, l, r⟩ => ⟨p, dx, vs, e, s _ _ h, l, S.mono s r⟩⟩
def tyM {α β : Type} (T : Ty α) (f : β → α) : Ty β := ⟨fun x H b => T.rep x H (f b), fun s h => T.mono s h⟩

/-! ### what changes -/
/-- a value whose objects the def alone may change: x, what may be read, the heap, its own places -/
structure Own (α : Type) where
  rep : V → Hp → Hp → List Addr → α → Prop
  keep : ∀ {x : V} {G G' H H' : Hp} {F : List Addr} {a : α}, rep x G H F a → Same G G' → (∀ b ∈ F, H' b = H b) → rep x G' H' F a
def ownL {α : Type} (T : Ty α) : Own (List α) := ⟨fun x G H F as => ∃ p xs, x = .ref p ∧ F = [p] ∧ H p = some (.lst xs) ∧ Reps T.rep G xs as, fun ⟨p, xs, e, f, h, r⟩ s k => ⟨p, xs, e, f, (k p (by rw [f]; exact List.mem_cons_self)).trans h, T.all s r⟩⟩
inductive Slot : Type 1 where
  | un
  | rp {α : Type} (T : Ty α) (a : α)
  | mu {α : Type} (O : Own α) (a : α)
def Ev (G H : Hp) : List Slot → L2.St → List Addr → Prop
  | [], σ, F => σ = [] ∧ F = []
  | .un :: Γ, σ, F => ∃ v σ', σ = v :: σ' ∧ Ev G H Γ σ' F
  | .rp T a :: Γ, σ, F => ∃ x σ', σ = some x :: σ' ∧ T.rep x G a ∧ Ev G H Γ σ' F
  | .mu O a :: Γ, σ, F => ∃ x σ' F1 F2, σ = some x :: σ' ∧ F = F1 ++ F2 ∧ O.rep x G H F1 a ∧ Ev G H Γ σ' F2
theorem Ev.mono {G G' H H' : Hp} (s : Same G G') : ∀ {Γ : List Slot} {σ : L2.St} {F : List Addr}, Ev G H Γ σ F → (∀ b ∈ F, H' b = H b) → Ev G' H' Γ σ F
  | [], _, _, h, _ => h
  | .un :: Γ, σ, F, ⟨v, σ', e, h⟩, k => ⟨v, σ', e, Ev.mono s h k⟩
  | .rp T a :: Γ, σ, F, ⟨x, σ', e, r, h⟩, k => ⟨x, σ', e, T.mono s r, Ev.mono s h k⟩
  | .mu O a :: Γ, σ, F, ⟨x, σ', F1, F2, e, f, r, h⟩, k => ⟨x, σ', F1, F2, e, f, O.keep r s fun b m => k b (by rw [f]; exact List.mem_append_left _ m), Ev.mono s h fun b m => k b (by rw [f]; exact List.mem_append_right _ m)⟩
theorem Ev.len {G H : Hp} : ∀ {Γ : List Slot} {σ : L2.St} {F : List Addr}, Ev G H Γ σ F → σ.length = Γ.length
  | [], _, _, ⟨e, _⟩ => by rw [e]; rfl
  | .un :: Γ, _, _, ⟨v, σ', e, h⟩ => by rw [e, List.length_cons, List.length_cons, h.len]
  | .rp T a :: Γ, _, _, ⟨x, σ', e, r, h⟩ => by rw [e, List.length_cons, List.length_cons, h.len]
  | .mu O a :: Γ, _, _, ⟨x, σ', F1, F2, e, f, r, h⟩ => by rw [e, List.length_cons, List.length_cons, h.len]
/-- a slot that holds nothing of one's own -/
def Slot.imm : Slot → Bool
  | .mu _ _ => false
  | _ => true
theorem Ev.get {G H : Hp} {α : Type} {T : Ty α} {a : α} : ∀ {Γ : List Slot} {σ : L2.St} {F : List Addr} {i : Nat}, Ev G H Γ σ F → Γ[i]? = some (.rp T a) → ∃ x, σ[i]? = some (some x) ∧ T.rep x G a
  | [], _, _, _, _, e => by simp at e
  | .un :: Γ, _, _, 0, _, e => by simp at e
  | .mu _ _ :: Γ, _, _, 0, _, e => by simp at e
  | .rp T' a' :: Γ, σ, F, 0, ⟨x, σ', es, r, h⟩, e => by
    simp at e
    obtain ⟨rfl, e1, e2⟩ := e
    cases e1
    cases e2
    exact ⟨x, by rw [es]; rfl, r⟩
  | .un :: Γ, σ, F, i + 1, ⟨v, σ', es, h⟩, e => by
    obtain ⟨x, h1, h2⟩ := Ev.get (i := i) h (by simpa using e)
    exact ⟨x, by rw [es]; simpa using h1, h2⟩
  | .rp _ _ :: Γ, σ, F, i + 1, ⟨_, σ', es, _, h⟩, e => by
    obtain ⟨x, h1, h2⟩ := Ev.get (i := i) h (by simpa using e)
    exact ⟨x, by rw [es]; simpa using h1, h2⟩
  | .mu _ _ :: Γ, σ, F, i + 1, ⟨_, σ', _, _, es, _, _, h⟩, e => by
    obtain ⟨x, h1, h2⟩ := Ev.get (i := i) h (by simpa using e)
    exact ⟨x, by rw [es]; simpa using h1, h2⟩
theorem Ev.set {G H : Hp} {α : Type} {T : Ty α} {a : α} {x : V} (r : T.rep x G a) : ∀ {Γ : List Slot} {σ : L2.St} {F : List Addr} {i : Nat}, Ev G H Γ σ F → (Γ[i]?.any Slot.imm) = true → Ev G H (Γ.set i (.rp T a)) (σ.set i (some x)) F
  | [], _, _, _, _, e => by simp at e
  | .un :: Γ, _, _, 0, ⟨v, σ', es, h⟩, _ => ⟨x, σ', by rw [es]; rfl, r, h⟩
  | .rp _ _ :: Γ, _, _, 0, ⟨v, σ', es, _, h⟩, _ => ⟨x, σ', by rw [es]; rfl, r, h⟩
  | .mu _ _ :: Γ, _, _, 0, _, e => by simp [Slot.imm] at e
  | .un :: Γ, σ, F, i + 1, ⟨v, σ', es, h⟩, e => ⟨v, _, by rw [es]; rfl, Ev.set r h (by simpa using e)⟩
  | .rp _ _ :: Γ, σ, F, i + 1, ⟨v, σ', es, q, h⟩, e => ⟨v, _, by rw [es]; rfl, q, Ev.set r h (by simpa using e)⟩
  | .mu _ _ :: Γ, σ, F, i + 1, ⟨v, σ', F1, F2, es, ef, q, h⟩, e => ⟨v, _, F1, F2, by rw [es]; rfl, ef, q, Ev.set r h (by simpa using e)⟩
/-- a slot is forgotten: the def's own places may become fewer -/
def Slot.le : Slot → Slot → Prop
  | _, .un => True
  | a, b => a = b
def Lower : List Slot → List Slot → Prop
  | [], [] => True
  | a :: Γ, b :: Γ' => Slot.le a b ∧ Lower Γ Γ'
  | _, _ => False
theorem Ev.lower {G H : Hp} : ∀ {Γ Γ' : List Slot} {σ : L2.St} {F : List Addr}, Ev G H Γ σ F → Lower Γ Γ' → ∃ F', F'.Sublist F ∧ Ev G H Γ' σ F'
  | [], [], _, _, ⟨e, f⟩, _ => ⟨[], by rw [f]; exact List.Sublist.refl _, e, rfl⟩
  | [], _ :: _, _, _, _, l => l.elim
  | _ :: _, [], _, _, _, l => l.elim
  | s :: Γ, s' :: Γ', σ, F, h, ⟨l1, l2⟩ => by
    cases s' with
    | un =>
      cases s with
      | un =>
        obtain ⟨v, σ', e, h⟩ := h
        obtain ⟨F', hs, q⟩ := Ev.lower h l2
        exact ⟨F', hs, v, σ', e, q⟩
      | rp T a =>
        obtain ⟨x, σ', e, _, h⟩ := h
        obtain ⟨F', hs, q⟩ := Ev.lower h l2
        exact ⟨F', hs, some x, σ', e, q⟩
      | mu O a =>
        obtain ⟨x, σ', F1, F2, e, f, _, h⟩ := h
        obtain ⟨F', hs, q⟩ := Ev.lower h l2
        exact ⟨F', by rw [f]; exact hs.trans (List.sublist_append_right _ _), some x, σ', e, q⟩
    | rp T a =>
      have l1 : s = .rp T a := by cases s <;> exact l1
      subst l1
      obtain ⟨x, σ', e, r, h⟩ := h
      obtain ⟨F', hs, q⟩ := Ev.lower h l2
      exact ⟨F', hs, x, σ', e, r, q⟩
    | mu O a =>
      have l1 : s = .mu O a := by cases s <;> exact l1
      subst l1
      obtain ⟨x, σ', F1, F2, e, f, r, h⟩ := h
      obtain ⟨F', hs, q⟩ := Ev.lower h l2
      exact ⟨F1 ++ F', by rw [f]; exact (List.Sublist.refl _).append hs, x, σ', F1, F', e, rfl, r, q⟩
/-- a slot of one's own, by itself: it may be changed, dropped, laid open -/
theorem Ev.split {G H : Hp} {α : Type} {O : Own α} {a : α} : ∀ {Γ : List Slot} {σ : L2.St} {F : List Addr} {i : Nat}, Ev G H Γ σ F → Γ[i]? = some (.mu O a) →
    ∃ x Fa F1 Fb, F = Fa ++ (F1 ++ Fb) ∧ σ[i]? = some (some x) ∧ O.rep x G H F1 a ∧
      (∀ {G' H' : Hp}, Same G G' → (∀ b ∈ Fa ++ Fb, H' b = H b) → ∀ {β : Type} {O' : Own β} {a' : β} {x' : V} {F1' : List Addr}, O'.rep x' G' H' F1' a' → Ev G' H' (Γ.set i (.mu O' a')) (σ.set i (some x')) (Fa ++ (F1' ++ Fb))) ∧
      (∀ {G' H' : Hp}, Same G G' → (∀ b ∈ Fa ++ Fb, H' b = H b) → ∀ {β : Type} {T : Ty β} {a' : β} {x' : V}, T.rep x' G' a' → Ev G' H' (Γ.set i (.rp T a')) (σ.set i (some x')) (Fa ++ Fb))
  | [], _, _, _, _, e => by simp at e
  | .un :: Γ, _, _, 0, _, e => by simp at e
  | .rp _ _ :: Γ, _, _, 0, _, e => by simp at e
  | .mu O' a' :: Γ, σ, F, 0, ⟨x, σ', F1, F2, es, ef, r, h⟩, e => by
    simp at e
    obtain ⟨rfl, e1, e2⟩ := e
    cases e1
    cases e2
    refine ⟨x, [], F1, F2, by rw [ef]; rfl, by rw [es]; rfl, r, fun s k => fun r' => ?_, fun s k => fun r' => ?_⟩
    · exact ⟨_, σ', _, F2, by rw [es]; rfl, rfl, r', h.mono s fun b m => k b m⟩
    · exact ⟨_, σ', by rw [es]; rfl, r', h.mono s fun b m => k b m⟩
  | .un :: Γ, σ, F, i + 1, ⟨v, σ', es, h⟩, e => by
    obtain ⟨x, Fa, F1, Fb, h1, h2, h3, h4, h5⟩ := Ev.split (i := i) h (by simpa using e)
    exact ⟨x, Fa, F1, Fb, h1, by rw [es]; simpa using h2, h3, fun s k => fun r => ⟨v, _, by rw [es]; rfl, h4 s k r⟩, fun s k => fun r => ⟨v, _, by rw [es]; rfl, h5 s k r⟩⟩
  | .rp T' _ :: Γ, σ, F, i + 1, ⟨v, σ', es, q, h⟩, e => by
    obtain ⟨x, Fa, F1, Fb, h1, h2, h3, h4, h5⟩ := Ev.split (i := i) h (by simpa using e)
    exact ⟨x, Fa, F1, Fb, h1, by rw [es]; simpa using h2, h3, fun s k => fun r => ⟨v, _, by rw [es]; rfl, T'.mono s q, h4 s k r⟩, fun s k => fun r => ⟨v, _, by rw [es]; rfl, T'.mono s q, h5 s k r⟩⟩
  | .mu O' _ :: Γ, σ, F, i + 1, ⟨v, σ', A1, A2, es, ef, q, h⟩, e => by
    obtain ⟨x, Fa, F1, Fb, h1, h2, h3, h4, h5⟩ := Ev.split (i := i) h (by simpa using e)
    refine ⟨x, A1 ++ Fa, F1, Fb, by rw [ef, h1, List.append_assoc], by rw [es]; simpa using h2, h3, fun s k => fun r => ?_, fun s k => fun r => ?_⟩
    · exact ⟨v, _, A1, _, by rw [es]; rfl, by rw [List.append_assoc], O'.keep q s fun b m => k b (by simp [m]), h4 s (fun b m => k b (by simp only [List.mem_append] at m ⊢; rcases m with m | m <;> simp [m])) r⟩
    · exact ⟨v, _, A1, _, by rw [es]; rfl, by rw [List.append_assoc], O'.keep q s fun b m => k b (by simp [m]), h5 s (fun b m => k b (by simp only [List.mem_append] at m ⊢; rcases m with m | m <;> simp [m])) r⟩
/-- a new value of one's own in a slot that holds none -/
theorem Ev.own {G H : Hp} {α : Type} {O : Own α} {a : α} {x : V} : ∀ {Γ : List Slot} {σ : L2.St} {F : List Addr} {i : Nat}, Ev G H Γ σ F → (Γ[i]?.any Slot.imm) = true →
    ∃ Fa Fb, F = Fa ++ Fb ∧ ∀ {G' H' : Hp}, Same G G' → (∀ b ∈ Fa ++ Fb, H' b = H b) → ∀ {F1 : List Addr}, O.rep x G' H' F1 a → Ev G' H' (Γ.set i (.mu O a)) (σ.set i (some x)) (Fa ++ (F1 ++ Fb))
  | [], _, _, _, _, e => by simp at e
  | .un :: Γ, _, F, 0, ⟨v, σ', es, h⟩, _ => ⟨[], F, rfl, fun s k => fun r => ⟨x, σ', _, F, by rw [es]; rfl, rfl, r, h.mono s k⟩⟩
  | .rp _ _ :: Γ, _, F, 0, ⟨v, σ', es, _, h⟩, _ => ⟨[], F, rfl, fun s k => fun r => ⟨x, σ', _, F, by rw [es]; rfl, rfl, r, h.mono s k⟩⟩
  | .mu _ _ :: Γ, _, _, 0, _, e => by simp [Slot.imm] at e
  | .un :: Γ, σ, F, i + 1, ⟨v, σ', es, h⟩, e => by
    obtain ⟨Fa, Fb, h1, h2⟩ := Ev.own (O := O) (a := a) (x := x) (i := i) h (by simpa using e)
    exact ⟨Fa, Fb, h1, fun s k => fun r => ⟨v, _, by rw [es]; rfl, h2 s k r⟩⟩
  | .rp T' _ :: Γ, σ, F, i + 1, ⟨v, σ', es, q, h⟩, e => by
    obtain ⟨Fa, Fb, h1, h2⟩ := Ev.own (O := O) (a := a) (x := x) (i := i) h (by simpa using e)
    exact ⟨Fa, Fb, h1, fun s k => fun r => ⟨v, _, by rw [es]; rfl, T'.mono s q, h2 s k r⟩⟩
  | .mu O' _ :: Γ, σ, F, i + 1, ⟨v, σ', A1, A2, es, ef, q, h⟩, e => by
    obtain ⟨Fa, Fb, h1, h2⟩ := Ev.own (O := O) (a := a) (x := x) (i := i) h (by simpa using e)
    refine ⟨A1 ++ Fa, Fb, by rw [ef, h1, List.append_assoc], fun s k => fun r => ?_⟩
    exact ⟨v, _, A1, _, by rw [es]; rfl, by rw [List.append_assoc], O'.keep q s fun b m => k b (by simp [m]), h2 s (fun b m => k b (by simp only [List.mem_append] at m ⊢; rcases m with m | m <;> simp [m])) r⟩
end Dn

namespace Dn
open PySem PySem.Spec PyProof.Rows L2 Wx NdefX
/-! ### where a def stands -/
structure Wd where
  M0 : List Addr
  H0 : Hp
  ok : Hp → Prop
  dom : ∀ {H : Hp}, ok H → ∀ b ∈ M0, H b ≠ none
  lok : ∀ {H H' : Hp}, ok H → (∀ b ∈ M0, H' b = H b) → ok H'
theorem Wd.loc (W : Wd) {H H' : Hp} (h : W.ok H) (k : ∀ b ∈ W.M0, H' b = H b) (_ : ∀ b o u, H b = some (.frz o u) → H' b = some (.frz o u)) : W.ok H' := W.lok h k
/-- what a value's making does to the heap -/
structure PSt (W : Wd) (H H' : Hp) : Prop where
  keep : ∀ b o, b ∉ W.M0 → H b = some o → H' b = some o
  ok : W.ok H'
structure EvF (W : Wd) (Γ : List Slot) (σ : L2.St) (H : Hp) (F : List Addr) : Prop where
  ok : W.ok H
  frm : ∀ b o, b ∉ W.M0 → W.H0 b = some o → H b = some o
  fr : ∀ b ∈ F, W.H0 b = none ∧ b ∉ W.M0 ∧ H b ≠ none
  nd : F.Nodup
  sl : Ev (vis (W.M0 ++ F) H) H Γ σ F
section
variable {W : Wd} {Γ : List Slot} {σ : L2.St} {H H' H'' : Hp} {F : List Addr}
theorem PSt.refl (h : W.ok H) : PSt W H H := ⟨fun _ _ _ e => e, h⟩
theorem PSt.trans (a : PSt W H H') (b : PSt W H' H'') : PSt W H H'' := ⟨fun c o n e => b.keep c o n (a.keep c o n e), b.ok⟩
theorem PSt.same (h : W.ok H) (s : Same H H') : PSt W H H' := ⟨fun b o _ e => s b o e, W.loc h (fun b m => by
  cases e : H b with
  | none => exact absurd e (W.dom h b m)
  | some o => exact s b o e) fun b o u e => s _ _ e⟩
theorem PSt.vis (a : PSt W H H') : Same (vis (W.M0 ++ F) H) (vis (W.M0 ++ F) H') := vis_mono fun b o n e => a.keep b o (fun m => n (List.mem_append_left _ m)) e
theorem EvF.own (x : EvF W Γ σ H F) (a : PSt W H H') : ∀ b ∈ F, H' b = H b := fun b m => by
  obtain ⟨_, n, e⟩ := x.fr b m
  cases q : H b with
  | none => exact absurd q e
  | some o => exact a.keep b o n q
theorem EvF.step (x : EvF W Γ σ H F) (a : PSt W H H') : EvF W Γ σ H' F :=
  ⟨a.ok, fun b o n e => a.keep b o n (x.frm b o n e), fun b m => ⟨(x.fr b m).1, (x.fr b m).2.1, by rw [x.own a b m]; exact (x.fr b m).2.2⟩, x.nd, x.sl.mono a.vis (x.own a)⟩
theorem EvF.dom (x : EvF W Γ σ H F) : ∀ b ∈ W.M0 ++ F, H b ≠ none := fun b m => by
  rcases List.mem_append.mp m with q | q
  · exact W.dom x.ok b q
  · exact (x.fr b q).2.2
theorem EvF.set {α : Type} {T : Ty α} {a : α} {v : V} {i : Nat} (x : EvF W Γ σ H F) (r : T.rep v (vis (W.M0 ++ F) H) a) (h : (Γ[i]?.any Slot.imm) = true) : EvF W (Γ.set i (.rp T a)) (σ.set i (some v)) H F :=
  ⟨x.ok, x.frm, x.fr, x.nd, x.sl.set r h⟩
theorem EvF.lower {Γ' : List Slot} (x : EvF W Γ σ H F) (l : Lower Γ Γ') : ∃ F', (∀ b ∈ F', b ∈ F) ∧ EvF W Γ' σ H F' := by
  obtain ⟨F', hs, q⟩ := x.sl.lower l
  have sub := fun b m => hs.subset (a := b) m
  exact ⟨F', sub, x.ok, x.frm, fun b m => x.fr b (sub b m), x.nd.sublist hs, q.mono (vis_less fun b m => by
    rcases List.mem_append.mp m with q | q
    · exact List.mem_append_left _ q
    · exact List.mem_append_right _ (sub b q)) fun _ _ => rfl⟩
end
/-! ### errors in the heap -/
variable (K : PySem.W.Frag)
abbrev cl (x : Str) : Addr := He.ga K x
def tyStd : Ty StdV := tyM (tyC (cl K "Standing") ["levels", "tank", "mood"] (ts3 (tyT K tyI) tyI tyI)) fun s => (s.levels, s.tank, s.mood)
/-- an error of the class x, with such attributes in its dict -/
def exAt (x : Str) (c : Value) (d : Option Addr) (H : Hp) (p : (Str → Option V) → Prop) : Prop := c = .ref (cl K x) ∧ ∃ a fs, d = some a ∧ H a = some (.xd fs) ∧ p fun f => fs.lookup f
def ExRep (e : Ex) (c : Value) (d : Option Addr) (H : Hp) : Prop := match e with
  | .name v => exAt K "BadName" c d H fun l => l "name" = some v
  | .number w v => exAt K "BadNumber" c d H fun l => l "what" = some (.str w) ∧ l "value" = some v
  | .turn t => exAt K "BadTurn" c d H fun l => ∃ v, l "turn" = some v ∧ (tyT K tyS).rep v H t
  | .standing s => exAt K "BadStanding" c d H fun l => ∃ v, l "standing" = some v ∧ (tyStd K).rep v H s
  | .many n => exAt K "TooMany" c d H fun l => l "limit" = some (.int n)
  | .dried p n => exAt K "DriedOut" c d H fun l => l "plot" = some (.str p) ∧ l "day" = some (.int n)
  | .notSafe s => exAt K "NotSafe" c d H fun l => ∃ v, l "standing" = some v ∧ (tyStd K).rep v H s
  | .paper r w => exAt K "BadPaper" c d H fun l => l "row" = some (.int r) ∧ l "reason" = some (.str w)
  | .unlike => c = .ref (cl K "Unlike")
  | .fits n => exAt K "NothingFits" c d H fun l => l "day" = some (.int n)
  | .text n => exAt K "BadText" c d H fun l => l "line" = some (.int n)
  | .undo => c = .ref (cl K "NothingToUndo")
  | .deed n => exAt K "BadDeed" c d H fun l => l "place" = some (.int n)
  | .other x => c = .ref (cl K x)
theorem exAt.mono {x : Str} {c : Value} {d : Option Addr} {H H' : Hp} {p q : (Str → Option V) → Prop} (s : Same H H') (h : exAt K x c d H p) (pq : ∀ l, p l → q l) : exAt K x c d H' q := by
  obtain ⟨e, a, fs, e1, e2, e3⟩ := h
  exact ⟨e, a, fs, e1, s _ _ e2, pq _ e3⟩
theorem ExRep.mono {e : Ex} {c : Value} {d : Option Addr} {H H' : Hp} (s : Same H H') (h : ExRep K e c d H) : ExRep K e c d H' := by
  cases e <;> simp only [ExRep] at h ⊢
  case turn t => exact exAt.mono K s h fun l ⟨v, e, r⟩ => ⟨v, e, (tyT K tyS).mono s r⟩
  case standing t => exact exAt.mono K s h fun l ⟨v, e, r⟩ => ⟨v, e, (tyStd K).mono s r⟩
  case notSafe t => exact exAt.mono K s h fun l ⟨v, e, r⟩ => ⟨v, e, (tyStd K).mono s r⟩
  case unlike => exact h
  case undo => exact h
  case other => exact h
  all_goals exact exAt.mono K s h fun l q => q
/-! ### judgements -/
/-- behind a value's making -/
def Aft {α : Type} (W : Wd) (F : List Addr) (H : Hp) (T : Ty α) (Qa : α → Prop) (Qv : VK) : Prop := ∀ a x H', Qa a → PSt W H H' → T.rep x (vis (W.M0 ++ F) H') a → Qv x H'
def AftS {α : Type} (W : Wd) (F : List Addr) (H : Hp) (T : TyS α) (Qa : α → Prop) (Qv : List V → Hp → Prop) : Prop := ∀ a x H', Qa a → PSt W H H' → T.rep x (vis (W.M0 ++ F) H') a → Qv x H'
def AftT (W : Wd) (H : Hp) (Qa : Bool → Prop) (Qv : Bool → Hp → Prop) : Prop := ∀ a H', Qa a → PSt W H H' → Qv a H'
def AftE (W : Wd) (F : List Addr) (H : Hp) (XE : XK) (Ea : Ex → Prop) : Prop := ∀ e c d H', Ea e → PSt W H H' → ExRep K e c d (vis (W.M0 ++ F) H') → XE c d H'
def DenE {α : Type} (W : Wd) (XE : XK) (Γ : List Slot) (te : TE) (T : Ty α) (m : WP α) : Prop := ∀ Qa Ea, m Qa Ea → ∀ σ H F, EvF W Γ σ H F → ∀ Qv, Aft W F H T Qa Qv → AftE K W F H XE Ea → te σ H Qv
def DenA {α : Type} (W : Wd) (XE : XK) (Γ : List Slot) (te : TA) (T : TyS α) (m : WP α) : Prop := ∀ Qa Ea, m Qa Ea → ∀ σ H F, EvF W Γ σ H F → ∀ Qv, AftS W F H T Qa Qv → AftE K W F H XE Ea → te σ H Qv
def DenT (W : Wd) (XE : XK) (Γ : List Slot) (te : TT) (m : WP Bool) : Prop := ∀ Qa Ea, m Qa Ea → ∀ σ H F, EvF W Γ σ H F → ∀ Qv, AftT W H Qa Qv → AftE K W F H XE Ea → te σ H Qv
structure DE (X : Cx) (W : Wd) (XE : XK) (Γ : List Slot) (e : Expr) (te : TE) {α : Type} (T : Ty α) (m : WP α) : Prop where
  pe : PE X e te
  den : DenE X.K W XE Γ te T m
structure DA (X : Cx) (W : Wd) (XE : XK) (Γ : List Slot) (es : List Expr) (te : TA) {α : Type} (T : TyS α) (m : WP α) : Prop where
  pe : PA X es te
  den : DenA X.K W XE Γ te T m
structure DT (X : Cx) (W : Wd) (XE : XK) (Γ : List Slot) (e : Expr) (te : TT) (m : WP Bool) : Prop where
  pe : PT X e te
  den : DenT X.K W XE Γ te m
structure DW (X : Cx) (W : Wd) (XE : XK) (Γ : List Slot) (e : Expr) (te : TT) (m : WP Bool) : Prop where
  pe : PW X e te
  den : DenT X.K W XE Γ te m
section
variable {K} {W : Wd} {Γ : List Slot} {σ : L2.St} {H H' H'' : Hp} {F : List Addr} {XE : XK}
theorem AftE.step {Ea : Ex → Prop} (x : AftE K W F H XE Ea) (a : PSt W H H') : AftE K W F H' XE Ea := fun e c d H2 h p r => x e c d H2 h (a.trans p) r
theorem Aft.step {α : Type} {T : Ty α} {Qa : α → Prop} {Qv : VK} (x : Aft W F H T Qa Qv) (a : PSt W H H') : Aft W F H' T Qa Qv := fun b v H2 h p r => x b v H2 h (a.trans p) r
theorem AftS.step {α : Type} {T : TyS α} {Qa : α → Prop} {Qv : List V → Hp → Prop} (x : AftS W F H T Qa Qv) (a : PSt W H H') : AftS W F H' T Qa Qv := fun b v H2 h p r => x b v H2 h (a.trans p) r
theorem AftT.step {Qa : Bool → Prop} {Qv : Bool → Hp → Prop} (x : AftT W H Qa Qv) (a : PSt W H H') : AftT W H' Qa Qv := fun b H2 h p => x b H2 h (a.trans p)
/-- one thing, then another -/
theorem den_seq {α β : Type} {te : TE} {t2 : V → L2.St → Hp → VK → Prop} {T : Ty α} {S : Ty β} {m : WP α} {k : α → WP β} (A : DenE K W XE Γ te T m)
    (B : ∀ u Qa Ea, k u Qa Ea → ∀ σ H F x, EvF W Γ σ H F → T.rep x (vis (W.M0 ++ F) H) u → ∀ Qv, Aft W F H S Qa Qv → AftE K W F H XE Ea → t2 x σ H Qv) :
    DenE K W XE Γ (fun σ H Q => te σ H fun x H1 => t2 x σ H1 Q) S (bd m k) := fun Qa Ea h σ H F ev Qv aq ae =>
  A _ _ h σ H F ev _ (fun u x H1 hu p r => B u _ _ hu σ H1 F x (ev.step p) r _ (aq.step p) (ae.step p)) ae
/-- an operator by values -/
def R2Ok {α β γ : Type} (r : R2) (T1 : Ty α) (u : α) (T2 : Ty β) (v : β) (T : Ty γ) (m : WP γ) : Prop := ∀ Qa Ea, m Qa Ea → ∀ (L : List Addr) (H : Hp) (x y : V) (Qv : VK), (∀ b ∈ L, H b ≠ none) → T1.rep x (vis L H) u → T2.rep y (vis L H) v →
  (∀ a z H', Qa a → Same H H' → T.rep z (vis L H') a → Qv z H') → r x y H Qv
def R1Ok {α γ : Type} (r : V → Hp → VK → Prop) (T1 : Ty α) (u : α) (T : Ty γ) (m : WP γ) : Prop := ∀ Qa Ea, m Qa Ea → ∀ (L : List Addr) (H : Hp) (x : V) (Qv : VK), (∀ b ∈ L, H b ≠ none) → T1.rep x (vis L H) u →
  (∀ a z H', Qa a → Same H H' → T.rep z (vis L H') a → Qv z H') → r x H Qv
def RAOk {α γ : Type} (r : List V → Hp → VK → Prop) (T1 : TyS α) (u : α) (T : Ty γ) (m : WP γ) : Prop := ∀ Qa Ea, m Qa Ea → ∀ (L : List Addr) (H : Hp) (x : List V) (Qv : VK), (∀ b ∈ L, H b ≠ none) → T1.rep x (vis L H) u →
  (∀ a z H', Qa a → Same H H' → T.rep z (vis L H') a → Qv z H') → r x H Qv
theorem den_op {α β γ : Type} {r : R2} {ta tb : TE} {T1 : Ty α} {T2 : Ty β} {T : Ty γ} {m1 : WP α} {m2 : WP β} {m : α → β → WP γ} (A : DenE K W XE Γ ta T1 m1) (B : DenE K W XE Γ tb T2 m2) (h : ∀ u v, R2Ok r T1 u T2 v T (m u v)) :
    DenE K W XE Γ (tOp r ta tb) T (bd m1 fun u => bd m2 fun v => m u v) := fun Qa Ea hh σ H F ev Qv aq ae =>
  A _ _ hh σ H F ev _ (fun u x H1 hu p r1 => B _ _ hu σ H1 F (ev.step p) _ (fun v y H2 hv p2 r2 => h u v _ _ hv (W.M0 ++ F) H2 x y Qv ((ev.step p).step p2).dom (T1.mono p2.vis r1) r2 fun a z H3 ha s q =>
    aq a z H3 ha ((p.trans p2).trans (PSt.same p2.ok s)) q) (ae.step p)) ae
theorem den_un {α γ : Type} {r : V → Hp → VK → Prop} {ta : TE} {T1 : Ty α} {T : Ty γ} {m1 : WP α} {m : α → WP γ} (A : DenE K W XE Γ ta T1 m1) (h : ∀ u, R1Ok r T1 u T (m u)) :
    DenE K W XE Γ (tUn r ta) T (bd m1 m) := fun Qa Ea hh σ H F ev Qv aq ae =>
  A _ _ hh σ H F ev _ (fun u x H1 hu p r1 => h u _ _ hu (W.M0 ++ F) H1 x Qv (ev.step p).dom r1 fun a z H3 ha s q => aq a z H3 ha (p.trans (PSt.same p.ok s)) q) ae
theorem den_cb {α γ : Type} {r : List V → Hp → VK → Prop} {ta : TA} {T1 : TyS α} {T : Ty γ} {m1 : WP α} {m : α → WP γ} (A : DenA K W XE Γ ta T1 m1) (h : ∀ u, RAOk r T1 u T (m u)) :
    DenE K W XE Γ (tCB r ta) T (bd m1 m) := fun Qa Ea hh σ H F ev Qv aq ae =>
  A _ _ hh σ H F ev _ (fun u x H1 hu p r1 => h u _ _ hu (W.M0 ++ F) H1 x Qv (ev.step p).dom r1 fun a z H3 ha s q => aq a z H3 ha (p.trans (PSt.same p.ok s)) q) ae
end
section
variable {X : Cx} {W : Wd} {Γ : List Slot} {XE : XK} {a b e : Expr} {es : List Expr} {ta tb te : TE} {tt : TA} {pos : Pos} {α β γ : Type} {T : Ty α} {S : Ty β} {R : Ty γ} {m : WP α} {n : WP β}
/-! ### expressions -/
theorem d_var {i : Nat} {u : α} (p : PE X e (tVar i)) (h : Γ[i]? = some (.rp T u)) : DE X W XE Γ e (tVar i) T (rt u) :=
  ⟨p, fun Qa Ea hh σ H F ev Qv aq ae => by
    obtain ⟨x, hx, r⟩ := ev.sl.get h
    exact ⟨x, hx, aq u x H hh (PSt.refl ev.ok) r⟩⟩
theorem d_con {v : V} {u : α} (p : PE X e (tC v)) (h : ∀ H, T.rep v H u) : DE X W XE Γ e (tC v) T (rt u) :=
  ⟨p, fun Qa Ea hh σ H F ev Qv aq ae => aq u v H hh (PSt.refl ev.ok) (h _)⟩
/-- another kind for the same value -/
theorem d_as {f : α → β} (A : DE X W XE Γ e te T m) (h : ∀ x H u, T.rep x H u → S.rep x H (f u)) : DE X W XE Γ e te S (bd m fun u => rt (f u)) :=
  ⟨A.pe, fun Qa Ea hh σ H F ev Qv aq ae => A.den _ _ hh σ H F ev _ (fun u x H1 hu p r => aq _ x H1 hu p (h _ _ _ r)) ae⟩
/-- .. where it may not fit -/
theorem d_cast {k : α → WP β} (A : DE X W XE Γ e te T m) (h : ∀ u Qa Ea, k u Qa Ea → ∃ w, Qa w ∧ ∀ x H, T.rep x H u → S.rep x H w) : DE X W XE Γ e te S (bd m k) :=
  ⟨A.pe, fun Qa Ea hh σ H F ev Qv aq ae => A.den _ _ hh σ H F ev _ (fun u x H1 hu p r => by
    obtain ⟨w, hw, hr⟩ := h u _ _ hu
    exact aq w x H1 hw p (hr _ _ r)) ae⟩
theorem d_op {op : Operator} {r : R2} {k : α → β → WP γ} (ho : OpR X (binaryOp op) r) (A : DE X W XE Γ a ta T m) (B : DE X W XE Γ b tb S n) (h : ∀ u v, R2Ok r T u S v R (k u v)) :
    DE X W XE Γ (.BinOp a op b pos) (tOp r ta tb) R (bd m fun u => bd n fun v => k u v) := ⟨pe_op ho A.pe B.pe, den_op A.den B.den h⟩
theorem d_un {op : UnaryOp} {r : V → Hp → VK → Prop} {k : α → WP γ} (ho : UnR X (unaryOp op) r) (A : DE X W XE Γ a ta T m) (h : ∀ u, R1Ok r T u R (k u)) :
    DE X W XE Γ (.UnaryOp op a pos) (tUn r ta) R (bd m k) := ⟨pe_un ho A.pe, den_un A.den h⟩
theorem d_cmp {op : CmpOp} {r : R2} {k : α → β → WP γ} (ho : OpR X (compareOp op) r) (A : DE X W XE Γ a ta T m) (B : DE X W XE Γ b tb S n) (h : ∀ u v, R2Ok r T u S v R (k u v)) (hm : behindInMarks op b = false) :
    DE X W XE Γ (.Compare a [op] [b] pos) (tOp r ta tb) R (bd m fun u => bd n fun v => k u v) := ⟨pe_cmpR ho A.pe B.pe hm, den_op A.den B.den h⟩
theorem d_ix {r : R2} {k : α → β → WP γ} (hr : IxR X r) (A : DE X W XE Γ a ta T m) (B : DE X W XE Γ b tb S n) (h : ∀ u v, R2Ok r T u S v R (k u v)) (hs : PlainIx b) :
    DE X W XE Γ (.Subscript a b pos) (tOp r ta tb) R (bd m fun u => bd n fun v => k u v) := ⟨pe_ix hr A.pe B.pe hs, den_op A.den B.den h⟩
theorem da_nil : DA X W XE Γ [] tNil tsN (rt ()) := ⟨pa_nil, fun Qa Ea hh σ H F ev Qv aq ae => aq () [] H hh (PSt.refl ev.ok) rfl⟩
theorem den_acons {K : PySem.W.Frag} {SS : TyS β} (A : DenE K W XE Γ ta T m) (B : DenA K W XE Γ tt SS n) : DenA K W XE Γ (tCons ta tt) (tsC T SS) (bd m fun u => bd n fun v => rt (u, v)) := fun Qa Ea hh σ H F ev Qv aq ae =>
  A _ _ hh σ H F ev _ (fun u x H1 hu p r1 => B _ _ hu σ H1 F (ev.step p) _ (fun v y H2 hv p2 r2 => aq (u, v) (x :: y) H2 hv (p.trans p2) ⟨x, y, rfl, T.mono p2.vis r1, r2⟩) (ae.step p)) ae
theorem da_cons {SS : TyS β} (A : DE X W XE Γ e ta T m) (B : DA X W XE Γ es tt SS n) (hs : starEach (e :: es) X.env = (false, eval e X.env) :: starEach es X.env := by rfl) :
    DA X W XE Γ (e :: es) (tCons ta tt) (tsC T SS) (bd m fun u => bd n fun v => rt (u, v)) := ⟨pa_cons A.pe B.pe hs, den_acons A.den B.den⟩
theorem d_tup {k x1} {SS : TyS α} {f : α → β} {mm : WP α} {S2 : Ty β} (A : DA X W XE Γ es tt SS mm) (h : ∀ p xs H u, H p = some (.tup xs) → SS.rep xs H u → S2.rep (.ref p) H (f u)) (hl : ∀ xs H u, SS.rep xs H u → xs.length ≤ k) (hk : k ≤ sizeLine) :
    DE X W XE Γ (.Tuple es x1 pos) (tTup tt) S2 (bd mm fun u => rt (f u)) := ⟨pe_tup A.pe, fun Qa Ea hh σ H F ev Qv aq ae =>
  A.den _ _ hh σ H F ev _ (fun u xs H1 hu p r1 => ⟨Nat.le_trans (hl _ _ _ r1) hk, fun q hq => by
    have s : Same H1 (upd H1 q (.tup xs)) := same_new hq
    have v : q ∉ W.M0 ++ F := notin_new (ev.step p).dom hq
    exact aq _ _ _ hu (p.trans (PSt.same p.ok s)) (h q xs _ u (vis_new v) (SS.mono (vis_same s) r1))⟩) ae⟩
theorem d_lst {k} {SS : TyS α} {f : α → β} {mm : WP α} {S2 : Ty β} (A : DA X W XE Γ es tt SS mm) (h : ∀ p xs H u, H p = some (.lst xs) → SS.rep xs H u → S2.rep (.ref p) H (f u)) (hl : ∀ xs H u, SS.rep xs H u → xs.length ≤ k) (hk : k ≤ sizeLine) :
    DE X W XE Γ (.List es pos) (tLst tt) S2 (bd mm fun u => rt (f u)) := ⟨pe_lst A.pe, fun Qa Ea hh σ H F ev Qv aq ae =>
  A.den _ _ hh σ H F ev _ (fun u xs H1 hu p r1 => ⟨Nat.le_trans (hl _ _ _ r1) hk, fun q hq => by
    have s : Same H1 (upd H1 q (.lst xs)) := same_new hq
    have v : q ∉ W.M0 ++ F := notin_new (ev.step p).dom hq
    exact aq _ _ _ hu (p.trans (PSt.same p.ok s)) (h q xs _ u (vis_new v) (SS.mono (vis_same s) r1))⟩) ae⟩
/-! ### tests -/
theorem den_tB {K : PySem.W.Frag} {m : WP Bool} (A : DenE K W XE Γ ta tyB m) : DenT K W XE Γ (tB ta) m := fun Qa Ea hh σ H F ev Qv aq ae =>
  A _ _ hh σ H F ev _ (fun u x H1 hu p r => ⟨u, r, aq u H1 hu p⟩) ae
theorem t_val {m : WP Bool} (A : DE X W XE Γ e ta tyB m) (he : ∀ whole, isTrue e X.env whole = (do let v ← whole; standAt e.pos; holding [v] (truthy v)) := by intro _; rfl) : DT X W XE Γ e (tB ta) m := ⟨pt_val A.pe he, den_tB A.den⟩
theorem t_cmp {op : CmpOp} {r : R2} {k : α → β → WP Bool} (ho : OpR X (compareOp op) r) (A : DE X W XE Γ a ta T m) (B : DE X W XE Γ b tb S n) (h : ∀ u v, R2Ok r T u S v tyB (k u v)) (hm : behindInMarks op b = false) :
    DT X W XE Γ (.Compare a [op] [b] pos) (tTest (tOp r ta tb)) (bd m fun u => bd n fun v => k u v) := ⟨pt_cmpR ho A.pe B.pe hm, den_tB (den_op A.den B.den h)⟩
theorem t_not {t : TT} {m : WP Bool} (A : DT X W XE Γ a t m) : DT X W XE Γ (.UnaryOp .Not a pos) (tNot t) (bd m fun c => rt (!c)) := ⟨pt_not A.pe, fun Qa Ea hh σ H F ev Qv aq ae =>
  A.den _ _ hh σ H F ev _ (fun c H1 hc p => aq _ H1 hc p) ae⟩
theorem w_pt {t : TT} {m : WP Bool} (A : DW X W XE Γ a t m) : DT X W XE Γ a t m := ⟨PW.pt A.pe, A.den⟩
theorem w_and1 {t : TT} {m : WP Bool} (A : DT X W XE Γ a t m) : DW X W XE Γ (.BoolOp .And [a] pos) t m := ⟨pw_and1 A.pe, A.den⟩
theorem w_or1 {t : TT} {m : WP Bool} (A : DT X W XE Γ a t m) : DW X W XE Γ (.BoolOp .Or [a] pos) t m := ⟨pw_or1 A.pe, A.den⟩
theorem den_tand {K : PySem.W.Frag} {t u : TT} {m n : WP Bool} (A : DenT K W XE Γ t m) (B : DenT K W XE Γ u n) : DenT K W XE Γ (tAnd t u) (bd m fun c => if c = true then n else rt false) := fun Qa Ea hh σ H F ev Qv aq ae =>
  A _ _ hh σ H F ev _ (fun c H1 hc p => by
    cases c with
    | true => rw [if_pos rfl]; exact B _ _ hc σ H1 F (ev.step p) _ (aq.step p) (ae.step p)
    | false => rw [if_neg Bool.false_ne_true]; exact aq false H1 hc p) ae
theorem den_tor {K : PySem.W.Frag} {t u : TT} {m n : WP Bool} (A : DenT K W XE Γ t m) (B : DenT K W XE Γ u n) : DenT K W XE Γ (tOr t u) (bd m fun c => if c = true then rt true else n) := fun Qa Ea hh σ H F ev Qv aq ae =>
  A _ _ hh σ H F ev _ (fun c H1 hc p => by
    cases c with
    | false => rw [if_neg Bool.false_ne_true]; exact B _ _ hc σ H1 F (ev.step p) _ (aq.step p) (ae.step p)
    | true => rw [if_pos rfl]; exact aq true H1 hc p) ae
theorem w_and {t u : TT} {m n : WP Bool} (A : DT X W XE Γ a t m) (B : DW X W XE Γ (.BoolOp .And (b :: es) pos) u n) : DW X W XE Γ (.BoolOp .And (a :: b :: es) pos) (tAnd t u) (bd m fun c => if c = true then n else rt false) := ⟨pw_and A.pe B.pe, den_tand A.den B.den⟩
theorem w_or {t u : TT} {m n : WP Bool} (A : DT X W XE Γ a t m) (B : DW X W XE Γ (.BoolOp .Or (b :: es) pos) u n) : DW X W XE Γ (.BoolOp .Or (a :: b :: es) pos) (tOr t u) (bd m fun c => if c = true then rt true else n) := ⟨pw_or A.pe B.pe, den_tor A.den B.den⟩
/-! .. as values -/
theorem d_one {op} (A : DE X W XE Γ a ta T m) : DE X W XE Γ (.BoolOp op [a] pos) ta T m := ⟨pe_one A.pe, A.den⟩
theorem d_and {m n : WP Bool} (A : DE X W XE Γ a ta tyB m) (B : DE X W XE Γ (.BoolOp .And (b :: es) pos) tb tyB n) : DE X W XE Γ (.BoolOp .And (a :: b :: es) pos) (tAndV ta tb) tyB (bd m fun c => if c = true then n else rt false) :=
  ⟨pe_and A.pe B.pe, fun Qa Ea hh σ H F ev Qv aq ae => A.den _ _ hh σ H F ev _ (fun c x H1 hc p r => ⟨c, r, by
    cases c with
    | true => rw [if_pos rfl]; exact B.den _ _ hc σ H1 F (ev.step p) _ (aq.step p) (ae.step p)
    | false => rw [if_neg Bool.false_ne_true]; exact aq false _ H1 hc p rfl⟩) ae⟩
theorem d_or {m n : WP Bool} (A : DE X W XE Γ a ta tyB m) (B : DE X W XE Γ (.BoolOp .Or (b :: es) pos) tb tyB n) : DE X W XE Γ (.BoolOp .Or (a :: b :: es) pos) (tOrV ta tb) tyB (bd m fun c => if c = true then rt true else n) :=
  ⟨pe_or A.pe B.pe, fun Qa Ea hh σ H F ev Qv aq ae => A.den _ _ hh σ H F ev _ (fun c x H1 hc p r => ⟨c, r, by
    cases c with
    | false => rw [if_neg Bool.false_ne_true]; exact B.den _ _ hc σ H1 F (ev.step p) _ (aq.step p) (ae.step p)
    | true => rw [if_pos rfl]; exact aq true _ H1 hc p rfl⟩) ae⟩
theorem d_not {m : WP Bool} (A : DE X W XE Γ a ta tyB m) : DE X W XE Γ (.UnaryOp .Not a pos) (tNotV ta) tyB (bd m fun c => rt (!c)) :=
  ⟨pe_not A.pe, fun Qa Ea hh σ H F ev Qv aq ae => A.den _ _ hh σ H F ev _ (fun c x H1 hc p r => ⟨c, r, aq _ _ H1 hc p rfl⟩) ae⟩
theorem d_ife {c : Expr} {t : TT} {mc : WP Bool} {m n : WP α} (C : DT X W XE Γ c t mc) (A : DE X W XE Γ a ta T m) (B : DE X W XE Γ b tb T n) : DE X W XE Γ (.IfExp c a b pos) (tIf t ta tb) T (bd mc fun c => if c = true then m else n) :=
  ⟨pe_ifExp C.pe A.pe B.pe, fun Qa Ea hh σ H F ev Qv aq ae => C.den _ _ hh σ H F ev _ (fun c H1 hc p => by
    cases c with
    | true => rw [if_pos rfl]; exact A.den _ _ hc σ H1 F (ev.step p) _ (aq.step p) (ae.step p)
    | false => rw [if_neg Bool.false_ne_true]; exact B.den _ _ hc σ H1 F (ev.step p) _ (aq.step p) (ae.step p)) ae⟩
end
end Dn

namespace Dn
open PySem PySem.Spec PyProof.Rows L2 Wx NdefX
/-! ### statements -/
/-- what is wanted behind a piece of a body -/
structure AE (s l ρ : Type) where
  nx : s → Prop
  bk : l → Prop
  ct : l → Prop
  rt : ρ → Prop
  ex : Ex → Prop
abbrev SB (s l ρ : Type) := AE s l ρ → Prop
/-! how pieces of a body go together -/
def seS {s l ρ α : Type} (m : WP α) (k : α → SB s l ρ) : SB s l ρ := fun D => m (fun u => k u D) D.ex
def reS {s l ρ : Type} (m : WP ρ) : SB s l ρ := fun D => m D.rt D.ex
def nxS {s l ρ : Type} (a : s) : SB s l ρ := fun D => D.nx a
def bkS {s l ρ : Type} (a : l) : SB s l ρ := fun D => D.bk a
def ctS {s l ρ : Type} (a : l) : SB s l ρ := fun D => D.ct a
def AE.nxt {s t l ρ : Type} (A : AE s l ρ) (f : t → Prop) : AE t l ρ := ⟨f, A.bk, A.ct, A.rt, A.ex⟩
def ifS {s t l ρ : Type} (mc : WP Bool) (ma mb : SB t l ρ) (k : t → SB s l ρ) : SB s l ρ := fun D => mc (fun c => if c = true then ma (D.nxt fun u => k u D) else mb (D.nxt fun u => k u D)) D.ex
def if1S {s l ρ : Type} (mc : WP Bool) (ma mb : SB s l ρ) : SB s l ρ := fun D => mc (fun c => if c = true then ma D else mb D) D.ex
/-- behind a def's return -/
structure Out (W : Wd) (H : Hp) : Prop where
  ok : W.ok H
  frm : ∀ b o, b ∉ W.M0 → W.H0 b = some o → H b = some o
theorem EvF.out {W : Wd} {Γ : List Slot} {σ : L2.St} {H : Hp} {F : List Addr} (x : EvF W Γ σ H F) : Out W H := ⟨x.ok, x.frm⟩
section
variable (K : PySem.W.Frag) {s l ρ : Type}
/-- what the plain wish A says of the ends D -/
structure Meets (W : Wd) (XE : XK) (G : Hp) (Γ' : s → List Slot) (ΓL : l → List Slot) (T : Ty ρ) (A : AE s l ρ) (D : Ends) : Prop where
  nx : ∀ a σ H F, A.nx a → EvF W (Γ' a) σ H F → Same G (vis (W.M0 ++ F) H) → D.nx σ H
  bk : ∀ a σ H F, A.bk a → EvF W (ΓL a) σ H F → Same G (vis (W.M0 ++ F) H) → D.bk σ H
  ct : ∀ a σ H F, A.ct a → EvF W (ΓL a) σ H F → Same G (vis (W.M0 ++ F) H) → D.ct σ H
  rt : ∀ r x H, A.rt r → Out W H → T.rep x (vis W.M0 H) r → D.rt x H
  ex : ∀ e c d H, A.ex e → Out W H → ExRep K e c d (vis W.M0 H) → XE c d H
def DenS (W : Wd) (XE : XK) (Γ : List Slot) (ts : TS) (Γ' : s → List Slot) (ΓL : l → List Slot) (T : Ty ρ) (m : SB s l ρ) : Prop :=
  ∀ A, m A → ∀ σ H F, EvF W Γ σ H F → ∀ D, Meets K W XE (vis (W.M0 ++ F) H) Γ' ΓL T A D → ts D σ H
structure DS (X : Cx) (W : Wd) (XE : XK) (Γ : List Slot) (ss : List Stmt) (ts : TS) (Γ' : s → List Slot) (ΓL : l → List Slot) (T : Ty ρ) (m : SB s l ρ) : Prop where
  ps : PSs X ss ts
  den : DenS X.K W XE Γ ts Γ' ΓL T m
end
theorem vis_app {L F : List Addr} {H : Hp} : Same (vis (L ++ F) H) (vis L H) := vis_less fun b m => List.mem_append_left _ m
section
variable {K : PySem.W.Frag} {s t l ρ : Type} {W : Wd} {XE : XK} {Γ : List Slot} {Γ' : s → List Slot} {ΓL : l → List Slot} {T : Ty ρ} {A : AE s l ρ} {D : Ends} {σ : L2.St} {H : Hp} {F : List Addr}
theorem Meets.aft {G : Hp} (M : Meets K W XE G Γ' ΓL T A D) (ev : EvF W Γ σ H F) : AftE K W F H XE A.ex := fun e c d H' h p r => M.ex e c d H' h (ev.step p).out (r.mono K vis_app)
theorem Meets.ret {G : Hp} (M : Meets K W XE G Γ' ΓL T A D) (ev : EvF W Γ σ H F) : Aft W F H T A.rt D.rt := fun a x H' h p r => M.rt a x H' h (ev.step p).out (T.mono vis_app r)
theorem Meets.up {G G2 : Hp} (M : Meets K W XE G Γ' ΓL T A D) (s : Same G G2) : Meets K W XE G2 Γ' ΓL T A D :=
  ⟨fun a σ H F h ev q => M.nx a σ H F h ev (s.trans q), fun a σ H F h ev q => M.bk a σ H F h ev (s.trans q), fun a σ H F h ev q => M.ct a σ H F h ev (s.trans q), M.rt, M.ex⟩
theorem Meets.nxt {G : Hp} {Γ2 : t → List Slot} {f : t → Prop} {g : L2.St → Hp → Prop} (M : Meets K W XE G Γ' ΓL T A D) (h : ∀ a σ H F, f a → EvF W (Γ2 a) σ H F → Same G (vis (W.M0 ++ F) H) → g σ H) : Meets K W XE G Γ2 ΓL T (A.nxt f) { D with nx := g } := ⟨h, M.bk, M.ct, M.rt, M.ex⟩
theorem vis_sub {W : Wd} {H : Hp} {F F' : List Addr} (sub : ∀ b ∈ F', b ∈ F) : Same (vis (W.M0 ++ F) H) (vis (W.M0 ++ F') H) := vis_less fun b m => by
  rcases List.mem_append.mp m with q | q
  · exact List.mem_append_left _ q
  · exact List.mem_append_right _ (sub b q)
end
section
variable {X : Cx} {s t l ρ : Type} {W : Wd} {XE : XK} {Γ : List Slot} {Γ' : s → List Slot} {Γ1 : t → List Slot} {ΓL : l → List Slot} {R : Ty ρ} {st : Stmt} {ss : List Stmt} {ts : TS} {α β : Type} {T : Ty α} {m : WP α} {e : Expr} {te : TE}
/-- a block's end -/
theorem s_end (a : s) (h : Lower Γ (Γ' a)) : DS X W XE Γ [] tNext Γ' ΓL R (nxS a) :=
  ⟨pss_nil, fun A hA σ H F ev D M => by
    obtain ⟨F', sub, q⟩ := ev.lower h
    exact M.nx a σ H F' hA q (vis_sub sub)⟩
/-- an end that is not come to -/
theorem s_dead : DS X W XE Γ [] tNext Γ' ΓL R (fun _ => False) := ⟨pss_nil, fun A hA => hA.elim⟩
theorem s_break (b : l) {pos : Pos} (h : Lower Γ (ΓL b)) : DS X W XE Γ (.Break pos :: []) (tSeq tBreak tNext) Γ' ΓL R (bkS b) :=
  ⟨pss_cons ps_break pss_nil, fun A hA σ H F ev D M => by
    obtain ⟨F', sub, q⟩ := ev.lower h
    exact M.bk b σ H F' hA q (vis_sub sub)⟩
theorem s_cont (b : l) {pos : Pos} (h : Lower Γ (ΓL b)) : DS X W XE Γ (.Continue pos :: []) (tSeq tCont tNext) Γ' ΓL R (ctS b) :=
  ⟨pss_cons ps_continue pss_nil, fun A hA σ H F ev D M => by
    obtain ⟨F', sub, q⟩ := ev.lower h
    exact M.ct b σ H F' hA q (vis_sub sub)⟩
/-- name = e -/
theorem s_set [Inhabited α] {i : Nat} {k : α → SB s l ρ} (p : PE X e te → PS X st (tAsg te (gName i))) (A : DE X W XE Γ e te T m) (h : (Γ[i]?.any Slot.imm) = true) (B : ∀ u, DS X W XE (Γ.set i (.rp T u)) ss ts Γ' ΓL R (k u)) :
    DS X W XE Γ (st :: ss) (tSeq (tAsg te (gName i)) ts) Γ' ΓL R (seS m k) :=
  ⟨pss_cons (p A.pe) (B default).ps, fun Z hZ σ H F ev D M => A.den _ _ hZ σ H F ev _ (fun u x H1 hu p r => (B u).den Z hu _ H1 F ((ev.step p).set r h) D (M.up p.vis)) (M.aft ev)⟩
theorem s_ret {pos : Pos} {m : WP ρ} (A : DE X W XE Γ e te R m) : DS X W XE Γ [.Return (some e) pos] (tSeq (tRet te) tNext) Γ' ΓL R (reS m) :=
  ⟨pss_cons (ps_ret A.pe) pss_nil, fun Z hZ σ H F ev D M => A.den _ _ hZ σ H F ev _ (M.ret ev) (M.aft ev)⟩
theorem s_retN {pos : Pos} : DS X W XE Γ [.Return none pos] (tSeq tRetN tNext) Γ' ΓL tyN (reS (rt ())) :=
  ⟨pss_cons ps_retN pss_nil, fun Z hZ σ H F ev D M => M.ret ev () .non H hZ (PSt.refl ev.ok) rfl⟩
theorem s_if [Inhabited t] {pos : Pos} {c : Expr} {a b : List Stmt} {tc : TT} {ta tb : TS} {mc : WP Bool} {ma mb : SB t l ρ} {k : t → SB s l ρ} (C : DT X W XE Γ c tc mc) (A : DS X W XE Γ a ta Γ1 ΓL R ma) (B : DS X W XE Γ b tb Γ1 ΓL R mb)
    (Z : ∀ u, DS X W XE (Γ1 u) ss ts Γ' ΓL R (k u)) : DS X W XE Γ (.If c a b pos :: ss) (tSeq (tIfS tc ta tb) ts) Γ' ΓL R (ifS mc ma mb k) :=
  ⟨pss_cons (ps_if C.pe A.ps B.ps) (Z default).ps, fun Y hY σ H F ev D M => C.den _ _ hY σ H F ev _ (fun c H1 hc p => by
    have M2 : Meets X.K W XE (vis (W.M0 ++ F) H) Γ1 ΓL R (Y.nxt fun u => k u Y) { D with nx := ts D } := M.nxt fun u σ H F hu ev q => (Z u).den Y hu σ H F ev D (M.up q)
    cases c with
    | true => exact A.den _ hc σ H1 F (ev.step p) _ (M2.up p.vis)
    | false => exact B.den _ hc σ H1 F (ev.step p) _ (M2.up p.vis)) (M.aft ev)⟩
/-- .. at a block's end -/
theorem s_if1 {pos : Pos} {c : Expr} {a b : List Stmt} {tc : TT} {ta tb : TS} {mc : WP Bool} {ma mb : SB s l ρ} (C : DT X W XE Γ c tc mc) (A : DS X W XE Γ a ta Γ' ΓL R ma) (B : DS X W XE Γ b tb Γ' ΓL R mb) :
    DS X W XE Γ [.If c a b pos] (tIfS tc ta tb) Γ' ΓL R (if1S mc ma mb) :=
  ⟨pss_one (ps_if C.pe A.ps B.ps), fun Y hY σ H F ev D M => C.den _ _ hY σ H F ev _ (fun c H1 hc p => by
    cases c with
    | true => exact A.den _ hc σ H1 F (ev.step p) _ (M.up p.vis)
    | false => exact B.den _ hc σ H1 F (ev.step p) _ (M.up p.vis)) (M.aft ev)⟩
/-- an expression for what it does -/
theorem s_expr {pos : Pos} {k : SB s l ρ} (hs : swapsWith e none pos.line X.env = pure false) (A : DE X W XE Γ e te T m) (B : DS X W XE Γ ss ts Γ' ΓL R k) :
    DS X W XE Γ (.Expr e pos :: ss) (tSeq (tDrop te) ts) Γ' ΓL R (seS m fun _ => k) :=
  ⟨pss_cons (ps_expr A.pe hs) B.ps, fun Z hZ σ H F ev D M => A.den _ _ hZ σ H F ev _ (fun u x H1 hu p r => B.den Z hu _ H1 F (ev.step p) D (M.up p.vis)) (M.aft ev)⟩
/-- what is weaker known of the slots -/
theorem s_low {Γ2 : List Slot} {k : SB s l ρ} (h : Lower Γ Γ2) (B : DS X W XE Γ2 ss ts Γ' ΓL R k) : DS X W XE Γ ss ts Γ' ΓL R k :=
  ⟨B.ps, fun Z hZ σ H F ev D M => by
    obtain ⟨F', sub, q⟩ := ev.lower h
    exact B.den Z hZ σ H F' q D (M.up (vis_sub sub))⟩
/-- a list of one's own is laid open: it changes no more -/
theorem EvF.freeze {W : Wd} {Γ : List Slot} {σ : L2.St} {H : Hp} {F : List Addr} {i : Nat} {xs : List α} (ev : EvF W Γ σ H F) (h : Γ[i]? = some (.mu (ownL T) xs)) : ∃ F', (∀ b ∈ F', b ∈ F) ∧ EvF W (Γ.set i (.rp (tyL T) xs)) σ H F' := by
  obtain ⟨x, Fa, F1, Fb, hF, hx, ⟨p, vs, rfl, rfl, hp, hr⟩, _, k⟩ := ev.sl.split h
  have sub : ∀ b ∈ Fa ++ Fb, b ∈ F := fun b m => by
    rw [hF]
    rcases List.mem_append.mp m with q | q
    · exact List.mem_append_left _ q
    · exact List.mem_append_right _ (List.mem_append_right _ q)
  have nd := ev.nd
  rw [hF] at nd
  have hsub : (Fa ++ Fb).Sublist (Fa ++ ([p] ++ Fb)) := (List.Sublist.refl _).append (List.sublist_append_right _ _)
  have np : p ∉ W.M0 ++ (Fa ++ Fb) := fun m => by
    rcases List.mem_append.mp m with q | q
    · exact (ev.fr p (by rw [hF]; simp)).2.1 q
    · have e : (Fa ++ ([p] ++ Fb)).Perm (p :: (Fa ++ Fb)) := List.perm_middle
      exact (List.nodup_cons.mp (e.nodup nd)).1 q
  have s : Same (vis (W.M0 ++ F) H) (vis (W.M0 ++ (Fa ++ Fb)) H) := vis_less fun b m => by
    rcases List.mem_append.mp m with q | q
    · exact List.mem_append_left _ q
    · exact List.mem_append_right _ (sub b q)
  have q := k s (fun _ _ => rfl) (T := tyL T) (a' := xs) (x' := .ref p) ⟨p, vs, rfl, (by rw [vis_out np]; exact hp), T.all s hr⟩
  have e : σ.set i (some (V.ref p)) = σ := by
    apply List.ext_getElem?
    intro j
    rw [List.getElem?_set]
    split
    · rename_i hj
      subst hj
      rw [hx]
      split
      · rfl
      · rename_i hl
        have := (List.getElem?_eq_some_iff.mp hx).1
        exact absurd this hl
    · rfl
  rw [e] at q
  exact ⟨Fa ++ Fb, sub, ev.ok, ev.frm, fun b m => ev.fr b (sub b m), nd.sublist hsub, q⟩
theorem s_freeze {i : Nat} {xs : List α} {k : SB s l ρ} (h : Γ[i]? = some (.mu (ownL T) xs)) (B : DS X W XE (Γ.set i (.rp (tyL T) xs)) ss ts Γ' ΓL R k) : DS X W XE Γ ss ts Γ' ΓL R k :=
  ⟨B.ps, fun Z hZ σ H F ev D M => by
    obtain ⟨F', sub, q⟩ := ev.freeze h
    exact B.den Z hZ σ H F' q D (M.up (vis_sub sub))⟩
/-- a list of one's own, read for a value without a heap -/
theorem d_borrow {i : Nat} {xs : List α} {T2 : Ty β} {m : WP β} (hf : Flat T2) (h : Γ[i]? = some (.mu (ownL T) xs)) (A : DE X W XE (Γ.set i (.rp (tyL T) xs)) e te T2 m) : DE X W XE Γ e te T2 (noE m) := ⟨A.pe, fun Qa Ea hh σ H F ev Qv aq ae => by
    obtain ⟨F', sub, q⟩ := ev.freeze h
    exact A.den _ _ hh σ H F' q Qv (fun a x H' ha p r => aq a x H' ha p (hf r)) fun e c d H' he p r => he.elim⟩
theorem t_borrow {i : Nat} {xs : List α} {c : Expr} {tt : TT} {m : WP Bool} (h : Γ[i]? = some (.mu (ownL T) xs)) (A : DT X W XE (Γ.set i (.rp (tyL T) xs)) c tt m) : DT X W XE Γ c tt (noE m) := ⟨A.pe, fun Qa Ea hh σ H F ev Qv aq ae => by
    obtain ⟨F', sub, q⟩ := ev.freeze h
    exact A.den _ _ hh σ H F' q Qv (fun a H' ha p => aq a H' ha p) fun e c d H' he p r => he.elim⟩
/-! ### loops -/
/-- a walk over the values as, at a part G of the heap -/
def Wk {α : Type} (J : It) (G : Hp) (T : Ty α) (as : List α) : Prop :=
  Walk J as.length (fun H => Same G H) fun i H x H2 => Same H H2 ∧ ∃ a, as[i]? = some a ∧ ∀ L : List Addr, (∀ b ∈ L, H b ≠ none) → Same G (vis L H) → T.rep x (vis L H2) a
def DenI (K : PySem.W.Frag) (W : Wd) (XE : XK) (Γ : List Slot) (wi : TI) {α : Type} (T : Ty α) (m : WP (List α)) : Prop :=
  ∀ Qa Ea, m Qa Ea → ∀ σ H F, EvF W Γ σ H F → ∀ R, (∀ as J H', Qa as → PSt W H H' → Wk J (vis (W.M0 ++ F) H') T as → R J H') → AftE K W F H XE Ea → wi σ H R
structure DI (X : Cx) (W : Wd) (XE : XK) (Γ : List Slot) (tg e : Expr) (wi : TI) {α : Type} (T : Ty α) (m : WP (List α)) : Prop where
  pi : PI X tg e wi
  den : DenI X.K W XE Γ wi T m
/-- a target's store -/
def DenG {α : Type} (K : PySem.W.Frag) (Γ : List Slot) (g : TG) (T : Ty α) (Γt : α → List Slot) : Prop :=
  ∀ (W : Wd) a v σ H F, EvF W Γ σ H F → T.rep v (vis (W.M0 ++ F) H) a → ∀ Q : L2.St → Hp → Prop, (∀ σ', EvF W (Γt a) σ' H F → Q σ' H) → g v σ H Q
theorem g_name {K : PySem.W.Frag} {i : Nat} (h : (Γ[i]?.any Slot.imm) = true) : DenG K Γ (gName i) T fun a => Γ.set i (.rp T a) := fun W a v σ H F ev r Q k => k _ (ev.set r h)
def forS {s l ρ α : Type} (f : s → α → SB s s ρ) : List α → s → (s → Prop) → (ρ → Prop) → (Ex → Prop) → Prop
  | [], st, nx, _, _ => nx st
  | a :: as, st, nx, rt, ex => f st a ⟨fun s' => forS (l := l) f as s' nx rt ex, nx, fun s' => forS (l := l) f as s' nx rt ex, rt, ex⟩
def foS {s t l ρ α : Type} (m : WP (List α)) (f : t → α → SB t t ρ) (s0 : t) (k : t → SB s l ρ) : SB s l ρ := fun D => m (fun as => forS (l := l) f as s0 (fun u => k u D) D.rt D.ex) D.ex
theorem s_for [Inhabited t] [Inhabited α] {pos : Pos} {tg it : Expr} {bs : List Stmt} {wi : TI} {g : TG} {tb : TS} {m : WP (List α)} {Γt : t → α → List Slot} {f : t → α → SB t t ρ} {k : t → SB s l ρ} (s0 : t)
    (hp : PassesOwn (model X.prog X.w) X.A X.env X.xe) (hc : X.calm = true) (I : DI X W XE Γ tg it wi T m) (hg : PG X tg g) (hG : ∀ st, DenG X.K (Γ1 st) g T (Γt st)) (h0 : Lower Γ (Γ1 s0))
    (B : ∀ st a, DS X W XE (Γt st a) bs tb Γ1 Γ1 R (f st a)) (Z : ∀ u, DS X W XE (Γ1 u) ss ts Γ' ΓL R (k u)) (hs : ∀ x, foldedSetIterable it X.env x = pure x := by intro _; rfl) :
    DS X W XE Γ (.For tg it bs [] pos :: ss) (tSeq (tFor wi g tb) ts) Γ' ΓL R (foS m f s0 k) :=
  ⟨pss_cons (ps_for hp hc I.pi hg (B default default).ps hs) (Z default).ps, fun Y hY σ H F ev D M => by
    refine I.den _ _ hY σ H F ev _ (fun as J H1 ha p wk => ?_) (M.aft ev)
    have ev1 := ev.step p
    obtain ⟨F1, sub, ev2⟩ := ev1.lower h0
    refine for_it wk (fun i σ2 H2 => ∃ st F2, EvF W (Γ1 st) σ2 H2 F2 ∧ Same (vis (W.M0 ++ F) H1) (vis (W.M0 ++ F2) H2) ∧ forS (l := l) f (as.drop i) st (fun u => k u Y) Y.rt Y.ex) ⟨s0, F1, ev2, vis_sub sub, by rw [List.drop_zero]; exact ha⟩ (fun i σ2 H2 _ ⟨st, F2, _, q, _⟩ => q.trans vis_le) ?_ ?_
    · rintro i x σ2 H2 H3 hi ⟨st, F2, ev3, q, hf⟩ ⟨s3, a, hai, hrep⟩
      have r := hrep (W.M0 ++ F2) ev3.dom q
      have p3 := PSt.same ev3.ok s3
      have ev4 := ev3.step p3
      have q4 : Same (vis (W.M0 ++ F) H1) (vis (W.M0 ++ F2) H3) := q.trans (vis_same s3)
      rw [List.drop_eq_getElem_cons hi] at hf
      have ea : as[i] = a := by
        rw [List.getElem?_eq_getElem hi] at hai
        exact Option.some.inj hai
      rw [ea] at hf
      refine hG st W a x σ2 H3 F2 ev4 r _ fun σ4 ev5 => ?_
      refine (B st a).den _ hf σ4 H3 F2 ev5 _ ⟨fun u σ5 H5 F5 hu ev6 q6 => ⟨u, F5, ev6, q4.trans q6, hu⟩, fun u σ5 H5 F5 hu ev6 q6 => (Z u).den Y hu σ5 H5 F5 ev6 D (M.up ((p.vis.trans q4).trans q6)), fun u σ5 H5 F5 hu ev6 q6 => ⟨u, F5, ev6, q4.trans q6, hu⟩, M.rt, M.ex⟩
    · rintro σ2 H2 ⟨st, F2, ev3, q, hf⟩
      rw [List.drop_length] at hf
      exact (Z st).den Y hf σ2 H2 F2 ev3 D (M.up (p.vis.trans q))⟩
def whileN {s ρ : Type} (c : s → WP Bool) (f : s → SB s s ρ) : Nat → s → (s → Prop) → (ρ → Prop) → (Ex → Prop) → Prop
  | 0, _, _, _, _ => False
  | n + 1, st, nx, rt, ex => c st (fun b => if b = true then f st ⟨fun s' => whileN c f n s' nx rt ex, nx, fun s' => whileN c f n s' nx rt ex, rt, ex⟩ else nx st) ex
def whileS {s ρ : Type} (c : s → WP Bool) (f : s → SB s s ρ) (st : s) (nx : s → Prop) (rt : ρ → Prop) (ex : Ex → Prop) : Prop := ∃ n, whileN c f n st nx rt ex
def whS {s t l ρ : Type} (mc : t → WP Bool) (f : t → SB t t ρ) (s0 : t) (k : t → SB s l ρ) : SB s l ρ := fun D => whileS mc f s0 (fun u => k u D) D.rt D.ex
theorem s_while [Inhabited t] {pos : Pos} {c : Expr} {bs : List Stmt} {tc : TT} {tb : TS} {mc : t → WP Bool} {f : t → SB t t ρ} {k : t → SB s l ρ} (s0 : t)
    (hp : PassesOwn (model X.prog X.w) X.A X.env X.xe) (h0 : Lower Γ (Γ1 s0)) (C : ∀ st, DT X W XE (Γ1 st) c tc (mc st)) (B : ∀ st, DS X W XE (Γ1 st) bs tb Γ1 Γ1 R (f st)) (Z : ∀ u, DS X W XE (Γ1 u) ss ts Γ' ΓL R (k u)) :
    DS X W XE Γ (.While c bs [] pos :: ss) (tSeq (tWhile tc tb) ts) Γ' ΓL R (whS mc f s0 k) :=
  ⟨pss_cons (ps_while hp (C default).pe (B default).ps) (Z default).ps, fun Y ⟨n, hn⟩ σ H F ev D M => by
    obtain ⟨F1, sub, ev2⟩ := ev.lower h0
    refine ⟨fun m σ2 H2 => ∃ st F2, EvF W (Γ1 st) σ2 H2 F2 ∧ Same (vis (W.M0 ++ F) H) (vis (W.M0 ++ F2) H2) ∧ whileN mc f m st (fun u => k u Y) Y.rt Y.ex, ⟨n, s0, F1, ev2, vis_sub sub, hn⟩, ?_⟩
    rintro m σ2 H2 ⟨st, F2, ev3, q, hw⟩
    cases m with
    | zero => exact hw.elim
    | succ m =>
      refine (C st).den _ _ hw σ2 H2 F2 ev3 _ (fun b H3 hb p => ?_) (fun e c d H' h p r => M.ex e c d H' h (ev3.step p).out (r.mono X.K vis_app))
      have ev4 := ev3.step p
      have q4 := q.trans p.vis
      cases b with
      | true =>
        rw [if_pos rfl] at hb
        rw [if_pos rfl]
        refine ⟨fun σ5 H5 => ∃ st F5, EvF W (Γ1 st) σ5 H5 F5 ∧ Same (vis (W.M0 ++ F) H) (vis (W.M0 ++ F5) H5) ∧ whileN mc f m st (fun u => k u Y) Y.rt Y.ex, fun σ' H' h => ⟨m, Nat.lt_succ_self _, h⟩, ?_⟩
        exact (B st).den _ hb σ2 H3 F2 ev4 _ ⟨fun u σ5 H5 F5 hu ev6 q6 => ⟨u, F5, ev6, q4.trans q6, hu⟩, fun u σ5 H5 F5 hu ev6 q6 => (Z u).den Y hu σ5 H5 F5 ev6 D (M.up (q4.trans q6)), fun u σ5 H5 F5 hu ev6 q6 => ⟨u, F5, ev6, q4.trans q6, hu⟩, M.rt, M.ex⟩
      | false =>
        rw [if_neg Bool.false_ne_true] at hb
        rw [if_neg Bool.false_ne_true]
        exact (Z st).den Y hb σ2 H3 F2 ev4 D (M.up q4)⟩
end
end Dn

namespace Dn
open PySem PySem.Spec PyProof.Rows L2 Wx NdefX
instance : Inhabited V := ⟨.non⟩
instance : Inhabited StdV := ⟨⟨[], 0, 0⟩⟩
/-! ### defs -/
def wdF (L : List Addr) (H : Hp) (d : ∀ b ∈ L, H b ≠ none) : Wd where
  M0 := L
  H0 := H
  ok := fun H' => ∀ b ∈ L, H' b = H b
  dom := fun h b m => by rw [h b m]; exact d b m
  lok := fun h k b m => (k b m).trans (h b m)
/-- what a def promises: its arguments read as an a, it does m a -/
def spF (K : PySem.W.Frag) {α ρ : Type} (TA : TyS α) (T : Ty ρ) (m : α → WP ρ) : Sp := fun vs H Q E => ∃ (L : List Addr) (a : α) (Qa : ρ → Prop) (Ea : Ex → Prop), (∀ b ∈ L, H b ≠ none) ∧ TA.rep vs (vis L H) a ∧ m a Qa Ea ∧
  (∀ r x H', Qa r → Same H H' → T.rep x (vis L H') r → Q x H') ∧ (∀ e c d H', Ea e → Same H H' → ExRep K e c d (vis L H') → E c d H')
theorem ev_of_sub {G H : Hp} {Γ : List Slot} {σ : L2.St} (h : Ev G H Γ σ []) : True := trivial
section
variable {X : Cx} {α ρ : Type} {T : Ty ρ} {L : List Addr} {H : Hp} {dL : ∀ b ∈ L, H b ≠ none} {E : XK} {Γ : List Slot} {Γ' ΓL : Unit → List Slot} {σ : L2.St} {ss : List Stmt} {ts : TS} {Q : VK} {Qa : ρ → Prop} {Ea : Ex → Prop}
theorem wdF_same {H' : Hp} (o : Out (wdF L H dL) H') : Same H H' := fun b u e => by
  by_cases m : b ∈ L
  · have h : H' b = H b := o.ok b m
    rw [h]
    exact e
  · exact o.frm b u m e
theorem wdF_ev (h : Ev (vis L H) H Γ σ []) : EvF (wdF L H dL) Γ σ H [] :=
  ⟨fun _ _ => rfl, fun _ _ _ e => e, fun _ m => (nomatch m), List.nodup_nil, by
    have e : (wdF L H dL).M0 ++ [] = L := List.append_nil _
    rw [e]
    exact h⟩
/-- a def whose every way returns -/
theorem fn_body {mb : SB Unit Unit ρ} (B : DS X (wdF L H dL) E Γ ss ts Γ' ΓL T mb) (ev : Ev (vis L H) H Γ σ []) (hm : mb ⟨fun _ => False, fun _ => False, fun _ => False, Qa, Ea⟩)
    (kq : ∀ r x H', Qa r → Same H H' → T.rep x (vis L H') r → Q x H') (ke : ∀ e c d H', Ea e → Same H H' → ExRep X.K e c d (vis L H') → E c d H') : ∃ t, PSs X ss t ∧ t { nx := fun _ H' => Q .non H', rt := Q } σ H :=
  ⟨ts, B.ps, B.den _ hm σ H [] (wdF_ev ev) _ ⟨fun _ _ _ _ h => h.elim, fun _ _ _ _ h => h.elim, fun _ _ _ _ h => h.elim, fun r x H' h o q => kq r x H' h (wdF_same o) q, fun e c d H' h o q => ke e c d H' h (wdF_same o) q⟩⟩
/-- a def that gives None -/
theorem fn_bodyN {mb : SB Unit Unit Unit} {Qa : Unit → Prop} (B : DS X (wdF L H dL) E Γ ss ts Γ' ΓL tyN mb) (ev : Ev (vis L H) H Γ σ []) (hm : mb ⟨Qa, fun _ => False, fun _ => False, Qa, Ea⟩)
    (kq : ∀ r x H', Qa r → Same H H' → tyN.rep x (vis L H') r → Q x H') (ke : ∀ e c d H', Ea e → Same H H' → ExRep X.K e c d (vis L H') → E c d H') : ∃ t, PSs X ss t ∧ t { nx := fun _ H' => Q .non H', rt := Q } σ H :=
  ⟨ts, B.ps, B.den _ hm σ H [] (wdF_ev ev) _ ⟨fun a _ H' _ h ev2 _ => kq a .non H' h (wdF_same ev2.out) rfl, fun _ _ _ _ h => h.elim, fun _ _ _ _ h => h.elim, fun r x H' h o q => kq r x H' h (wdF_same o) q, fun e c d H' h o q => ke e c d H' h (wdF_same o) q⟩⟩
end
/-! ### callees -/
structure Fn (P : Program) (w : World) (K : PySem.W.Frag) (mg : Str → Option Value) (base : Heap) (x : Str) (k : Nat) (ps : List Str) {α ρ : Type} (TA : TyS α) (T : Ty ρ) (m : α → WP ρ) : Prop where
  ex : ∃ (f : Addr) (fd : FuncData), FnOk P w K mg base (L2.CX P w) k f fd ps (spF K TA T m) ∧ mg x = some (.ref f) ∧ PySem.W.keepIn K (.ref f) = true ∧ Binds K fd ps []
/-- a method m of the class at C (its name x), its first argument the instance -/
structure Mt (P : Program) (w : World) (K : PySem.W.Frag) (mg : Str → Option Value) (base : Heap) (C : Addr) (x : Str) (k : Nat) (ps : List Str) {α ρ : Type} (TA : TyS α) (T : Ty ρ) (m : α → WP ρ) : Prop where
  ex : ∃ (f : Addr) (fd : FuncData), FnOk P w K mg base (L2.CX P w) k f fd ps (spF K TA T m) ∧ Meth K C x f ∧ Binds K fd ps []
  cls : Cls K C
section
variable {X : Cx} {W : Wd} {Γ : List Slot} {XE : XK} {e o : Expr} {es : List Expr} {ta : TE} {tt : TA} {pos p apos : Pos} {α β ρ : Type} {TA : TyS α} {R : Ty ρ} {S : Ty β} {ma : WP α} {mo : WP β} {m : α → WP ρ} {x : Str} {k : Nat} {ps : List Str}
theorem den_call {K : PySem.W.Frag} {T : Ty ρ} (A : DenA K W XE Γ tt TA ma) : DenE K W XE Γ (tCallS (spF K TA T m) (fun _ => XE) tt) T (bd ma m) := fun Qa Ea hh σ H F ev Qv aq ae =>
  A _ _ hh σ H F ev _ (fun u vs H1 hu p r => ⟨W.M0 ++ F, u, Qa, Ea, (ev.step p).dom, r, hu, fun r x H' hr s q => aq r x H' hr (p.trans (PSt.same p.ok s)) q, fun e c d H' he s q => ae e c d H' he (p.trans (PSt.same p.ok s)) q⟩) ae
theorem d_call {K : PySem.W.Frag} (hK : X.K = K) (c : Fn X.prog X.w K X.mg X.base x k ps TA R m) (hr : Room k X.A) (hx : ∀ σ, PassesAt (L2.CX X.prog X.w) X σ XE) (A : DA X W XE Γ (e :: es) tt TA ma) (hg : Gl X x := by rfl)
    (hdb : (x == ("__debug__" : Str)) = false := by decide) (he : starEach (e :: es) X.env = (false, eval e X.env) :: starEach es X.env := by rfl) (hpl : (backTo pos (starEach es X.env)).any (·.1) = false := by rfl) :
    DE X W XE Γ (.Call (.Name x p) (e :: es) [] pos) (tCallS (spF K TA R m) (fun _ => XE) tt) R (bd ma m) := by
  subst hK
  exact ⟨by
    obtain ⟨f, fd, F, hm, hk, hb⟩ := c.ex
    exact pe_callS F hr hg hm hk hb hx A.pe hdb he hpl, den_call A.den⟩
theorem d_call0 {K : PySem.W.Frag} (hK : X.K = K) {TA : TyS Unit} {m : Unit → WP ρ} (h0 : ∀ H, TA.rep [] H ()) (c : Fn X.prog X.w K X.mg X.base x k ps TA R m) (hr : Room k X.A) (hx : ∀ σ, PassesAt (L2.CX X.prog X.w) X σ XE) (hg : Gl X x := by rfl) (hdb : (x == ("__debug__" : Str)) = false := by decide) :
    DE X W XE Γ (.Call (.Name x p) [] [] pos) (tCall (spF K TA R m) [] XE tNil) R (m ()) := by
  subst hK
  exact ⟨by
    obtain ⟨f, fd, F, hm, hk, hb⟩ := c.ex
    exact pe_call0 F hr hg hm hk hb .nil (fun pins σ => hx σ pins) hdb, fun Qa Ea hh σ H F ev Qv aq ae =>
    ⟨W.M0 ++ F, (), Qa, Ea, ev.dom, h0 _, hh, fun r x H' hr s q => aq r x H' hr (PSt.same ev.ok s) q, fun e c d H' he s q => ae e c d H' he (PSt.same ev.ok s) q⟩⟩
/-- an instance by what is known of it: its class, no attribute of the method's name -/
def IsIns {β : Type} (C : Addr) (x : Str) (S : Ty β) : Prop := ∀ v H b, S.rep v H b → ∃ p dx fs, v = .ref p ∧ H p = some (.ins C dx fs) ∧ fs.lookup x = none
theorem den_meth {K : PySem.W.Frag} {C : Addr} {T : Ty ρ} {m : β × α → WP ρ} (hi : IsIns C x S) (O : DenE K W XE Γ ta S mo) (A : DenA K W XE Γ tt TA ma) : DenE K W XE Γ (tMeth C x (spF K (tsC S TA) T m) [] XE ta tt) T (bd mo fun b => bd ma fun a => m (b, a)) := fun Qa Ea hh σ H F ev Qv aq ae =>
  O _ _ hh σ H F ev _ (fun b v H1 hb p1 r1 => by
    obtain ⟨p, dx, fs, rfl, hp, hl⟩ := hi _ _ _ r1
    refine ⟨p, dx, fs, rfl, vis_le _ _ hp, hl, ?_⟩
    refine A _ _ hb σ H1 F (ev.step p1) _ (fun a vs H2 ha p2 r2 => ?_) (ae.step p1)
    refine ⟨W.M0 ++ F, (b, a), Qa, Ea, ((ev.step p1).step p2).dom, ⟨.ref p, vs ++ [], rfl, S.mono p2.vis r1, by rw [List.append_nil]; exact r2⟩, ha, fun r x H' hr s q => aq r x H' hr ((p1.trans p2).trans (PSt.same p2.ok s)) q, fun e c d H' he s q => ae e c d H' he ((p1.trans p2).trans (PSt.same p2.ok s)) q⟩) ae
theorem d_meth {K : PySem.W.Frag} (hK : X.K = K) {C : Addr} {mm : β → α → WP ρ} {pl : Sem Bool} (c : Mt X.prog X.w K X.mg X.base C x k ps (tsC S TA) R fun q => mm q.1 q.2) (hi : IsIns C x S) (hr : Room k X.A) (hx : ∀ σ, PassesAt (L2.CX X.prog X.w) X σ XE) (O : DE X W XE Γ o ta S mo) (A : DA X W XE Γ (e :: es) tt TA ma)
    (hst : starEach (e :: es) X.env = (false, eval e X.env) :: starEach es X.env := by rfl) (hpl : (backTo pos (starEach es X.env)).any (·.1) = false := by rfl)
    (ht : eval (.Call (.Attribute o x apos) (e :: es) [] pos) X.env = (do
      let ov ← eval o X.env
      standAt apos.atName
      let (f, first) ← holding [ov] (getMethod ov x pl)
      callWith pos f first (backTo pos (starEach (e :: es) X.env)) (backToKw pos (keywordEach [] X.env))) := by rfl) :
    DE X W XE Γ (.Call (.Attribute o x apos) (e :: es) [] pos) (tMeth C x (spF K (tsC S TA) R fun q => mm q.1 q.2) [] XE ta tt) R (bd mo fun b => bd ma fun a => mm b a) := by
  subst hK
  exact ⟨by
    obtain ⟨f, fd, F, hm, hb⟩ := c.ex
    exact pe_meth O.pe c.cls hm F hr hb .nil (fun pins σ => hx σ pins) A.pe hst hpl ht, den_meth hi O.den A.den⟩
theorem d_meth0 {K : PySem.W.Frag} (hK : X.K = K) {C : Addr} {mm : β → WP ρ} {pl : Sem Bool} (c : Mt X.prog X.w K X.mg X.base C x k ps (tsC S tsN) R fun q => mm q.1) (hi : IsIns C x S) (hr : Room k X.A) (hx : ∀ σ, PassesAt (L2.CX X.prog X.w) X σ XE) (O : DE X W XE Γ o ta S mo)
    (ht : eval (.Call (.Attribute o x apos) [] [] pos) X.env = (do
      let ov ← eval o X.env
      standAt apos.atName
      let (f, first) ← holding [ov] (getMethod ov x pl)
      callWith pos f first (backTo pos (starEach [] X.env)) (backToKw pos (keywordEach [] X.env))) := by rfl) :
    DE X W XE Γ (.Call (.Attribute o x apos) [] [] pos) (tMeth C x (spF K (tsC S tsN) R fun q => mm q.1) [] XE ta tNil) R (bd mo fun b => bd (rt ()) fun _ => mm b) := by
  subst hK
  exact ⟨by
    obtain ⟨f, fd, F, hm, hb⟩ := c.ex
    exact pe_meth0 O.pe c.cls hm F hr hb .nil (fun pins σ => hx σ pins) ht, den_meth hi O.den (fun Qa Ea hh σ H F ev Qv aq ae => aq () [] H hh (PSt.refl ev.ok) rfl)⟩
/-- e.f by a property -/
theorem d_prop {K : PySem.W.Frag} (hK : X.K = K) {C pr g : Addr} {fd : FuncData} {f : Str} {mm : β → WP ρ} (c : Cls K C) (hp : PropOf K C f pr g) (F : FnOk X.prog X.w K X.mg X.base (L2.CX X.prog X.w) k g fd ps (spF K (tsC S tsN) R fun q => mm q.1)) (hb : Binds K fd ps [])
    (hi : ∀ v H b, S.rep v H b → ∃ p dx fs, v = .ref p ∧ H p = some (.ins C dx fs)) (hr : Room (k + 1) X.A) (O : DE X W XE Γ o ta S mo) (hab : attributeBase o f X.env (eval o X.env) = eval o X.env) :
    DE X W XE Γ (.Attribute o f pos) (tProp C (spF K (tsC S tsN) R fun q => mm q.1) [] (fun _ _ _ => False) ta) R (bd mo fun b => noE (mm b)) := by
  subst hK
  exact ⟨pe_prop O.pe c hp F hr hb .nil (fun pins σ H s e s' I c => (passNo σ) pins H s e s' I c) hab, fun Qa Ea hh σ H F ev Qv aq ae =>
    O.den _ _ hh σ H F ev _ (fun b v H1 hb p1 r1 => by
      obtain ⟨p, dx, fs, rfl, hp⟩ := hi _ _ _ r1
      exact ⟨p, dx, fs, rfl, vis_le _ _ hp, W.M0 ++ F, (b, ()), Qa, fun _ => False, (ev.step p1).dom, ⟨.ref p, [], rfl, r1, rfl⟩, hb, fun r x H' hr s q => aq r x H' hr (p1.trans (PSt.same p1.ok s)) q, fun e c d H' he s q => he.elim⟩) ae⟩
end
/-! ### attributes -/
/-- attributes that were given one after the other -/
def tsS {α β : Type} (S : TyS β) (T : Ty α) : TyS (β × α) := ⟨fun xs H p => ∃ ys v, xs = ys ++ [v] ∧ S.rep ys H p.1 ∧ T.rep v H p.2, fun s ⟨ys, v, e, h, q⟩ => ⟨ys, v, e, S.mono s h, T.mono s q⟩⟩
structure Fld {α β : Type} (fs : List Str) (S : TyS β) (f : Str) (T : Ty α) (π : β → α) : Prop where
  get : ∀ ws H b, S.rep ws H b → ws.length = fs.length → ∃ v, (fs.zip ws).lookup f = some v ∧ T.rep v H (π b)
theorem lookup_none {fs : List Str} {f : Str} (h : f ∉ fs) : ∀ ws : List V, (fs.zip ws).lookup f = none := fun ws => by
  cases e : (fs.zip ws).lookup f with
  | none => rfl
  | some v => exact absurd (List.of_mem_zip (PySem.mem_of_lookup e)).1 h
theorem lookup_append {f : Str} : ∀ (l r : List (Str × V)), (l ++ r).lookup f = match l.lookup f with | some v => some v | none => r.lookup f
  | [], _ => rfl
  | (g, x) :: l, r => by
    show (match f == g with | true => some x | false => (l ++ r).lookup f) = match (match f == g with | true => some x | false => l.lookup f) with | some v => some v | none => r.lookup f
    cases f == g with
    | true => rfl
    | false => exact lookup_append l r
theorem fld_here {α β : Type} {fs : List Str} {S : TyS β} {f : Str} {T : Ty α} (h : f ∉ fs) : Fld (fs ++ [f]) (tsS S T) f T (·.2) := ⟨fun ws H b ⟨ys, v, e, _, q⟩ l => by
  have ly : fs.length = ys.length := by
    rw [e, List.length_append, List.length_append, List.length_singleton, List.length_singleton] at l
    omega
  refine ⟨v, ?_, q⟩
  rw [e, List.zip_append ly, lookup_append, lookup_none h]
  show (match f == f with | true => some v | false => _) = _
  rw [beq_self_eq_true]⟩
theorem fld_there {α β γ : Type} {fs : List Str} {S : TyS β} {f g : Str} {T : Ty α} {U : Ty γ} {π : β → γ} (h : Fld fs S g U π) : Fld (fs ++ [f]) (tsS S T) g U (fun b => π b.1) := ⟨fun ws H b ⟨ys, v, e, r, q⟩ l => by
  have ly : fs.length = ys.length := by
    rw [e, List.length_append, List.length_append, List.length_singleton, List.length_singleton] at l
    omega
  obtain ⟨u, h1, h2⟩ := h.get ys H b.1 r ly.symm
  refine ⟨u, ?_, h2⟩
  rw [e, List.zip_append ly, lookup_append, h1]⟩
theorem tyC_ins {α : Type} {C : Addr} {fs : List Str} {S : TyS α} {x : Str} (h : x ∉ fs) : IsIns C x (tyC C fs S) := fun v H b ⟨p, dx, vs, e, hp, hl, r⟩ => ⟨p, dx, _, e, hp, lookup_none h vs⟩
theorem tyM_ins {α β : Type} {C : Addr} {x : Str} {S : Ty α} {f : β → α} (h : IsIns C x S) : IsIns C x (tyM S f) := fun v H b r => h v H (f b) r
section
variable {X : Cx} {W : Wd} {Γ : List Slot} {XE : XK} {o : Expr} {ta : TE} {pos : Pos} {α β γ δ : Type} {S : TyS β} {T : Ty α} {mo : WP δ}
/-- e.f -/
theorem d_fld {K : PySem.W.Frag} (hK : X.K = K) {C : Addr} {fs : List Str} {f : Str} {π : β → α} {g : δ → β} {k : δ → α} (F : Fld fs S f T π) (c : Cls K C) (n : NoAttr K C f) (O : DE X W XE Γ o ta (tyM (tyC C fs S) g) mo) (hk : ∀ d, k d = π (g d)) (hb : attributeBase o f X.env (eval o X.env) = eval o X.env := by rfl) :
    DE X W XE Γ (.Attribute o f pos) (tFld K ta f) T (bd mo fun d => rt (k d)) := by
  subst hK
  exact ⟨pe_fld O.pe hb, fun Qa Ea hh σ H F2 ev Qv aq ae => O.den _ _ hh σ H F2 ev _ (fun d x H1 hd p1 ⟨p, dx, vs, e, hp, hl, r⟩ => by
    obtain ⟨v, h1, h2⟩ := F.get vs _ _ r hl
    rw [← hk d] at h2
    exact ⟨p, C, dx, _, v, e, vis_le _ _ hp, c, n, h1, aq _ v H1 hd p1 h2⟩) ae⟩
/-- an instance that is being made -/
def ownI (C p : Addr) (fs : List Str) (S : TyS β) : Own β := ⟨fun x G H F b => x = .ref p ∧ F = [p] ∧ ∃ dx ws, H p = some (.ins C dx (fs.zip ws)) ∧ ws.length = fs.length ∧ S.rep ws G b, fun ⟨e, f, dx, ws, h, l, r⟩ s k => ⟨e, f, dx, ws, (k p (by rw [f]; exact List.mem_cons_self)).trans h, l, S.mono s r⟩⟩
/-- self.f of such a one -/
theorem d_fldI {K : PySem.W.Frag} (hK : X.K = K) {C p0 : Addr} {fs : List Str} {f : Str} {π : β → α} {i : Nat} {b : β} (h : Γ[i]? = some (.mu (ownI C p0 fs S) b)) (F : Fld fs S f T π) (c : Cls K C) (n : NoAttr K C f) (po : PE X o (tVar i)) (hb : attributeBase o f X.env (eval o X.env) = eval o X.env := by rfl) :
    DE X W XE Γ (.Attribute o f pos) (tFld K (tVar i) f) T (rt (π b)) := by
  subst hK
  exact ⟨pe_fld po hb, fun Qa Ea hh σ H F2 ev Qv aq ae => by
    obtain ⟨x, Fa, F1, Fb, hF, hx, ⟨rfl, rfl, dx, ws, hp, hl, r⟩, _, _⟩ := ev.sl.split h
    obtain ⟨v, h1, h2⟩ := F.get ws _ _ r hl
    exact ⟨_, hx, p0, C, dx, _, v, rfl, hp, c, n, h1, aq _ v H hh (PSt.refl ev.ok) h2⟩⟩
theorem putF_new {f : Str} {v : V} : ∀ {l : List (Str × V)}, l.lookup f = none → putF f v l = l ++ [(f, v)]
  | [], _ => rfl
  | (g, x) :: l, h => by
    have h1 : (match f == g with | true => some x | false => l.lookup f) = none := h
    have ne : ¬ g = f := fun z => by
      rw [z, beq_self_eq_true] at h1
      cases h1
    have e : (f == g) = false := by
      cases q : f == g with
      | true => exact absurd (eq_of_beq q).symm ne
      | false => rfl
    rw [e] at h1
    show (if g = f then (g, v) :: l else (g, x) :: putF f v l) = _
    rw [if_neg ne, putF_new h1]
    rfl
variable {s l ρ : Type} {Γ' : s → List Slot} {ΓL : l → List Slot} {R : Ty ρ} {st : Stmt} {ss : List Stmt} {ts : TS} {m : WP α} {e : Expr} {te : TE}
/-- self.f = e in __init__ -/
theorem s_fldI [Inhabited α] {C q : Addr} {fs : List Str} {f : Str} {i : Nat} {b : β} {k : α → SB s l ρ} (h : Γ[i]? = some (.mu (ownI C q fs S) b)) (hf : f ∉ fs) (hl : fs.length < 1000) (c : Cls X.K C) (n : NoAttr X.K C f)
    (p : PE X e te → PS X st (sFld X.K (tVar i) te f)) (A : DE X W XE Γ e te T m) (B : ∀ u, DS X W XE (Γ.set i (.mu (ownI C q (fs ++ [f]) (tsS S T)) (b, u))) ss ts Γ' ΓL R (k u)) :
    DS X W XE Γ (st :: ss) (tSeq (sFld X.K (tVar i) te f) ts) Γ' ΓL R (seS m k) :=
  ⟨pss_cons (p A.pe) (B default).ps, fun Z hZ σ H F ev D M => A.den _ _ hZ σ H F ev _ (fun u x H1 hu p1 r1 => by
    have ev1 := ev.step p1
    obtain ⟨y, Fa, F1, Fb, hF, hx, ⟨rfl, rfl, dx, ws, hq, hl2, r⟩, k1, _⟩ := ev1.sl.split h
    refine ⟨_, hx, q, C, dx, _, rfl, hq, c, n, by rw [List.length_zip]; omega, ?_⟩
    rw [putF_new (lookup_none hf ws)]
    have nd := ev1.nd
    rw [hF] at nd
    have nq : q ∉ Fa ++ Fb := by
      have e : (Fa ++ ([q] ++ Fb)).Perm (q :: (Fa ++ Fb)) := List.perm_middle
      exact (List.nodup_cons.mp (e.nodup nd)).1
    have fq := ev1.fr q (by rw [hF]; simp)
    have keep : ∀ {b : Addr}, b ≠ q → (upd H1 q (.ins C dx (fs.zip ws ++ [(f, x)]))) b = H1 b := fun nb => upd_ne nb
    have sv : Same (vis (W.M0 ++ F) H1) (vis (W.M0 ++ F) (upd H1 q (.ins C dx (fs.zip ws ++ [(f, x)])))) := vis_mono fun b o nb e => by
      rw [keep fun z => nb (by rw [z, hF]; simp)]
      exact e
    have ez : fs.zip ws ++ [(f, x)] = (fs ++ [f]).zip (ws ++ [x]) := by rw [List.zip_append hl2.symm]; rfl
    have e2 : σ.set i (some (V.ref q)) = σ := by
      apply List.ext_getElem?
      intro j
      rw [List.getElem?_set]
      split
      · rename_i hj
        subst hj
        rw [hx]
        split
        · rfl
        · rename_i hl
          exact absurd (List.getElem?_eq_some_iff.mp hx).1 hl
      · rfl
    have q1 := k1 sv (fun b mb => keep fun z => nq (z ▸ mb)) (O' := ownI C q (fs ++ [f]) (tsS S T)) (a' := (b, u)) (x' := V.ref q) (F1' := [q]) ⟨rfl, rfl, dx, ws ++ [x], (upd_same.trans (by rw [ez])), by rw [List.length_append, List.length_append, hl2]; rfl, ws, x, rfl, S.mono sv r, T.mono sv r1⟩
    rw [e2] at q1
    have ev2 : EvF W (Γ.set i (.mu (ownI C q (fs ++ [f]) (tsS S T)) (b, u))) σ (upd H1 q (.ins C dx (fs.zip ws ++ [(f, x)]))) F := by
      refine ⟨W.loc ev1.ok (fun b mb => keep fun z => fq.2.1 (z ▸ mb)) (fun b o u' e => ?_), fun b o nb e => ?_, fun b mb => ⟨(ev1.fr b mb).1, (ev1.fr b mb).2.1, ?_⟩, ev1.nd, ?_⟩
      · rw [keep (fun z => by rw [z, hq] at e; cases e)]
        exact e
      · rw [keep (fun z => by rw [z, fq.1] at e; cases e)]
        exact ev1.frm b o nb e
      · by_cases z : b = q
        · rw [z, upd_same]
          simp
        · rw [keep z]
          exact (ev1.fr b mb).2.2
      · rw [hF]
        rw [hF] at q1
        exact q1
    exact (B u).den Z hu _ _ F ev2 D (M.up (p1.vis.trans sv))) (M.aft ev)⟩
end
end Dn

namespace Dn
open PySem PySem.Spec PyProof.Rows L2 Wx NdefX
/-! ### lists of one's own -/
theorem set_self {σ : L2.St} {i : Nat} {v : V} (hx : σ[i]? = some (some v)) : σ.set i (some v) = σ := by
  apply List.ext_getElem?
  intro j
  rw [List.getElem?_set]
  split
  · rename_i hj
    subst hj
    rw [hx]
    split
    · rfl
    · rename_i hl
      exact absurd (List.getElem?_eq_some_iff.mp hx).1 hl
  · rfl
section
variable {W : Wd} {Γ : List Slot} {σ : L2.St} {H : Hp} {F : List Addr} {α : Type} {T : Ty α}
/-- the list in slot i, and what a change of it leaves -/
theorem EvF.list {i : Nat} {as : List α} (ev : EvF W Γ σ H F) (h : Γ[i]? = some (.mu (ownL T) as)) : ∃ p vs, σ[i]? = some (some (.ref p)) ∧ H p = some (.lst vs) ∧ p ∈ F ∧ Reps T.rep (vis (W.M0 ++ F) H) vs as ∧
    ∀ ws bs, Reps T.rep (vis (W.M0 ++ F) H) ws bs → EvF W (Γ.set i (.mu (ownL T) bs)) σ (upd H p (.lst ws)) F ∧ Same (vis (W.M0 ++ F) H) (vis (W.M0 ++ F) (upd H p (.lst ws))) := by
  obtain ⟨y, Fa, F1, Fb, hF, hx, ⟨p, vs, rfl, rfl, hp, hr⟩, k1, _⟩ := ev.sl.split h
  have mp : p ∈ F := by rw [hF]; simp
  refine ⟨p, vs, hx, hp, mp, hr, fun ws bs hw => ?_⟩
  have nd := ev.nd
  rw [hF] at nd
  have nq : p ∉ Fa ++ Fb := by
    have e : (Fa ++ ([p] ++ Fb)).Perm (p :: (Fa ++ Fb)) := List.perm_middle
    exact (List.nodup_cons.mp (e.nodup nd)).1
  have fq := ev.fr p mp
  have keep : ∀ {b : Addr}, b ≠ p → (upd H p (.lst ws)) b = H b := fun nb => upd_ne nb
  have sv : Same (vis (W.M0 ++ F) H) (vis (W.M0 ++ F) (upd H p (.lst ws))) := vis_mono fun b o nb e => by
    rw [keep fun z => nb (by rw [z]; exact List.mem_append_right _ mp)]
    exact e
  have q1 := k1 sv (fun b mb => keep fun z => nq (z ▸ mb)) (O' := ownL T) (a' := bs) (x' := V.ref p) (F1' := [p]) ⟨p, ws, rfl, rfl, upd_same, T.all sv hw⟩
  rw [set_self hx] at q1
  refine ⟨⟨W.loc ev.ok (fun b mb => keep fun z => fq.2.1 (z ▸ mb)) (fun b o u' e => ?_), fun b o nb e => ?_, fun b mb => ⟨(ev.fr b mb).1, (ev.fr b mb).2.1, ?_⟩, ev.nd, ?_⟩, sv⟩
  · rw [keep (fun z => by rw [z, hp] at e; cases e)]
    exact e
  · rw [keep (fun z => by rw [z, fq.1] at e; cases e)]
    exact ev.frm b o nb e
  · by_cases z : b = p
    · rw [z, upd_same]
      simp
    · rw [keep z]
      exact (ev.fr b mb).2.2
  · rw [hF]
    rw [hF] at q1
    exact q1
/-- a new list is kept as one's own -/
theorem EvF.newList {H1 : Hp} {i : Nat} {as : List α} {p : Addr} {vs : List V} (ev : EvF W Γ σ H F) (pst : PSt W H H1) (np : H p = none) (hp : H1 p = some (.lst vs)) (hr : Reps T.rep (vis (p :: (W.M0 ++ F)) H1) vs as) (h : (Γ[i]?.any Slot.imm) = true) :
    ∃ F', EvF W (Γ.set i (.mu (ownL T) as)) (σ.set i (some (.ref p))) H1 F' ∧ Same (vis (W.M0 ++ F) H) (vis (W.M0 ++ F') H1) := by
  obtain ⟨Fa, Fb, hF, k⟩ := ev.sl.own (O := ownL T) (a := as) (x := V.ref p) h
  have fp : p ∉ W.M0 ++ F := notin_new ev.dom np
  have mem : ∀ b, b ∈ Fa ++ ([p] ++ Fb) ↔ b = p ∨ b ∈ F := fun b => by
    rw [hF]
    simp only [List.mem_append, List.mem_singleton]
    constructor
    · rintro (h | h | h)
      · exact .inr (.inl h)
      · exact .inl h
      · exact .inr (.inr h)
    · rintro (h | h | h)
      · exact .inr (.inl h)
      · exact .inl h
      · exact .inr (.inr h)
  have e1 : vis (p :: (W.M0 ++ F)) H1 = vis (W.M0 ++ (Fa ++ ([p] ++ Fb))) H1 := by
    funext b
    unfold vis
    have : b ∈ p :: (W.M0 ++ F) ↔ b ∈ W.M0 ++ (Fa ++ ([p] ++ Fb)) := by
      rw [List.mem_cons, List.mem_append, List.mem_append, mem]
      constructor
      · rintro (h | h | h)
        · exact .inr (.inl h)
        · exact .inl h
        · exact .inr (.inr h)
      · rintro (h | h | h)
        · exact .inr (.inl h)
        · exact .inl h
        · exact .inr (.inr h)
    by_cases q : b ∈ p :: (W.M0 ++ F)
    · rw [if_pos q, if_pos (this.mp q)]
    · rw [if_neg q, if_neg fun z => q (this.mpr z)]
  have sv : Same (vis (W.M0 ++ F) H) (vis (W.M0 ++ (Fa ++ ([p] ++ Fb))) H1) := by
    rw [← e1]
    intro b o e
    obtain ⟨nb, e⟩ := vis_some e
    have ne : b ≠ p := fun z => by rw [z, np] at e; cases e
    rw [vis_out (by
      rw [List.mem_cons]
      rintro (z | z)
      · exact ne z
      · exact nb z)]
    exact pst.keep b o (fun m => nb (List.mem_append_left _ m)) e
  rw [e1] at hr
  have q := k sv (fun b mb => ev.own pst b (by rw [hF]; exact mb)) (F1 := [p]) ⟨p, vs, rfl, rfl, hp, hr⟩
  refine ⟨Fa ++ ([p] ++ Fb), ⟨pst.ok, fun b o nb e => pst.keep b o nb (ev.frm b o nb e), fun b mb => ?_, ?_, q⟩, sv⟩
  · rcases (mem b).mp mb with z | z
    · subst z
      refine ⟨?_, fun m => fp (List.mem_append_left _ m), by rw [hp]; simp⟩
      cases e : W.H0 b with
      | none => rfl
      | some o =>
        have := ev.frm b o (fun m => fp (List.mem_append_left _ m)) e
        rw [np] at this
        cases this
    · refine ⟨(ev.fr b z).1, (ev.fr b z).2.1, ?_⟩
      rw [ev.own pst b z]
      exact (ev.fr b z).2.2
  · have nd := ev.nd
    rw [hF] at nd
    have e : (Fa ++ ([p] ++ Fb)).Perm (p :: (Fa ++ Fb)) := List.perm_middle
    exact e.symm.nodup (List.nodup_cons.mpr ⟨fun m => fp (List.mem_append_right _ (by rw [hF]; exact m)), nd⟩)
end
/-- an expression that makes a new list -/
def DenN {α : Type} (K : PySem.W.Frag) (W : Wd) (XE : XK) (Γ : List Slot) (te : TE) (T : Ty α) (m : WP (List α)) : Prop := ∀ Qa Ea, m Qa Ea → ∀ σ H F, EvF W Γ σ H F → ∀ Qv : VK,
  (∀ as p vs H', Qa as → PSt W H H' → H p = none → H' p = some (.lst vs) → Reps T.rep (vis (p :: (W.M0 ++ F)) H') vs as → Qv (.ref p) H') → AftE K W F H XE Ea → te σ H Qv
structure DN (X : Cx) (W : Wd) (XE : XK) (Γ : List Slot) (e : Expr) (te : TE) {α : Type} (T : Ty α) (m : WP (List α)) : Prop where
  pe : PE X e te
  den : DenN X.K W XE Γ te T m
section
variable {X : Cx} {W : Wd} {Γ : List Slot} {XE : XK} {e : Expr} {es : List Expr} {te : TE} {tt : TA} {pos : Pos} {α β : Type} {T : Ty α} {m : WP (List α)}
theorem d_new (A : DN X W XE Γ e te T m) : DE X W XE Γ e te (tyL T) m := ⟨A.pe, fun Qa Ea hh σ H F ev Qv aq ae => A.den _ _ hh σ H F ev _ (fun as p vs H' ha pst np hp hr => by
  have fp : p ∉ W.M0 ++ F := notin_new ev.dom np
  exact aq as _ H' ha pst ⟨p, vs, rfl, (by rw [vis_out fp]; exact hp), T.all (vis_less fun b mb => List.mem_cons_of_mem _ mb) hr⟩) ae⟩
theorem n_lst {k : Nat} {SS : TyS β} {f : β → List α} {mm : WP β} (A : DA X W XE Γ es tt SS mm) (h : ∀ xs H u, SS.rep xs H u → Reps T.rep H xs (f u)) (hl : ∀ xs H u, SS.rep xs H u → xs.length ≤ k) (hk : k ≤ sizeLine) :
    DN X W XE Γ (.List es pos) (tLst tt) T (bd mm fun u => rt (f u)) := ⟨pe_lst A.pe, fun Qa Ea hh σ H F ev Qv aq ae =>
  A.den _ _ hh σ H F ev _ (fun u xs H1 hu p r1 => ⟨Nat.le_trans (hl _ _ _ r1) hk, fun q hq => by
    have s : Same H1 (upd H1 q (.lst xs)) := same_new hq
    have ev1 := ev.step p
    have hq0 : H q = none := by
      cases z : H q with
      | none => rfl
      | some o =>
        by_cases m0 : q ∈ W.M0
        · exact absurd hq (W.dom ev1.ok q m0)
        · have := p.keep q o m0 z
          rw [hq] at this
          cases this
    refine aq _ q xs _ hu (p.trans (PSt.same p.ok s)) hq0 upd_same (T.all (fun b o e => ?_) (h xs _ u r1))
    obtain ⟨nb, e⟩ := vis_some e
    have ne : b ≠ q := fun z => by rw [z, hq] at e; cases e
    rw [vis_out (by
      rw [List.mem_cons]
      rintro (z | z)
      · exact ne z
      · exact nb z), upd_ne ne]
    exact e⟩) ae⟩
variable {s l ρ : Type} {Γ' : s → List Slot} {ΓL : l → List Slot} {R : Ty ρ} {st : Stmt} {ss : List Stmt} {ts : TS} {te2 : TE} {T2 : Ty β} {m2 : WP α}
/-- name = a new list, to be changed -/
theorem s_new {i : Nat} {k : List α → SB s l ρ} (p : PE X e te → PS X st (tAsg te (gName i))) (A : DN X W XE Γ e te T m) (h : (Γ[i]?.any Slot.imm) = true) (B : ∀ u, DS X W XE (Γ.set i (.mu (ownL T) u)) ss ts Γ' ΓL R (k u)) :
    DS X W XE Γ (st :: ss) (tSeq (tAsg te (gName i)) ts) Γ' ΓL R (seS m k) :=
  ⟨pss_cons (p A.pe) (B []).ps, fun Z hZ σ H F ev D M => A.den _ _ hZ σ H F ev _ (fun as q vs H1 ha pst np hp hr => by
    obtain ⟨F', ev2, sv⟩ := ev.newList pst np hp hr h
    exact (B as).den Z ha _ H1 F' ev2 D (M.up sv)) (M.aft ev)⟩
def apS {s l ρ α : Type} (as : List α) (m : WP α) (k : List α → SB s l ρ) : SB s l ρ := fun D => m (fun u => as.length < sizeLine ∧ k (as ++ [u]) D) D.ex
def puS {s l ρ α : Type} (as : List α) (m : WP α) (mi : WP Int) (k : List α → SB s l ρ) : SB s l ρ := fun D => m (fun u => mi (fun j => ∃ n, ixN as.length j = some n ∧ k (as.set n u) D) D.ex) D.ex
/-- xs.append(e) -/
theorem s_append {i : Nat} {as : List α} {k : List α → SB s l ρ} (p : PE X e te → PS X st (tDrop (tBM X.K "list" rAppend (tVar i) (tCons te tNil)))) (h : Γ[i]? = some (.mu (ownL T) as)) (A : DE X W XE Γ e te T m2)
    (B : ∀ bs, DS X W XE (Γ.set i (.mu (ownL T) bs)) ss ts Γ' ΓL R (k bs)) :
    DS X W XE Γ (st :: ss) (tSeq (tDrop (tBM X.K "list" rAppend (tVar i) (tCons te tNil))) ts) Γ' ΓL R (apS as m2 k) :=
  ⟨pss_cons (p A.pe) (B []).ps, fun Z hZ σ H F ev D M => by
    obtain ⟨p, vs, hx, hp, mp, hr, _⟩ := ev.list h
    refine ⟨_, hx, .inl ⟨rfl, _, SqL.of hp⟩, A.den _ _ hZ σ H F ev _ (fun u x H1 ⟨hl, hu⟩ pst r1 => ?_) (M.aft ev)⟩
    have ev1 := ev.step pst
    obtain ⟨p', vs', hx', hp', mp', hr', kk⟩ := ev1.list h
    rw [hx] at hx'
    cases hx'
    obtain ⟨ev2, sv⟩ := kk (vs' ++ [x]) (as ++ [u]) (Reps.app hr' (Reps.one r1))
    exact ⟨p, vs', x, rfl, rfl, hp', by rw [hr'.len]; exact hl, (B _).den Z hu σ _ F ev2 D (M.up (pst.vis.trans sv))⟩⟩
/-- xs[i], xs one's own -/
theorem d_ixO {K : PySem.W.Frag} (hK : X.K = K) {i : Nat} {as : List α} {b : Expr} {tb : TE} {mb : WP Int} (h : Γ[i]? = some (.mu (ownL T) as)) (po : PE X e (tVar i)) (B : DE X W XE Γ b tb tyI mb) (hs : PlainIx b) :
    DE X W XE Γ (.Subscript e b pos) (tOp (rIxL K) (tVar i) tb) T (bd mb fun j Q _ => ∃ a, atI as j = some a ∧ Q a) := by
  subst hK
  exact ⟨pe_ix ix_list po B.pe hs, fun Qa Ea hh σ H F ev Qv aq ae => by
    obtain ⟨p, vs, hx, hp, mp, hr, _⟩ := ev.list h
    refine ⟨_, hx, B.den _ _ hh σ H F ev _ (fun j y H1 ⟨a, ha, hQ⟩ pst r1 => ?_) ae⟩
    have ev1 := ev.step pst
    obtain ⟨p', vs', hx', hp', mp', hr', _⟩ := ev1.list h
    rw [hx] at hx'
    cases hx'
    obtain ⟨n, hn, hj⟩ := Option.bind_eq_some_iff.mp ha
    obtain ⟨x, hx2, hr2⟩ := hr'.at' hj
    exact ⟨p, vs', j, x, rfl, r1, SqL.of hp', by unfold atI; rw [hr'.len, hn]; exact hx2, aq a x H1 hQ pst hr2⟩⟩
/-- xs[i] = e -/
theorem s_putO {i : Nat} {as : List α} {b : Expr} {tb : TE} {mb : WP Int} {k : List α → SB s l ρ} (p : PE X e te → PE X b tb → PS X st (tAsg te (gSub (tVar i) tb rSetL))) (h : Γ[i]? = some (.mu (ownL T) as)) (A : DE X W XE Γ e te T m2) (Bi : DE X W XE Γ b tb tyI mb)
    (hf : Flat tyI) (B : ∀ bs, DS X W XE (Γ.set i (.mu (ownL T) bs)) ss ts Γ' ΓL R (k bs)) :
    DS X W XE Γ (st :: ss) (tSeq (tAsg te (gSub (tVar i) tb rSetL)) ts) Γ' ΓL R (puS as m2 mb k) :=
  ⟨pss_cons (p A.pe Bi.pe) (B []).ps, fun Z hZ σ H F ev D M => A.den _ _ hZ σ H F ev _ (fun u x H1 hu pst r1 => by
    have ev1 := ev.step pst
    obtain ⟨p, vs, hx, hp, mp, hr, _⟩ := ev1.list h
    refine ⟨_, hx, Bi.den _ _ hu σ H1 F ev1 _ (fun j y H2 ⟨n, hn, hk⟩ pst2 r2 => ?_) ((M.aft ev).step pst)⟩
    have ev2 := ev1.step pst2
    obtain ⟨p', vs', hx', hp', mp', hr', kk⟩ := ev2.list h
    rw [hx] at hx'
    cases hx'
    obtain ⟨ev3, sv⟩ := kk (vs'.set n x) (as.set n u) (hr'.set n (T.mono pst2.vis r1))
    exact ⟨p, vs', j, n, rfl, r2, hp', by rw [hr'.len]; exact hn, (B _).den Z hk σ _ F ev3 D (M.up ((pst.trans pst2).vis.trans sv))⟩) (M.aft ev)⟩
end
end Dn

namespace Dn
open PySem PySem.Spec PyProof.Rows L2 Wx NdefX
/-! ### comprehensions -/
abbrev E0 : XK := fun _ _ _ => False
structure DTs (X : Cx) (W : Wd) (XE : XK) (Γ : List Slot) (ifs : List Expr) (tt : TT) (m : WP Bool) : Prop where
  pt : PTs X ifs tt
  den : DenT X.K W XE Γ tt m
section
variable {X : Cx} {W : Wd} {Γ : List Slot} {XE : XK} {c : Expr} {tt : TT} {m : WP Bool}
theorem ts_nil : DTs X W XE Γ [] tYes (rt true) := ⟨pts_nil, fun Qa Ea hh σ H F ev Qv aq ae => aq true H hh (PSt.refl ev.ok)⟩
theorem ts_one (A : DT X W XE Γ c tt m) : DTs X W XE Γ [c] tt m := ⟨pts_one A.pe, A.den⟩
end
/-- the comprehension's own names forgotten -/
def unAll (Γ : List Slot) : List Nat → List Slot
  | [] => Γ
  | v :: vs => (unAll Γ vs).set v .un
theorem Ev.unset {G H : Hp} {x : Option V} : ∀ {Γ : List Slot} {σ : L2.St} {F : List Addr} {i : Nat}, Ev G H Γ σ F → (Γ[i]?.all Slot.imm) = true → Ev G H (Γ.set i .un) (σ.set i x) F
  | [], _, _, _, h, _ => by
    obtain ⟨e, f⟩ := h
    subst e
    exact ⟨rfl, f⟩
  | .un :: Γ, _, _, 0, ⟨v, σ', es, h⟩, _ => ⟨x, σ', by rw [es]; rfl, h⟩
  | .rp _ _ :: Γ, _, _, 0, ⟨v, σ', es, _, h⟩, _ => ⟨x, σ', by rw [es]; rfl, h⟩
  | .mu _ _ :: Γ, _, _, 0, _, e => by simp [Slot.imm] at e
  | .un :: Γ, σ, F, i + 1, ⟨v, σ', es, h⟩, e => ⟨v, σ'.set i x, by rw [es]; rfl, Ev.unset h (by simpa using e)⟩
  | .rp _ _ :: Γ, σ, F, i + 1, ⟨v, σ', es, q, h⟩, e => ⟨v, σ'.set i x, by rw [es]; rfl, q, Ev.unset h (by simpa using e)⟩
  | .mu _ _ :: Γ, σ, F, i + 1, ⟨v, σ', F1, F2, es, ef, q, h⟩, e => ⟨v, σ'.set i x, F1, F2, by rw [es]; rfl, ef, q, Ev.unset h (by simpa using e)⟩
theorem Ev.unAll {G H : Hp} {Γ : List Slot} {σ : L2.St} {F : List Addr} (h : Ev G H Γ σ F) : ∀ {vs : List Nat}, (∀ i ∈ vs, (Γ[i]?.all Slot.imm) = true) → Ev G H (Dn.unAll Γ vs) (wipe σ vs) F ∧ ∀ i : Nat, ((Γ[i]?.all Slot.imm) = true → ((Dn.unAll Γ vs)[i]?.all Slot.imm) = true)
  | [], _ => ⟨h, fun _ e => e⟩
  | v :: vs, k => by
    obtain ⟨h1, h2⟩ := Ev.unAll h (vs := vs) fun i m => k i (List.mem_cons_of_mem _ m)
    refine ⟨h1.unset (h2 v (k v List.mem_cons_self)), fun i e => ?_⟩
    show ((((Dn.unAll Γ vs).set v .un)[i]?).all Slot.imm) = true
    rw [List.getElem?_set]
    split
    · split
      · rfl
      · rfl
    · exact h2 i e
theorem wipe_wipe {σ σ' : L2.St} {vs : List Nat} (hl : σ'.length = σ.length) (h : ∀ j, j ∉ vs → σ'[j]? = σ[j]?) : wipe σ' vs = wipe σ vs := by
  apply List.ext_getElem?
  intro j
  by_cases m : j ∈ vs
  · have z : ∀ (τ : L2.St), (wipe τ vs)[j]? = if j < τ.length then some none else none := fun τ => by
      clear h hl
      induction vs with
      | nil => exact absurd m (by simp)
      | cons v r ih =>
        show ((wipe τ r).set v none)[j]? = _
        rw [List.getElem?_set]
        split
        · rename_i e
          subst e
          rw [wipe_length]
        · rename_i ne
          refine ih ?_
          rcases List.mem_cons.mp m with q | q
          · exact absurd q.symm ne
          · exact q
    rw [z, z, hl]
  · rw [wipe_out m, wipe_out m]
    exact h j m
theorem wipe_idem {σ : L2.St} {vs : List Nat} : wipe (wipe σ vs) vs = wipe σ vs := wipe_wipe (wipe_length σ vs) fun j m => wipe_out m
/-- a target's store, of the slots vs alone -/
def DenG' {α : Type} (Γ : List Slot) (vs : List Nat) (K : PySem.W.Frag) (g : TG) (T : Ty α) (Γt : α → List Slot) : Prop :=
  ∀ (W : Wd) a v σ H F, EvF W Γ σ H F → T.rep v (vis (W.M0 ++ F) H) a → ∀ Q : L2.St → Hp → Prop, (∀ σ', σ'.length = σ.length → (∀ j, j ∉ vs → σ'[j]? = σ[j]?) → EvF W (Γt a) σ' H F → Q σ' H) → g v σ H Q
theorem DenG'.g {α : Type} {Γ : List Slot} {vs : List Nat} {K : PySem.W.Frag} {g : TG} {T : Ty α} {Γt : α → List Slot} (h : DenG' Γ vs K g T Γt) : DenG K Γ g T Γt := fun W a v σ H F ev r Q k => h W a v σ H F ev r Q fun σ' _ _ e => k σ' e
theorem gn {α : Type} {Γ : List Slot} {K : PySem.W.Frag} {T : Ty α} {i : Nat} {vs : List Nat} (h : (Γ[i]?.any Slot.imm) = true) (m : i ∈ vs) : DenG' Γ vs K (gName i) T fun a => Γ.set i (.rp T a) := fun W a v σ H F ev r Q k =>
  k _ (List.length_set ..) (fun j hj => List.getElem?_set_ne (fun e => hj (by rw [← e]; exact m))) (ev.set r h)
/-- the parts of a tuple -/
def DenGs {α : Type} (Γ : List Slot) (vs : List Nat) (K : PySem.W.Frag) (g : TGs) (S : TyS α) (Γt : α → List Slot) : Prop :=
  ∀ (W : Wd) a v σ H F, EvF W Γ σ H F → S.rep v (vis (W.M0 ++ F) H) a → ∀ Q : L2.St → Hp → Prop, (∀ σ', σ'.length = σ.length → (∀ j, j ∉ vs → σ'[j]? = σ[j]?) → EvF W (Γt a) σ' H F → Q σ' H) → g v σ H Q
theorem gs2 {α β : Type} {Γ : List Slot} {K : PySem.W.Frag} {T : Ty α} {S : Ty β} {vs : List Nat} {g1 g2 : TG} {Γ1 : α → List Slot} {Γ2 : α → β → List Slot} (h1 : DenG' Γ vs K g1 T Γ1) (h2 : ∀ a, DenG' (Γ1 a) vs K g2 S (Γ2 a)) :
    DenGs Γ vs K (gCons g1 (gCons g2 gNil)) (ts2 T S) fun p => Γ2 p.1 p.2 := fun W a v σ H F ev ⟨x, y, e, r1, r2⟩ Q k =>
  ⟨x, [y], e, h1 W a.1 x σ H F ev r1 _ fun σ1 l1 o1 e1 => ⟨y, [], rfl, h2 a.1 W a.2 y σ1 H F e1 r2 _ fun σ2 l2 o2 e2 => ⟨rfl, k σ2 (l2.trans l1) (fun j m => (o2 j m).trans (o1 j m)) e2⟩⟩⟩
theorem gs3 {α β γ : Type} {Γ : List Slot} {K : PySem.W.Frag} {T : Ty α} {S : Ty β} {R : Ty γ} {vs : List Nat} {g1 g2 g3 : TG} {Γ1 : α → List Slot} {Γ2 : α → β → List Slot} {Γ3 : α → β → γ → List Slot} (h1 : DenG' Γ vs K g1 T Γ1) (h2 : ∀ a, DenG' (Γ1 a) vs K g2 S (Γ2 a)) (h3 : ∀ a b, DenG' (Γ2 a b) vs K g3 R (Γ3 a b)) :
    DenGs Γ vs K (gCons g1 (gCons g2 (gCons g3 gNil))) (ts3 T S R) fun p => Γ3 p.1 p.2.1 p.2.2 := fun W a v σ H F ev ⟨x, y, z, e, r1, r2, r3⟩ Q k =>
  ⟨x, [y, z], e, h1 W a.1 x σ H F ev r1 _ fun σ1 l1 o1 e1 => ⟨y, [z], rfl, h2 a.1 W a.2.1 y σ1 H F e1 r2 _ fun σ2 l2 o2 e2 => ⟨z, [], rfl, h3 a.1 a.2.1 W a.2.2 z σ2 H F e2 r3 _ fun σ3 l3 o3 e3 => ⟨rfl, k σ3 ((l3.trans l2).trans l1) (fun j m => ((o3 j m).trans (o2 j m)).trans (o1 j m)) e3⟩⟩⟩⟩
theorem gs4 {α β γ δ : Type} {Γ : List Slot} {K : PySem.W.Frag} {T : Ty α} {S : Ty β} {R : Ty γ} {U : Ty δ} {vs : List Nat} {g1 g2 g3 g4 : TG} {Γ1 : α → List Slot} {Γ2 : α → β → List Slot} {Γ3 : α → β → γ → List Slot} {Γ4 : α → β → γ → δ → List Slot} (h1 : DenG' Γ vs K g1 T Γ1) (h2 : ∀ a, DenG' (Γ1 a) vs K g2 S (Γ2 a)) (h3 : ∀ a b, DenG' (Γ2 a b) vs K g3 R (Γ3 a b)) (h4 : ∀ a b c, DenG' (Γ3 a b c) vs K g4 U (Γ4 a b c)) :
    DenGs Γ vs K (gCons g1 (gCons g2 (gCons g3 (gCons g4 gNil)))) (ts4 T S R U) fun p => Γ4 p.1 p.2.1 p.2.2.1 p.2.2.2 := fun W a v σ H F ev ⟨x, y, z, u, e, r1, r2, r3, r4⟩ Q k =>
  ⟨x, [y, z, u], e, h1 W a.1 x σ H F ev r1 _ fun σ1 l1 o1 e1 => ⟨y, [z, u], rfl, h2 a.1 W a.2.1 y σ1 H F e1 r2 _ fun σ2 l2 o2 e2 => ⟨z, [u], rfl, h3 a.1 a.2.1 W a.2.2.1 z σ2 H F e2 r3 _ fun σ3 l3 o3 e3 => ⟨u, [], rfl, h4 a.1 a.2.1 a.2.2.1 W a.2.2.2 u σ3 H F e3 r4 _ fun σ4 l4 o4 e4 => ⟨rfl, k σ4 (((l4.trans l3).trans l2).trans l1) (fun j m => (((o4 j m).trans (o3 j m)).trans (o2 j m)).trans (o1 j m)) e4⟩⟩⟩⟩⟩
theorem gt {α : Type} {Γ : List Slot} {vs : List Nat} {K : PySem.W.Frag} {g : TGs} {S : TyS α} {Γt : α → List Slot} {n : Nat} (h : DenGs Γ vs K g S Γt) (hn : ∀ xs H a, S.rep xs H a → xs.length = n) : DenG' Γ vs K (gTup K n g) (tyP K S) Γt := fun W a v σ H F ev ⟨p, xs, e, hs, r⟩ Q k =>
  ⟨p, xs, e, same_sqT vis_le hs, hn _ _ _ r, h W a xs σ H F ev r Q k⟩
/-- a place within a place: more is hidden -/
structure WIn (W W' : Wd) : Prop where
  sub : ∀ b ∈ W.M0, b ∈ W'.M0
  ok : ∀ H, W'.ok H → W.ok H
  back : ∀ (H H' : Hp) (s0 : Addr), W'.ok H → s0 ∈ W.M0 → (∀ b o, b ≠ s0 → H b = some o → H' b = some o) → W.ok H' → W'.ok H'
/-- what [e for x in as if t] gives: f a is none where the test fails -/
def lcW {α β : Type} (f : α → WP (Option β)) : List α → List β → WP (List β)
  | [], acc => rt acc
  | a :: as, acc => bd (f a) fun o => match o with
    | none => lcW f as acc
    | some b => nd (acc.length < sizeLine) (lcW f as (acc ++ [b]))
structure LC (X : Cx) (W : Wd) (XE : XK) (Γ : List Slot) (elt tg iter : Expr) (ifs : List Expr) (scope : Scope) (own : List (Str × Nat)) (wi : TI) (g : TG) (tt : TT) (te : XK → TE) {β : Type} (S : Ty β) (m : WP (List β)) : Prop where
  hi : PI X tg iter wi
  ok : BlkOk X.N X.env.scope scope own
  hg : ∀ (s : Shared) (H : Hp) (C : Addr) (cl : List (Str × Addr)) (fp : List Addr), PG (X.blk s H scope (compEnvC scope cl C X.env) fp) tg g
  ht : ∀ (s : Shared) (H : Hp) (C : Addr) (cl : List (Str × Addr)) (fp : List Addr), PTs (X.blk s H scope (compEnvC scope cl C X.env) fp) ifs tt
  he : ∀ (s : Shared) (H : Hp) (C : Addr) (cl : List (Str × Addr)) (fp : List Addr) (xe : Value → Shared → Prop) (E1 : XK), (∀ σ1, Air ((X.blk s H scope (compEnvC scope cl C X.env) fp).wish xe) σ1 E1) → PE ((X.blk s H scope (compEnvC scope cl C X.env) fp).wish xe) elt (te E1)
  hs : ∀ x, foldedSetIterable iter X.env x = pure x
  den : DenN X.K W XE Γ (fun σ H Q => tLc wi g tt (te XE) (own.map (·.2)) σ H Q) S m
section
variable {X : Cx} {W : Wd} {Γ : List Slot} {XE : XK} {elt tg iter : Expr} {ifs : List Expr} {scope : Scope} {own : List (Str × Nat)} {wi : TI} {g : TG} {tt : TT} {te : XK → TE} {α β : Type} {T : Ty α} {S : Ty β} {m : WP (List α)} {Γt : α → List Slot} {mt : α → WP Bool} {me : α → WP β}
theorem lc_mk [Inhabited α] {K : PySem.W.Frag} (hK : X.K = K) (air : ∀ σ, Air X σ XE) (I : DI X W XE Γ tg iter wi T m) (ok : BlkOk X.N X.env.scope scope own) (hΓ : ∀ i ∈ own.map (·.2), (Γ[i]?.all Slot.imm) = true)
    (hg : ∀ (s : Shared) (H : Hp) (C : Addr) (cl : List (Str × Addr)) (fp : List Addr), PG (X.blk s H scope (compEnvC scope cl C X.env) fp) tg g) (hG : DenG' (unAll Γ (own.map (·.2))) (own.map (·.2)) K g T Γt)
    (ht : ∀ (W' : Wd), WIn W W' → ∀ (a : α) (s : Shared) (H : Hp) (C : Addr) (cl : List (Str × Addr)) (fp : List Addr), DTs (X.blk s H scope (compEnvC scope cl C X.env) fp) W' E0 (Γt a) ifs tt (mt a))
    (he : ∀ (W' : Wd), WIn W W' → ∀ (a : α) (s : Shared) (H : Hp) (C : Addr) (cl : List (Str × Addr)) (fp : List Addr) (xe : Value → Shared → Prop) (E1 : XK), (∀ σ1, Air ((X.blk s H scope (compEnvC scope cl C X.env) fp).wish xe) σ1 E1) → DE ((X.blk s H scope (compEnvC scope cl C X.env) fp).wish xe) W' E1 (Γt a) elt (te E1) S (me a))
    (hs : ∀ x, foldedSetIterable iter X.env x = pure x := by intro _; rfl) :
    LC X W XE Γ elt tg iter ifs scope own wi g tt te S (bd m fun as => lcW (fun a => bd (noE (mt a)) fun c => if c = true then bd (me a) fun b => rt (some b) else rt none) as []) := by
  subst hK
  refine ⟨I.pi, ok, hg, fun s H C cl fp => (ht W ⟨fun _ m => m, fun _ h => h, fun _ _ _ _ _ _ h => h⟩ default s H C cl fp).pt, fun s H C cl fp xe E1 a1 => (he W ⟨fun _ m => m, fun _ h => h, fun _ _ _ _ _ _ h => h⟩ default s H C cl fp xe E1 a1).pe, hs, ?_⟩
  intro Qa Ea hh σ H F ev Qv aq ae
  refine I.den _ _ hh σ H F ev _ (fun as J H1 ha pst wk => fun D hD => ?_) ae
  have ev1 := ev.step pst
  have hD0 : H D = none := by
    cases z : H D with
    | none => rfl
    | some o =>
      by_cases m0 : D ∈ W.M0
      · exact absurd hD (W.dom ev1.ok D m0)
      · have := pst.keep D o m0 z
        rw [hD] at this
        cases this
  have nD : D ∉ W.M0 ++ F := notin_new ev1.dom hD
  -- the parts of the block, at some place
  have denT : ∀ (W' : Wd), WIn W W' → ∀ (a : α), DenT X.K W' E0 (Γt a) tt (mt a) := fun W hw a => (ht W hw a {} H D [] []).den
  have denE : ∀ (W' : Wd), WIn W W' → ∀ (a : α), DenE X.K W' XE (Γt a) (te XE) S (me a) := fun W hw a => (he W hw a {} H D [] [] (fun _ _ => True) XE fun σ1 => by
    obtain ⟨ev, outer, L, h1, h2, h3, _⟩ := (air []).ex
    exact ⟨ev, outer, L, h1, h2, h3, fun _ _ _ _ _ _ _ => trivial⟩).den
  -- what stands at each turn
  let I2 : Nat → Hp → Prop := fun i H2 => ∃ acc bs, H2 D = some (.lst acc) ∧ PSt W H1 H2 ∧ Reps S.rep (vis (D :: (W.M0 ++ F)) H2) acc bs ∧ lcW (fun a => bd (noE (mt a)) fun c => if c = true then bd (me a) fun b => rt (some b) else rt none) (as.drop i) bs Qa Ea
  have vD : ∀ {H2 : Hp}, PSt W H1 H2 → Same (vis (W.M0 ++ F) H1) (vis (D :: (W.M0 ++ F)) H2) := fun {H2} q b o e => by
    obtain ⟨nb, e⟩ := vis_some e
    have ne : b ≠ D := fun z => by rw [z, hD] at e; cases e
    rw [vis_out (by
      rw [List.mem_cons]
      rintro (z | z)
      · exact ne z
      · exact nb z)]
    exact q.keep b o (fun m => nb (List.mem_append_left _ m)) e
  refine lc_it wk I2 ⟨[], [], upd_same, PSt.same ev1.ok (same_new hD), trivial, by rw [List.drop_zero]; exact ha⟩ (fun i H2 _ ⟨_, _, _, q, _⟩ => fun b o e => by
    obtain ⟨nb, e⟩ := vis_some e
    exact q.keep b o (fun m => nb (List.mem_append_left _ m)) e) ?_ ?_
  · rintro i x H2 H3 hi ⟨acc, bs, g1, q, hr, hw⟩ ⟨s3, a, hai, hrep⟩
    have ev2 := ev1.step q
    -- the block stands in a place where the new list is hidden, too
    have dom2 : ∀ b ∈ D :: W.M0, H2 b ≠ none := fun b mb => by
      rcases List.mem_cons.mp mb with z | z
      · rw [z, g1]; simp
      · exact W.dom ev2.ok b z
    let W2 : Wd := ⟨D :: W.M0, vis [D] W.H0, fun H' => W.ok H' ∧ H' D = some (.lst acc), fun {H'} h b mb => by
      rcases List.mem_cons.mp mb with z | z
      · rw [z, h.2]; simp
      · exact W.dom h.1 b z, fun {H' H''} h k1 => ⟨W.lok h.1 (fun b mb => k1 b (List.mem_cons_of_mem _ mb)), (k1 D List.mem_cons_self).trans h.2⟩⟩
    have win : WIn W W2 := ⟨fun b m => List.mem_cons_of_mem _ m, fun _ h => h.1, fun H5 H6 s0 h m k h6 => ⟨h6, k D _ (fun z => nD (List.mem_append_left _ (by rw [z]; exact m))) h.2⟩⟩
    have q3 : PSt W H2 H3 := PSt.same ev2.ok s3
    have ev3 : EvF W2 (unAll Γ (own.map (·.2))) (wipe σ (own.map (·.2))) H3 F := by
      have e0 := ev1.sl.unAll hΓ
      refine ⟨⟨q3.ok, s3 _ _ g1⟩, fun b o nb e => ?_, fun b mb => ?_, ev.nd, ?_⟩
      · obtain ⟨nd, e⟩ := vis_some e
        exact q3.keep b o (fun m => nb (List.mem_cons_of_mem _ m)) (ev2.frm b o (fun m => nb (List.mem_cons_of_mem _ m)) e)
      · have f := (ev2.step q3).fr b mb
        refine ⟨?_, ?_, f.2.2⟩
        · show vis [D] W.H0 b = none
          by_cases z : b ∈ [D]
          · exact vis_in z
          · rw [vis_out z]; exact f.1
        · rw [show W2.M0 = D :: W.M0 from rfl, List.mem_cons]
          rintro (z | z)
          · exact nD (List.mem_append_right _ (by rw [← z]; exact mb))
          · exact f.2.1 z
      · exact e0.1.mono (vD (q.trans q3)) fun b mb => ev1.own (q.trans q3) b mb
    have r := hrep (D :: (W.M0 ++ F)) (fun b mb => by
      rcases List.mem_cons.mp mb with z | z
      · rw [z, g1]; simp
      · exact ev2.dom b z) (vD q)
    rw [List.drop_eq_getElem_cons hi] at hw
    have ea : as[i] = a := by
      rw [List.getElem?_eq_getElem hi] at hai
      exact Option.some.inj hai
    rw [ea] at hw
    refine hG W2 a x _ H3 F ev3 r _ fun σ4 l4 o4 ev4 => ⟨(wipe_wipe l4 o4).trans wipe_idem, ?_⟩
    have hw : noE (mt a) (fun c => (if c = true then bd (me a) fun b => rt (some b) else rt none) (fun o => (match o with
      | none => lcW (fun a => bd (noE (mt a)) fun c => if c = true then bd (me a) fun b => rt (some b) else rt none) (as.drop (i + 1)) bs
      | some b => nd (bs.length < sizeLine) (lcW (fun a => bd (noE (mt a)) fun c => if c = true then bd (me a) fun b => rt (some b) else rt none) (as.drop (i + 1)) (bs ++ [b]))) Qa Ea) Ea) Ea := hw
    have toW : ∀ {H4 H5 : Hp}, PSt W H1 H4 → PSt W2 H4 H5 → PSt W H1 H5 := fun {H4 H5} p q => ⟨fun b o nb e => by
      have e4 := p.keep b o nb e
      by_cases z : b = D
      · rw [z, hD] at e; cases e
      · refine q.keep b o ?_ e4
        rw [show W2.M0 = D :: W.M0 from rfl, List.mem_cons]
        rintro (y | y)
        · exact z y
        · exact nb y, q.ok.1⟩
    refine denT W2 win a _ _ hw σ4 H3 F ev4 _ (fun c H4 hc p4 => ?_) (fun e c d H' he => he.elim)
    have ev5 := ev4.step p4
    have t4 := toW (q.trans q3) p4
    cases c with
    | false =>
      rw [if_neg Bool.false_ne_true] at hc
      rw [if_neg Bool.false_ne_true]
      exact ⟨acc, bs, p4.ok.2, t4, hr.imp fun _ _ z => S.mono (vis_mono fun b o nb e => p4.keep b o (fun m => nb (by
        rcases List.mem_cons.mp m with z | z
        · rw [z]; exact List.mem_cons_self
        · exact List.mem_cons_of_mem _ (List.mem_append_left _ z))) (s3 b o e)) z, hc⟩
    | true =>
      rw [if_pos rfl] at hc
      rw [if_pos rfl]
      refine denE W2 win a _ _ hc σ4 H4 F ev5 _ (fun b y H5 ⟨hl, hb⟩ p5 r5 => ?_) (fun e c d H' he p r2 => ?_)
      · have g5 := p5.ok.2
        have e5 : Same (vis (D :: (W.M0 ++ F)) H2) (vis (D :: (W.M0 ++ F)) (upd H5 D (.lst (acc ++ [y])))) := vis_mono fun b o nb e => by
          have nDb : b ≠ D := fun z => nb (by rw [z]; exact List.mem_cons_self)
          rw [upd_ne nDb]
          have no : b ∉ W2.M0 := fun m => nb (by
            rcases List.mem_cons.mp m with z | z
            · rw [z]; exact List.mem_cons_self
            · exact List.mem_cons_of_mem _ (List.mem_append_left _ z))
          exact p5.keep b o no (p4.keep b o no (s3 b o e))
        have e6 : Same (vis (D :: (W.M0 ++ F)) H5) (vis (D :: (W.M0 ++ F)) (upd H5 D (.lst (acc ++ [y])))) := vis_mono fun b o nb e => by
          rw [upd_ne fun z => nb (by rw [z]; exact List.mem_cons_self)]
          exact e
        have t5 := toW t4 p5
        refine ⟨acc, g5, by rw [hr.len]; exact hl, acc ++ [y], bs ++ [b], upd_same, ⟨fun b o nb e => ?_, W.loc t5.ok (fun b mb => upd_ne fun z => nD (List.mem_append_left _ (by rw [← z]; exact mb))) fun b o u e => ?_⟩, Reps.app (S.all e5 hr) (Reps.one (S.mono e6 r5)), hb⟩
        · rw [upd_ne (ne_of_none e hD)]
          exact t5.keep b o nb e
        · rw [upd_ne fun z => by rw [z, g5] at e; cases e]
          exact e
      · exact ae e c d H' he (pst.trans (toW t4 p)) (r2.mono X.K (vis_less fun b mb => List.mem_cons_of_mem _ mb))
  · rintro H2 ⟨acc, bs, g1, q, hr, hw⟩
    rw [List.drop_length] at hw
    exact aq bs D acc H2 hw (pst.trans q) hD0 g1 hr
end
end Dn

namespace Dn
open PySem PySem.Spec PyProof.Rows L2 Wx NdefX RZ
/-! ### comprehensions, used -/
section
variable {X : Cx} {W : Wd} {Γ : List Slot} {XE : XK} {elt tg iter : Expr} {ifs : List Expr} {scope : Scope} {own : List (Str × Nat)} {wi : TI} {g : TG} {tt : TT} {te : XK → TE} {β : Type} {S : Ty β} {m : WP (List β)} {pos : Pos}
theorem n_lc (air : ∀ σ, Air X σ XE) (hc : X.calm = true) (hN : X.N.Nodup) (L : LC X W XE Γ elt tg iter ifs scope own wi g tt te S m) : DN X W XE Γ (.ListComp elt [⟨tg, iter, ifs, 0⟩] scope pos) (fun σ H Q => tLc wi g tt (te XE) (own.map (·.2)) σ H Q) S m :=
  ⟨pe_lcX (E := fun _ => XE) air hc hN L.hi L.ok L.hg L.ht L.he L.hs, L.den⟩
variable {s l ρ : Type} {Γ' : s → List Slot} {ΓL : l → List Slot} {R : Ty ρ} {ss : List Stmt} {ts : TS} {i : Nat} {k : List β → SB s l ρ} {y : Str} {py spos : Pos}
theorem s_newLc (air : ∀ σ, Air X σ XE) (hc : X.calm = true) (hN : X.N.Nodup) (hy : X.N[i]? = some y) (hyl : X.env.scope.names.lookup y = some .local) (hsw : swapsWith (.ListComp elt [⟨tg, iter, ifs, 0⟩] scope pos) (some (.Name y py)) spos.line X.env = pure true)
    (L : LC X W XE Γ elt tg iter ifs scope own wi g tt te S m) (h : (Γ[i]?.any Slot.imm) = true) (B : ∀ u, DS X W XE (Γ.set i (.mu (ownL S) u)) ss ts Γ' ΓL R (k u)) :
    DS X W XE Γ (.Assign [.Name y py] (.ListComp elt [⟨tg, iter, ifs, 0⟩] scope pos) spos :: ss) (tSeq (tAsg (fun σ H Q => tLc wi g tt (te XE) (own.map (·.2)) σ H Q) (gName i)) ts) Γ' ΓL R (seS m k) :=
  s_new (fun _ => ps_setLcX (E := fun _ => XE) air hc hN hy hyl hsw L.hi L.ok L.hg L.ht L.he L.hs) (n_lc (pos := pos) air hc hN L) h B
theorem s_setLc (air : ∀ σ, Air X σ XE) (hc : X.calm = true) (hN : X.N.Nodup) (hy : X.N[i]? = some y) (hyl : X.env.scope.names.lookup y = some .local) (hsw : swapsWith (.ListComp elt [⟨tg, iter, ifs, 0⟩] scope pos) (some (.Name y py)) spos.line X.env = pure true)
    (L : LC X W XE Γ elt tg iter ifs scope own wi g tt te S m) (h : (Γ[i]?.any Slot.imm) = true) (B : ∀ u, DS X W XE (Γ.set i (.rp (tyL S) u)) ss ts Γ' ΓL R (k u)) :
    DS X W XE Γ (.Assign [.Name y py] (.ListComp elt [⟨tg, iter, ifs, 0⟩] scope pos) spos :: ss) (tSeq (tAsg (fun σ H Q => tLc wi g tt (te XE) (own.map (·.2)) σ H Q) (gName i)) ts) Γ' ΓL R (seS m k) :=
  s_set (fun _ => ps_setLcX (E := fun _ => XE) air hc hN hy hyl hsw L.hi L.ok L.hg L.ht L.he L.hs) (d_new (n_lc (pos := pos) air hc hN L)) h B
end
/-! ### what is walked -/
section
variable {X : Cx} {W : Wd} {Γ : List Slot} {XE : XK} {tg e e2 : Expr} {te : TE} {ta : TA} {pos p : Pos} {α β : Type} {T : Ty α} {S : Ty β} {m : WP (List α)}
theorem wk_at {K : PySem.W.Frag} {J : It} {G : Hp} {xs : List V} {as : List α} {P : Hp → Prop} (w : Walk J xs.length P (YAt xs)) (hP : ∀ H, Same G H → P H) (r : Reps T.rep G xs as) : Wk J G T as := by
  unfold Wk
  rw [← r.len]
  refine w.mono hP fun i H x H2 hi gs ⟨e, hx⟩ => ?_
  subst e
  obtain ⟨a, ha, hr⟩ := r.at hx
  exact ⟨Same.refl _, a, ha, fun L d s => T.mono s hr⟩
theorem i_list {K : PySem.W.Frag} (hK : X.K = K) (A : DE X W XE Γ e te (tyL T) m) : DI X W XE Γ tg e (iList K te) T m := by
  subst hK
  exact ⟨pi_list A.pe, fun Qa Ea hh σ H F ev R k ae => A.den _ _ hh σ H F ev _ (fun as x H1 ha pst ⟨p, xs, e, hs, r⟩ =>
  ⟨p, e, ⟨xs, SqL.of (vis_le _ _ hs)⟩, k as _ H1 ha pst (wk_at (K := X.K) walk_list (fun H2 s => SqL.of (s _ _ hs)) r)⟩) ae⟩
theorem i_tup {K : PySem.W.Frag} (hK : X.K = K) (A : DE X W XE Γ e te (tyT K T) m) : DI X W XE Γ tg e (iTup K te) T m := by
  subst hK
  exact ⟨pi_tup A.pe, fun Qa Ea hh σ H F ev R k ae => A.den _ _ hh σ H F ev _ (fun as x H1 ha pst ⟨p, xs, e, hs, r⟩ =>
  ⟨p, e, ⟨xs, same_sqT vis_le hs⟩, k as _ H1 ha pst (wk_at (K := X.K) walk_tup (fun H2 s => same_sqT s hs) r)⟩) ae⟩
theorem i_seq {K : PySem.W.Frag} (hK : X.K = K) (A : DE X W XE Γ e te (tyQ K T) m) : DI X W XE Γ tg e (iSeq K te) T m := by
  subst hK
  exact ⟨pi_seq A.pe, fun Qa Ea hh σ H F ev R k ae => A.den _ _ hh σ H F ev _ (fun as x H1 ha pst ⟨p, xs, e, hs, r⟩ => by
  rcases hs with hs | hs
  · exact ⟨p, xs, e, .inl ⟨same_sqL vis_le hs, k as _ H1 ha pst (wk_at (K := X.K) walk_list (fun H2 s => same_sqL s hs) r)⟩⟩
  · exact ⟨p, xs, e, .inr ⟨same_sqT vis_le hs, k as _ H1 ha pst (wk_at (K := X.K) walk_tup (fun H2 s => same_sqT s hs) r)⟩⟩) ae⟩
def rangeI (lo hi : Int) : List Int := (List.range (hi - lo).toNat).map fun i => lo + (i : Nat)
theorem rangeI_len {lo hi : Int} : (rangeI lo hi).length = (hi - lo).toNat := by unfold rangeI; rw [List.length_map, List.length_range]
theorem wk_range {G : Hp} {lo hi : Int} : Wk (Itr lo (hi - lo).toNat) G tyI (rangeI lo hi) := by
  unfold Wk
  rw [rangeI_len]
  refine walk_range.mono (fun _ _ => trivial) fun i H x H2 hi' gs ⟨e, hx⟩ => ?_
  subst e
  refine ⟨Same.refl _, lo + (i : Nat), ?_, fun L d s => hx⟩
  unfold rangeI
  rw [List.getElem?_map, List.getElem?_range hi']
  rfl
theorem i_range1 {a : Expr} {ma : WP (Int × Unit)} (hg : Gl X "range") (hm : X.mg "range" = none) (A : DA X W XE Γ [a] ta (tsC tyI tsN) ma) (hs : starEach [a] X.env = [(false, eval a X.env)] := by rfl) :
    DI X W XE Γ tg (.Call (.Name "range" p) [a] [] pos) (iRng1 ta) tyI (bd ma fun n => nd (-(2 ^ 62) ≤ n.1 ∧ n.1 < 2 ^ 62) (rt (rangeI 0 n.1))) := ⟨pi_range1 hg hm A.pe hs, fun Qa Ea hh σ H F ev R k ae =>
  A.den _ _ hh σ H F ev _ (fun n xs H1 ⟨hn, ha⟩ pst ⟨v, r, e, hv, hr⟩ => by
    have hr : r = [] := hr
    have hv : v = .int n.1 := hv
    subst hr hv
    refine ⟨n.1, e, hn.1, hn.2, ?_⟩
    have := k _ (Itr 0 (n.1 - 0).toNat) H1 ha pst wk_range
    rw [Int.sub_zero] at this
    exact this) ae⟩
theorem i_range2 {a b : Expr} {ma : WP (Int × Int × Unit)} (hg : Gl X "range") (hm : X.mg "range" = none) (A : DA X W XE Γ [a, b] ta (tsC tyI (tsC tyI tsN)) ma) (hs : starEach [a, b] X.env = [(false, eval a X.env), (false, eval b X.env)] := by rfl) (hs2 : starEach [b] X.env = [(false, eval b X.env)] := by rfl) :
    DI X W XE Γ tg (.Call (.Name "range" p) [a, b] [] pos) (iRng2 ta) tyI (bd ma fun n => nd (-(2 ^ 62) ≤ n.1 ∧ n.1 < 2 ^ 62 ∧ -(2 ^ 62) ≤ n.2.1 ∧ n.2.1 < 2 ^ 62) (rt (rangeI n.1 n.2.1))) := ⟨pi_range2 hg hm A.pe hs hs2, fun Qa Ea hh σ H F ev R k ae =>
  A.den _ _ hh σ H F ev _ (fun n xs H1 ⟨hn, ha⟩ pst ⟨v, r, e, hv, v2, r2, e2, hv2, hr⟩ => by
    have hr : r2 = [] := hr
    have hv : v = .int n.1 := hv
    have hv2 : v2 = .int n.2.1 := hv2
    subst hr hv hv2 e2
    exact ⟨n.1, n.2.1, e, hn, k _ _ H1 ha pst wk_range⟩) ae⟩
/-- the items with their places -/
def enumI {α : Type} (as : List α) : List (Int × α) := as.mapIdx fun i a => (((i : Nat) : Int), a)
theorem wk_pair {K : PySem.W.Frag} {J : It} {G : Hp} {f g : Nat → Option V} {n : Nat} {P : Hp → Prop} {cs : List (α × β)} (w : Walk J n P (YPair f g)) (hP : ∀ H, Same G H → P H) (hn : cs.length = n)
    (hf : ∀ i x y, f i = some x → g i = some y → i < n → ∃ c, cs[i]? = some c ∧ T.rep x G c.1 ∧ S.rep y G c.2) : Wk J G (tyP K (ts2 T S)) cs := by
  unfold Wk
  rw [hn]
  refine w.mono hP fun i H v H2 hi gs ⟨q, x, y, e, nq, e2, h1, h2⟩ => ?_
  subst e e2
  obtain ⟨c, hc, r1, r2⟩ := hf i x y h1 h2 hi
  refine ⟨same_new nq, c, hc, fun L d s => ?_⟩
  have s2 : Same (vis L H) (vis L (upd H q (.tup [x, y]))) := vis_same (same_new nq)
  exact ⟨q, [x, y], rfl, SqT.of (vis_new (notin_new d nq)), x, y, rfl, T.mono (s.trans s2) r1, S.mono (s.trans s2) r2⟩
theorem enumI_at {as : List α} {i : Nat} {a : α} (h : as[i]? = some a) : (enumI as)[i]? = some (((i : Nat) : Int), a) := by
  unfold enumI
  rw [List.getElem?_mapIdx, h]
  rfl
theorem i_enumL {K : PySem.W.Frag} (hK : X.K = K) {elts : List Expr} {kk : Nat} {tpos : Pos} {ma : WP (List α × Unit)} (hg : Gl X "enumerate") (hm : X.mg "enumerate" = none) (A : DA X W XE Γ [e] ta (tsC (tyL T) tsN) ma) (hs : starEach [e] X.env = [(false, eval e X.env)] := by rfl) :
    DI X W XE Γ (.Tuple elts kk tpos) (.Call (.Name "enumerate" p) [e] [] pos) (iEnum K ta) (tyP K (ts2 tyI T)) (bd ma fun as => rt (enumI as.1)) := by
  subst hK
  exact ⟨pi_enum hg hm A.pe hs, fun Qa Ea hh σ H F ev R k ae =>
  A.den _ _ hh σ H F ev _ (fun as vs H1 ha pst ⟨v, r, e, ⟨q, xs, ev, hs, rr⟩, hr⟩ => by
    have hr : r = [] := hr
    subst hr ev
    refine ⟨q, xs, e, SqL.of (vis_le _ _ hs), k _ _ H1 ha pst (wk_pair (cs := enumI as.1) walk_enum (fun H2 s => SqL.of (s _ _ hs)) (by unfold enumI; rw [List.length_mapIdx, rr.len]) fun i x y h1 h2 hi => ?_)⟩
    obtain ⟨a, ha2, hr2⟩ := rr.at h2
    exact ⟨_, enumI_at ha2, (Option.some.inj h1).symm, hr2⟩) ae⟩
theorem i_enumT {K : PySem.W.Frag} (hK : X.K = K) {elts : List Expr} {kk : Nat} {tpos : Pos} {ma : WP (List α × Unit)} (hg : Gl X "enumerate") (hm : X.mg "enumerate" = none) (A : DA X W XE Γ [e] ta (tsC (tyT K T) tsN) ma) (hs : starEach [e] X.env = [(false, eval e X.env)] := by rfl) :
    DI X W XE Γ (.Tuple elts kk tpos) (.Call (.Name "enumerate" p) [e] [] pos) (iEnumT K ta) (tyP K (ts2 tyI T)) (bd ma fun as => rt (enumI as.1)) := by
  subst hK
  exact ⟨pi_enumT hg hm A.pe hs, fun Qa Ea hh σ H F ev R k ae =>
  A.den _ _ hh σ H F ev _ (fun as vs H1 ha pst ⟨v, r, e, ⟨q, xs, ev, hs, rr⟩, hr⟩ => by
    have hr : r = [] := hr
    subst hr ev
    refine ⟨q, xs, e, same_sqT vis_le hs, k _ _ H1 ha pst (wk_pair (cs := enumI as.1) walk_enumT (fun H2 s => same_sqT s hs) (by unfold enumI; rw [List.length_mapIdx, rr.len]) fun i x y h1 h2 hi => ?_)⟩
    obtain ⟨a, ha2, hr2⟩ := rr.at h2
    exact ⟨_, enumI_at ha2, (Option.some.inj h1).symm, hr2⟩) ae⟩
theorem zip_at {as : List α} {bs : List β} {i : Nat} {a : α} {b : β} (h1 : as[i]? = some a) (h2 : bs[i]? = some b) : (as.zip bs)[i]? = some (a, b) := List.getElem?_zip_eq_some.mpr ⟨h1, h2⟩
theorem i_zipL {K : PySem.W.Frag} (hK : X.K = K) {elts : List Expr} {kk : Nat} {tpos : Pos} {ma : WP (List α × List β × Unit)} (hg : Gl X "zip") (hm : X.mg "zip" = none) (A : DA X W XE Γ [e, e2] ta (tsC (tyL T) (tsC (tyL S) tsN)) ma)
    (hs : starEach [e, e2] X.env = (false, eval e X.env) :: starEach [e2] X.env := by rfl) (hpl : (backTo pos (starEach [e2] X.env)).any (·.1) = false := by rfl) :
    DI X W XE Γ (.Tuple elts kk tpos) (.Call (.Name "zip" p) [e, e2] [] pos) (iZipA K ta) (tyP K (ts2 T S)) (bd ma fun as => rt (as.1.zip as.2.1)) := by
  subst hK
  exact ⟨pi_zipA hg hm A.pe hs hpl, fun Qa Ea hh σ H F ev R k ae =>
  A.den _ _ hh σ H F ev _ (fun as vs H1 ha pst ⟨v, r, e, ⟨q, xs, ev, hs, rr⟩, v2, r2, e2, ⟨q2, ys, ev2, hs2, rr2⟩, hr⟩ => by
    have hr : r2 = [] := hr
    subst hr ev ev2 e2
    refine ⟨q, q2, xs, ys, e, .inl ⟨SqL.of (vis_le _ _ hs), SqL.of (vis_le _ _ hs2), k _ _ H1 ha pst (wk_pair (cs := as.1.zip as.2.1) (walk_zip (n := min xs.length ys.length) rfl) (fun H2 s => ⟨SqL.of (s _ _ hs), SqL.of (s _ _ hs2)⟩) (by rw [List.length_zip, rr.len, rr2.len]) fun i x y h1 h2 hi => ?_)⟩⟩
    obtain ⟨a, ha2, hr2⟩ := rr.at h1
    obtain ⟨b, hb2, hr3⟩ := rr2.at h2
    exact ⟨_, zip_at ha2 hb2, hr2, hr3⟩) ae⟩
theorem i_zipT {K : PySem.W.Frag} (hK : X.K = K) {elts : List Expr} {kk : Nat} {tpos : Pos} {ma : WP (List α × List β × Unit)} (hg : Gl X "zip") (hm : X.mg "zip" = none) (A : DA X W XE Γ [e, e2] ta (tsC (tyT K T) (tsC (tyT K S) tsN)) ma)
    (hs : starEach [e, e2] X.env = (false, eval e X.env) :: starEach [e2] X.env := by rfl) (hpl : (backTo pos (starEach [e2] X.env)).any (·.1) = false := by rfl) :
    DI X W XE Γ (.Tuple elts kk tpos) (.Call (.Name "zip" p) [e, e2] [] pos) (iZipA K ta) (tyP K (ts2 T S)) (bd ma fun as => rt (as.1.zip as.2.1)) := by
  subst hK
  exact ⟨pi_zipA hg hm A.pe hs hpl, fun Qa Ea hh σ H F ev R k ae =>
  A.den _ _ hh σ H F ev _ (fun as vs H1 ha pst ⟨v, r, e, ⟨q, xs, ev, hs, rr⟩, v2, r2, e2, ⟨q2, ys, ev2, hs2, rr2⟩, hr⟩ => by
    have hr : r2 = [] := hr
    subst hr ev ev2 e2
    refine ⟨q, q2, xs, ys, e, .inr ⟨same_sqT vis_le hs, same_sqT vis_le hs2, k _ _ H1 ha pst (wk_pair (cs := as.1.zip as.2.1) (walk_zipT (n := min xs.length ys.length) rfl) (fun H2 s => ⟨same_sqT s hs, same_sqT s hs2⟩) (by rw [List.length_zip, rr.len, rr2.len]) fun i x y h1 h2 hi => ?_)⟩⟩
    obtain ⟨a, ha2, hr2⟩ := rr.at h1
    obtain ⟨b, hb2, hr3⟩ := rr2.at h2
    exact ⟨_, zip_at ha2 hb2, hr2, hr3⟩) ae⟩
theorem i_str {m : WP Str} (A : DE X W XE Γ e te tyS m) : DI X W XE Γ tg e (iStr te) tyS (bd m fun z => rt (z.cps.toList.map fun c => (⟨#[c]⟩ : Str))) := ⟨pi_str A.pe, fun Qa Ea hh σ H F ev R k ae => A.den _ _ hh σ H F ev _ (fun z x H1 ha pst r => ⟨z, r, k _ _ H1 ha pst (by
  unfold Wk
  rw [List.length_map, Array.length_toList]
  refine walk_str.mono (fun _ _ => trivial) fun i H x H2 hi gs ⟨e, c, hc, hx⟩ => ?_
  subst e
  refine ⟨Same.refl _, ⟨#[c]⟩, ?_, fun L d s => hx⟩
  rw [List.getElem?_map, Array.getElem?_toList, hc]
  rfl)⟩) ae⟩
end
end Dn

namespace Dn
open PySem PySem.Spec PyProof.Rows L2 Wx NdefX RZ
/-! ### operators -/
section
variable {K : PySem.W.Frag} {α β γ : Type} {T : Ty α} {S : Ty β}
theorem o_I0 {g : Int → Int → Int} (u v : Int) : R2Ok (rI0 fun i j => .int (g i j)) tyI u tyI v tyI (rt (g u v)) := fun Qa Ea h L H x y Qv d r1 r2 k => ⟨u, v, r1, r2, k _ _ H h (Same.refl _) rfl⟩
theorem o_I0b {g : Int → Int → Bool} (u v : Int) : R2Ok (rI0 fun i j => .bl (g i j)) tyI u tyI v tyB (rt (g u v)) := fun Qa Ea h L H x y Qv d r1 r2 k => ⟨u, v, r1, r2, k _ _ H h (Same.refl _) rfl⟩
theorem o_I {C : Int → Int → Prop} {g : Int → Int → Int} (u v : Int) : R2Ok (rI C fun i j => .int (g i j)) tyI u tyI v tyI (nd (C u v) (rt (g u v))) := fun Qa Ea h L H x y Qv d r1 r2 k => ⟨u, v, r1, r2, h.1, k _ _ H h.2 (Same.refl _) rfl⟩
theorem o_U {g : Int → Int} (u : Int) : R1Ok (rU fun i => .int (g i)) tyI u tyI (rt (g u)) := fun Qa Ea h L H x Qv d r1 k => ⟨u, r1, k _ _ H h (Same.refl _) rfl⟩
/-- kinds that == tells apart as data does -/
def EqS (T : Ty α) [DecidableEq α] : Prop := ∀ {x y : V} {H H' : Hp} {u v : α}, T.rep x H u → T.rep y H' v → scal x y = true ∧ decide (x = y) = decide (u = v)
theorem eqsI : EqS tyI := fun {x y H H' u v} h h' => by
  have h : x = .int u := h
  have h' : y = .int v := h'
  subst h h'
  exact ⟨rfl, by simp⟩
theorem eqsB : EqS tyB := fun {x y H H' u v} h h' => by
  have h : x = .bl u := h
  have h' : y = .bl v := h'
  subst h h'
  exact ⟨rfl, by simp⟩
theorem eqsS : EqS tyS := fun {x y H H' u v} h h' => by
  have h : x = .str u := h
  have h' : y = .str v := h'
  subst h h'
  exact ⟨rfl, by simp⟩
theorem o_eq [DecidableEq α] (hT : EqS T) (u v : α) : R2Ok rEq T u T v tyB (rt (decide (u = v))) := fun Qa Ea h L H x y Qv d r1 r2 k => by
  obtain ⟨h1, h2⟩ := hT r1 r2
  exact ⟨h1, by rw [h2]; exact k _ _ H h (Same.refl _) rfl⟩
theorem o_ne [DecidableEq α] (hT : EqS T) (u v : α) : R2Ok rNe T u T v tyB (rt (!decide (u = v))) := fun Qa Ea h L H x y Qv d r1 r2 k => by
  obtain ⟨h1, h2⟩ := hT r1 r2
  exact ⟨h1, by rw [h2]; exact k _ _ H h (Same.refl _) rfl⟩
theorem o_isN (u : Option α) (v : Unit) : R2Ok (fun x y H Q => y = .non ∧ Q (.bl (decide (x = .non))) H) (tyO T) u tyN v tyB (rt u.isNone) := fun Qa Ea h L H x y Qv d r1 r2 k => by
  refine ⟨r2, k _ _ H h (Same.refl _) ?_⟩
  cases u with
  | none =>
    have r1 : x = .non := r1
    rw [r1]
    rfl
  | some a =>
    have r1 : x ≠ .non ∧ _ := r1
    show V.bl (decide (x = .non)) = .bl false
    rw [decide_eq_false r1.1]
theorem o_notN (u : Option α) (v : Unit) : R2Ok (fun x y H Q => y = .non ∧ Q (.bl (!decide (x = .non))) H) (tyO T) u tyN v tyB (rt u.isSome) := fun Qa Ea h L H x y Qv d r1 r2 k => by
  refine ⟨r2, k _ _ H h (Same.refl _) ?_⟩
  cases u with
  | none =>
    have r1 : x = .non := r1
    rw [r1]
    rfl
  | some a =>
    have r1 : x ≠ .non ∧ _ := r1
    show V.bl (!decide (x = .non)) = .bl true
    rw [decide_eq_false r1.1]
    rfl
theorem o_addS (u v : Str) : R2Ok (fun x y H Q => ∃ i j, x = .str i ∧ y = .str j ∧ i.length + j.length ≤ sizeLine ∧ Q (.str (i ++ j)) H) tyS u tyS v tyS (nd (u.length + v.length ≤ sizeLine) (rt (u ++ v))) := fun Qa Ea h L H x y Qv d r1 r2 k => ⟨u, v, r1, r2, h.1, k _ _ H h.2 (Same.refl _) rfl⟩
/-- kinds of flat values, for `in` -/
def FlatV (T : Ty α) [DecidableEq α] : Prop := ∀ {x y : V} {H H' : Hp} {u v : α}, T.rep x H u → T.rep y H' v → flatV x = true ∧ eqV y x = decide (v = u)
theorem flatVI : FlatV tyI := fun {x y H H' u v} h h' => by
  have h : x = .int u := h
  have h' : y = .int v := h'
  subst h h'
  exact ⟨rfl, by show (v == u) = _; rw [Bool.eq_iff_iff]; simp⟩
theorem flatVS : FlatV tyS := fun {x y H H' u v} h h' => by
  have h : x = .str u := h
  have h' : y = .str v := h'
  subst h h'
  exact ⟨rfl, by show (v == u) = _; rw [Bool.eq_iff_iff]; simp⟩
theorem inV_reps [DecidableEq α] (hT : FlatV T) {x : V} {H H' : Hp} {u : α} (r : T.rep x H' u) : ∀ {xs : List V} {as : List α}, Reps T.rep H xs as → inV x xs = decide (u ∈ as) ∧ xs.all flatV = true
  | [], [], _ => ⟨by simp [inV], rfl⟩
  | y :: xs, a :: as, ⟨h, t⟩ => by
    obtain ⟨h1, h2⟩ := inV_reps hT r t
    obtain ⟨_, e⟩ := hT r h
    obtain ⟨f, _⟩ := hT h r
    refine ⟨?_, by rw [List.all_cons, f, h2]; rfl⟩
    unfold inV at h1 ⊢
    rw [List.any_cons, h1, e, Bool.eq_iff_iff]
    simp only [Bool.or_eq_true, decide_eq_true_eq, List.mem_cons]
    constructor
    · rintro (z | z)
      · exact .inl z.symm
      · exact .inr z
    · rintro (z | z)
      · exact .inl z.symm
      · exact .inr z
  | [], _ :: _, h => by cases h
  | _ :: _, [], h => by cases h
theorem o_in [DecidableEq α] (hT : FlatV T) (u : α) (as : List α) : R2Ok (rIn K false) T u (tyQ K T) as tyB (rt (decide (u ∈ as))) := fun Qa Ea h L H x y Qv d r1 ⟨p, xs, e, hs, r2⟩ k => by
  obtain ⟨h1, h2⟩ := inV_reps hT r1 r2
  exact ⟨p, xs, e, hs.imp (same_sqL vis_le) (same_sqT vis_le), (hT r1 r1).1, h2, k _ _ H h (Same.refl _) (by show V.bl (inV x xs) = _; rw [h1])⟩
theorem o_notIn [DecidableEq α] (hT : FlatV T) (u : α) (as : List α) : R2Ok (rIn K true) T u (tyQ K T) as tyB (rt (!decide (u ∈ as))) := fun Qa Ea h L H x y Qv d r1 ⟨p, xs, e, hs, r2⟩ k => by
  obtain ⟨h1, h2⟩ := inV_reps hT r1 r2
  exact ⟨p, xs, e, hs.imp (same_sqL vis_le) (same_sqT vis_le), (hT r1 r1).1, h2, k _ _ H h (Same.refl _) (by show V.bl (!inV x xs) = _; rw [h1])⟩
/-- a list, a tuple, as either -/
theorem qL {x : V} {H : Hp} {u : List α} (h : (tyL T).rep x H u) : (tyQ K T).rep x H (id u) := let ⟨p, xs, e, hs, r⟩ := h; ⟨p, xs, e, .inl (SqL.of hs), r⟩
theorem qT {x : V} {H : Hp} {u : List α} (h : (tyT K T).rep x H u) : (tyQ K T).rep x H (id u) := let ⟨p, xs, e, hs, r⟩ := h; ⟨p, xs, e, .inr hs, r⟩
/-- an item by its place -/
def ixW (as : List α) (i : Int) : WP α := fun Q _ => ∃ a, atI as i = some a ∧ Q a
theorem atI_reps {H : Hp} {xs : List V} {as : List α} {i : Int} {a : α} (r : Reps T.rep H xs as) (h : atI as i = some a) : ∃ x, atI xs i = some x ∧ T.rep x H a := by
  obtain ⟨n, hn, hj⟩ := Option.bind_eq_some_iff.mp h
  obtain ⟨x, hx2, hr2⟩ := r.at' hj
  exact ⟨x, by unfold atI; rw [r.len, hn]; exact hx2, hr2⟩
theorem o_ixL (as : List α) (i : Int) : R2Ok (rIxL K) (tyL T) as tyI i T (ixW as i) := fun Qa Ea ⟨a, ha, hQ⟩ L H x y Qv d ⟨p, xs, e, hs, r⟩ r2 k => by
  obtain ⟨v, hv, hr⟩ := atI_reps r ha
  exact ⟨p, xs, i, v, e, r2, SqL.of (vis_le _ _ hs), hv, k a v H hQ (Same.refl _) hr⟩
theorem o_ixT (as : List α) (i : Int) : R2Ok (rIxT K) (tyT K T) as tyI i T (ixW as i) := fun Qa Ea ⟨a, ha, hQ⟩ L H x y Qv d ⟨p, xs, e, hs, r⟩ r2 k => by
  obtain ⟨v, hv, hr⟩ := atI_reps r ha
  exact ⟨p, xs, i, v, e, r2, same_sqT vis_le hs, hv, k a v H hQ (Same.refl _) hr⟩
/-- a part of a tuple of several kinds -/
theorem o_part {δ : Type} {SS : TyS δ} {U : Ty γ} {f : δ → γ} {i : Int} (h : ∀ xs H a, SS.rep xs H a → ∃ v, atI xs i = some v ∧ U.rep v H (f a)) (a : δ) (j : Int) : R2Ok (rIxT K) (tyP K SS) a tyI j U (nd (j = i) (rt (f a))) := fun Qa Ea ⟨e1, hQ⟩ L H x y Qv d ⟨p, xs, e, hs, r⟩ r2 k => by
  subst e1
  obtain ⟨v, hv, hr⟩ := h _ _ _ r
  exact ⟨p, xs, j, v, e, r2, same_sqT vis_le hs, hv, k _ v H hQ (Same.refl _) hr⟩
theorem part2a {T : Ty α} {S : Ty β} : ∀ xs H (a : α × β), (ts2 T S).rep xs H a → ∃ v, atI xs 0 = some v ∧ T.rep v H a.1 := fun xs H a ⟨v, w, e, h1, h2⟩ => ⟨v, by rw [e]; rfl, h1⟩
theorem part2b {T : Ty α} {S : Ty β} : ∀ xs H (a : α × β), (ts2 T S).rep xs H a → ∃ v, atI xs 1 = some v ∧ S.rep v H a.2 := fun xs H a ⟨v, w, e, h1, h2⟩ => ⟨w, by rw [e]; rfl, h2⟩
theorem part3a {T : Ty α} {S : Ty β} {R : Ty γ} : ∀ xs H (a : α × β × γ), (ts3 T S R).rep xs H a → ∃ v, atI xs 0 = some v ∧ T.rep v H a.1 := fun xs H a ⟨v, w, u, e, h1, h2, h3⟩ => ⟨v, by rw [e]; rfl, h1⟩
theorem part3b {T : Ty α} {S : Ty β} {R : Ty γ} : ∀ xs H (a : α × β × γ), (ts3 T S R).rep xs H a → ∃ v, atI xs 1 = some v ∧ S.rep v H a.2.1 := fun xs H a ⟨v, w, u, e, h1, h2, h3⟩ => ⟨w, by rw [e]; rfl, h2⟩
theorem part3c {T : Ty α} {S : Ty β} {R : Ty γ} : ∀ xs H (a : α × β × γ), (ts3 T S R).rep xs H a → ∃ v, atI xs 2 = some v ∧ R.rep v H a.2.2 := fun xs H a ⟨v, w, u, e, h1, h2, h3⟩ => ⟨u, by rw [e]; rfl, h3⟩
theorem part4a {δ : Type} {T : Ty α} {S : Ty β} {R : Ty γ} {U : Ty δ} : ∀ xs H (a : α × β × γ × δ), (ts4 T S R U).rep xs H a → ∃ v, atI xs 0 = some v ∧ T.rep v H a.1 := fun xs H a ⟨v, w, u, t, e, h1, h2, h3, h4⟩ => ⟨v, by rw [e]; rfl, h1⟩
theorem part4b {δ : Type} {T : Ty α} {S : Ty β} {R : Ty γ} {U : Ty δ} : ∀ xs H (a : α × β × γ × δ), (ts4 T S R U).rep xs H a → ∃ v, atI xs 1 = some v ∧ S.rep v H a.2.1 := fun xs H a ⟨v, w, u, t, e, h1, h2, h3, h4⟩ => ⟨w, by rw [e]; rfl, h2⟩
theorem part4c {δ : Type} {T : Ty α} {S : Ty β} {R : Ty γ} {U : Ty δ} : ∀ xs H (a : α × β × γ × δ), (ts4 T S R U).rep xs H a → ∃ v, atI xs 2 = some v ∧ R.rep v H a.2.2.1 := fun xs H a ⟨v, w, u, t, e, h1, h2, h3, h4⟩ => ⟨u, by rw [e]; rfl, h3⟩
theorem part4d {δ : Type} {T : Ty α} {S : Ty β} {R : Ty γ} {U : Ty δ} : ∀ xs H (a : α × β × γ × δ), (ts4 T S R U).rep xs H a → ∃ v, atI xs 3 = some v ∧ U.rep v H a.2.2.2 := fun xs H a ⟨v, w, u, t, e, h1, h2, h3, h4⟩ => ⟨t, by rw [e]; rfl, h4⟩
/-! ### built-ins -/
theorem b_len (as : List α × Unit) : RAOk (fun xs H Q => ∃ p ys, xs = [V.ref p] ∧ (SqL K H p ys ∨ SqT K H p ys) ∧ Q (.int ys.length) H) (tsC (tyQ K T) tsN) as tyI (rt (as.1.length : Int)) := fun Qa Ea h L H x Qv d ⟨v, r, e, ⟨p, xs, ev, hs, rr⟩, hr⟩ k => by
  have hr : r = [] := hr
  subst hr ev
  exact ⟨p, xs, e, hs.imp (same_sqL vis_le) (same_sqT vis_le), k _ _ H h (Same.refl _) (by show V.int _ = .int _; rw [rr.len])⟩
theorem b_int (i : Int × Unit) : RAOk (fun xs H Q => (∃ i, xs = [V.int i] ∧ Q (.int i) H) ∨ ∃ k, xs = [V.bl k] ∧ Q (.int (if k then 1 else 0)) H) (tsC tyI tsN) i tyI (rt i.1) := fun Qa Ea h L H x Qv d ⟨v, r, e, hv, hr⟩ k => by
  have hr : r = [] := hr
  have hv : v = .int i.1 := hv
  subst hr hv
  exact .inl ⟨i.1, e, k _ _ H h (Same.refl _) rfl⟩
theorem b_intB (i : Bool × Unit) : RAOk (fun xs H Q => (∃ i, xs = [V.int i] ∧ Q (.int i) H) ∨ ∃ k, xs = [V.bl k] ∧ Q (.int (if k then 1 else 0)) H) (tsC tyB tsN) i tyI (rt (if i.1 = true then 1 else 0)) := fun Qa Ea h L H x Qv d ⟨v, r, e, hv, hr⟩ k => by
  have hr : r = [] := hr
  have hv : v = .bl i.1 := hv
  subst hr hv
  exact .inr ⟨i.1, e, k _ _ H h (Same.refl _) rfl⟩
theorem b_abs (i : Int × Unit) : RAOk (fun xs H Q => ∃ i, xs = [V.int i] ∧ Q (.int (if i < 0 then -i else i)) H) (tsC tyI tsN) i tyI (rt (if i.1 < 0 then -i.1 else i.1)) := fun Qa Ea h L H x Qv d ⟨v, r, e, hv, hr⟩ k => by
  have hr : r = [] := hr
  have hv : v = .int i.1 := hv
  subst hr hv
  exact ⟨i.1, e, k _ _ H h (Same.refl _) rfl⟩
theorem b_min2 (i : Int × Int × Unit) : RAOk (fun xs H Q => ∃ i j, xs = [V.int i, V.int j] ∧ Q (.int (if j < i then j else i)) H) (tsC tyI (tsC tyI tsN)) i tyI (rt (if i.2.1 < i.1 then i.2.1 else i.1)) := fun Qa Ea h L H x Qv d ⟨v, r, e, hv, v2, r2, e2, hv2, hr⟩ k => by
  have hr : r2 = [] := hr
  have hv : v = .int i.1 := hv
  have hv2 : v2 = .int i.2.1 := hv2
  subst hr hv hv2 e2
  exact ⟨_, _, e, k _ _ H h (Same.refl _) rfl⟩
theorem b_max2 (i : Int × Int × Unit) : RAOk (fun xs H Q => ∃ i j, xs = [V.int i, V.int j] ∧ Q (.int (if j > i then j else i)) H) (tsC tyI (tsC tyI tsN)) i tyI (rt (if i.2.1 > i.1 then i.2.1 else i.1)) := fun Qa Ea h L H x Qv d ⟨v, r, e, hv, v2, r2, e2, hv2, hr⟩ k => by
  have hr : r2 = [] := hr
  have hv : v = .int i.1 := hv
  have hv2 : v2 = .int i.2.1 := hv2
  subst hr hv hv2 e2
  exact ⟨_, _, e, k _ _ H h (Same.refl _) rfl⟩
theorem repsB : ∀ {H : Hp} {xs : List V} {bs : List Bool}, Reps tyB.rep H xs bs → xs = bs.map V.bl
  | _, [], [], _ => rfl
  | _, x :: xs, b :: bs, ⟨h, t⟩ => by
    have h : x = .bl b := h
    rw [h, repsB t]
    rfl
  | _, [], _ :: _, h => by cases h
  | _, _ :: _, [], h => by cases h
theorem repsI : ∀ {H : Hp} {xs : List V} {bs : List Int}, Reps tyI.rep H xs bs → xs = bs.map V.int
  | _, [], [], _ => rfl
  | _, x :: xs, b :: bs, ⟨h, t⟩ => by
    have h : x = .int b := h
    rw [h, repsI t]
    rfl
  | _, [], _ :: _, h => by cases h
  | _, _ :: _, [], h => by cases h
theorem repsS : ∀ {H : Hp} {xs : List V} {bs : List Str}, Reps tyS.rep H xs bs → xs = bs.map V.str
  | _, [], [], _ => rfl
  | _, x :: xs, b :: bs, ⟨h, t⟩ => by
    have h : x = .str b := h
    rw [h, repsS t]
    rfl
  | _, [], _ :: _, h => by cases h
  | _, _ :: _, [], h => by cases h
theorem b_all (bs : List Bool × Unit) : RAOk (rAll K) (tsC (tyL tyB) tsN) bs tyB (rt (bs.1.all id)) := fun Qa Ea h L H x Qv d ⟨v, r, e, ⟨p, xs, ev, hs, rr⟩, hr⟩ k => by
  have hr : r = [] := hr
  subst hr ev
  rw [repsB rr] at hs
  exact ⟨p, _, e, SqL.of (vis_le _ _ hs), k _ _ H h (Same.refl _) rfl⟩
theorem b_any (bs : List Bool × Unit) : RAOk (rAny K) (tsC (tyL tyB) tsN) bs tyB (rt (bs.1.any id)) := fun Qa Ea h L H x Qv d ⟨v, r, e, ⟨p, xs, ev, hs, rr⟩, hr⟩ k => by
  have hr : r = [] := hr
  subst hr ev
  rw [repsB rr] at hs
  exact ⟨p, _, e, SqL.of (vis_le _ _ hs), k _ _ H h (Same.refl _) rfl⟩
theorem b_sum (bs : List Int × Unit) : RAOk (rSum K) (tsC (tyL tyI) tsN) bs tyI (rt bs.1.sum) := fun Qa Ea h L H x Qv d ⟨v, r, e, ⟨p, xs, ev, hs, rr⟩, hr⟩ k => by
  have hr : r = [] := hr
  subst hr ev
  rw [repsI rr] at hs
  exact ⟨p, _, e, SqL.of (vis_le _ _ hs), k _ _ H h (Same.refl _) rfl⟩
theorem b_tuple (as : List α × Unit) : RAOk (fun xs H Q => ∃ p ys, xs = [V.ref p] ∧ ((SqL K H p ys ∧ ∀ l, H l = none → Q (.ref l) (upd H l (.tup ys))) ∨ (SqT K H p ys ∧ Q (.ref p) H))) (tsC (tyQ K T) tsN) as (tyT K T) (rt as.1) := fun Qa Ea h L H x Qv d ⟨v, r, e, ⟨p, xs, ev, hs, rr⟩, hr⟩ k => by
  have hr : r = [] := hr
  subst hr ev
  refine ⟨p, xs, e, ?_⟩
  rcases hs with hs | hs
  · refine .inl ⟨same_sqL vis_le hs, fun l hl => k _ _ _ h (same_new hl) ?_⟩
    exact ⟨l, xs, rfl, SqT.of (vis_new (notin_new d hl)), T.all (vis_same (same_new hl)) rr⟩
  · exact .inr ⟨same_sqT vis_le hs, k _ _ H h (Same.refl _) ⟨p, xs, rfl, hs, rr⟩⟩
/-- sorted numbers, few -/
theorem repsMapI {H : Hp} : ∀ (bs : List Int), Reps tyI.rep H (bs.map V.int) bs
  | [] => trivial
  | b :: bs => ⟨rfl, repsMapI bs⟩
theorem repsMapS {H : Hp} : ∀ (bs : List Str), Reps tyS.rep H (bs.map V.str) bs
  | [] => trivial
  | b :: bs => ⟨rfl, repsMapS bs⟩
theorem b_sorted (as : List Int × Unit) : RAOk (rSorted K) (tsC (tyL tyI) tsN) as (tyL tyI) (fun Q _ => as.1.length < 64 ∧ ∀ bs : List Int, bs.Perm as.1 → bs.Pairwise (· ≤ ·) → Q bs) := fun Qa Ea ⟨h1, h2⟩ L H x Qv d ⟨v, r, e, ⟨p, xs, ev, hs, rr⟩, hr⟩ k => by
  have hr : r = [] := hr
  subst hr ev
  rw [repsI rr] at hs
  exact ⟨p, _, e, SqL.of (vis_le _ _ hs), h1, fun ns q hp hs np => k ns _ _ (h2 ns hp hs) (same_new np) ⟨q, _, rfl, vis_new (notin_new d np), repsMapI ns⟩⟩
/-! ### slices -/
def cutL (as : List α) (lo hi : Option Int) : List α := (as.drop (HT.sIx as.length 0 lo)).take (HT.sIx as.length as.length hi - HT.sIx as.length 0 lo)
theorem cut_reps {H : Hp} {xs : List V} {as : List α} (r : Reps T.rep H xs as) (lo hi : Option Int) : Reps T.rep H (cutV xs lo hi) (cutL as lo hi) := by
  unfold cutV cutL
  rw [r.len]
  exact (r.drop _).take _
end
def DenO (K : PySem.W.Frag) (W : Wd) (XE : XK) (Γ : List Slot) (te : TO) (m : WP (Option Int)) : Prop := ∀ Qa Ea, m Qa Ea → ∀ σ H F, EvF W Γ σ H F → ∀ Qv : Option Int → Hp → Prop, (∀ o H', Qa o → PSt W H H' → Qv o H') → AftE K W F H XE Ea → te σ H Qv
structure DO (X : Cx) (W : Wd) (XE : XK) (Γ : List Slot) (e : Option Expr) (te : TO) (m : WP (Option Int)) : Prop where
  po : PO X e te
  den : DenO X.K W XE Γ te m
section
variable {X : Cx} {W : Wd} {Γ : List Slot} {XE : XK} {e b : Expr} {te tb : TE} {pos p2 : Pos} {α : Type} {T : Ty α} {m : WP (List α)} {lo hi : Option Expr} {tl th : TO} {ml mh : WP (Option Int)}
theorem po_no : DO X W XE Γ none tNoPart (rt none) := ⟨po_none, fun Qa Ea hh σ H F ev Qv aq ae => aq none H hh (PSt.refl ev.ok)⟩
theorem po_so {mb : WP Int} (B : DE X W XE Γ b tb tyI mb) : DO X W XE Γ (some b) (tPart tb) (bd mb fun i => rt (some i)) := ⟨po_some B.pe, fun Qa Ea hh σ H F ev Qv aq ae => B.den _ _ hh σ H F ev _ (fun i x H1 hi p r => ⟨i, r, aq _ H1 hi p⟩) ae⟩
theorem fresh_back {σ : L2.St} {H H1 : Hp} {F : List Addr} (ev : EvF W Γ σ H F) (p : PSt W H H1) {q : Addr} (hq : H1 q = none) : H q = none := by
  cases z : H q with
  | none => rfl
  | some o =>
    by_cases m0 : q ∈ W.M0
    · exact absurd hq (W.dom p.ok q m0)
    · have := p.keep q o m0 z
      rw [hq] at this
      cases this
theorem vis_cons_new {L : List Addr} {H : Hp} {q : Addr} {o : HO} (hq : H q = none) : Same (vis L H) (vis (q :: L) (upd H q o)) := fun b u e => by
  obtain ⟨nb, e⟩ := vis_some e
  have ne : b ≠ q := fun z => by rw [z, hq] at e; cases e
  rw [vis_out (by
    rw [List.mem_cons]
    rintro (z | z)
    · exact ne z
    · exact nb z), upd_ne ne]
  exact e
/-- xs[lo:hi] -/
theorem n_slice {K : PySem.W.Frag} (hK : X.K = K) (A : DE X W XE Γ e te (tyL T) m) (L : DO X W XE Γ lo tl ml) (U : DO X W XE Γ hi th mh) : DN X W XE Γ (.Subscript e (.Slice lo hi none p2) pos) (tSl (rSlL K) te tl th) T (bd m fun as => bd ml fun l => bd mh fun u => rt (cutL as l u)) := by
  subst hK
  exact ⟨pe_slice sl_list A.pe L.po U.po, fun Qa Ea hh σ H F ev Qv aq ae => A.den _ _ hh σ H F ev _ (fun as x H1 h1 p1 ⟨p, xs, e, hs, rr⟩ => L.den _ _ h1 σ H1 F (ev.step p1) _ (fun l H2 h2 p2 => U.den _ _ h2 σ H2 F ((ev.step p1).step p2) _ (fun u H3 h3 p3 => by
    have pp := (p1.trans p2).trans p3
    have s13 := (p2.trans p3).vis (F := F)
    refine ⟨p, xs, e, SqL.of ((s13.trans vis_le) _ _ hs), fun q hq => aq _ q _ _ h3 (pp.trans (PSt.same pp.ok (same_new hq))) (fresh_back ev pp hq) upd_same ?_⟩
    exact T.all (s13.trans (vis_cons_new hq)) (cut_reps rr l u)) ((ae.step p1).step p2)) (ae.step p1)) ae⟩
theorem d_sliceT {K : PySem.W.Frag} (hK : X.K = K) (A : DE X W XE Γ e te (tyT K T) m) (L : DO X W XE Γ lo tl ml) (U : DO X W XE Γ hi th mh) : DE X W XE Γ (.Subscript e (.Slice lo hi none p2) pos) (tSl (rSlT K) te tl th) (tyT K T) (bd m fun as => bd ml fun l => bd mh fun u => nd (¬ (HT.sIx as.length 0 l = 0 ∧ HT.sIx as.length as.length u = as.length)) (rt (cutL as l u))) := by
  subst hK
  exact ⟨pe_slice sl_tup A.pe L.po U.po, fun Qa Ea hh σ H F ev Qv aq ae => A.den _ _ hh σ H F ev _ (fun as x H1 h1 p1 ⟨p, xs, e, hs, rr⟩ => L.den _ _ h1 σ H1 F (ev.step p1) _ (fun l H2 h2 p2 => U.den _ _ h2 σ H2 F ((ev.step p1).step p2) _ (fun u H3 h3 p3 => by
    have pp := (p1.trans p2).trans p3
    have s13 := (p2.trans p3).vis (F := F)
    have ev3 := ev.step pp
    refine ⟨p, xs, e, same_sqT (s13.trans vis_le) hs, by rw [rr.len]; exact h3.1, fun q hq => aq _ (.ref q) _ h3.2 (pp.trans (PSt.same pp.ok (same_new hq))) ⟨q, _, rfl, SqT.of (vis_new (notin_new ev3.dom hq)), ?_⟩⟩
    exact T.all (s13.trans (vis_same (same_new hq))) (cut_reps rr l u)) ((ae.step p1).step p2)) (ae.step p1)) ae⟩
/-- list(xs) -/
theorem n_list {K : PySem.W.Frag} (hK : X.K = K) {ma : WP (List α × Unit)} {ta : TA} {p : Pos} (hg : Gl X "list") (hm : X.mg "list" = none) (A : DA X W XE Γ [e] ta (tsC (tyQ K T) tsN) ma) (he : starEach [e] X.env = (false, eval e X.env) :: starEach [] X.env := by rfl) (hpl : (backTo pos (starEach [] X.env)).any (·.1) = false := by rfl) :
    DN X W XE Γ (.Call (.Name "list" p) [e] [] pos) (tCB (fun xs H Q => ∃ p ys, xs = [V.ref p] ∧ (SqL K H p ys ∨ SqT K H p ys) ∧ ∀ l, H l = none → Q (.ref l) (upd H l (.lst ys))) ta) T (bd ma fun as => rt as.1) := by
  subst hK
  exact ⟨pe_callTy (T := "list") call_list_of hg hm (by decide +kernel) A.pe (by decide) (by decide) he hpl, fun Qa Ea hh σ H F ev Qv aq ae => A.den _ _ hh σ H F ev _ (fun as x H1 h1 p1 ⟨v, r, e, ⟨p, xs, ev', hs, rr⟩, hr⟩ => by
    have hr : r = [] := hr
    subst hr ev'
    exact ⟨p, xs, e, hs.imp (same_sqL vis_le) (same_sqT vis_le), fun q hq => aq _ q _ _ h1 (p1.trans (PSt.same p1.ok (same_new hq))) (fresh_back ev p1 hq) upd_same (T.all (vis_cons_new hq) rr)⟩) ae⟩
end
end Dn

namespace Dn
open PySem PySem.Spec PyProof.Rows L2 Wx NdefX RZ StX
/-! ### raise -/
/-- an error's making: what it asks of its arguments, which error it is -/
structure ErrOk (K : PySem.W.Frag) (x : Str) (sp : Sp) {α : Type} (TA : TyS α) (cond : α → Prop) (ex : α → Ex) : Prop where
  go : ∀ (L : List Addr) (H1 : Hp) (vs : List V) (u : α), (∀ b ∈ L, H1 b ≠ none) → TA.rep vs (vis L H1) u → cond u → vs.length ≤ 1000 ∧ ∀ a, H1 a = none → ∀ (Q : VK) (E : XK),
    (∀ (fs : List (Str × V)) (H2 H' : Hp) (dx : Addr), H1 dx = none → dx ≠ a → (∀ b o, b ≠ a → H1 b = some o → H2 b = some o) → H2 a = some (exo a (cl K x) (some dx)) → H2 dx = some (exd dx fs) →
      (∀ H', Same H1 H' → (∀ b o, b ≠ a → b ≠ dx → H2 b = some o → H' b = some o) → H' dx = some (.xd fs) → ExRep K (ex u) (.ref (cl K x)) (some dx) (vis L H')) → Q .non H2) →
    sp (.ref a :: vs) (upd H1 a (exo a (cl K x) none)) Q E
section
variable {X : Cx} {s l ρ : Type} {W : Wd} {XE : XK} {Γ : List Slot} {Γ' : s → List Slot} {ΓL : l → List Slot} {R : Ty ρ} {α : Type} {TA : TyS α} {ma : WP α} {e : Expr} {ta : TA'} {cond : α → Prop} {ex : α → Ex}
def raS {s l ρ α : Type} (m : WP α) (cond : α → Prop) (ex : α → Ex) : SB s l ρ := fun D => m (fun u => cond u ∧ D.ex (ex u)) D.ex
theorem s_raise {ta : L2.TA} {x : Str} {sp : Sp} {pos : Pos} {es : List Expr} (hc : X.calm = true) (tk : Takes X (fun c d _ H => XE c d H)) (O : ErrOk X.K x sp TA cond ex) (mk : PA X es ta → PMk X e (tMkO (cl X.K x) sp [] ta)) (A : DA X W XE Γ es ta TA ma) :
    DS X W XE Γ [.Raise (some e) none pos] (tSeq (fun _ σ H => tMkO (cl X.K x) sp [] ta σ H fun cls d H' => XE cls d H') tNext) Γ' ΓL R (raS ma cond ex) :=
  ⟨pss_cons (ps_raise hc tk (mk A.pe)) pss_nil, fun Z hZ σ H F ev D M => A.den _ _ hZ σ H F ev _ (fun u vs H1 ⟨hc, hu⟩ pst r => by
    have ev1 := ev.step pst
    obtain ⟨h1, h2⟩ := O.go (W.M0 ++ F) H1 vs u ev1.dom r hc
    refine ⟨h1, fun a na => ?_⟩
    rw [List.append_nil]
    refine h2 a na _ _ fun fs H2 H' dx nd ne keep ea ed hx => ⟨rfl, dx, fs, ea, ed, nd, ?_⟩
    have s : Same H1 (upd (del H2 a) dx (.xd fs)) := fun b o e => by
      have nb : b ≠ a := ne_of_none e na
      rw [upd_ne (ne_of_none e nd)]
      show (if b = a then none else H2 b) = some o
      rw [if_neg nb]
      exact keep b o nb e
    refine M.ex _ _ _ _ hu (ev1.step (PSt.same pst.ok s)).out ((hx _ s (fun b o nb nd e => ?_) upd_same).mono X.K vis_app)
    rw [upd_ne nd]
    show (if b = a then none else H2 b) = some o
    rw [if_neg nb]
    exact e) (M.aft ev)⟩
end
/-- kinds whose value is told by the data -/
structure Sc {α : Type} (T : Ty α) (f : α → V) : Prop where
  is : ∀ {x : V} {H : Hp} {u : α}, T.rep x H u → x = f u
theorem scI : Sc tyI V.int := ⟨fun h => h⟩
theorem scS : Sc tyS V.str := ⟨fun h => h⟩
theorem scB : Sc tyB V.bl := ⟨fun h => h⟩
theorem scX : Sc tyX id := ⟨fun h => h.1⟩
theorem leaves_of {K : PySem.W.Frag} {H1 : Hp} {a C : Addr} {fs : List (Str × V)} {Q : VK} (na : H1 a = none) (h : ∀ (H2 : Hp) (dx : Addr), H1 dx = none → dx ≠ a → (∀ b o, b ≠ a → H1 b = some o → H2 b = some o) → H2 a = some (exo a C (some dx)) → H2 dx = some (exd dx fs) → Q .non H2) :
    InitLeaves (upd H1 a (exo a C none)) a C fs Q := fun dx H2 nd keep ha hd => by
  have nda : dx ≠ a := fun z => by
    rw [z, upd_same] at nd
    cases nd
  have nd1 : H1 dx = none := by
    rw [upd_ne nda] at nd
    exact nd
  exact h H2 dx nd1 nda (fun b o nb e => keep b o nb (by rw [upd_ne nb]; exact e)) ha hd
section
variable (K : PySem.W.Frag) {α β : Type} {T : Ty α} {S : Ty β} {f : α → V} {g : β → V}
theorem err1 {x : Str} {sp : Sp} {n : Str} {E : V → Ex} (hsp : ∀ (a : Addr) (v : V) (H : Hp) (Q : VK) (XE : XK), ShowOk v → H a = some (exo a (cl K x) none) → InitLeaves H a (cl K x) [(n, v)] Q → sp [.ref a, v] H Q XE)
    (hE : ∀ (v : V) (d : Addr) (H : Hp), H d = some (.xd [(n, v)]) → ExRep K (E v) (.ref (cl K x)) (some d) H) (hS : Sc T f) : ErrOk K x sp (tsC T tsN) (fun u => ShowOk (f u.1)) (fun u => E (f u.1)) :=
  ⟨fun L H1 vs u dom ⟨v, r, e, hv, hr⟩ hc => by
    have hr : r = [] := hr
    have hv := hS.is hv
    subst hr hv e
    refine ⟨by show 1 ≤ 1000; decide, fun a na Q XE k => hsp a _ _ Q XE hc upd_same (leaves_of (K := K) na fun H2 dx nd ne keep ea ed => k _ H2 H2 dx nd ne keep ea ed fun H' s _ hd => hE _ _ _ ?_)⟩
    rw [vis_out (notin_new dom nd)]
    exact hd⟩
theorem err2 {x : Str} {sp : Sp} {n1 n2 : Str} {E : α → β → Ex} {P : α → β → Prop} (hsp : ∀ (a : Addr) (u : α) (v : β) (H : Hp) (Q : VK) (XE : XK), P u v → H a = some (exo a (cl K x) none) → InitLeaves H a (cl K x) [(n2, g v), (n1, f u)] Q → sp [.ref a, f u, g v] H Q XE)
    (hE : ∀ (u : α) (v : β) (d : Addr) (H : Hp), H d = some (.xd [(n2, g v), (n1, f u)]) → ExRep K (E u v) (.ref (cl K x)) (some d) H) (hS : Sc T f) (hS2 : Sc S g) : ErrOk K x sp (tsC T (tsC S tsN)) (fun u => P u.1 u.2.1) (fun u => E u.1 u.2.1) :=
  ⟨fun L H1 vs u dom ⟨v, r, e, hv, v2, r2, e2, hv2, hr⟩ hc => by
    have hr : r2 = [] := hr
    have hv := hS.is hv
    have hv2 := hS2.is hv2
    subst hr hv hv2 e2 e
    refine ⟨by show 2 ≤ 1000; decide, fun a na Q XE k => hsp a _ _ _ Q XE hc upd_same (leaves_of (K := K) na fun H2 dx nd ne keep ea ed => k _ H2 H2 dx nd ne keep ea ed fun H' s _ hd => hE _ _ _ _ ?_)⟩
    rw [vis_out (notin_new dom nd)]
    exact hd⟩
theorem err_BadName (hS : Sc T f) : ErrOk K "BadName" (spBadName (cl K "BadName")) (tsC T tsN) (fun u => ShowOk (f u.1)) (fun u => .name (f u.1)) :=
  err1 K (E := fun v => .name v) (fun a v H Q XE h1 h2 h3 => ⟨a, v, rfl, h2, h1, h3⟩) (fun v d H h => ⟨rfl, d, _, rfl, h, rfl⟩) hS
theorem err_BadNumber (hS : Sc T f) : ErrOk K "BadNumber" (spBadNumber (cl K "BadNumber")) (tsC tyS (tsC T tsN)) (fun u => u.1.length ≤ 1000 ∧ ShowOk (f u.2.1)) (fun u => .number u.1 (f u.2.1)) :=
  err2 K (P := fun z v => z.length ≤ 1000 ∧ ShowOk (f v)) (E := fun z v => .number z (f v)) (fun a z v H Q XE h1 h2 h3 => ⟨a, z, _, rfl, h2, h1.1, h1.2, h3⟩) (fun u v d H h => ⟨rfl, d, _, rfl, h, rfl, rfl⟩) scS hS
end
/-! ### instances -/
/-- what an __init__ promises: a new instance with such attributes -/
def spI (K : PySem.W.Frag) (C : Addr) (fs : List Str) {α β γ : Type} (S : TyS γ) (g : β → γ) (TA : TyS α) (m : α → WP β) : Sp := fun vs H Q E => ∃ (p dx : Addr) (rest : List V) (L : List Addr) (a : α) (Qa : β → Prop) (Ea : Ex → Prop),
  vs = .ref p :: rest ∧ H p = some (.ins C dx []) ∧ p ∉ L ∧ (∀ b ∈ L, H b ≠ none) ∧ TA.rep rest (vis (p :: L) H) a ∧ m a Qa Ea ∧
  (∀ r ws H' dx', Qa r → (∀ b o, b ≠ p → H b = some o → H' b = some o) → H' p = some (.ins C dx' (fs.zip ws)) → ws.length = fs.length → S.rep ws (vis (p :: L) H') (g r) → Q .non H') ∧
  (∀ e c d H', Ea e → (∀ b o, b ≠ p → H b = some o → H' b = some o) → ExRep K e c d (vis L H') → E c d H')
/-- the place in which an __init__ stands -/
def wdI (L : List Addr) (p : Addr) (H : Hp) (np : p ∉ L) (d : ∀ b ∈ L, H b ≠ none) : Wd where
  M0 := L
  H0 := vis [p] H
  ok := fun H' => ∀ b ∈ L, H' b = H b
  dom := fun h b m => by rw [h b m]; exact d b m
  lok := fun h k b m => (k b m).trans (h b m)
section
variable {X : Cx} {α β γ : Type} {S : TyS γ} {g : β → γ} {L : List Addr} {p : Addr} {H : Hp} {np : p ∉ L} {dL : ∀ b ∈ L, H b ≠ none} {E : XK} {Γ : List Slot} {Γ' : γ → List Slot} {ΓL : Unit → List Slot} {σ : L2.St} {ss : List Stmt} {ts : TS} {Q : VK} {Qa : β → Prop} {Ea : Ex → Prop} {C : Addr} {fs : List Str}
theorem wdI_keep {H' : Hp} (o : Out (wdI L p H np dL) H') : ∀ b u, b ≠ p → H b = some u → H' b = some u := fun b u nb e => by
  by_cases m : b ∈ L
  · have h : H' b = H b := o.ok b m
    rw [h]
    exact e
  · refine o.frm b u m ?_
    show vis [p] H b = some u
    rw [vis_out (by simpa using nb)]
    exact e
/-- the body of an __init__: its first slot is the instance -/
theorem fn_bodyI {mb : SB γ Unit Unit} {h : γ → β} (hg : ∀ b, g (h b) = b) (B : DS X (wdI L p H np dL) E (.mu (ownI C p [] tsN) () :: Γ) ss ts (fun b => .mu (ownI C p fs S) b :: Γ' b) ΓL tyN mb) {dx : Addr} (hp : H p = some (.ins C dx []))
    (ev : Ev (vis (p :: L) H) H Γ σ []) (hm : mb ⟨fun b => Qa (h b), fun _ => False, fun _ => False, fun _ => False, Ea⟩)
    (kq : ∀ r ws H' dx', Qa r → (∀ b o, b ≠ p → H b = some o → H' b = some o) → H' p = some (.ins C dx' (fs.zip ws)) → ws.length = fs.length → S.rep ws (vis (p :: L) H') (g r) → Q .non H')
    (ke : ∀ e c d H', Ea e → (∀ b o, b ≠ p → H b = some o → H' b = some o) → ExRep X.K e c d (vis L H') → E c d H') : ∃ t, PSs X ss t ∧ t { nx := fun _ H' => Q .non H', rt := Q } (some (.ref p) :: σ) H := by
  have same2 : ∀ {H' : Hp}, Same (vis (p :: L) H') (vis (L ++ [p]) H') := fun {H'} => vis_less fun b m => by
    rcases List.mem_append.mp m with q | q
    · exact List.mem_cons_of_mem _ q
    · rw [List.mem_singleton.mp q]
      exact List.mem_cons_self
  have ev0 : EvF (wdI L p H np dL) (.mu (ownI C p [] tsN) () :: Γ) (some (.ref p) :: σ) H [p] := by
    refine ⟨fun _ _ => rfl, fun b o _ e => (vis_some e).2, fun b m => ?_, by simp, ?_⟩
    · rw [List.mem_singleton.mp m]
      refine ⟨vis_in (by simp), np, by rw [hp]; simp⟩
    · exact ⟨.ref p, σ, [p], [], rfl, rfl, ⟨rfl, rfl, dx, [], hp, rfl, rfl⟩, ev.mono same2 fun _ _ => rfl⟩
  refine ⟨ts, B.ps, B.den _ hm _ H [p] ev0 _ ⟨fun a σ' H' F' ha ev2 _ => ?_, fun _ _ _ _ h => h.elim, fun _ _ _ _ h => h.elim, fun _ _ _ h => h.elim, fun e c d H' h o q => ke e c d H' h (wdI_keep o) q⟩⟩
  obtain ⟨x, σ2, F1, F2, es, ef, ⟨rfl, rfl, dx', ws, hp2, hl, hr⟩, _⟩ := ev2.sl
  refine kq _ ws H' dx' ha (wdI_keep ev2.out) hp2 hl ?_
  rw [hg a]
  refine S.mono (vis_less fun b m => ?_) hr
  rcases List.mem_cons.mp m with q | q
  · rw [q, ef]
    exact List.mem_append_right _ (List.mem_append_left _ (by simp))
  · exact List.mem_append_left _ q
end
/-- a class whose instances are made by its __init__ -/
structure Mk1 (P : Program) (w : World) (K : PySem.W.Frag) (mg : Str → Option Value) (base : Heap) (x : Str) (k : Nat) (ps : List Str) (fs : List Str) {α β γ : Type} (S : TyS γ) (g : β → γ) (TA : TyS α) (m : α → WP β) : Prop where
  ex : ∃ (f : Addr) (fd : FuncData), FnOk P w K mg base (L2.CX P w) k f fd ps (spI K (cl K x) fs S g TA m) ∧ Mk K (cl K x) f ∧ Binds K fd ps []
  g : mg x = some (.ref (cl K x))
section
variable {X : Cx} {W : Wd} {Γ : List Slot} {XE : XK} {e : Expr} {es : List Expr} {tt : TA} {pos p : Pos} {α β γ : Type} {TA : TyS α} {S : TyS γ} {ma : WP α} {m : α → WP β} {g : β → γ} {x : Str} {k : Nat} {ps fs : List Str}
theorem den_make {K : PySem.W.Frag} {C : Addr} (A : DenA K W XE Γ tt TA ma) : DenE K W XE Γ (tMakeS C (spI K C fs S g TA m) (fun _ => XE) tt) (tyM (tyC C fs S) g) (bd ma m) := fun Qa Ea hh σ H F ev Qv aq ae =>
  A _ _ hh σ H F ev _ (fun u vs H1 hu pst r x dx nx nd ne => by
    have ev1 := ev.step pst
    have s1 : Same H1 (upd H1 dx (.own x)) := same_new nd
    have nx2 : (upd H1 dx (.own x)) x = none := by rw [upd_ne (fun z => ne z.symm)]; exact nx
    have s2 : Same H1 (upd (upd H1 dx (.own x)) x (.ins C dx [])) := s1.trans (same_new nx2)
    have nL : x ∉ W.M0 ++ F := notin_new ev1.dom nx
    refine ⟨x, dx, vs, W.M0 ++ F, u, Qa, Ea, rfl, upd_same, nL, fun b m => ?_, TA.mono ?_ r, hu, fun r ws H' dx' hr keep hp hl hrep => ⟨rfl, ?_⟩, fun e c d H' he keep q => ?_⟩
    · cases q : H1 b with
      | none => exact absurd q (ev1.dom b m)
      | some o => rw [s2 b o q]; simp
    · intro b o e
      obtain ⟨nb, e⟩ := vis_some e
      rw [vis_out (by
        rw [List.mem_cons]
        rintro (z | z)
        · rw [z, nx] at e; cases e
        · exact nb z)]
      exact s2 b o e
    · have s3 : Same H1 H' := fun b o e => keep b o (ne_of_none e nx) (s2 b o e)
      refine aq r (.ref x) H' hr (pst.trans (PSt.same pst.ok s3)) ⟨x, dx', ws, rfl, ?_, hl, S.mono (vis_less fun b m => List.mem_cons_of_mem _ m) hrep⟩
      rw [vis_out nL]
      exact hp
    · have s3 : Same H1 H' := fun b o e => keep b o (ne_of_none e nx) (s2 b o e)
      exact ae e c d H' he (pst.trans (PSt.same pst.ok s3)) q) ae
theorem d_make {K : PySem.W.Frag} (hK : X.K = K) (c : Mk1 X.prog X.w K X.mg X.base x k ps fs S g TA m) (hr : Room (k + 1) X.A) (hx : ∀ σ, PassesAt (L2.CX X.prog X.w) X σ XE) (A : DA X W XE Γ (e :: es) tt TA ma) (hg : Gl X x := by rfl)
    (hdb : (x == ("__debug__" : Str)) = false := by decide) (he : starEach (e :: es) X.env = (false, eval e X.env) :: starEach es X.env := by rfl) (hpl : (backTo pos (starEach es X.env)).any (·.1) = false := by rfl) :
    DE X W XE Γ (.Call (.Name x p) (e :: es) [] pos) (tMakeS (cl K x) (spI K (cl K x) fs S g TA m) (fun _ => XE) tt) (tyM (tyC (cl K x) fs S) g) (bd ma m) := by
  subst hK
  exact ⟨by
    obtain ⟨f, fd, F, M, hb⟩ := c.ex
    exact pe_makeS M F hr hg c.g hb hx A.pe hdb he hpl, den_make A.den⟩
end
/-! ### a def by its body -/
section
variable {P : Program} {w : World} {K : PySem.W.Frag} {mg : Str → Option Value} {base : Heap} {α ρ : Type} {TA : TyS α} {T : Ty ρ} {m : α → WP ρ} {x qual : Str} {st : Stmt} {f : Addr} {fd : FuncData} {N ps : List Str} {k : Nat} {Γ0 : α → List Slot}
theorem fnV (F : L2.Fun K x qual st f fd) (S : FnScope N ps (defScope st)) (hl : ∀ vs G a, TA.rep vs G a → vs.length = ps.length) (hΓ : ∀ vs G H a, TA.rep vs G a → Ev G H (Γ0 a) (start N vs) [])
    (body : ∀ (cdv : Value) (A : Around) (outer : List Env) (s : Shared) (H : Hp) (E : XK), Room k (A.deeper (envOfC qual (defScope st) s.heap.objs.size f cdv)) → (∀ σ, Air (cxOf (L2.CX P w) P w K mg base N qual (defScope st) f cdv A outer s H E) σ E) → Takes (cxOf (L2.CX P w) P w K mg base N qual (defScope st) f cdv A outer s H E) (fun c d _ H => E c d H) →
      ∀ (L : List Addr) (dL : ∀ b ∈ L, H b ≠ none) (a : α), ∃ ts mb, DS (cxOf (L2.CX P w) P w K mg base N qual (defScope st) f cdv A outer s H E) (wdF L H dL) E (Γ0 a) (defBody st) ts (fun _ : Unit => []) (fun _ : Unit => []) T mb ∧
        ∀ Qa Ea, m a Qa Ea → mb ⟨fun _ => False, fun _ => False, fun _ => False, Qa, Ea⟩) :
    FnOk P w K mg base (L2.CX P w) (k + 1) f fd ps (spF K TA T m) :=
  F.okX S (fun vs H Q E ⟨L, a, _, _, _, h, _⟩ => hl vs _ a h) (fun cdv A outer s H vs Q E hr ⟨L, a, Qa, Ea, dL, hrep, hm, kq, ke⟩ => by
    obtain ⟨ts, mb, B, hb⟩ := body cdv A outer s H E hr (fun σ => air_of (takes_of rfl rfl rfl rfl) rfl rfl) (takes_of rfl rfl rfl rfl) L dL a
    exact fn_body B (hΓ _ _ _ _ hrep) (hb _ _ hm) kq ke)
/-- .. that gives None -/
theorem fnN {m : α → WP Unit} {Γ' : List Slot} (F : L2.Fun K x qual st f fd) (S : FnScope N ps (defScope st)) (hl : ∀ vs G a, TA.rep vs G a → vs.length = ps.length) (hΓ : ∀ vs G H a, TA.rep vs G a → Ev G H (Γ0 a) (start N vs) [])
    (body : ∀ (cdv : Value) (A : Around) (outer : List Env) (s : Shared) (H : Hp) (E : XK), Room k (A.deeper (envOfC qual (defScope st) s.heap.objs.size f cdv)) → (∀ σ, Air (cxOf (L2.CX P w) P w K mg base N qual (defScope st) f cdv A outer s H E) σ E) → Takes (cxOf (L2.CX P w) P w K mg base N qual (defScope st) f cdv A outer s H E) (fun c d _ H => E c d H) →
      ∀ (L : List Addr) (dL : ∀ b ∈ L, H b ≠ none) (a : α), ∃ ts mb, DS (cxOf (L2.CX P w) P w K mg base N qual (defScope st) f cdv A outer s H E) (wdF L H dL) E (Γ0 a) (defBody st) ts (fun _ : Unit => Γ') (fun _ : Unit => []) tyN mb ∧
        ∀ Qa Ea, m a Qa Ea → mb ⟨Qa, fun _ => False, fun _ => False, Qa, Ea⟩) :
    FnOk P w K mg base (L2.CX P w) (k + 1) f fd ps (spF K TA tyN m) :=
  F.okX S (fun vs H Q E ⟨L, a, _, _, _, h, _⟩ => hl vs _ a h) (fun cdv A outer s H vs Q E hr ⟨L, a, Qa, Ea, dL, hrep, hm, kq, ke⟩ => by
    obtain ⟨ts, mb, B, hb⟩ := body cdv A outer s H E hr (fun σ => air_of (takes_of rfl rfl rfl rfl) rfl rfl) (takes_of rfl rfl rfl rfl) L dL a
    exact fn_bodyN B (hΓ _ _ _ _ hrep) (hb _ _ hm) kq ke)
/-- an __init__ -/
theorem fnI {β γ : Type} {SF : TyS γ} {g : β → γ} {h : γ → β} {m : α → WP β} {C : Addr} {fs N' ps' : List Str} {Γ' : γ → List Slot} (hg : ∀ b, g (h b) = b) (F : L2.Fun K x qual st f fd) (S : FnScope ("self" :: N') ("self" :: ps') (defScope st)) (hl : ∀ vs G a, TA.rep vs G a → vs.length = ps'.length) (hΓ : ∀ vs G H a, TA.rep vs G a → Ev G H (Γ0 a) (start N' vs) [])
    (body : ∀ (cdv : Value) (A : Around) (outer : List Env) (s : Shared) (H : Hp) (E : XK), Room k (A.deeper (envOfC qual (defScope st) s.heap.objs.size f cdv)) → (∀ σ, Air (cxOf (L2.CX P w) P w K mg base ("self" :: N') qual (defScope st) f cdv A outer s H E) σ E) → Takes (cxOf (L2.CX P w) P w K mg base ("self" :: N') qual (defScope st) f cdv A outer s H E) (fun c d _ H => E c d H) →
      ∀ (L : List Addr) (p : Addr) (np : p ∉ L) (dL : ∀ b ∈ L, H b ≠ none) (a : α), ∃ ts mb, DS (cxOf (L2.CX P w) P w K mg base ("self" :: N') qual (defScope st) f cdv A outer s H E) (wdI L p H np dL) E (.mu (ownI C p [] tsN) () :: Γ0 a) (defBody st) ts (fun b : γ => .mu (ownI C p fs SF) b :: Γ' b) (fun _ : Unit => []) tyN mb ∧
        ∀ Qa Ea, m a Qa Ea → mb ⟨fun b => Qa (h b), fun _ => False, fun _ => False, fun _ => False, Ea⟩) :
    FnOk P w K mg base (L2.CX P w) (k + 1) f fd ("self" :: ps') (spI K C fs SF g TA m) :=
  F.okX S (fun vs H Q E ⟨p, dx, rest, L, a, _, _, e, _, _, _, hr, _⟩ => by rw [e, List.length_cons, List.length_cons, hl _ _ _ hr]) (fun cdv A outer s H vs Q E hr ⟨p, dx, rest, L, a, Qa, Ea, e, hp, np, dL, hrep, hm, kq, ke⟩ => by
    subst e
    obtain ⟨ts, mb, B, hb⟩ := body cdv A outer s H E hr (fun σ => air_of (takes_of rfl rfl rfl rfl) rfl rfl) (takes_of rfl rfl rfl rfl) L p np dL a
    have es : L2.start ("self" :: N') (.ref p :: rest) = some (.ref p) :: L2.start N' rest := by
      unfold L2.start
      simp
    rw [es]
    exact fn_bodyI hg B hp (hΓ _ _ _ _ hrep) (hb _ _ hm) kq ke)
end
/-! ### small help for written terms -/
theorem low_nil : Lower [] [] := trivial
theorem low_eq {a : Slot} {Γ Γ' : List Slot} (h : Lower Γ Γ') : Lower (a :: Γ) (a :: Γ') := ⟨by cases a <;> first | rfl | trivial, h⟩
theorem low_un {a : Slot} {Γ Γ' : List Slot} (h : Lower Γ Γ') : Lower (a :: Γ) (.un :: Γ') := ⟨by cases a <;> trivial, h⟩
theorem al_n {p : Nat → Prop} : ∀ i ∈ ([] : List Nat), p i := fun _ h => nomatch h
theorem al_c {p : Nat → Prop} {i : Nat} {l : List Nat} (h : p i) (t : ∀ j ∈ l, p j) : ∀ j ∈ i :: l, p j := fun j m => by
  rcases List.mem_cons.mp m with e | e
  · rw [e]; exact h
  · exact t j e
theorem ln2 {α β : Type} {T : Ty α} {S : Ty β} : ∀ xs H a, (ts2 T S).rep xs H a → xs.length = 2 := fun xs H a ⟨_, _, e, _⟩ => by rw [e]; rfl
theorem ln3 {α β γ : Type} {T : Ty α} {S : Ty β} {R : Ty γ} : ∀ xs H a, (ts3 T S R).rep xs H a → xs.length = 3 := fun xs H a ⟨_, _, _, e, _⟩ => by rw [e]; rfl
theorem ln4 {α β γ δ : Type} {T : Ty α} {S : Ty β} {R : Ty γ} {U : Ty δ} : ∀ xs H a, (ts4 T S R U).rep xs H a → xs.length = 4 := fun xs H a ⟨_, _, _, _, e, _⟩ => by rw [e]; rfl
/-- displays -/
theorem dp0 {K : PySem.W.Frag} {α : Type} {T : Ty α} : ∀ p xs H (u : Unit), H p = some (.tup xs) → tsN.rep xs H u → (tyT K T).rep (.ref p) H [] := fun p xs H u h e => ⟨p, xs, rfl, SqT.of h, by have e : xs = [] := e; rw [e]; trivial⟩
theorem dp2 {K : PySem.W.Frag} {α β : Type} {T : Ty α} {S : Ty β} : ∀ p xs H (u : α × β × Unit), H p = some (.tup xs) → (tsC T (tsC S tsN)).rep xs H u → (tyP K (ts2 T S)).rep (.ref p) H (u.1, u.2.1) := fun p xs H u h ⟨v, r, e, h1, v2, r2, e2, h2, e3⟩ => ⟨p, xs, rfl, SqT.of h, v, v2, by have e3 : r2 = [] := e3; rw [e, e2, e3], h1, h2⟩
theorem dp3 {K : PySem.W.Frag} {α β γ : Type} {T : Ty α} {S : Ty β} {R : Ty γ} : ∀ p xs H (u : α × β × γ × Unit), H p = some (.tup xs) → (tsC T (tsC S (tsC R tsN))).rep xs H u → (tyP K (ts3 T S R)).rep (.ref p) H (u.1, u.2.1, u.2.2.1) := fun p xs H u h ⟨v, r, e, h1, v2, r2, e2, h2, v3, r3, e3, h3, e4⟩ => ⟨p, xs, rfl, SqT.of h, v, v2, v3, by have e4 : r3 = [] := e4; rw [e, e2, e3, e4], h1, h2, h3⟩
theorem dp4 {K : PySem.W.Frag} {α β γ δ : Type} {T : Ty α} {S : Ty β} {R : Ty γ} {U : Ty δ} : ∀ p xs H (u : α × β × γ × δ × Unit), H p = some (.tup xs) → (tsC T (tsC S (tsC R (tsC U tsN)))).rep xs H u → (tyP K (ts4 T S R U)).rep (.ref p) H (u.1, u.2.1, u.2.2.1, u.2.2.2.1) := fun p xs H u h ⟨v, r, e, h1, v2, r2, e2, h2, v3, r3, e3, h3, v4, r4, e4, h4, e5⟩ => ⟨p, xs, rfl, SqT.of h, v, v2, v3, v4, by have e5 : r4 = [] := e5; rw [e, e2, e3, e4, e5], h1, h2, h3, h4⟩
/-- items of one kind, by their number -/
structure Same1 {α δ : Type} (T : Ty α) (S : TyS δ) (n : Nat) (f : δ → List α) : Prop where
  rep : ∀ {xs : List V} {H : Hp} {u : δ}, S.rep xs H u → Reps T.rep H xs (f u)
  len : ∀ {xs : List V} {H : Hp} {u : δ}, S.rep xs H u → xs.length ≤ n
theorem sm0 {α : Type} {T : Ty α} : Same1 T tsN 0 (fun _ => []) := ⟨fun {xs H u} e => by have e : xs = [] := e; rw [e]; trivial, fun {xs H u} e => by have e : xs = [] := e; rw [e]; exact Nat.le_refl _⟩
theorem sm_c {α δ : Type} {T : Ty α} {S : TyS δ} {n : Nat} {f : δ → List α} (h : Same1 T S n f) : Same1 T (tsC T S) (n + 1) (fun u => u.1 :: f u.2) := ⟨fun {xs H u} ⟨v, r, e, h1, h2⟩ => by rw [e]; exact ⟨h1, h.rep h2⟩, fun {xs H u} ⟨v, r, e, h1, h2⟩ => by rw [e, List.length_cons]; exact Nat.succ_le_succ (h.len h2)⟩
theorem dpl {K : PySem.W.Frag} {α δ : Type} {T : Ty α} {S : TyS δ} {n : Nat} {f : δ → List α} (h : Same1 T S n f) : ∀ p xs H (u : δ), H p = some (.tup xs) → S.rep xs H u → (tyT K T).rep (.ref p) H (f u) := fun p xs H u e r => ⟨p, xs, rfl, SqT.of e, h.rep r⟩
end Dn

namespace Dn
open PySem PySem.Spec PyProof.Rows L2 Wx NdefX RZ StX
/-! ### more small help -/
section
variable {K : PySem.W.Frag} {α β γ δ : Type} {T : Ty α} {S : Ty β} {x : V} {H : Hp}
theorem nnI {u : Int} (h : tyI.rep x H u) : x ≠ .non := fun z => by
  have h : x = .int u := h
  rw [z] at h
  cases h
theorem nnB {u : Bool} (h : tyB.rep x H u) : x ≠ .non := fun z => by
  have h : x = .bl u := h
  rw [z] at h
  cases h
theorem nnS {u : Str} (h : tyS.rep x H u) : x ≠ .non := fun z => by
  have h : x = .str u := h
  rw [z] at h
  cases h
theorem nnL {u : List α} (h : (tyL T).rep x H u) : x ≠ .non := fun z => by
  obtain ⟨p, _, e, _⟩ := h
  rw [z] at e
  cases e
theorem nnR {u : List α} (h : (tyT K T).rep x H u) : x ≠ .non := fun z => by
  obtain ⟨p, _, e, _⟩ := h
  rw [z] at e
  cases e
theorem nnQ {u : List α} (h : (tyQ K T).rep x H u) : x ≠ .non := fun z => by
  obtain ⟨p, _, e, _⟩ := h
  rw [z] at e
  cases e
theorem nnP {R : TyS α} {u : α} (h : (tyP K R).rep x H u) : x ≠ .non := fun z => by
  obtain ⟨p, _, e, _⟩ := h
  rw [z] at e
  cases e
theorem nnC {C : Addr} {fs : List Str} {R : TyS α} {f : β → α} {u : β} (h : (tyM (tyC C fs R) f).rep x H u) : x ≠ .non := fun z => by
  obtain ⟨p, _, _, e, _⟩ := h
  rw [z] at e
  cases e
theorem toXI {u : Int} (h : tyI.rep x H u) : tyX.rep x H (V.int u) := ⟨h, fun _ z => by cases z⟩
theorem toXS {u : Str} (h : tyS.rep x H u) : tyX.rep x H (V.str u) := ⟨h, fun _ z => by cases z⟩
theorem toXB {u : Bool} (h : tyB.rep x H u) : tyX.rep x H (V.bl u) := ⟨h, fun _ z => by cases z⟩
theorem toXN {u : Unit} (h : tyN.rep x H u) : tyX.rep x H ((fun _ => V.non) u) := ⟨h, fun _ z => by cases z⟩
def isI (v : V) : WP Int := fun Q _ => ∃ i, v = .int i ∧ Q i
def isS (v : V) : WP Str := fun Q _ => ∃ i, v = .str i ∧ Q i
def isB (v : V) : WP Bool := fun Q _ => ∃ i, v = .bl i ∧ Q i
theorem of_isI (u : V) (Qa : Int → Prop) (Ea : Ex → Prop) (h : isI u Qa Ea) : ∃ w, Qa w ∧ ∀ x H, tyX.rep x H u → tyI.rep x H w := let ⟨i, e, q⟩ := h; ⟨i, q, fun x H r => r.1.trans e⟩
theorem of_isS (u : V) (Qa : Str → Prop) (Ea : Ex → Prop) (h : isS u Qa Ea) : ∃ w, Qa w ∧ ∀ x H, tyX.rep x H u → tyS.rep x H w := let ⟨i, e, q⟩ := h; ⟨i, q, fun x H r => r.1.trans e⟩
theorem of_isB (u : V) (Qa : Bool → Prop) (Ea : Ex → Prop) (h : isB u Qa Ea) : ∃ w, Qa w ∧ ∀ x H, tyX.rep x H u → tyB.rep x H w := let ⟨i, e, q⟩ := h; ⟨i, q, fun x H r => r.1.trans e⟩
theorem lnC2 {T : Ty α} {S : Ty β} {xs : List V} {u : α × β × Unit} (h : (tsC T (tsC S tsN)).rep xs H u) : xs.length ≤ 2 := by
  obtain ⟨v, r, e, h1, v2, r2, e2, h2, e3⟩ := h
  have e3 : r2 = [] := e3
  rw [e, e2, e3]
  exact Nat.le_refl _
theorem lnC3 {T : Ty α} {S : Ty β} {R : Ty γ} {xs : List V} {u : α × β × γ × Unit} (h : (tsC T (tsC S (tsC R tsN))).rep xs H u) : xs.length ≤ 3 := by
  obtain ⟨v, r, e, h1, v2, r2, e2, h2, v3, r3, e3, h3, e4⟩ := h
  have e4 : r3 = [] := e4
  rw [e, e2, e3, e4]
  exact Nat.le_refl _
theorem lnC4 {T : Ty α} {S : Ty β} {R : Ty γ} {U : Ty δ} {xs : List V} {u : α × β × γ × δ × Unit} (h : (tsC T (tsC S (tsC R (tsC U tsN)))).rep xs H u) : xs.length ≤ 4 := by
  obtain ⟨v, r, e, h1, v2, r2, e2, h2, v3, r3, e3, h3, v4, r4, e4, h4, e5⟩ := h
  have e5 : r4 = [] := e5
  rw [e, e2, e3, e4, e5]
  exact Nat.le_refl _
def rLen2 (K : PySem.W.Frag) : List V → Hp → VK → Prop := fun xs H Q => ∃ p ys, xs = [V.ref p] ∧ (SqL K H p ys ∨ SqT K H p ys) ∧ Q (.int ys.length) H
def rTup2 (K : PySem.W.Frag) : List V → Hp → VK → Prop := fun xs H Q => ∃ p ys, xs = [V.ref p] ∧ ((SqL K H p ys ∧ ∀ l, H l = none → Q (.ref l) (upd H l (.tup ys))) ∨ (SqT K H p ys ∧ Q (.ref p) H))
theorem b_lenS (as : Str × Unit) : RAOk (fun xs H Q => ∃ z, xs = [V.str z] ∧ z.length ≤ sizeLine ∧ Q (.int z.length) H) (tsC tyS tsN) as tyI (nd (as.1.length ≤ sizeLine) (rt (as.1.length : Int))) := fun Qa Ea ⟨h1, h2⟩ L H x Qv d ⟨v, r, e, hv, hr⟩ k => by
  have hr : r = [] := hr
  have hv : v = .str as.1 := hv
  subst hr hv
  exact ⟨as.1, e, h1, k _ _ H h2 (Same.refl _) rfl⟩
theorem o_ixQ (as : List α) (i : Int) : R2Ok (rIxA K) (tyQ K T) as tyI i T (ixW as i) := fun Qa Ea ⟨a, ha, hQ⟩ L H x y Qv d ⟨p, xs, e, hs, r⟩ r2 k => by
  obtain ⟨v, hv, hr⟩ := atI_reps r ha
  exact ⟨p, xs, i, v, e, r2, hs.imp (same_sqL vis_le) (same_sqT vis_le), hv, k a v H hQ (Same.refl _) hr⟩
theorem o_ixS (u : Str) (i : Int) : R2Ok rIxS tyS u tyI i tyS (nd (u.length ≤ sizeLine) (bd (ixW u.cps.toList i) fun c => rt (⟨#[c]⟩ : Str))) := fun Qa Ea ⟨h0, a, ha, hQ⟩ L H x y Qv d r1 r2 k =>
  ⟨u, i, a, r1, r2, h0, ha, k _ _ H hQ (Same.refl _) rfl⟩
end
section
variable {X : Cx} {W : Wd} {Γ : List Slot} {XE : XK} {a b c e : Expr} {ta tb tc te : TE} {pos : Pos} {α β γ : Type} {T : Ty α} {S : Ty β} {U : Ty γ} {ma : WP α} {mb : WP β} {mc : WP γ}
theorem den_chain {K : PySem.W.Frag} {r r' : R2} {k1 : α → β → WP Bool} {k2 : β → γ → WP Bool} (A : DenE K W XE Γ ta T ma) (B : DenE K W XE Γ tb S mb) (C : DenE K W XE Γ tc U mc) (h1 : ∀ u v, R2Ok r T u S v tyB (k1 u v)) (h2 : ∀ u v, R2Ok r' S u U v tyB (k2 u v)) :
    DenE K W XE Γ (tChain r r' ta tb tc) tyB (bd ma fun a => bd mb fun b => bd (k1 a b) fun k => if k = true then bd mc fun c => k2 b c else rt false) := fun Qa Ea hh σ H F ev Qv aq ae =>
  A _ _ hh σ H F ev _ (fun u x H1 hu p1 r1 => B _ _ hu σ H1 F (ev.step p1) _ (fun v y H2 hv p2 r2 => by
    have ev2 := (ev.step p1).step p2
    refine h1 u v _ _ hv (W.M0 ++ F) H2 x y _ ev2.dom (T.mono p2.vis r1) r2 fun k z H3 hk s3 rz => ⟨k, rz, ?_⟩
    have p3 := PSt.same p2.ok s3
    have ev3 := ev2.step p3
    have pp := (p1.trans p2).trans p3
    cases k with
    | false =>
      rw [if_neg Bool.false_ne_true] at hk
      rw [if_neg Bool.false_ne_true]
      exact aq false _ H3 hk pp rfl
    | true =>
      rw [if_pos rfl] at hk
      rw [if_pos rfl]
      exact C _ _ hk σ H3 F ev3 _ (fun w q H4 hw p4 r4 => h2 v w _ _ hw (W.M0 ++ F) H4 y q Qv (ev3.step p4).dom (S.mono (p3.trans p4).vis r2) r4 fun a z H5 ha s q => aq a z H5 ha ((pp.trans p4).trans (PSt.same p4.ok s)) q) (ae.step pp)) (ae.step p1)) ae
theorem d_chain {op op' : CmpOp} {r r' : R2} {k1 : α → β → WP Bool} {k2 : β → γ → WP Bool} (ho : OpR X (compareOp op) r) (ho' : OpR X (compareOp op') r') (A : DE X W XE Γ a ta T ma) (B : DE X W XE Γ b tb S mb) (C : DE X W XE Γ c tc U mc) (h1 : ∀ u v, R2Ok r T u S v tyB (k1 u v)) (h2 : ∀ u v, R2Ok r' S u U v tyB (k2 u v))
    (hm : lastMarks [op, op'] [b, c] = false := by with_unfolding_all rfl) : DE X W XE Γ (.Compare a [op, op'] [b, c] pos) (tChain r r' ta tb tc) tyB (bd ma fun a => bd mb fun b => bd (k1 a b) fun k => if k = true then bd mc fun c => k2 b c else rt false) :=
  ⟨pe_chain ho ho' A.pe B.pe C.pe hm, den_chain A.den B.den C.den h1 h2⟩
theorem t_chain {op op' : CmpOp} {r r' : R2} {k1 : α → β → WP Bool} {k2 : β → γ → WP Bool} (ho : OpR X (compareOp op) r) (ho' : OpR X (compareOp op') r') (A : DE X W XE Γ a ta T ma) (B : DE X W XE Γ b tb S mb) (C : DE X W XE Γ c tc U mc) (h1 : ∀ u v, R2Ok r T u S v tyB (k1 u v)) (h2 : ∀ u v, R2Ok r' S u U v tyB (k2 u v))
    (hm : lastMarks [op, op'] [b, c] = false := by with_unfolding_all rfl) : DT X W XE Γ (.Compare a [op, op'] [b, c] pos) (tTest (tChain r r' ta tb tc)) (bd ma fun a => bd mb fun b => bd (k1 a b) fun k => if k = true then bd mc fun c => k2 b c else rt false) :=
  ⟨pt_chain ho ho' A.pe B.pe C.pe hm, den_tB (den_chain A.den B.den C.den h1 h2)⟩
theorem d_cb {r : List V → Hp → VK → Prop} {tt : L2.TA} {TS : TyS α} {k : α → WP β} {es : List Expr} (p : PA X es tt → PE X e (tCB r tt)) (A : DA X W XE Γ es tt TS ma) (h : ∀ u, RAOk r TS u S (k u)) : DE X W XE Γ e (tCB r tt) S (bd ma k) := ⟨p A.pe, den_cb A.den h⟩
/-! ### texts compared -/
def ltS (u v : Str) : Bool := decide (u.cps.toList < v.cps.toList)
def leS (u v : Str) : Bool := !decide (v.cps.toList < u.cps.toList)
theorem o_LtS (u v : Str) : R2Ok (fun x y H Q => ∃ i j, x = .str i ∧ y = .str j ∧ Q (.bl (decide (i.cps.toList < j.cps.toList))) H) tyS u tyS v tyB (rt (ltS u v)) := fun Qa Ea h L H x y Qv d r1 r2 k => ⟨u, v, r1, r2, k _ _ H h (Same.refl _) rfl⟩
theorem o_LtES (u v : Str) : R2Ok (fun x y H Q => ∃ i j, x = .str i ∧ y = .str j ∧ Q (.bl (!decide (j.cps.toList < i.cps.toList))) H) tyS u tyS v tyB (rt (leS u v)) := fun Qa Ea h L H x y Qv d r1 r2 k => ⟨u, v, r1, r2, k _ _ H h (Same.refl _) rfl⟩
/-! ### truth -/
theorem t_seq {K : PySem.W.Frag} (hK : X.K = K) {m : WP (List α)} (A : DE X W XE Γ e te (tyQ K T) m) (he : ∀ whole, isTrue e X.env whole = (do let v ← whole; standAt e.pos; holding [v] (truthy v))) :
    DT X W XE Γ e (fun σ H Q => te σ H fun x H' => ∃ k, TruV K x H' k ∧ Q k H') (bd m fun u => rt (!u.isEmpty)) := by
  subst hK
  exact ⟨pt_truth A.pe he, fun Qa Ea hh σ H F ev Qv aq ae => A.den _ _ hh σ H F ev _ (fun u x H1 hu p ⟨q, xs, ex, hs, r⟩ => by
    have e : (!u.isEmpty) = !xs.isEmpty := by
      cases xs <;> cases u <;> first | rfl | cases r
    refine ⟨!xs.isEmpty, ?_, by rw [← e]; exact aq _ H1 hu p⟩
    subst ex
    rcases hs with hs | hs
    · exact .inl ⟨xs, same_sqL vis_le hs, rfl⟩
    · exact .inr (.inl ⟨xs, same_sqT vis_le hs, rfl⟩)) ae⟩
theorem t_int {K : PySem.W.Frag} (hK : X.K = K) {m : WP Int} (A : DE X W XE Γ e te tyI m) (he : ∀ whole, isTrue e X.env whole = (do let v ← whole; standAt e.pos; holding [v] (truthy v))) :
    DT X W XE Γ e (fun σ H Q => te σ H fun x H' => ∃ k, TruV K x H' k ∧ Q k H') (bd m fun u => rt (u != 0)) := by
  subst hK
  exact ⟨pt_truth A.pe he, fun Qa Ea hh σ H F ev Qv aq ae => A.den _ _ hh σ H F ev _ (fun u x H1 hu p r => by
    have r : x = .int u := r
    subst r
    exact ⟨_, rfl, aq _ H1 hu p⟩) ae⟩
/-! ### isinstance -/
def isT (c : String) : V → Bool
  | .bl _ => c == "bool" || c == "int"
  | .int _ => c == "int"
  | .str _ => c == "str"
  | _ => false
def isW (c : String) (v : V) : WP Bool := fun Q _ => match v with
  | .non => Q false
  | .bl _ => Q (c == "bool" || c == "int")
  | .int _ => Q (c == "int")
  | .str _ => Q (c == "str")
  | _ => False
theorem b_isX {K : PySem.W.Frag} {c : String} (h0 : kitB "NoneType" c = some false) (h1 : kitB "bool" c = some (c == "bool" || c == "int")) (h2 : kitB "int" c = some (c == "int")) (h3 : kitB "str" c = some (c == "str")) (u : V × Unit × Unit) :
    RAOk (rIsi K) (tsC tyX (tsC (⟨fun x _ _ => x = .ty c, fun _ h => h⟩ : Ty Unit) tsN)) u tyB (isW c u.1) := fun Qa Ea h L H x Qv d ⟨v, r, e, hv, v2, r2, e2, hv2, hr⟩ k => by
  have hr : r2 = [] := hr
  have hv : v = u.1 := hv.1
  have hv2 : v2 = .ty c := hv2
  subst hr hv2 e2 e
  rw [hv]
  clear hv
  unfold isW at h
  cases eq : u.1 with
  | non => rw [eq] at h; exact ⟨_, _, _, _, _, rfl, .ty _, .base .non, kit_ty h0, k _ _ H h (Same.refl _) rfl⟩
  | bl b => rw [eq] at h; exact ⟨_, _, _, _, _, rfl, .ty _, .base (.bl _), kit_ty h1, k _ _ H h (Same.refl _) rfl⟩
  | int b => rw [eq] at h; exact ⟨_, _, _, _, _, rfl, .ty _, .base (.int _), kit_ty h2, k _ _ H h (Same.refl _) rfl⟩
  | str b => rw [eq] at h; exact ⟨_, _, _, _, _, rfl, .ty _, .base (.str _), kit_ty h3, k _ _ H h (Same.refl _) rfl⟩
  | byt b => rw [eq] at h; exact h.elim
  | flt b => rw [eq] at h; exact h.elim
  | ref b => rw [eq] at h; exact h.elim
  | ty b => rw [eq] at h; exact h.elim
theorem d_isX {K : PySem.W.Frag} (hK : X.K = K) {c : String} {m : WP V} {n : Str} {p p1 : Pos} (A : DE X W XE Γ e te tyX m) (hc : PE X (.Name n p1) (tC (.ty c))) (hm : X.mg "isinstance" = none) (h0 : kitB "NoneType" c = some false) (h1 : kitB "bool" c = some (c == "bool" || c == "int")) (h2 : kitB "int" c = some (c == "int")) (h3 : kitB "str" c = some (c == "str"))
    (hg : Gl X "isinstance" := by rfl) (he : starEach [e, .Name n p1] X.env = (false, eval e X.env) :: starEach [.Name n p1] X.env := by rfl) (he2 : starEach [.Name n p1] X.env = (false, eval (.Name n p1) X.env) :: starEach [] X.env := by rfl) (hpl : (backTo pos (starEach [.Name n p1] X.env)).any (·.1) = false := by rfl) :
    DE X W XE Γ (.Call (.Name "isinstance" p) [e, .Name n p1] [] pos) (tCB (rIsi K) (tCons te (tCons (tC (.ty c)) tNil))) tyB (bd m fun u => isW c u) := by
  subst hK
  have CC : DE X W XE Γ (.Name n p1) (tC (.ty c)) (⟨fun x _ _ => x = .ty c, fun _ h => h⟩ : Ty Unit) (rt ()) := d_con hc fun _ => rfl
  have AA := da_cons A (da_cons CC da_nil he2) he
  have hh := den_cb (r := rIsi X.K) (m := fun u : V × Unit × Unit => isW c u.1) AA.den (fun u => b_isX h0 h1 h2 h3 u)
  exact ⟨pe_callB (id := "isinstance") call_isi hg hm (by decide +kernel) AA.pe (by decide) (by decide) he hpl, hh⟩
/-! ### classes -/
structure ClsT (K : PySem.W.Frag) (mg : Str → Option Value) (x : Str) (fs : List Str) : Prop where
  g : mg x = some (.ref (cl K x))
  cls : Cls K (cl K x)
  no : ∀ f, f ∈ fs → NoAttr K (cl K x) f
  ha : PySem.W.findIn K (.ref (cl K x)) "__class__" = some (some (.builtin "object.__class__"))
  hn : PySem.W.specialIn K (.builtin "object.__class__") "__get__" = some (some (.builtin "getset_descriptor.__get__"))
  htk : PySem.W.takesIn K (.builtin "object.__class__") = some true
  hm : PySem.W.mroIn K (cl K x) (.type "object") = some true
  kit : PySem.W.kitOne K (.ref (cl K x)) (.ref (cl K x)) = some true
theorem d_isC {K : PySem.W.Frag} (hK : X.K = K) {x : Str} {fs fs2 : List Str} {SS : TyS β} {g : α → β} {m : WP α} {p p1 : Pos} (D : ClsT K X.mg x fs2) (A : DE X W XE Γ e te (tyM (tyC (cl K x) fs SS) g) m) (hm : X.mg "isinstance" = none) (hgx : Gl X x := by rfl) (hdb : (x == ("__debug__" : Str)) = false := by decide)
    (hg : Gl X "isinstance" := by rfl) (he : starEach [e, .Name x p1] X.env = (false, eval e X.env) :: starEach [.Name x p1] X.env := by rfl) (he2 : starEach [.Name x p1] X.env = (false, eval (.Name x p1) X.env) :: starEach [] X.env := by rfl) (hpl : (backTo pos (starEach [.Name x p1] X.env)).any (·.1) = false := by rfl) :
    DE X W XE Γ (.Call (.Name "isinstance" p) [e, .Name x p1] [] pos) (tCB (rIsi K) (tCons te (tCons (tC (.ref (cl K x))) tNil))) tyB (bd m fun _ => rt true) := by
  subst hK
  have CC : DE X W XE Γ (.Name x p1) (tC (.ref (cl X.K x))) (⟨fun v _ _ => v = .ref (cl X.K x), fun _ h => h⟩ : Ty Unit) (rt ()) := d_con (pe_glob hgx D.g rfl hdb) fun _ => rfl
  have AA := da_cons A (da_cons CC da_nil he2) he
  have hh := den_cb (K := X.K) (XE := XE) (r := rIsi X.K) (T := tyB) (m := fun _ : α × Unit × Unit => rt true) AA.den (fun u => ?_)
  · exact ⟨pe_callB (id := "isinstance") call_isi hg hm (by decide +kernel) AA.pe (by decide) (by decide) he hpl, hh⟩
  intro Qa Ea h L H v Qv d ⟨v1, r, e, ⟨q, dx, vs, ev, hp, hl, rr⟩, v2, r2, e2, hv2, hr⟩ k
  have hr : r2 = [] := hr
  have hv2 : v2 = .ref (cl X.K x) := hv2
  subst hr hv2 e2 e ev
  exact ⟨_, _, _, _, true, rfl, .own _, .base (.ins (vis_le _ _ hp) D.cls D.ha D.hn D.htk D.hm), D.kit, k _ _ H h (Same.refl _) rfl⟩
/-! ### targets, augmented -/
variable {s l ρ : Type} {Γ' : s → List Slot} {ΓL : l → List Slot} {R : Ty ρ} {st : Stmt} {ss : List Stmt} {ts : TS}
theorem s_asg [Inhabited α] {g : TG} {vs : List Nat} {Γt : α → List Slot} {k : α → SB s l ρ} (p : PE X e te → PS X st (tAsg te g)) (A : DE X W XE Γ e te T ma) (hG : DenG' Γ vs X.K g T Γt) (B : ∀ a, DS X W XE (Γt a) ss ts Γ' ΓL R (k a)) :
    DS X W XE Γ (st :: ss) (tSeq (tAsg te g) ts) Γ' ΓL R (seS ma k) :=
  ⟨pss_cons (p A.pe) (B default).ps, fun Z hZ σ H F ev D M => A.den _ _ hZ σ H F ev _ (fun u x H1 hu p1 r => hG W u x σ H1 F (ev.step p1) r _ fun σ' _ _ ev2 => (B u).den Z hu σ' H1 F ev2 D (M.up p1.vis)) (M.aft ev)⟩
def auS {s l ρ : Type} (g : Int → Int → Int) (v : Int) (m : WP Int) (k : Int → SB s l ρ) : SB s l ρ := fun D => m (fun w => k (g v w) D) D.ex
theorem s_aug {i : Nat} {v : Int} {g : Int → Int → Int} {m : WP Int} {k : Int → SB s l ρ} (p : PE X e te → PS X st (tAug i te (ipI g))) (h : Γ[i]? = some (.rp tyI v)) (A : DE X W XE Γ e te tyI m) (B : ∀ a, DS X W XE (Γ.set i (.rp tyI a)) ss ts Γ' ΓL R (k a)) :
    DS X W XE Γ (st :: ss) (tSeq (tAug i te (ipI g)) ts) Γ' ΓL R (auS g v m k) :=
  ⟨pss_cons (p A.pe) (B 0).ps, fun Z hZ σ H F ev D M => by
    obtain ⟨x, hx, r⟩ := ev.sl.get h
    have r : x = .int v := r
    subst r
    refine ⟨_, hx, A.den _ _ hZ σ H F ev _ (fun w y H1 hu p1 r1 => ⟨v, w, rfl, r1, ?_⟩) (M.aft ev)⟩
    exact (B _).den Z hu _ H1 F ((ev.step p1).set rfl (by rw [h]; rfl)) D (M.up p1.vis)⟩
end
end Dn

namespace Dn
open PySem PySem.Spec PyProof.Rows L2 Wx NdefX RZ StX
/-! ### a law's place: its script at a, the state of its draws at s0 -/
def St4 (H : Hp) (s : Addr) : Prop := ∃ i j k l : Int, H s = some (.lst [.int i, .int j, .int k, .int l])
theorem St4.dom {H : Hp} {s : Addr} (h : St4 H s) : H s ≠ none := by
  obtain ⟨_, _, _, _, e⟩ := h
  rw [e]
  simp
theorem sqL_at {K : PySem.W.Frag} {H H' : Hp} {a : Addr} {xs : List V} (e : H' a = H a) (h : SqL K H a xs) : SqL K H' a xs := h.imp (fun r => r.imp (fun q => e.trans q) fun ⟨o, q⟩ => ⟨o, e.trans q⟩) id
def KpS (s : Addr) (H H' : Hp) : Prop := ∀ b o, b ≠ s → H b = some o → H' b = some o
def AtS (K : PySem.W.Frag) (L : List Addr) (s0 : Addr) (H : Hp) (a : Addr) (xs : List V) : Prop := (∀ H', SqL K H' a xs) ∨ (a ∈ L ∧ a ≠ s0 ∧ SqL K H a xs)
structure LawW (K : PySem.W.Frag) (W : Wd) (a s0 : Addr) (ns : List Int) : Prop where
  len : ns.length ≤ 63
  ms : s0 ∈ W.M0
  rd : ∀ H, W.ok H → AtS K W.M0 s0 H a (ns.map V.int)
  st : ∀ H, W.ok H → St4 H s0
  put : ∀ H H', W.ok H → KpS s0 H H' → St4 H' s0 → W.ok H'
section
variable {K : PySem.W.Frag} {W W' : Wd} {a s0 : Addr} {ns : List Int}
theorem LawW.inn (h : LawW K W a s0 ns) (w : WIn W W') : LawW K W' a s0 ns :=
  ⟨h.len, w.sub _ h.ms, fun H o => (h.rd H (w.ok H o)).imp id fun ⟨m, q⟩ => ⟨w.sub _ m, q⟩, fun H o => h.st H (w.ok H o), fun H H' o k q => w.back H H' s0 o h.ms k (h.put H H' (w.ok H o) k q)⟩
theorem LawW.pst (h : LawW K W a s0 ns) {H H' : Hp} (o : W.ok H) (k : KpS s0 H H') (q : St4 H' s0) : PSt W H H' := ⟨fun b u nb e => k b u (fun z => nb (by rw [z]; exact h.ms)) e, h.put H H' o k q⟩
def wdL (L : List Addr) (s0 : Addr) (H : Hp) (d : ∀ b ∈ L, H b ≠ none) (ms : s0 ∈ L) : Wd where
  M0 := L
  H0 := H
  ok := fun H' => St4 H' s0 ∧ ∀ b ∈ L, b ≠ s0 → H' b = H b
  dom := fun {H'} h b m => by
    by_cases z : b = s0
    · rw [z]; exact h.1.dom
    · rw [h.2 b m z]; exact d b m
  lok := fun {H1 H2} h k => ⟨by
    obtain ⟨i, j, k', l, e⟩ := h.1
    exact ⟨i, j, k', l, (k s0 ms).trans e⟩, fun b m n => (k b m).trans (h.2 b m n)⟩
theorem wdL_law {L : List Addr} {H : Hp} {d : ∀ b ∈ L, H b ≠ none} {ms : s0 ∈ L} (len : ns.length ≤ 63) (rd : AtS K L s0 H a (ns.map V.int)) : LawW K (wdL L s0 H d ms) a s0 ns :=
  ⟨len, ms, fun H' o => rd.imp id fun ⟨m, n, q⟩ => ⟨m, n, sqL_at (o.2 a m n) q⟩, fun H' o => o.1, fun H1 H2 o k q => ⟨q, fun b m n => by
    have e := o.2 b m n
    cases z : H b with
    | none => exact absurd z (d b m)
    | some u =>
      rw [z] at e
      exact k b u n e⟩⟩
/-- what a law's helper promises -/
def spL (K : PySem.W.Frag) {α ρ : Type} (TA : Addr → Addr → TyS α) (T : Ty ρ) (m : α → WP ρ) : Sp := fun vs H Q E => ∃ (a s0 : Addr) (ns : List Int) (L : List Addr) (u : α) (Qa : ρ → Prop) (Ea : Ex → Prop), ns.length ≤ 63 ∧ s0 ∈ L ∧
  AtS K L s0 H a (ns.map V.int) ∧ St4 H s0 ∧ (∀ b ∈ L, H b ≠ none) ∧ (TA a s0).rep vs (vis L H) u ∧ m u Qa Ea ∧ (∀ r x H', Qa r → KpS s0 H H' → St4 H' s0 → T.rep x (vis L H') r → Q x H') ∧ (∀ e c d H', Ea e → KpS s0 H H' → St4 H' s0 → ExRep K e c d (vis L H') → E c d H')
structure FnL (P : Program) (w : World) (K : PySem.W.Frag) (mg : Str → Option Value) (base : Heap) (x : Str) (k : Nat) (ps : List Str) {α ρ : Type} (TA : Addr → Addr → TyS α) (T : Ty ρ) (m : α → WP ρ) : Prop where
  ex : ∃ (f : Addr) (fd : FuncData), FnOk P w K mg base (L2.CX P w) k f fd ps (spL K TA T m) ∧ mg x = some (.ref f) ∧ PySem.W.keepIn K (.ref f) = true ∧ Binds K fd ps []
end
section
variable {X : Cx} {W : Wd} {Γ : List Slot} {XE : XK} {e o : Expr} {es : List Expr} {tt : TA} {pos p : Pos} {α ρ : Type} {TAl : Addr → Addr → TyS α} {R : Ty ρ} {ma : WP α} {m : α → WP ρ} {x : Str} {k : Nat} {ps : List Str} {a s0 : Addr} {ns : List Int}
theorem d_callL {K : PySem.W.Frag} (hK : X.K = K) (lw : LawW K W a s0 ns) (c : FnL X.prog X.w K X.mg X.base x k ps TAl R m) (hr : Room k X.A) (hx : ∀ σ, PassesAt (L2.CX X.prog X.w) X σ XE) (A : DA X W XE Γ (e :: es) tt (TAl a s0) ma) (hg : Gl X x := by rfl)
    (hdb : (x == ("__debug__" : Str)) = false := by decide) (he : starEach (e :: es) X.env = (false, eval e X.env) :: starEach es X.env := by rfl) (hpl : (backTo pos (starEach es X.env)).any (·.1) = false := by rfl) :
    DE X W XE Γ (.Call (.Name x p) (e :: es) [] pos) (tCallS (spL K TAl R m) (fun _ => XE) tt) R (bd ma m) := by
  subst hK
  exact ⟨by
    obtain ⟨f, fd, F, hm, hk, hb⟩ := c.ex
    exact pe_callS F hr hg hm hk hb hx A.pe hdb he hpl, fun Qa Ea hh σ H F ev Qv aq ae =>
    A.den _ _ hh σ H F ev _ (fun u vs H1 hu p r => ⟨a, s0, ns, W.M0 ++ F, u, Qa, Ea, lw.len, List.mem_append_left _ lw.ms, (lw.rd _ p.ok).imp id fun ⟨m, q⟩ => ⟨List.mem_append_left _ m, q⟩, lw.st _ p.ok, (ev.step p).dom, r, hu,
      fun r x H' hr k q rr => aq r x H' hr (p.trans (lw.pst p.ok k q)) rr, fun e c d H' he k q rr => ae e c d H' he (p.trans (lw.pst p.ok k q)) rr⟩) ae⟩
end
section
variable {X : Cx} {α ρ : Type} {T : Ty ρ} {L : List Addr} {H : Hp} {dL : ∀ b ∈ L, H b ≠ none} {s0 : Addr} {ms : s0 ∈ L} {E : XK} {Γ : List Slot} {Γ' ΓL : Unit → List Slot} {σ : L2.St} {ss : List Stmt} {ts : TS} {Q : VK} {Qa : ρ → Prop} {Ea : Ex → Prop}
theorem wdL_kp {H' : Hp} (o : Out (wdL L s0 H dL ms) H') : KpS s0 H H' := fun b u n e => by
  by_cases m : b ∈ L
  · have h : H' b = H b := o.ok.2 b m n
    rw [h]
    exact e
  · exact o.frm b u m e
theorem wdL_ev (hs : St4 H s0) (h : Ev (vis L H) H Γ σ []) : EvF (wdL L s0 H dL ms) Γ σ H [] :=
  ⟨⟨hs, fun _ _ _ => rfl⟩, fun _ _ _ e => e, fun _ m => (nomatch m), List.nodup_nil, by
    have e : (wdL L s0 H dL ms).M0 ++ [] = L := List.append_nil _
    rw [e]
    exact h⟩
theorem fn_bodyL {mb : SB Unit Unit ρ} (B : DS X (wdL L s0 H dL ms) E Γ ss ts Γ' ΓL T mb) (hs : St4 H s0) (ev : Ev (vis L H) H Γ σ []) (hm : mb ⟨fun _ => False, fun _ => False, fun _ => False, Qa, Ea⟩)
    (kq : ∀ r x H', Qa r → KpS s0 H H' → St4 H' s0 → T.rep x (vis L H') r → Q x H') (ke : ∀ e c d H', Ea e → KpS s0 H H' → St4 H' s0 → ExRep X.K e c d (vis L H') → E c d H') : ∃ t, PSs X ss t ∧ t { nx := fun _ H' => Q .non H', rt := Q } σ H :=
  ⟨ts, B.ps, B.den _ hm σ H [] (wdL_ev hs ev) _ ⟨fun _ _ _ _ h => h.elim, fun _ _ _ _ h => h.elim, fun _ _ _ _ h => h.elim, fun r x H' h o q => kq r x H' h (wdL_kp o) o.ok.1 q, fun e c d H' h o q => ke e c d H' h (wdL_kp o) o.ok.1 q⟩⟩
theorem fn_bodyLN {mb : SB Unit Unit Unit} {Qa : Unit → Prop} (B : DS X (wdL L s0 H dL ms) E Γ ss ts Γ' ΓL tyN mb) (hs : St4 H s0) (ev : Ev (vis L H) H Γ σ []) (hm : mb ⟨Qa, fun _ => False, fun _ => False, Qa, Ea⟩)
    (kq : ∀ r x H', Qa r → KpS s0 H H' → St4 H' s0 → tyN.rep x (vis L H') r → Q x H') (ke : ∀ e c d H', Ea e → KpS s0 H H' → St4 H' s0 → ExRep X.K e c d (vis L H') → E c d H') : ∃ t, PSs X ss t ∧ t { nx := fun _ H' => Q .non H', rt := Q } σ H :=
  ⟨ts, B.ps, B.den _ hm σ H [] (wdL_ev hs ev) _ ⟨fun a _ H' _ h ev2 _ => kq a .non H' h (wdL_kp ev2.out) ev2.out.ok.1 rfl, fun _ _ _ _ h => h.elim, fun _ _ _ _ h => h.elim, fun r x H' h o q => kq r x H' h (wdL_kp o) o.ok.1 q, fun e c d H' h o q => ke e c d H' h (wdL_kp o) o.ok.1 q⟩⟩
end
section
variable {P : Program} {w : World} {K : PySem.W.Frag} {mg : Str → Option Value} {base : Heap} {α ρ : Type} {TAl : Addr → Addr → TyS α} {T : Ty ρ} {m : α → WP ρ} {x qual : Str} {st : Stmt} {f : Addr} {fd : FuncData} {N ps : List Str} {k : Nat} {Γ0 : Addr → Addr → α → List Slot}
theorem fnVL (F : L2.Fun K x qual st f fd) (S : FnScope N ps (defScope st)) (hl : ∀ a s0 vs G u, (TAl a s0).rep vs G u → vs.length = ps.length) (hΓ : ∀ a s0 vs G H u, (TAl a s0).rep vs G u → Ev G H (Γ0 a s0 u) (start N vs) [])
    (body : ∀ (cdv : Value) (A : Around) (outer : List Env) (s : Shared) (H : Hp) (E : XK), Room k (A.deeper (envOfC qual (defScope st) s.heap.objs.size f cdv)) → (∀ σ, Air (cxOf (L2.CX P w) P w K mg base N qual (defScope st) f cdv A outer s H E) σ E) → Takes (cxOf (L2.CX P w) P w K mg base N qual (defScope st) f cdv A outer s H E) (fun c d _ H => E c d H) →
      ∀ (a s0 : Addr) (ns : List Int) (L : List Addr) (dL : ∀ b ∈ L, H b ≠ none) (ms : s0 ∈ L) (lw : LawW K (wdL L s0 H dL ms) a s0 ns) (u : α), ∃ ts mb, DS (cxOf (L2.CX P w) P w K mg base N qual (defScope st) f cdv A outer s H E) (wdL L s0 H dL ms) E (Γ0 a s0 u) (defBody st) ts (fun _ : Unit => []) (fun _ : Unit => []) T mb ∧
        ∀ Qa Ea, m u Qa Ea → mb ⟨fun _ => False, fun _ => False, fun _ => False, Qa, Ea⟩) :
    FnOk P w K mg base (L2.CX P w) (k + 1) f fd ps (spL K TAl T m) :=
  F.okX S (fun vs H Q E ⟨a, s0, _, _, u, _, _, _, _, _, _, _, h, _⟩ => hl a s0 vs _ u h) (fun cdv A outer s H vs Q E hr ⟨a, s0, ns, L, u, Qa, Ea, hn, ms, rd, st4, dL, hrep, hm, kq, ke⟩ => by
    obtain ⟨ts, mb, B, hb⟩ := body cdv A outer s H E hr (fun σ => air_of (takes_of rfl rfl rfl rfl) rfl rfl) (takes_of rfl rfl rfl rfl) a s0 ns L dL ms (wdL_law hn rd) u
    exact fn_bodyL B st4 (hΓ _ _ _ _ _ _ hrep) (hb _ _ hm) kq ke)
theorem fnNL {m : α → WP Unit} {Γ' : List Slot} (F : L2.Fun K x qual st f fd) (S : FnScope N ps (defScope st)) (hl : ∀ a s0 vs G u, (TAl a s0).rep vs G u → vs.length = ps.length) (hΓ : ∀ a s0 vs G H u, (TAl a s0).rep vs G u → Ev G H (Γ0 a s0 u) (start N vs) [])
    (body : ∀ (cdv : Value) (A : Around) (outer : List Env) (s : Shared) (H : Hp) (E : XK), Room k (A.deeper (envOfC qual (defScope st) s.heap.objs.size f cdv)) → (∀ σ, Air (cxOf (L2.CX P w) P w K mg base N qual (defScope st) f cdv A outer s H E) σ E) → Takes (cxOf (L2.CX P w) P w K mg base N qual (defScope st) f cdv A outer s H E) (fun c d _ H => E c d H) →
      ∀ (a s0 : Addr) (ns : List Int) (L : List Addr) (dL : ∀ b ∈ L, H b ≠ none) (ms : s0 ∈ L) (lw : LawW K (wdL L s0 H dL ms) a s0 ns) (u : α), ∃ ts mb, DS (cxOf (L2.CX P w) P w K mg base N qual (defScope st) f cdv A outer s H E) (wdL L s0 H dL ms) E (Γ0 a s0 u) (defBody st) ts (fun _ : Unit => Γ') (fun _ : Unit => []) tyN mb ∧
        ∀ Qa Ea, m u Qa Ea → mb ⟨Qa, fun _ => False, fun _ => False, Qa, Ea⟩) :
    FnOk P w K mg base (L2.CX P w) (k + 1) f fd ps (spL K TAl tyN m) :=
  F.okX S (fun vs H Q E ⟨a, s0, _, _, u, _, _, _, _, _, _, _, h, _⟩ => hl a s0 vs _ u h) (fun cdv A outer s H vs Q E hr ⟨a, s0, ns, L, u, Qa, Ea, hn, ms, rd, st4, dL, hrep, hm, kq, ke⟩ => by
    obtain ⟨ts, mb, B, hb⟩ := body cdv A outer s H E hr (fun σ => air_of (takes_of rfl rfl rfl rfl) rfl rfl) (takes_of rfl rfl rfl rfl) a s0 ns L dL ms (wdL_law hn rd) u
    exact fn_bodyLN B st4 (hΓ _ _ _ _ _ _ hrep) (hb _ _ hm) kq ke)
/-- the law itself -/
def spStart (K : PySem.W.Frag) : Sp := fun vs H Q _ => ∃ (a : Addr) (ns : List Int), vs = [.ref a] ∧ SqL K H a (ns.map V.int) ∧ ns.length ≤ 63 ∧ ∀ p H', Same H H' → H p = none → St4 H' p → Q (.ref p) H'
def spLaw (K : PySem.W.Frag) : Sp := fun vs H Q _ => ∃ (a : Addr) (ns : List Int), vs = [.ref a] ∧ SqL K H a (ns.map V.int) ∧ ns.length ≤ 63 ∧ ∀ H', Q (.bl true) H'
def dummyH : Hp := fun b => if b = 0 then some (.lst [.int 0, .int 0, .int 0, .int 0]) else if b = 1 then some (.lst []) else none
theorem dummy_dom : ∀ b ∈ [(0 : Addr), 1], dummyH b ≠ none := fun b m => by
  rcases List.mem_cons.mp m with z | z
  · rw [z]; simp [dummyH]
  · rw [List.mem_singleton.mp z]; simp [dummyH]
theorem fnLaw {m : WP Bool} {st0 : Stmt} {rest : List Stmt} {N' : List Str} (hm : m (fun b => b = true) (fun _ => False)) (F : L2.Fun K "law" "law" st f fd) (S : FnScope ("script" :: "state" :: N') ["script"] (defScope st)) (hb0 : defBody st = st0 :: rest)
    (body : ∀ (cdv : Value) (A : Around) (outer : List Env) (s : Shared) (H : Hp) (E : XK), Room k (A.deeper (envOfC "law" (defScope st) s.heap.objs.size f cdv)) → (∀ σ, Air (cxOf (L2.CX P w) P w K mg base ("script" :: "state" :: N') "law" (defScope st) f cdv A outer s H E) σ E) → Takes (cxOf (L2.CX P w) P w K mg base ("script" :: "state" :: N') "law" (defScope st) f cdv A outer s H E) (fun c d _ H => E c d H) →
      PS (cxOf (L2.CX P w) P w K mg base ("script" :: "state" :: N') "law" (defScope st) f cdv A outer s H E) st0 (tAsg (tCallS (spStart K) (fun _ => E) (tCons (tVar 0) tNil)) (gName 1)) ∧
      ∃ ts, ∀ (H1 : Hp) (a s0 : Addr) (ns : List Int) (L : List Addr) (dL : ∀ b ∈ L, H1 b ≠ none) (ms : s0 ∈ L) (lw : LawW K (wdL L s0 H1 dL ms) a s0 ns), ∃ mb, DS (cxOf (L2.CX P w) P w K mg base ("script" :: "state" :: N') "law" (defScope st) f cdv A outer s H E) (wdL L s0 H1 dL ms) E (.rp (tyA a) () :: .rp (tyA s0) () :: N'.map fun _ => .un) rest ts (fun _ : Unit => []) (fun _ : Unit => []) tyB mb ∧
        ∀ Qa Ea, m Qa Ea → mb ⟨fun _ => False, fun _ => False, fun _ => False, Qa, Ea⟩) :
    FnOk P w K mg base (L2.CX P w) (k + 1) f fd ["script"] (spLaw K) :=
  F.okX S (fun vs H Q E ⟨a, ns, e, _⟩ => by rw [e]; rfl) (fun cdv A outer s H vs Q E hr ⟨a, ns, e, hS, hl, kq⟩ => by
    subst e
    obtain ⟨p0, ts, bb⟩ := body cdv A outer s H E hr (fun σ => air_of (takes_of rfl rfl rfl rfl) rfl rfl) (takes_of rfl rfl rfl rfl)
    obtain ⟨_, B0, _⟩ := bb dummyH 1 0 [] [0, 1] dummy_dom (by simp) (wdL_law (by decide) (.inr ⟨by simp, by decide, .inl (.inl rfl)⟩))
    have pr := B0.ps
    rw [hb0]
    refine ⟨_, pss_cons p0 pr, ?_⟩
    refine ⟨_, rfl, a, ns, rfl, hS, hl, fun p H1 s1 np st4 => ?_⟩
    have go : ∀ (L : List Addr) (dL : ∀ b ∈ L, H1 b ≠ none) (ms : p ∈ L) (rd : AtS K L p H1 a (ns.map V.int)), ts { nx := fun _ H' => Q .non H', rt := Q } ((start ("script" :: "state" :: N') [V.ref a]).set 1 (some (.ref p))) H1 := fun L dL ms rd => by
      obtain ⟨mb, B, hb⟩ := bb H1 a p ns L dL ms (wdL_law hl rd)
      have ev : ∀ (N' : List Str), Ev (vis L H1) H1 (N'.map fun _ => Slot.un) (List.replicate N'.length (none : Option V)) [] := fun N' => by
        induction N' with
        | nil => exact ⟨rfl, rfl⟩
        | cons y r ih => exact ⟨none, _, rfl, ih⟩
      refine B.den _ (hb _ _ hm) _ H1 [] (wdL_ev st4 ⟨_, _, rfl, rfl, _, _, rfl, rfl, ?_⟩) _ ⟨fun _ _ _ _ h => h.elim, fun _ _ _ _ h => h.elim, fun _ _ _ _ h => h.elim, fun r x H' h o q => ?_, fun e c d H' h o q => h.elim⟩
      · exact ev N'
      · have h : r = true := h
        have q : x = .bl r := q
        rw [q, h]
        exact kq H'
    rcases hS with h | h
    · have ha : ∃ o, H a = some o := h.elim (fun q => ⟨_, q⟩) fun ⟨_, q⟩ => ⟨_, q⟩
      obtain ⟨o, ha⟩ := ha
      have ne : a ≠ p := by
        rintro rfl
        rw [np] at ha
        cases ha
      refine go [p, a] (fun b m => ?_) List.mem_cons_self (.inr ⟨by simp, ne, .inl (same_rd s1 h)⟩)
      rcases List.mem_cons.mp m with z | z
      · rw [z]; exact st4.dom
      · rw [List.mem_singleton.mp z, s1 _ _ ha]; simp
    · refine go [p] (fun b m => ?_) List.mem_cons_self (.inl fun H' => .inr h)
      rw [List.mem_singleton.mp m]
      exact st4.dom)
end
end Dn

namespace Dn
open PySem PySem.Spec PyProof.Rows L2 Wx NdefX RZ StX
/-! ### == by what the values stand for -/
def FunI {α : Type} (X : Cx) (T : Ty α) : Prop := ∀ (pins : List (Addr × Obj)) (σ : L2.St) (H : Hp) (s : Shared) (x : V) (a a' : α), Inv X pins σ H s → T.rep x H a → T.rep x H a' → a = a'
def FunS {α : Type} (X : Cx) (S : TyS α) : Prop := ∀ (pins : List (Addr × Obj)) (σ : L2.St) (H : Hp) (s : Shared) (xs : List V) (a a' : α), Inv X pins σ H s → S.rep xs H a → S.rep xs H a' → a = a'
section
variable {X : Cx} {α β γ δ : Type} {T : Ty α} {S : Ty β} {R : Ty γ} {U : Ty δ} {n : Nat}
theorem rmon (T : Ty α) : RMon T.rep := fun x H H' a e h => T.mono e h
theorem fun_I : FunI X tyI := fun _ _ _ _ x a a' _ h h' => by
  have h : x = .int a := h
  have h' : x = .int a' := h'
  rw [h] at h'; injection h'
theorem fun_B : FunI X tyB := fun _ _ _ _ x a a' _ h h' => by
  have h : x = .bl a := h
  have h' : x = .bl a' := h'
  rw [h] at h'; injection h'
theorem fun_S : FunI X tyS := fun _ _ _ _ x a a' _ h h' => by
  have h : x = .str a := h
  have h' : x = .str a' := h'
  rw [h] at h'; injection h'
theorem fun_X : FunI X tyX := fun _ _ _ _ x a a' _ h h' => h.1.symm.trans h'.1
theorem reps_fun (h : FunI X T) {pins : List (Addr × Obj)} {σ : L2.St} {H : Hp} {s : Shared} (I : Inv X pins σ H s) : ∀ {xs : List V} {as bs : List α}, Reps T.rep H xs as → Reps T.rep H xs bs → as = bs
  | [], [], [], _, _ => rfl
  | _ :: _, _ :: _, _ :: _, ⟨a, r⟩, ⟨b, q⟩ => by rw [h _ _ _ _ _ _ _ I a b, reps_fun h I r q]
  | [], _ :: _, _, h, _ => by cases h
  | [], [], _ :: _, _, h => by cases h
  | _ :: _, [], _, h, _ => by cases h
  | _ :: _, _ :: _, [], _, h => by cases h
theorem fun_L (h : FunI X T) : FunI X (tyL T) := fun _ _ _ _ x a a' I ⟨p, xs, e, hp, r⟩ ⟨q, ys, e', hq, r'⟩ => by
  rw [e] at e'
  cases e'
  rw [hp] at hq
  cases hq
  exact reps_fun h I r r'
theorem fun_T (h : FunI X T) : FunI X (tyT X.K T) := fun _ _ _ _ x a a' I ⟨p, xs, e, hp, r⟩ ⟨q, ys, e', hq, r'⟩ => by
  rw [e] at e'
  cases e'
  have := I.tuple_inj hp hq
  subst this
  exact reps_fun h I r r'
theorem fun_P {S : TyS α} (h : FunS X S) : FunI X (tyP X.K S) := fun _ _ _ _ x a a' I ⟨p, xs, e, hp, r⟩ ⟨q, ys, e', hq, r'⟩ => by
  rw [e] at e'
  cases e'
  have := I.tuple_inj hp hq
  subst this
  exact h _ _ _ _ _ _ _ I r r'
theorem funS_2 (h1 : FunI X T) (h2 : FunI X S) : FunS X (ts2 T S) := fun _ _ _ _ x a a' I ⟨v, w, e, r1, r2⟩ ⟨v', w', e', q1, q2⟩ => by
  rw [e] at e'
  cases e'
  exact Prod.ext (h1 _ _ _ _ _ _ _ I r1 q1) (h2 _ _ _ _ _ _ _ I r2 q2)
theorem funS_3 (h1 : FunI X T) (h2 : FunI X S) (h3 : FunI X R) : FunS X (ts3 T S R) := fun _ _ _ _ x a a' I ⟨v, w, u, e, r1, r2, r3⟩ ⟨v', w', u', e', q1, q2, q3⟩ => by
  rw [e] at e'
  cases e'
  exact Prod.ext (h1 _ _ _ _ _ _ _ I r1 q1) (Prod.ext (h2 _ _ _ _ _ _ _ I r2 q2) (h3 _ _ _ _ _ _ _ I r3 q3))
theorem funS_4 (h1 : FunI X T) (h2 : FunI X S) (h3 : FunI X R) (h4 : FunI X U) : FunS X (ts4 T S R U) := fun _ _ _ _ x a a' I ⟨v, w, u, t, e, r1, r2, r3, r4⟩ ⟨v', w', u', t', e', q1, q2, q3, q4⟩ => by
  rw [e] at e'
  cases e'
  exact Prod.ext (h1 _ _ _ _ _ _ _ I r1 q1) (Prod.ext (h2 _ _ _ _ _ _ _ I r2 q2) (Prod.ext (h3 _ _ _ _ _ _ _ I r3 q3) (h4 _ _ _ _ _ _ _ I r4 q4)))
theorem fun_O (h : FunI X T) : FunI X (tyO T) := fun _ _ _ _ x a a' I r q => by
  cases a with
  | none =>
    cases a' with
    | none => rfl
    | some b => exact absurd r q.1
  | some a =>
    cases a' with
    | none => exact absurd q r.1
    | some b => rw [h _ _ _ _ _ _ _ I r.2 q.2]
theorem funS_N : FunS X tsN := fun _ _ _ _ _ _ _ _ _ _ => rfl
theorem funS_S {S : TyS β} (h1 : FunS X S) (h2 : FunI X T) : FunS X (tsS S T) := fun _ _ _ _ x a a' I ⟨ys, v, e, r1, r2⟩ ⟨zs, w, e', q1, q2⟩ => by
  rw [e] at e'
  obtain ⟨e1, e2⟩ := List.append_inj' e' rfl
  cases e2
  subst e1
  exact Prod.ext (h1 _ _ _ _ _ _ _ I r1 q1) (h2 _ _ _ _ _ _ _ I r2 q2)
theorem zip_inj {fs : List Str} : ∀ {vs ws : List V}, vs.length = fs.length → ws.length = fs.length → fs.zip vs = fs.zip ws → vs = ws := by
  induction fs with
  | nil => intro vs ws h h' _; rw [List.length_nil] at h h'; rw [List.length_eq_zero_iff.mp h, List.length_eq_zero_iff.mp h']
  | cons f fs ih =>
    intro vs ws h h' e
    cases vs with
    | nil => cases h
    | cons v vs =>
      cases ws with
      | nil => cases h'
      | cons w ws =>
        rw [List.zip_cons_cons, List.zip_cons_cons] at e
        injection e with e1 e2
        injection e1 with _ e3
        rw [e3, ih (by simpa using h) (by simpa using h') e2]
theorem fun_C {C : Addr} {fs : List Str} {S : TyS α} {f : β → α} (h : FunS X S) (hf : ∀ a b, f a = f b → a = b) : FunI X (tyM (tyC C fs S) f) := fun _ _ _ _ x a a' I ⟨p, dx, vs, e, hp, hl, r⟩ ⟨q, dy, ws, e', hq, hl', r'⟩ => by
  rw [e] at e'
  cases e'
  rw [hp] at hq
  injection hq with hq
  injection hq with _ _ hz
  have := zip_inj hl hl' hz
  subst this
  exact hf _ _ (h _ _ _ _ _ _ _ I r r')
end
/-! .. the rule's readings -/
section
variable {X : Cx} {n : Nat} {α β γ δ : Type} [DecidableEq α] [DecidableEq β] [DecidableEq γ] [DecidableEq δ] {T : Ty α} {S : Ty β} {R : Ty γ} {U : Ty δ}
theorem eq_I : EqR X n tyI.rep := EqR.mono (n := n) (m := n) (fun A pins s σ H x y u v a b sb I rx ry h1 h2 => by
  have h1 : x = .int a := h1
  have h2 : y = .int b := h2
  subst h1 h2
  refine eqAt_V (A := A) (s := s) rx ry rfl rfl X.prog X.w X.xe _ ⟨?_, H, I, Ext.rfl'⟩
  show eqV (.int a) (.int b) = decide (a = b)
  first | rfl | simp [eqV]) (Nat.le_refl _)
theorem eq_B : EqR X n tyB.rep := fun A pins s σ H x y u v a b sb I rx ry h1 h2 => by
  have h1 : x = .bl a := h1
  have h2 : y = .bl b := h2
  subst h1 h2
  refine eqAt_V (A := A) (s := s) rx ry rfl rfl X.prog X.w X.xe _ ⟨?_, H, I, Ext.rfl'⟩
  show eqV (.bl a) (.bl b) = decide (a = b)
  clear rx ry h1 h2
  cases a <;> cases b <;> rfl
theorem eq_S : EqR X n tyS.rep := fun A pins s σ H x y u v a b sb I rx ry h1 h2 => by
  have h1 : x = .str a := h1
  have h2 : y = .str b := h2
  subst h1 h2
  refine eqAt_V (A := A) (s := s) rx ry rfl rfl X.prog X.w X.xe _ ⟨?_, H, I, Ext.rfl'⟩
  show eqV (.str a) (.str b) = decide (a = b)
  show (a == b) = _
  rw [Bool.eq_iff_iff]; simp
theorem eq_of_rc (h : RcR .Eq id X n T.rep) (hr : ∀ x H a, T.rep x H a → ∃ p, x = .ref p) (hf : FunI X T) : EqR X n T.rep := by
  intro A pins s σ H x y u v a b sb I rx ry h1 h2
  obtain ⟨p, rfl⟩ := hr _ _ _ h1
  obtain ⟨q, rfl⟩ := hr _ _ _ h2
  cases rx
  cases ry
  by_cases hab : p = q
  · subst hab
    have e := hf _ _ _ _ _ _ _ I h1 h2
    subst e
    rw [decide_eq_true rfl]
    exact SeqAt.EqAt.same (A := A) (s := s) (.ref p) X.prog X.w X.xe _ ⟨rfl, H, I, Ext.rfl'⟩
  · refine GQ.eqBool_refG hab (wpAny_mono (h A pins s σ H (.ref p) (.ref q) _ _ a b sb I rfl rfl h1 h2) (fun r s' z => ?_) fun _ _ x => x)
    obtain ⟨hr', z⟩ := z
    exact ⟨_, hr', rfl, z⟩
theorem rcT {op : CmpOp} {g : Bool → Bool} (hop : (op = .Eq ∧ g = id) ∨ (op = .NotEq ∧ g = not)) [Inhabited α] (h : EqR X n T.rep) : RcR op g X (n + 1) (tyT X.K T).rep := by
  intro A pins s σ H x y u v as bs sb I rx ry h1 h2
  obtain ⟨a, xs, rfl, ha, p⟩ := h1
  obtain ⟨b, ys, rfl, hb, q⟩ := h2
  cases rx
  cases ry
  obtain ⟨its, r, e, z⟩ := I.tuple ha
  obtain ⟨its2, r2, e2, z2⟩ := I.tuple hb
  have l1 : its.toArray.size = as.length := by rw [List.size_toArray, ← r.length]; exact p.len
  have l2 : its2.toArray.size = bs.length := by rw [List.size_toArray, ← r2.length]; exact q.len
  have ans : ((List.range (min its.toArray.size its2.toArray.size)).all (fun i => decide (as[i]? = bs[i]?)) && its.toArray.size == its2.toArray.size) = decide (as = bs) := by rw [l1, l2]; exact all_eqs as bs
  rcases hop with ⟨rfl, rfl⟩ | ⟨rfl, rfl⟩
  · exact GB.rc_tup_eq (e := fun i => decide (as[i]? = bs[i]?)) sb.room.units0 (fun s' => LoopI X pins σ H s') e e2 (fun i h1 h2 s' l => turnR (rmon T) h sb p q r r2 i h1 h2 s' l) (fun s' l => ⟨by rw [ans]; rfl, l⟩) ⟨H, I, Ext.rfl'⟩
  · exact GB.rc_tup_ne (e := fun i => decide (as[i]? = bs[i]?)) sb.room.units0 (fun s' => LoopI X pins σ H s') e e2 (fun i h1 h2 s' l => turnR (rmon T) h sb p q r r2 i h1 h2 s' l) (fun s' l => ⟨by rw [ans], l⟩) ⟨H, I, Ext.rfl'⟩
theorem rcL {op : CmpOp} {g : Bool → Bool} (hop : (op = .Eq ∧ g = id) ∨ (op = .NotEq ∧ g = not)) [Inhabited α] (h : EqR X n T.rep) : RcR op g X (n + 1) (tyL T).rep := rc_L hop (rmon T) h
/-- the items of two tuples, told one by one -/
structure ItE (X : Cx) (n : Nat) (S : TyS α) : Prop where
  go : ∃ k, ∀ (as bs : α), ∃ e : Nat → Bool, (List.range k).all e = decide (as = bs) ∧ ∀ {A : Around} (sb : Sub X (n + 1) A) {pins : List (Addr × Obj)} {σ : L2.St} {H : Hp} {xs ys : List V} {its its2 : List Value} (p : S.rep xs H as) (q : S.rep ys H bs) (r : Vals xs its) (r2 : Vals ys its2),
    its.length = k ∧ its2.length = k ∧ ∀ (i : Nat) (h1 : i < its.toArray.size) (h2 : i < its2.toArray.size) (s' : Shared) (l : LoopI X pins σ H s'), wpAny (model X.prog X.w) A.in1 (eqBool its.toArray[i] its2.toArray[i]) (fun r s2 => r = e i ∧ LoopI X pins σ H s2) X.xe s'
theorem rcP {op : CmpOp} {g : Bool → Bool} (hop : (op = .Eq ∧ g = id) ∨ (op = .NotEq ∧ g = not)) {S : TyS α} (h : ItE X n S) : RcR op g X (n + 1) (tyP X.K S).rep := by
  obtain ⟨k, h⟩ := h.go
  intro A pins s σ H x y u v as bs sb I rx ry h1 h2
  obtain ⟨a, xs, rfl, ha, p⟩ := h1
  obtain ⟨b, ys, rfl, hb, q⟩ := h2
  cases rx
  cases ry
  obtain ⟨its, r, e, z⟩ := I.tuple ha
  obtain ⟨its2, r2, e2, z2⟩ := I.tuple hb
  obtain ⟨ev, ans, hh⟩ := h as bs
  obtain ⟨l1, l2, hh⟩ := hh sb p q r r2 (pins := pins) (σ := σ)
  have ans : ((List.range (min its.toArray.size its2.toArray.size)).all ev && its.toArray.size == its2.toArray.size) = decide (as = bs) := by
    rw [List.size_toArray, List.size_toArray, l1, l2, Nat.min_self, ans]
    simp
  rcases hop with ⟨rfl, rfl⟩ | ⟨rfl, rfl⟩
  · exact GB.rc_tup_eq (e := ev) sb.room.units0 (fun s' => LoopI X pins σ H s') e e2 (fun i h1 h2 s' l => hh i h1 h2 s' l) (fun s' l => ⟨by rw [ans]; rfl, l⟩) ⟨H, I, Ext.rfl'⟩
  · exact GB.rc_tup_ne (e := ev) sb.room.units0 (fun s' => LoopI X pins σ H s') e e2 (fun i h1 h2 s' l => hh i h1 h2 s' l) (fun s' l => ⟨by rw [ans], l⟩) ⟨H, I, Ext.rfl'⟩
theorem turn1 (h : EqR X n T.rep) {A : Around} (sb : Sub X (n + 1) A) {pins : List (Addr × Obj)} {σ : L2.St} {H : Hp} {x y : V} {u v : Value} {a b : α} (p : T.rep x H a) (q : T.rep y H b) (r : RelV x u) (r2 : RelV y v) {s' : Shared} (l : LoopI X pins σ H s') :
    wpAny (model X.prog X.w) A.in1 (eqBool u v) (fun r s2 => r = decide (a = b) ∧ LoopI X pins σ H s2) X.xe s' := by
  obtain ⟨H1, I1, e1⟩ := l
  refine wpAny_mono (h A.in1 pins s' σ H1 _ _ u v a b sb.in1 I1 r r2 (T.mono e1 p) (T.mono e1 q)) (fun r s2 z => ?_) fun _ _ x => x
  obtain ⟨hr, H2, I2, e2⟩ := z
  exact ⟨hr, H2, I2, e1.trans e2⟩
theorem itE2 (h1 : EqR X n T.rep) (h2 : EqR X n S.rep) : ItE X n (ts2 T S) := ⟨2, fun as bs => ⟨fun i => if i = 0 then decide (as.1 = bs.1) else decide (as.2 = bs.2), by
  obtain ⟨a1, a2⟩ := as
  obtain ⟨b1, b2⟩ := bs
  rw [Bool.eq_iff_iff]
  simp [List.range_succ], fun {A} sb {pins σ H xs ys its its2} p q r r2 => by
  obtain ⟨v, w, rfl, p1, p2⟩ := p
  obtain ⟨v', w', rfl, q1, q2⟩ := q
  obtain ⟨u1, u2, rfl, k1, k2⟩ := r.two
  obtain ⟨t1, t2, rfl, m1, m2⟩ := r2.two
  refine ⟨rfl, rfl, fun i g1 g2 s' l => ?_⟩
  match i with
  | 0 => exact turn1 h1 sb p1 q1 k1 m1 l
  | 1 => exact turn1 h2 sb p2 q2 k2 m2 l
  | i + 2 => exact absurd g1 (by simp)⟩⟩
theorem vals3 {x y z : V} {us : List Value} (h : Vals [x, y, z] us) : ∃ u v w, us = [u, v, w] ∧ RelV x u ∧ RelV y v ∧ RelV z w := by
  cases h with
  | cons h1 t => cases t with
    | cons h2 t => cases t with
      | cons h3 t => cases t; exact ⟨_, _, _, rfl, h1, h2, h3⟩
theorem itE3 (h1 : EqR X n T.rep) (h2 : EqR X n S.rep) (h3 : EqR X n R.rep) : ItE X n (ts3 T S R) := ⟨3, fun as bs => ⟨fun i => if i = 0 then decide (as.1 = bs.1) else if i = 1 then decide (as.2.1 = bs.2.1) else decide (as.2.2 = bs.2.2), by
  obtain ⟨a1, a2, a3⟩ := as
  obtain ⟨b1, b2, b3⟩ := bs
  rw [Bool.eq_iff_iff]
  simp [List.range_succ, and_assoc], fun {A} sb {pins σ H xs ys its its2} p q r r2 => by
  obtain ⟨v, w, x, rfl, p1, p2, p3⟩ := p
  obtain ⟨v', w', x', rfl, q1, q2, q3⟩ := q
  obtain ⟨u1, u2, u3, rfl, k1, k2, k3⟩ := vals3 r
  obtain ⟨t1, t2, t3, rfl, m1, m2, m3⟩ := vals3 r2
  refine ⟨rfl, rfl, fun i g1 g2 s' l => ?_⟩
  match i with
  | 0 => exact turn1 h1 sb p1 q1 k1 m1 l
  | 1 => exact turn1 h2 sb p2 q2 k2 m2 l
  | 2 => exact turn1 h3 sb p3 q3 k3 m3 l
  | i + 3 => exact absurd g1 (by simp)⟩⟩
/-- never equal to None -/
def NoN (X : Cx) (T : Ty α) : Prop := ∀ (n : Nat) (A : Around) (pins : List (Addr × Obj)) (s : Shared) (σ : L2.St) (H : Hp) (x : V) (u : Value) (a : α), Sub X n A → Inv X pins σ H s → RelV x u → T.rep x H a → SeqAt.EqAt A s u .none false ∧ SeqAt.EqAt A s .none u false
theorem non_L : NoN X (tyL T) := fun n A pins s σ H x u a sb I r ⟨p, xs, e, hp, _⟩ => by
  subst e
  cases r
  obtain ⟨its, r, ⟨o, n, ho, hc, _, hd⟩, _⟩ := I.list (SqL.of (K := X.K) hp)
  exact ⟨SeqAt.EqAt.list_none ⟨_, ho, hc, _, hd⟩ sb.room.units0, SeqAt.EqAt.none_list ⟨_, ho, hc, _, hd⟩ sb.room.units0⟩
theorem non_T : NoN X (tyT X.K T) := fun n A pins s σ H x u a sb I r ⟨p, xs, e, hp, _⟩ => by
  subst e
  cases r
  obtain ⟨its, r, ⟨o, ho, hc, n, hd⟩, _⟩ := I.tuple hp
  exact ⟨SeqAt.EqAt.tuple_none ⟨_, ho, hc, _, hd⟩ sb.room.units0, SeqAt.EqAt.none_tuple ⟨_, ho, hc, _, hd⟩ sb.room.units0⟩
theorem non_P {S : TyS α} : NoN X (tyP X.K S) := fun n A pins s σ H x u a sb I r ⟨p, xs, e, hp, _⟩ => by
  subst e
  cases r
  obtain ⟨its, r, ⟨o, ho, hc, n, hd⟩, _⟩ := I.tuple hp
  exact ⟨SeqAt.EqAt.tuple_none ⟨_, ho, hc, _, hd⟩ sb.room.units0, SeqAt.EqAt.none_tuple ⟨_, ho, hc, _, hd⟩ sb.room.units0⟩
theorem non_I : NoN X tyI := fun n A pins s σ H x u a sb I r h => by
  have h : x = .int a := h
  subst h
  exact ⟨eqAt_V (y := .int a) (x := .non) r rfl rfl rfl, eqAt_V (y := .non) (x := .int a) rfl r rfl rfl⟩
theorem non_S : NoN X tyS := fun n A pins s σ H x u a sb I r h => by
  have h : x = .str a := h
  subst h
  exact ⟨eqAt_V (y := .str a) (x := .non) r rfl rfl rfl, eqAt_V (y := .non) (x := .str a) rfl r rfl rfl⟩
theorem eq_O (h : EqR X n T.rep) (hn : NoN X T) : EqR X n (tyO T).rep := fun A pins s σ H x y u v a b sb I rx ry h1 h2 => by
  cases a with
  | none =>
    have h1 : x = .non := h1
    subst h1
    cases rx
    cases b with
    | none =>
      have h2 : y = .non := h2
      subst h2
      cases ry
      exact eqAt_V (A := A) (s := s) (y := .non) (x := .non) rfl rfl rfl rfl X.prog X.w X.xe _ ⟨by rfl, H, I, Ext.rfl'⟩
    | some b => exact (hn n A pins s σ H y v b sb I ry h2.2).2 X.prog X.w X.xe _ ⟨by simp, H, I, Ext.rfl'⟩
  | some a =>
    cases b with
    | none =>
      have h2 : y = .non := h2
      subst h2
      cases ry
      exact (hn n A pins s σ H x u a sb I rx h1.2).1 X.prog X.w X.xe _ ⟨by simp, H, I, Ext.rfl'⟩
    | some b =>
      refine wpAny_mono (h A pins s σ H x y u v a b sb I rx ry h1.2 h2.2) (fun r s2 z => ?_) fun _ _ x => x
      obtain ⟨hr, z⟩ := z
      refine ⟨?_, z⟩
      rw [hr, Bool.eq_iff_iff]
      simp
theorem ref_L : ∀ x H (a : List α), (tyL T).rep x H a → ∃ p, x = .ref p := fun _ _ _ ⟨p, _, e, _⟩ => ⟨p, e⟩
theorem ref_T : ∀ x H (a : List α), (tyT X.K T).rep x H a → ∃ p, x = .ref p := fun _ _ _ ⟨p, _, e, _⟩ => ⟨p, e⟩
theorem ref_P {S : TyS α} : ∀ x H (a : α), (tyP X.K S).rep x H a → ∃ p, x = .ref p := fun _ _ _ ⟨p, _, e, _⟩ => ⟨p, e⟩
theorem eq_L [Inhabited α] (h : EqR X n T.rep) (hf : FunI X T) : EqR X (n + 1) (tyL T).rep := eq_of_rc (rcL (.inl ⟨rfl, rfl⟩) h) ref_L (fun_L hf)
theorem eq_T [Inhabited α] (h : EqR X n T.rep) (hf : FunI X T) : EqR X (n + 1) (tyT X.K T).rep := eq_of_rc (rcT (.inl ⟨rfl, rfl⟩) h) ref_T (fun_T hf)
theorem eq_P {S : TyS α} (h : ItE X n S) (hf : FunS X S) : EqR X (n + 1) (tyP X.K S).rep := eq_of_rc (rcP (.inl ⟨rfl, rfl⟩) h) ref_P (fun_P hf)
theorem o_eqT {g : Bool → Bool} (u v : α) : R2Ok (rEqR T.rep g) T u T v tyB (rt (g (decide (u = v)))) := fun Qa Ea h L H x y Qv d r1 r2 k => ⟨u, v, T.mono vis_le r1, T.mono vis_le r2, fun H' e => k _ _ H' h e rfl⟩
/-- an own class -/
structure EqC (P : Program) (w : World) (K : PySem.W.Frag) (mg : Str → Option Value) (base : Heap) (C : Addr) (k : Nat) (T : Ty α) (m : α × α × Unit → WP Bool) : Prop where
  ex : ∃ (f : Addr) (fd : FuncData) (ps : List Str), FnOk P w K mg base (L2.CX P w) k f fd ps (spF K (tsC T (tsC T tsN)) tyB m) ∧ Binds K fd ps [] ∧ PySem.W.findIn K (.ref C) "__eq__" = some (some (.ref f)) ∧ PySem.W.isFn K (.ref f) = true
theorem rcC {K : PySem.W.Frag} (hK : X.K = K) {C : Addr} {k : Nat} {m : α × α × Unit → WP Bool} (c : EqC X.prog X.w K X.mg X.base C k T m) (hi : ∀ x H a, T.rep x H a → ∃ p dx fs, x = .ref p ∧ H p = some (.ins C dx fs))
    (hm : ∀ a b (Q : Bool → Prop), Q (decide (a = b)) → m (a, b, ()) Q fun _ => False) : RcR .Eq id X k T.rep := by
  subst hK
  obtain ⟨f, fd, ps, F, hb, hs, hf⟩ := c.ex
  refine rcR_ins (E := fun _ _ _ => False) F hs hf hb (fun pins σ H s e s' I c => (passNo σ) pins H s e s' I c) hi fun p q H a b Q r1 r2 k => ?_
  have e0 : vis [] H = H := funext fun _ => rfl
  refine ⟨[], (a, b, ()), fun r => r = decide (a = b), fun _ => False, fun _ h => (nomatch h), ⟨_, _, rfl, by rw [e0]; exact r1, _, _, rfl, by rw [e0]; exact r2, rfl⟩, hm a b _ rfl, fun r x H' hr s h => ?_, fun _ _ _ _ h => h.elim⟩
  have h : x = .bl r := h
  rw [h, hr]
  exact k H' s
end
end Dn

namespace Dn
open PySem PySem.Spec PyProof.Rows L2 Wx NdefX RZ StX
/-! ### own operators -/
structure OwC (P : Program) (w : World) (K : PySem.W.Frag) (mg : Str → Option Value) (base : Heap) (C : Addr) (nm : Str) (k : Nat) {α ρ : Type} (TA : TyS α) (T : Ty ρ) (m : α → WP ρ) : Prop where
  ex : ∃ (f : Addr) (fd : FuncData) (ps : List Str), FnOk P w K mg base (L2.CX P w) k f fd ps (spF K TA T m) ∧ Binds K fd ps [] ∧ PySem.W.findIn K (.ref C) nm = some (some (.ref f)) ∧ PySem.W.isFn K (.ref f) = true
structure OwB (P : Program) (w : World) (K : PySem.W.Frag) (mg : Str → Option Value) (base : Heap) (C : Addr) (nm rn : Str) (k : Nat) {α ρ : Type} (TA : TyS α) (T : Ty ρ) (m : α → WP ρ) : Prop where
  ex : ∃ (f : Addr) (fd : FuncData) (ps : List Str), FnOk P w K mg base (L2.CX P w) k f fd ps (spF K TA T m) ∧ Binds K fd ps [] ∧ OpC K C f nm rn
abbrev IsC {α : Type} (C : Addr) (T : Ty α) : Prop := ∀ (v : V) (H : Hp) (b : α), T.rep v H b → ∃ p dx fs, v = .ref p ∧ H p = some (.ins C dx fs)
section
variable {X : Cx} {W : Wd} {Γ : List Slot} {XE : XK} {a b e : Expr} {ta tb te : TE} {pos : Pos} {α β γ ρ : Type} {T : Ty α} {S : Ty β} {R : Ty γ} {ma : WP α} {mb : WP β} {k : Nat} {C : Addr}
theorem passE : Passes (L2.CX X.prog X.w) X (fun _ _ _ => False) := fun pins σ H s e s' I c => (passNo σ) pins H s e s' I c
/-- x <= y -/
theorem o_leO {K : PySem.W.Frag} {m : α × β × Unit → WP Bool} (hi : IsC C T) (hj : IsC C S) (u : α) (v : β) : R2Ok (rOwnI K C (spF K (tsC T (tsC S tsN)) tyB m) (fun _ _ _ => False) id) T u S v tyB (noE (m (u, v, ()))) := fun Qa Ea h L H x y Qv d r1 r2 k => by
  obtain ⟨p, dx, fs, rfl, hp⟩ := hi _ _ _ r1
  obtain ⟨q, dy, gs, rfl, hq⟩ := hj _ _ _ r2
  exact ⟨p, dx, fs, q, dy, gs, rfl, rfl, vis_le _ _ hp, vis_le _ _ hq, L, (u, v, ()), Qa, fun _ => False, d, ⟨_, _, rfl, r1, _, _, rfl, r2, rfl⟩, h, fun r z H' hr s q => ⟨r, q, k r _ H' hr s rfl⟩, fun _ _ _ _ h => h.elim⟩
theorem d_leO {K : PySem.W.Frag} (hK : X.K = K) {mm : α → β → WP Bool} (c : OwC X.prog X.w K X.mg X.base C "__le__" k (tsC T (tsC S tsN)) tyB fun a => mm a.1 a.2.1) (hi : IsC C T) (hj : IsC C S) (hr : Room k X.A) (A : DE X W XE Γ a ta T ma) (B : DE X W XE Γ b tb S mb) :
    DE X W XE Γ (.Compare a [.LtE] [b] pos) (tOp (rOwnI K C (spF K (tsC T (tsC S tsN)) tyB (fun a => mm a.1 a.2.1)) (fun _ _ _ => False) id) ta tb) tyB (bd ma fun u => bd mb fun v => noE (mm u v)) := by
  subst hK
  obtain ⟨f, fd, ps, F, hb, hs, hf⟩ := c.ex
  exact d_cmp (op_leI F hr hs hf hb passE) A B (fun u v => o_leO hi hj u v) (nomark _)
theorem t_leO {K : PySem.W.Frag} (hK : X.K = K) {mm : α → β → WP Bool} (c : OwC X.prog X.w K X.mg X.base C "__le__" k (tsC T (tsC S tsN)) tyB fun a => mm a.1 a.2.1) (hi : IsC C T) (hj : IsC C S) (hr : Room k X.A) (A : DE X W XE Γ a ta T ma) (B : DE X W XE Γ b tb S mb) :
    DT X W XE Γ (.Compare a [.LtE] [b] pos) (tTest (tOp (rOwnI K C (spF K (tsC T (tsC S tsN)) tyB (fun a => mm a.1 a.2.1)) (fun _ _ _ => False) id) ta tb)) (bd ma fun u => bd mb fun v => noE (mm u v)) := by
  subst hK
  obtain ⟨f, fd, ps, F, hb, hs, hf⟩ := c.ex
  exact t_cmp (op_leI F hr hs hf hb passE) A B (fun u v => o_leO hi hj u v) (nomark _)
theorem o_ownI {K : PySem.W.Frag} {g : Bool → Bool} {m : α × β × Unit → WP Bool} (hi : IsC C T) (hj : IsC C S) (u : α) (v : β) : R2Ok (rOwnI K C (spF K (tsC T (tsC S tsN)) tyB m) (fun _ _ _ => False) g) T u S v tyB (noE (bd (m (u, v, ())) fun c => rt (g c))) := fun Qa Ea h L H x y Qv d r1 r2 k => by
  obtain ⟨p, dx, fs, rfl, hp⟩ := hi _ _ _ r1
  obtain ⟨q, dy, gs, rfl, hq⟩ := hj _ _ _ r2
  exact ⟨p, dx, fs, q, dy, gs, rfl, rfl, vis_le _ _ hp, vis_le _ _ hq, L, (u, v, ()), fun c => Qa (g c), fun _ => False, d, ⟨_, _, rfl, r1, _, _, rfl, r2, rfl⟩, h, fun r z H' hr s q => ⟨r, q, k (g r) _ H' hr s rfl⟩, fun _ _ _ _ h => h.elim⟩
theorem d_eqO {K : PySem.W.Frag} (hK : X.K = K) {mm : α → β → WP Bool} (c : OwC X.prog X.w K X.mg X.base C "__eq__" k (tsC T (tsC S tsN)) tyB fun a => mm a.1 a.2.1) (hi : IsC C T) (hj : IsC C S) (hr : Room k X.A) (A : DE X W XE Γ a ta T ma) (B : DE X W XE Γ b tb S mb) :
    DE X W XE Γ (.Compare a [.Eq] [b] pos) (tOp (rOwnI K C (spF K (tsC T (tsC S tsN)) tyB (fun a => mm a.1 a.2.1)) (fun _ _ _ => False) id) ta tb) tyB (bd ma fun u => bd mb fun v => noE (bd (mm u v) fun c => rt (id c))) := by
  subst hK
  obtain ⟨f, fd, ps, F, hb, hs, hf⟩ := c.ex
  exact d_cmp (op_eqI F hr hs hf hb passE) A B (fun u v => o_ownI hi hj u v) (nomark _)
theorem t_eqO {K : PySem.W.Frag} (hK : X.K = K) {mm : α → β → WP Bool} (c : OwC X.prog X.w K X.mg X.base C "__eq__" k (tsC T (tsC S tsN)) tyB fun a => mm a.1 a.2.1) (hi : IsC C T) (hj : IsC C S) (hr : Room k X.A) (A : DE X W XE Γ a ta T ma) (B : DE X W XE Γ b tb S mb) :
    DT X W XE Γ (.Compare a [.Eq] [b] pos) (tTest (tOp (rOwnI K C (spF K (tsC T (tsC S tsN)) tyB (fun a => mm a.1 a.2.1)) (fun _ _ _ => False) id) ta tb)) (bd ma fun u => bd mb fun v => noE (bd (mm u v) fun c => rt (id c))) := by
  subst hK
  obtain ⟨f, fd, ps, F, hb, hs, hf⟩ := c.ex
  exact t_cmp (op_eqI F hr hs hf hb passE) A B (fun u v => o_ownI hi hj u v) (nomark _)
structure NeC (K : PySem.W.Frag) (C : Addr) : Prop where
  ne : PySem.W.findIn K (.ref C) "__ne__" = some (some (.builtin "object.__ne__"))
  ob : PySem.W.subIn K (.ref C) (.type "object") = some true
theorem d_neO {K : PySem.W.Frag} (hK : X.K = K) {mm : α → β → WP Bool} (N : NeC K C) (c : OwC X.prog X.w K X.mg X.base C "__eq__" k (tsC T (tsC S tsN)) tyB fun a => mm a.1 a.2.1) (hi : IsC C T) (hj : IsC C S) (hr : Room (k + 1) X.A) (A : DE X W XE Γ a ta T ma) (B : DE X W XE Γ b tb S mb) :
    DE X W XE Γ (.Compare a [.NotEq] [b] pos) (tOp (rOwnI K C (spF K (tsC T (tsC S tsN)) tyB (fun a => mm a.1 a.2.1)) (fun _ _ _ => False) not) ta tb) tyB (bd ma fun u => bd mb fun v => noE (bd (mm u v) fun c => rt (not c))) := by
  subst hK
  obtain ⟨f, fd, ps, F, hb, hs, hf⟩ := c.ex
  exact d_cmp (op_neI F hr N.ne N.ob hs hf hb passE) A B (fun u v => o_ownI hi hj u v) (nomark _)
theorem t_neO {K : PySem.W.Frag} (hK : X.K = K) {mm : α → β → WP Bool} (N : NeC K C) (c : OwC X.prog X.w K X.mg X.base C "__eq__" k (tsC T (tsC S tsN)) tyB fun a => mm a.1 a.2.1) (hi : IsC C T) (hj : IsC C S) (hr : Room (k + 1) X.A) (A : DE X W XE Γ a ta T ma) (B : DE X W XE Γ b tb S mb) :
    DT X W XE Γ (.Compare a [.NotEq] [b] pos) (tTest (tOp (rOwnI K C (spF K (tsC T (tsC S tsN)) tyB (fun a => mm a.1 a.2.1)) (fun _ _ _ => False) not) ta tb)) (bd ma fun u => bd mb fun v => noE (bd (mm u v) fun c => rt (not c))) := by
  subst hK
  obtain ⟨f, fd, ps, F, hb, hs, hf⟩ := c.ex
  exact t_cmp (op_neI F hr N.ne N.ob hs hf hb passE) A B (fun u v => o_ownI hi hj u v) (nomark _)
/-- y in x -/
theorem o_inO {K : PySem.W.Frag} {m : β × α × Unit → WP Bool} (hj : IsC C S) (u : α) (v : β) : R2Ok (rInO C (spF K (tsC S (tsC T tsN)) tyB m) (fun _ _ _ => False)) T u S v tyB (noE (m (v, u, ()))) := fun Qa Ea h L H x y Qv d r1 r2 k => by
  obtain ⟨q, dy, gs, rfl, hq⟩ := hj _ _ _ r2
  exact ⟨q, dy, gs, rfl, vis_le _ _ hq, L, (v, u, ()), Qa, fun _ => False, d, ⟨_, _, rfl, r2, _, _, rfl, r1, rfl⟩, h, fun r z H' hr s q => ⟨r, q, k r _ H' hr s rfl⟩, fun _ _ _ _ h => h.elim⟩
theorem d_inO {K : PySem.W.Frag} (hK : X.K = K) {mm : β → α → WP Bool} (c : OwC X.prog X.w K X.mg X.base C "__contains__" k (tsC S (tsC T tsN)) tyB fun a => mm a.1 a.2.1) (hj : IsC C S) (hr : Room k X.A) (A : DE X W XE Γ a ta T ma) (B : DE X W XE Γ b tb S mb) (hm : behindInMarks .In b = false) :
    DE X W XE Γ (.Compare a [.In] [b] pos) (tOp (rInO C (spF K (tsC S (tsC T tsN)) tyB (fun a => mm a.1 a.2.1)) (fun _ _ _ => False)) ta tb) tyB (bd ma fun u => bd mb fun v => noE (mm v u)) := by
  subst hK
  obtain ⟨f, fd, ps, F, hb, hs, hf⟩ := c.ex
  exact d_cmp (op_inO F hr hs hf hb passE) A B (fun u v => o_inO hj u v) hm
theorem t_inO {K : PySem.W.Frag} (hK : X.K = K) {mm : β → α → WP Bool} (c : OwC X.prog X.w K X.mg X.base C "__contains__" k (tsC S (tsC T tsN)) tyB fun a => mm a.1 a.2.1) (hj : IsC C S) (hr : Room k X.A) (A : DE X W XE Γ a ta T ma) (B : DE X W XE Γ b tb S mb) (hm : behindInMarks .In b = false) :
    DT X W XE Γ (.Compare a [.In] [b] pos) (tTest (tOp (rInO C (spF K (tsC S (tsC T tsN)) tyB (fun a => mm a.1 a.2.1)) (fun _ _ _ => False)) ta tb)) (bd ma fun u => bd mb fun v => noE (mm v u)) := by
  subst hK
  obtain ⟨f, fd, ps, F, hb, hs, hf⟩ := c.ex
  exact t_cmp (op_inO F hr hs hf hb passE) A B (fun u v => o_inO hj u v) hm
/-- x | y, x & y .. -/
theorem d_opO {K : PySem.W.Frag} (hK : X.K = K) {nm rn : Str} {op : Operator} {mm : α → β → WP γ} (c : OwB X.prog X.w K X.mg X.base C nm rn k (tsC T (tsC S tsN)) R fun a => mm a.1 a.2.1) (en : PySem.dunder op.info.2 = nm) (er : PySem.dunderR op.info.2 = rn) (hi : IsC C T) (hj : IsC C S) (hr : Room k X.A) (hx : ∀ σ, PassesAt (L2.CX X.prog X.w) X σ XE) (A : DE X W XE Γ a ta T ma) (B : DE X W XE Γ b tb S mb) :
    DE X W XE Γ (.BinOp a op b pos) (tOwnB C (spF K (tsC T (tsC S tsN)) R (fun a => mm a.1 a.2.1)) (fun _ => XE) ta tb) R (bd ma fun u => bd mb fun v => mm u v) := by
  subst hK
  obtain ⟨f, fd, ps, F, hb, O⟩ := c.ex
  refine ⟨pe_ownB F hr O hb hx en er A.pe B.pe, fun Qa Ea hh σ H F ev Qv aq ae => A.den _ _ hh σ H F ev _ (fun u x H1 hu p1 r1 => B.den _ _ hu σ H1 F (ev.step p1) _ (fun v y H2 hv p2 r2 => ?_) (ae.step p1)) ae⟩
  have r1' := T.mono p2.vis r1
  obtain ⟨p, dx, fs, rfl, hp⟩ := hi _ _ _ r1'
  obtain ⟨q, dy, gs, rfl, hq⟩ := hj _ _ _ r2
  exact ⟨p, dx, fs, q, dy, gs, rfl, rfl, vis_le _ _ hp, vis_le _ _ hq, W.M0 ++ F, (u, v, ()), Qa, Ea, ((ev.step p1).step p2).dom, ⟨_, _, rfl, r1', _, _, rfl, r2, rfl⟩, hv, fun r z H' hr s q => aq r z H' hr ((p1.trans p2).trans (PSt.same p2.ok s)) q, fun e c d H' he s q => ae e c d H' he ((p1.trans p2).trans (PSt.same p2.ok s)) q⟩
/-- len(x) -/
def rLenO (K : PySem.W.Frag) (C : Addr) {α : Type} (T : Ty α) (m : α × Unit → WP Int) : List V → Hp → VK → Prop := fun xs H Q => ∃ a dx fs, xs = [.ref a] ∧ H a = some (.ins C dx fs) ∧ spF K (tsC T tsN) tyI m xs H (fun z H' => ∃ n : Nat, z = .int n ∧ n ≤ 1000000 ∧ Q (.int n) H') (fun _ _ _ => False)
theorem d_lenO {K : PySem.W.Frag} (hK : X.K = K) {mm : α → WP Int} {p : Pos} (c : OwC X.prog X.w K X.mg X.base C "__len__" k (tsC T tsN) tyI fun a => mm a.1) (hi : IsC C T) (hr : Room (k + 1) X.A) (hm : X.mg "len" = none) (A : DE X W XE Γ a ta T ma) (hg : Gl X "len" := by rfl) (he : starEach [a] X.env = [(false, eval a X.env)] := by rfl) :
    DE X W XE Γ (.Call (.Name "len" p) [a] [] pos) (tCB (rLenO K C T fun a => mm a.1) (tCons ta tNil)) tyI (bd ma fun u => noE (bd (mm u) fun i => nd (0 ≤ i ∧ i ≤ 1000000) (rt i))) := by
  subst hK
  obtain ⟨f, fd, ps, F, hb, hs, hf⟩ := c.ex
  have AA := da_cons A da_nil he
  have hh := den_cb (K := X.K) (XE := XE) (r := rLenO X.K C T fun a => mm a.1) (T := tyI) (m := fun u : α × Unit => noE (bd (mm u.1) fun i => nd (0 ≤ i ∧ i ≤ 1000000) (rt i))) AA.den (fun u => ?_)
  · exact ⟨pe_callB (id := "len") (call_lenOwn F hr hs hf hb passE) hg hm PySem.boot_len AA.pe (by decide) (by decide) he (by rfl), hh⟩
  intro Qa Ea h L H v Qv d r kk
  obtain ⟨v1, r1, rfl, h1, h2⟩ := id r
  have h2 : r1 = [] := h2
  subst h2
  obtain ⟨q, dx, fs, rfl, hp⟩ := hi _ _ _ h1
  refine ⟨q, dx, fs, rfl, vis_le _ _ hp, L, u, fun i => (0 ≤ i ∧ i ≤ 1000000) ∧ Qa i, fun _ => False, d, r, h, fun i z H' hi s q => ?_, fun _ _ _ _ h => h.elim⟩
  obtain ⟨n, rfl⟩ : ∃ n : Nat, i = (n : Int) := ⟨i.toNat, by omega⟩
  exact ⟨n, q, by omega, kk _ _ H' hi.2 s rfl⟩
end
theorem rcO {X : Cx} {α : Type} [DecidableEq α] {T : Ty α} {K : PySem.W.Frag} (hK : X.K = K) {C : Addr} {k : Nat} {mm : α → α → WP Bool} (c : OwC X.prog X.w K X.mg X.base C "__eq__" k (tsC T (tsC T tsN)) tyB fun a => mm a.1 a.2.1) (hi : IsC C T)
    (hm : ∀ a b (Q : Bool → Prop), Q (decide (a = b)) → mm a b Q fun _ => False) : RcR .Eq id X k T.rep := rcC hK (m := fun a => mm a.1 a.2.1) ⟨c.ex⟩ hi hm
theorem eqO {X : Cx} {α : Type} [DecidableEq α] {T : Ty α} {K : PySem.W.Frag} (hK : X.K = K) {C : Addr} {k : Nat} {mm : α → α → WP Bool} (c : OwC X.prog X.w K X.mg X.base C "__eq__" k (tsC T (tsC T tsN)) tyB fun a => mm a.1 a.2.1) (hi : IsC C T)
    (hm : ∀ a b (Q : Bool → Prop), Q (decide (a = b)) → mm a b Q fun _ => False) (hf : FunI X T) : EqR X k T.rep := eq_of_rc (rcO hK c hi hm) (fun x H a h => let ⟨p, _, _, e, _⟩ := hi x H a h; ⟨p, e⟩) hf
/-! ### a way that is not gone -/
section
variable {X : Cx} {s l ρ : Type} {W : Wd} {XE : XK} {Γ : List Slot} {Γ' : s → List Slot} {ΓL : l → List Slot} {R : Ty ρ} {ss : List Stmt} {ts : TS}
def noS {s l ρ : Type} : SB s l ρ := fun _ => False
theorem s_never (p : PSs X ss ts) : DS X W XE Γ ss ts Γ' ΓL R noS := ⟨p, fun A hA => hA.elim⟩
end
/-! ### lists, tuples put together -/
section
variable {K : PySem.W.Frag} {α β : Type} {T : Ty α} {S : Ty β}
theorem o_catL (u v : List α) : R2Ok rCat (tyL T) u (tyL T) v (tyL T) (nd (u.length + v.length ≤ sizeLine) (rt (u ++ v))) := fun Qa Ea ⟨h0, h⟩ L H x y Qv d ⟨p, xs, e, hp, r⟩ ⟨q, ys, e2, hq, r2⟩ k =>
  ⟨p, q, xs, ys, e, e2, vis_le _ _ hp, vis_le _ _ hq, by rw [r.len, r2.len]; exact h0, fun z hz => k _ _ _ h (same_new hz) ⟨z, _, rfl, vis_new (notin_new d hz), T.all (vis_same (same_new hz)) (Reps.app r r2)⟩⟩
theorem o_catT (u v : List α) : R2Ok (rCatA K) (tyT K T) u (tyT K T) v (tyT K T) (nd (u.length + v.length ≤ sizeLine) (rt (u ++ v))) := fun Qa Ea ⟨h0, h⟩ L H x y Qv d ⟨p, xs, e, hp, r⟩ ⟨q, ys, e2, hq, r2⟩ k => by
  refine ⟨p, q, xs, ys, e, e2, same_sqT vis_le hp, same_sqT vis_le hq, by rw [r.len, r2.len]; exact h0, fun z => ?_, fun _ z => ?_, fun _ _ z hz => k _ _ _ h (same_new hz) ⟨z, _, rfl, SqT.of (vis_new (notin_new d hz)), T.all (vis_same (same_new hz)) (Reps.app r r2)⟩⟩
  · subst z
    have : u = [] := by cases u with | nil => rfl | cons _ _ => cases r
    subst this
    exact k _ _ H h (Same.refl _) ⟨q, ys, rfl, hq, r2⟩
  · subst z
    have : v = [] := by cases v with | nil => rfl | cons _ _ => cases r2
    subst this
    rw [List.append_nil] at h
    exact k _ _ H h (Same.refl _) ⟨p, xs, rfl, hp, r⟩
end
/-! ### isinstance(x, list), isinstance(x, tuple) -/
section
variable {X : Cx} {W : Wd} {Γ : List Slot} {XE : XK} {e : Expr} {te : TE} {pos : Pos} {α β : Type} {T : Ty α}
def TyN {α : Type} (K : PySem.W.Frag) (T : Ty α) (c : String) : Prop := ∀ (v : V) (H : Hp) (u : α), T.rep v H u → TyX K H v (.type c)
theorem tyn_L {T : Ty α} {K : PySem.W.Frag} : TyN K (tyL T) "list" := fun v H u ⟨p, xs, e, hp, _⟩ => by rw [e]; exact .base (.lst hp)
theorem tyn_sqT {K : PySem.W.Frag} {H : Hp} {p : Addr} {xs : List V} (h : SqT K H p xs) : TyX K H (.ref p) (.type "tuple") := by
  rcases h with (h | ⟨o, h⟩) | ⟨o, its, n, h, hc, _⟩
  · exact .base (.tup h)
  · exact .fTuple h
  · exact .kTuple h hc
theorem tyn_T {T : Ty α} {K : PySem.W.Frag} : TyN K (tyT K T) "tuple" := fun v H u ⟨p, xs, e, hp, _⟩ => by rw [e]; exact tyn_sqT hp
theorem tyn_P {S : TyS α} {K : PySem.W.Frag} : TyN K (tyP K S) "tuple" := fun v H u ⟨p, xs, e, hp, _⟩ => by rw [e]; exact tyn_sqT hp
theorem tyn_I {K : PySem.W.Frag} : TyN K tyI "int" := fun v H u h => by rw [show v = .int u from h]; exact .base (.int _)
theorem tyn_B {K : PySem.W.Frag} : TyN K tyB "bool" := fun v H u h => by rw [show v = .bl u from h]; exact .base (.bl _)
theorem tyn_S {K : PySem.W.Frag} : TyN K tyS "str" := fun v H u h => by rw [show v = .str u from h]; exact .base (.str _)
theorem d_isK {K : PySem.W.Frag} (hK : X.K = K) {c d : String} {r : Bool} {m : WP α} {n : Str} {p p1 : Pos} (A : DE X W XE Γ e te T m) (ht : TyN K T d) (hc : PE X (.Name n p1) (tC (.ty c))) (hm : X.mg "isinstance" = none) (h0 : kitB d c = some r)
    (hg : Gl X "isinstance" := by rfl) (he : starEach [e, .Name n p1] X.env = (false, eval e X.env) :: starEach [.Name n p1] X.env := by rfl) (he2 : starEach [.Name n p1] X.env = (false, eval (.Name n p1) X.env) :: starEach [] X.env := by rfl) (hpl : (backTo pos (starEach [.Name n p1] X.env)).any (·.1) = false := by rfl) :
    DE X W XE Γ (.Call (.Name "isinstance" p) [e, .Name n p1] [] pos) (tCB (rIsi K) (tCons te (tCons (tC (.ty c)) tNil))) tyB (bd m fun u => rt r) := by
  subst hK
  have CC : DE X W XE Γ (.Name n p1) (tC (.ty c)) (⟨fun x _ _ => x = .ty c, fun _ h => h⟩ : Ty Unit) (rt ()) := d_con hc fun _ => rfl
  have AA := da_cons A (da_cons CC da_nil he2) he
  have hh := den_cb (K := X.K) (XE := XE) (r := rIsi X.K) (T := tyB) (m := fun u : α × Unit × Unit => rt r) AA.den (fun u => ?_)
  · exact ⟨pe_callB (id := "isinstance") call_isi hg hm (by decide +kernel) AA.pe (by decide) (by decide) he hpl, hh⟩
  intro Qa Ea h L H x Qv d ⟨v, r, e, hv, v2, r2, e2, hv2, hr⟩ k
  have hr : r2 = [] := hr
  have hv2 : v2 = .ty c := hv2
  subst hr hv2 e2 e
  exact ⟨_, _, _, _, _, rfl, .ty _, ht _ _ _ (T.mono vis_le hv), kit_ty h0, k _ _ H h (Same.refl _) rfl⟩
end
/-! ### *xs among arguments, items -/
section
variable {X : Cx} {W : Wd} {Γ : List Slot} {XE : XK} {e : Expr} {es : List Expr} {te : TE} {tt : TA} {p : Pos} {α β : Type} {T : Ty α} {m : WP (List α)} {n : WP β}
/-- items of one kind, some of them from a list or a tuple -/
def tsQ {α : Type} (T : Ty α) : TyS (List α) := ⟨fun xs H as => Reps T.rep H xs as, fun s h => T.all s h⟩
theorem da_nilQ : DA X W XE Γ [] tNil (tsQ T) (rt []) := ⟨pa_nil, fun Qa Ea hh σ H F ev Qv aq ae => aq [] [] H hh (PSt.refl ev.ok) trivial⟩
theorem da_consQ {m : WP α} {n : WP (List α)} (A : DE X W XE Γ e te T m) (B : DA X W XE Γ es tt (tsQ T) n) (hs : starEach (e :: es) X.env = (false, eval e X.env) :: starEach es X.env := by rfl) :
    DA X W XE Γ (e :: es) (tCons te tt) (tsQ T) (bd m fun u => bd n fun v => rt (u :: v)) := ⟨pa_cons A.pe B.pe hs, fun Qa Ea hh σ H F ev Qv aq ae =>
  A.den _ _ hh σ H F ev _ (fun u x H1 hu p r1 => B.den _ _ hu σ H1 F (ev.step p) _ (fun v y H2 hv p2 r2 => aq (u :: v) (x :: y) H2 hv (p.trans p2) ⟨T.mono p2.vis r1, r2⟩) (ae.step p)) ae⟩
theorem da_starQ {K : PySem.W.Frag} (hK : X.K = K) {n : WP (List α)} (A : DE X W XE Γ e te (tyQ K T) m) (B : DA X W XE Γ es tt (tsQ T) n) (hs : starEach (.Starred e p :: es) X.env = (true, eval e X.env) :: starEach es X.env := by rfl) :
    DA X W XE Γ (.Starred e p :: es) (tStar K te tt) (tsQ T) (bd m fun u => bd n fun v => rt (u ++ v)) := by
  subst hK
  exact ⟨pa_star A.pe B.pe hs, fun Qa Ea hh σ H F ev Qv aq ae =>
    A.den _ _ hh σ H F ev _ (fun u x H1 hu p ⟨q, xs, e, hq, r1⟩ => ⟨q, xs, e, (hq.imp (same_sqL vis_le) (same_sqT vis_le)).symm, B.den _ _ hu σ H1 F (ev.step p) _ (fun v y H2 hv p2 r2 => aq (u ++ v) (xs ++ y) H2 hv (p.trans p2) (Reps.app (T.all p2.vis r1) r2)) (ae.step p)⟩) ae⟩
theorem d_tupQ {K : PySem.W.Frag} {x1} {pos : Pos} {mm : WP (List α)} (A : DA X W XE Γ es tt (tsQ T) mm) : DE X W XE Γ (.Tuple es x1 pos) (tTup tt) (tyT K T) (bd mm fun u => nd (u.length ≤ sizeLine) (rt u)) :=
  ⟨pe_tup A.pe, fun Qa Ea hh σ H F ev Qv aq ae => A.den _ _ hh σ H F ev _ (fun u xs H1 ⟨hl, hu⟩ p r1 => ⟨by rw [Reps.len r1]; exact hl, fun q hq => by
    have s : Same H1 (upd H1 q (.tup xs)) := same_new hq
    have v : q ∉ W.M0 ++ F := notin_new (ev.step p).dom hq
    exact aq _ _ _ hu (p.trans (PSt.same p.ok s)) ⟨q, xs, rfl, SqT.of (vis_new v), T.all (vis_same s) r1⟩⟩) ae⟩
theorem n_lstQ {pos : Pos} {mm : WP (List α)} (A : DA X W XE Γ es tt (tsQ T) mm) : DN X W XE Γ (.List es pos) (tLst tt) T (bd mm fun u => nd (u.length ≤ sizeLine) (rt u)) := ⟨pe_lst A.pe, fun Qa Ea hh σ H F ev Qv aq ae =>
  A.den _ _ hh σ H F ev _ (fun u xs H1 ⟨hl, hu⟩ p r1 => ⟨by rw [Reps.len r1]; exact hl, fun q hq => by
    have s : Same H1 (upd H1 q (.lst xs)) := same_new hq
    have ev1 := ev.step p
    have hq0 : H q = none := by
      cases z : H q with
      | none => rfl
      | some o =>
        by_cases m0 : q ∈ W.M0
        · exact absurd hq (W.dom ev1.ok q m0)
        · have := p.keep q o m0 z
          rw [hq] at this
          cases this
    refine aq _ q xs _ hu (p.trans (PSt.same p.ok s)) hq0 upd_same (T.all (fun b o e => ?_) r1)
    obtain ⟨nb, e⟩ := vis_some e
    have ne : b ≠ q := fun z => by rw [z, hq] at e; cases e
    rw [vis_out (by
      rw [List.mem_cons]
      rintro (z | z)
      · exact ne z
      · exact nb z), upd_ne ne]
    exact e⟩) ae⟩
end
end Dn

namespace Dn
open PySem PySem.Spec PyProof.Rows L2 Wx NdefX RZ StX
/-! ### dicts -/
section
variable {κ : Type} [DecidableEq κ] {α : Type}
def getA (m : List (κ × α)) (k : κ) : Option α := (m.find? fun e => decide (e.1 = k)).map (·.2)
def putA (m : List (κ × α)) (k : κ) (a : α) : List (κ × α) := if (m.any fun e => decide (e.1 = k)) = true then m.map (fun e => if e.1 = k then (e.1, a) else e) else m ++ [(k, a)]
end
structure KeyK {κ : Type} (Tk : Ty κ) (kf : κ → Key) : Prop where
  is : ∀ {x : V} {H : Hp} {u : κ}, Tk.rep x H u → x = kV (kf u)
  re : ∀ {H : Hp} (u : κ), Tk.rep (kV (kf u)) H u
  inj : ∀ {u v : κ}, kf u = kf v → u = v
theorem keyI : KeyK tyI Sum.inl := ⟨fun h => h, fun u => rfl, fun h => Sum.inl.inj h⟩
theorem keyS : KeyK tyS Sum.inr := ⟨fun h => h, fun u => rfl, fun h => Sum.inr.inj h⟩
def Dct {κ α : Type} (kf : κ → Key) (T : Ty α) (G : Hp) : List (Key × V) → List (κ × α) → Prop
  | [], [] => True
  | e :: kvs, f :: m => e.1 = kf f.1 ∧ T.rep e.2 G f.2 ∧ Dct kf T G kvs m
  | [], _ :: _ => False
  | _ :: _, [] => False
section
variable {κ α : Type} {kf : κ → Key} {T : Ty α} {G G' : Hp}
theorem Dct.mono (s : Same G G') : ∀ {kvs : List (Key × V)} {m : List (κ × α)}, Dct kf T G kvs m → Dct kf T G' kvs m
  | [], [], _ => trivial
  | _ :: _, _ :: _, ⟨h1, h2, h3⟩ => ⟨h1, T.mono s h2, h3.mono s⟩
  | [], _ :: _, h => h.elim
  | _ :: _, [], h => h.elim
theorem Dct.len : ∀ {kvs : List (Key × V)} {m : List (κ × α)}, Dct kf T G kvs m → kvs.length = m.length
  | [], [], _ => rfl
  | _ :: _, _ :: _, ⟨_, _, h3⟩ => by rw [List.length_cons, List.length_cons, h3.len]
  | [], _ :: _, h => h.elim
  | _ :: _, [], h => h.elim
theorem Dct.snoc {k : κ} {v : V} {a : α} (r : T.rep v G a) : ∀ {kvs : List (Key × V)} {m : List (κ × α)}, Dct kf T G kvs m → Dct kf T G (kvs ++ [(kf k, v)]) (m ++ [(k, a)])
  | [], [], _ => ⟨rfl, r, trivial⟩
  | e :: kvs, f :: m, ⟨h1, h2, h3⟩ => ⟨h1, h2, h3.snoc r⟩
  | [], _ :: _, h => h.elim
  | _ :: _, [], h => h.elim
section
variable [DecidableEq κ]
theorem Dct.get (hk : ∀ {u v : κ}, kf u = kf v → u = v) {k : κ} : ∀ {kvs : List (Key × V)} {m : List (κ × α)}, Dct kf T G kvs m → (valV kvs (kf k) = none ∧ getA m k = none) ∨ ∃ v a, valV kvs (kf k) = some v ∧ getA m k = some a ∧ T.rep v G a
  | [], [], _ => .inl ⟨rfl, rfl⟩
  | e :: kvs, f :: m, ⟨h1, h2, h3⟩ => by
    by_cases z : f.1 = k
    · exact .inr ⟨e.2, f.2, valV_pos (h1.trans (by rw [z])), by simp [getA, List.find?_cons, z], h2⟩
    · have z' : ¬ e.1 = kf k := fun q => z (hk (h1.symm.trans q))
      rw [valV_neg z']
      have : getA (f :: m) k = getA m k := by simp [getA, List.find?_cons, z]
      rw [this]
      exact h3.get hk
  | [], _ :: _, h => h.elim
  | _ :: _, [], h => h.elim
theorem Dct.any (hk : ∀ {u v : κ}, kf u = kf v → u = v) {k : κ} : ∀ {kvs : List (Key × V)} {m : List (κ × α)}, Dct kf T G kvs m → (kvs.any fun kv => decide (kv.1 = kf k)) = (m.any fun e => decide (e.1 = k))
  | [], [], _ => rfl
  | e :: kvs, f :: m, ⟨h1, h2, h3⟩ => by
    rw [List.any_cons, List.any_cons, h3.any hk, h1]
    congr 1
    rw [Bool.eq_iff_iff, decide_eq_true_eq, decide_eq_true_eq]
    exact ⟨fun q => hk q, fun q => by rw [q]⟩
  | [], _ :: _, h => h.elim
  | _ :: _, [], h => h.elim
theorem Dct.mapP (hk : ∀ {u v : κ}, kf u = kf v → u = v) {k : κ} {v : V} {a : α} (r : T.rep v G a) : ∀ {kvs : List (Key × V)} {m : List (κ × α)}, Dct kf T G kvs m → Dct kf T G (kvs.map fun kv => if kv.1 = kf k then (kv.1, v) else kv) (m.map fun e => if e.1 = k then (e.1, a) else e)
  | [], [], _ => trivial
  | e :: kvs, f :: m, ⟨h1, h2, h3⟩ => by
    rw [List.map_cons, List.map_cons]
    by_cases z : f.1 = k
    · rw [if_pos (h1.trans (by rw [z])), if_pos z]
      exact ⟨h1, r, h3.mapP hk r⟩
    · rw [if_neg (fun q => z (hk (h1.symm.trans q))), if_neg z]
      exact ⟨h1, h2, h3.mapP hk r⟩
  | [], _ :: _, h => h.elim
  | _ :: _, [], h => h.elim
theorem Dct.put (hk : ∀ {u v : κ}, kf u = kf v → u = v) {k : κ} {v : V} {a : α} (r : T.rep v G a) {kvs : List (Key × V)} {m : List (κ × α)} (h : Dct kf T G kvs m) : Dct kf T G (putK kvs (kf k) v) (putA m k a) := by
  unfold putK putA
  rw [h.any hk]
  split
  · exact h.mapP hk r
  · exact h.snoc r
end
theorem Dct.at : ∀ {kvs : List (Key × V)} {m : List (κ × α)} {i : Nat} {k : Key} {v : V}, Dct kf T G kvs m → kvs[i]? = some (k, v) → ∃ e, m[i]? = some e ∧ k = kf e.1 ∧ T.rep v G e.2
  | [], [], i, _, _, _, e => by simp at e
  | e :: kvs, f :: m, 0, _, _, ⟨h1, h2, h3⟩, q => by
    simp at q
    subst q
    exact ⟨f, rfl, h1, h2⟩
  | e :: kvs, f :: m, i + 1, _, _, ⟨h1, h2, h3⟩, q => by
    obtain ⟨e', q1, q2⟩ := Dct.at (i := i) h3 (by simpa using q)
    exact ⟨e', by simpa using q1, q2⟩
  | [], _ :: _, _, _, _, h, _ => h.elim
  | _ :: _, [], _, _, _, h, _ => h.elim
end
/-- a dict of one's own -/
def ownD {κ α : Type} (kf : κ → Key) (T : Ty α) : Own (List (κ × α)) := ⟨fun x G H F m => ∃ p kvs, x = .ref p ∧ F = [p] ∧ H p = some (.dK kvs) ∧ Dct kf T G kvs m, fun ⟨p, xs, e, f, h, r⟩ s k => ⟨p, xs, e, f, (k p (by rw [f]; exact List.mem_cons_self)).trans h, r.mono s⟩⟩
/-- .. that is locked -/
def tyZ {κ α : Type} (kf : κ → Key) (T : Ty α) : Ty (List (κ × α)) := ⟨fun x H m => ∃ p o kvs, x = .ref p ∧ H p = some (.frz o (.dK kvs)) ∧ Dct kf T H kvs m, fun s ⟨p, o, kvs, e, h, r⟩ => ⟨p, o, kvs, e, s _ _ h, r.mono s⟩⟩
/-- kinds that no locked dict is part of -/
def NoZ {α : Type} (T : Ty α) : Prop := ∀ (x : V) (H H' : Hp) (a : α), (∀ b o, H b = some o → H' b = some o ∨ ∃ z kvs, o = .frz z (.dK kvs)) → T.rep x H a → T.rep x H' a
theorem noZ_flat {α : Type} {T : Ty α} (h : Flat T) : NoZ T := fun x H H' a _ r => h r
theorem noZ_reps {α : Type} {T : Ty α} (h : NoZ T) {H H' : Hp} (k : ∀ b o, H b = some o → H' b = some o ∨ ∃ z kvs, o = .frz z (.dK kvs)) {xs : List V} {as : List α} (r : Reps T.rep H xs as) : Reps T.rep H' xs as := r.imp fun x a q => h x H H' a k q
theorem noZ_L {α : Type} {T : Ty α} (h : NoZ T) : NoZ (tyL T) := fun x H H' a k ⟨p, xs, e, hp, r⟩ => ⟨p, xs, e, (k _ _ hp).elim id fun ⟨_, _, z⟩ => (by cases z), noZ_reps h k r⟩
theorem noZ_sqT {K : PySem.W.Frag} {H H' : Hp} {p : Addr} {xs : List V} (k : ∀ b o, H b = some o → H' b = some o ∨ ∃ z kvs, o = .frz z (.dK kvs)) (h : SqT K H p xs) : SqT K H' p xs := h.imp (fun r => r.imp (fun q => (k _ _ q).elim id fun ⟨_, _, z⟩ => (by cases z)) fun ⟨o, q⟩ => ⟨o, (k _ _ q).elim id fun ⟨_, _, z⟩ => (by cases z)⟩) id
theorem noZ_T {K : PySem.W.Frag} {α : Type} {T : Ty α} (h : NoZ T) : NoZ (tyT K T) := fun x H H' a k ⟨p, xs, e, hp, r⟩ => ⟨p, xs, e, noZ_sqT k hp, noZ_reps h k r⟩
/-- an expression while a dict of one's own is locked -/
theorem d_lock {X : Cx} {W : Wd} {Γ : List Slot} {XE : XK} {e : Expr} {te : TE} {κ α β : Type} {kf : κ → Key} {T : Ty α} {R : Ty β} {m : List (κ × α)} {mm : WP β} {i : Nat} (h : Γ[i]? = some (.mu (ownD kf T) m)) (hz : NoZ R) (A : DE X W XE (Γ.set i (.rp (tyZ kf T) m)) e te R mm) : DE X W XE Γ e (tLockE te) R (noE mm) :=
  ⟨pe_lock A.pe, fun Qa Ea hh σ H F ev Qv aq ae => by
    obtain ⟨x, Fa, F1, Fb, hF, hx, ⟨p, kvs, rfl, rfl, hp, hr⟩, _, k⟩ := ev.sl.split h
    refine ⟨p, .dK kvs, hp, by first | trivial | exact .dK | simp [Mut], fun od => ?_⟩
    have mp : p ∈ F := by rw [hF]; simp
    have sub : ∀ b ∈ Fa ++ Fb, b ∈ F := fun b m => by
      rw [hF]
      rcases List.mem_append.mp m with q | q
      · exact List.mem_append_left _ q
      · exact List.mem_append_right _ (List.mem_append_right _ q)
    have nd := ev.nd
    rw [hF] at nd
    have hsub : (Fa ++ Fb).Sublist (Fa ++ ([p] ++ Fb)) := (List.Sublist.refl _).append (List.sublist_append_right _ _)
    have npF : p ∉ Fa ++ Fb := by
      have e : (Fa ++ ([p] ++ Fb)).Perm (p :: (Fa ++ Fb)) := List.perm_middle
      exact (List.nodup_cons.mp (e.nodup nd)).1
    have npM : p ∉ W.M0 := (ev.fr p mp).2.1
    have np : p ∉ W.M0 ++ (Fa ++ Fb) := fun m => (List.mem_append.mp m).elim npM npF
    have kl : ∀ {b : Addr} {u : HO}, b ≠ p → (upd H p u) b = H b := fun nb => upd_ne nb
    have s : Same (vis (W.M0 ++ F) H) (vis (W.M0 ++ (Fa ++ Fb)) (upd H p (.frz od (.dK kvs)))) := fun b o e => by
      obtain ⟨nb, e⟩ := vis_some e
      have ne : b ≠ p := fun z => nb (by rw [z]; exact List.mem_append_right _ mp)
      rw [vis_out fun m => nb ((List.mem_append.mp m).elim (List.mem_append_left _) fun q => List.mem_append_right _ (sub b q)), kl ne]
      exact e
    have q := k (H' := upd H p (.frz od (.dK kvs))) s (fun b mb => kl fun z => npF (z ▸ mb)) (T := tyZ kf T) (a' := m) (x' := .ref p) ⟨p, od, kvs, rfl, (by rw [vis_out np, upd_same]), hr.mono s⟩
    rw [set_self hx] at q
    have ev' : EvF W (Γ.set i (.rp (tyZ kf T) m)) σ (upd H p (.frz od (.dK kvs))) (Fa ++ Fb) := by
      refine ⟨W.lok ev.ok fun b mb => kl fun z => npM (z ▸ mb), fun b o nb e => ?_, fun b mb => ⟨(ev.fr b (sub b mb)).1, (ev.fr b (sub b mb)).2.1, ?_⟩, nd.sublist hsub, q⟩
      · rw [kl fun z => by rw [z, (ev.fr p mp).1] at e; cases e]
        exact ev.frm b o nb e
      · rw [kl fun z => npF (z ▸ mb)]
        exact (ev.fr b (sub b mb)).2.2
    refine A.den _ _ hh σ _ _ ev' _ (fun a x H' ha ps r => ?_) (fun e c d H' he => he.elim)
    have hd : H' p = some (.frz od (.dK kvs)) := ps.keep p _ npM upd_same
    refine ⟨hd, aq a x _ ha ⟨fun b o nb e => ?_, W.lok ps.ok fun b mb => upd_ne fun z => npM (z ▸ mb)⟩ (hz _ _ _ _ (fun b o e => ?_) r)⟩
    · by_cases z : b = p
      · rw [z] at e ⊢
        rw [upd_same]
        rw [hp] at e
        exact e
      · rw [upd_ne z]
        exact ps.keep b o nb (by rw [kl z]; exact e)
    · obtain ⟨nb, e⟩ := vis_some e
      by_cases z : b = p
      · rw [z, hd] at e
        cases e
        exact .inr ⟨_, _, rfl⟩
      · refine .inl ?_
        have nb' : b ∉ W.M0 ++ F := fun m => by
          rcases List.mem_append.mp m with q | q
          · exact nb (List.mem_append_left _ q)
          · rw [hF] at q
            rcases List.mem_append.mp q with q | q
            · exact nb (List.mem_append_right _ (List.mem_append_left _ q))
            · rcases List.mem_append.mp q with q | q
              · exact z (List.mem_singleton.mp q)
              · exact nb (List.mem_append_right _ (List.mem_append_right _ q))
        rw [vis_out nb', upd_ne z]
        exact e⟩
end Dn

namespace Dn
open PySem PySem.Spec PyProof.Rows L2 Wx NdefX RZ StX
/-! ### {k: v for x in xs if t} -/
def dcW {κ α β : Type} [DecidableEq κ] (f : β → WP (Option (κ × α))) : List β → List (κ × α) → WP (List (κ × α))
  | [], acc => rt acc
  | a :: as, acc => bd (f a) fun o => match o with
    | none => dcW f as acc
    | some b => nd (acc.length < sizeLine) (dcW f as (putA acc b.1 b.2))
theorem dc_it {J : It} {n : Nat} {G : Hp → Prop} {Y : Nat → Hp → V → Hp → Prop} (w : Walk J n G Y) {g : TG} {tt : TT} {tk tv : TE} {vs : List Nat} {σ : L2.St} {H1 : Hp} {D : Addr} {Qd : Hp → Prop} (Pv : Nat → Hp → Prop) (h0 : Pv 0 (upd H1 D (.dK []))) (hG : ∀ i H, i ≤ n → Pv i H → G H)
    (hs : ∀ i x H H', i < n → Pv i H → Y i H x H' → g x (wipe σ vs) H' fun σ2 H2 => wipe σ2 vs = wipe σ vs ∧ tt σ2 H2 fun b H3 =>
      if b = true then tk σ2 H3 fun y H4 => tv σ2 H4 fun z H5 => ∃ kvs k, y = kV k ∧ H5 D = some (.dK kvs) ∧ kvs.length < sizeLine ∧ Pv (i + 1) (upd H5 D (.dK (putK kvs k z))) else Pv (i + 1) H3) (hd : ∀ H, Pv n H → Qd H) :
    ∃ W : Nat → Nat → Hp → Prop, (∃ m, W 0 m (upd H1 D (.dK []))) ∧ ∀ i m H, W i m H →
      (J.stop i H ∧ Qd H) ∨ (J.go i H ∧ ∃ Nx : Hp → Prop, (∀ H', Nx H' → ∃ m', m' < m ∧ W (i + 1) m' H') ∧ ∀ x H', J.yld i H x H' → g x (wipe σ vs) H' fun σ2 H2 => wipe σ2 vs = wipe σ vs ∧ tt σ2 H2 fun b H3 =>
        if b = true then tk σ2 H3 fun y H4 => tv σ2 H4 fun z H5 => ∃ kvs k, y = kV k ∧ H5 D = some (.dK kvs) ∧ kvs.length < sizeLine ∧ Nx (upd H5 D (.dK (putK kvs k z))) else Nx H3) := by
  refine ⟨fun i m H => m = n - i ∧ i ≤ n ∧ Pv i H, ⟨n, by simp, Nat.zero_le _, h0⟩, ?_⟩
  rintro i m H ⟨rfl, hi, p⟩
  have q := hG i H hi p
  by_cases hlt : i < n
  · refine .inr ⟨w.goes i H hlt q, Pv (i + 1), fun H' p' => ⟨n - (i + 1), by omega, rfl, hlt, p'⟩, fun x H' y => hs i x H H' hlt p (w.yields i H x H' hlt q y)⟩
  · have e : i = n := by omega
    subst e
    exact .inl ⟨w.stops H q, hd H p⟩
/-- an expression that makes a new dict -/
def DenM {κ α : Type} (kf : κ → Key) (K : PySem.W.Frag) (W : Wd) (XE : XK) (Γ : List Slot) (te : TE) (T : Ty α) (m : WP (List (κ × α))) : Prop := ∀ Qa Ea, m Qa Ea → ∀ σ H F, EvF W Γ σ H F → ∀ Qv : VK,
  (∀ as p kvs H', Qa as → PSt W H H' → H p = none → H' p = some (.dK kvs) → Dct kf T (vis (p :: (W.M0 ++ F)) H') kvs as → Qv (.ref p) H') → AftE K W F H XE Ea → te σ H Qv
structure DM {κ α : Type} (kf : κ → Key) (X : Cx) (W : Wd) (XE : XK) (Γ : List Slot) (e : Expr) (te : TE) (T : Ty α) (m : WP (List (κ × α))) : Prop where
  pe : PE X e te
  den : DenM kf X.K W XE Γ te T m
section
variable {X : Cx} {W : Wd} {Γ : List Slot} {XE : XK} {kx vx tg iter : Expr} {ifs : List Expr} {scope : Scope} {own : List (Str × Nat)} {wi : TI} {g : TG} {tt : TT} {tk tv : TE} {κ α β : Type} {Tk : Ty κ} {kf : κ → Key} {T : Ty α} {S : Ty β} {m : WP (List α)} {Γt : α → List Slot} {mt : α → WP Bool} {mk : α → WP κ} {mv : α → WP β}
theorem m_dc [Inhabited α] [DecidableEq κ] {K : PySem.W.Frag} {pos : Pos} (hK : X.K = K) (hk : KeyK Tk kf) (hc : X.calm = true) (hN : X.N.Nodup) (I : DI X W XE Γ tg iter wi T m) (ok : BlkOk X.N X.env.scope scope own) (hΓ : ∀ i ∈ own.map (·.2), (Γ[i]?.all Slot.imm) = true)
    (hg : ∀ (s : Shared) (H : Hp) (C : Addr) (cl : List (Str × Addr)) (fp : List Addr), PG (X.blk s H scope (compEnvC scope cl C X.env) fp) tg g) (hG : DenG' (unAll Γ (own.map (·.2))) (own.map (·.2)) K g T Γt)
    (ht : ∀ (W' : Wd), WIn W W' → ∀ (a : α) (s : Shared) (H : Hp) (C : Addr) (cl : List (Str × Addr)) (fp : List Addr), DTs (X.blk s H scope (compEnvC scope cl C X.env) fp) W' E0 (Γt a) ifs tt (mt a))
    (hk2 : ∀ (W' : Wd), WIn W W' → ∀ (a : α) (s : Shared) (H : Hp) (C : Addr) (cl : List (Str × Addr)) (fp : List Addr), DE (X.blk s H scope (compEnvC scope cl C X.env) fp) W' E0 (Γt a) kx tk Tk (mk a))
    (hv : ∀ (W' : Wd), WIn W W' → ∀ (a : α) (s : Shared) (H : Hp) (C : Addr) (cl : List (Str × Addr)) (fp : List Addr), DE (X.blk s H scope (compEnvC scope cl C X.env) fp) W' E0 (Γt a) vx tv S (mv a))
    (hs : ∀ x, foldedSetIterable iter X.env x = pure x := by intro _; rfl) :
    DM kf X W XE Γ (.DictComp kx vx [⟨tg, iter, ifs, 0⟩] scope pos) (tDc wi g tt tk tv (own.map (·.2))) S (bd m fun as => dcW (fun a => noE (bd (mt a) fun c => if c = true then bd (mk a) fun k => bd (mv a) fun b => rt (some (k, b)) else rt none)) as []) := by
  subst hK
  have w0 : WIn W W := ⟨fun _ m => m, fun _ h => h, fun _ _ _ _ _ _ h => h⟩
  refine ⟨pe_dc hc hN I.pi ok hg (fun s H C cl fp => (ht W w0 default s H C cl fp).pt) (fun s H C cl fp => (hk2 W w0 default s H C cl fp).pe) (fun s H C cl fp => (hv W w0 default s H C cl fp).pe) hs, ?_⟩
  intro Qa Ea hh σ H F ev Qv aq ae
  refine I.den _ _ hh σ H F ev _ (fun as J H1 ha pst wk => fun D hD => ?_) ae
  have ev1 := ev.step pst
  have hD0 : H D = none := by
    cases z : H D with
    | none => rfl
    | some o =>
      by_cases m0 : D ∈ W.M0
      · exact absurd hD (W.dom ev1.ok D m0)
      · have := pst.keep D o m0 z
        rw [hD] at this
        cases this
  have nD : D ∉ W.M0 ++ F := notin_new ev1.dom hD
  have denT : ∀ (W' : Wd), WIn W W' → ∀ (a : α), DenT X.K W' E0 (Γt a) tt (mt a) := fun W hw a => (ht W hw a {} H D [] []).den
  have denK : ∀ (W' : Wd), WIn W W' → ∀ (a : α), DenE X.K W' E0 (Γt a) tk Tk (mk a) := fun W hw a => (hk2 W hw a {} H D [] []).den
  have denV : ∀ (W' : Wd), WIn W W' → ∀ (a : α), DenE X.K W' E0 (Γt a) tv S (mv a) := fun W hw a => (hv W hw a {} H D [] []).den
  let f : α → WP (Option (κ × β)) := fun a => noE (bd (mt a) fun c => if c = true then bd (mk a) fun k => bd (mv a) fun b => rt (some (k, b)) else rt none)
  let I2 : Nat → Hp → Prop := fun i H2 => ∃ acc bs, H2 D = some (.dK acc) ∧ PSt W H1 H2 ∧ Dct kf S (vis (D :: (W.M0 ++ F)) H2) acc bs ∧ dcW f (as.drop i) bs Qa Ea
  have vD : ∀ {H2 : Hp}, PSt W H1 H2 → Same (vis (W.M0 ++ F) H1) (vis (D :: (W.M0 ++ F)) H2) := fun {H2} q b o e => by
    obtain ⟨nb, e⟩ := vis_some e
    have ne : b ≠ D := fun z => by rw [z, hD] at e; cases e
    rw [vis_out (by
      rw [List.mem_cons]
      rintro (z | z)
      · exact ne z
      · exact nb z)]
    exact q.keep b o (fun m => nb (List.mem_append_left _ m)) e
  refine dc_it wk I2 ⟨[], [], upd_same, PSt.same ev1.ok (same_new hD), trivial, by rw [List.drop_zero]; exact ha⟩ (fun i H2 _ ⟨_, _, _, q, _⟩ => fun b o e => by
    obtain ⟨nb, e⟩ := vis_some e
    exact q.keep b o (fun m => nb (List.mem_append_left _ m)) e) ?_ ?_
  · rintro i x H2 H3 hi ⟨acc, bs, g1, q, hr, hw⟩ ⟨s3, a, hai, hrep⟩
    have ev2 := ev1.step q
    have dom2 : ∀ b ∈ D :: W.M0, H2 b ≠ none := fun b mb => by
      rcases List.mem_cons.mp mb with z | z
      · rw [z, g1]; simp
      · exact W.dom ev2.ok b z
    let W2 : Wd := ⟨D :: W.M0, vis [D] W.H0, fun H' => W.ok H' ∧ H' D = some (.dK acc), fun {H'} h b mb => by
      rcases List.mem_cons.mp mb with z | z
      · rw [z, h.2]; simp
      · exact W.dom h.1 b z, fun {H' H''} h k1 => ⟨W.lok h.1 (fun b mb => k1 b (List.mem_cons_of_mem _ mb)), (k1 D List.mem_cons_self).trans h.2⟩⟩
    have win : WIn W W2 := ⟨fun b m => List.mem_cons_of_mem _ m, fun _ h => h.1, fun H5 H6 s0 h m k h6 => ⟨h6, k D _ (fun z => nD (List.mem_append_left _ (by rw [z]; exact m))) h.2⟩⟩
    have q3 : PSt W H2 H3 := PSt.same ev2.ok s3
    have ev3 : EvF W2 (unAll Γ (own.map (·.2))) (wipe σ (own.map (·.2))) H3 F := by
      have e0 := ev1.sl.unAll hΓ
      refine ⟨⟨q3.ok, s3 _ _ g1⟩, fun b o nb e => ?_, fun b mb => ?_, ev.nd, ?_⟩
      · obtain ⟨nd, e⟩ := vis_some e
        exact q3.keep b o (fun m => nb (List.mem_cons_of_mem _ m)) (ev2.frm b o (fun m => nb (List.mem_cons_of_mem _ m)) e)
      · have f := (ev2.step q3).fr b mb
        refine ⟨?_, ?_, f.2.2⟩
        · show vis [D] W.H0 b = none
          by_cases z : b ∈ [D]
          · exact vis_in z
          · rw [vis_out z]; exact f.1
        · rw [show W2.M0 = D :: W.M0 from rfl, List.mem_cons]
          rintro (z | z)
          · exact nD (List.mem_append_right _ (by rw [← z]; exact mb))
          · exact f.2.1 z
      · exact e0.1.mono (vD (q.trans q3)) fun b mb => ev1.own (q.trans q3) b mb
    have r := hrep (D :: (W.M0 ++ F)) (fun b mb => by
      rcases List.mem_cons.mp mb with z | z
      · rw [z, g1]; simp
      · exact ev2.dom b z) (vD q)
    rw [List.drop_eq_getElem_cons hi] at hw
    have ea : as[i] = a := by
      rw [List.getElem?_eq_getElem hi] at hai
      exact Option.some.inj hai
    rw [ea] at hw
    refine hG W2 a x _ H3 F ev3 r _ fun σ4 l4 o4 ev4 => ⟨(wipe_wipe l4 o4).trans wipe_idem, ?_⟩
    have toW : ∀ {H5 H6 : Hp}, PSt W H1 H5 → PSt W2 H5 H6 → PSt W H1 H6 := fun {H5 H6} t p => ⟨fun b o nb e => by
      have ne : b ≠ D := fun z => by rw [z, hD] at e; cases e
      exact p.keep b o (fun m => by
        rcases List.mem_cons.mp m with z | z
        · exact ne z
        · exact nb z) (t.keep b o nb e), p.ok.1⟩
    have hw : (bd (mt a) fun c => if c = true then bd (mk a) fun k => bd (mv a) fun b => rt (some (k, b)) else rt none) (fun o => (match o with
      | none => dcW f (as.drop (i + 1)) bs
      | some b => nd (bs.length < sizeLine) (dcW f (as.drop (i + 1)) (putA bs b.1 b.2))) Qa Ea) (fun _ => False) := hw
    refine denT W2 win a _ _ hw σ4 H3 F ev4 _ (fun c H4 hc p4 => ?_) (fun e c d H' he => he.elim)
    have ev5 := ev4.step p4
    have t4 := toW (q.trans q3) p4
    cases c with
    | false =>
      have hc := (show (if (false : Bool) = true then bd (mk a) fun k => bd (mv a) fun b => rt (some (k, b)) else rt none) _ _ from hc)
      rw [if_neg Bool.false_ne_true] at hc
      rw [if_neg Bool.false_ne_true]
      exact ⟨acc, bs, p4.ok.2, t4, hr.mono (vis_mono fun b o nb e => p4.keep b o (fun m => nb (by
        rcases List.mem_cons.mp m with z | z
        · rw [z]; exact List.mem_cons_self
        · exact List.mem_cons_of_mem _ (List.mem_append_left _ z))) (s3 b o e)), hc⟩
    | true =>
      have hc := (show (if (true : Bool) = true then bd (mk a) fun k => bd (mv a) fun b => rt (some (k, b)) else rt none) _ _ from hc)
      rw [if_pos rfl] at hc
      rw [if_pos rfl]
      refine denK W2 win a _ _ hc σ4 H4 F ev5 _ (fun k y H5 hb p5 r5 => ?_) (fun e c d H' he => he.elim)
      have ev6 := ev5.step p5
      have t5 := toW t4 p5
      refine denV W2 win a _ _ hb σ4 H5 F ev6 _ (fun b z H6 ⟨hl, hb⟩ p6 r6 => ?_) (fun e c d H' he => he.elim)
      have t6 := toW t5 p6
      have g6 := p6.ok.2
      have e5 : Same (vis (D :: (W.M0 ++ F)) H2) (vis (D :: (W.M0 ++ F)) (upd H6 D (.dK (putK acc (kf k) z)))) := vis_mono fun b o nb e => by
        have nDb : b ≠ D := fun z => nb (by rw [z]; exact List.mem_cons_self)
        rw [upd_ne nDb]
        have no : b ∉ W2.M0 := fun m => nb (by
          rcases List.mem_cons.mp m with z | z
          · rw [z]; exact List.mem_cons_self
          · exact List.mem_cons_of_mem _ (List.mem_append_left _ z))
        exact p6.keep b o no (p5.keep b o no (p4.keep b o no (s3 b o e)))
      have e6 : Same (vis (D :: (W.M0 ++ F)) H6) (vis (D :: (W.M0 ++ F)) (upd H6 D (.dK (putK acc (kf k) z)))) := vis_mono fun b o nb e => by
        rw [upd_ne fun z => nb (by rw [z]; exact List.mem_cons_self)]
        exact e
      refine ⟨acc, kf k, hk.is r5, g6, by rw [hr.len]; exact hl, putK acc (kf k) z, putA bs k b, upd_same, ⟨fun b o nb e => ?_, W.lok t6.ok (fun b mb => upd_ne fun z => nD (List.mem_append_left _ (by rw [← z]; exact mb)))⟩, Dct.put (fun h => hk.inj h) (S.mono e6 r6) (hr.mono e5), hb⟩
      rw [upd_ne (ne_of_none e hD)]
      exact t6.keep b o nb e
  · rintro H2 ⟨acc, bs, g1, q, hr, hw⟩
    rw [List.drop_length] at hw
    exact aq bs D acc H2 hw (pst.trans q) hD0 g1 hr
end
end Dn

namespace Dn
open PySem PySem.Spec PyProof.Rows L2 Wx NdefX RZ StX
section
variable {W : Wd} {Γ : List Slot} {σ : L2.St} {H : Hp} {F : List Addr} {α : Type}
theorem EvF.newOwn {H1 : Hp} {O : Own α} {i : Nat} {as : α} {p : Addr} (ev : EvF W Γ σ H F) (pst : PSt W H H1) (np : H p = none) (hp : H1 p ≠ none) (hr : O.rep (.ref p) (vis (p :: (W.M0 ++ F)) H1) H1 [p] as) (h : (Γ[i]?.any Slot.imm) = true) :
    ∃ F', EvF W (Γ.set i (.mu O as)) (σ.set i (some (.ref p))) H1 F' ∧ Same (vis (W.M0 ++ F) H) (vis (W.M0 ++ F') H1) := by
  obtain ⟨Fa, Fb, hF, k⟩ := ev.sl.own (O := O) (a := as) (x := V.ref p) h
  have fp : p ∉ W.M0 ++ F := notin_new ev.dom np
  have mem : ∀ b, b ∈ Fa ++ ([p] ++ Fb) ↔ b = p ∨ b ∈ F := fun b => by
    rw [hF]
    simp only [List.mem_append, List.mem_singleton]
    constructor
    · rintro (h | h | h)
      · exact .inr (.inl h)
      · exact .inl h
      · exact .inr (.inr h)
    · rintro (h | h | h)
      · exact .inr (.inl h)
      · exact .inl h
      · exact .inr (.inr h)
  have e1 : vis (p :: (W.M0 ++ F)) H1 = vis (W.M0 ++ (Fa ++ ([p] ++ Fb))) H1 := by
    funext b
    unfold vis
    have : b ∈ p :: (W.M0 ++ F) ↔ b ∈ W.M0 ++ (Fa ++ ([p] ++ Fb)) := by
      rw [List.mem_cons, List.mem_append, List.mem_append, mem]
      constructor
      · rintro (h | h | h)
        · exact .inr (.inl h)
        · exact .inl h
        · exact .inr (.inr h)
      · rintro (h | h | h)
        · exact .inr (.inl h)
        · exact .inl h
        · exact .inr (.inr h)
    by_cases q : b ∈ p :: (W.M0 ++ F)
    · rw [if_pos q, if_pos (this.mp q)]
    · rw [if_neg q, if_neg fun z => q (this.mpr z)]
  have sv : Same (vis (W.M0 ++ F) H) (vis (W.M0 ++ (Fa ++ ([p] ++ Fb))) H1) := by
    rw [← e1]
    intro b o e
    obtain ⟨nb, e⟩ := vis_some e
    have ne : b ≠ p := fun z => by rw [z, np] at e; cases e
    rw [vis_out (by
      rw [List.mem_cons]
      rintro (z | z)
      · exact ne z
      · exact nb z)]
    exact pst.keep b o (fun m => nb (List.mem_append_left _ m)) e
  rw [e1] at hr
  have q := k sv (fun b mb => ev.own pst b (by rw [hF]; exact mb)) (F1 := [p]) hr
  refine ⟨Fa ++ ([p] ++ Fb), ⟨pst.ok, fun b o nb e => pst.keep b o nb (ev.frm b o nb e), fun b mb => ?_, ?_, q⟩, sv⟩
  · rcases (mem b).mp mb with z | z
    · subst z
      refine ⟨?_, fun m => fp (List.mem_append_left _ m), hp⟩
      cases e : W.H0 b with
      | none => rfl
      | some o =>
        have := ev.frm b o (fun m => fp (List.mem_append_left _ m)) e
        rw [np] at this
        cases this
    · refine ⟨(ev.fr b z).1, (ev.fr b z).2.1, ?_⟩
      rw [ev.own pst b z]
      exact (ev.fr b z).2.2
  · have nd := ev.nd
    rw [hF] at nd
    have e : (Fa ++ ([p] ++ Fb)).Perm (p :: (Fa ++ Fb)) := List.perm_middle
    exact e.symm.nodup (List.nodup_cons.mpr ⟨fun m => fp (List.mem_append_right _ (by rw [hF]; exact m)), nd⟩)
end
section
variable {X : Cx} {s l ρ : Type} {W : Wd} {XE : XK} {Γ : List Slot} {Γ' : s → List Slot} {ΓL : l → List Slot} {R : Ty ρ} {st : Stmt} {ss : List Stmt} {ts : TS} {e b tg : Expr} {te tb : TE} {pos : Pos} {κ α : Type} {kf : κ → Key} {Tk : Ty κ} {T : Ty α} {m : WP (List (κ × α))}
/-- name = a new dict -/
theorem s_newD {i : Nat} {k : List (κ × α) → SB s l ρ} (p : PE X e te → PS X st (tAsg te (gName i))) (A : DM kf X W XE Γ e te T m) (h : (Γ[i]?.any Slot.imm) = true) (B : ∀ u, DS X W XE (Γ.set i (.mu (ownD kf T) u)) ss ts Γ' ΓL R (k u)) :
    DS X W XE Γ (st :: ss) (tSeq (tAsg te (gName i)) ts) Γ' ΓL R (seS m k) :=
  ⟨pss_cons (p A.pe) (B []).ps, fun Z hZ σ H F ev D M => A.den _ _ hZ σ H F ev _ (fun as q kvs H1 ha pst np hp hr => by
    obtain ⟨F', ev2, sv⟩ := ev.newOwn (O := ownD kf T) pst np (by rw [hp]; simp) ⟨q, kvs, rfl, rfl, hp, hr⟩ h
    exact (B as).den Z ha _ H1 F' ev2 D (M.up sv)) (M.aft ev)⟩
def getW {κ α : Type} [DecidableEq κ] (m : List (κ × α)) (k : κ) : WP α := fun Q _ => ∃ a, getA m k = some a ∧ Q a
/-- d[k] -/
theorem d_getD [DecidableEq κ] {i : Nat} {m : List (κ × α)} {mb : WP κ} (h : Γ[i]? = some (.mu (ownD kf T) m)) (hk : KeyK Tk kf) (hu : X.A.units + 64 < cLine) (po : PE X e (tVar i)) (B : DE X W XE Γ b tb Tk mb) (hs : NoSl b) :
    DE X W XE Γ (.Subscript e b pos) (tDGet (tVar i) tb) T (bd mb fun k => getW m k) :=
  ⟨pe_dget (by omega) po B.pe hs, fun Qa Ea hh σ H F ev Qv aq ae => by
    obtain ⟨x, Fa, F1, Fb, hF, hx, ⟨p, kvs, rfl, rfl, hp, hr⟩, _, _⟩ := ev.sl.split h
    refine ⟨_, hx, B.den _ _ hh σ H F ev _ (fun k y H1 ⟨a, ha, hQ⟩ pst r1 => ?_) ae⟩
    have mp : p ∈ F := by rw [hF]; simp
    have hp1 : H1 p = some (.dK kvs) := (ev.own pst p mp).trans hp
    rcases (hr.mono pst.vis).get (fun h => hk.inj h) (k := k) with ⟨_, z⟩ | ⟨v, a', e1, e2, r⟩
    · rw [z] at ha
      cases ha
    · rw [e2] at ha
      cases ha
      refine ⟨p, v, rfl, ?_, aq a v H1 hQ pst r⟩
      rw [hk.is r1, ← e1]
      exact DGet.k hp1⟩
/-- for k in a locked dict -/
theorem i_keysZ {m : WP (List (κ × α))} (hk : KeyK Tk kf) (A : DE X W XE Γ e te (tyZ kf T) m) : DI X W XE Γ tg e (iKeys te) Tk (bd m fun m => rt (m.map (·.1))) := ⟨pi_keys A.pe, fun Qa Ea hh σ H F ev R k ae => A.den _ _ hh σ H F ev _ (fun as x H1 ha pst ⟨p, o, kvs, e, hs, r⟩ =>
  ⟨p, o, e, .inl ⟨kvs, vis_le _ _ hs, k _ _ H1 ha pst (by
    unfold Wk
    rw [List.length_map, ← r.len]
    refine walk_keys.mono (fun H s => s _ _ hs) fun i H x H2 hi gs ⟨e, kk, v, hx, ex⟩ => ?_
    subst e
    obtain ⟨en, q1, q2, _⟩ := r.at hx
    refine ⟨Same.refl _, en.1, by rw [List.getElem?_map, q1]; rfl, fun L d s => ?_⟩
    rw [ex, q2]
    exact hk.re _)⟩⟩) ae⟩
end
end Dn

namespace Dn
open PySem PySem.Spec PyProof.Rows L2 Wx NdefX RZ StX
section
variable {K : PySem.W.Frag} {α : Type} {T : Ty α}
/-- an error that keeps one value, of whatever kind -/
theorem err1R {x : Str} {sp : Sp} {n : Str} {E : α → Ex} (hsp : ∀ (a : Addr) (v : V) (H : Hp) (Q : VK) (XE : XK), H a = some (exo a (cl K x) none) → InitLeaves H a (cl K x) [(n, v)] Q → sp [.ref a, v] H Q XE)
    (hE : ∀ (u : α) (v : V) (d : Addr) (H : Hp), T.rep v H u → H d = some (.xd [(n, v)]) → ExRep K (E u) (.ref (cl K x)) (some d) H) : ErrOk K x sp (tsC T tsN) (fun _ => True) (fun u => E u.1) :=
  ⟨fun L H1 vs u dom ⟨v, r, e, hv, hr⟩ hc => by
    have hr : r = [] := hr
    subst hr e
    refine ⟨by show 1 ≤ 1000; decide, fun a na Q XE k => hsp a _ _ Q XE upd_same (leaves_of (K := K) na fun H2 dx nd ne keep ea ed => k _ H2 H2 dx nd ne keep ea ed fun H' s _ hd => hE _ _ _ _ (T.mono (vis_same s) hv) ?_)⟩
    rw [vis_out (notin_new dom nd)]
    exact hd⟩
theorem err_std {x : Str} {sp : Sp} {E : StdV → Ex} {f : α → StdV} (hsp : ∀ (a : Addr) (v : V) (H : Hp) (Q : VK) (XE : XK), H a = some (exo a (cl K x) none) → InitLeaves H a (cl K x) [("standing", v)] Q → sp [.ref a, v] H Q XE)
    (hT : ∀ v H u, T.rep v H u → (tyStd K).rep v H (f u)) (hE : ∀ (u : StdV) (v : V) (d : Addr) (H : Hp), (tyStd K).rep v H u → H d = some (.xd [("standing", v)]) → ExRep K (E u) (.ref (cl K x)) (some d) H) :
    ErrOk K x sp (tsC T tsN) (fun _ => True) (fun u => E (f u.1)) := err1R hsp fun u v d H r h => hE _ _ _ _ (hT _ _ _ r) h
theorem ex_bst (u : StdV) (v : V) (d : Addr) (H : Hp) (r : (tyStd K).rep v H u) (h : H d = some (.xd [("standing", v)])) : ExRep K (.standing u) (.ref (cl K "BadStanding")) (some d) H := ⟨rfl, d, _, rfl, h, v, rfl, r⟩
theorem ex_nsf (u : StdV) (v : V) (d : Addr) (H : Hp) (r : (tyStd K).rep v H u) (h : H d = some (.xd [("standing", v)])) : ExRep K (.notSafe u) (.ref (cl K "NotSafe")) (some d) H := ⟨rfl, d, _, rfl, h, v, rfl, r⟩
/-- a standing as the class text has it -/
theorem std_of {C : Addr} {β : Type} {g : β → ((Unit × List Int) × Int) × Int} {v : V} {H : Hp} {u : β} (h : (tyM (tyC C ["levels", "tank", "mood"] (tsS (tsS (tsS tsN (tyT K tyI)) tyI) tyI)) g).rep v H u) :
    (tyM (tyC C ["levels", "tank", "mood"] (ts3 (tyT K tyI) tyI tyI)) (fun s : StdV => (s.levels, s.tank, s.mood))).rep v H ⟨(g u).1.1.2, (g u).1.2, (g u).2⟩ := by
  obtain ⟨p, dx, vs, e, hp, hl, y1, m, e1, ⟨y2, t, e2, ⟨y3, l, e3, e4, h1⟩, h2⟩, h3⟩ := h
  have e4 : y3 = [] := e4
  subst e4 e3 e2 e1
  exact ⟨p, dx, _, e, hp, hl, l, t, m, rfl, h1, h2, h3⟩
end
section
variable {α : Type} {T : Ty α}
/-- what is not None -/
def unO {α : Type} (o : Option α) : WP α := fun Q _ => ∃ w, o = some w ∧ Q w
theorem of_unO (u : Option α) (Qa : α → Prop) (Ea : Ex → Prop) (h : unO u Qa Ea) : ∃ w, Qa w ∧ ∀ x H, (tyO T).rep x H u → T.rep x H w := let ⟨w, e, q⟩ := h; ⟨w, q, fun x H r => by subst e; exact r.2⟩
end
end Dn

namespace Dn
open PySem PySem.Spec PyProof.Rows L2 Wx NdefX RZ StX
/-! ### [e for x in xs if s for y in ys if t] -/
def lc2W {α β γ : Type} (mt : α → WP Bool) (ms : α → WP (List β)) (f : α → β → WP (Option γ)) : List α → List γ → WP (List γ)
  | [], acc => rt acc
  | a :: as, acc => bd (mt a) fun c => if c = true then bd (ms a) fun bs => bd (lcW (f a) bs acc) fun acc' => lc2W mt ms f as acc' else lc2W mt ms f as acc
section
variable {X : Cx} {W : Wd} {Γ : List Slot} {XE : XK} {elt tg iter tg1 iter1 : Expr} {ifs ifs1 : List Expr} {scope : Scope} {own : List (Str × Nat)} {vs1 : List Nat} {wi wi1 : TI} {g g1 : TG} {tt tt1 : TT} {te : TE} {α β γ : Type} {T : Ty α} {S : Ty β} {R : Ty γ} {m : WP (List α)} {Γt : α → List Slot} {Γu : α → β → List Slot} {mt : α → WP Bool} {ms : α → WP (List β)} {mu : α → β → WP Bool} {me : α → β → WP γ}
theorem n_lc2 [Inhabited α] [Inhabited β] {K : PySem.W.Frag} {pos : Pos} (hK : X.K = K) (hc : X.calm = true) (hN : X.N.Nodup) (I : DI X W XE Γ tg iter wi T m) (ok : BlkOk X.N X.env.scope scope own) (hv : ∀ i ∈ vs1, i ∈ own.map (·.2)) (hΓ : ∀ i ∈ own.map (·.2), (Γ[i]?.all Slot.imm) = true) (hΓ1 : ∀ a, ∀ i ∈ vs1, ((Γt a)[i]?.all Slot.imm) = true)
    (hg : ∀ (s : Shared) (H : Hp) (C : Addr) (cl : List (Str × Addr)) (fp : List Addr), PG (X.blk s H scope (compEnvC scope cl C X.env) fp) tg g) (hG : DenG' (unAll Γ (own.map (·.2))) (own.map (·.2)) K g T Γt)
    (ht : ∀ (W' : Wd), WIn W W' → ∀ (a : α) (s : Shared) (H : Hp) (C : Addr) (cl : List (Str × Addr)) (fp : List Addr), DTs (X.blk s H scope (compEnvC scope cl C X.env) fp) W' E0 (Γt a) ifs tt (mt a))
    (hi1 : ∀ (W' : Wd), WIn W W' → ∀ (a : α) (s : Shared) (H : Hp) (C : Addr) (cl : List (Str × Addr)) (fp : List Addr), DI (X.blk s H scope (compEnvC scope cl C X.env) fp) W' E0 (Γt a) tg1 iter1 wi1 S (ms a))
    (hg1 : ∀ (s : Shared) (H : Hp) (C : Addr) (cl : List (Str × Addr)) (fp : List Addr), PG (X.blk s H scope (compEnvC scope cl C X.env) fp) tg1 g1) (hG1 : ∀ a, DenG' (unAll (Γt a) vs1) vs1 K g1 S (Γu a))
    (ht1 : ∀ (W' : Wd), WIn W W' → ∀ (a : α) (b : β) (s : Shared) (H : Hp) (C : Addr) (cl : List (Str × Addr)) (fp : List Addr), DTs (X.blk s H scope (compEnvC scope cl C X.env) fp) W' E0 (Γu a b) ifs1 tt1 (mu a b))
    (he : ∀ (W' : Wd), WIn W W' → ∀ (a : α) (b : β) (s : Shared) (H : Hp) (C : Addr) (cl : List (Str × Addr)) (fp : List Addr), DE (X.blk s H scope (compEnvC scope cl C X.env) fp) W' E0 (Γu a b) elt te R (me a b))
    (hs : ∀ x, foldedSetIterable iter X.env x = pure x := by intro _; rfl) (hs1 : ∀ env x, foldedSetIterable iter1 env x = pure x := by intro _ _; rfl) :
    DN X W XE Γ (.ListComp elt [⟨tg, iter, ifs, 0⟩, ⟨tg1, iter1, ifs1, 0⟩] scope pos) (tLc2 wi g tt wi1 g1 tt1 te (own.map (·.2)) vs1) R
      (bd m fun as => noE (lc2W mt ms (fun a b => bd (mu a b) fun c => if c = true then bd (me a b) fun r => rt (some r) else rt none) as [])) := by
  subst hK
  have w0 : WIn W W := ⟨fun _ m => m, fun _ h => h, fun _ _ _ _ _ _ h => h⟩
  refine ⟨pe_lc2 hc hN I.pi ok hv hg (fun s H C cl fp => (ht W w0 default s H C cl fp).pt) (fun s H C cl fp => (hi1 W w0 default s H C cl fp).pi) hg1 (fun s H C cl fp => (ht1 W w0 default default s H C cl fp).pt) (fun s H C cl fp => (he W w0 default default s H C cl fp).pe) hs hs1, ?_⟩
  intro Qa Ea hh σ H F ev Qv aq ae
  refine I.den _ _ hh σ H F ev _ (fun as J H1 ha pst wk => fun D hD => ?_) ae
  have ev1 := ev.step pst
  have hD0 : H D = none := by
    cases z : H D with
    | none => rfl
    | some o =>
      by_cases m0 : D ∈ W.M0
      · exact absurd hD (W.dom ev1.ok D m0)
      · have := pst.keep D o m0 z
        rw [hD] at this
        cases this
  have nD : D ∉ W.M0 ++ F := notin_new ev1.dom hD
  have denT : ∀ (W' : Wd), WIn W W' → ∀ (a : α), DenT X.K W' E0 (Γt a) tt (mt a) := fun W hw a => (ht W hw a {} H D [] []).den
  have denS : ∀ (W' : Wd), WIn W W' → ∀ (a : α), DenI X.K W' E0 (Γt a) wi1 S (ms a) := fun W hw a => (hi1 W hw a {} H D [] []).den
  have denU : ∀ (W' : Wd), WIn W W' → ∀ (a : α) (b : β), DenT X.K W' E0 (Γu a b) tt1 (mu a b) := fun W hw a b => (ht1 W hw a b {} H D [] []).den
  have denE : ∀ (W' : Wd), WIn W W' → ∀ (a : α) (b : β), DenE X.K W' E0 (Γu a b) te R (me a b) := fun W hw a b => (he W hw a b {} H D [] []).den
  let f : α → β → WP (Option γ) := fun a b => bd (mu a b) fun c => if c = true then bd (me a b) fun r => rt (some r) else rt none
  let No : Ex → Prop := fun _ => False
  let I2 : Nat → Hp → Prop := fun i H2 => ∃ acc bs, H2 D = some (.lst acc) ∧ PSt W H1 H2 ∧ Reps R.rep (vis (D :: (W.M0 ++ F)) H2) acc bs ∧ lc2W mt ms f (as.drop i) bs Qa No
  have vD : ∀ {H2 : Hp}, PSt W H1 H2 → Same (vis (W.M0 ++ F) H1) (vis (D :: (W.M0 ++ F)) H2) := fun {H2} q b o e => by
    obtain ⟨nb, e⟩ := vis_some e
    have ne : b ≠ D := fun z => by rw [z, hD] at e; cases e
    rw [vis_out (by
      rw [List.mem_cons]
      rintro (z | z)
      · exact ne z
      · exact nb z)]
    exact q.keep b o (fun m => nb (List.mem_append_left _ m)) e
  have vD2 : ∀ {H2 H3 : Hp}, PSt W H1 H2 → (∀ b o, b ∉ D :: W.M0 → H2 b = some o → H3 b = some o) → Same (vis (D :: (W.M0 ++ F)) H2) (vis (D :: (W.M0 ++ F)) H3) := fun {H2 H3} _ k => vis_mono fun b o nb e => k b o (fun m => nb (by
    rcases List.mem_cons.mp m with z | z
    · rw [z]; exact List.mem_cons_self
    · exact List.mem_cons_of_mem _ (List.mem_append_left _ z))) e
  -- the place of the block while the list holds acc
  let WD : List V → Wd := fun acc => ⟨D :: W.M0, vis [D] W.H0, fun H' => W.ok H' ∧ H' D = some (.lst acc), fun {H'} h b mb => by
      rcases List.mem_cons.mp mb with z | z
      · rw [z, h.2]; simp
      · exact W.dom h.1 b z, fun {H' H''} h k1 => ⟨W.lok h.1 (fun b mb => k1 b (List.mem_cons_of_mem _ mb)), (k1 D List.mem_cons_self).trans h.2⟩⟩
  have win : ∀ acc, WIn W (WD acc) := fun acc => ⟨fun b m => List.mem_cons_of_mem _ m, fun _ h => h.1, fun H5 H6 s0 h m k h6 => ⟨h6, k D _ (fun z => nD (List.mem_append_left _ (by rw [z]; exact m))) h.2⟩⟩
  have toW : ∀ {acc : List V} {H5 H6 : Hp}, PSt W H1 H5 → PSt (WD acc) H5 H6 → PSt W H1 H6 := fun {acc H5 H6} t p => ⟨fun b o nb e => by
    have ne : b ≠ D := fun z => by rw [z, hD] at e; cases e
    exact p.keep b o (fun m => by
      rcases List.mem_cons.mp m with z | z
      · exact ne z
      · exact nb z) (t.keep b o nb e), p.ok.1⟩
  -- an ev in one place is one in the next
  have evW : ∀ {acc acc' : List V} {Γ2 : List Slot} {τ : L2.St} {H5 H6 : Hp}, EvF (WD acc) Γ2 τ H5 F → W.ok H6 → H6 D = some (.lst acc') → (∀ b o, b ∉ D :: W.M0 → H5 b = some o → H6 b = some o) → EvF (WD acc') Γ2 τ H6 F := fun {acc acc' Γ2 τ H5 H6} e ok6 h6 k => by
    have ff : ∀ b ∈ F, H6 b = H5 b := fun b mb => by
      obtain ⟨_, n, x⟩ := e.fr b mb
      cases q : H5 b with
      | none => exact absurd q x
      | some o => exact k b o n q
    exact ⟨⟨ok6, h6⟩, fun b o nb x => k b o nb (e.frm b o nb x), fun b mb => ⟨(e.fr b mb).1, (e.fr b mb).2.1, by rw [ff b mb]; exact (e.fr b mb).2.2⟩, e.nd, e.sl.mono (vis_mono fun b o nb x => k b o (fun m => nb (List.mem_append_left _ m)) x) ff⟩
  refine lc2_it wk I2 ⟨[], [], upd_same, PSt.same ev1.ok (same_new hD), trivial, by rw [List.drop_zero]; exact ha⟩ (fun i H2 _ ⟨_, _, _, q, _⟩ => fun b o e => by
    obtain ⟨nb, e⟩ := vis_some e
    exact q.keep b o (fun m => nb (List.mem_append_left _ m)) e) (F := fun Nx σ2 H3 => wi1 σ2 H3 fun J1 H4 => ∃ W1 : Nat → Nat → Hp → Prop, (∃ m, W1 0 m H4) ∧ ∀ j k H, W1 j k H →
      (J1.stop j H ∧ Nx H) ∨ (J1.go j H ∧ ∃ Nx1 : Hp → Prop, (∀ H', Nx1 H' → ∃ k', k' < k ∧ W1 (j + 1) k' H') ∧ ∀ x H', J1.yld j H x H' → g1 x (wipe σ2 vs1) H' fun σ3 H5 => wipe σ3 vs1 = wipe σ2 vs1 ∧ tt1 σ3 H5 fun b H6 =>
        if b = true then te σ3 H6 fun y H7 => ∃ acc, H7 D = some (.lst acc) ∧ acc.length < sizeLine ∧ Nx1 (upd H7 D (.lst (acc ++ [y]))) else Nx1 H6)) ?_ ?_
  · rintro i x H2 H3 hi ⟨acc, bs, g1', q, hr, hw⟩ ⟨s3, a, hai, hrep⟩
    have ev2 := ev1.step q
    have q3 : PSt W H2 H3 := PSt.same ev2.ok s3
    have ev3 : EvF (WD acc) (unAll Γ (own.map (·.2))) (wipe σ (own.map (·.2))) H3 F := by
      have e0 := ev1.sl.unAll hΓ
      refine ⟨⟨q3.ok, s3 _ _ g1'⟩, fun b o nb e => ?_, fun b mb => ?_, ev.nd, ?_⟩
      · obtain ⟨nd, e⟩ := vis_some e
        exact q3.keep b o (fun m => nb (List.mem_cons_of_mem _ m)) (ev2.frm b o (fun m => nb (List.mem_cons_of_mem _ m)) e)
      · have f := (ev2.step q3).fr b mb
        refine ⟨?_, ?_, f.2.2⟩
        · show vis [D] W.H0 b = none
          by_cases z : b ∈ [D]
          · exact vis_in z
          · rw [vis_out z]; exact f.1
        · rw [show (WD acc).M0 = D :: W.M0 from rfl, List.mem_cons]
          rintro (z | z)
          · exact nD (List.mem_append_right _ (by rw [← z]; exact mb))
          · exact f.2.1 z
      · exact e0.1.mono (vD (q.trans q3)) fun b mb => ev1.own (q.trans q3) b mb
    have r := hrep (D :: (W.M0 ++ F)) (fun b mb => by
      rcases List.mem_cons.mp mb with z | z
      · rw [z, g1']; simp
      · exact ev2.dom b z) (vD q)
    rw [List.drop_eq_getElem_cons hi] at hw
    have ea : as[i] = a := by
      rw [List.getElem?_eq_getElem hi] at hai
      exact Option.some.inj hai
    rw [ea] at hw
    refine hG (WD acc) a x _ H3 F ev3 r _ fun σ4 l4 o4 ev4 => ⟨(wipe_wipe l4 o4).trans wipe_idem, ?_⟩
    have hw : (mt a) (fun c => (if c = true then bd (ms a) fun bs' => bd (lcW (f a) bs' bs) fun acc' => lc2W mt ms f (as.drop (i + 1)) acc' else lc2W mt ms f (as.drop (i + 1)) bs) Qa No) No := hw
    refine denT (WD acc) (win acc) a _ _ hw σ4 H3 F ev4 _ (fun c H4 hc p4 => ?_) (fun e c d H' he => he.elim)
    have ev5 := ev4.step p4
    have t4 := toW (q.trans q3) p4
    have hr4 : Reps R.rep (vis (D :: (W.M0 ++ F)) H4) acc bs := R.all (vD2 q fun b o nb e => p4.keep b o nb (s3 b o e)) hr
    cases c with
    | false =>
      rw [if_neg Bool.false_ne_true] at hc
      rw [if_neg Bool.false_ne_true]
      exact ⟨acc, bs, p4.ok.2, t4, hr4, hc⟩
    | true =>
      rw [if_pos rfl] at hc
      rw [if_pos rfl]
      refine denS (WD acc) (win acc) a _ _ hc σ4 H4 F ev5 _ (fun cs J1 H5 hb p5 wk1 => ?_) (fun e c d H' he => he.elim)
      have ev6 := ev5.step p5
      have t5 := toW t4 p5
      have hr5 : Reps R.rep (vis (D :: (W.M0 ++ F)) H5) acc bs := R.all (vD2 t4 fun b o nb e => p5.keep b o nb e) hr4
      have g5 := p5.ok.2
      -- the second clause
      refine lcIn_it wk1 (fun j H6 => ∃ acc2 bs2, H6 D = some (.lst acc2) ∧ W.ok H6 ∧ (∀ b o, b ∉ D :: W.M0 → H5 b = some o → H6 b = some o) ∧ Reps R.rep (vis (D :: (W.M0 ++ F)) H6) acc2 bs2 ∧ lcW (f a) (cs.drop j) bs2 (fun acc' => lc2W mt ms f (as.drop (i + 1)) acc' Qa No) No) ⟨acc, bs, g5, p5.ok.1, fun _ _ _ e => e, hr5, by rw [List.drop_zero]; exact hb⟩ (fun j H6 _ ⟨acc2, bs2, _, _, k, _⟩ => fun b o e => by
        obtain ⟨nb, e⟩ := vis_some e
        exact k b o (fun m => nb (List.mem_append_left _ m)) e) ?_ ?_
      · rintro j y H6 H7 hj ⟨acc2, bs2, g6, ok6, k6, hr6, hw6⟩ ⟨s7, b, hbj, hrep1⟩
        have t6 : PSt W H1 H6 := ⟨fun b o nb e => by
          have ne : b ≠ D := fun z => by rw [z, hD] at e; cases e
          exact k6 b o (fun m => by
            rcases List.mem_cons.mp m with z | z
            · exact ne z
            · exact nb z) (t5.keep b o nb e), ok6⟩
        have t7 : PSt W H1 H7 := t6.trans (PSt.same ok6 s7)
        have g7 := s7 _ _ g6
        have ev7 : EvF (WD acc2) (Γt a) σ4 H7 F := evW ev6 t7.ok g7 fun b o nb e => s7 _ _ (k6 b o nb e)
        have e7 : EvF (WD acc2) (unAll (Γt a) vs1) (wipe σ4 vs1) H7 F := ⟨ev7.ok, ev7.frm, ev7.fr, ev7.nd, (ev7.sl.unAll (hΓ1 a)).1⟩
        have r1 : S.rep y (vis (D :: (W.M0 ++ F)) H7) b := hrep1 (D :: (W.M0 ++ F)) (fun b mb => by
          rcases List.mem_cons.mp mb with z | z
          · rw [z, g6]; simp
          · exact (ev1.step t6).dom b z) (vis_mono fun b o nb e => k6 b o (fun m => nb (by
            rcases List.mem_cons.mp m with z | z
            · rw [z]; exact List.mem_cons_self
            · exact List.mem_cons_of_mem _ (List.mem_append_left _ z))) e)
        rw [List.drop_eq_getElem_cons hj] at hw6
        have eb : cs[j] = b := by
          rw [List.getElem?_eq_getElem hj] at hbj
          exact Option.some.inj hbj
        rw [eb] at hw6
        refine hG1 a (WD acc2) b y _ H7 F e7 r1 _ fun σ5 l5 o5 ev8 => ⟨(wipe_wipe l5 o5).trans wipe_idem, ?_⟩
        have hw6 : (mu a b) (fun c => (if c = true then bd (me a b) fun r => rt (some r) else rt none) (fun o => (match o with
          | none => lcW (f a) (cs.drop (j + 1)) bs2
          | some r => nd (bs2.length < sizeLine) (lcW (f a) (cs.drop (j + 1)) (bs2 ++ [r]))) (fun acc' => lc2W mt ms f (as.drop (i + 1)) acc' Qa No) No) No) No := hw6
        refine denU (WD acc2) (win acc2) a b _ _ hw6 σ5 H7 F ev8 _ (fun c H8 hc p8 => ?_) (fun e c d H' he => he.elim)
        have ev9 := ev8.step p8
        have t8 := toW t7 p8
        have k8 : ∀ b o, b ∉ D :: W.M0 → H6 b = some o → H8 b = some o := fun b o nb e => p8.keep b o nb (s7 _ _ e)
        have hr8 : Reps R.rep (vis (D :: (W.M0 ++ F)) H8) acc2 bs2 := R.all (vD2 t6 k8) hr6
        cases c with
        | false =>
          rw [if_neg Bool.false_ne_true] at hc
          rw [if_neg Bool.false_ne_true]
          exact ⟨acc2, bs2, p8.ok.2, p8.ok.1, fun b o nb e => k8 b o nb (k6 b o nb e), hr8, hc⟩
        | true =>
          rw [if_pos rfl] at hc
          rw [if_pos rfl]
          refine denE (WD acc2) (win acc2) a b _ _ hc σ5 H8 F ev9 _ (fun r z H9 ⟨hl, hb⟩ p9 r9 => ?_) (fun e c d H' he => he.elim)
          have t9 := toW t8 p9
          have g9 := p9.ok.2
          have k9 : ∀ b o, b ∉ D :: W.M0 → H6 b = some o → (upd H9 D (.lst (acc2 ++ [z]))) b = some o := fun b o nb e => by
            rw [upd_ne fun z => nb (by rw [z]; exact List.mem_cons_self)]
            exact p9.keep b o nb (k8 b o nb e)
          have e6 : Same (vis (D :: (W.M0 ++ F)) H9) (vis (D :: (W.M0 ++ F)) (upd H9 D (.lst (acc2 ++ [z])))) := vis_mono fun b o nb e => by
            rw [upd_ne fun z => nb (by rw [z]; exact List.mem_cons_self)]
            exact e
          exact ⟨acc2, g9, by rw [hr8.len]; exact hl, acc2 ++ [z], bs2 ++ [r], upd_same, W.lok p9.ok.1 (fun b mb => upd_ne fun z => nD (List.mem_append_left _ (by rw [← z]; exact mb))), fun b o nb e => k9 b o nb (k6 b o nb e), Reps.app (R.all (vD2 t6 k9) hr6) (Reps.one (R.mono e6 r9)), hb⟩
      · rintro H6 ⟨acc2, bs2, g6, ok6, k6, hr6, hw6⟩
        rw [List.drop_length] at hw6
        exact ⟨acc2, bs2, g6, ⟨fun b o nb e => by
          have ne : b ≠ D := fun z => by rw [z, hD] at e; cases e
          exact k6 b o (fun m => by
            rcases List.mem_cons.mp m with z | z
            · exact ne z
            · exact nb z) (t5.keep b o nb e), ok6⟩, hr6, hw6⟩
  · rintro H2 ⟨acc, bs, g1', q, hr, hw⟩
    rw [List.drop_length] at hw
    exact aq bs D acc H2 hw (pst.trans q) hD0 g1' hr
end
section
variable {X : Cx} {W : Wd} {Γ : List Slot} {XE : XK} {e st : Expr} {te ts : TE} {p2 pos : Pos} {α : Type} {T : Ty α} {m : WP (List α)}
/-- xs[::-1] -/
theorem reps_rev {H : Hp} : ∀ {xs : List V} {as : List α}, Reps T.rep H xs as → Reps T.rep H xs.reverse as.reverse
  | [], [], _ => trivial
  | x :: xs, a :: as, ⟨h, t⟩ => by
    rw [List.reverse_cons, List.reverse_cons]
    exact Reps.app (reps_rev t) (Reps.one h)
  | [], _ :: _, h => by cases h
  | _ :: _, [], h => by cases h
theorem n_rev {K : PySem.W.Frag} (hK : X.K = K) (A : DE X W XE Γ e te (tyL T) m) (hs : PE X st (tUn (rU fun i => .int (-i)) (tC (.int 1))) := by exact pe_un un_neg pe_int) : DN X W XE Γ (.Subscript e (.Slice none none (some st) p2) pos) (tRev K te (tUn (rU fun i => .int (-i)) (tC (.int 1)))) T (bd m fun as => rt as.reverse) := by
  subst hK
  exact ⟨pe_rev A.pe hs, fun Qa Ea hh σ H F ev Qv aq ae => A.den _ _ hh σ H F ev _ (fun u x H1 hu pst ⟨p, xs, e, hp, r⟩ => ⟨1, rfl, p, xs, rfl, e, SqL.of (vis_le _ _ hp), fun q hq => by
    have s : Same H1 (upd H1 q (.lst xs.reverse)) := same_new hq
    have ev1 := ev.step pst
    have hq0 : H q = none := by
      cases z : H q with
      | none => rfl
      | some o =>
        by_cases m0 : q ∈ W.M0
        · exact absurd hq (W.dom ev1.ok q m0)
        · have := pst.keep q o m0 z
          rw [hq] at this
          cases this
    refine aq _ q _ _ hu (pst.trans (PSt.same pst.ok s)) hq0 upd_same (T.all (fun b o e => ?_) (reps_rev r))
    obtain ⟨nb, e⟩ := vis_some e
    have ne : b ≠ q := fun z => by rw [z, hq] at e; cases e
    rw [vis_out (by
      rw [List.mem_cons]
      rintro (z | z)
      · exact ne z
      · exact nb z), upd_ne ne]
    exact e⟩) ae⟩
end
end Dn

set_option maxHeartbeats 1000000
namespace Dn
open PySem PySem.Spec PyProof.Rows L2 Wx NdefX
/-! ### a list of one's own, read for a value that no list is part of -/
section
variable {W : Wd} {Γ : List Slot} {σ : L2.St} {H : Hp} {F : List Addr} {α : Type} {T : Ty α}
theorem EvF.freezeL {i : Nat} {xs : List α} (ev : EvF W Γ σ H F) (h : Γ[i]? = some (.mu (ownL T) xs)) : ∃ F', (∀ b ∈ F', b ∈ F) ∧ (∀ b ∈ F, b ∈ F' ∨ ∃ vs, H b = some (.lst vs)) ∧ EvF W (Γ.set i (.rp (tyL T) xs)) σ H F' := by
  obtain ⟨x, Fa, F1, Fb, hF, hx, ⟨p, vs, rfl, rfl, hp, hr⟩, _, k⟩ := ev.sl.split h
  have sub : ∀ b ∈ Fa ++ Fb, b ∈ F := fun b m => by
    rw [hF]
    rcases List.mem_append.mp m with q | q
    · exact List.mem_append_left _ q
    · exact List.mem_append_right _ (List.mem_append_right _ q)
  have hid : ∀ b ∈ F, b ∈ Fa ++ Fb ∨ ∃ vs, H b = some (.lst vs) := fun b m => by
    rw [hF] at m
    rcases List.mem_append.mp m with q | q
    · exact .inl (List.mem_append_left _ q)
    · rcases List.mem_append.mp q with q | q
      · rw [List.mem_singleton.mp q]; exact .inr ⟨vs, hp⟩
      · exact .inl (List.mem_append_right _ q)
  have nd := ev.nd
  rw [hF] at nd
  have hsub : (Fa ++ Fb).Sublist (Fa ++ ([p] ++ Fb)) := (List.Sublist.refl _).append (List.sublist_append_right _ _)
  have np : p ∉ W.M0 ++ (Fa ++ Fb) := fun m => by
    rcases List.mem_append.mp m with q | q
    · exact (ev.fr p (by rw [hF]; simp)).2.1 q
    · have e : (Fa ++ ([p] ++ Fb)).Perm (p :: (Fa ++ Fb)) := List.perm_middle
      exact (List.nodup_cons.mp (e.nodup nd)).1 q
  have s : Same (vis (W.M0 ++ F) H) (vis (W.M0 ++ (Fa ++ Fb)) H) := vis_less fun b m => by
    rcases List.mem_append.mp m with q | q
    · exact List.mem_append_left _ q
    · exact List.mem_append_right _ (sub b q)
  have q := k s (fun _ _ => rfl) (T := tyL T) (a' := xs) (x' := .ref p) ⟨p, vs, rfl, (by rw [vis_out np]; exact hp), T.all s hr⟩
  rw [set_self hx] at q
  exact ⟨Fa ++ Fb, sub, hid, ev.ok, ev.frm, fun b m => ev.fr b (sub b m), nd.sublist hsub, q⟩
end
/-- kinds that no plain list is part of -/
def NoL {α : Type} (T : Ty α) : Prop := ∀ (x : V) (H H' : Hp) (a : α), (∀ b o, H b = some o → H' b = some o ∨ ∃ vs, o = .lst vs) → T.rep x H a → T.rep x H' a
def NoLS {α : Type} (T : TyS α) : Prop := ∀ (x : List V) (H H' : Hp) (a : α), (∀ b o, H b = some o → H' b = some o ∨ ∃ vs, o = .lst vs) → T.rep x H a → T.rep x H' a
theorem noL_flat {α : Type} {T : Ty α} (h : Flat T) : NoL T := fun x H H' a _ r => h r
theorem noL_reps {α : Type} {T : Ty α} (h : NoL T) {H H' : Hp} (k : ∀ b o, H b = some o → H' b = some o ∨ ∃ vs, o = .lst vs) {xs : List V} {as : List α} (r : Reps T.rep H xs as) : Reps T.rep H' xs as := r.imp fun x a q => h x H H' a k q
theorem noL_sqT {K : PySem.W.Frag} {H H' : Hp} {p : Addr} {xs : List V} (k : ∀ b o, H b = some o → H' b = some o ∨ ∃ vs, o = .lst vs) (h : SqT K H p xs) : SqT K H' p xs := h.imp (fun r => r.imp (fun q => (k _ _ q).elim id fun ⟨_, z⟩ => (by cases z)) fun ⟨o, q⟩ => ⟨o, (k _ _ q).elim id fun ⟨_, z⟩ => (by cases z)⟩) id
theorem noL_T {K : PySem.W.Frag} {α : Type} {T : Ty α} (h : NoL T) : NoL (tyT K T) := fun x H H' a k ⟨p, xs, e, hp, r⟩ => ⟨p, xs, e, noL_sqT k hp, noL_reps h k r⟩
theorem noLS_N : NoLS tsN := fun x H H' a _ r => r
theorem noLS_S {α β : Type} {S : TyS β} {T : Ty α} (hs : NoLS S) (ht : NoL T) : NoLS (tsS S T) := fun x H H' a k ⟨ys, v, e, h, q⟩ => ⟨ys, v, e, hs _ _ _ _ k h, ht _ _ _ _ k q⟩
theorem noL_C {α β : Type} {C : Addr} {fs : List Str} {S : TyS α} {f : β → α} (h : NoLS S) : NoL (tyM (tyC C fs S) f) := fun x H H' a k ⟨p, dx, vs, e, hp, hl, r⟩ => ⟨p, dx, vs, e, (k _ _ hp).elim id fun ⟨_, z⟩ => (by cases z), hl, h _ _ _ _ k r⟩
section
variable {X : Cx} {W : Wd} {Γ : List Slot} {XE : XK} {e : Expr} {te : TE} {α β : Type} {T : Ty α}
theorem d_borrowN {i : Nat} {xs : List α} {T2 : Ty β} {m : WP β} (hz : NoL T2) (h : Γ[i]? = some (.mu (ownL T) xs)) (A : DE X W XE (Γ.set i (.rp (tyL T) xs)) e te T2 m) : DE X W XE Γ e te T2 (noE m) := ⟨A.pe, fun Qa Ea hh σ H F ev Qv aq ae => by
    obtain ⟨F', sub, hid, q⟩ := ev.freezeL h
    refine A.den _ _ hh σ H F' q Qv (fun a x H' ha p r => aq a x H' ha p (hz _ _ _ _ (fun b o e => ?_) r)) fun e c d H' he p r => he.elim
    obtain ⟨nb, e⟩ := vis_some e
    by_cases m : b ∈ F
    · rcases hid b m with z | ⟨vs, z⟩
      · exact absurd (List.mem_append_right _ z) nb
      · have := p.keep b _ (ev.fr b m).2.1 z
        rw [this] at e
        cases e
        exact .inr ⟨_, rfl⟩
    · refine .inl ?_
      rw [vis_out fun z => (List.mem_append.mp z).elim (fun z => nb (List.mem_append_left _ z)) m]
      exact e⟩
end
section
variable {X : Cx} {s l ρ : Type} {W : Wd} {XE : XK} {Γ : List Slot} {Γ' : s → List Slot} {ΓL : l → List Slot} {R : Ty ρ} {st : Stmt} {ss : List Stmt} {ts : TS} {α : Type} {T : Ty α}
/-- xs.clear() -/
theorem s_clear {i : Nat} {as : List α} {k : List α → SB s l ρ} (p : PS X st (tDrop (tBM0 X.K "list" rClear (tVar i)))) (h : Γ[i]? = some (.mu (ownL T) as))
    (B : ∀ bs, DS X W XE (Γ.set i (.mu (ownL T) bs)) ss ts Γ' ΓL R (k bs)) : DS X W XE Γ (st :: ss) (tSeq (tDrop (tBM0 X.K "list" rClear (tVar i))) ts) Γ' ΓL R (k []) :=
  ⟨pss_cons p (B []).ps, fun Z hZ σ H F ev D M => by
    obtain ⟨p, vs, hx, hp, mp, hr, kk⟩ := ev.list h
    obtain ⟨ev2, sv⟩ := kk [] [] (by constructor)
    exact ⟨_, hx, .inl ⟨rfl, _, SqL.of hp⟩, p, vs, rfl, rfl, hp, (B _).den Z hZ σ _ F ev2 D (M.up sv)⟩⟩
end
end Dn

set_option maxHeartbeats 1000000
namespace Dn
open PySem PySem.Spec PyProof.Rows L2 Wx NdefX
/-! ### a dict of one's own that is changed -/
section
variable {W : Wd} {Γ : List Slot} {σ : L2.St} {H : Hp} {F : List Addr} {κ α : Type} {kf : κ → Key} {T : Ty α}
theorem EvF.dict {i : Nat} {m : List (κ × α)} (ev : EvF W Γ σ H F) (h : Γ[i]? = some (.mu (ownD kf T) m)) : ∃ p kvs, σ[i]? = some (some (.ref p)) ∧ H p = some (.dK kvs) ∧ p ∈ F ∧ Dct kf T (vis (W.M0 ++ F) H) kvs m ∧
    ∀ ws m', Dct kf T (vis (W.M0 ++ F) H) ws m' → EvF W (Γ.set i (.mu (ownD kf T) m')) σ (upd H p (.dK ws)) F ∧ Same (vis (W.M0 ++ F) H) (vis (W.M0 ++ F) (upd H p (.dK ws))) := by
  obtain ⟨y, Fa, F1, Fb, hF, hx, ⟨p, vs, rfl, rfl, hp, hr⟩, k1, _⟩ := ev.sl.split h
  have mp : p ∈ F := by rw [hF]; simp
  refine ⟨p, vs, hx, hp, mp, hr, fun ws bs hw => ?_⟩
  have nd := ev.nd
  rw [hF] at nd
  have nq : p ∉ Fa ++ Fb := by
    have e : (Fa ++ ([p] ++ Fb)).Perm (p :: (Fa ++ Fb)) := List.perm_middle
    exact (List.nodup_cons.mp (e.nodup nd)).1
  have fq := ev.fr p mp
  have keep : ∀ {b : Addr}, b ≠ p → (upd H p (.dK ws)) b = H b := fun nb => upd_ne nb
  have sv : Same (vis (W.M0 ++ F) H) (vis (W.M0 ++ F) (upd H p (.dK ws))) := vis_mono fun b o nb e => by
    rw [keep fun z => nb (by rw [z]; exact List.mem_append_right _ mp)]
    exact e
  have q1 := k1 sv (fun b mb => keep fun z => nq (z ▸ mb)) (O' := ownD kf T) (a' := bs) (x' := V.ref p) (F1' := [p]) ⟨p, ws, rfl, rfl, upd_same, hw.mono sv⟩
  rw [set_self hx] at q1
  refine ⟨⟨W.loc ev.ok (fun b mb => keep fun z => fq.2.1 (z ▸ mb)) (fun b o u' e => ?_), fun b o nb e => ?_, fun b mb => ⟨(ev.fr b mb).1, (ev.fr b mb).2.1, ?_⟩, ev.nd, ?_⟩, sv⟩
  · rw [keep (fun z => by rw [z, hp] at e; cases e)]
    exact e
  · rw [keep (fun z => by rw [z, fq.1] at e; cases e)]
    exact ev.frm b o nb e
  · by_cases z : b = p
    · rw [z, upd_same]
      simp
    · rw [keep z]
      exact (ev.fr b mb).2.2
  · rw [hF]
    rw [hF] at q1
    exact q1
end
section
variable {X : Cx} {s l ρ : Type} {W : Wd} {XE : XK} {Γ : List Slot} {Γ' : s → List Slot} {ΓL : l → List Slot} {R : Ty ρ} {st : Stmt} {ss : List Stmt} {ts : TS} {e b tg : Expr} {te tb : TE} {pos : Pos} {κ α : Type} {kf : κ → Key} {Tk : Ty κ} {T : Ty α} {m2 : WP α}
def puD {s l ρ κ α : Type} [DecidableEq κ] (m : List (κ × α)) (mv : WP α) (mk : WP κ) (k : List (κ × α) → SB s l ρ) : SB s l ρ := fun D => mv (fun u => mk (fun j => m.length < sizeLine ∧ k (putA m j u) D) D.ex) D.ex
/-- d[k] = e -/
theorem s_putD [DecidableEq κ] {i : Nat} {m : List (κ × α)} {mb : WP κ} {k : List (κ × α) → SB s l ρ} (hk : KeyK Tk kf) (p : PE X e te → PE X b tb → PS X st (tAsg te (gSub (tVar i) tb rSetD))) (h : Γ[i]? = some (.mu (ownD kf T) m)) (A : DE X W XE Γ e te T m2) (Bi : DE X W XE Γ b tb Tk mb)
    (B : ∀ bs, DS X W XE (Γ.set i (.mu (ownD kf T) bs)) ss ts Γ' ΓL R (k bs)) :
    DS X W XE Γ (st :: ss) (tSeq (tAsg te (gSub (tVar i) tb rSetD)) ts) Γ' ΓL R (puD m m2 mb k) :=
  ⟨pss_cons (p A.pe Bi.pe) (B []).ps, fun Z hZ σ H F ev D M => A.den _ _ hZ σ H F ev _ (fun u x H1 hu pst r1 => by
    have ev1 := ev.step pst
    obtain ⟨p, vs, hx, hp, mp, hr, _⟩ := ev1.dict h
    refine ⟨_, hx, Bi.den _ _ hu σ H1 F ev1 _ (fun j y H2 ⟨hn, hkk⟩ pst2 r2 => ?_) ((M.aft ev).step pst)⟩
    have ev2 := ev1.step pst2
    obtain ⟨p', vs', hx', hp', mp', hr', kk⟩ := ev2.dict h
    rw [hx] at hx'
    cases hx'
    obtain ⟨ev3, sv⟩ := kk (putK vs' (kf j) x) (putA m j u) (hr'.put (fun h => hk.inj h) (T.mono pst2.vis r1))
    rw [hk.is r2]
    exact ⟨p, _, rfl, DPut.k (k := kf j) hp' (by rw [hr'.len]; exact hn), (B _).den Z hkk σ _ F ev3 D (M.up ((pst.trans pst2).vis.trans sv))⟩) (M.aft ev)⟩
/-- {} -/
theorem m_new : DM kf X W XE Γ (.Dict [] [] pos) tDNewK T (rt []) :=
  ⟨pe_dnewK, fun Qa Ea hh σ H F ev Qv aq ae p np => aq [] p [] _ hh (PSt.same ev.ok (same_new np)) np upd_same trivial⟩
end
end Dn

set_option maxHeartbeats 2000000
/-! for over a list while an exception is handled -/
namespace HotY
open PySem PySem.Spec PyProof.Rows HotX
section
variable {pr : Program} {wo : World} {Ar : Around} {Er : Value → Shared → Prop} {st : Shared}
/-- a list's walk is over: StopIteration is made while another exception is handled -/
theorem list_over {iter lst exc : Addr} {at_ : Nat} {cells} {Post : Option Value → Shared → Prop} (busy : HotAt Ar exc st.heap)
    (isIt : st.heap.IsListIter iter lst at_) (isLst : st.heap.IsList lst cells) (none_ : cells[at_]? = none)
    (post : ∀ h2, (∀ b u, b ≠ iter → st.heap.get? b = some u → h2.get? b = some u) → Post none { st with heap := h2 }) : wpAny (model pr wo) Ar (pyNext (.ref iter)) Post Er st := by
  obtain ⟨oI, gI, _, dI⟩ := id isIt
  obtain ⟨oL, gL, _, nL, dL⟩ := isLst
  obtain ⟨hA, oX, vX, gX, dX, cX⟩ := busy
  have apart : iter ≠ exc := fun z => by
    subst z
    have := Option.some.inj (gI.symm.trans gX)
    rw [← this, dI] at dX
    cases dX
    simp at cX
  have still : (st.heap.update iter (Obj.mapFields (·.setIfInBounds 0 Value.none))).get? exc = some oX := (Heap.get?_update_other _ _ apart).trans gX
  unfold pyNext
  refine wpAny_bind (wpAny_attempt (wpAny_callSpecial?_slot (name := Str.ofString "__next__") isIt.typeIs slot_listiter_next (wpAny_call_entry slot_listiter_next isIt.typeIs entry_listiter_next ?_ (args_listiter_next _))))
  show wpAny _ _ (field (.ref iter) 0 >>= _) _ _ st
  refine wpAny_bind (wpAny_field gI dI (x := .ref lst) rfl ?_)
  show wpAny _ _ (if (Value.ref lst == Value.none) = true then _ else _) _ _ st
  rw [if_neg (by exact Bool.false_ne_true)]
  show wpAny _ _ (field (.ref iter) 1 >>= _) _ _ st
  refine wpAny_bind (wpAny_field gI dI (x := .int at_ 0) rfl ?_)
  show wpAny _ _ (seqItems? (.ref lst) >>= _) _ _ st
  refine wpAny_bind (wpAny_seqItems gL dL ?_)
  simp only [Int.toNat_natCast, none_]
  refine wpAny_bind (wpAny_rule (wpAny_bind (wpAny_setField gI dI (by simp) (wpAny_bind (m := newExc (.type "StopIteration") []) ?_))))
  simp only [newExc, newTuple]
  refine wpAny_bind (wpAny_newObj_type (wpAny_bind (m := firstArgMember _ _) (wpAny_of_eq (a := Value.none) (by simp only [firstArgMember]; rfl) (wpAny_newObj_type ?_ (by size_fits)))) (by size_fits))
  refine raiseNew_hot ⟨hA, oX, vX, Heap.get?_push_of_some _ (Heap.get?_push_of_some _ still), dX, cX⟩ (Nat.ne_of_lt (Heap.lt_size (Heap.get?_push_of_some _ still))) (Heap.get?_push_size _ rfl) rfl (by simp only [Array.size_append]; simp; omega) (wpAny_bind (wpAny_isInstance (T := "StopIteration") (b := true) ⟨_, Heap.get?_update_self _ (Heap.get?_push_size _ rfl) rfl, rfl⟩ isSubtype_stop (wpAny_pure (post _ fun b u ne gb => ?_))))
  have kept : (st.heap.update iter (Obj.mapFields (·.setIfInBounds 0 Value.none))).get? b = some u := (Heap.get?_update_other _ _ (fun z => ne z.symm)).trans gb
  exact (Heap.get?_update_other _ _ (Nat.ne_of_gt (Heap.lt_size (Heap.get?_push_of_some _ kept)))).trans (Heap.get?_push_of_some _ (Heap.get?_push_of_some _ kept))
end
end HotY
namespace L2H
open PySem PySem.Spec PyProof.Rows L2 HotX HotY
/-- a list's iterator, step by step -/
theorem turn_listH {P : Program} {w : World} {K : PySem.W.Frag} {tg : Expr} (lst iter : Addr) : TurnH P w K tg (Itl K lst) [iter] iter (fun n heap => heap.IsListIter iter lst n) where
  mem := List.mem_cons_self
  obj := fun n heap it0 b mb => by
    obtain rfl := List.mem_singleton.mp mb
    obtain ⟨o0, g0, _, d0⟩ := it0
    exact ⟨o0, g0, fun v z => by cases d0.symm.trans z⟩
  keep := fun n heap heap2 it0 same => it0.at fun o0 g0 => same iter List.mem_cons_self o0 g0
  item := by
    rintro X rfl rfl rfl hot n pins sh σ0 H0 Er inv foot it0 ⟨vals, v0, lay, here⟩
    obtain ⟨cells, rel, arr, _⟩ := inv.list lay
    obtain ⟨u0, atU, relU⟩ := rel.get here
    obtain ⟨q0, q1, q2, q3, q4, q5⟩ := foot iter List.mem_cons_self
    refine wpAny_pyNext_list_item it0 arr.isList (by simpa using atU) fun heap2 it2 but => ?_
    have inv2 := inv.turned (t' := sh.toks) (h' := heap2) (fun b o nb gb => (but.2 b nb).trans gb) q0 q1 q3 q4 q5
    obtain ⟨o2, g2, c2, d2⟩ := id it2
    refine ⟨u0, rfl, go_of (s := { sh with heap := heap2 }) g2 c2 d2 (by decide) ⟨v0, H0, inv2, relU, ⟨rfl, fun ys lay2 => ?_⟩, it2, fun b mb => (foot b mb).1⟩⟩
    rw [inv.list_inj lay2 lay]
    exact here
  done := by
    rintro X rfl rfl rfl hot n pins sh σ0 H0 Er inv foot it0 ⟨vals, lay, past⟩
    obtain ⟨cells, rel, arr, _⟩ := inv.list lay
    obtain ⟨q0, q1, q2, q3, q4, q5⟩ := foot iter List.mem_cons_self
    obtain ⟨exc, busy⟩ := hot.at inv
    have many := rel.length
    refine list_over busy it0 arr.isList (by simp; omega) fun heap2 but => ⟨rfl, ?_⟩
    exact inv.turned (t' := sh.toks) but q0 q1 q3 q4 q5
  self := fun _ _ _ _ _ it0 q => wpAny_pyIter_listiter it0 q
theorem pi_listH {X : Cx} {tg l : Expr} {tl : TE} (val : PE X l tl) : PIH X tg l (iList X.K tl) := by
  constructor
  intro pins sh σ0 H0 R inv red
  refine thn (val.run pins sh σ0 H0 _ inv red) fun u0 sh1 got => ?_
  obtain ⟨v1, H1, inv1, rel1, lst, eq1, ⟨vals, lay⟩, rest⟩ := got
  subst eq1
  cases rel1
  obtain ⟨cells, rel, arr, _⟩ := inv1.list lay
  refine wpAny_pyIter_list arr.isList ⟨sh1.heap.objs.size, [sh1.heap.objs.size], _, _, _, rfl, inv1.kept (t' := sh1.toks) fun b o gb => Heap.get?_push_of_some _ gb, turn_listH lst _, ⟨_, Heap.get?_push_size _ rfl, rfl, rfl⟩, fun b mb => ?_, rest⟩
  obtain rfl := List.mem_singleton.mp mb
  exact inv1.fpOk (Nat.le_refl _) (inv1.hok.fresh (Nat.le_refl _))
end L2H

set_option maxHeartbeats 1000000
namespace Dn
open PySem PySem.Spec PyProof.Rows L2 Wx NdefX L2H
/-! ### defs called while an exception is handled -/
theorem okH {P : Program} {w : World} {K : PySem.W.Frag} {mg : Str → Option Value} {base : Heap} {x qual : Str} {st : Stmt} {f : Addr} {fd : FuncData} {N ps : List Str} {k : Nat} {sp : Sp} (F : L2.Fun K x qual st f fd) (S : FnScope N ps (defScope st)) (len : ∀ vs H Q E, sp vs H Q E → vs.length = ps.length)
    (hbody : ∀ (cdv : Value) (A : Around) (outer : List Env) (s : Shared) (H : Hp) (vs : List V) (Q : VK) (E : XK) (p : Addr × Obj), Hot1 A p → RoomH k (A.deeper (envOfC qual (defScope st) s.heap.objs.size f cdv)) → sp vs H Q E →
      ∃ t, PSs (cxH (L2.CX P w) P w K mg base N qual (defScope st) f cdv A outer s H E p) (defBody st) t ∧ t { nx := fun _ H' => Q .non H', rt := Q } (start N vs) H) : FnH P w K mg base (L2.CX P w) (k + 1) f fd ps sp := by
  obtain ⟨oc, od, k1, k2, k3, k4, k5, k6, osl, rfl, lk, hcd⟩ := F.ex
  exact fn_ofH lk hcd S len fun A outer s H vs Q E p hot hr hsp => hbody k5 A outer s H vs Q E p hot hr hsp
section
variable {P : Program} {w : World} {K : PySem.W.Frag} {mg : Str → Option Value} {base : Heap} {α ρ : Type} {TA : TyS α} {T : Ty ρ} {m : α → WP ρ} {x qual : Str} {st : Stmt} {f : Addr} {fd : FuncData} {N ps : List Str} {k : Nat} {Γ0 : α → List Slot}
theorem fnVH (F : L2.Fun K x qual st f fd) (S : FnScope N ps (defScope st)) (hl : ∀ vs G a, TA.rep vs G a → vs.length = ps.length) (hΓ : ∀ vs G H a, TA.rep vs G a → Ev G H (Γ0 a) (start N vs) [])
    (body : ∀ (cdv : Value) (A : Around) (outer : List Env) (s : Shared) (H : Hp) (E : XK) (p : Addr × Obj), HotC (cxH (L2.CX P w) P w K mg base N qual (defScope st) f cdv A outer s H E p) → RoomH k (A.deeper (envOfC qual (defScope st) s.heap.objs.size f cdv)) →
      ∀ (L : List Addr) (dL : ∀ b ∈ L, H b ≠ none) (a : α), ∃ ts mb, DS (cxH (L2.CX P w) P w K mg base N qual (defScope st) f cdv A outer s H E p) (wdF L H dL) E (Γ0 a) (defBody st) ts (fun _ : Unit => []) (fun _ : Unit => []) T mb ∧
        ∀ Qa Ea, m a Qa Ea → mb ⟨fun _ => False, fun _ => False, fun _ => False, Qa, Ea⟩) :
    FnH P w K mg base (L2.CX P w) (k + 1) f fd ps (spF K TA T m) :=
  okH F S (fun vs H Q E ⟨L, a, _, _, _, h, _⟩ => hl vs _ a h) (fun cdv A outer s H vs Q E p hot hr ⟨L, a, Qa, Ea, dL, hrep, hm, kq, ke⟩ => by
    obtain ⟨ts, mb, B, hb⟩ := body cdv A outer s H E p ⟨p, hot, List.mem_cons_self⟩ hr L dL a
    exact fn_body B (hΓ _ _ _ _ hrep) (hb _ _ hm) kq ke)
end
/-- a def that may be called there -/
structure FnHt (P : Program) (w : World) (K : PySem.W.Frag) (mg : Str → Option Value) (base : Heap) (x : Str) (k : Nat) (ps : List Str) {α ρ : Type} (TA : TyS α) (T : Ty ρ) (m : α → WP ρ) : Prop where
  ex : ∃ (f : Addr) (fd : FuncData), FnH P w K mg base (L2.CX P w) k f fd ps (spF K TA T m) ∧ mg x = some (.ref f) ∧ PySem.W.keepIn K (.ref f) = true ∧ Binds K fd ps []
section
variable {X : Cx} {W : Wd} {Γ : List Slot} {XE : XK} {e o : Expr} {es : List Expr} {ta : TE} {tt : TA} {pos p apos : Pos} {α β ρ : Type} {TA : TyS α} {R : Ty ρ} {S : Ty β} {ma : WP α} {m : α → WP ρ} {x : Str} {k : Nat} {ps : List Str}
theorem d_callH {K : PySem.W.Frag} (hK : X.K = K) (c : FnHt X.prog X.w K X.mg X.base x k ps TA R m) (hr : RoomH k X.A) (hc : HotC X) (hx : ∀ σ, PassesAt (L2.CX X.prog X.w) X σ XE) (A : DA X W XE Γ (e :: es) tt TA ma) (hg : Gl X x := by rfl)
    (hdb : (x == ("__debug__" : Str)) = false := by decide) (he : starEach (e :: es) X.env = (false, eval e X.env) :: starEach es X.env := by rfl) (hpl : (backTo pos (starEach es X.env)).any (·.1) = false := by rfl) :
    DE X W XE Γ (.Call (.Name x p) (e :: es) [] pos) (tCallS (spF K TA R m) (fun _ => XE) tt) R (bd ma m) := by
  subst hK
  exact ⟨by
    obtain ⟨f, fd, F, hm, hk, hb⟩ := c.ex
    exact pe_callH F hr hc hg hm hk hb hx A.pe hdb he hpl, den_call A.den⟩
end
section
variable {X : Cx} {s t l ρ : Type} {W : Wd} {XE : XK} {Γ : List Slot} {Γ' : s → List Slot} {Γ1 : t → List Slot} {ΓL : l → List Slot} {R : Ty ρ} {st : Stmt} {ss : List Stmt} {ts : TS} {α : Type} {T : Ty α} {m : WP (List α)} {e : Expr} {te : TE}
/-- a loop there -/
theorem s_forH [Inhabited t] [Inhabited α] {pos : Pos} {tg it : Expr} {bs : List Stmt} {wi : TI} {g : TG} {tb : TS} {Γt : t → α → List Slot} {f : t → α → SB t t ρ} {k : t → SB s l ρ} (s0 : t)
    (hp : PassesOwn (model X.prog X.w) X.A X.env X.xe) (hc : HotC X) (I : DI X W XE Γ tg it wi T m) (IH : PIH X tg it wi) (hg : PG X tg g) (hG : ∀ st, DenG X.K (Γ1 st) g T (Γt st)) (h0 : Lower Γ (Γ1 s0))
    (B : ∀ st a, DS X W XE (Γt st a) bs tb Γ1 Γ1 R (f st a)) (Z : ∀ u, DS X W XE (Γ1 u) ss ts Γ' ΓL R (k u)) (hs : ∀ x, foldedSetIterable it X.env x = pure x := by intro _; rfl) :
    DS X W XE Γ (.For tg it bs [] pos :: ss) (tSeq (tFor wi g tb) ts) Γ' ΓL R (foS m f s0 k) :=
  ⟨pss_cons (ps_forH hp hc IH hg (B default default).ps hs) (Z default).ps, fun Y hY σ H F ev D M => by
    refine I.den _ _ hY σ H F ev _ (fun as J H1 ha p wk => ?_) (M.aft ev)
    have ev1 := ev.step p
    obtain ⟨F1, sub, ev2⟩ := ev1.lower h0
    refine for_it wk (fun i σ2 H2 => ∃ st F2, EvF W (Γ1 st) σ2 H2 F2 ∧ Same (vis (W.M0 ++ F) H1) (vis (W.M0 ++ F2) H2) ∧ forS (l := l) f (as.drop i) st (fun u => k u Y) Y.rt Y.ex) ⟨s0, F1, ev2, vis_sub sub, by rw [List.drop_zero]; exact ha⟩ (fun i σ2 H2 _ ⟨st, F2, _, q, _⟩ => q.trans vis_le) ?_ ?_
    · rintro i x σ2 H2 H3 hi ⟨st, F2, ev3, q, hf⟩ ⟨s3, a, hai, hrep⟩
      have r := hrep (W.M0 ++ F2) ev3.dom q
      have p3 := PSt.same ev3.ok s3
      have ev4 := ev3.step p3
      have q4 : Same (vis (W.M0 ++ F) H1) (vis (W.M0 ++ F2) H3) := q.trans (vis_same s3)
      rw [List.drop_eq_getElem_cons hi] at hf
      have ea : as[i] = a := by
        rw [List.getElem?_eq_getElem hi] at hai
        exact Option.some.inj hai
      rw [ea] at hf
      refine hG st W a x σ2 H3 F2 ev4 r _ fun σ4 ev5 => ?_
      refine (B st a).den _ hf σ4 H3 F2 ev5 _ ⟨fun u σ5 H5 F5 hu ev6 q6 => ⟨u, F5, ev6, q4.trans q6, hu⟩, fun u σ5 H5 F5 hu ev6 q6 => (Z u).den Y hu σ5 H5 F5 ev6 D (M.up ((p.vis.trans q4).trans q6)), fun u σ5 H5 F5 hu ev6 q6 => ⟨u, F5, ev6, q4.trans q6, hu⟩, M.rt, M.ex⟩
    · rintro σ2 H2 ⟨st, F2, ev3, q, hf⟩
      rw [List.drop_length] at hf
      exact (Z st).den Y hf σ2 H2 F2 ev3 D (M.up (p.vis.trans q))⟩
end
/-! ### isinstance of an exception that is handled -/
def rIsEd (K : PySem.W.Frag) (D a : Addr) (d : Option Addr) (cls : Value) : List V → Hp → VK → Prop := fun xs H Q => cls = .ref D ∧ ∃ (c : V) (u : Value) (b : Bool), xs = [.ref a, c] ∧ ClsV c u ∧ (∀ dd, d = some dd → ∃ fs, H dd = some (.xd fs)) ∧ PySem.W.kitOne K (.ref D) u = some b ∧ Q (.bl b) H
theorem call_isEd {X : Cx} {a D : Addr} {oe : Obj} {d : Option Addr} {cls : Value} {pn : List (Addr × Obj)} (T : ExcC X.K D) (hz : Zc cls d oe) (hf : ∃ vs, oe.data = .fields vs) : CallR (X.suite a ((a, oe) :: pn)) (.builtin "isinstance") (rIsEd X.K D a d cls) := by
  intro pins s σ H xs us Q I r h
  obtain ⟨rfl, c, u, b, rfl, kc, hd, hk, q⟩ := h
  cases r with
  | cons r1 r2 =>
    cases r2 with
    | cons r3 r4 =>
      cases r4
      cases r1
      have eu := kc.eq r3
      subst eu
      obtain ⟨ga, _⟩ := I.pin (a, oe) (List.mem_append_left _ List.mem_cons_self)
      obtain ⟨vs, hf⟩ := hf
      have inst : ∃ od, PySem.W.InstAt s.heap a oe D od := by
        cases d with
        | none => exact ⟨none, ga, hz.1, by unfold PySem.W.notCls; rw [hf] <;> rfl, by rw [hz.2]; trivial⟩
        | some dd =>
          obtain ⟨fs, ed⟩ := hd dd rfl
          obtain ⟨mA, hns, _⟩ : ObjOk X.prog X.w H s.heap dd (.xd fs) := I.hok dd _ ed
          obtain ⟨od, ho, _⟩ := lookIn_ns hns
          exact ⟨some od, ga, hz.1, by unfold PySem.W.notCls; rw [hf] <;> rfl, by rw [hz.2]; exact ho⟩
      obtain ⟨od, inst⟩ := inst
      have hcl : (PySem.W.clsIn X.K D).isSome = true := by
        obtain ⟨cd, hcd, _⟩ := PySem.W.any_some T.hd
        rw [hcd]
        rfl
      exact PySem.W.kia_one (PySem.W.kitx_exc hcl T.hg T.hk T.hs T.ha T.hn T.ht T.hm) I.kIn inst hk (fun z => nomatch z) fun tk => ⟨.bl b, H, I.kept (t' := tk) fun _ _ z => z, rfl, q⟩
end Dn

set_option maxHeartbeats 1000000
namespace Dn
open PySem PySem.Spec PyProof.Rows L2 Wx NdefX L2H
theorem reps_ints {H : Hp} : ∀ {xs : List V} {as : List Int}, Reps tyI.rep H xs as → xs = as.map V.int
  | [], [], _ => rfl
  | x :: xs, a :: as, ⟨h, r⟩ => by
    rw [List.map_cons, ← reps_ints r]
    have h : x = .int a := h
    rw [h]
  | [], _ :: _, h => h.elim
  | _ :: _, [], h => h.elim
theorem o_eqDT {K : PySem.W.Frag} (u v : List Int) : R2Ok (rEqD K) (tyT K tyI) u (tyT K tyI) v tyB (rt (id (decide (u = v)))) := fun Qa Ea h L H x y Qv d ⟨p, xs, e1, s1, r1⟩ ⟨q, ys, e2, s2, r2⟩ k => by
  subst e1 e2
  have a := reps_ints r1
  have b := reps_ints r2
  subst a b
  refine ⟨_, _, dp_intsT (same_sqT vis_le s1), dp_intsT (same_sqT vis_le s2), shaped_intsT _, shaped_intsT _, ?_⟩
  rw [eqv_intsT]
  exact k _ _ H h (Same.refl _) rfl
section
variable {X : Cx} {s t l ρ : Type} {W : Wd} {XE : XK} {Γ : List Slot} {Γ' : s → List Slot} {Γ1 : t → List Slot} {ΓL : l → List Slot} {R : Ty ρ} {st : Stmt} {ss : List Stmt} {ts : TS} {α : Type} {T : Ty α} {m : WP (List α)} {e : Expr} {te : TE}
theorem s_forHL {K : PySem.W.Frag} (hK : X.K = K) [Inhabited t] [Inhabited α] {pos : Pos} {tg it : Expr} {bs : List Stmt} {g : TG} {tb : TS} {Γt : t → α → List Slot} {f : t → α → SB t t ρ} {k : t → SB s l ρ} (s0 : t)
    (hp : PassesOwn (model X.prog X.w) X.A X.env X.xe) (hc : HotC X) (A : DE X W XE Γ it te (tyL T) m) (hg : PG X tg g) (hG : ∀ st, DenG K (Γ1 st) g T (Γt st)) (h0 : Lower Γ (Γ1 s0))
    (B : ∀ st a, DS X W XE (Γt st a) bs tb Γ1 Γ1 R (f st a)) (Z : ∀ u, DS X W XE (Γ1 u) ss ts Γ' ΓL R (k u)) (hs : ∀ x, foldedSetIterable it X.env x = pure x := by intro _; rfl) :
    DS X W XE Γ (.For tg it bs [] pos :: ss) (tSeq (tFor (iList K te) g tb) ts) Γ' ΓL R (foS m f s0 k) := by
  subst hK
  exact s_forH s0 hp hc (i_list rfl A) (pi_listH A.pe) hg hG h0 B Z hs
end
/-! ### try: an own class is made; the error is told of its standing -/
/-- the caught error's place, its dict, what it tells -/
def tyXs (K : PySem.W.Frag) (C : Str) (f : Str) (a : Addr) (cls : Value) (d : Option Addr) : Ty StdV := ⟨fun x H s => x = .ref a ∧ cls = .ref (cl K C) ∧ ∃ dd fs v, d = some dd ∧ H dd = some (.xd fs) ∧ fs.lookup f = some v ∧ (tyStd K).rep v H s,
  fun s ⟨e, c, dd, fs, v, hd, h, l, r⟩ => ⟨e, c, dd, fs, v, hd, s _ _ h, l, (tyStd K).mono s r⟩⟩
section
variable {X : Cx} {W : Wd} {XE : XK} {Γ : List Slot} {a : Addr} {oe : Obj} {d : Option Addr} {pn : List (Addr × Obj)} {cls : Value} {K : PySem.W.Frag} {C f : Str} {e : Expr} {pos p p1 : Pos} {i : Nat} {s : StdV}
/-- e.f of it -/
theorem d_xs (hK : X.K = K) (h : Γ[i]? = some (.rp (tyXs K C f a cls d) s)) (T : XfC K (cl K C)) (hno : PySem.W.findIn K (.ref (cl K C)) f = some none) (hz : Zc cls d oe) (hf : ∃ vs, oe.data = .fields vs)
    (po : PE (X.suite a ((a, oe) :: pn)) e (tVar i)) (hb : attributeBase e f X.env (eval e X.env) = eval e X.env := by rfl) : DE (X.suite a ((a, oe) :: pn)) W XE Γ (.Attribute e f pos) (tXf a cls d (cl K C) f (tVar i)) (tyStd K) (rt s) := by
  subst hK
  exact ⟨pe_xf T hno hz hf po hb, fun Qa Ea hh σ H F ev Qv aq ae => by
    obtain ⟨x, hx, rfl, hc, dd, fs, v, hd, hdd, hl, r⟩ := ev.sl.get h
    exact ⟨_, hx, rfl, hc, dd, fs, v, hd, vis_le _ _ hdd, hl, aq s v H hh (PSt.refl ev.ok) r⟩⟩
/-- isinstance(e, x) -/
theorem d_isE (hK : X.K = K) {x : Str} {b : Bool} (h : Γ[i]? = some (.rp (tyXs K C f a cls d) s)) (T : ExcC K (cl K C)) (gx : X.mg x = some (.ref (cl K x))) (kit : PySem.W.kitOne K (.ref (cl K C)) (.ref (cl K x)) = some b) (hz : Zc cls d oe) (hf : ∃ vs, oe.data = .fields vs)
    (po : PE (X.suite a ((a, oe) :: pn)) e (tVar i)) (hm : X.mg "isinstance" = none) (hgx : Gl (X.suite a ((a, oe) :: pn)) x := by rfl) (hdb : (x == ("__debug__" : Str)) = false := by decide) (hg : Gl (X.suite a ((a, oe) :: pn)) "isinstance" := by rfl)
    (he : starEach [e, .Name x p1] X.env = (false, eval e X.env) :: starEach [.Name x p1] X.env := by rfl) (he2 : starEach [.Name x p1] X.env = (false, eval (.Name x p1) X.env) :: starEach [] X.env := by rfl) (hpl : (backTo pos (starEach [.Name x p1] X.env)).any (·.1) = false := by rfl) :
    DE (X.suite a ((a, oe) :: pn)) W XE Γ (.Call (.Name "isinstance" p) [e, .Name x p1] [] pos) (tCB (rIsEd K (cl K C) a d cls) (tCons (tVar i) (tCons (tC (.ref (cl K x))) tNil))) tyB (rt b) := by
  subst hK
  exact ⟨pe_callB (id := "isinstance") (call_isEd T hz hf) hg hm (by decide +kernel) (pa_cons po (pa_cons (pe_glob hgx gx rfl hdb) pa_nil he2) he) (by decide) (by decide) he hpl, fun Qa Ea hh σ H F ev Qv aq ae => by
    obtain ⟨v, hx, rfl, hc, dd, fs, w, hd, hdd, hl, r⟩ := ev.sl.get h
    exact ⟨_, hx, hc, _, _, b, rfl, .own _, fun d' e' => by rw [hd] at e'; cases e'; exact ⟨fs, vis_le _ _ hdd⟩, kit, aq b _ H hh (PSt.refl ev.ok) rfl⟩⟩
end
end Dn

set_option maxHeartbeats 1000000
namespace L2
open PySem PySem.Spec PyProof.Rows
section
variable {X : Cx} {e : Expr} {es : List Expr} {ta : TA} {p pos : Pos}
/-- C(..) of an own error, raised where nothing is handled: its context is None -/
theorem pmkN {CX : CXT} {x : Str} {C fI : Addr} {k : Nat} {fd : FuncData} {ps : List Str} {sp : Sp} {ds : List Value} {dvs : List V} (T : OexC X.K C) (hini : PySem.W.findIn X.K (.ref C) "__init__" = some (some (.ref fI))) (hty : PySem.W.typeIn X.K (.ref fI) = some (.type "function"))
    (FI : FnOk X.prog X.w X.K X.mg X.base CX k fI fd ps sp) (room : Room (k + 1) X.A) (bnd : Binds X.K fd ps ds) (vds : Vals dvs ds) (pass : Passes CX X (fun _ _ _ => False)) (gx : Gl X x) (mx : X.mg x = some (.ref C)) (args : PA X (e :: es) ta)
    (nodb : (x == ("__debug__" : Str)) = false := by decide) (st1 : starEach (e :: es) X.env = (false, eval e X.env) :: starEach es X.env := by rfl) (st2 : (backTo pos (starEach es X.env)).any (·.1) = false := by rfl) :
    L2N.PMk X (.Call (.Name x p) (e :: es) [] pos) (tMkO C sp dvs ta) := by
  intro pins s0 σ0 H0 Q0 I0 red
  obtain ⟨n1, n2, n3, n4, n5, n6, n7, n8, n9, n10, n11, n12, n13, n14, n15, clsE, mroE⟩ := T.cls
  refine wpAny_Call_Name_kw (ld_glob I0 gx mx (PySem.W.callWith_K (h₀ := X.base) I0.ok.mod.kin T.kC (thn (args.run pos pins s0 σ0 H0 _ I0 red) fun ua sA ⟨va, HA, IA, rA, few, rest⟩ => ⟨IA.kIn, ?_⟩) st1 st2) nodb)
  obtain ⟨heapA, genA, drA, tokA, osA⟩ := sA
  show wpAny _ _ (call (.ref C) ua) _ _ _
  have fresh : HA (heapA.objs.size + 1) = none := IA.hok.fresh (Nat.le_succ _)
  have ini := rest _ fresh
  have keep : ∀ b o, heapA.get? b = some o → ((heapA.push (PySem.W.kdv_tup ua)).push (PySem.HandSPX.excO C heapA.objs.size)).get? b = some o := fun b o z => Heap.get?_push_of_some _ (Heap.get?_push_of_some _ z)
  have IB : Inv X pins σ0 (upd HA (heapA.objs.size + 1) (exo (heapA.objs.size + 1) C none)) ⟨(heapA.push (PySem.W.kdv_tup ua)).push (PySem.HandSPX.excO C heapA.objs.size), genA, drA, tokA, osA⟩ :=
    IA.laid (t' := tokA) (a := heapA.objs.size + 1) (o := exo (heapA.objs.size + 1) C none) (h' := (heapA.push (PySem.W.kdv_tup ua)).push (PySem.HandSPX.excO C heapA.objs.size)) keep (Nat.le_succ _) (exo_ok (by heap_get))
  have rB : Vals (V.ref (heapA.objs.size + 1) :: (va ++ dvs)) (Value.ref (heapA.objs.size + 1) :: (ua ++ ds)) := .cons rfl (rA.append vds)
  have lenB : (Value.ref (heapA.objs.size + 1) :: ua ++ ds).length = ps.length := (rB.length.symm.trans (FI.len _ _ _ _ ini))
  have lenA : ua.length ≤ sizeLine := by
    rw [← Paired.length rA]
    exact Nat.le_trans few (by decide)
  refine wpAny_call (PySem.HandSPX.call_own F.excBase_ValueError (fun Y => PySem.HandSPX.refsVE_contains Y n5 mroE) (IA.kIn _ _ clsE) (PySem.W.looks_findIn IA.kIn hini) (fun self => PySem.W.bind_fn IA.kIn self hty) lenA
    (codeAny_mono (FI.run _ X.stack _ _ ⟨Value.ref (heapA.objs.size + 1) :: ua, []⟩ (Value.ref (heapA.objs.size + 1) :: (ua ++ ds)) _ _ (fun _ _ _ => False) (room.make C ua []) (IB.env0.make C ua []) (bnd _ (Value.ref (heapA.objs.size + 1) :: ua) IB.kIn lenB) rB ini) fun out sB got => ?_))
  cases out with
  | ok fl =>
    cases fl with
    | ret u =>
      obtain ⟨vB, HB, osB, bareB, unB, hokB, relB, eqB, dB, fsB, atA, atD, freeD, qB⟩ := got
      subst eqB
      obtain ⟨heapB, genB, drB, tokB, osC⟩ := sB
      obtain ⟨tB, G, J, kG, nG, oG, nA⟩ := mk_end0 (d2 := drB) (t2 := tokB) IA (Nat.le_succ _) keep unB hokB osB bareB atA atD freeD
      exact ⟨relB, _, _, _, ⟨G, genB, drB, tokB, osC⟩, _, .ref C, some dB, rfl, J, kG, nG, oG, ⟨rfl, rfl, fun vs hv => by cases hv; rfl⟩, rfl, rfl, nA, rfl, bareB, raises_own T.exC T.tyC, qB⟩
    | next => exact False.elim got
    | brk => exact False.elim got
    | cont => exact False.elim got
  | error er => exact pass pins σ0 _ _ er sB IB got
end
end L2

set_option maxHeartbeats 1000000
namespace Dn
open PySem PySem.Spec PyProof.Rows L2 Wx NdefX L2H
instance : Inhabited StdV := ⟨⟨[], 0, 0⟩⟩
section
variable {X : Cx} {W : Wd} {Γ : List Slot} {XE : XK} {e : Expr} {te : TE} {α : Type} {T : Ty α} {m : WP α}
/-- what does not raise, put where things may -/
theorem d_lift (A : DE X W E0 Γ e te T m) : DE X W XE Γ e te T (noE m) := ⟨A.pe, fun Qa Ea hh σ H F ev Qv aq _ => A.den _ _ hh σ H F ev Qv aq fun _ _ _ _ he _ _ => he.elim⟩
end
section
variable {X : Cx} {s l ρ : Type} {W : Wd} {XE : XK} {Γ : List Slot} {Γ' : s → List Slot} {ΓL : l → List Slot} {R : Ty ρ} {α : Type} {TA : TyS α} {ma : WP α} {e : Expr} {cond : α → Prop} {ex : α → Ex}
theorem s_raiseN {ta : L2.TA} {x : Str} {sp : Sp} {pos : Pos} {es : List Expr} (hc : X.calm = true) (tk : L2N.Takes X (fun c d _ H => XE c d H)) (O : ErrOk X.K x sp TA cond ex) (mk : PA X es ta → L2N.PMk X e (tMkO (cl X.K x) sp [] ta)) (A : DA X W XE Γ es ta TA ma) :
    DS X W XE Γ [.Raise (some e) none pos] (tSeq (fun _ σ H => tMkO (cl X.K x) sp [] ta σ H fun cls d H' => XE cls d H') tNext) Γ' ΓL R (raS ma cond ex) :=
  ⟨pss_cons (L2N.ps_raise hc tk (mk A.pe)) pss_nil, fun Z hZ σ H F ev D M => A.den _ _ hZ σ H F ev _ (fun u vs H1 ⟨hc, hu⟩ pst r => by
    have ev1 := ev.step pst
    obtain ⟨h1, h2⟩ := O.go (W.M0 ++ F) H1 vs u ev1.dom r hc
    refine ⟨h1, fun a na => ?_⟩
    rw [List.append_nil]
    refine h2 a na _ _ fun fs H2 H' dx nd ne keep ea ed hx => ⟨rfl, dx, fs, ea, ed, nd, ?_⟩
    have s : Same H1 (upd (del H2 a) dx (.xd fs)) := fun b o e => by
      have nb : b ≠ a := ne_of_none e na
      rw [upd_ne (ne_of_none e nd)]
      show (if b = a then none else H2 b) = some o
      rw [if_neg nb]
      exact keep b o nb e
    refine M.ex _ _ _ _ hu (ev1.step (PSt.same pst.ok s)).out ((hx _ s (fun b o nb nd e => ?_) upd_same).mono X.K vis_app)
    rw [upd_ne nd]
    show (if b = a then none else H2 b) = some o
    rw [if_neg nb]
    exact e) (M.aft ev)⟩
end
section
variable {P : Program} {w : World} {K : PySem.W.Frag} {mg : Str → Option Value} {base : Heap} {α ρ : Type} {TA : TyS α} {T : Ty ρ} {x qual : Str} {st : Stmt} {f : Addr} {fd : FuncData} {k : Nat} {Γ0 : α → List Slot}
/-- an __init__ whose errors have no context -/
theorem fnIN {β γ : Type} {SF : TyS γ} {g : β → γ} {h : γ → β} {m : α → WP β} {C : Addr} {fs N' ps' : List Str} {Γ' : γ → List Slot} (hg : ∀ b, g (h b) = b) (F : L2.Fun K x qual st f fd) (S : FnScope ("self" :: N') ("self" :: ps') (defScope st)) (hl : ∀ vs G a, TA.rep vs G a → vs.length = ps'.length) (hΓ : ∀ vs G H a, TA.rep vs G a → Ev G H (Γ0 a) (start N' vs) [])
    (body : ∀ (cdv : Value) (A : Around) (outer : List Env) (s : Shared) (H : Hp) (E : XK), Room k (A.deeper (envOfC qual (defScope st) s.heap.objs.size f cdv)) → L2N.Takes (cxOf (L2N.CX P w) P w K mg base ("self" :: N') qual (defScope st) f cdv A outer s H E) (fun c d _ H => E c d H) →
      ∀ (L : List Addr) (p : Addr) (np : p ∉ L) (dL : ∀ b ∈ L, H b ≠ none) (a : α), ∃ ts mb, DS (cxOf (L2N.CX P w) P w K mg base ("self" :: N') qual (defScope st) f cdv A outer s H E) (wdI L p H np dL) E (.mu (ownI C p [] tsN) () :: Γ0 a) (defBody st) ts (fun b : γ => .mu (ownI C p fs SF) b :: Γ' b) (fun _ : Unit => []) tyN mb ∧
        ∀ Qa Ea, m a Qa Ea → mb ⟨fun b => Qa (h b), fun _ => False, fun _ => False, fun _ => False, Ea⟩) :
    FnOk P w K mg base (L2N.CX P w) (k + 1) f fd ("self" :: ps') (spI K C fs SF g TA m) := by
  obtain ⟨oc, od, k1, k2, k3, k4, k5, k6, osl, rfl, lk, hcd⟩ := F.ex
  refine fn_of lk hcd S (fun vs H Q E ⟨p, dx, rest, L, a, _, _, e, _, _, _, hr, _⟩ => by rw [e, List.length_cons, List.length_cons, hl _ _ _ hr]) fun A outer s H vs Q E hr ⟨p, dx, rest, L, a, Qa, Ea, e, hp, np, dL, hrep, hm, kq, ke⟩ => ?_
  subst e
  obtain ⟨ts, mb, B, hb⟩ := body k5 A outer s H E hr (L2N.takes_of rfl rfl rfl rfl) L p np dL a
  have es : L2.start ("self" :: N') (.ref p :: rest) = some (.ref p) :: L2.start N' rest := by
    unfold L2.start
    simp
  rw [es]
  exact fn_bodyI hg B hp (hΓ _ _ _ _ hrep) (hb _ _ hm) kq ke
end
structure Mk1N (P : Program) (w : World) (K : PySem.W.Frag) (mg : Str → Option Value) (base : Heap) (x : Str) (k : Nat) (ps : List Str) (fs : List Str) {α β γ : Type} (S : TyS γ) (g : β → γ) (TA : TyS α) (m : α → WP β) : Prop where
  ex : ∃ (f : Addr) (fd : FuncData), FnOk P w K mg base (L2N.CX P w) k f fd ps (spI K (cl K x) fs S g TA m) ∧ Mk K (cl K x) f ∧ Binds K fd ps []
  g : mg x = some (.ref (cl K x))
theorem of_std {K : PySem.W.Frag} {C : Addr} {β : Type} {g : β → ((Unit × List Int) × Int) × Int} {v : V} {H : Hp} {s : StdV} {u : β} (e : g u = ((((), s.levels), s.tank), s.mood)) (hC : C = cl K "Standing") (h : (tyStd K).rep v H s) :
    (tyM (tyC C ["levels", "tank", "mood"] (tsS (tsS (tsS tsN (tyT K tyI)) tyI) tyI)) g).rep v H u := by
  subst hC
  obtain ⟨p, dx, vs, e1, hp, hl, v1, v2, v3, e2, h1, h2, h3⟩ := h
  refine ⟨p, dx, vs, e1, hp, hl, ?_⟩
  rw [e]
  exact ⟨[v1, v2], v3, e2, ⟨[v1], v2, rfl, ⟨[], v1, rfl, rfl, h1⟩, h2⟩, h3⟩
/-! ### try: C(..) except X as n: suite that returns -/
def trS {s l ρ α : Type} (mc : WP α) (mk : StdV → Ex) (h : StdV → SB Unit Unit ρ) (k : SB s l ρ) : SB s l ρ := fun D => mc (fun _ => k D) (fun e => ∃ u, e = mk u ∧ h u ⟨fun _ => False, fun _ => False, fun _ => False, D.rt, fun _ => False⟩)
section
variable {X : Cx} {s l ρ : Type} {W : Wd} {XE : XK} {Γ : List Slot} {Γ' : s → List Slot} {ΓL : l → List Slot} {R : Ty ρ} {ss : List Stmt} {ts : TS} {e : Expr} {es : List Expr} {tt : TA} {α β γ : Type} {TA : TyS α} {S : TyS γ} {ma : WP α} {m : α → WP β} {g : β → γ} {x y n : Str} {c0 : Value} {k i : Nat} {ps fs : List Str}
  {np p pos pos2 pos' pos3 : Pos} {b0 : Stmt} {suite : List Stmt} {tsu : Addr → Value → Option Addr → TS} {hs : StdV → SB Unit Unit ρ} {kk : SB s l ρ}
theorem s_tryN {K : PySem.W.Frag} (hK : X.K = K) (stk : X.stack = X.env :: X.outer) (frm : X.env.frame = some X.env.locals) (nd : X.N.Nodup) (atI : X.N[i]? = some n) (lcl : X.env.kindOf n = some .local) (nms : Names X y c0) (tk : L2N.Takes X (fun _ _ _ _ => False))
    (c : Mk1N X.prog X.w K X.mg X.base x k ps fs S g TA m) (hr : Room (k + 1) X.A) (exm : PySem.W.exmOne K (.ref (cl K "BadStanding")) c0 = some true) (hi : (Γ[i]?.any Slot.imm) = true) (hgx : Gl X x)
    (A : ∀ (pn : List (Addr × Obj)) (xe : Value → Shared → Prop), DA (X.tr pn xe) W E0 Γ (e :: es) tt TA ma)
    (SU : ∀ (a : Addr) (oe : Obj) (cls : Value) (d : Option Addr) (pn : List (Addr × Obj)), L2N.Zn cls d oe → (∃ vs, oe.data = .fields vs) → ∀ u : StdV, DS (X.suite a ((a, oe) :: pn)) W E0 (Γ.set i (.rp (tyXs K "BadStanding" "standing" a cls d) u)) (b0 :: suite) (tsu a cls d) (fun _ : Unit => []) (fun _ : Unit => []) R (hs u))
    (B : DS X W XE Γ ss ts Γ' ΓL R kk) (hsw : ∀ pn xe, swapsWith (.Call (.Name x p) (e :: es) [] pos) none pos2.line (X.tr pn xe).env = pure false := by intro _ _; rfl)
    (hdb : (x == ("__debug__" : Str)) = false := by decide) (he : starEach (e :: es) X.env = (false, eval e X.env) :: starEach es X.env := by rfl) (hpl : (backTo pos (starEach es X.env)).any (·.1) = false := by rfl) :
    DS X W XE Γ (.Try [.Expr (.Call (.Name x p) (e :: es) [] pos) pos2] [.ExceptHandler (some (.Name y np)) (some n) (b0 :: suite) pos'] [] [] pos3 :: ss)
      (tSeq (fun D σ H => tSeq (tDrop (tMakeS (cl K x) (spI K (cl K x) fs S g TA m) (WE (wAs K c0 i tsu (fun _ _ _ _ => False) D)) tt)) tNext D σ H) ts) Γ' ΓL R (trS (bd (noE ma) m) Ex.standing hs kk) := by
  subst hK
  refine ⟨pss_cons (L2N.ps_try_as stk frm nd atI lcl nms tk (tb := fun WW => tSeq (tDrop (tMakeS (cl X.K x) (spI X.K (cl X.K x) fs S g TA m) (WE WW) tt)) tNext) (fun WW pn xe tkW _ => pss_cons (ps_expr ?_ (hsw pn xe)) pss_nil) (fun a oe cls d pn hz hf => (SU a oe cls d pn hz hf default).ps)) B.ps, fun Z hZ σ H F ev D M => ?_⟩
  · obtain ⟨f, fd, F, M, hb⟩ := c.ex
    exact pe_makeS (X := X.tr pn xe) M F hr hgx c.g hb (fun σ => L2N.passAt tkW σ) (A pn xe).pe hdb he hpl
  · have key := den_make (K := X.K) (C := cl X.K x) (fs := fs) (S := S) (g := g) (m := m) (W := W) (Γ := Γ) (XE := WE (wAs X.K c0 i tsu (fun _ _ _ _ => False) { D with nx := ts D }) σ) (tt := tt) (TA := TA) (ma := noE ma) fun Qa Ea hh σ H F ev Qv aq _ => (A [] X.xe).den _ _ hh σ H F ev Qv aq fun _ _ _ _ he _ _ => he.elim
    refine key _ _ hZ σ H F ev _ (fun u x H1 hu pst r => B.den Z hu σ H1 F (ev.step pst) D (M.up pst.vis)) fun ex c d H1 ⟨u, hex, hu⟩ pst r => ?_
    subst hex
    obtain ⟨hc, dd, fs', hd, hxd, v, hl, hrep⟩ := r
    refine ⟨true, by rw [hc]; exact exm, fun _ a na => ?_, fun z => by cases z⟩
    have ev2 := (ev.step pst).set (T := tyXs X.K "BadStanding" "standing" a c d) (a := u) (v := .ref a) (i := i) ⟨rfl, hc, dd, fs', v, hd, hxd, hl, hrep⟩ hi
    refine (SU a ⟨c, d, .fields #[.none, .none, .none], #[]⟩ c d [] ⟨rfl, rfl, fun vs hv => by cases hv; rfl⟩ ⟨_, rfl⟩ u).den _ hu _ H1 F ev2 _ ⟨fun _ _ _ _ z => z.elim, fun _ _ _ _ z => z.elim, fun _ _ _ _ z => z.elim, M.rt, fun _ _ _ _ z => z.elim⟩
end
theorem takesN0 {X : Cx} : L2N.Takes X (fun _ _ _ _ => False) := fun _ _ h => by
  obtain ⟨_, _, _, _, _, _, _, _, _, _, _, _, _, _, _, _, z⟩ := h
  exact z.elim
theorem fnh_of {P : Program} {w : World} {K : PySem.W.Frag} {mg : Str → Option Value} {base : Heap} {x : Str} {k : Nat} {ps : List Str} {α ρ : Type} {TA : TyS α} {T : Ty ρ} {m : α → WP ρ} {f : Addr} {fd : FuncData} (G : FnH P w K mg base (L2.CX P w) k f fd ps (spF K TA T m)) (h1 : mg x = some (.ref f)) (h2 : PySem.W.keepIn K (.ref f) = true) (h3 : Binds K fd ps []) : FnHt P w K mg base x k ps TA T m := ⟨⟨f, fd, G, h1, h2, h3⟩⟩
theorem mkn_of {P : Program} {w : World} {K : PySem.W.Frag} {mg : Str → Option Value} {base : Heap} {x : Str} {k : Nat} {ps fs : List Str} {α β γ : Type} {S : TyS γ} {g : β → γ} {TA : TyS α} {m : α → WP β} {f : Addr} {fd : FuncData} (G : FnOk P w K mg base (L2N.CX P w) k f fd ps (spI K (cl K x) fs S g TA m)) (h1 : Mk K (cl K x) f) (h2 : Binds K fd ps []) (h3 : mg x = some (.ref (cl K x))) : Mk1N P w K mg base x k ps fs S g TA m := ⟨⟨f, fd, G, h1, h2⟩, h3⟩
theorem hot_of {X : Cx} {a : Addr} {oe : Obj} {cls : Value} {d : Option Addr} {pn : List (Addr × Obj)} (hz : L2N.Zn cls d oe) (hf : ∃ vs, oe.data = .fields vs) : HotC (X.suite a ((a, oe) :: pn)) := by
  obtain ⟨vs, hv⟩ := hf
  exact ⟨(a, oe), ⟨rfl, vs, hv, hz.2.2 vs hv⟩, List.mem_cons_self⟩
theorem roomS {X : Cx} {j k : Nat} {a : Addr} {pn : List (Addr × Obj)} (r : Room k X.A) (h : j ≤ k) : RoomH j (X.suite a pn).A := ⟨(r.mono h).dp, (r.mono h).un⟩
def clS {s l ρ α : Type} (_ : List α) (k : List α → SB s l ρ) : SB s l ρ := k []
theorem s_clr {X : Cx} {s l ρ : Type} {W : Wd} {XE : XK} {Γ : List Slot} {Γ' : s → List Slot} {ΓL : l → List Slot} {R : Ty ρ} {st : Stmt} {ss : List Stmt} {ts : TS} {α : Type} {T : Ty α} {i : Nat} {as : List α} {k : List α → SB s l ρ} (p : PS X st (tDrop (tBM0 X.K "list" rClear (tVar i)))) (h : Γ[i]? = some (.mu (ownL T) as))
    (B : ∀ bs, DS X W XE (Γ.set i (.mu (ownL T) bs)) ss ts Γ' ΓL R (k bs)) : DS X W XE Γ (st :: ss) (tSeq (tDrop (tBM0 X.K "list" rClear (tVar i))) ts) Γ' ΓL R (clS as k) := s_clear (k := k) p h B
end Dn

set_option maxHeartbeats 1000000
namespace Dn
open PySem PySem.Spec PyProof.Rows L2 Wx NdefX
/-! ### texts -/
theorem b_strS (z : Str × Unit) : RAOk (fun xs H Q => ∃ a, xs = [V.str a] ∧ Q (.str a) H) (tsC tyS tsN) z tyS (rt z.1) := fun Qa Ea h L H x Qv d ⟨v, r, e, hv, hr⟩ k => by
  have hr : r = [] := hr
  have hv : v = .str z.1 := hv
  subst hr hv
  exact ⟨z.1, e, k _ _ H h (Same.refl _) rfl⟩
theorem b_sortedS {K : PySem.W.Frag} (as : List Str × Unit) : RAOk (rSortedS K) (tsC (tyL tyS) tsN) as (tyL tyS) (fun Q _ => as.1.length < 64 ∧ ∀ bs : List Str, bs.Perm as.1 → sortedS bs = true → Q bs) := fun Qa Ea ⟨h1, h2⟩ L H x Qv d ⟨v, r, e, ⟨p, xs, ev, hs, rr⟩, hr⟩ k => by
  have hr : r = [] := hr
  subst hr ev
  rw [repsS rr] at hs
  exact ⟨p, _, e, SqL.of (vis_le _ _ hs), h1, fun ns q hp hs np => k ns _ _ (h2 ns hp hs) (same_new np) ⟨q, _, rfl, vis_new (notin_new d np), repsMapS ns⟩⟩
section
variable {X : Cx} {W : Wd} {Γ : List Slot} {XE : XK} {o e : Expr} {to te : TE} {apos pos p p2 q : Pos} {m1 : WP Str} {m2 : WP (List Str)} {K : PySem.W.Frag}
/-- o.join(e) -/
theorem d_join (hK : X.K = K) (A : DE X W XE Γ o to tyS m1) (B : DE X W XE Γ e te (tyQ K tyS) m2) (h1 : starEach [e] X.env = [(false, eval e X.env)] := by rfl) (h2 : attributeBase o "join" X.env (eval o X.env) = eval o X.env := by rfl) (h3 : (apos.endLine == pos.line) = true := by rfl) :
    DE X W XE Γ (.Call (.Attribute o "join" apos) [e] [] pos) (tM1 (fun x xs H Q => ∃ a p, ∃ ys : List Str, x = .str a ∧ xs = [.ref p] ∧ (SqL K H p (ys.map V.str) ∨ SqT K H p (ys.map V.str)) ∧ (ys.map (·.length)).sum + ys.length * a.length ≤ 16777216 ∧ Q (.str (Txt.join a ys)) H) to te) tyS
      (bd m1 fun a => bd m2 fun ys => nd ((ys.map (·.length)).sum + ys.length * a.length ≤ 16777216) (rt (Txt.join a ys))) := by
  subst hK
  exact ⟨pe_join A.pe B.pe h1 h2 h3, fun Qa Ea hh σ H F ev Qv aq ae => A.den _ _ hh σ H F ev _ (fun a x H1 ha ps r1 => ⟨⟨a, r1⟩, B.den _ _ ha σ H1 F (ev.step ps) _ (fun ys y H2 ⟨hc, hq⟩ ps2 ⟨l, xs, ey, hs, rr⟩ => by
    have ex : x = .str a := r1
    subst ex ey
    rw [repsS rr] at hs
    exact ⟨a, l, ys, rfl, rfl, hs.imp (same_sqL vis_le) (same_sqT vis_le), hc, aq _ _ H2 hq (ps.trans ps2) rfl⟩) (ae.step ps)⟩) ae⟩
/-- o.split() -/
theorem d_words (A : DE X W XE Γ o to tyS m1) (h2 : attributeBase o "split" X.env (eval o X.env) = eval o X.env := by rfl) (h3 : (apos.endLine == pos.line) = true := by rfl) :
    DE X W XE Γ (.Call (.Attribute o "split" apos) [] [] pos) (tM0 (fun x xs H Q => ∃ a, x = .str a ∧ xs = [] ∧ a.length + 2 ≤ sizeLine ∧ rNewStrs (Txt.words a) H Q) to) (tyL tyS) (bd m1 fun a => nd (a.length + 2 ≤ sizeLine) (rt (Txt.words a))) :=
  ⟨pe_words A.pe h2 h3, fun Qa Ea hh σ H F ev Qv aq ae => A.den _ _ hh σ H F ev _ (fun a x H1 ⟨hc, ha⟩ ps r1 => by
    have ex : x = .str a := r1
    subst ex
    refine ⟨⟨a, rfl⟩, a, rfl, rfl, hc, fun l np => ?_⟩
    exact aq _ _ _ ha (ps.trans (PSt.same ps.ok (same_new np))) ⟨l, _, rfl, vis_new (notin_new (ev.step ps).dom np), repsMapS _⟩) ae⟩
end
/-! ### data: what == and `in` are asked of at any depth -/
section
variable (K : PySem.W.Frag)
structure ToD {α : Type} (T : Ty α) (f : α → PyData) : Prop where
  dp : ∀ {x : V} {H : Hp} {u : α}, T.rep x H u → Dp K H x (f u)
end
section
variable {K : PySem.W.Frag}
theorem sqT_same {H H' : Hp} {p : Addr} {xs : List V} (s : Same H H') (h : SqT K H p xs) : SqT K H' p xs := same_sqT s h
mutual
theorem dp_same {H H' : Hp} (s : Same H H') : ∀ {v : V} {d : PyData}, Dp K H v d → Dp K H' v d
  | _, _, .non => .non
  | _, _, .bl b => .bl b
  | _, _, .int i => .int i
  | _, _, .str x => .str x
  | _, _, .lst q r => .lst (same_sqL s q) (dps_same s r)
  | _, _, .tup q r => .tup (same_sqT s q) (dps_same s r)
theorem dps_same {H H' : Hp} (s : Same H H') : ∀ {vs : List V} {ds : List PyData}, DpAll K H vs ds → DpAll K H' vs ds
  | _, _, .nil => .nil
  | _, _, .cons h r => .cons (dp_same s h) (dps_same s r)
end
variable (K) in
/-- data -/
def tyY : Ty PyData := ⟨fun x H d => Dp K H x d, fun s h => dp_same s h⟩
theorem toI : ToD K tyI PyData.int := ⟨fun {x H u} h => by have h : x = .int u := h; rw [h]; exact .int u⟩
theorem toS : ToD K tyS PyData.str := ⟨fun {x H u} h => by have h : x = .str u := h; rw [h]; exact .str u⟩
theorem toB : ToD K tyB PyData.bool := ⟨fun {x H u} h => by have h : x = .bl u := h; rw [h]; exact .bl u⟩
theorem toN : ToD K tyN fun _ => PyData.none := ⟨fun {x H u} h => by have h : x = .non := h; rw [h]; exact .non⟩
theorem toAll {α : Type} {T : Ty α} {f : α → PyData} (h : ToD K T f) {H : Hp} : ∀ {xs : List V} {as : List α}, Reps T.rep H xs as → DpAll K H xs (as.map f)
  | [], [], _ => .nil
  | x :: xs, a :: as, ⟨q, r⟩ => .cons (h.dp q) (toAll h r)
  | [], _ :: _, z => z.elim
  | _ :: _, [], z => z.elim
theorem toL {α : Type} {T : Ty α} {f : α → PyData} (h : ToD K T f) : ToD K (tyL T) fun u => .list (u.map f) := ⟨fun {x H u} ⟨p, xs, e, hp, r⟩ => by rw [e]; exact .lst (SqL.of hp) (toAll h r)⟩
theorem toT {α : Type} {T : Ty α} {f : α → PyData} (h : ToD K T f) : ToD K (tyT K T) fun u => .tuple (u.map f) := ⟨fun {x H u} ⟨p, xs, e, hp, r⟩ => by rw [e]; exact .tup hp (toAll h r)⟩
theorem toP2 {α β : Type} {T : Ty α} {S : Ty β} {f : α → PyData} {g : β → PyData} (h : ToD K T f) (k : ToD K S g) : ToD K (tyP K (ts2 T S)) fun u => .tuple [f u.1, g u.2] := ⟨fun {x H u} ⟨p, xs, e, hp, v, w, ex, h1, h2⟩ => by subst e ex; exact .tup hp (.cons (h.dp h1) (.cons (k.dp h2) .nil))⟩
theorem toP3 {α β γ : Type} {T : Ty α} {S : Ty β} {R : Ty γ} {f : α → PyData} {g : β → PyData} {j : γ → PyData} (h : ToD K T f) (k : ToD K S g) (l : ToD K R j) : ToD K (tyP K (ts3 T S R)) fun u => .tuple [f u.1, g u.2.1, j u.2.2] := ⟨fun {x H u} ⟨p, xs, e, hp, v, w, z, ex, h1, h2, h3⟩ => by subst e ex; exact .tup hp (.cons (h.dp h1) (.cons (k.dp h2) (.cons (l.dp h3) .nil)))⟩
theorem toY : ToD K (tyY K) id := ⟨fun h => h⟩
theorem o_eqY (u v : PyData) : R2Ok (rEqD K) (tyY K) u (tyY K) v tyB (nd (SeqAt.shaped u = true ∧ SeqAt.shaped v = true) (rt (PyData.eqv u v))) := fun Qa Ea ⟨⟨h1, h2⟩, h⟩ L H x y Qv d r1 r2 k => ⟨u, v, dp_same vis_le r1, dp_same vis_le r2, h1, h2, k _ _ H h (Same.refl _) rfl⟩
theorem o_neY (u v : PyData) : R2Ok (rNeD K) (tyY K) u (tyY K) v tyB (nd (SeqAt.shaped u = true ∧ SeqAt.shaped v = true) (rt (!PyData.eqv u v))) := fun Qa Ea ⟨⟨h1, h2⟩, h⟩ L H x y Qv d r1 r2 k => ⟨u, v, dp_same vis_le r1, dp_same vis_le r2, h1, h2, k _ _ H h (Same.refl _) rfl⟩
theorem o_inY {α : Type} {T : Ty α} {f : α → PyData} (t : ToD K T f) (u : PyData) (vs : List α) : R2Ok (rInD K) (tyY K) u (tyL T) vs tyB (nd (SeqAt.shaped u = true ∧ SeqAt.shaped (.list (vs.map f)) = true) (rt ((vs.map f).any fun z => PyData.eqv z u))) := fun Qa Ea ⟨⟨h1, h2⟩, h⟩ L H x y Qv d r1 r2 k => ⟨u, _, dp_same vis_le r1, dp_same vis_le ((toL t).dp r2), h1, h2, k _ _ H h (Same.refl _) rfl⟩
end
end Dn

set_option maxHeartbeats 1000000
namespace Dn
open PySem PySem.Spec PyProof.Rows L2 Wx NdefX
/-! ### a class whose __init__ takes a starred parameter alone -/
structure MkS (P : Program) (w : World) (K : PySem.W.Frag) (mg : Str → Option Value) (base : Heap) (x : Str) (k : Nat) (fs : List Str) {α β γ : Type} (S : TyS γ) (g : β → γ) (T : Ty α) (m : List α → WP β) : Prop where
  ex : ∃ f : Addr, FnR P w K mg base (L2.CX P w) k f (spStar 1 (spI K (cl K x) fs S g (tsC (tyT K T) tsN) fun a => m a.1)) ∧ Mk K (cl K x) f
  g : mg x = some (.ref (cl K x))
section
variable {X : Cx} {W : Wd} {Γ : List Slot} {XE : XK} {e : Expr} {es : List Expr} {tt : TA} {te : TE} {pos p p2 : Pos} {α β γ : Type} {T : Ty α} {S : TyS γ} {ma : WP (List α)} {m : List α → WP β} {g : β → γ} {x : Str} {k : Nat} {fs : List Str}
/-- what stands behind the making's call -/
theorem den_star {K : PySem.W.Frag} {C : Addr} {σ : L2.St} {H H1 : Hp} {F : List Addr} {vs : List V} {as : List α} {Qa : β → Prop} {Ea : Ex → Prop} {Qv : VK} (ev : EvF W Γ σ H F) (pst : PSt W H H1) (r : Reps T.rep (vis (W.M0 ++ F) H1) vs as) (hl : vs.length ≤ sizeLine) (hu : m as Qa Ea)
    (aq : Aft W F H (tyM (tyC C fs S) g) Qa Qv) (ae : AftE K W F H XE Ea) (y dx : Addr) (nx : H1 y = none) (nd : H1 dx = none) (ne : dx ≠ y) :
    spStar 1 (spI K C fs S g (tsC (tyT K T) tsN) fun a => m a.1) (V.ref y :: vs) (upd (upd H1 dx (.own y)) y (.ins C dx [])) (fun v H2 => v = .non ∧ Qv (.ref y) H2) XE := by
  have ev1 := ev.step pst
  have s1 : Same H1 (upd H1 dx (.own y)) := same_new nd
  have nx2 : (upd H1 dx (.own y)) y = none := by rw [upd_ne (fun z => ne z.symm)]; exact nx
  have s2 : Same H1 (upd (upd H1 dx (.own y)) y (.ins C dx [])) := s1.trans (same_new nx2)
  have nL : y ∉ W.M0 ++ F := notin_new ev1.dom nx
  refine star1 hl fun q nq => ?_
  have nqy : q ≠ y := fun z => by rw [z, upd_same] at nq; cases nq
  have nq1 : H1 q = none := by
    cases z : H1 q with
    | none => rfl
    | some o => rw [s2 q o z] at nq; cases nq
  have s3 : Same H1 (upd (upd (upd H1 dx (.own y)) y (.ins C dx [])) q (.tup vs)) := s2.trans (same_new nq)
  have up : Same (vis (W.M0 ++ F) H1) (vis (y :: (W.M0 ++ F)) (upd (upd (upd H1 dx (.own y)) y (.ins C dx [])) q (.tup vs))) := by
    intro b o e
    obtain ⟨nb, e⟩ := vis_some e
    rw [vis_out (by
      rw [List.mem_cons]
      rintro (z | z)
      · rw [z, nx] at e; cases e
      · exact nb z)]
    exact s3 b o e
  have nqL : q ∉ y :: (W.M0 ++ F) := by
    rw [List.mem_cons]
    rintro (z | z)
    · exact nqy z
    · exact notin_new ev1.dom nq1 z
  refine ⟨y, dx, [.ref q], W.M0 ++ F, (as, ()), Qa, Ea, rfl, by rw [upd_ne (fun z => nqy z.symm), upd_same], nL, fun b mb => ?_, ⟨.ref q, [], rfl, ⟨q, vs, rfl, SqT.of (by rw [vis_out nqL, upd_same]), T.all up r⟩, rfl⟩, hu, fun r ws H' dx' hr keep hp hl2 hrep => ⟨rfl, ?_⟩, fun e c d H' he keep q2 => ?_⟩
  · cases z : H1 b with
    | none => exact absurd z (ev1.dom b mb)
    | some o => rw [s3 b o z]; simp
  · have s4 : Same H1 H' := fun b o e => keep b o (ne_of_none e nx) (s3 b o e)
    refine aq r (.ref y) H' hr (pst.trans (PSt.same pst.ok s4)) ⟨y, dx', ws, rfl, ?_, hl2, S.mono (vis_less fun b m => List.mem_cons_of_mem _ m) hrep⟩
    rw [vis_out nL]
    exact hp
  · have s4 : Same H1 H' := fun b o e => keep b o (ne_of_none e nx) (s3 b o e)
    exact ae e c d H' he (pst.trans (PSt.same pst.ok s4)) q2
/-- C(a, b, ..) -/
theorem d_makeV {K : PySem.W.Frag} (hK : X.K = K) (c : MkS X.prog X.w K X.mg X.base x k fs S g T m) (hr : Room (k + 1) X.A) (hx : ∀ σ, PassesAt (L2.CX X.prog X.w) X σ XE) (A : DA X W XE Γ (e :: es) tt (tsQ T) ma) (hg : Gl X x := by rfl)
    (hdb : (x == ("__debug__" : Str)) = false := by decide) (h1 : starEach (e :: es) X.env = (false, eval e X.env) :: starEach es X.env := by rfl) (h2 : (backTo pos (starEach es X.env)).any (·.1) = false := by rfl) :
    DE X W XE Γ (.Call (.Name x p) (e :: es) [] pos) (tMakeRS (cl K x) (spStar 1 (spI K (cl K x) fs S g (tsC (tyT K T) tsN) fun a => m a.1)) (fun _ => XE) tt) (tyM (tyC (cl K x) fs S) g) (bd ma fun u => nd (u.length ≤ sizeLine) (m u)) := by
  subst hK
  refine ⟨by
    obtain ⟨f, F, M⟩ := c.ex
    exact pe_makeRS M F hr hg c.g hx A.pe hdb h1 h2, fun Qa Ea hh σ H F ev Qv aq ae => A.den _ _ hh σ H F ev _ (fun u vs H1 ⟨hl, hu⟩ pst r y dx nx nd ne => den_star ev pst r (by
      have : Reps T.rep (vis (W.M0 ++ F) H1) vs u := r
      rw [this.len]; exact hl) hu aq ae y dx nx nd ne) ae⟩
/-- C(*y) -/
theorem d_makeY {K : PySem.W.Frag} (hK : X.K = K) (c : MkS X.prog X.w K X.mg X.base x k fs S g T m) (hr : Room (k + 1) X.A) (hx : ∀ σ, PassesAt (L2.CX X.prog X.w) X σ XE) (A : DE X W XE Γ e te (tyQ K T) ma) (hg : Gl X x := by rfl)
    (hdb : (x == ("__debug__" : Str)) = false := by decide) (h1 : starEach [.Starred e p2] X.env = [(true, eval e X.env)] := by rfl) :
    DE X W XE Γ (.Call (.Name x p) [.Starred e p2] [] pos) (tMakeStar K (cl K x) (spStar 1 (spI K (cl K x) fs S g (tsC (tyT K T) tsN) fun a => m a.1)) (fun _ => XE) te) (tyM (tyC (cl K x) fs S) g) (bd ma fun u => nd (u.length ≤ sizeLine) (m u)) := by
  subst hK
  refine ⟨by
    obtain ⟨f, F, M⟩ := c.ex
    exact pe_makeStar M F hr hg c.g hx A.pe hdb h1, fun Qa Ea hh σ H F ev Qv aq ae => A.den _ _ hh σ H F ev _ (fun u v H1 ⟨hl, hu⟩ pst ⟨q, vs, e, hs, r⟩ => ?_) ae⟩
  subst e
  exact ⟨q, vs, rfl, hs.symm.imp (same_sqT vis_le) (same_sqL vis_le), fun y dx nx nd ne => den_star ev pst r (by rw [r.len]; exact hl) hu aq ae y dx nx nd ne⟩
end
/-! ### .. by its body -/
section
variable {P : Program} {w : World} {K : PySem.W.Frag} {mg : Str → Option Value} {base : Heap} {α : Type} {T : Ty α} {x qual : Str} {st : Stmt} {f : Addr} {fd : FuncData} {k : Nat} {Γ0 : List α → List Slot}
theorem fnIS {β γ : Type} {SF : TyS γ} {g : β → γ} {h : γ → β} {m : List α → WP β} {C : Addr} {fs N' : List Str} {pv : Str} {Γ' : γ → List Slot} (hg : ∀ b, g (h b) = b) (F : L2.Fun K x qual st f fd) (S : FnScope ("self" :: N') ((["self"] : List Str) ++ [pv]) (defScope st))
    (hb : ∀ (kV doc pm : Value) (an : Option Addr) (cdv ct : Value) (us rest : List Value), us.length = (["self"] : List Str).length → bindArgs (PySem.W.fnOf x qual (defArgs st) (defBody st) (defScope st) .none kV doc pm an cdv ct) ⟨us ++ rest, []⟩ = (newTuple rest >>= fun t => pure ((["self"] : List Str).zip us ++ [(pv, t)])))
    (hΓ : ∀ v G H as, (tyT K T).rep v G as → Ev G H (Γ0 as) (start N' [v]) [])
    (body : ∀ (cdv : Value) (A : Around) (outer : List Env) (s : Shared) (H : Hp) (E : XK), Room k (A.deeper (envOfC qual (defScope st) s.heap.objs.size f cdv)) → (∀ σ, Air (cxOf (L2.CX P w) P w K mg base ("self" :: N') qual (defScope st) f cdv A outer s H E) σ E) → Takes (cxOf (L2.CX P w) P w K mg base ("self" :: N') qual (defScope st) f cdv A outer s H E) (fun c d _ H => E c d H) →
      ∀ (L : List Addr) (p : Addr) (np : p ∉ L) (dL : ∀ b ∈ L, H b ≠ none) (as : List α), ∃ ts mb, DS (cxOf (L2.CX P w) P w K mg base ("self" :: N') qual (defScope st) f cdv A outer s H E) (wdI L p H np dL) E (.mu (ownI C p [] tsN) () :: Γ0 as) (defBody st) ts (fun b : γ => .mu (ownI C p fs SF) b :: Γ' b) (fun _ : Unit => []) tyN mb ∧
        ∀ Qa Ea, m as Qa Ea → mb ⟨fun b => Qa (h b), fun _ => False, fun _ => False, fun _ => False, Ea⟩) :
    FnR P w K mg base (L2.CX P w) (k + 1) f (spStar 1 (spI K C fs SF g (tsC (tyT K T) tsN) fun a => m a.1)) := by
  refine okStar (ps := ["self"]) (pv := pv) F S hb fun cdv A outer s H vs Q E hr hsp => ?_
  obtain ⟨p, dx, rest, L, a, Qa, Ea, e, hp, np, dL, ⟨v, r0, er, hv, h0⟩, hm, kq, ke⟩ := hsp
  have h0 : r0 = [] := h0
  subst e er h0
  obtain ⟨ts, mb, B, hbb⟩ := body cdv A outer s H E hr (fun σ => air_of (takes_of rfl rfl rfl rfl) rfl rfl) (takes_of rfl rfl rfl rfl) L p np dL a.1
  have es : L2.start ("self" :: N') [.ref p, v] = some (.ref p) :: L2.start N' [v] := by
    unfold L2.start
    simp
  rw [es]
  exact fn_bodyI hg B hp (hΓ _ _ _ _ hv) (hbb _ _ hm) kq ke
end
end Dn

set_option maxHeartbeats 1000000
namespace Dn
open PySem PySem.Spec PyProof.Rows L2 Wx NdefX
theorem upd_swap {H : Hp} {a b : Addr} {x y : HO} (h : a ≠ b) : upd (upd H a x) b y = upd (upd H b y) a x := by
  funext c
  by_cases e : c = b
  · subst e
    rw [upd_same, upd_ne (fun z => h z.symm), upd_same]
  · rw [upd_ne e]
    by_cases e2 : c = a
    · subst e2
      rw [upd_same, upd_same]
    · rw [upd_ne e2, upd_ne e2, upd_ne e]
/-- an error that keeps a tuple of what it is given -/
theorem err_turn {K : PySem.W.Frag} {sp : Sp} (hsp : ∀ (a t : Addr) (xs : List V) (H : Hp) (Q : VK) (XE : XK), H a = some (exo a (cl K "BadTurn") none) → ((SqT K H t xs ∧ InitLeaves H a (cl K "BadTurn") [("turn", .ref t)] Q) ∨ (SqL K H t xs ∧ ∀ q, H q = none → InitLeaves (upd H q (.tup xs)) a (cl K "BadTurn") [("turn", .ref q)] Q)) → sp [.ref a, .ref t] H Q XE) :
    ErrOk K "BadTurn" sp (tsC (tyQ K tyS) tsN) (fun _ => True) (fun u => .turn u.1) :=
  ⟨fun L H1 vs u dom ⟨v, r, e, ⟨t, xs, ev, hs, rr⟩, hr⟩ hc => by
    have hr : r = [] := hr
    subst hr ev e
    refine ⟨by show 1 ≤ 1000; decide, fun a na Q XE k => hsp a t xs _ Q XE upd_same ?_⟩
    have s1 : Same (vis L H1) (upd H1 a (exo a (cl K "BadTurn") none)) := vis_le.trans (same_new na)
    rcases hs with hs | hs
    · refine .inr ⟨same_sqL s1 hs, fun q nq => ?_⟩
      have nqa : a ≠ q := fun z => by rw [← z, upd_same] at nq; cases nq
      have nq1 : H1 q = none := by rw [upd_ne (fun z => nqa z.symm)] at nq; exact nq
      rw [upd_swap nqa]
      refine leaves_of (K := K) (by rw [upd_ne nqa]; exact na) fun H2 dx nd ne keep ea ed => ?_
      have ndq : dx ≠ q := fun z => by rw [z, upd_same] at nd; cases nd
      have nd1 : H1 dx = none := by rw [upd_ne ndq] at nd; exact nd
      have kq : H2 q = some (.tup xs) := keep q _ (fun z => nqa z.symm) upd_same
      refine k _ H2 H2 dx nd1 ne (fun b o nb e => keep b o nb (by rw [upd_ne (ne_of_none e nq1)]; exact e)) ea ed fun H' s kk hd => ⟨rfl, dx, _, rfl, (by rw [vis_out (notin_new dom nd1)]; exact hd), .ref q, rfl, q, xs, rfl, ?_, Ty.all tyS (vis_same s) rr⟩
      exact SqT.of (by rw [vis_out (notin_new dom nq1)]; exact kk q _ (fun z => nqa z.symm) (fun z => ndq z.symm) kq)
    · refine .inl ⟨same_sqT s1 hs, leaves_of (K := K) na fun H2 dx nd ne keep ea ed => ?_⟩
      refine k _ H2 H2 dx nd ne keep ea ed fun H' s _ hd => ⟨rfl, dx, _, rfl, (by rw [vis_out (notin_new dom nd)]; exact hd), .ref t, rfl, t, xs, rfl, same_sqT (vis_same s) hs, Ty.all tyS (vis_same s) rr⟩⟩
end Dn

set_option maxHeartbeats 1000000
namespace Dn
open PySem PySem.Spec PyProof.Rows L2 Wx NdefX L2H
/-! ### expressions of which one call may raise, in a try -/
/-- o.m(..) whose raising may lean on the slots -/
theorem pe_methQ {X : Cx} {CX : CXT} {k : Nat} {C f : Addr} {m : Str} {fd : FuncData} {ps : List Str} {sp : Sp} {E : L2.St → XK} {o e : Expr} {es : List Expr} {ta : TE} {t : TA} {apos pos : Pos} {pl : Sem Bool} (obj : PE X o ta) (cls : Cls X.K C) (mm : Meth X.K C m f) (G : FnOk X.prog X.w X.K X.mg X.base CX k f fd ps sp) (room : Room k X.A) (bnd : Binds X.K fd ps []) (pass : ∀ σ, PassesAt CX X σ (E σ)) (args : PA X (e :: es) t)
    (st1 : starEach (e :: es) X.env = (false, eval e X.env) :: starEach es X.env := by rfl) (st2 : (backTo pos (starEach es X.env)).any (·.1) = false := by rfl)
    (ev : eval (.Call (.Attribute o m apos) (e :: es) [] pos) X.env = (do
      let ov ← eval o X.env
      standAt apos.atName
      let (f, first) ← holding [ov] (getMethod ov m pl)
      callWith pos f first (backTo pos (starEach (e :: es) X.env)) (backToKw pos (keywordEach [] X.env))) := by rfl) :
    PE X (.Call (.Attribute o m apos) (e :: es) [] pos) (tMethH C m sp E ta t) := by
  constructor
  intro pins s0 σ0 H0 Q0 inv red
  refine PySem.W.methodCall_KW (pl := pl) (thn (obj.run pins s0 σ0 H0 _ inv red) fun u1 s1 got => ?_) ev
  obtain ⟨x1, H1, inv1, rel1, a1, dx1, fs1, ex1, ha1, hl1, rest⟩ := got
  subst ex1
  have eu : u1 = Value.ref a1 := rel1
  subst eu
  refine getmeth_ok inv1 ha1 cls mm hl1 (PySem.W.callWith_K (first := [.ref a1]) (h₀ := X.base) inv.ok.mod.kin mm.kp (thn (args.run pos pins s1 σ0 H1 _ inv1 rest) fun us s2 got2 => ?_) st1 st2)
  obtain ⟨vs, H2, inv2, rel2, q2⟩ := got2
  exact ⟨inv2.kIn, run_fnS (us := .ref a1 :: us) (vs := .ref a1 :: vs) G room bnd (pass σ0) inv2 (.cons rfl rel2) q2⟩
structure DQ (X : Cx) (W : Wd) (XF : L2.St → XK) (Γ : List Slot) (e : Expr) (te : TE) {α : Type} (T : Ty α) (m : WP α) : Prop where
  pe : PE X e te
  den : ∀ Qa Ea, m Qa Ea → ∀ σ H F, EvF W Γ σ H F → ∀ Qv, Aft W F H T Qa Qv → AftE X.K W F H (XF σ) Ea → te σ H Qv
section
variable {X : Cx} {W : Wd} {Γ : List Slot} {XF : L2.St → XK} {e o a b : Expr} {es : List Expr} {te ta tb : TE} {tt : TA} {pos p apos : Pos} {α β ρ : Type} {T : Ty α} {S : Ty β} {TA : TyS α} {R : Ty ρ} {m : WP α} {ma : WP α} {mo : WP β} {x : Str} {k : Nat} {ps : List Str}
theorem den_E0 {K : PySem.W.Frag} {XE : XK} (A : DenA K W E0 Γ tt TA ma) : DenA K W XE Γ tt TA (noE ma) := fun Qa Ea hh σ H F ev Qv aq _ => A _ _ hh σ H F ev Qv aq fun _ _ _ _ he _ _ => he.elim
theorem den_E0e {K : PySem.W.Frag} {XE : XK} (A : DenE K W E0 Γ te T m) : DenE K W XE Γ te T (noE m) := fun Qa Ea hh σ H F ev Qv aq _ => A _ _ hh σ H F ev Qv aq fun _ _ _ _ he _ _ => he.elim
theorem q_lift (A : DE X W E0 Γ e te T m) : DQ X W XF Γ e te T (noE m) := ⟨A.pe, fun Qa Ea hh σ H F ev Qv aq ae => A.den _ _ hh σ H F ev Qv aq fun _ _ _ _ he _ _ => he.elim⟩
theorem q_call {K : PySem.W.Frag} (hK : X.K = K) {m : α → WP ρ} (c : Fn X.prog X.w K X.mg X.base x k ps TA R m) (hr : Room k X.A) (hx : ∀ σ, PassesAt (L2.CX X.prog X.w) X σ (XF σ)) (A : DA X W E0 Γ (e :: es) tt TA ma) (hg : Gl X x := by rfl)
    (hdb : (x == ("__debug__" : Str)) = false := by decide) (h1 : starEach (e :: es) X.env = (false, eval e X.env) :: starEach es X.env := by rfl) (h2 : (backTo pos (starEach es X.env)).any (·.1) = false := by rfl) :
    DQ X W XF Γ (.Call (.Name x p) (e :: es) [] pos) (tCallS (spF K TA R m) XF tt) R (bd (noE ma) m) := by
  subst hK
  refine ⟨by
    obtain ⟨f, fd, G, hm, hk, hb⟩ := c.ex
    exact pe_callS G hr hg hm hk hb hx A.pe hdb h1 h2, fun Qa Ea hh σ H F ev Qv aq ae => ?_⟩
  exact den_call (XE := XF σ) (den_E0 A.den) _ _ hh σ H F ev Qv aq ae
theorem q_meth {K : PySem.W.Frag} (hK : X.K = K) {C : Addr} {mm : β → α → WP ρ} {pl : Sem Bool} (c : Mt X.prog X.w K X.mg X.base C x k ps (tsC S TA) R fun q => mm q.1 q.2) (hi : IsIns C x S) (hr : Room k X.A) (hx : ∀ σ, PassesAt (L2.CX X.prog X.w) X σ (XF σ)) (O : DE X W E0 Γ o ta S mo) (A : DA X W E0 Γ (e :: es) tt TA ma)
    (hst : starEach (e :: es) X.env = (false, eval e X.env) :: starEach es X.env := by rfl) (hpl : (backTo pos (starEach es X.env)).any (·.1) = false := by rfl)
    (ht : eval (.Call (.Attribute o x apos) (e :: es) [] pos) X.env = (do
      let ov ← eval o X.env
      standAt apos.atName
      let (f, first) ← holding [ov] (getMethod ov x pl)
      callWith pos f first (backTo pos (starEach (e :: es) X.env)) (backToKw pos (keywordEach [] X.env))) := by rfl) :
    DQ X W XF Γ (.Call (.Attribute o x apos) (e :: es) [] pos) (tMethH C x (spF K (tsC S TA) R fun q => mm q.1 q.2) XF ta tt) R (bd (noE mo) fun b => bd (noE ma) fun a => mm b a) := by
  subst hK
  refine ⟨by
    obtain ⟨f, fd, G, hm, hb⟩ := c.ex
    exact pe_methQ O.pe c.cls hm G hr hb hx A.pe hst hpl ht, fun Qa Ea hh σ H F ev Qv aq ae => ?_⟩
  refine den_E0e (XE := XF σ) O.den _ _ hh σ H F ev _ (fun b v H1 hb p1 r1 => ?_) ae
  obtain ⟨p, dx, fs, rfl, hp, hl⟩ := hi _ _ _ r1
  refine ⟨p, dx, fs, rfl, vis_le _ _ hp, hl, ?_⟩
  refine den_E0 (XE := XF σ) A.den _ _ hb σ H1 F (ev.step p1) _ (fun a vs H2 ha p2 r2 => ?_) (ae.step p1)
  exact ⟨W.M0 ++ F, (b, a), Qa, Ea, ((ev.step p1).step p2).dom, ⟨.ref p, vs, rfl, S.mono p2.vis r1, r2⟩, ha, fun r x H' hr s q => aq r x H' hr ((p1.trans p2).trans (PSt.same p2.ok s)) q, fun e c d H' he s q => ae e c d H' he ((p1.trans p2).trans (PSt.same p2.ok s)) q⟩
/-- another kind for the value -/
theorem q_as {f : α → β} (A : DQ X W XF Γ e te T m) (h : ∀ x H u, T.rep x H u → S.rep x H (f u)) : DQ X W XF Γ e te S (bd m fun u => rt (f u)) := ⟨A.pe, fun Qa Ea hh σ H F ev Qv aq ae => A.den _ _ hh σ H F ev _ (fun u x H1 hu p r => aq _ x H1 hu p (h _ _ _ r)) ae⟩
/-- (a, b), b may raise -/
theorem q_tup2 {x1} (A : DE X W E0 Γ a ta T m) (B : DQ X W XF Γ b tb S mo) (h1 : starEach [a, b] X.env = (false, eval a X.env) :: starEach [b] X.env := by rfl) (h2 : starEach [b] X.env = (false, eval b X.env) :: starEach [] X.env := by rfl) :
    DQ X W XF Γ (.Tuple [a, b] x1 pos) (tTup (tCons ta (tCons tb tNil))) (tyP X.K (ts2 T S)) (bd (noE m) fun u => bd mo fun v => rt (u, v)) := by
  refine ⟨pe_tup (pa_cons A.pe (pa_cons B.pe pa_nil h2) h1), fun Qa Ea hh σ H F ev Qv aq ae => ?_⟩
  refine den_E0e (XE := XF σ) A.den _ _ hh σ H F ev _ (fun u v1 H1 hu p1 r1 => ?_) ae
  refine B.den _ _ hu σ H1 F (ev.step p1) _ (fun w v2 H2 hw p2 r2 => ?_) (ae.step p1)
  refine ⟨Nat.le_trans (show 2 ≤ 10 by decide) (by decide), fun q nq => ?_⟩
  have ps2 := p1.trans p2
  have s : Same H2 (upd H2 q (.tup [v1, v2])) := same_new nq
  have fq : q ∉ W.M0 ++ F := notin_new (ev.step ps2).dom nq
  exact aq (u, w) (.ref q) _ hw (ps2.trans (PSt.same ps2.ok s)) ⟨q, _, rfl, SqT.of (vis_new fq), v1, v2, rfl, T.mono ((p2.vis).trans (vis_same s)) r1, S.mono (vis_same s) r2⟩
end
end Dn

set_option maxHeartbeats 1000000
namespace Dn
open PySem PySem.Spec PyProof.Rows L2 Wx NdefX L2H
/-! ### try with clauses that return -/
def hN {ρ : Type} : Ex → SB Unit Unit ρ := fun _ _ => False
def hC {ρ ι : Type} (mk : ι → Ex) (h : ι → SB Unit Unit ρ) (tl : Ex → SB Unit Unit ρ) : Ex → SB Unit Unit ρ := fun e D => (∃ u, e = mk u ∧ h u D) ∨ tl e D
def endR {ρ : Type} (rt : ρ → Prop) : AE Unit Unit ρ := ⟨fun _ => False, fun _ => False, fun _ => False, rt, fun _ => False⟩
def trR {s l ρ : Type} (m : WP ρ) (hs : Ex → SB Unit Unit ρ) : SB s l ρ := fun D => m D.rt (fun e => hs e (endR D.rt))
def trE {s l ρ α : Type} (m : WP α) (hs : Ex → SB Unit Unit ρ) (k : SB s l ρ) : SB s l ρ := fun D => m (fun _ => k D) (fun e => hs e (endR D.rt))
structure HD (X : Cx) (W : Wd) (Γ : List Slot) (n : Str) (i : Nat) {ρ : Type} (R : Ty ρ) (hds : List ExceptHandler) (l : List (Value × (Addr → Value → Option Addr → TS))) (hs : Ex → SB Unit Unit ρ) : Prop where
  ps : HdsAs X n hds l
  den : ∀ e rt, hs e (endR rt) → ∀ c d σ H F, EvF W Γ σ H F → ExRep X.K e c d (vis (W.M0 ++ F) H) → ∀ D : Ends, (∀ r x H, rt r → Out W H → R.rep x (vis W.M0 H) r → D.rt x H) → wAss X.K i (fun _ _ _ _ => False) D l c d σ H
def NoX {ρ : Type} (K : PySem.W.Frag) (c0 : Value) (tl : Ex → SB Unit Unit ρ) : Prop := ∀ e A, tl e A → ∀ c d H, ExRep K e c d H → PySem.W.exmOne K c c0 = some false
section
variable {X : Cx} {W : Wd} {Γ : List Slot} {n : Str} {i : Nat} {ρ ι : Type} {R : Ty ρ} {hds : List ExceptHandler} {l : List (Value × (Addr → Value → Option Addr → TS))} {mk : ι → Ex} {h : ι → SB Unit Unit ρ} {tl : Ex → SB Unit Unit ρ} {c0 : Value} {K : PySem.W.Frag}
theorem nox_nil : NoX (ρ := ρ) K c0 hN := fun _ _ z => z.elim
theorem nox_cons (q : ∀ u c d H, ExRep K (mk u) c d H → PySem.W.exmOne K c c0 = some false) (t : NoX K c0 tl) : NoX K c0 (hC mk h tl) := by
  rintro e A (⟨u, rfl, _⟩ | z) c d H r
  · exact q u c d H r
  · exact t e A z c d H r
theorem hd_nil : HD X W Γ n i R [] [] hN := ⟨.nil, fun _ _ z => z.elim⟩
theorem hd_cons [Inhabited ι] {x : Str} {np pos' : Pos} {b0 : Stmt} {suite : List Stmt} {tsu : Addr → Value → Option Addr → TS} (nms : Names X x c0) (Tx : Addr → Value → Option Addr → Ty ι) (yes : ∀ u c d H, ExRep X.K (mk u) c d H → PySem.W.exmOne X.K c c0 = some true)
    (sl : ∀ u c d H a, ExRep X.K (mk u) c d H → (Tx a c d).rep (.ref a) H u) (no : NoX X.K c0 tl) (hi : (Γ[i]?.any Slot.imm) = true)
    (SU : ∀ (a : Addr) (oe : Obj) (cls : Value) (d : Option Addr) (pn : List (Addr × Obj)), Zc cls d oe → (∃ vs, oe.data = .fields vs) → ∀ u : ι, DS (X.suite a ((a, oe) :: pn)) W E0 (Γ.set i (.rp (Tx a cls d) u)) (b0 :: suite) (tsu a cls d) (fun _ : Unit => []) (fun _ : Unit => []) R (h u))
    (tail : HD X W Γ n i R hds l tl) : HD X W Γ n i R (.ExceptHandler (some (.Name x np)) (some n) (b0 :: suite) pos' :: hds) ((c0, tsu) :: l) (hC mk h tl) :=
  ⟨.cons nms (fun a oe cls d pn hz hf => (SU a oe cls d pn hz hf default).ps) tail.ps, by
    rintro e rt (⟨u, rfl, hu⟩ | z) c d σ H F ev r D k
    · refine ⟨true, yes u c d _ r, fun _ a na => ?_, fun y => (by cases y)⟩
      have ev2 := ev.set (T := Tx a c d) (a := u) (v := .ref a) (i := i) (sl u c d _ a r) hi
      exact (SU a ⟨c, d, .fields #[], #[]⟩ c d [] ⟨rfl, rfl⟩ ⟨_, rfl⟩ u).den _ hu _ H F ev2 _ ⟨fun _ _ _ _ z => z.elim, fun _ _ _ _ z => z.elim, fun _ _ _ _ z => z.elim, k, fun _ _ _ _ z => z.elim⟩
    · exact ⟨false, no e _ z c d _ r, ⟨fun y => (by cases y), fun _ => tail.den e rt z c d σ H F ev r D k⟩⟩⟩
end
section
variable {X : Cx} {W : Wd} {Γ : List Slot} {n : Str} {i : Nat} {s l' ρ α : Type} {R : Ty ρ} {T : Ty α} {h0 : ExceptHandler} {hds : List ExceptHandler} {l : List (Value × (Addr → Value → Option Addr → TS))} {hs : Ex → SB Unit Unit ρ} {XE : XK} {e : Expr} {te : WX → TE} {m : WP ρ} {me : WP α} {p1 p2 : Pos} {Γ' : s → List Slot} {ΓL : l' → List Slot} {ss : List Stmt} {ts : TS} {k : SB s l' ρ}
/-- try: return e -/
theorem s_tryR (hex : X.ex = []) (stk : X.stack = X.env :: X.outer) (frm : X.env.frame = some X.env.locals) (nd : X.N.Nodup) (atI : X.N[i]? = some n) (lcl : X.env.kindOf n = some .local)
    (A : ∀ (WW : WX) (pn : List (Addr × Obj)) (xe : Value → Shared → Prop), Takes (X.tr pn xe) WW → DQ (X.tr pn xe) W (WE WW) Γ e (te WW) R m) (HH : HD X W Γ n i R (h0 :: hds) l hs) :
    DS X W XE Γ [.Try [.Return (some e) p1] (h0 :: hds) [] [] p2] (tSeq (fun D σ H => tSeq (tRet (te (wAss X.K i (fun _ _ _ _ => False) D l))) tNext D σ H) tNext) Γ' ΓL R (trR m hs) :=
  ⟨pss_cons (ps_try_ass hex stk frm nd atI lcl takes0 (tb := fun WW => tSeq (tRet (te WW)) tNext) (fun WW pn xe tkW _ => pss_cons (ps_ret (A WW pn xe tkW).pe) pss_nil) HH.ps) pss_nil, fun Z hZ σ H F ev D M =>
    (A (wAss X.K i (fun _ _ _ _ => False) { D with nx := tNext D } l) [] (fun _ _ => True) (fun _ _ _ => trivial)).den _ _ hZ σ H F ev _ (M.ret ev) fun ex c d H1 he p r => HH.den ex _ he c d σ H1 F (ev.step p) r _ M.rt⟩
/-- try: e -/
theorem s_tryE (hex : X.ex = []) (stk : X.stack = X.env :: X.outer) (frm : X.env.frame = some X.env.locals) (nd : X.N.Nodup) (atI : X.N[i]? = some n) (lcl : X.env.kindOf n = some .local)
    (A : ∀ (WW : WX) (pn : List (Addr × Obj)) (xe : Value → Shared → Prop), Takes (X.tr pn xe) WW → DQ (X.tr pn xe) W (WE WW) Γ e (te WW) T me) (HH : HD X W Γ n i R (h0 :: hds) l hs) (B : DS X W XE Γ ss ts Γ' ΓL R k)
    (hsw : ∀ pn xe, swapsWith e none p1.line (X.tr pn xe).env = pure false := by intro _ _; rfl) :
    DS X W XE Γ (.Try [.Expr e p1] (h0 :: hds) [] [] p2 :: ss) (tSeq (fun D σ H => tSeq (tDrop (te (wAss X.K i (fun _ _ _ _ => False) D l))) tNext D σ H) ts) Γ' ΓL R (trE me hs k) :=
  ⟨pss_cons (ps_try_ass hex stk frm nd atI lcl takes0 (tb := fun WW => tSeq (tDrop (te WW)) tNext) (fun WW pn xe tkW _ => pss_cons (ps_expr (A WW pn xe tkW).pe (hsw pn xe)) pss_nil) HH.ps) B.ps, fun Z hZ σ H F ev D M =>
    (A (wAss X.K i (fun _ _ _ _ => False) { D with nx := ts D } l) [] (fun _ _ => True) (fun _ _ _ => trivial)).den _ _ hZ σ H F ev _ (fun u x H1 hu p r => B.den Z hu σ H1 F (ev.step p) D (M.up p.vis)) fun ex c d H1 he p r => HH.den ex _ he c d σ H1 F (ev.step p) r _ M.rt⟩
end
/-! ### what a caught error tells -/
/-- the caught error's place; its attribute f -/
def tyXf {ι : Type} (K : PySem.W.Frag) (C f : Str) (T : Ty ι) (a : Addr) (cls : Value) (d : Option Addr) : Ty ι := ⟨fun x H u => x = .ref a ∧ cls = .ref (cl K C) ∧ ∃ dd fs v, d = some dd ∧ H dd = some (.xd fs) ∧ fs.lookup f = some v ∧ T.rep v H u,
  fun s ⟨e, c, dd, fs, v, hd, h, l, r⟩ => ⟨e, c, dd, fs, v, hd, s _ _ h, l, T.mono s r⟩⟩
theorem d_xf {X : Cx} {W : Wd} {XE : XK} {Γ : List Slot} {a : Addr} {oe : Obj} {d : Option Addr} {pn : List (Addr × Obj)} {cls : Value} {K : PySem.W.Frag} {C f : Str} {e : Expr} {pos : Pos} {i : Nat} {ι : Type} {T : Ty ι} {u : ι} (hK : X.K = K) (h : Γ[i]? = some (.rp (tyXf K C f T a cls d) u)) (tx : XfC K (cl K C)) (hno : PySem.W.findIn K (.ref (cl K C)) f = some none) (hz : Zc cls d oe) (hf : ∃ vs, oe.data = .fields vs)
    (po : PE (X.suite a ((a, oe) :: pn)) e (tVar i)) (hb : attributeBase e f X.env (eval e X.env) = eval e X.env := by rfl) : DE (X.suite a ((a, oe) :: pn)) W XE Γ (.Attribute e f pos) (tXf a cls d (cl K C) f (tVar i)) T (rt u) := by
  subst hK
  exact ⟨pe_xf tx hno hz hf po hb, fun Qa Ea hh σ H F ev Qv aq ae => by
    obtain ⟨x, hx, rfl, hc, dd, fs, v, hd, hdd, hl, r⟩ := ev.sl.get h
    exact ⟨_, hx, rfl, hc, dd, fs, v, hd, vis_le _ _ hdd, hl, aq u v H hh (PSt.refl ev.ok) r⟩⟩
section
variable {K : PySem.W.Frag}
theorem sl_name : ∀ (u : Str) c d H a, ExRep K (.name (.str u)) c d H → (tyXf K "BadName" "name" tyS a c d).rep (.ref a) H u := fun u c d H a ⟨hc, dd, fs, hd, hx, hl⟩ => ⟨rfl, hc, dd, fs, _, hd, hx, hl, rfl⟩
theorem sl_turn : ∀ (u : List Str) c d H a, ExRep K (.turn u) c d H → (tyXf K "BadTurn" "turn" (tyT K tyS) a c d).rep (.ref a) H u := fun u c d H a ⟨hc, dd, fs, hd, hx, v, hl, r⟩ => ⟨rfl, hc, dd, fs, v, hd, hx, hl, r⟩
theorem sl_standing : ∀ (u : StdV) c d H a, ExRep K (.standing u) c d H → (tyXf K "BadStanding" "standing" (tyStd K) a c d).rep (.ref a) H u := fun u c d H a ⟨hc, dd, fs, hd, hx, v, hl, r⟩ => ⟨rfl, hc, dd, fs, v, hd, hx, hl, r⟩
theorem is_name : ∀ (u : Str) c d H, ExRep K (.name (.str u)) c d H → c = .ref (cl K "BadName") := fun _ _ _ _ h => h.1
theorem is_turn : ∀ (u : List Str) c d H, ExRep K (.turn u) c d H → c = .ref (cl K "BadTurn") := fun _ _ _ _ h => h.1
theorem is_standing : ∀ (u : StdV) c d H, ExRep K (.standing u) c d H → c = .ref (cl K "BadStanding") := fun _ _ _ _ h => h.1
theorem exm_of {ι : Type} {mk : ι → Ex} {C : Value} {c0 : Value} {b : Bool} (i : ∀ u c d H, ExRep K (mk u) c d H → c = C) (h : PySem.W.exmOne K C c0 = some b) : ∀ u c d H, ExRep K (mk u) c d H → PySem.W.exmOne K c c0 = some b := fun u c d H r => by rw [i u c d H r]; exact h
end
end Dn

set_option maxHeartbeats 1000000
namespace Dn
open PySem PySem.Spec PyProof.Rows L2 Wx NdefX L2H
/-! ### tuples of which it is known that they bear no dict -/
def XT (o : Obj) : Prop := o.cls = .type "tuple" ∧ o.dict = none
theorem call_tupleX {X : Cx} : CallR X (.type "tuple") (fun xs H Q => ∃ p ys, xs = [V.ref p] ∧ SqL X.K H p ys ∧ ∀ l o, XT o → H l = none → Q (.ref l) (upd H l (.frz o (.tup ys)))) := by
  intro pins s0 σ0 H0 args us Q inv rel red
  obtain ⟨p, ys, rfl, lay, rest⟩ := red
  obtain ⟨u, rfl, ru⟩ := vals1 rel
  cases ru
  obtain ⟨cells, vals, plain, size⟩ := inv.list lay
  have many := vals.length
  refine call_tuple_list plain.isList (fun heap kept => ?_) (by simp only [List.size_toArray] <;> omega)
  have inv1 : Inv X pins σ0 H0 { s0 with heap := heap } := inv.kept (t' := s0.toks) kept
  have inv2 := inv1.laid (t' := s0.toks) (a := heap.objs.size) (o := .frz { cls := .type "tuple", data := .seq cells.toArray } (.tup ys)) (h' := heap.push { cls := .type "tuple", data := .seq cells.toArray }) (fun b o e => Heap.get?_push_of_some _ e) (Nat.le_refl _)
    (show ObjOk X.prog X.w _ _ _ (.frz _ (.tup ys)) from ⟨Heap.get?_push_size _ rfl, size, cells, vals, IsTup.new _ _⟩)
  exact ⟨.ref heap.objs.size, _, inv2, rfl, rest _ _ ⟨rfl, rfl⟩ (inv1.hok.fresh (Nat.le_refl _))⟩
section
variable (K : PySem.W.Frag) {α : Type}
def tyE (T : Ty α) : Ty (List α) := ⟨fun x H as => ∃ p o xs, x = .ref p ∧ H p = some (.frz o (.tup xs)) ∧ XT o ∧ Reps T.rep H xs as, fun s ⟨p, o, xs, e, h, q, r⟩ => ⟨p, o, xs, e, s _ _ h, q, Ty.all T s r⟩⟩
end
section
variable {K : PySem.W.Frag} {α : Type} {T : Ty α}
theorem eT {x : V} {H : Hp} {u : List α} (h : (tyE T).rep x H u) : (tyT K T).rep x H u := let ⟨p, o, xs, e, hp, _, r⟩ := h; ⟨p, xs, e, .inl (.inr ⟨o, hp⟩), r⟩
theorem eQ {x : V} {H : Hp} {u : List α} (h : (tyE T).rep x H u) : (tyQ K T).rep x H u := let ⟨p, o, xs, e, hp, _, r⟩ := h; ⟨p, xs, e, .inr (.inl (.inr ⟨o, hp⟩)), r⟩
theorem b_tupleX (as : List α × Unit) : RAOk (fun xs H Q => ∃ p ys, xs = [V.ref p] ∧ SqL K H p ys ∧ ∀ l o, XT o → H l = none → Q (.ref l) (upd H l (.frz o (.tup ys)))) (tsC (tyL T) tsN) as (tyE T) (rt as.1) := fun Qa Ea h L H x Qv d ⟨v, r, e, ⟨p, xs, ev, hs, rr⟩, hr⟩ k => by
  have hr : r = [] := hr
  subst hr ev
  refine ⟨p, xs, e, SqL.of (vis_le _ _ hs), fun l o ho hl => k _ _ _ h (same_new hl) ⟨l, o, xs, rfl, vis_new (notin_new d hl), ho, Ty.all T (vis_same (same_new hl)) rr⟩⟩
end
/-- o.name(..), o such a tuple -/
def tTM (r : V → List V → Hp → VK → Prop) (to : TE) (t : TA) : TE := fun σ H Q => to σ H fun x H1 => (∃ p o u, x = .ref p ∧ H1 p = some (.frz o u) ∧ XT o) ∧ t σ H1 fun vs H2 => r x vs H2 Q
theorem pe_tm {X : Cx} {o e : Expr} {es : List Expr} {to : TE} {t : TA} {name : Str} {apos cpos : Pos} {id : String} {r : V → List V → Hp → VK → Prop} (pa : PlainAttrs "tuple") (slot : PySem.Slot "tuple" name id) (hty : typeOf (.builtin id) = pure (.type "method_descriptor")) (rule : MtR X id r) (obj : PE X o to) (args : PA X (e :: es) t)
    (base : attributeBase o name X.env (eval o X.env) = eval o X.env := by rfl)
    (few : ((backTo cpos (starEach (e :: es) X.env)).all (fun x => !x.1) && (backToKw cpos (keywordEach [] X.env)).all (fun x => x.1.isSome) && decide ((e :: es).length + ([] : List Keyword).length + (if ([] : List Keyword).isEmpty then 0 else 1) < 30)) = true := by rfl)
    (line : (apos.endLine == cpos.line) = true := by rfl) (st1 : starEach (e :: es) X.env = (false, eval e X.env) :: starEach es X.env := by rfl) (st2 : (backTo cpos (starEach es X.env)).any (·.1) = false := by rfl) :
    PE X (.Call (.Attribute o name apos) (e :: es) [] cpos) (tTM r to t) := by
  constructor
  intro pins s0 σ0 H0 Q inv red
  refine wpAny_Call_method_late base few line rfl (thn (obj.run pins s0 σ0 H0 _ inv red) fun v s1 got => ?_)
  obtain ⟨x, H1, inv1, rel1, ⟨p, ob, u, ex, hp, xt⟩, rest⟩ := got
  subst ex
  cases rel1
  obtain ⟨gp, _⟩ : ObjOk X.prog X.w H1 s1.heap p (.frz ob u) := inv1.hok p _ hp
  refine ⟨"tuple", id, pa, slot, hty, ⟨ob, gp, xt.1⟩, fun a ea => (by cases ea; exact ⟨ob, gp, xt.2⟩), ?_⟩
  have run := args.run cpos pins s1 σ0 H1 _ inv1 rest
  rw [st1] at run ⊢
  exact Calls.callWith_builtin (show (false || (backTo cpos (starEach es X.env)).any (·.1)) = false by rw [st2] <;> rfl) (Calls.evalArgs_plain (thn run fun us s2 ⟨vs, H2, inv2, rel2, q2⟩ => rule pins s2 σ0 H2 (.ref p) vs (.ref p) us Q inv2 rfl rel2 q2))
section
variable {X : Cx} {W : Wd} {Γ : List Slot} {XE : XK} {o e : Expr} {to te : TE} {apos pos : Pos} {m1 : WP (List Str)} {m2 : WP Str}
def idxW (xs : List Str) (z : Str) : WP Int := fun Q _ => ∃ j : Nat, xs[j]? = some z ∧ (∀ m, m < j → xs[m]? ≠ some z) ∧ Q (j : Int)
theorem d_tindex (A : DE X W XE Γ o to (tyE tyS) m1) (B : DE X W XE Γ e te tyS m2) (base : attributeBase o "index" X.env (eval o X.env) = eval o X.env := by rfl)
    (few : ((backTo pos (starEach [e] X.env)).all (fun x => !x.1) && (backToKw pos (keywordEach [] X.env)).all (fun x => x.1.isSome) && decide (([e] : List Expr).length + ([] : List Keyword).length + (if ([] : List Keyword).isEmpty then 0 else 1) < 30)) = true := by rfl)
    (line : (apos.endLine == pos.line) = true := by rfl) (st1 : starEach [e] X.env = (false, eval e X.env) :: starEach [] X.env := by rfl) (st2 : (backTo pos (starEach [] X.env)).any (·.1) = false := by rfl) :
    DE X W XE Γ (.Call (.Attribute o "index" apos) [e] [] pos) (tTM (fun x xs H Q => ∃ p, ∃ ys : List Str, ∃ z j, x = .ref p ∧ xs = [.str z] ∧ SqT X.K H p (ys.map V.str) ∧ ys[j]? = some z ∧ (∀ m, m < j → ys[m]? ≠ some z) ∧ Q (.int (j : Nat)) H) to (tCons te tNil)) tyI (bd m1 fun xs => bd m2 fun z => idxW xs z) :=
  ⟨pe_tm PySem.F.plainAttrs_tuple PySem.F.slot_tuple_index PySem.F.type_tuple_index mt_tup_index A.pe (pa_cons B.pe pa_nil st1) base few line st1 st2, fun Qa Ea hh σ H F ev Qv aq ae => A.den _ _ hh σ H F ev _ (fun xs x H1 hx p1 ⟨p, ob, vs, ex, hp, xt, rr⟩ => by
    subst ex
    refine ⟨⟨p, ob, _, rfl, vis_le _ _ hp, xt⟩, B.den _ _ hx σ H1 F (ev.step p1) _ (fun z y H2 ⟨j, h1, h2, hq⟩ p2 ry => ?_) (ae.step p1)⟩
    have ey : y = .str z := ry
    subst ey
    have hp2 := vis_le _ _ (p2.vis _ _ hp)
    rw [repsS rr] at hp2
    exact ⟨p, xs, z, j, rfl, rfl, .inl (.inr ⟨ob, hp2⟩), h1, h2, aq _ _ H2 hq (p1.trans p2) rfl⟩) ae⟩
end
/-! ### in a tuple of data -/
def rInT (K : PySem.W.Frag) (neg : Bool) : R2 := fun x y H Q => ∃ d ds, Dp K H x d ∧ Dp K H y (.tuple ds) ∧ SeqAt.shaped d = true ∧ SeqAt.shaped (.tuple ds) = true ∧ Q (.bl (if neg then !ds.any fun z => PyData.eqv z d else ds.any fun z => PyData.eqv z d)) H
theorem plainAll_of {ds : List PyData} (h : SeqAt.shaped (.tuple ds) = true) : PyData.plainAll ds = true := PyData.plain_of_canLay0 (.tuple ds) (SeqAt.canLay_of_shaped h)
theorem op_inT {X : Cx} (hu : X.A.units + 65 < cLine) : OpR X (compareOp .In) (rInT X.K false) := by
  intro pins s0 σ0 H0 x y v u Q inv rx ry red
  obtain ⟨d, ds, hd, he, sd, se, q⟩ := red
  obtain ⟨as, r1⟩ := Dp.reads inv d x v hd rx
  obtain ⟨bs, r2⟩ := Dp.reads inv (.tuple ds) y u he ry
  exact SeqAt.in_tuple_data r2 r1 (plainAll_of se) (PyData.plain_of_canLay0 d (SeqAt.canLay_of_shaped sd)) (room_in_shaped sd hu) ⟨.bl _, H0, inv, rfl, q⟩
theorem op_notInT {X : Cx} (hu : X.A.units + 65 < cLine) : OpR X (compareOp .NotIn) (rInT X.K true) := by
  intro pins s0 σ0 H0 x y v u Q inv rx ry red
  obtain ⟨d, ds, hd, he, sd, se, q⟩ := red
  obtain ⟨as, r1⟩ := Dp.reads inv d x v hd rx
  obtain ⟨bs, r2⟩ := Dp.reads inv (.tuple ds) y u he ry
  exact SeqAt.notIn_tuple_data r2 r1 (plainAll_of se) (PyData.plain_of_canLay0 d (SeqAt.canLay_of_shaped sd)) (room_in_shaped sd hu) ⟨.bl _, H0, inv, rfl, q⟩
theorem o_inT {K : PySem.W.Frag} {α β : Type} {T : Ty α} {S : Ty β} {f : α → PyData} {g : β → PyData} (t : ToD K T f) (t2 : ToD K S g) (neg : Bool) (u : β) (vs : List α) : R2Ok (rInT K neg) S u (tyT K T) vs tyB (nd (SeqAt.shaped (g u) = true ∧ SeqAt.shaped (.tuple (vs.map f)) = true) (rt (if neg then !(vs.map f).any fun z => PyData.eqv z (g u) else (vs.map f).any fun z => PyData.eqv z (g u)))) := fun Qa Ea ⟨⟨h1, h2⟩, h⟩ L H x y Qv d r1 r2 k => ⟨g u, _, dp_same vis_le (t2.dp r1), dp_same vis_le ((toT t).dp r2), h1, h2, k _ _ H h (Same.refl _) rfl⟩
end Dn

set_option maxHeartbeats 1000000
namespace Dn
open PySem PySem.Spec PyProof.Rows L2 Wx NdefX L2H
/-! ### methods that give a new list -/
theorem vis_vis {L : List Addr} {p : Addr} {H : Hp} : vis [p] (vis L H) = vis (p :: L) H := by
  funext b
  unfold vis
  by_cases h1 : b = p
  · rw [if_pos (by rw [h1]; exact List.mem_singleton.mpr rfl), if_pos (by rw [h1]; exact List.mem_cons_self)]
  · rw [if_neg (fun z => h1 (List.mem_singleton.mp z))]
    by_cases h2 : b ∈ L
    · rw [if_pos h2, if_pos (List.mem_cons_of_mem _ h2)]
    · rw [if_neg h2, if_neg (fun z => (List.mem_cons.mp z).elim h1 h2)]
/-- a list that was not there in H0 -/
def tyFr {α : Type} (H0 : Hp) (T : Ty α) : Ty (List α) := ⟨fun x H as => ∃ p xs, x = .ref p ∧ H0 p = none ∧ H p = some (.lst xs) ∧ Reps T.rep (vis [p] H) xs as, fun s ⟨p, xs, e, n, h, r⟩ => ⟨p, xs, e, n, s _ _ h, Ty.all _ (vis_same s) r⟩⟩
section
variable {X : Cx} {s l α : Type} {L : List Addr} {H0 : Hp} {dL : ∀ b ∈ L, H0 b ≠ none} {XE : XK} {Γ : List Slot} {Γ' : s → List Slot} {ΓL : l → List Slot} {e : Expr} {te : TE} {T : Ty α} {m : WP (List α)}
theorem s_retFr {pos : Pos} (A : DN X (wdF L H0 dL) XE Γ e te T m) : DS X (wdF L H0 dL) XE Γ [.Return (some e) pos] (tSeq (tRet te) tNext) Γ' ΓL (tyFr H0 T) (reS m) :=
  ⟨pss_cons (ps_ret A.pe) pss_nil, fun Z hZ σ H F ev D M => A.den _ _ hZ σ H F ev _ (fun as p vs H' ha pst np hp hr => by
    have nL : p ∉ L := fun z => (wdF L H0 dL).dom ev.ok p z np
    have n0 : H0 p = none := by
      cases q : H0 p with
      | none => rfl
      | some o =>
        have := ev.frm p o nL q
        rw [np] at this
        cases this
    refine M.rt as (.ref p) H' ha (ev.step pst).out ⟨p, vs, rfl, n0, by exact (vis_out (L := L) nL : vis L H' p = H' p).trans hp, ?_⟩
    rw [show vis [p] (vis (wdF L H0 dL).M0 H') = vis (p :: L) H' from vis_vis]
    refine Ty.all T (vis_less fun b mb => ?_) hr
    rcases List.mem_cons.mp mb with q | q
    · rw [q]; exact List.mem_cons_self
    · exact List.mem_cons_of_mem _ (List.mem_append_left _ q)) (M.aft ev)⟩
end
def spN (K : PySem.W.Frag) {α ρ : Type} (TA : TyS α) (T : Ty ρ) (m : α → WP (List ρ)) : Sp := fun vs H Q E => ∃ (L : List Addr) (a : α) (Qa : List ρ → Prop) (Ea : Ex → Prop), (∀ b ∈ L, H b ≠ none) ∧ TA.rep vs (vis L H) a ∧ m a Qa Ea ∧
  (∀ r p xs H', Qa r → Same H H' → H p = none → H' p = some (.lst xs) → Reps T.rep (vis (p :: L) H') xs r → Q (.ref p) H') ∧ (∀ e c d H', Ea e → Same H H' → ExRep K e c d (vis L H') → E c d H')
section
variable {P : Program} {w : World} {K : PySem.W.Frag} {mg : Str → Option Value} {base : Heap} {α ρ : Type} {TA : TyS α} {T : Ty ρ} {m : α → WP (List ρ)} {x qual : Str} {st : Stmt} {f : Addr} {fd : FuncData} {N ps : List Str} {k : Nat} {Γ0 : α → List Slot}
theorem fnVN (F : L2.Fun K x qual st f fd) (S : FnScope N ps (defScope st)) (hl : ∀ vs G a, TA.rep vs G a → vs.length = ps.length) (hΓ : ∀ vs G H a, TA.rep vs G a → Ev G H (Γ0 a) (start N vs) [])
    (body : ∀ (cdv : Value) (A : Around) (outer : List Env) (s : Shared) (H : Hp) (E : XK), Room k (A.deeper (envOfC qual (defScope st) s.heap.objs.size f cdv)) → (∀ σ, Air (cxOf (L2.CX P w) P w K mg base N qual (defScope st) f cdv A outer s H E) σ E) → Takes (cxOf (L2.CX P w) P w K mg base N qual (defScope st) f cdv A outer s H E) (fun c d _ H => E c d H) →
      ∀ (L : List Addr) (dL : ∀ b ∈ L, H b ≠ none) (a : α), ∃ ts mb, DS (cxOf (L2.CX P w) P w K mg base N qual (defScope st) f cdv A outer s H E) (wdF L H dL) E (Γ0 a) (defBody st) ts (fun _ : Unit => []) (fun _ : Unit => []) (tyFr H T) mb ∧
        ∀ Qa Ea, m a Qa Ea → mb ⟨fun _ => False, fun _ => False, fun _ => False, Qa, Ea⟩) :
    FnOk P w K mg base (L2.CX P w) (k + 1) f fd ps (spN K TA T m) :=
  F.okX S (fun vs H Q E ⟨L, a, _, _, _, h, _⟩ => hl vs _ a h) (fun cdv A outer s H vs Q E hr ⟨L, a, Qa, Ea, dL, hrep, hm, kq, ke⟩ => by
    obtain ⟨ts, mb, B, hb⟩ := body cdv A outer s H E hr (fun σ => air_of (takes_of rfl rfl rfl rfl) rfl rfl) (takes_of rfl rfl rfl rfl) L dL a
    exact fn_body B (hΓ _ _ _ _ hrep) (hb _ _ hm) (fun r x H' hr s ⟨p, xs, ex, n0, hp, rr⟩ => by
      subst ex
      rw [vis_vis] at rr
      exact kq r p xs H' hr s n0 (vis_le _ _ hp) rr) ke)
end
structure MtN (P : Program) (w : World) (K : PySem.W.Frag) (mg : Str → Option Value) (base : Heap) (C : Addr) (x : Str) (k : Nat) (ps : List Str) {α ρ : Type} (TA : TyS α) (T : Ty ρ) (m : α → WP (List ρ)) : Prop where
  ex : ∃ (f : Addr) (fd : FuncData), FnOk P w K mg base (L2.CX P w) k f fd ps (spN K TA T m) ∧ Meth K C x f ∧ Binds K fd ps []
  cls : Cls K C
section
variable {X : Cx} {W : Wd} {Γ : List Slot} {XE : XK} {o : Expr} {ta : TE} {pos apos : Pos} {β ρ : Type} {R : Ty ρ} {S : Ty β} {mo : WP β} {x : Str} {k : Nat} {ps : List Str}
theorem n_meth0 {K : PySem.W.Frag} (hK : X.K = K) {C : Addr} {mm : β → WP (List ρ)} {pl : Sem Bool} (c : MtN X.prog X.w K X.mg X.base C x k ps (tsC S tsN) R fun q => mm q.1) (hi : IsIns C x S) (hr : Room k X.A) (hx : ∀ σ, PassesAt (L2.CX X.prog X.w) X σ XE) (O : DE X W XE Γ o ta S mo)
    (ht : eval (.Call (.Attribute o x apos) [] [] pos) X.env = (do
      let ov ← eval o X.env
      standAt apos.atName
      let (f, first) ← holding [ov] (getMethod ov x pl)
      callWith pos f first (backTo pos (starEach [] X.env)) (backToKw pos (keywordEach [] X.env))) := by rfl) :
    DN X W XE Γ (.Call (.Attribute o x apos) [] [] pos) (tMeth C x (spN K (tsC S tsN) R fun q => mm q.1) [] XE ta tNil) R (bd mo fun b => mm b) := by
  subst hK
  refine ⟨by
    obtain ⟨f, fd, G, hm, hb⟩ := c.ex
    exact pe_meth0 O.pe c.cls hm G hr hb .nil (fun pins σ => hx σ pins) ht, fun Qa Ea hh σ H F ev Qv aq ae => O.den _ _ hh σ H F ev _ (fun b v H1 hb p1 r1 => ?_) ae⟩
  obtain ⟨p, dx, fs, rfl, hp, hl⟩ := hi _ _ _ r1
  have ev1 := ev.step p1
  refine ⟨p, dx, fs, rfl, vis_le _ _ hp, hl, W.M0 ++ F, (b, ()), Qa, Ea, ev1.dom, ⟨.ref p, [], rfl, r1, rfl⟩, hb, fun r q xs H' hr s nq hq rr => aq r q xs H' hr (p1.trans (PSt.same p1.ok s)) ?_ hq rr, fun e c d H' he s q => ae e c d H' he (p1.trans (PSt.same p1.ok s)) q⟩
  cases z : H q with
  | none => rfl
  | some u =>
    by_cases mq : q ∈ W.M0
    · exact absurd nq (ev1.dom q (List.mem_append_left _ mq))
    · have := p1.keep q u mq z
      rw [nq] at this
      cases this
end
section
variable {K : PySem.W.Frag} {α : Type} {T : Ty α}
theorem Reps.rep {R : V → Hp → α → Prop} {H : Hp} {xs : List V} {u : List α} (r : Reps R H xs u) : (n : Nat) → Reps R H (List.replicate n xs).flatten (List.replicate n u).flatten
  | 0 => trivial
  | n + 1 => by
    rw [List.replicate_succ, List.replicate_succ, List.flatten_cons, List.flatten_cons]
    exact Reps.app r (Reps.rep r n)
theorem o_rep (u : List α) (k : Int) : R2Ok rRep (tyL T) u tyI k (tyL T) (nd (-(2 ^ 63) ≤ k ∧ k < 2 ^ 63 ∧ u.length * k.toNat ≤ sizeLine) (rt (List.replicate k.toNat u).flatten)) := fun Qa Ea ⟨⟨h1, h2, h3⟩, h⟩ L H x y Qv d ⟨p, xs, e, hp, r⟩ e2 kq =>
  ⟨p, k, xs, e, e2, vis_le _ _ hp, h1, h2, by rw [r.len]; exact h3, fun z hz => kq _ _ _ h (same_new hz) ⟨z, _, rfl, vis_new (notin_new d hz), T.all (vis_same (same_new hz)) (Reps.rep r _)⟩⟩
end
end Dn

set_option maxHeartbeats 1000000
namespace Dn
open PySem PySem.Spec PyProof.Rows L2 Wx NdefX RZ StX
/-! ### what the parts of a meaning come to -/
section
variable {α β γ κ s l ρ : Type}
/-- a list of images -/
theorem lc_map {f : α → WP (Option β)} {g : α → β} {Q : List β → Prop} {E : Ex → Prop} : ∀ (as : List α) (acc : List β), (∀ a ∈ as, ∀ Q E, Q (some (g a)) → f a Q E) → acc.length + as.length ≤ sizeLine → Q (acc ++ as.map g) → lcW f as acc Q E
  | [], acc, _, _, h => by rw [List.map_nil, List.append_nil] at h; exact h
  | a :: as, acc, hf, hl, h => by
    rw [List.length_cons] at hl
    refine hf a List.mem_cons_self _ _ ⟨by omega, lc_map as (acc ++ [g a]) (fun b m => hf b (List.mem_cons_of_mem _ m)) (by rw [List.length_append, List.length_singleton]; omega) ?_⟩
    rw [List.append_assoc]
    exact h
/-- images, some left out -/
theorem lc_filter {f : α → WP (Option β)} {g : α → Option β} {Q : List β → Prop} {E : Ex → Prop} : ∀ (as : List α) (acc : List β), (∀ a ∈ as, ∀ Q E, Q (g a) → f a Q E) → acc.length + as.length ≤ sizeLine → Q (acc ++ as.filterMap g) → lcW f as acc Q E
  | [], acc, _, _, h => by rw [List.filterMap_nil, List.append_nil] at h; exact h
  | a :: as, acc, hf, hl, h => by
    rw [List.length_cons] at hl
    refine hf a List.mem_cons_self _ _ ?_
    cases e : g a with
    | none =>
      rw [List.filterMap_cons, e] at h
      exact lc_filter as acc (fun b m => hf b (List.mem_cons_of_mem _ m)) (by omega) h
    | some b =>
      rw [List.filterMap_cons, e] at h
      refine ⟨by omega, lc_filter as (acc ++ [b]) (fun b m => hf b (List.mem_cons_of_mem _ m)) (by rw [List.length_append, List.length_singleton]; omega) ?_⟩
      rw [List.append_assoc]
      exact h
/-- images of which only this much is known -/
theorem lc_some {f : α → WP (Option β)} {R : β → Prop} {Q : List β → Prop} {E : Ex → Prop} : ∀ (as : List α) (acc : List β), (∀ a ∈ as, ∀ Q E, (∀ b, R b → Q (some b)) → f a Q E) → acc.length + as.length ≤ sizeLine → (∀ bs : List β, bs.length = as.length → (∀ b ∈ bs, R b) → Q (acc ++ bs)) → lcW f as acc Q E
  | [], acc, _, _, h => by have := h [] rfl (fun _ m => nomatch m); rw [List.append_nil] at this; exact this
  | a :: as, acc, hf, hl, h => by
    rw [List.length_cons] at hl
    refine hf a List.mem_cons_self _ _ fun b hb => ⟨by omega, lc_some as (acc ++ [b]) (fun b m => hf b (List.mem_cons_of_mem _ m)) (by rw [List.length_append, List.length_singleton]; omega) fun bs hl hbs => ?_⟩
    rw [List.append_assoc]
    refine h (b :: bs) (by rw [List.length_cons, hl, List.length_cons]) fun c m => ?_
    rcases List.mem_cons.mp m with z | z
    · rw [z]; exact hb
    · exact hbs c z
/-- a loop that goes all its way -/
theorem for_fold {f : s → α → SB s s ρ} {g : s → α → s} {nx : s → Prop} {rt : ρ → Prop} {ex : Ex → Prop} : ∀ (as : List α) (st : s), (∀ st, ∀ a ∈ as, ∀ D : AE s s ρ, D.nx (g st a) → f st a D) → nx (as.foldl g st) → forS (l := l) f as st nx rt ex
  | [], st, _, h => h
  | a :: as, st, hf, h => hf st a List.mem_cons_self _ (for_fold as (g st a) (fun st b m => hf st b (List.mem_cons_of_mem _ m)) h)
/-- .. with what stays true on it -/
theorem for_inv {f : s → α → SB s s ρ} {I : s → Prop} {nx : s → Prop} {rt : ρ → Prop} {ex : Ex → Prop} : ∀ (as : List α) (st : s), I st → (∀ st, ∀ a ∈ as, I st → ∀ D : AE s s ρ, (∀ st', I st' → D.nx st') → f st a D) → (∀ st, I st → nx st) → forS (l := l) f as st nx rt ex
  | [], st, h0, _, hn => hn st h0
  | a :: as, st, h0, hf, hn => hf st a List.mem_cons_self h0 _ fun st' h => for_inv as st' h (fun st b m => hf st b (List.mem_cons_of_mem _ m)) hn
/-- a loop that returns at the first that holds -/
theorem for_any {f : Unit → α → SB Unit Unit ρ} {p : α → Bool} {r : ρ} {nx : Unit → Prop} {rt : ρ → Prop} {ex : Ex → Prop} : ∀ (as : List α), (∀ a ∈ as, ∀ D : AE Unit Unit ρ, (if p a = true then D.rt r else D.nx ()) → f () a D) → (if as.any p = true then rt r else nx ()) → forS (l := l) f as () nx rt ex
  | [], _, h => h
  | a :: as, hf, h => by
    refine hf a List.mem_cons_self _ ?_
    by_cases e : p a = true
    · rw [if_pos e]
      rw [List.any_cons, e, Bool.true_or, if_pos rfl] at h
      exact h
    · rw [if_neg e]
      rw [List.any_cons, Bool.eq_false_iff.mpr e, Bool.false_or] at h
      exact for_any as (fun b m => hf b (List.mem_cons_of_mem _ m)) h
end
end Dn

set_option maxHeartbeats 1000000
namespace Dn
open PySem PySem.Spec PyProof.Rows L2 Wx NdefX RZ StX
/-! ### loops, ranges and places, for the mathematics of any law -/
theorem for_pre {s l ρ α : Type} {f : s → α → SB s s ρ} (I : List α → s → Prop) {nx : s → Prop} {rt : ρ → Prop} {ex : Ex → Prop} : ∀ (as done : List α) (st : s), I done st → (∀ dn st a rest, done ++ as = dn ++ a :: rest → I dn st → ∀ D : AE s s ρ, (∀ st', I (dn ++ [a]) st' → D.nx st') → f st a D) → (∀ st, I (done ++ as) st → nx st) → forS (l := l) f as st nx rt ex
  | [], done, st, h0, _, hn => hn st (by rw [List.append_nil]; exact h0)
  | a :: as, done, st, h0, hf, hn => by
    refine hf done st a as rfl h0 _ fun st' h => for_pre I as (done ++ [a]) st' h (fun dn st b rest e => hf dn st b rest (by rw [← e, List.append_assoc]; rfl)) (by rw [List.append_assoc]; exact hn)
theorem for_count {s l ρ α : Type} {f : s → α → SB s s ρ} (I : Nat → s → Prop) (N : Nat) {nx : s → Prop} {rt : ρ → Prop} {ex : Ex → Prop} : ∀ (as : List α) (n : Nat) (st : s), I n st → (∀ n st, ∀ a ∈ as, I n st → n < N → ∀ D : AE s s ρ, (∀ st', I (n + 1) st' → D.nx st') → f st a D) → n + as.length ≤ N → (∀ st, I (n + as.length) st → nx st) → forS (l := l) f as st nx rt ex
  | [], n, st, h0, _, _, hn => hn st h0
  | a :: as, n, st, h0, hf, hN, hn => by
    rw [List.length_cons] at hN hn
    refine hf n st a List.mem_cons_self h0 (by omega) _ fun st' h => for_count I N as (n + 1) st' h (fun n st b m => hf n st b (List.mem_cons_of_mem _ m)) (by omega) (by rw [show n + 1 + as.length = n + (as.length + 1) by omega]; exact hn)
theorem range_at {m : Int} {done rest : List Int} {a : Int} (e : rangeI 0 m = done ++ a :: rest) : a = (done.length : Nat) := by
  have h : (rangeI 0 m)[done.length]? = some a := by rw [e]; simp
  unfold rangeI at h
  rw [List.getElem?_map] at h
  obtain ⟨i, hi, q⟩ := Option.map_eq_some_iff.mp h
  rw [List.getElem?_range] at hi
  · cases hi
    omega
  · have := (List.getElem?_eq_some_iff.mp hi).1
    rw [List.length_range] at this
    exact this
theorem range_mem {n : Nat} {a : Int} (h : a ∈ rangeI 0 (n : Int)) : ∃ k : Nat, a = k ∧ k < n := by
  unfold rangeI at h
  obtain ⟨i, m, e⟩ := List.mem_map.mp h
  have := List.mem_range.mp m
  exact ⟨i, by omega, by omega⟩
theorem for_stop {s l ρ α : Type} {f : s → α → SB s s ρ} {st : s} {nx : s → Prop} {rt : ρ → Prop} {ex : Ex → Prop} {a : α} {rest : List α} : ∀ (pre : List α), (∀ b ∈ pre, ∀ D : AE s s ρ, D.nx st → f st b D) → (∀ D : AE s s ρ, D.rt = rt → D.ex = ex → f st a D) → forS (l := l) f (pre ++ a :: rest) st nx rt ex
  | [], _, h => h _ rfl rfl
  | b :: pre, hf, h => hf b List.mem_cons_self _ (for_stop pre (fun c m => hf c (List.mem_cons_of_mem _ m)) h)
theorem enum_mem {α : Type} {rows : List α} {a : Int × α} (h : a ∈ enumI rows) : ∃ n : Nat, a.1 = n ∧ rows[n]? = some a.2 := by
  unfold enumI at h
  obtain ⟨n, hn, e⟩ := List.mem_mapIdx.mp h
  exact ⟨n, by rw [← e], by rw [← e]; exact List.getElem?_eq_getElem hn⟩
theorem enum_of {α : Type} {rows : List α} {n : Nat} {o : α} (h : rows[n]? = some o) : ((n : Int), o) ∈ enumI rows := by
  obtain ⟨hn, e⟩ := List.getElem?_eq_some_iff.mp h
  unfold enumI
  exact List.mem_mapIdx.mpr ⟨n, hn, by rw [e]⟩
theorem enum_len {α : Type} (rows : List α) : (enumI rows).length = rows.length := by
  unfold enumI
  exact List.length_mapIdx
theorem at_nat {α : Type} {xs : List α} {k : Nat} {x : α} (h : xs[k]? = some x) {Q : α → Prop} {E : Ex → Prop} (hq : Q x) : ixW xs (k : Int) Q E := ⟨x, by
  obtain ⟨hk, e⟩ := List.getElem?_eq_some_iff.mp h
  unfold atI ixN
  have : (k : Int) < xs.length := by omega
  simp [this, hk, e], hq⟩
/-- what is left of a list when chance chooses -/
theorem lc_sub {α : Type} {f : α → WP (Option α)} {Q : List α → Prop} {E : Ex → Prop} : ∀ (as acc : List α), (∀ a ∈ as, ∀ Q E, Q (some a) → Q none → f a Q E) → acc.length + as.length ≤ sizeLine → (∀ bs : List α, bs.Sublist as → Q (acc ++ bs)) → lcW f as acc Q E
  | [], acc, _, _, h => by have := h [] (List.Sublist.refl _); rw [List.append_nil] at this; exact this
  | a :: as, acc, hf, hl, h => by
    rw [List.length_cons] at hl
    refine hf a List.mem_cons_self _ _ ⟨by omega, lc_sub as (acc ++ [a]) (fun b m => hf b (List.mem_cons_of_mem _ m)) (by rw [List.length_append, List.length_singleton]; omega) fun bs hs => ?_⟩ (lc_sub as acc (fun b m => hf b (List.mem_cons_of_mem _ m)) (by omega) fun bs hs => h bs (hs.cons a))
    rw [List.append_assoc]
    exact h (a :: bs) (hs.cons_cons a)
theorem at_in {α : Type} {xs : List α} {i : Int} (h0 : -(xs.length : Int) ≤ i) (h1 : i < xs.length) {Q : α → Prop} {E : Ex → Prop} (hq : ∀ x ∈ xs, Q x) : ixW xs i Q E := by
  have key : ∃ n, ixN xs.length i = some n ∧ n < xs.length := by
    unfold ixN
    by_cases c : i < 0
    · exact ⟨(i + xs.length).toNat, by rw [if_neg (by omega), if_pos h0], by omega⟩
    · exact ⟨i.toNat, by rw [if_pos (by omega), if_pos h1], by omega⟩
  obtain ⟨n, hn, hl⟩ := key
  refine ⟨xs[n], ?_, hq _ (List.getElem_mem hl)⟩
  unfold atI
  rw [hn]
  exact List.getElem?_eq_getElem hl
theorem cut_lo {α : Type} (as : List α) (k : Nat) (h : k ≤ as.length) : cutL as none (some (k : Int)) = as.take k := by
  unfold cutL
  rw [HT.sIx_none, HT.sIx_nat]
  simp [Nat.min_eq_left h]
theorem cut_hi {α : Type} (as : List α) (k : Nat) (h : k ≤ as.length) : cutL as (some (k : Int)) none = as.drop k := by
  unfold cutL
  rw [HT.sIx_none, HT.sIx_nat, Nat.min_eq_left h]
  rw [List.take_of_length_le (by rw [List.length_drop]; omega)]
theorem if_all {s t l ρ : Type} {nx : s → Prop} {bk ct : l → Prop} {rt' : ρ → Prop} {ex : Ex → Prop} {mc : WP Bool} {ma mb : SB t l ρ} {k : t → SB s l ρ} (P : t → Prop) (hc : ∀ f : t → Prop, (∀ u, P u → f u) → mc (fun c => if c = true then ma ⟨f, bk, ct, rt', ex⟩ else mb ⟨f, bk, ct, rt', ex⟩) ex) (hk : ∀ u, P u → k u ⟨nx, bk, ct, rt', ex⟩) : ifS mc ma mb k ⟨nx, bk, ct, rt', ex⟩ := hc _ hk
end Dn

set_option maxHeartbeats 1000000
namespace Dn
open PySem PySem.Spec PyProof.Rows L2 Wx NdefX RZ StX
/-! ### one step into a meaning: no rule changes a goal by definition alone, so the kernel has nothing to unfold -/
section
variable {α β s t l ρ : Type} {nx : s → Prop} {bk ct : l → Prop} {rt' : ρ → Prop} {ex : Ex → Prop} {D : AE s l ρ}
theorem r_bd {m : WP α} {k : α → WP β} {Q : β → Prop} {E : Ex → Prop} (h : m (fun a => k a Q E) E) : bd m k Q E := h
theorem r_rt {a : α} {Q : α → Prop} {E : Ex → Prop} (h : Q a) : rt a Q E := h
theorem r_nd {p : Prop} {m : WP α} {Q : α → Prop} {E : Ex → Prop} (h : p ∧ m Q E) : nd p m Q E := h
theorem r_noE {m : WP α} {Q : α → Prop} {E : Ex → Prop} (h : m Q fun _ => False) : noE m Q E := h
theorem r_se {m : WP α} {k : α → SB s l ρ} (h : m (fun u => k u ⟨nx, bk, ct, rt', ex⟩) ex) : seS m k ⟨nx, bk, ct, rt', ex⟩ := h
theorem r_re {m : WP ρ} (h : m rt' ex) : reS m (⟨nx, bk, ct, rt', ex⟩ : AE s l ρ) := h
theorem r_nx {a : s} (h : nx a) : nxS a (⟨nx, bk, ct, rt', ex⟩ : AE s l ρ) := h
theorem r_bk {a : l} (h : bk a) : bkS a (⟨nx, bk, ct, rt', ex⟩ : AE s l ρ) := h
theorem r_ct {a : l} (h : ct a) : ctS a (⟨nx, bk, ct, rt', ex⟩ : AE s l ρ) := h
theorem r_if {mc : WP Bool} {ma mb : SB t l ρ} {k : t → SB s l ρ} (h : mc (fun c => if c = true then ma ⟨fun u => k u ⟨nx, bk, ct, rt', ex⟩, bk, ct, rt', ex⟩ else mb ⟨fun u => k u ⟨nx, bk, ct, rt', ex⟩, bk, ct, rt', ex⟩) ex) : ifS mc ma mb k ⟨nx, bk, ct, rt', ex⟩ := h
theorem r_i1 {mc : WP Bool} {ma mb : SB s l ρ} (h : mc (fun c => if c = true then ma ⟨nx, bk, ct, rt', ex⟩ else mb ⟨nx, bk, ct, rt', ex⟩) ex) : if1S mc ma mb ⟨nx, bk, ct, rt', ex⟩ := h
theorem r_fo {m : WP (List α)} {f : t → α → SB t t ρ} {s0 : t} {k : t → SB s l ρ} (h : m (fun as => forS (l := l) f as s0 (fun u => k u ⟨nx, bk, ct, rt', ex⟩) rt' ex) ex) : foS m f s0 k ⟨nx, bk, ct, rt', ex⟩ := h
theorem r_ap {as : List α} {m : WP α} {k : List α → SB s l ρ} (h : m (fun u => as.length < sizeLine ∧ k (as ++ [u]) ⟨nx, bk, ct, rt', ex⟩) ex) : apS as m k ⟨nx, bk, ct, rt', ex⟩ := h
theorem r_pu {as : List α} {m : WP α} {mi : WP Int} {k : List α → SB s l ρ} (h : m (fun u => mi (fun j => ∃ n, ixN as.length j = some n ∧ k (as.set n u) ⟨nx, bk, ct, rt', ex⟩) ex) ex) : puS as m mi k ⟨nx, bk, ct, rt', ex⟩ := h
theorem r_ra {m : WP α} {cond : α → Prop} {e : α → Ex} (h : m (fun u => cond u ∧ ex (e u)) ex) : raS m cond e (⟨nx, bk, ct, rt', ex⟩ : AE s l ρ) := h
theorem r_trR {m : WP ρ} {hs : Ex → SB Unit Unit ρ} (h : m rt' (fun e => hs e ⟨fun _ => False, fun _ => False, fun _ => False, rt', fun _ => False⟩)) : trR m hs (⟨nx, bk, ct, rt', ex⟩ : AE s l ρ) := h
theorem r_trE {m : WP α} {hs : Ex → SB Unit Unit ρ} {k : SB s l ρ} (h : m (fun _ => k ⟨nx, bk, ct, rt', ex⟩) (fun e => hs e ⟨fun _ => False, fun _ => False, fun _ => False, rt', fun _ => False⟩)) : trE m hs k ⟨nx, bk, ct, rt', ex⟩ := h
end
end Dn

set_option maxHeartbeats 1000000
namespace Dn
open PySem PySem.Spec PyProof.Rows L2 Wx NdefX RZ StX L2H
section
variable {P : Program} {w : World} {K : PySem.W.Frag} {mg : Str → Option Value} {base : Heap} {x : Str} {k : Nat} {f : Addr} {fd : FuncData} {ps fs : List Str} {α β γ ρ : Type} {TA : TyS α} {T : Ty ρ} {S : TyS γ} {g : β → γ} {C : Addr}
theorem mks_of {T : Ty α} {m : List α → WP β} (F : FnR P w K mg base (L2.CX P w) k f (spStar 1 (spI K (cl K x) fs S g (tsC (tyT K T) tsN) fun a => m a.1))) (hm : Mk K (cl K x) f) (hg : mg x = some (.ref (cl K x))) : MkS P w K mg base x k fs S g T m := ⟨⟨f, F, hm⟩, hg⟩
theorem mtn_of {m : α → WP (List ρ)} (F : FnOk P w K mg base (L2.CX P w) k f fd ps (spN K TA T m)) (hm : Meth K C x f) (hb : Binds K fd ps []) (hc : Cls K C) : MtN P w K mg base C x k ps TA T m := ⟨⟨f, fd, F, hm, hb⟩, hc⟩
end
end Dn

set_option maxHeartbeats 1000000
namespace Dn
open PySem PySem.Spec PyProof.Rows L2 Wx NdefX
/-! ### texts once more -/
def inSW (u v : Str) : WP Bool := fun Q _ => ∃ c : Nat, u = ⟨#[c]⟩ ∧ Q (decide (c ∈ v.cps.toList))
theorem o_inS (u v : Str) : R2Ok (fun x y H Q => ∃ (c : Nat) (z : Str), x = .str ⟨#[c]⟩ ∧ y = .str z ∧ Q (.bl (decide (c ∈ z.cps.toList))) H) tyS u tyS v tyB (inSW u v) := fun Qa Ea ⟨c, e, h⟩ L H x y Qv d r1 r2 k => by
  have r1 : x = .str u := r1
  have r2 : y = .str v := r2
  subst r1 r2 e
  exact ⟨c, v, rfl, rfl, k _ _ H h (Same.refl _) rfl⟩
def intW (z : Str) : WP Int := fun Q _ => ∃ n, PySem.intText? z = some n ∧ z.length ≤ 640 ∧ Q n
theorem b_intS (z : Str × Unit) : RAOk (fun xs H Q => ∃ a n, xs = [V.str a] ∧ PySem.intText? a = some n ∧ a.length ≤ 640 ∧ Q (.int n) H) (tsC tyS tsN) z tyI (intW z.1) := fun Qa Ea ⟨n, e1, e2, h⟩ L H x Qv d ⟨v, r, e, hv, hr⟩ k => by
  have hr : r = [] := hr
  have hv : v = .str z.1 := hv
  subst hr hv
  exact ⟨z.1, n, e, e1, e2, k _ _ H h (Same.refl _) rfl⟩
def strI (i : Int) : Str := toString i
theorem b_strI (z : Int × Unit) : RAOk (fun xs H Q => ∃ i, xs = [V.int i] ∧ i.natAbs.log2 < 1920 ∧ Q (.str (toString i)) H) (tsC tyI tsN) z tyS (nd (z.1.natAbs.log2 < 1920) (rt (strI z.1))) := fun Qa Ea ⟨e1, h⟩ L H x Qv d ⟨v, r, e, hv, hr⟩ k => by
  have hr : r = [] := hr
  have hv : v = .int z.1 := hv
  subst hr hv
  exact ⟨z.1, e, e1, k _ _ H h (Same.refl _) rfl⟩
section
variable {X : Cx} {W : Wd} {Γ : List Slot} {XE : XK} {o e : Expr} {lo hi : Option Expr} {to te : TE} {tl th : TO} {apos pos p p2 q : Pos} {m : WP Str} {m1 m2 : WP Str} {ml mh : WP (Option Int)} {K : PySem.W.Frag}
theorem d_sliceS (A : DE X W XE Γ e te tyS m) (L : DO X W XE Γ lo tl ml) (U : DO X W XE Γ hi th mh) : DE X W XE Γ (.Subscript e (.Slice lo hi none p2) pos) (tSl rSlS te tl th) tyS (bd m fun z => bd ml fun l => bd mh fun u => nd (z.length ≤ sizeLine) (rt (cutS z l u))) :=
  ⟨pe_slice sl_str A.pe L.po U.po, fun Qa Ea hh σ H F ev Qv aq ae => A.den _ _ hh σ H F ev _ (fun z x H1 h1 p1 r1 => L.den _ _ h1 σ H1 F (ev.step p1) _ (fun l H2 h2 p2 => U.den _ _ h2 σ H2 F ((ev.step p1).step p2) _ (fun u H3 ⟨hc, h3⟩ p3 => by
    have ex : x = .str z := r1
    exact ⟨z, ex, hc, aq _ _ H3 h3 ((p1.trans p2).trans p3) rfl⟩) ((ae.step p1).step p2)) (ae.step p1)) ae⟩
/-- o.split(e) -/
theorem d_split (A : DE X W XE Γ o to tyS m1) (B : DE X W XE Γ e te tyS m2) (h1 : starEach [e] X.env = [(false, eval e X.env)] := by rfl) (h2 : attributeBase o "split" X.env (eval o X.env) = eval o X.env := by rfl) (h3 : (apos.endLine == pos.line) = true := by rfl) :
    DE X W XE Γ (.Call (.Attribute o "split" apos) [e] [] pos) (tM1 (fun x xs H Q => ∃ a b, x = .str a ∧ xs = [.str b] ∧ (b.length == 0) = false ∧ a.length + 2 ≤ sizeLine ∧ rNewStrs (Txt.split a b) H Q) to te) (tyL tyS) (bd m1 fun a => bd m2 fun b => nd ((b.length == 0) = false ∧ a.length + 2 ≤ sizeLine) (rt (Txt.split a b))) :=
  ⟨pe_split A.pe B.pe h1 h2 h3, fun Qa Ea hh σ H F ev Qv aq ae => A.den _ _ hh σ H F ev _ (fun a x H1 ha ps r1 => ⟨⟨a, r1⟩, B.den _ _ ha σ H1 F (ev.step ps) _ (fun b y H2 ⟨⟨hb, hc⟩, hq⟩ ps2 r2 => by
    have ex : x = .str a := r1
    have ey : y = .str b := r2
    subst ex ey
    refine ⟨a, b, rfl, rfl, hb, hc, fun l np => ?_⟩
    have pp := ps.trans ps2
    exact aq _ _ _ hq (pp.trans (PSt.same pp.ok (same_new np))) ⟨l, _, rfl, vis_new (notin_new (ev.step pp).dom np), repsMapS _⟩) (ae.step ps)⟩) ae⟩
/-- o.endswith(e) -/
theorem d_ends (A : DE X W XE Γ o to tyS m1) (B : DE X W XE Γ e te tyS m2) (h1 : starEach [e] X.env = [(false, eval e X.env)] := by rfl) (h2 : attributeBase o "endswith" X.env (eval o X.env) = eval o X.env := by rfl) (h3 : (apos.endLine == pos.line) = true := by rfl) :
    DE X W XE Γ (.Call (.Attribute o "endswith" apos) [e] [] pos) (tM1 (fun x xs H Q => ∃ a b, x = .str a ∧ xs = [.str b] ∧ Q (.bl (Txt.endswith a b)) H) to te) tyB (bd m1 fun a => bd m2 fun b => rt (Txt.endswith a b)) :=
  ⟨pe_m1 PySem.F.slot_str_endswith PySem.F.type_str_endswith mt_endswith A.pe B.pe h1 h2 h3, fun Qa Ea hh σ H F ev Qv aq ae => A.den _ _ hh σ H F ev _ (fun a x H1 ha ps r1 => ⟨⟨a, r1⟩, B.den _ _ ha σ H1 F (ev.step ps) _ (fun b y H2 hq ps2 r2 => by
    have ex : x = .str a := r1
    have ey : y = .str b := r2
    subst ex ey
    exact ⟨a, b, rfl, rfl, aq _ _ H2 hq (ps.trans ps2) rfl⟩) (ae.step ps)⟩) ae⟩
/-! ### f-strings -/
theorem d_fmtI {m : WP Int} (A : DE X W XE Γ e te tyI m) : DE X W XE Γ (.FormattedValue e (-1) none pos) (tFmt te) tyS (bd m fun i => nd (i.natAbs.log2 < 1920) (rt (strI i))) :=
  ⟨pe_fmt A.pe, fun Qa Ea hh σ H F ev Qv aq ae => A.den _ _ hh σ H F ev _ (fun i x H1 ⟨hc, h1⟩ p1 r1 => .inr ⟨i, r1, hc, aq _ _ H1 h1 p1 rfl⟩) ae⟩
theorem d_fmtS (A : DE X W XE Γ e te tyS m) : DE X W XE Γ (.FormattedValue e (-1) none pos) (tFmt te) tyS (bd m fun z => nd (z.length ≤ sizeLine) (rt z)) :=
  ⟨pe_fmt A.pe, fun Qa Ea hh σ H F ev Qv aq ae => A.den _ _ hh σ H F ev _ (fun z x H1 ⟨hc, h1⟩ p1 r1 => .inl ⟨z, r1, hc, aq _ _ H1 h1 p1 rfl⟩) ae⟩
structure DJ (X : Cx) (W : Wd) (XE : XK) (Γ : List Slot) (es : List Expr) (ts : List TE) (m : Str → WP Str) : Prop where
  pj : PJ X es ts
  den : ∀ acc Qa Ea, m acc Qa Ea → ∀ σ H F, EvF W Γ σ H F → ∀ Qv : Str → Hp → Prop, (∀ z H', Qa z → PSt W H H' → Qv z H') → AftE X.K W F H XE Ea → tJs ts acc σ H Qv
theorem dj_nil : DJ X W XE Γ [] [] rt := ⟨.nil, fun acc Qa Ea hh σ H F ev Qv aq ae => aq acc H hh (PSt.refl ev.ok)⟩
theorem dj_cons {es : List Expr} {ts : List TE} {k : Str → WP Str} (A : DE X W XE Γ e te tyS m) (B : DJ X W XE Γ es ts k) : DJ X W XE Γ (e :: es) (te :: ts) (fun acc => bd m fun y => nd ((acc ++ y).length ≤ sizeLine) (k (acc ++ y))) :=
  ⟨.cons A.pe B.pj, fun acc Qa Ea hh σ H F ev Qv aq ae => A.den _ _ hh σ H F ev _ (fun y x H1 ⟨hc, h1⟩ p1 r1 => ⟨y, r1, hc, B.den _ _ _ h1 σ H1 F (ev.step p1) _ (fun z H' hz p2 => aq z H' hz (p1.trans p2)) (ae.step p1)⟩) ae⟩
theorem d_joined {v1 v2 : Expr} {es : List Expr} {ts : List TE} {k : Str → WP Str} (B : DJ X W XE Γ (v1 :: v2 :: es) ts k) : DE X W XE Γ (.JoinedStr (v1 :: v2 :: es) pos) (fun σ H Q => tJs ts Str.empty σ H fun out H1 => Q (.str out) H1) tyS (k Str.empty) :=
  ⟨pe_joined B.pj, fun Qa Ea hh σ H F ev Qv aq ae => B.den _ _ _ hh σ H F ev _ (fun z H' hz p => aq z _ H' hz p rfl) ae⟩
/-! ### str(x) by an own __str__ -/
def rStrO (K : PySem.W.Frag) (C : Addr) {α : Type} (T : Ty α) (m : α × Unit → WP Str) : List V → Hp → VK → Prop := fun xs H Q => ∃ a dx fs, xs = [.ref a] ∧ H a = some (.ins C dx fs) ∧ spF K (tsC T tsN) tyS m xs H (fun z H' => ∃ t : Str, z = .str t ∧ Q z H') (fun _ _ _ => False)
theorem d_strO {α : Type} {T : Ty α} {C : Addr} {k : Nat} {ma : WP α} (hK : X.K = K) {mm : α → WP Str} (c : OwC X.prog X.w K X.mg X.base C "__str__" k (tsC T tsN) tyS fun a => mm a.1) (hi : IsC C T) (hr : Room (k + 2) X.A) (hm : X.mg "str" = none) (A : DE X W XE Γ e te T ma) (hg : Gl X "str" := by rfl) (he : starEach [e] X.env = [(false, eval e X.env)] := by rfl) :
    DE X W XE Γ (.Call (.Name "str" p) [e] [] pos) (tCB (rStrO K C T fun a => mm a.1) (tCons te tNil)) tyS (bd ma fun u => noE (mm u)) := by
  subst hK
  obtain ⟨f, fd, ps, F, hb, hs, hf⟩ := c.ex
  have AA := da_cons A da_nil he
  have hh := den_cb (K := X.K) (XE := XE) (r := rStrO X.K C T fun a => mm a.1) (T := tyS) (m := fun u : α × Unit => noE (mm u.1)) AA.den (fun u => ?_)
  · exact ⟨pe_callTy (T := "str") (call_strOwn F hr hs hf hb passE) hg hm (by decide +kernel) AA.pe (by decide) (by decide) he (by rfl), hh⟩
  intro Qa Ea h L H v Qv d r kk
  obtain ⟨v1, r1, rfl, h1, h2⟩ := id r
  have h2 : r1 = [] := h2
  subst h2
  obtain ⟨q, dx, fs, rfl, hp⟩ := hi _ _ _ h1
  refine ⟨q, dx, fs, rfl, vis_le _ _ hp, L, u, Qa, fun _ => False, d, r, h, fun i z H' hi s q => ⟨i, q, kk _ _ H' hi s q⟩, fun _ _ _ _ h => h.elim⟩
end
/-! ### BadText -/
section
variable (K : PySem.W.Frag)
theorem err1I {x : Str} {sp : Sp} {n : Str} {E : Int → Ex} (hsp : ∀ (a : Addr) (v : Int) (H : Hp) (Q : VK) (XE : XK), ShowOk (.int v) → H a = some (exo a (cl K x) none) → InitLeaves H a (cl K x) [(n, .int v)] Q → sp [.ref a, .int v] H Q XE)
    (hE : ∀ (v : Int) (d : Addr) (H : Hp), H d = some (.xd [(n, .int v)]) → ExRep K (E v) (.ref (cl K x)) (some d) H) : ErrOk K x sp (tsC tyI tsN) (fun u => ShowOk (.int u.1)) (fun u => E u.1) :=
  ⟨fun L H1 vs u dom ⟨v, r, e, hv, hr⟩ hc => by
    have hr : r = [] := hr
    have hv : v = .int u.1 := hv
    subst hr hv e
    refine ⟨by show 1 ≤ 1000; decide, fun a na Q XE k => hsp a _ _ Q XE hc upd_same (leaves_of (K := K) na fun H2 dx nd ne keep ea ed => k _ H2 H2 dx nd ne keep ea ed fun H' s _ hd => hE _ _ _ ?_)⟩
    rw [vis_out (notin_new dom nd)]
    exact hd⟩
theorem ex_text (v : Int) (d : Addr) (H : Hp) (h : H d = some (.xd [("line", .int v)])) : ExRep K (.text v) (.ref (cl K "BadText")) (some d) H := ⟨rfl, d, _, rfl, h, rfl⟩
end
/-! ### a caught error with two fields -/
def tyXg {ι κ : Type} (K : PySem.W.Frag) (C f g : Str) (T : Ty ι) (S : Ty κ) (a : Addr) (cls : Value) (d : Option Addr) : Ty (ι × κ) := ⟨fun x H u => x = .ref a ∧ cls = .ref (cl K C) ∧ ∃ dd fs v w, d = some dd ∧ H dd = some (.xd fs) ∧ fs.lookup f = some v ∧ fs.lookup g = some w ∧ T.rep v H u.1 ∧ S.rep w H u.2,
  fun s ⟨e, c, dd, fs, v, w, hd, h, l, l2, r, r2⟩ => ⟨e, c, dd, fs, v, w, hd, s _ _ h, l, l2, T.mono s r, S.mono s r2⟩⟩
theorem d_xg1 {X : Cx} {W : Wd} {XE : XK} {Γ : List Slot} {a : Addr} {oe : Obj} {d : Option Addr} {pn : List (Addr × Obj)} {cls : Value} {K : PySem.W.Frag} {C f g : Str} {e : Expr} {pos : Pos} {i : Nat} {ι κ : Type} {T : Ty ι} {S : Ty κ} {u : ι × κ} (hK : X.K = K) (h : Γ[i]? = some (.rp (tyXg K C f g T S a cls d) u)) (tx : XfC K (cl K C)) (hno : PySem.W.findIn K (.ref (cl K C)) f = some none) (hz : Zc cls d oe) (hf : ∃ vs, oe.data = .fields vs)
    (po : PE (X.suite a ((a, oe) :: pn)) e (tVar i)) (hb : attributeBase e f X.env (eval e X.env) = eval e X.env := by rfl) : DE (X.suite a ((a, oe) :: pn)) W XE Γ (.Attribute e f pos) (tXf a cls d (cl K C) f (tVar i)) T (rt u.1) := by
  subst hK
  exact ⟨pe_xf tx hno hz hf po hb, fun Qa Ea hh σ H F ev Qv aq ae => by
    obtain ⟨x, hx, rfl, hc, dd, fs, v, w, hd, hdd, hl, _, r, _⟩ := ev.sl.get h
    exact ⟨_, hx, rfl, hc, dd, fs, v, hd, vis_le _ _ hdd, hl, aq _ v H hh (PSt.refl ev.ok) r⟩⟩
theorem d_xg2 {X : Cx} {W : Wd} {XE : XK} {Γ : List Slot} {a : Addr} {oe : Obj} {d : Option Addr} {pn : List (Addr × Obj)} {cls : Value} {K : PySem.W.Frag} {C f g : Str} {e : Expr} {pos : Pos} {i : Nat} {ι κ : Type} {T : Ty ι} {S : Ty κ} {u : ι × κ} (hK : X.K = K) (h : Γ[i]? = some (.rp (tyXg K C f g T S a cls d) u)) (tx : XfC K (cl K C)) (hno : PySem.W.findIn K (.ref (cl K C)) g = some none) (hz : Zc cls d oe) (hf : ∃ vs, oe.data = .fields vs)
    (po : PE (X.suite a ((a, oe) :: pn)) e (tVar i)) (hb : attributeBase e g X.env (eval e X.env) = eval e X.env := by rfl) : DE (X.suite a ((a, oe) :: pn)) W XE Γ (.Attribute e g pos) (tXf a cls d (cl K C) g (tVar i)) S (rt u.2) := by
  subst hK
  exact ⟨pe_xf tx hno hz hf po hb, fun Qa Ea hh σ H F ev Qv aq ae => by
    obtain ⟨x, hx, rfl, hc, dd, fs, v, w, hd, hdd, _, hl, _, r⟩ := ev.sl.get h
    exact ⟨_, hx, rfl, hc, dd, fs, w, hd, vis_le _ _ hdd, hl, aq _ w H hh (PSt.refl ev.ok) r⟩⟩
section
variable {K : PySem.W.Frag}
def numX (z : Str × Int) : Ex := .number z.1 (.int z.2)
theorem sl_text : ∀ (u : Int) c d H a, ExRep K (.text u) c d H → (tyXf K "BadText" "line" tyI a c d).rep (.ref a) H u := fun u c d H a ⟨hc, dd, fs, hd, hx, hl⟩ => ⟨rfl, hc, dd, fs, _, hd, hx, hl, rfl⟩
theorem sl_number : ∀ (u : Str × Int) c d H a, ExRep K (numX u) c d H → (tyXg K "BadNumber" "what" "value" tyS tyI a c d).rep (.ref a) H u := fun u c d H a ⟨hc, dd, fs, hd, hx, hl, hl2⟩ => ⟨rfl, hc, dd, fs, _, _, hd, hx, hl, hl2, rfl, rfl⟩
theorem is_text : ∀ (u : Int) c d H, ExRep K (.text u) c d H → c = .ref (cl K "BadText") := fun _ _ _ _ h => h.1
theorem is_number : ∀ (u : Str × Int) c d H, ExRep K (numX u) c d H → c = .ref (cl K "BadNumber") := fun _ _ _ _ h => h.1
end
/-- another kind for the value, not always -/
theorem q_cast {X : Cx} {W : Wd} {XF : L2.St → XK} {Γ : List Slot} {e : Expr} {te : TE} {α β : Type} {T : Ty α} {S : Ty β} {m : WP α} {k : α → WP β} (A : DQ X W XF Γ e te T m) (h : ∀ u Qa Ea, k u Qa Ea → ∃ w, Qa w ∧ ∀ x H, T.rep x H u → S.rep x H w) : DQ X W XF Γ e te S (bd m k) :=
  ⟨A.pe, fun Qa Ea hh σ H F ev Qv aq ae => A.den _ _ hh σ H F ev _ (fun u x H1 hu p r => let ⟨b, q1, q2⟩ := h u _ _ hu; aq _ x H1 q1 p (q2 _ _ r)) ae⟩
end Dn

/-! == of two pairs of which the first part may tell that they differ -/
namespace GB
open PySem PySem.SeqAt
open AutoSeq1 (wpAny_loadPart')
open MeetsSeq MeetsSeq2 MeetsSeq3 SeqRoads2
open GQ (FinOf call_here)
section
variable {prog : Program} {w : World} {A : Around} {R : Result → Shared → Prop}
theorem tuple_eqQ (l b : Addr) (items items2 : Array Value) (n n2 : Nat) (dd dd2 : Option Addr) (sl sl2 : Array (Option Value)) (e : Nat → Bool) (I : Shared → Prop)
    (turn : ∀ i (h1 : i < items.size) (h2 : i < items2.size) s, ((List.range (min items.size items2.size)).take i).all e = true → I s → wpAny (model prog w) A.in1 (eqBool items[i] items2[i]) (fun r s' => r = e i ∧ I s') (fun e s' => R (.error e) s') s)
    (fin : ∀ s, I s → R (.ok (.ret (.bool ((List.range (min items.size items2.size)).all e && items.size == items2.size)))) s) {s : Shared} (hl1 : s.heap.get? l = some { cls := .type "tuple", dict := dd, data := .seq items n, slots := sl }) (hb1 : s.heap.get? b = some { cls := .type "tuple", dict := dd2, data := .seq items2 n2, slots := sl2 }) (h : I s) :
    wpAny (model prog w) A.in1 (Builtin.«tuple.__eq__» ⟨[.ref l, .ref b], []⟩) (FinOf prog w A R) (fun e s' => R (.error e) s') s := by
  have f2 := AutoSeq1.sub_tuple_tuple
  have hZ : (items.toList.zip items2.toList).length = min items.size items2.size := by simp
  have h0 := h
  obtain ⟨hp, g, d, tk, os⟩ := s
  wp_walk using wpAny_loadPart' hl1, wpAny_loadPart' hb1, wpAny_forIn_list _ (fun rest b s' => b.1 = none ∧ ∃ i, rest = (items.toList.zip items2.toList).drop i ∧ ((List.range (min items.size items2.size)).take i).all e = true ∧ I s') _
  case turn =>
    rintro ⟨y, x⟩ rest b s' ⟨hb', i, hz, ha, hI⟩
    have hlt : i < (items.toList.zip items2.toList).length := by
      rcases Nat.lt_or_ge i (items.toList.zip items2.toList).length with h' | h'
      · exact h'
      · rw [List.drop_of_length_le h'] at hz; cases hz
    have hm : i < min items.size items2.size := hZ ▸ hlt
    have h1 : i < items.size := Nat.lt_of_lt_of_le hm (Nat.min_le_left _ _)
    have h2 : i < items2.size := Nat.lt_of_lt_of_le hm (Nat.min_le_right _ _)
    rw [List.drop_eq_getElem_cons hlt] at hz
    injection hz with hyx hrest
    have hy : y = items[i] := by have := congrArg Prod.fst hyx; simpa using this
    have hx : x = items2[i] := by have := congrArg Prod.snd hyx; simpa using this
    subst hy hx
    refine wpAny_bind (wpAny_mono (turn i h1 h2 s' ha hI) (fun r s2 q2 => ?_) fun _ _ x => x)
    obtain ⟨hr, q2⟩ := q2
    subst hr
    cases hy : e i with
    | true =>
      wp_walk
      exact ⟨rfl, i + 1, hrest, all_take ha hm hy, q2⟩
    | false =>
      have hR := fin s2 q2
      rw [all_no hm hy] at hR
      wp_walk
      simpa using hR
  case fin =>
    rintro ⟨b1, b2⟩ s' ⟨hb', i, hz, ha, hI⟩
    simp only at hb'
    subst hb'
    have hge : min items.size items2.size ≤ i := by
      rcases Nat.lt_or_ge i (items.toList.zip items2.toList).length with h' | h'
      · rw [List.drop_eq_getElem_cons h'] at hz; cases hz
      · exact hZ ▸ h'
    have hR := fin s' hI
    rw [all_end ha hge] at hR
    wp_walk
    simpa [Builtin.Tuple.tupleCompareSizes, bne] using hR
  case h =>
    exact ⟨rfl, 0, rfl, rfl, h0⟩
theorem tuple_neQ (l b : Addr) (items items2 : Array Value) (n n2 : Nat) (dd dd2 : Option Addr) (sl sl2 : Array (Option Value)) (e : Nat → Bool) (I : Shared → Prop)
    (turn : ∀ i (h1 : i < items.size) (h2 : i < items2.size) s, ((List.range (min items.size items2.size)).take i).all e = true → I s → wpAny (model prog w) A.in1 (eqBool items[i] items2[i]) (fun r s' => r = e i ∧ I s') (fun e s' => R (.error e) s') s)
    (fin : ∀ s, I s → R (.ok (.ret (.bool (!((List.range (min items.size items2.size)).all e && items.size == items2.size))))) s) {s : Shared} (hl1 : s.heap.get? l = some { cls := .type "tuple", dict := dd, data := .seq items n, slots := sl }) (hb1 : s.heap.get? b = some { cls := .type "tuple", dict := dd2, data := .seq items2 n2, slots := sl2 }) (h : I s) :
    wpAny (model prog w) A.in1 (Builtin.«tuple.__ne__» ⟨[.ref l, .ref b], []⟩) (FinOf prog w A R) (fun e s' => R (.error e) s') s := by
  have f2 := AutoSeq1.sub_tuple_tuple
  have hZ : (items.toList.zip items2.toList).length = min items.size items2.size := by simp
  have h0 := h
  obtain ⟨hp, g, d, tk, os⟩ := s
  wp_walk using wpAny_loadPart' hl1, wpAny_loadPart' hb1, wpAny_forIn_list _ (fun rest b s' => b.1 = none ∧ ∃ i, rest = (items.toList.zip items2.toList).drop i ∧ ((List.range (min items.size items2.size)).take i).all e = true ∧ I s') _
  case turn =>
    rintro ⟨y, x⟩ rest b s' ⟨hb', i, hz, ha, hI⟩
    have hlt : i < (items.toList.zip items2.toList).length := by
      rcases Nat.lt_or_ge i (items.toList.zip items2.toList).length with h' | h'
      · exact h'
      · rw [List.drop_of_length_le h'] at hz; cases hz
    have hm : i < min items.size items2.size := hZ ▸ hlt
    have h1 : i < items.size := Nat.lt_of_lt_of_le hm (Nat.min_le_left _ _)
    have h2 : i < items2.size := Nat.lt_of_lt_of_le hm (Nat.min_le_right _ _)
    rw [List.drop_eq_getElem_cons hlt] at hz
    injection hz with hyx hrest
    have hy : y = items[i] := by have := congrArg Prod.fst hyx; simpa using this
    have hx : x = items2[i] := by have := congrArg Prod.snd hyx; simpa using this
    subst hy hx
    refine wpAny_bind (wpAny_mono (turn i h1 h2 s' ha hI) (fun r s2 q2 => ?_) fun _ _ x => x)
    obtain ⟨hr, q2⟩ := q2
    subst hr
    cases hy : e i with
    | true =>
      wp_walk
      exact ⟨rfl, i + 1, hrest, all_take ha hm hy, q2⟩
    | false =>
      have hR := fin s2 q2
      rw [all_no hm hy] at hR
      wp_walk
      simpa using hR
  case fin =>
    rintro ⟨b1, b2⟩ s' ⟨hb', i, hz, ha, hI⟩
    simp only at hb'
    subst hb'
    have hge : min items.size items2.size ≤ i := by
      rcases Nat.lt_or_ge i (items.toList.zip items2.toList).length with h' | h'
      · rw [List.drop_eq_getElem_cons h'] at hz; cases hz
      · exact hZ ▸ h'
    have hR := fin s' hI
    rw [all_end ha hge] at hR
    wp_walk
    simpa [Builtin.Tuple.tupleCompareSizes, bne] using hR
  case h =>
    exact ⟨rfl, 0, rfl, rfl, h0⟩
section
variable {E : Value → Shared → Prop} {s : Shared}
theorem rc_tup_eqQ {l b : Addr} {items items2 : Array Value} {e : Nat → Bool} {Q : Value → Shared → Prop} (hu : A.units < cLine) (I : Shared → Prop) (hl : s.heap.IsTuple l items) (hb : s.heap.IsTuple b items2)
    (turn : ∀ i (h1 : i < items.size) (h2 : i < items2.size) s, ((List.range (min items.size items2.size)).take i).all e = true → I s → wpAny (model prog w) A.in1 (eqBool items[i] items2[i]) (fun r s' => r = e i ∧ I s') E s)
    (fin : ∀ s, I s → Q (.bool ((List.range (min items.size items2.size)).all e && items.size == items2.size)) s) (h : I s) : wpAny (model prog w) A (richCompare .Eq (.ref l) (.ref b)) Q E s := by
  obtain ⟨⟨cls, dd, data, sl⟩, ho, hc, n, hd⟩ := id hl
  obtain ⟨⟨cls2, dd2, data2, sl2⟩, ho2, hc2, n2, hd2⟩ := id hb
  simp only at hc hd hc2 hd2
  subst hc hd hc2 hd2
  refine wpAny_richCompare_same_room (op := .Eq) ⟨_, ho, rfl⟩ ⟨_, ho2, rfl⟩ F.slot_tuple_eq (call_here F.slot_tuple_eq ⟨_, ho, rfl⟩ F.entry_tuple_eq (F.args_tuple_eq_2 _ _) ?_) hu
  exact tuple_eqQ (R := wants (fun v s' => v ≠ .notImplemented ∧ Q v s') E) l b items items2 n n2 dd dd2 sl sl2 e I turn (fun s' q => ⟨(fun x => nomatch x), fin s' q⟩) ho ho2 h
theorem rc_tup_neQ {l b : Addr} {items items2 : Array Value} {e : Nat → Bool} {Q : Value → Shared → Prop} (hu : A.units < cLine) (I : Shared → Prop) (hl : s.heap.IsTuple l items) (hb : s.heap.IsTuple b items2)
    (turn : ∀ i (h1 : i < items.size) (h2 : i < items2.size) s, ((List.range (min items.size items2.size)).take i).all e = true → I s → wpAny (model prog w) A.in1 (eqBool items[i] items2[i]) (fun r s' => r = e i ∧ I s') E s)
    (fin : ∀ s, I s → Q (.bool (!((List.range (min items.size items2.size)).all e && items.size == items2.size))) s) (h : I s) : wpAny (model prog w) A (richCompare .NotEq (.ref l) (.ref b)) Q E s := by
  obtain ⟨⟨cls, dd, data, sl⟩, ho, hc, n, hd⟩ := id hl
  obtain ⟨⟨cls2, dd2, data2, sl2⟩, ho2, hc2, n2, hd2⟩ := id hb
  simp only at hc hd hc2 hd2
  subst hc hd hc2 hd2
  refine wpAny_richCompare_same_room (op := .NotEq) ⟨_, ho, rfl⟩ ⟨_, ho2, rfl⟩ F.slot_tuple_ne (call_here F.slot_tuple_ne ⟨_, ho, rfl⟩ F.entry_tuple_ne (F.args_tuple_ne_2 _ _) ?_) hu
  exact tuple_neQ (R := wants (fun v s' => v ≠ .notImplemented ∧ Q v s') E) l b items items2 n n2 dd dd2 sl sl2 e I turn (fun s' q => ⟨(fun x => nomatch x), fin s' q⟩) ho ho2 h
end
end
end GB
namespace Dn
open PySem PySem.Spec PyProof.Rows L2 Wx NdefX RZ
section
variable (K : PySem.W.Frag) {α : Type} (t : Str) (T : Ty α)
/-- (t, an α), or (another text, an int) -/
def tyW : Ty (α ⊕ (Str × Int)) := ⟨fun x H u => ∃ p v w, x = .ref p ∧ SqT K H p [v, w] ∧ (match u with
  | .inl a => v = .str t ∧ T.rep w H a
  | .inr z => v = .str z.1 ∧ w = .int z.2 ∧ z.1 ≠ t), fun {x H H' u} s ⟨p, v, w, e, h, r⟩ => ⟨p, v, w, e, same_sqT s h, by
    cases u with
    | inl a => exact ⟨r.1, T.mono s r.2⟩
    | inr z => exact r⟩⟩
end
section
variable {K : PySem.W.Frag} {α : Type} {t : Str} {T : Ty α}
def toWl (t : Str) (u : Str × α) : WP (α ⊕ (Str × Int)) := fun Q _ => u.1 = t ∧ Q (.inl u.2)
def toWr {α : Type} (t : Str) (u : Str × Int) : WP (α ⊕ (Str × Int)) := fun Q _ => u.1 ≠ t ∧ Q (.inr u)
theorem of_toWl (u : Str × α) (Qa : α ⊕ (Str × Int) → Prop) (Ea : Ex → Prop) (h : toWl t u Qa Ea) : ∃ w, Qa w ∧ ∀ x H, (tyP K (ts2 tyS T)).rep x H u → (tyW K t T).rep x H w := ⟨_, h.2, fun x H ⟨p, xs, e, hp, v, w, ex, h1, h2⟩ => by
  have h1 : v = .str u.1 := h1
  subst ex
  exact ⟨p, v, w, e, hp, by rw [h1, h.1], h2⟩⟩
theorem of_toWr (u : Str × Int) (Qa : α ⊕ (Str × Int) → Prop) (Ea : Ex → Prop) (h : toWr t u Qa Ea) : ∃ w, Qa w ∧ ∀ x H, (tyP K (ts2 tyS tyI)).rep x H u → (tyW K t T).rep x H w := ⟨_, h.2, fun x H ⟨p, xs, e, hp, v, w, ex, h1, h2⟩ => by
  subst ex
  exact ⟨p, v, w, e, hp, h1, h2, h.1⟩⟩
end
section
variable {X : Cx} {α : Type} [DecidableEq α] {t : Str} {T : Ty α} {n : Nat}
/-- the two parts' answers -/
def wEq (u v : α ⊕ (Str × Int)) (i : Nat) : Bool := match u, v with
  | .inl a, .inl b => i == 0 || decide (a = b)
  | .inr p, .inr q => if i = 0 then decide (p.1 = q.1) else decide (p.2 = q.2)
  | _, _ => false
theorem wEq_all (u v : α ⊕ (Str × Int)) : (List.range 2).all (wEq u v) = decide (u = v) := by
  rw [Bool.eq_iff_iff]
  cases u <;> cases v <;> simp [List.range_succ, wEq, Prod.ext_iff]
theorem wEq_turn (h : EqR X n T.rep) {A : Around} (sb : Sub X (n + 1) A) {pins : List (Addr × Obj)} {σ : L2.St} {H : Hp} {v w v' w' : V} {u1 u2 t1 t2 : Value} {as bs : α ⊕ (Str × Int)}
    (p : match as with | .inl a => v = .str t ∧ T.rep w H a | .inr z => v = .str z.1 ∧ w = .int z.2 ∧ z.1 ≠ t) (q : match bs with | .inl a => v' = .str t ∧ T.rep w' H a | .inr z => v' = .str z.1 ∧ w' = .int z.2 ∧ z.1 ≠ t)
    (k1 : RelV v u1) (k2 : RelV w u2) (m1 : RelV v' t1) (m2 : RelV w' t2) (i : Nat) (g1 : i < [u1, u2].toArray.size) (g2 : i < [t1, t2].toArray.size) (s' : Shared) (ha : ((List.range 2).take i).all (wEq as bs) = true) (l : LoopI X pins σ H s') :
    wpAny (model X.prog X.w) A.in1 (eqBool [u1, u2].toArray[i] [t1, t2].toArray[i]) (fun r s2 => r = wEq as bs i ∧ LoopI X pins σ H s2) X.xe s' := by
  cases as with
  | inl a =>
    cases bs with
    | inl b =>
      obtain ⟨e1, p⟩ := p
      obtain ⟨e2, q⟩ := q
      subst e1 e2
      match i with
      | 0 => exact wpAny_mono (turn1 (n := n) (T := tyS) (a := t) (b := t) eq_S sb rfl rfl k1 m1 l) (fun r s2 z => ⟨by rw [z.1]; simp [wEq], z.2⟩) fun _ _ x => x
      | 1 => exact wpAny_mono (turn1 (n := n) h sb p q k2 m2 l) (fun r s2 z => ⟨by rw [z.1]; simp [wEq], z.2⟩) fun _ _ x => x
      | i + 2 => exact absurd g1 (by simp)
    | inr z =>
      obtain ⟨e1, p⟩ := p
      obtain ⟨e2, q, ne⟩ := q
      subst e1 e2
      match i with
      | 0 => exact wpAny_mono (turn1 (n := n) (T := tyS) (a := t) (b := z.1) eq_S sb rfl rfl k1 m1 l) (fun r s2 y => ⟨by rw [y.1]; simpa [wEq] using fun h => ne h.symm, y.2⟩) fun _ _ x => x
      | 1 => exact absurd ha (by simp [List.range_succ, wEq])
      | i + 2 => exact absurd g1 (by simp)
  | inr z =>
    cases bs with
    | inl b =>
      obtain ⟨e1, p, ne⟩ := p
      obtain ⟨e2, q⟩ := q
      subst e1 e2
      match i with
      | 0 => exact wpAny_mono (turn1 (n := n) (T := tyS) (a := z.1) (b := t) eq_S sb rfl rfl k1 m1 l) (fun r s2 y => ⟨by rw [y.1]; simpa [wEq] using ne, y.2⟩) fun _ _ x => x
      | 1 => exact absurd ha (by simp [List.range_succ, wEq])
      | i + 2 => exact absurd g1 (by simp)
    | inr y =>
      obtain ⟨e1, p, _⟩ := p
      obtain ⟨e2, q, _⟩ := q
      subst e1 e2 p q
      match i with
      | 0 => exact wpAny_mono (turn1 (n := n) (T := tyS) (a := z.1) (b := y.1) eq_S sb rfl rfl k1 m1 l) (fun r s2 j => ⟨by rw [j.1]; simp [wEq], j.2⟩) fun _ _ x => x
      | 1 => exact wpAny_mono (turn1 (n := n) (T := tyI) (a := z.2) (b := y.2) eq_I sb rfl rfl k2 m2 l) (fun r s2 j => ⟨by rw [j.1]; simp [wEq], j.2⟩) fun _ _ x => x
      | i + 2 => exact absurd g1 (by simp)
theorem rcW {op : CmpOp} {g : Bool → Bool} (hop : (op = .Eq ∧ g = id) ∨ (op = .NotEq ∧ g = not)) (h : EqR X n T.rep) : RcR op g X (n + 1) (tyW X.K t T).rep := by
  intro A pins s σ H x y u v as bs sb I rx ry h1 h2
  obtain ⟨a, v1, w1, rfl, ha, p⟩ := h1
  obtain ⟨b, v2, w2, rfl, hb, q⟩ := h2
  cases rx
  cases ry
  obtain ⟨its, r, e, z⟩ := I.tuple ha
  obtain ⟨its2, r2, e2, z2⟩ := I.tuple hb
  obtain ⟨u1, u2, rfl, k1, k2⟩ := r.two
  obtain ⟨t1, t2, rfl, m1, m2⟩ := r2.two
  have ans : ((List.range (min [u1, u2].toArray.size [t1, t2].toArray.size)).all (wEq as bs) && [u1, u2].toArray.size == [t1, t2].toArray.size) = decide (as = bs) := by
    have := wEq_all as bs
    simpa using this
  rcases hop with ⟨rfl, rfl⟩ | ⟨rfl, rfl⟩
  · exact GB.rc_tup_eqQ (e := wEq as bs) sb.room.units0 (fun s' => LoopI X pins σ H s') e e2 (fun i g1 g2 s' ha l => wEq_turn h sb p q k1 k2 m1 m2 i g1 g2 s' ha l) (fun s' l => ⟨by rw [ans]; rfl, l⟩) ⟨H, I, Ext.rfl'⟩
  · exact GB.rc_tup_neQ (e := wEq as bs) sb.room.units0 (fun s' => LoopI X pins σ H s') e e2 (fun i g1 g2 s' ha l => wEq_turn h sb p q k1 k2 m1 m2 i g1 g2 s' ha l) (fun s' l => ⟨by rw [ans], l⟩) ⟨H, I, Ext.rfl'⟩
end
end Dn

set_option maxHeartbeats 1000000
/-! a, *b, c = a list -/
namespace Dn
open PySem PySem.Spec PySem.Calls PyProof.Rows L2 Wx NdefX
/-- the values of a list for n names, the i-th of them starred -/
theorem star_items {prog : Program} {w : World} {A : Around} {E : Value → Shared → Prop} {s : Shared} {l : Addr} {its : Array Value} {n i : Nat} {Q : List Value → Shared → Prop} (lay : s.heap.IsList l its) (calm : A.handled = none) (hi : i < n) (hn : n ≤ its.size + 1) (hz : its.size ≤ sizeLine)
    (fin : ∀ (g : Heap) (tk : Nat), (∀ b o, s.heap.get? b = some o → g.get? b = some o) → Q (its.toList.take i ++ [.ref g.objs.size] ++ (its.toList.drop i).drop (its.size + 1 - n)) { s with heap := g.push { cls := .type "list", data := .seq ((its.toList.drop i).take (its.size + 1 - n)).toArray }, toks := tk }) :
    wpAny (model prog w) A (unpackItems (.ref l) n (some i)) Q E s := by
  have old : l ≠ s.heap.objs.size := let ⟨o, ho, _⟩ := lay; Nat.ne_of_lt (Heap.lt_size ho)
  unfold unpackItems notIterableAtAll
  refine wpAny_bind (wpAny_bind (wpAny_specialOf lay.typeIs slot_list_iter.lookup (wpAny_pure ?_)))
  simp only [if_false, Bool.false_eq_true]
  refine wpAny_bind (wpAny_holding (wpAny_pyIter_list lay ?_))
  refine wpAny_bind (wpAny_holding (PySem.W.kun_draw old i 0 _ _ ⟨_, Heap.get?_push_size _ rfl, rfl, rfl⟩ (lay.push _) (by omega) fun g1 at1 same1 => ?_))
  have lay1 : g1.IsList l its := (lay.push _).extBut same1.extBut old
  rw [Nat.zero_add] at at1
  obtain ⟨o1, is1, _⟩ := id at1
  obtain ⟨o2, is2, _⟩ := id lay1
  have many : (its.toList.drop i).length = its.size - i := by rw [List.length_drop, Array.length_toList]
  rw [List.drop_zero, if_neg (show ¬ (its.toList.take i).length < i by rw [List.length_take, Array.length_toList]; omega)]
  refine wpAny_bind (wpAny_holding (PySem.W.kun_collect (s := { s with heap := g1 }) (T := "list_iterator") (.inr (.inr (.inl rfl))) (Walks.list (A := A.in1) calm s.heap.objs.size l old its) (fun j u st => st.1.typeIs) (k := i) (by omega) ⟨at1, lay1⟩ (Heap.lt_size is1) (Heap.lt_size is2) (fun g2 tk keep => ?_) hz))
  show wpAny _ _ (if (its.toList.drop i).length < n - 1 - i then _ else _) _ _ _
  rw [if_neg (by rw [many]; omega)]
  show wpAny _ _ (newList ((its.toList.drop i).take ((its.toList.drop i).length - (n - 1 - i))) >>= fun d => pure (its.toList.take i ++ [d] ++ (its.toList.drop i).drop ((its.toList.drop i).length - (n - 1 - i)))) _ _ _
  rw [show (its.toList.drop i).length - (n - 1 - i) = its.size + 1 - n by rw [many]; omega]
  refine wpAny_bind (wpAny_newList (wpAny_pure (fin g2 tk fun b o e => ?_)) (by rw [List.length_take, many]; omega))
  have nb : b ≠ s.heap.objs.size := Nat.ne_of_lt (Heap.lt_size e)
  exact keep b o nb (same1.extBut b o nb (Heap.get?_push_of_some _ e))
def gStar (K : PySem.W.Frag) (i n : Nat) (t : TGs) : TG := fun v σ H Q => ∃ a xs, v = .ref a ∧ SqL K H a xs ∧ n ≤ xs.length + 1 ∧ ∀ D, H D = none → t (xs.take i ++ [.ref D] ++ (xs.drop i).drop (xs.length + 1 - n)) σ (upd H D (.lst ((xs.drop i).take (xs.length + 1 - n)))) Q
theorem vals_take {xs : List V} {us : List Value} (r : Vals xs us) : ∀ n, Vals (xs.take n) (us.take n) := by
  induction r with
  | nil => intro n; rw [List.take_nil, List.take_nil]; exact .nil
  | cons h r ih =>
    intro n
    cases n with
    | zero => exact .nil
    | succ n => exact .cons h (ih n)
theorem vals_drop {xs : List V} {us : List Value} (r : Vals xs us) : ∀ n, Vals (xs.drop n) (us.drop n) := by
  induction r with
  | nil => intro n; rw [List.drop_nil, List.drop_nil]; exact .nil
  | cons h r ih =>
    intro n
    cases n with
    | zero => exact .cons h r
    | succ n => exact ih n
theorem vals_app {xs ys : List V} {us vs : List Value} (r : Vals xs us) (q : Vals ys vs) : Vals (xs ++ ys) (us ++ vs) := by
  induction r with
  | nil => exact q
  | cons h r ih => exact .cons h ih
theorem pg_star {X : Cx} {es : List Expr} {k i n : Nat} {t : TGs} {pos : Pos} (hc : X.calm = true) (h : PGs X es t) (hi : i < n) (hn : (assignEach es X.env).length = n := by rfl) (hst : (assignEach es X.env).findIdx? (·.1) = some i := by rfl) : PG X (.Tuple es k pos) (gStar X.K i n t) := by
  constructor
  intro pins s σ H v u Q I rel red
  obtain ⟨a, xs, e1, isl, long, rest⟩ := red
  subst e1
  cases rel
  obtain ⟨its, rv, pl, hz⟩ := Inv.list I isl
  have len : its.toArray.size = xs.length := by rw [List.size_toArray, rv.length]
  rw [assign_Tuple]
  refine wpAny_bind <| wpAny_standAt ?_
  unfold unpack
  rw [hn, hst]
  refine wpAny_bind (wpAny_holding (star_items pl.isList (I.ok.hd hc) hi (by omega) (by omega) fun g tk keep => ?_))
  have I1 : Inv X pins σ H { s with heap := g, toks := tk } := I.kept keep
  have new : H g.objs.size = none := I1.hok.fresh (Nat.le_refl _)
  rw [len]
  have I2 := I1.laid (t' := tk) (a := g.objs.size) (o := .lst ((xs.drop i).take (xs.length + 1 - n))) (h' := g.push { cls := .type "list", data := .seq ((its.drop i).take (xs.length + 1 - n)).toArray }) (fun b o e => Heap.get?_push_of_some _ e) (Nat.le_refl _)
    ⟨by rw [List.length_take, List.length_drop]; omega, _, 0, vals_take (vals_drop rv i) _, Heap.get?_push_size _ rfl⟩
  exact h.run pins _ σ _ _ _ Q I2 (vals_app (vals_app (vals_take rv i) (.cons (show L2.RelV (V.ref g.objs.size) (Value.ref g.objs.size) from rfl) .nil)) (vals_drop (vals_drop rv i) _)) (rest _ new)
theorem pgs_star {X : Cx} {e : Expr} {es : List Expr} {t : TG} {u : TGs} {p : Pos} (h1 : PG X e t) (h2 : PGs X es u)
    (hs : (assignEach (.Starred e p :: es) X.env).map (·.2) = assign e X.env :: (assignEach es X.env).map (·.2) := by rfl) : PGs X (.Starred e p :: es) (gCons t u) := by
  refine ⟨fun pins s σ H vs us Q I r ⟨v, vr, e1, h⟩ => ?_⟩
  subst e1
  cases r with
  | cons r rr =>
    rw [hs]
    exact assignInOrder_cons (thn (h1.run pins s σ H _ _ _ I r h) fun _ s1 ⟨σ1, H1, I1, q1⟩ => h2.run pins s1 σ1 H1 _ _ Q I1 rr q1)
section
variable {X : Cx} {s l ρ : Type} {W : Wd} {XE : XK} {Γ : List Slot} {Γ' : s → List Slot} {ΓL : l → List Slot} {R : Ty ρ} {ss : List Stmt} {ts : TS} {α : Type} {T : Ty α} {e : Expr} {te : TE} {ma : WP (List α)} {st : Stmt}
def stS {s l ρ α : Type} (m : WP (List α)) (k : α × List α × α → SB s l ρ) : SB s l ρ := fun D => m (fun as => ∃ u ls v, as = u :: (ls ++ [v]) ∧ k (u, ls, v) D) D.ex
theorem s_star [Inhabited α] {g : TGs} {vs : List Nat} {Γt : α × List α × α → List Slot} {k : α × List α × α → SB s l ρ} (p : PE X e te → PS X st (tAsg te (gStar X.K 1 3 g))) (A : DE X W XE Γ e te (tyL T) ma) (hG : DenGs Γ vs X.K g (ts3 T (tyL T) T) Γt) (B : ∀ a, DS X W XE (Γt a) ss ts Γ' ΓL R (k a)) :
    DS X W XE Γ (st :: ss) (tSeq (tAsg te (gStar X.K 1 3 g)) ts) Γ' ΓL R (stS ma k) :=
  ⟨pss_cons (p A.pe) (B default).ps, fun Z hZ σ H F ev D M => A.den _ _ hZ σ H F ev _ (fun as x H1 hu p1 r => by
    obtain ⟨u, ls, v, e, hk⟩ := hu
    subst e
    obtain ⟨a, xs, rfl, ha, rr⟩ := r
    have ev1 := ev.step p1
    match xs, rr with
    | x :: xs', ⟨rx, rr⟩ =>
      have ln := rr.len
      have rs : ∃ ys z, xs' = ys ++ [z] ∧ Reps T.rep (vis (W.M0 ++ F) H1) ys ls ∧ T.rep z (vis (W.M0 ++ F) H1) v := by
        have q1 := Reps.take ls.length rr
        have q2 := Reps.drop ls.length rr
        rw [List.take_left] at q1
        rw [List.drop_left] at q2
        match e : xs'.drop ls.length, q2 with
        | [z], q2 => exact ⟨xs'.take ls.length, z, by rw [← e, List.take_append_drop], q1, q2.1⟩
      obtain ⟨ys, z, rfl, rys, rz⟩ := rs
      have ly := rys.len
      refine ⟨a, _, rfl, SqL.of (vis_le _ _ ha), by simp, fun D' nD => ?_⟩
      have e1 : (x :: (ys ++ [z])).take 1 ++ [.ref D'] ++ ((x :: (ys ++ [z])).drop 1).drop ((x :: (ys ++ [z])).length + 1 - 3) = [x, .ref D', z] := by simp
      have e2 : ((x :: (ys ++ [z])).drop 1).take ((x :: (ys ++ [z])).length + 1 - 3) = ys := by simp
      rw [e1, e2]
      have sm : Same H1 (upd H1 D' (.lst ys)) := same_new nD
      have ps := PSt.same ev1.ok sm
      have ev2 := ev1.step ps
      have fq : D' ∉ W.M0 ++ F := notin_new ev1.dom nD
      refine hG W (u, ls, v) [x, .ref D', z] σ _ F ev2 ⟨x, .ref D', z, rfl, T.mono (vis_same sm) rx, ⟨D', ys, rfl, vis_new fq, T.all (vis_same sm) rys⟩, T.mono (vis_same sm) rz⟩ _ fun σ' _ _ ev3 => ?_
      exact (B _).den Z hk σ' _ F ev3 D (M.up ((p1.trans ps).vis))) (M.aft ev)⟩
end
end Dn

set_option maxHeartbeats 1000000
/-! texts replaced: tokens are out -/
namespace Dn
open PySem PySem.Spec PySem.Calls PyProof.Rows L2 Wx NdefX
open PySem.Builtin.Str (occurrences glued partsBetween countLimit)
/-- at most one of y gives way to z -/
def repl1 (x y z : Str) : Str := if ((occurrences x y 0 x.length 1).isEmpty || (y.length == 0 && z.length == 0)) = true then x else glued z (partsBetween x (occurrences x y 0 x.length 1) y.length)
theorem repl1_size (x y z : Str) : (glued z (partsBetween x (occurrences x y 0 x.length 1) y.length)).length ≤ x.length + z.length := by
  have few := StrLaws.occ_length_le x y 0 x.length 1
  have whole : (glued y (partsBetween x (occurrences x y 0 x.length 1) y.length)).length = x.length := by rw [StrLaws.glued_between_self]
  rw [size_glued, length_partsBetween, Nat.add_sub_cancel] at whole ⊢
  have := Nat.mul_le_mul_right z.length few
  omega
theorem gives_repl1 (x y z : Str) (t u v k : Tok) (ne : (u == 0 || v == 0) = false) (uv : (u == v) = false) (yz : (y == z) = false) (fit : Builtin.Str.tooLong (x.length + (occurrences x y 0 x.length 1).length * z.length) = false) :
    Gives (Builtin.«str.replace» ⟨[.str x t, .str y u, .str z v, .int 1 k], []⟩) (if ((occurrences x y 0 x.length 1).isEmpty || (y.length == 0 && z.length == 0)) = true then .val (.str x t) else .str (glued z (partsBetween x (occurrences x y 0 x.length 1) y.length))) := by
  have lim : countLimit "str.replace" (some (.int 1 k)) (x.length + 1) = pure 1 := by rw [countLimit_int "str.replace" 1 k (x.length + 1) (by decide)]; rfl
  show Gives (do
    let limit ← countLimit "str.replace" (some (.int 1 k)) (x.length + 1)
    (if ((occurrences x y 0 x.length limit).isEmpty || (y.length == 0 && z.length == 0)) = true then (do rule "str.replace.nothing"; ret (.str x t)) else
          (do let one ← isSame (.str y u) (.str z v)
              if one = true then (do rule "str.replace.old-is-new"; ret (.str x t)) else
              if Builtin.Str.tooLong (x.length + (occurrences x y 0 x.length limit).length * z.length) = true then unsupported "str.replace:memory" else
              retStr (glued z (partsBetween x (occurrences x y 0 x.length limit) y.length))))) _
  rw [lim]
  cases none : ((occurrences x y 0 x.length 1).isEmpty || (y.length == 0 && z.length == 0))
  · show Gives (if ((occurrences x y 0 x.length 1).isEmpty || (y.length == 0 && z.length == 0)) = true then _ else _) _
    rw [none, isSame_str_other y z u v ne uv yz, fit]
    exact .of_eq rfl
  · show Gives (if ((occurrences x y 0 x.length 1).isEmpty || (y.length == 0 && z.length == 0)) = true then _ else _) _
    rw [none]
    exact .rule (.of_eq rfl)
theorem call_repl1 {prog : Program} {w : World} {A : Around} {E : Value → Shared → Prop} {s : Shared} {Q : Value → Shared → Prop} {x y z : Str} {t u v k : Tok} (hu : u ≠ 0) (hv : v ≠ 0) (huv : u ≠ v) (yz : (y == z) = false) (hb : x.length + z.length ≤ 16777216)
    (q : ∀ t' tk, Q (.str (repl1 x y z) t') { s with toks := tk }) : wpAny (model prog w) A (call (.builtin "str.replace") [.str x t, .str y u, .str z v, .int 1 k]) Q E s := by
  have big : (2 : Nat) ^ 24 = 16777216 := by decide
  have few := StrLaws.occ_length_le x y 0 x.length 1
  have fit : Builtin.Str.tooLong (x.length + (occurrences x y 0 x.length 1).length * z.length) = false := by
    have := Nat.mul_le_mul_right z.length few
    refine decide_eq_false ?_
    unfold sizeLine
    omega
  refine call_gives F.slot_str_replace (typeIs_str _ _ _) F.entry_str_replace (F.args_str_replace_4 _ _ _ _) (gives_repl1 x y z t u v k (by simp [hu, hv]) (by simp [huv]) yz fit) ?_
  have q' := q
  unfold repl1 at q'
  cases none : ((occurrences x y 0 x.length 1).isEmpty || (y.length == 0 && z.length == 0))
  · rw [none] at q'
    simp only [Bool.false_eq_true, if_false] at q' ⊢
    exact ⟨Nat.le_trans (repl1_size x y z) (by rw [sizeLine_eq]; exact hb), q' _ _⟩
  · rw [none] at q'
    simp only [if_true] at q' ⊢
    exact q' t s.toks
section
variable {X : Cx} {o : Expr} {to : TE} {y z : Str} {j0 j1 j2 : Nat} {c0 c1 c2 apos pos : Pos}
/-- o.replace(y, z) -/
def tRepl (y z : Str) (to : TE) : TE := fun σ H Q => to σ H fun x H1 => ∃ a, x = .str a ∧ (y == z) = false ∧ a.length + (a.length + 1) * z.length ≤ 16777216 ∧ Q (.str (Txt.replace a y z)) H1
theorem pet_repl (obj : PE X o to) (st : starEach [.Constant (.str y) j0 c0, .Constant (.str z) j1 c1] X.env = [(false, eval (.Constant (.str y) j0 c0) X.env), (false, eval (.Constant (.str z) j1 c1) X.env)] := by rfl)
    (base : attributeBase o "replace" X.env (eval o X.env) = eval o X.env := by rfl) (line : (apos.endLine == pos.line) = true := by rfl) :
    PET X (.Call (.Attribute o "replace" apos) [.Constant (.str y) j0 c0, .Constant (.str z) j1 c1] [] pos) (tRepl y z to) := by
  intro pins s0 σ0 H0 Q one inv red
  refine PySem.Call_method2 base st line (wpAny_mono (PySem.wpAny_toks (obj.run pins s0 σ0 H0 _ inv red)) (fun v s1 got => ?_) fun _ _ x => x.2)
  obtain ⟨more, x, H1, inv1, rel, a, ex, yz, room, q⟩ := got
  subst ex
  obtain ⟨t, rfl⟩ := rel
  refine ⟨"str", _, F.plainAttrs_str, F.slot_str_replace, F.type_str_replace, typeIs_str _ _ _, (fun _ e => nomatch e), Calls.callWith_builtin rfl (Calls.evalArgs_plain (Calls.spliced_cons (Calls.Constant_str (Calls.spliced_cons (Calls.Constant_str (Calls.spliced_nil ?_))))))⟩
  exact PySem.SC.replace (show s1.toks ≠ 0 by omega) (show s1.toks + 1 ≠ 0 by omega) (show s1.toks ≠ s1.toks + 1 by omega) yz room fun t' k => ⟨.str (Txt.replace a y z), H1, inv1.tok k, ⟨t', rfl⟩, q⟩
/-- o.replace(y, z, 1) -/
def tRepl1 (y z : Str) (to : TE) : TE := fun σ H Q => to σ H fun x H1 => ∃ a, x = .str a ∧ (y == z) = false ∧ a.length + z.length ≤ 16777216 ∧ Q (.str (repl1 a y z)) H1
theorem pet_repl1 (obj : PE X o to) (st : starEach [.Constant (.str y) j0 c0, .Constant (.str z) j1 c1, .Constant (.int 1) j2 c2] X.env = [(false, eval (.Constant (.str y) j0 c0) X.env), (false, eval (.Constant (.str z) j1 c1) X.env), (false, eval (.Constant (.int 1) j2 c2) X.env)] := by rfl)
    (base : attributeBase o "replace" X.env (eval o X.env) = eval o X.env := by rfl) (line : (apos.endLine == pos.line) = true := by rfl) :
    PET X (.Call (.Attribute o "replace" apos) [.Constant (.str y) j0 c0, .Constant (.str z) j1 c1, .Constant (.int 1) j2 c2] [] pos) (tRepl1 y z to) := by
  intro pins s0 σ0 H0 Q one inv red
  refine PySem.wpAny_Call_method_lateS base (by rw [st]; rfl) line ?_
  rw [st]
  refine wpAny_mono (PySem.wpAny_toks (obj.run pins s0 σ0 H0 _ inv red)) (fun v s1 got => ?_) fun _ _ x => x.2
  obtain ⟨more, x, H1, inv1, rel, a, ex, yz, room, q⟩ := got
  subst ex
  obtain ⟨t, rfl⟩ := rel
  show PySem.MethodOnS _ _ _ _ _ _ _ [(false, eval (.Constant (.str y) j0 c0) X.env), (false, eval (.Constant (.str z) j1 c1) X.env), (false, eval (.Constant (.int 1) j2 c2) X.env)] _ _
  refine ⟨"str", _, F.plainAttrs_str, F.slot_str_replace, F.type_str_replace, typeIs_str _ _ _, (fun _ e => nomatch e), Calls.callWith_builtin rfl (Calls.evalArgs_plain (Calls.spliced_cons (Calls.Constant_str (Calls.spliced_cons (Calls.Constant_str (Calls.spliced_cons (wpAny_Constant_int (Calls.spliced_nil ?_))))))))⟩
  exact call_repl1 (show s1.toks ≠ 0 by omega) (show s1.toks + 1 ≠ 0 by omega) (show s1.toks ≠ s1.toks + 1 by omega) yz room fun t' k => ⟨.str (repl1 a y z), H1, inv1.tok k, ⟨t', rfl⟩, q⟩
theorem pet_op {a b : Expr} {ta tb : TE} {op : Operator} {r : R2} (ho : OpR X (binaryOp op) r) (ha : PE X a ta) (hb : PET X b tb) : PET X (.BinOp a op b pos) (tOp r ta tb) := by
  intro pins s0 σ0 H0 Q one inv red
  refine wpAny_BinOp (wpAny_mono (PySem.wpAny_toks (ha.run pins s0 σ0 H0 _ inv red)) (fun v s1 got => ?_) fun _ _ x => x.2)
  obtain ⟨more, x, H1, inv1, rx, q⟩ := got
  exact thn (hb pins s1 σ0 H1 _ (Nat.le_trans one more) inv1 q) fun u s2 ⟨y, H2, inv2, ry, q2⟩ => ho pins s2 σ0 H2 x y v u Q inv2 rx ry q2
theorem pst_set {i : Nat} {x : Str} {e : Expr} {te : TE} {pos' : Pos} (nod : X.N.Nodup) (at_ : X.N[i]? = some x) (loc : Loc X.env.scope x) (he : PET X e te) (sw : swapsWith e (some (.Name x pos')) pos.line X.env = pure false := by rfl) (hf : X.fn x = true ∨ X.env.scope.names.lookup x = some .local := by first | exact .inl rfl | exact .inr rfl | assumption) :
    PST X (.Assign [.Name x pos'] e pos) (tAsg te (gName i)) := fun pins s0 σ0 H0 D one inv red =>
  wpAny_Assign_Name (thn (he pins s0 σ0 H0 _ one inv red) fun v s1 ⟨y, H1, inv1, rel, q⟩ => store_ok inv1 nod at_ loc rel (fun s2 inv2 => ⟨_, H1, inv2, q⟩) hf) sw
/-- name = [a text, ..]: tokens are out from there on -/
theorem pss_listK {i j : Nat} {x c : Str} {es : List Expr} {tt : TA} {cpos pos' lpos : Pos} {rest : List Stmt} {u : TS} (nod : X.N.Nodup) (at_ : X.N[i]? = some x) (loc : Loc X.env.scope x) (B : PAT X es tt) (next : PSsT X rest u)
    (sw : swapsWith (.List (.Constant (.str c) j cpos :: es) lpos) (some (.Name x pos')) pos.line X.env = pure false := by rfl) (hf : X.fn x = true ∨ X.env.scope.names.lookup x = some .local := by first | exact .inl rfl | exact .inr rfl | assumption)
    (st : starEach (.Constant (.str c) j cpos :: es) X.env = (false, eval (.Constant (.str c) j cpos) X.env) :: starEach es X.env := by rfl) :
    PSs X (.Assign [.Name x pos'] (.List (.Constant (.str c) j cpos :: es) lpos) pos :: rest) (tSeq (tAsg (tLst (tCons (tC (.str c)) tt)) (gName i)) u) := by
  refine ⟨fun pins s0 σ0 H0 D inv red => ?_⟩
  refine wpAny_execs_cons (wpAny_Assign_Name (wpAny_List_spliced ?_) sw)
  rw [st]
  show wpAny _ _ (spliced ((false, eval (.Constant (.str c) j cpos) X.env) :: backTo lpos (starEach es X.env))) _ _ s0
  refine Calls.spliced_cons <| Calls.Constant_str ?_
  refine wpAny_mono (PySem.wpAny_toks (B lpos pins { s0 with toks := s0.toks + 1 } σ0 H0 _ (Nat.le_add_left 1 _) (inv.tok _) red)) (fun us s1 got => ?_) fun _ _ x => x.2
  obtain ⟨more, xs, H1, inv1, rel, few, q⟩ := got
  have more : s0.toks + 1 ≤ s1.toks := more
  refine ⟨?_, ?_⟩
  · have := rel.length
    simpa [← this] using few
  have new : H1 s1.heap.objs.size = none := inv1.hok.fresh (Nat.le_refl _)
  have all : Vals (V.str c :: xs) (Value.str c s0.toks :: us) := .cons ⟨_, rfl⟩ rel
  have inv2 := inv1.laid (t' := s1.toks) (a := s1.heap.objs.size) (o := .lst (V.str c :: xs)) (h' := s1.heap.push { cls := .type "list", data := .seq (Value.str c s0.toks :: us).toArray }) (fun b o e => Heap.get?_push_of_some _ e) (Nat.le_refl _) ⟨few, _, 0, all, Heap.get?_push_size _ rfl⟩
  refine wpAny_mono (PySem.wpAny_toks (store_ok (v := V.ref s1.heap.objs.size) (Q := fun _ s2 => Inv X pins (σ0.set i (some (V.ref s1.heap.objs.size))) (upd H1 s1.heap.objs.size (.lst (V.str c :: xs))) s2) inv2 nod at_ loc rfl (fun _ inv3 => inv3) hf)) (fun _ s2 got => ?_) fun _ _ x => x.2
  have more2 : s1.toks ≤ s2.toks := got.1
  exact next pins s2 _ _ D (by omega) got.2 (q _ new)
end
/-! ### the same, read -/
structure DET (X : Cx) (W : Wd) (XE : XK) (Γ : List Slot) (e : Expr) (te : TE) {α : Type} (T : Ty α) (m : WP α) : Prop where
  pe : PET X e te
  den : DenE X.K W XE Γ te T m
structure DAT (X : Cx) (W : Wd) (XE : XK) (Γ : List Slot) (es : List Expr) (te : TA) {α : Type} (T : TyS α) (m : WP α) : Prop where
  pe : PAT X es te
  den : DenA X.K W XE Γ te T m
structure DST {s l ρ : Type} (X : Cx) (W : Wd) (XE : XK) (Γ : List Slot) (ss : List Stmt) (ts : TS) (Γ' : s → List Slot) (ΓL : l → List Slot) (T : Ty ρ) (m : SB s l ρ) : Prop where
  ps : PSsT X ss ts
  den : DenS X.K W XE Γ ts Γ' ΓL T m
section
variable {X : Cx} {W : Wd} {XE : XK} {Γ : List Slot} {o e : Expr} {es : List Expr} {to te : TE} {tt : TA} {α : Type} {T : Ty α} {m : WP α} {mm : WP (List α)} {y z : Str} {j0 j1 j2 j : Nat} {c0 c1 c2 apos pos : Pos} {mo : WP Str}
theorem det_of (A : DE X W XE Γ e te T m) : DET X W XE Γ e te T m := ⟨fun pins s σ H Q _ I h => A.pe.run pins s σ H Q I h, A.den⟩
theorem det_repl (A : DE X W XE Γ o to tyS mo) (st : starEach [.Constant (.str y) j0 c0, .Constant (.str z) j1 c1] X.env = [(false, eval (.Constant (.str y) j0 c0) X.env), (false, eval (.Constant (.str z) j1 c1) X.env)] := by rfl)
    (base : attributeBase o "replace" X.env (eval o X.env) = eval o X.env := by rfl) (line : (apos.endLine == pos.line) = true := by rfl) :
    DET X W XE Γ (.Call (.Attribute o "replace" apos) [.Constant (.str y) j0 c0, .Constant (.str z) j1 c1] [] pos) (tRepl y z to) tyS (bd mo fun a => nd ((y == z) = false ∧ a.length + (a.length + 1) * z.length ≤ 16777216) (rt (Txt.replace a y z))) :=
  ⟨pet_repl A.pe st base line, fun Qa Ea hh σ H F ev Qv aq ae => A.den _ _ hh σ H F ev _ (fun a x H1 ⟨⟨h1, h2⟩, hq⟩ p r => ⟨a, r, h1, h2, aq _ _ H1 hq p rfl⟩) ae⟩
theorem det_repl1 (A : DE X W XE Γ o to tyS mo) (st : starEach [.Constant (.str y) j0 c0, .Constant (.str z) j1 c1, .Constant (.int 1) j2 c2] X.env = [(false, eval (.Constant (.str y) j0 c0) X.env), (false, eval (.Constant (.str z) j1 c1) X.env), (false, eval (.Constant (.int 1) j2 c2) X.env)] := by rfl)
    (base : attributeBase o "replace" X.env (eval o X.env) = eval o X.env := by rfl) (line : (apos.endLine == pos.line) = true := by rfl) :
    DET X W XE Γ (.Call (.Attribute o "replace" apos) [.Constant (.str y) j0 c0, .Constant (.str z) j1 c1, .Constant (.int 1) j2 c2] [] pos) (tRepl1 y z to) tyS (bd mo fun a => nd ((y == z) = false ∧ a.length + z.length ≤ 16777216) (rt (repl1 a y z))) :=
  ⟨pet_repl1 A.pe st base line, fun Qa Ea hh σ H F ev Qv aq ae => A.den _ _ hh σ H F ev _ (fun a x H1 ⟨⟨h1, h2⟩, hq⟩ p r => ⟨a, r, h1, h2, aq _ _ H1 hq p rfl⟩) ae⟩
theorem dat_nil : DAT X W XE Γ [] tNil (tsQ T) (rt []) := ⟨pat_nil, fun Qa Ea hh σ H F ev Qv aq ae => aq [] [] H hh (PSt.refl ev.ok) trivial⟩
theorem dat_cons (A : DET X W XE Γ e te T m) (B : DAT X W XE Γ es tt (tsQ T) mm) (hs : starEach (e :: es) X.env = (false, eval e X.env) :: starEach es X.env := by rfl) : DAT X W XE Γ (e :: es) (tCons te tt) (tsQ T) (bd m fun u => bd mm fun v => rt (u :: v)) :=
  ⟨pat_cons A.pe B.pe hs, fun Qa Ea hh σ H F ev Qv aq ae => A.den _ _ hh σ H F ev _ (fun u x H1 hu p r1 => B.den _ _ hu σ H1 F (ev.step p) _ (fun v y H2 hv p2 r2 => aq (u :: v) (x :: y) H2 hv (p.trans p2) ⟨T.mono p2.vis r1, r2⟩) (ae.step p)) ae⟩
theorem den_lstQ {K : PySem.W.Frag} (A : DenA K W XE Γ tt (tsQ T) mm) : DenE K W XE Γ (tLst tt) (tyL T) (bd mm fun u => nd (u.length ≤ sizeLine) (rt u)) := fun Qa Ea hh σ H F ev Qv aq ae => A _ _ hh σ H F ev _ (fun u xs H1 ⟨hl, hu⟩ p r1 => ⟨by rw [Reps.len r1]; exact hl, fun q hq =>
  aq u (.ref q) _ hu (p.trans (PSt.same p.ok (same_new hq))) ⟨q, xs, rfl, vis_new (notin_new (ev.step p).dom hq), T.all (vis_same (same_new hq)) r1⟩⟩) ae
theorem det_lst (A : DAT X W XE Γ es tt (tsQ T) mm) : DET X W XE Γ (.List es pos) (tLst tt) (tyL T) (bd mm fun u => nd (u.length ≤ sizeLine) (rt u)) := ⟨pet_lst A.pe, den_lstQ A.den⟩
theorem det_cat {m1 m2 : WP (List α)} (A : DE X W XE Γ o to (tyL T) m1) (B : DET X W XE Γ e te (tyL T) m2) : DET X W XE Γ (.BinOp o .Add e pos) (tOp rCat to te) (tyL T) (bd m1 fun u => bd m2 fun v => nd (u.length + v.length ≤ sizeLine) (rt (u ++ v))) := ⟨pet_op op_cat A.pe B.pe, den_op A.den B.den fun u v => o_catL u v⟩
variable {s l ρ : Type} {Γ' : s → List Slot} {ΓL : l → List Slot} {R : Ty ρ} {ss : List Stmt} {ts : TS}
theorem dst_of {k : SB s l ρ} (A : DS X W XE Γ ss ts Γ' ΓL R k) : DST X W XE Γ ss ts Γ' ΓL R k := ⟨PSsT.of A.ps, A.den⟩
theorem dst_set [Inhabited α] {i : Nat} {x : Str} {pos' : Pos} {k : α → SB s l ρ} (nod : X.N.Nodup) (at_ : X.N[i]? = some x) (loc : Loc X.env.scope x) (A : DET X W XE Γ e te T m) (h : (Γ[i]?.any Slot.imm) = true) (B : ∀ u, DST X W XE (Γ.set i (.rp T u)) ss ts Γ' ΓL R (k u))
    (sw : swapsWith e (some (.Name x pos')) pos.line X.env = pure false := by rfl) (hf : X.fn x = true ∨ X.env.scope.names.lookup x = some .local := by first | exact .inl rfl | exact .inr rfl | assumption) :
    DST X W XE Γ (.Assign [.Name x pos'] e pos :: ss) (tSeq (tAsg te (gName i)) ts) Γ' ΓL R (seS m k) :=
  ⟨psst_cons (pst_set nod at_ loc A.pe sw hf) (B default).ps, fun Z hZ σ H F ev D M => A.den _ _ hZ σ H F ev _ (fun u x H1 hu p r => (B u).den Z hu _ H1 F ((ev.step p).set r h) D (M.up p.vis)) (M.aft ev)⟩
theorem s_listK {i : Nat} {x c : Str} {cpos pos' lpos : Pos} {k : List Str → SB s l ρ} {mm : WP (List Str)} (nod : X.N.Nodup) (at_ : X.N[i]? = some x) (loc : Loc X.env.scope x) (A : DAT X W XE Γ es tt (tsQ tyS) mm) (h : (Γ[i]?.any Slot.imm) = true) (B : ∀ u, DST X W XE (Γ.set i (.rp (tyL tyS) u)) ss ts Γ' ΓL R (k u))
    (sw : swapsWith (.List (.Constant (.str c) j cpos :: es) lpos) (some (.Name x pos')) pos.line X.env = pure false := by rfl) (hf : X.fn x = true ∨ X.env.scope.names.lookup x = some .local := by first | exact .inl rfl | exact .inr rfl | assumption)
    (st : starEach (.Constant (.str c) j cpos :: es) X.env = (false, eval (.Constant (.str c) j cpos) X.env) :: starEach es X.env := by rfl) :
    DS X W XE Γ (.Assign [.Name x pos'] (.List (.Constant (.str c) j cpos :: es) lpos) pos :: ss) (tSeq (tAsg (tLst (tCons (tC (.str c)) tt)) (gName i)) ts) Γ' ΓL R (seS (bd mm fun u => nd ((c :: u).length ≤ sizeLine) (rt (c :: u))) k) :=
  ⟨pss_listK nod at_ loc A.pe (B default).ps sw hf st, fun Z hZ σ H F ev D M => by
    have den : DenA X.K W XE Γ (tCons (tC (.str c)) tt) (tsQ tyS) (bd mm fun u => rt (c :: u)) := fun Qa Ea hh σ H F ev Qv aq ae => A.den _ _ hh σ H F ev _ (fun u y H1 hu p r => aq (c :: u) (V.str c :: y) H1 hu p ⟨rfl, r⟩) ae
    exact den_lstQ den _ _ hZ σ H F ev _ (fun u x H1 hu p r => (B u).den Z hu _ H1 F ((ev.step p).set r h) D (M.up p.vis)) (M.aft ev)⟩
end
end Dn

namespace Wb
open PySem PySem.Spec PyProof.Rows L2 Wx NdefX
def top (i : Nat) : Stmt := PySem.Challenge.pw_waterbyturns_k74_standing_texts.main.body.getD i (.Pass ⟨0, 0, 0, 0⟩)
/-! ### a def that stands, by its name: what a caller needs -/
structure Cal (P : Program) (w : World) (K : PySem.W.Frag) (mg : Str → Option Value) (base : Heap) (name : Str) (ps : List Str) (k : Nat) (sp : Sp) : Prop where
  mk0 ::
  ex : ∃ (g : Addr) (gd : FuncData), FnOk P w K mg base CX0 k g gd ps sp ∧ mg name = some (.ref g) ∧ PySem.W.keepIn K (.ref g) = true ∧ Binds K gd ps []
/-! ### frames -/
/-- what is tracked outside xs stays -/
def Frm (xs : List Addr) (H H' : Hp) : Prop := ∀ b o, ¬ b ∈ xs → H b = some o → H' b = some o
theorem Frm.refl (xs : List Addr) (H : Hp) : Frm xs H H := fun _ _ _ h => h
theorem Frm.trans {xs : List Addr} {H H1 H2 : Hp} (a : Frm xs H H1) (b : Frm xs H1 H2) : Frm xs H H2 := fun c o n h => b c o n (a c o n h)
theorem Frm.of_same {xs : List Addr} {H H' : Hp} (a : Same H H') : Frm xs H H' := fun b o _ h => a b o h
theorem Frm.mono {xs ys : List Addr} {H H' : Hp} (a : Frm xs H H') (h : ∀ b, b ∈ xs → b ∈ ys) : Frm ys H H' := fun b o n e => a b o (fun m => n (h b m)) e
theorem Frm.put {xs : List Addr} {H : Hp} {a : Addr} {o : HO} (m : a ∈ xs) : Frm xs H (upd H a o) := fun b p n e => by
  rw [upd_ne (fun q => n (by rw [q]; exact m))]
  exact e
theorem Same.new {H : Hp} {a : Addr} {o : HO} (n : H a = none) : Same H (upd H a o) := fun b p e => by
  rw [upd_ne (ne_of_none e n)]
  exact e
theorem Frm.new {xs : List Addr} {H : Hp} {a : Addr} {o : HO} (n : H a = none) : Frm xs H (upd H a o) := Frm.of_same (Same.new n)
theorem Frm.same {H H' : Hp} (a : Frm [] H H') : Same H H' := fun b o e => a b o (by simp) e
/-- an address that was new and may change behind its making is no part of the frame of what was there before -/
theorem Frm.drop {x : Addr} {xs : List Addr} {H0 H1 H2 : Hp} (n : H0 x = none) (a : Frm xs H0 H1) (b : Frm (x :: xs) H1 H2) : Frm xs H0 H2 := fun c o nc e => by
  refine b c o ?_ (a c o nc e)
  intro m
  rcases List.mem_cons.mp m with q | q
  · rw [q] at e
    rw [n] at e
    cases e
  · exact nc q
theorem Frm.none {xs : List Addr} {H H' : Hp} (a : Frm xs H H') {l : Addr} (nl : ¬ l ∈ xs) (h : H' l = Option.none) : H l = Option.none := by
  cases q : H l with
  | none => rfl
  | some o =>
    have := a l o nl q
    rw [this] at h
    cases h
/-- the heap without xs -/
def hid (xs : List Addr) (H : Hp) : Hp := fun b => if b ∈ xs then none else H b
theorem hid_same (xs : List Addr) (H : Hp) : Same (hid xs H) H := fun b o e => by
  unfold hid at e
  split at e
  · cases e
  · exact e
theorem hid_frm {xs : List Addr} {H H' : Hp} (a : Frm xs H H') : Same (hid xs H) (hid xs H') := fun b o e => by
  unfold hid at e ⊢
  split at e
  · cases e
  · rename_i n
    rw [if_neg n]
    exact a b o n e
theorem hid_eq {xs : List Addr} {H : Hp} {b : Addr} (n : ¬ b ∈ xs) : hid xs H b = H b := if_neg n
theorem hid_mono {xs ys : List Addr} {H : Hp} (h : ∀ b, b ∈ xs → b ∈ ys) : Same (hid ys H) (hid xs H) := fun b o e => by
  unfold hid at e ⊢
  split at e
  · cases e
  · rename_i n
    rw [if_neg (fun m => n (h b m))]
    exact e
theorem hid_nil (H : Hp) : hid [] H = H := by
  funext b
  exact if_neg (by simp)
theorem rd_same {H H' : Hp} (s : Same H H') {a : Addr} {o : HO} (h : Rd H a o) : Rd H' a o := by
  rcases h with h | ⟨x, h⟩
  · exact .inl (s _ _ h)
  · exact .inr ⟨x, s _ _ h⟩
theorem seqT {K : PySem.W.Frag} {H H' : Hp} {a : Addr} {xs : List V} (s : Same H H') (h : SqT K H a xs) : SqT K H' a xs := h.imp (rd_same s) id
/-! data in the heap, seen from a larger heap -/
mutual
theorem dp_same {K : PySem.W.Frag} {H H' : Hp} (s : Same H H') : ∀ {v : V} {d : PyData}, Dp K H v d → Dp K H' v d
  | _, _, .non => .non
  | _, _, .bl b => .bl b
  | _, _, .int i => .int i
  | _, _, .str x => .str x
  | _, _, .lst h r => .lst (s.seq h) (dpAll_same s r)
  | _, _, .tup h r => .tup (seqT s h) (dpAll_same s r)
theorem dpAll_same {K : PySem.W.Frag} {H H' : Hp} (s : Same H H') : ∀ {v : List V} {d : List PyData}, DpAll K H v d → DpAll K H' v d
  | _, _, .nil => .nil
  | _, _, .cons a b => .cons (dp_same s a) (dpAll_same s b)
end
theorem dpAll_get {K : PySem.W.Frag} {H : Hp} : ∀ {vs : List V} {ds : List PyData}, DpAll K H vs ds → ∀ {i : Nat} {v : V}, vs[i]? = some v → ∃ d, ds[i]? = some d ∧ Dp K H v d
  | _, _, .nil, i, v, h => by simp at h
  | _, _, .cons a b, 0, v, h => by
    have e := Option.some.inj h
    subst e
    exact ⟨_, rfl, a⟩
  | _, _, .cons a b, i + 1, v, h => dpAll_get b (i := i) h
theorem dpAll_len {K : PySem.W.Frag} {H : Hp} : ∀ {vs : List V} {ds : List PyData}, DpAll K H vs ds → vs.length = ds.length
  | _, _, .nil => rfl
  | _, _, .cons _ b => congrArg (· + 1) (dpAll_len b)
theorem dpAll_snoc {K : PySem.W.Frag} {H : Hp} : ∀ {vs : List V} {ds : List PyData} {v : V} {d : PyData}, DpAll K H vs ds → Dp K H v d → DpAll K H (vs ++ [v]) (ds ++ [d])
  | _, _, _, _, .nil, h => .cons h .nil
  | _, _, _, _, .cons a b, h => .cons a (dpAll_snoc b h)
theorem dpAll_ints {K : PySem.W.Frag} {H : Hp} : ∀ (l : List Int), DpAll K H (l.map V.int) (l.map PyData.int)
  | [] => .nil
  | i :: l => .cons (.int i) (dpAll_ints l)
theorem dpAll_ints_eq {K : PySem.W.Frag} {H : Hp} : ∀ {l : List Int} {vs : List V}, DpAll K H vs (l.map PyData.int) → vs = l.map V.int
  | [], _, .nil => rfl
  | i :: l, _, .cons (.int _) b => congrArg (V.int i :: ·) (dpAll_ints_eq b)
/-- o[i] of a list, for o[i] += e -/
theorem get_list {X : Cx} : PGet X (fun o i H Q => ∃ p xs k z, o = .ref p ∧ i = .int k ∧ SqL X.K H p xs ∧ 0 ≤ k ∧ xs[k.toNat]? = some z ∧ Q z H) := by
  intro pins s σ H o i ov iv Q I ro ri h
  obtain ⟨p, xs, k, z, rfl, rfl, hq, h0, hz, q⟩ := h
  cases ro
  obtain ⟨t, rfl⟩ := ri
  obtain ⟨its, r, pl, hs⟩ := I.list hq
  obtain ⟨w, ew, rw'⟩ := r.get hz
  have hl := r.length
  have hn := line63
  have hlt : k.toNat < xs.length := (List.getElem?_eq_some_iff.mp hz).1
  exact wpAny_getItem_list pl.isList h0 (by omega) (by simpa using ew) ⟨z, H, I, rw', q⟩
def rListOf (K : PySem.W.Frag) : List V → Hp → VK → Prop := fun xs H Q => ∃ p ys, xs = [.ref p] ∧ (SqL K H p ys ∨ SqT K H p ys) ∧ ∀ l, H l = none → Q (.ref l) (upd H l (.lst ys))
def rLenSeq (K : PySem.W.Frag) : List V → Hp → VK → Prop := fun xs H Q => ∃ p ys, xs = [.ref p] ∧ (SqL K H p ys ∨ SqT K H p ys) ∧ Q (.int ys.length) H
theorem Cal.mk {P : Program} {w : World} {K : PySem.W.Frag} {mg : Str → Option Value} {base : Heap} {name : Str} {ps : List Str} {k : Nat} {sp : Sp} {g : Addr} {gd : FuncData} (G : FnOk P w K mg base CX0 k g gd ps sp) (m : mg name = some (.ref g)) (kp : PySem.W.keepIn K (.ref g) = true) (b : Binds K gd ps []) : Cal P w K mg base name ps k sp := .mk0 ⟨g, gd, G, m, kp, b⟩
abbrev s_shown : Stmt := top 1
abbrev N_shown : List Str := ["value"]
abbrev P_shown : List Str := ["value"]
theorem sc_shown : FnScope N_shown P_shown (defScope s_shown) := ⟨rfl, rfl, rfl, by decide +kernel, rfl, by decide +kernel, by decide +kernel⟩
abbrev sBadNumber___init__ : Stmt := inClass (top 3) 0
abbrev NBadNumber___init__ : List Str := ["self", "what", "value", "__class__"]
abbrev PBadNumber___init__ : List Str := ["self", "what", "value"]
theorem scBadNumber___init__ : NScope NBadNumber___init__ PBadNumber___init__ ["__class__"] (defScope sBadNumber___init__) := nscope_by (by decide +kernel)
abbrev sBadText___init__ : Stmt := inClass (top 4) 0
abbrev NBadText___init__ : List Str := ["self", "line", "__class__"]
abbrev PBadText___init__ : List Str := ["self", "line"]
theorem scBadText___init__ : NScope NBadText___init__ PBadText___init__ ["__class__"] (defScope sBadText___init__) := nscope_by (by decide +kernel)
abbrev scheck_number : Stmt := top 11
abbrev Ncheck_number : List Str := ["what", "value", "low", "high"]
abbrev Pcheck_number : List Str := ["what", "value", "low", "high"]
theorem sccheck_number : FnScope Ncheck_number Pcheck_number (defScope scheck_number) := ⟨rfl, rfl, rfl, by decide +kernel, rfl, by decide +kernel, by decide +kernel⟩
abbrev scheck_units : Stmt := top 12
abbrev Ncheck_units : List Str := ["what", "values", "value"]
abbrev Pcheck_units : List Str := ["what", "values"]
theorem sccheck_units : FnScope Ncheck_units Pcheck_units (defScope scheck_units) := ⟨rfl, rfl, rfl, by decide +kernel, rfl, by decide +kernel, by decide +kernel⟩
abbrev sread_number : Stmt := top 13
abbrev Nread_number : List Str := ["text"]
abbrev Pread_number : List Str := ["text"]
theorem scread_number : FnScope Nread_number Pread_number (defScope sread_number) := ⟨rfl, rfl, rfl, by decide +kernel, rfl, by decide +kernel, by decide +kernel⟩
abbrev sis_number : Stmt := top 14
abbrev Nis_number : List Str := ["text", "letter"]
abbrev Pis_number : List Str := ["text"]
theorem scis_number : FnScope Nis_number Pis_number (defScope sis_number) := ⟨rfl, rfl, rfl, by decide +kernel, rfl, by decide +kernel, by decide +kernel⟩
abbrev sStanding___init__ : Stmt := inClass (top 16) 0
abbrev NStanding___init__ : List Str := ["self", "levels", "tank", "mood"]
abbrev PStanding___init__ : List Str := ["self", "levels", "tank", "mood"]
theorem scStanding___init__ : FnScope NStanding___init__ PStanding___init__ (defScope sStanding___init__) := ⟨rfl, rfl, rfl, by decide +kernel, rfl, by decide +kernel, by decide +kernel⟩
abbrev sStanding___eq__ : Stmt := inClass (top 16) 1
abbrev NStanding___eq__ : List Str := ["self", "other"]
abbrev PStanding___eq__ : List Str := ["self", "other"]
theorem scStanding___eq__ : FnScope NStanding___eq__ PStanding___eq__ (defScope sStanding___eq__) := ⟨rfl, rfl, rfl, by decide +kernel, rfl, by decide +kernel, by decide +kernel⟩
abbrev sStanding___str__ : Stmt := inClass (top 16) 3
abbrev NStanding___str__ : List Str := ["self", "levels", "level"]
abbrev PStanding___str__ : List Str := ["self"]
theorem scStanding___str__ : FnScope NStanding___str__ PStanding___str__ (defScope sStanding___str__) := ⟨rfl, rfl, rfl, by decide +kernel, rfl, by decide +kernel, by decide +kernel⟩
abbrev sread_standing : Stmt := top 18
abbrev Nread_standing : List Str := ["text", "words", "parts", "mood", "levels", "tank", "part"]
abbrev Pread_standing : List Str := ["text"]
theorem scread_standing : FnScope Nread_standing Pread_standing (defScope sread_standing) := ⟨rfl, rfl, rfl, by decide +kernel, rfl, by decide +kernel, by decide +kernel⟩
abbrev s_are_numbers : Stmt := top 19
abbrev N_are_numbers : List Str := ["words", "word"]
abbrev P_are_numbers : List Str := ["words"]
theorem sc_are_numbers : FnScope N_are_numbers P_are_numbers (defScope s_are_numbers) := ⟨rfl, rfl, rfl, by decide +kernel, rfl, by decide +kernel, by decide +kernel⟩
abbrev s_law_start : Stmt := top 21
abbrev N_law_start : List Str := ["script", "first"]
abbrev P_law_start : List Str := ["script"]
theorem sc_law_start : FnScope N_law_start P_law_start (defScope s_law_start) := ⟨rfl, rfl, rfl, by decide +kernel, rfl, by decide +kernel, by decide +kernel⟩
abbrev s_law_draw : Stmt := top 22
abbrev N_law_draw : List Str := ["script", "state", "limit", "number", "cell", "mixed"]
abbrev P_law_draw : List Str := ["script", "state", "limit"]
theorem sc_law_draw : FnScope N_law_draw P_law_draw (defScope s_law_draw) := ⟨rfl, rfl, rfl, by decide +kernel, rfl, by decide +kernel, by decide +kernel⟩
abbrev s_law_told : Stmt := top 23
abbrev N_law_told : List Str := ["text", "e"]
abbrev P_law_told : List Str := ["text"]
theorem sc_law_told : FnScope N_law_told P_law_told (defScope s_law_told) := ⟨rfl, rfl, rfl, by decide +kernel, rfl, by decide +kernel, by decide +kernel⟩
abbrev s_law_text : Stmt := top 24
abbrev N_law_text : List Str := ["levels", "tank", "mood", "level"]
abbrev P_law_text : List Str := ["levels", "tank", "mood"]
theorem sc_law_text : FnScope N_law_text P_law_text (defScope s_law_text) := ⟨rfl, rfl, rfl, by decide +kernel, rfl, by decide +kernel, by decide +kernel⟩
abbrev s_law_wrong_texts : Stmt := top 25
abbrev N_law_wrong_texts : List Str := ["text", "rows"]
abbrev P_law_wrong_texts : List Str := ["text"]
theorem sc_law_wrong_texts : FnScope N_law_wrong_texts P_law_wrong_texts (defScope s_law_wrong_texts) := ⟨rfl, rfl, rfl, by decide +kernel, rfl, by decide +kernel, by decide +kernel⟩
abbrev slaw : Stmt := top 26
abbrev Nlaw : List Str := ["script", "state", "levels", "tank", "mood", "standing", "text", "wrong", "far", "at", "high", "k"]
abbrev Plaw : List Str := ["script"]
theorem sclaw : FnScope Nlaw Plaw (defScope slaw) := ⟨rfl, rfl, rfl, by decide +kernel, rfl, by decide +kernel, by decide +kernel⟩
/-- what the top has written -/
structure Txt (K : PySem.W.Frag) (mg : Str → Option Value) : Prop where
  b_len : mg "len" = none
  b_abs : mg "abs" = none
  b_int : mg "int" = none
  b_bool : mg "bool" = none
  b_str : mg "str" = none
  b_range : mg "range" = none
  b_all : mg "all" = none
  b_isinstance : mg "isinstance" = none
  b_tuple : mg "tuple" = none
  b_super : mg "super" = none
  b_repr : mg "repr" = none
  c_MOST_PLOTS : ∃ t, mg "MOST_PLOTS" = some (.int 4 t)
  c_MOST_UNITS : ∃ t, mg "MOST_UNITS" = some (.int 8 t)
  c_MOST_MOODS : ∃ t, mg "MOST_MOODS" = some (.int 4 t)
  c__LONGEST_NUMBER : ∃ t, mg "_LONGEST_NUMBER" = some (.int 4 t)
  c__DIGITS : ∃ t, mg "_DIGITS" = some (.str "0123456789" t)
end Wb

set_option synthInstance.maxSize 2000
namespace Wb
open PySem PySem.Spec PyProof.Rows L2 Wx NdefX RZ StX PyProof.Rows.FinIter
section
variable {P : Program} {w : World} {K : PySem.W.Frag} {mg : Str → Option Value} {base : Heap}

/-- a state: four ints -/
def St4 (H : Hp) (a : Addr) : Prop := ∃ i j k l : Int, H a = some (.lst [.int i, .int j, .int k, .int l])
/-- the script at a and the state at s -/
def Scr (K : PySem.W.Frag) (H : Hp) (a s : Addr) : Prop := (∃ ns : List Int, SqL K (hid [s] H) a (ns.map V.int) ∧ ns.length ≤ 63) ∧ St4 H s
theorem Frm.put' {xs : List Addr} {H H1 : Hp} {a : Addr} {o : HO} (f : Frm xs H H1) (m : a ∈ xs) : Frm xs H (upd H1 a o) := f.trans (Frm.put m)
theorem Scr.frm {K : PySem.W.Frag} {H H' : Hp} {a s : Addr} (h : Scr K H a s) (f : Frm [s] H H') (q : St4 H' s) : Scr K H' a s := by
  obtain ⟨⟨ns, h1, h2⟩, _⟩ := h
  exact ⟨⟨ns, (hid_frm f).seq h1, h2⟩, q⟩
/-- what else is made or changed is not the state -/
theorem Scr.same {K : PySem.W.Frag} {H H' : Hp} {a s : Addr} (h : Scr K H a s) (f : Same H H') : Scr K H' a s := by
  obtain ⟨i, j, k, l, e⟩ := h.2
  exact h.frm (Frm.of_same f) ⟨i, j, k, l, f _ _ e⟩
theorem Scr.ne {K : PySem.W.Frag} {H : Hp} {a s p : Addr} (h : Scr K H a s) (n : H p = none) : ¬ p = s := by
  rintro rfl
  obtain ⟨_, _, _, _, e⟩ := h.2
  rw [n] at e
  cases e
theorem Scr.made {K : PySem.W.Frag} {H : Hp} {a p : Addr} {ns : List Int} (hS : SqL K H a (ns.map V.int)) (hl : ns.length ≤ 63) (n : H p = none) {i j k l : Int} : Scr K (upd H p (.lst [.int i, .int j, .int k, .int l])) a p := by
  refine ⟨⟨ns, Same.seq (H := H) (fun b o e => ?_) hS, hl⟩, i, j, k, l, upd_same⟩
  have nb : b ≠ p := ne_of_none e n
  rw [hid_eq (by simpa using nb), upd_ne nb]
  exact e
theorem ints_at {ns : List Int} {i : Int} (h0 : 0 ≤ i) (h1 : i < ns.length) : ∃ z : Int, atI (ns.map V.int) i = some (.int z) := by
  obtain ⟨j, rfl⟩ : ∃ j : Nat, i = (j : Int) := ⟨i.toNat, by omega⟩
  have hj : j < ns.length := by omega
  exact ⟨ns[j], atI_nat (by simp [hj])⟩
theorem fmod0 {a b : Int} (h : 0 < b) : 0 ≤ a.fmod b := by
  rw [Int.fmod_eq_emod_of_nonneg _ (by omega)]
  exact Int.emod_nonneg _ (by omega)
theorem fmod1 {a b : Int} (h : 0 < b) : a.fmod b < b := by
  rw [Int.fmod_eq_emod_of_nonneg _ (by omega)]
  exact Int.emod_lt_of_pos _ h
def sp_law_start (K : PySem.W.Frag) : Sp := fun vs H Q _ => ∃ (a : Addr) (ns : List Int), vs = [.ref a] ∧ SqL K H a (ns.map V.int) ∧ ns.length ≤ 63 ∧ ∀ p H', Same H H' → H p = none → Scr K H' a p → Q (.ref p) H'
def sp_law_draw (K : PySem.W.Frag) : Sp := fun vs H Q _ => ∃ (a s : Addr) (n : Int), vs = [.ref a, .ref s, .int n] ∧ Scr K H a s ∧ 0 < n ∧ n < 1152921504606846976 ∧ ∀ (r : Int) (H' : Hp), 0 ≤ r → r < n → Frm [s] H H' → Scr K H' a s → Q (.int r) H'

theorem ok_law_start {f : Addr} {fd : FuncData} (F : Fun K "_law_start" "_law_start" s_law_start f fd) (T : Txt K mg) : FnOk P w K mg base (L2.CX P w) 1 f fd P_law_start (sp_law_start K) := by
  refine F.okX sc_law_start (fun vs H Q E h => ?_) (fun cdv A outer s H vs Q E hr h => ?_)
  · obtain ⟨a, ns, rfl, hS, hlen, k⟩ := h
    rfl
  · obtain ⟨a, ns, rfl, hS, hlen, k⟩ := h
    refine ⟨_, (pss_cons (ps_set (i := 1) sc_law_start.nd rfl (by first | exact Or.inl rfl | exact Or.inr rfl) pe_int)
  (pss_cons (ps_if (pt_cmpR op_gt (pe_callB call_len_seq (by rfl) T.b_len PySem.boot_len (pa_cons (pv 0) pa_nil)) pe_int (nomark _))
  (pss_one (ps_set (i := 1) sc_law_start.nd rfl (by first | exact Or.inl rfl | exact Or.inr rfl) (pe_ix ix_list (pv 0) pe_int (fun _ _ => rfl))))
  pss_nil)
  (pss_one (ps_ret (pe_lst (pa_cons (pe_callB (id := "abs") call_abs (by rfl) T.b_abs (by decide +kernel) (pa_cons (pe_callTy (T := "int") call_int1 (by rfl) T.b_int (by decide +kernel) (pa_cons (pv 1) pa_nil)) pa_nil)) (pa_cons (pe_callTy (T := "int") call_int1 (by rfl) T.b_int (by decide +kernel) (pa_cons (pe_cmpR op_ge (pe_callB (id := "abs") call_abs (by rfl) T.b_abs (by decide +kernel) (pa_cons (pe_callTy (T := "int") call_int1 (by rfl) T.b_int (by decide +kernel) (pa_cons (pv 1) pa_nil)) pa_nil)) (pe_op op_pow pe_int pe_int) (nomark _)) pa_nil)) (pa_cons pe_int (pa_cons pe_int pa_nil))))))))), ?_⟩
    refine ⟨_, rfl, a, _, rfl, .inl hS, _, _, rfl, rfl, _, rfl, ?_⟩
    refine ite2 (fun c => ?_) (fun c => ?_)
    · have hp : (0 : Int) < ns.length := by simpa using of_decide_eq_true c
      obtain ⟨z, hz⟩ := ints_at (ns := ns) (i := 0) (by omega) hp
      refine ⟨_, rfl, a, _, _, _, rfl, rfl, hS, hz, ?_⟩
      refine ⟨_, rfl, .inl ⟨_, rfl, _, rfl, _, rfl, .inl ⟨_, rfl, _, rfl, _, _, rfl, rfl, ⟨by decide, by decide, by decide⟩, _, _, rfl, rfl, .inr ⟨_, rfl, (by show 4 ≤ sizeLine; decide), fun l hl => k _ _ (Same.new hl) hl (Scr.made hS hlen hl)⟩⟩⟩⟩
    · refine ⟨_, rfl, .inl ⟨_, rfl, _, rfl, _, rfl, .inl ⟨_, rfl, _, rfl, _, _, rfl, rfl, ⟨by decide, by decide, by decide⟩, _, _, rfl, rfl, .inr ⟨_, rfl, (by show 4 ≤ sizeLine; decide), fun l hl => k _ _ (Same.new hl) hl (Scr.made hS hlen hl)⟩⟩⟩⟩

theorem ok_law_draw {f : Addr} {fd : FuncData} (F : Fun K "_law_draw" "_law_draw" s_law_draw f fd) (T : Txt K mg) : FnOk P w K mg base (L2.CX P w) 1 f fd P_law_draw (sp_law_draw K) := by
  refine F.okX sc_law_draw (fun vs H Q E h => ?_) (fun cdv A outer s H vs Q E hr h => ?_)
  · obtain ⟨a, s0, n, rfl, hScr, n0, n1, k⟩ := h
    rfl
  · obtain ⟨a, s0, n, rfl, hScr, n0, n1, k⟩ := h
    refine ⟨_, (pss_cons (ps_asg (pe_op op_add (pe_ix ix_list (pv 1) pe_int (fun _ _ => rfl)) pe_int) (pg_sub (pv 1) pe_int set_list))
  (pss_cons (ps_if (PW.pt (pw_and (pt_cmpR op_eq (pe_ix ix_list (pv 1) pe_int (fun _ _ => rfl)) pe_int (nomark _)) (pw_and1 (pt_cmpR op_gt (pe_ix ix_list (pv 1) pe_int (fun _ _ => rfl)) pe_int (nomark _)))))
  (pss_cons (ps_set (i := 3) sc_law_draw.nd rfl (by first | exact Or.inl rfl | exact Or.inr rfl) (pe_op op_modN (pe_callTy (T := "int") call_int1 (by rfl) T.b_int (by decide +kernel) (pa_cons (pe_ix ix_list (pv 1) pe_int (fun _ _ => rfl)) pa_nil)) (pv 2)))
  (pss_cons (ps_asg (pe_op op_fdivW (pe_ix ix_list (pv 1) pe_int (fun _ _ => rfl)) (pv 2)) (pg_sub (pv 1) pe_int set_list))
  (pss_one (ps_ret (pv 3)))))
  pss_nil)
  (pss_cons (ps_asg pe_int (pg_sub (pv 1) pe_int set_list))
  (pss_cons (ps_set (i := 4) sc_law_draw.nd rfl (by first | exact Or.inl rfl | exact Or.inr rfl) pe_int)
  (pss_cons (ps_if (pt_cmpR op_gt (pe_callB call_len_seq (by rfl) T.b_len PySem.boot_len (pa_cons (pv 0) pa_nil)) pe_int (nomark _))
  (pss_one (ps_set (i := 4) sc_law_draw.nd rfl (by first | exact Or.inl rfl | exact Or.inr rfl) (pe_ix ix_list (pv 0) (pe_op op_modN (pe_callTy (T := "int") call_int1 (by rfl) T.b_int (by decide +kernel) (pa_cons (pe_ix ix_list (pv 1) pe_int (fun _ _ => rfl)) pa_nil)) (pe_callB call_len_seq (by rfl) T.b_len PySem.boot_len (pa_cons (pv 0) pa_nil))) (fun _ _ => rfl))))
  pss_nil)
  (pss_cons (ps_asg (pe_op op_add (pe_ix ix_list (pv 1) pe_int (fun _ _ => rfl)) pe_int) (pg_sub (pv 1) pe_int set_list))
  (pss_cons (ps_set (i := 5) sc_law_draw.nd rfl (by first | exact Or.inl rfl | exact Or.inr rfl) (pe_op op_mul (pe_op op_modN (pe_callTy (T := "int") call_int1 (by rfl) T.b_int (by decide +kernel) (pa_cons (pe_ix ix_list (pv 1) pe_int (fun _ _ => rfl)) pa_nil)) pe_int) pe_int))
  (pss_cons (ps_set (i := 5) sc_law_draw.nd rfl (by first | exact Or.inl rfl | exact Or.inr rfl) (pe_op op_add (pe_op op_add (pe_op op_add (pv 5) (pe_op op_modN (pe_callTy (T := "int") call_int1 (by rfl) T.b_int (by decide +kernel) (pa_cons (pv 4) pa_nil)) pe_int)) (pe_op op_mul pe_int (pe_ix ix_list (pv 1) pe_int (fun _ _ => rfl)))) pe_int))
  (pss_cons (ps_asg (pe_op op_modN (pe_callTy (T := "int") call_int1 (by rfl) T.b_int (by decide +kernel) (pa_cons (pv 5) pa_nil)) pe_int) (pg_sub (pv 1) pe_int set_list))
  (pss_cons (ps_set (i := 5) sc_law_draw.nd rfl (by first | exact Or.inl rfl | exact Or.inr rfl) (pe_op op_modN (pe_callTy (T := "int") call_int1 (by rfl) T.b_int (by decide +kernel) (pa_cons (pe_op op_add (pe_op op_mul (pe_ix ix_list (pv 1) pe_int (fun _ _ => rfl)) pe_int) (pe_ix ix_list (pv 1) pe_int (fun _ _ => rfl))) pa_nil)) pe_int))
  (pss_one (ps_ret (pe_op op_modN (pe_callTy (T := "int") call_int1 (by rfl) T.b_int (by decide +kernel) (pa_cons (pe_op op_fdivN (pv 5) pe_int) pa_nil)) (pv 2)))))))))))))), ?_⟩
    obtain ⟨⟨ns, hS, hl⟩, i0, i1, i2, i3, h4⟩ := id hScr
    have hA : ∀ H', Frm [s0] H H' → SqL K H' a (ns.map V.int) := fun H' fr => ((hid_frm fr).trans (hid_same _ _)).seq hS
    -- state[3] = state[3] + 1
    refine ⟨_, rfl, s0, _, _, _, rfl, rfl, SqL.of h4, rfl, _, _, rfl, rfl, _, rfl, s0, _, _, _, rfl, rfl, h4, rfl, ?_⟩
    refine ⟨_, rfl, s0, _, _, _, rfl, rfl, SqL.of upd_same, rfl, rfl, _, rfl, ?_⟩
    refine ite2 (fun c1 => ?_) (fun c1 => ?_)
    · refine ⟨_, rfl, s0, _, _, _, rfl, rfl, SqL.of upd_same, rfl, _, _, rfl, rfl, _, rfl, ?_⟩
      refine ite2 (fun c2 => ?_) (fun c2 => ?_)
      · refine ⟨_, rfl, s0, _, _, _, rfl, rfl, SqL.of upd_same, rfl, .inl ⟨_, rfl, _, rfl, _, _, rfl, rfl, (by show (_ : Int) ≠ 0; omega), ?_⟩⟩
        refine ⟨_, rfl, s0, _, _, _, rfl, rfl, SqL.of upd_same, rfl, _, rfl, _, _, rfl, rfl, ⟨by omega, Nat.lt_of_lt_of_le (PySem.Flt.log2_lt_of (k := 60) (by decide) (by omega)) (by decide)⟩, _, rfl, s0, _, _, _, rfl, rfl, upd_same, rfl, ?_⟩
        exact ⟨_, rfl, k _ _ (fmod0 n0) (fmod1 n0) (by repeat (first | exact Frm.refl _ _ | refine Frm.put' ?_ (by simp))) (hScr.frm (by repeat (first | exact Frm.refl _ _ | refine Frm.put' ?_ (by simp))) ⟨_, _, _, _, upd_same⟩)⟩
      · refine ⟨_, rfl, s0, _, _, _, rfl, rfl, upd_same, rfl, ?_⟩
        refine ⟨_, rfl, a, _, rfl, .inl (hA _ (by repeat (first | exact Frm.refl _ _ | refine Frm.put' ?_ (by simp)))), _, _, rfl, rfl, _, rfl, ?_⟩
        refine ite2 (fun c => ?_) (fun c => ?_)
        · have hp : (0 : Int) < ns.length := by simpa using of_decide_eq_true c
          obtain ⟨z, hz⟩ := ints_at (ns := ns) (i := i2.fmod ((ns.map V.int).length : Nat)) (fmod0 (by simpa using hp)) (by simpa using fmod1 (a := i2) hp)
          refine ⟨_, rfl, _, rfl, s0, _, _, _, rfl, rfl, SqL.of upd_same, rfl, .inl ⟨_, rfl, _, rfl, a, _, rfl, .inl (hA _ (by repeat (first | exact Frm.refl _ _ | refine Frm.put' ?_ (by simp)))), _, _, rfl, rfl, (by show (((ns.map V.int).length : Nat) : Int) ≠ 0; rw [List.length_map]; omega), a, _, _, _, rfl, rfl, hA _ (by repeat (first | exact Frm.refl _ _ | refine Frm.put' ?_ (by simp))), hz, ?_⟩⟩
          -- state[2] = state[2] + 1; mixed = ..
          refine ⟨_, rfl, s0, _, _, _, rfl, rfl, SqL.of upd_same, rfl, _, _, rfl, rfl, _, rfl, s0, _, _, _, rfl, rfl, upd_same, rfl, ?_⟩
          refine ⟨_, rfl, s0, _, _, _, rfl, rfl, SqL.of upd_same, rfl, .inl ⟨_, rfl, _, _, rfl, rfl, (by show (_ : Int) ≠ 0; decide), _, _, rfl, rfl, .inr ⟨by decide, by decide⟩, ?_⟩⟩
          refine ⟨_, rfl, _, rfl, .inl ⟨_, rfl, _, _, rfl, rfl, (by show (_ : Int) ≠ 0; decide), _, _, rfl, rfl, _, rfl, s0, _, _, _, rfl, rfl, SqL.of upd_same, rfl, _, _, rfl, rfl, .inl ⟨by decide, by decide⟩, _, _, rfl, rfl, _, _, rfl, rfl, ?_⟩⟩
          refine ⟨_, rfl, .inl ⟨_, rfl, _, _, rfl, rfl, (by show (_ : Int) ≠ 0; decide), _, rfl, s0, _, _, _, rfl, rfl, upd_same, rfl, ?_⟩⟩
          refine ⟨_, rfl, s0, _, _, _, rfl, rfl, SqL.of upd_same, rfl, _, _, rfl, rfl, .inr ⟨by decide, by decide⟩, _, rfl, s0, _, _, _, rfl, rfl, SqL.of upd_same, rfl, _, _, rfl, rfl, .inl ⟨_, rfl, _, _, rfl, rfl, (by show (_ : Int) ≠ 0; decide), ?_⟩⟩
          refine ⟨_, rfl, _, _, rfl, rfl, ⟨by decide, by decide⟩, .inl ⟨_, rfl, _, rfl, _, _, rfl, rfl, (by show (_ : Int) ≠ 0; omega), ?_⟩⟩
          exact k _ _ (fmod0 n0) (fmod1 n0) (by repeat (first | exact Frm.refl _ _ | refine Frm.put' ?_ (by simp))) (hScr.frm (by repeat (first | exact Frm.refl _ _ | refine Frm.put' ?_ (by simp))) ⟨_, _, _, _, upd_same⟩)
        · -- state[2] = state[2] + 1; mixed = ..
          refine ⟨_, rfl, s0, _, _, _, rfl, rfl, SqL.of upd_same, rfl, _, _, rfl, rfl, _, rfl, s0, _, _, _, rfl, rfl, upd_same, rfl, ?_⟩
          refine ⟨_, rfl, s0, _, _, _, rfl, rfl, SqL.of upd_same, rfl, .inl ⟨_, rfl, _, _, rfl, rfl, (by show (_ : Int) ≠ 0; decide), _, _, rfl, rfl, .inr ⟨by decide, by decide⟩, ?_⟩⟩
          refine ⟨_, rfl, _, rfl, .inl ⟨_, rfl, _, _, rfl, rfl, (by show (_ : Int) ≠ 0; decide), _, _, rfl, rfl, _, rfl, s0, _, _, _, rfl, rfl, SqL.of upd_same, rfl, _, _, rfl, rfl, .inl ⟨by decide, by decide⟩, _, _, rfl, rfl, _, _, rfl, rfl, ?_⟩⟩
          refine ⟨_, rfl, .inl ⟨_, rfl, _, _, rfl, rfl, (by show (_ : Int) ≠ 0; decide), _, rfl, s0, _, _, _, rfl, rfl, upd_same, rfl, ?_⟩⟩
          refine ⟨_, rfl, s0, _, _, _, rfl, rfl, SqL.of upd_same, rfl, _, _, rfl, rfl, .inr ⟨by decide, by decide⟩, _, rfl, s0, _, _, _, rfl, rfl, SqL.of upd_same, rfl, _, _, rfl, rfl, .inl ⟨_, rfl, _, _, rfl, rfl, (by show (_ : Int) ≠ 0; decide), ?_⟩⟩
          refine ⟨_, rfl, _, _, rfl, rfl, ⟨by decide, by decide⟩, .inl ⟨_, rfl, _, rfl, _, _, rfl, rfl, (by show (_ : Int) ≠ 0; omega), ?_⟩⟩
          exact k _ _ (fmod0 n0) (fmod1 n0) (by repeat (first | exact Frm.refl _ _ | refine Frm.put' ?_ (by simp))) (hScr.frm (by repeat (first | exact Frm.refl _ _ | refine Frm.put' ?_ (by simp))) ⟨_, _, _, _, upd_same⟩)
    · refine ⟨_, rfl, s0, _, _, _, rfl, rfl, upd_same, rfl, ?_⟩
      refine ⟨_, rfl, a, _, rfl, .inl (hA _ (by repeat (first | exact Frm.refl _ _ | refine Frm.put' ?_ (by simp)))), _, _, rfl, rfl, _, rfl, ?_⟩
      refine ite2 (fun c => ?_) (fun c => ?_)
      · have hp : (0 : Int) < ns.length := by simpa using of_decide_eq_true c
        obtain ⟨z, hz⟩ := ints_at (ns := ns) (i := i2.fmod ((ns.map V.int).length : Nat)) (fmod0 (by simpa using hp)) (by simpa using fmod1 (a := i2) hp)
        refine ⟨_, rfl, _, rfl, s0, _, _, _, rfl, rfl, SqL.of upd_same, rfl, .inl ⟨_, rfl, _, rfl, a, _, rfl, .inl (hA _ (by repeat (first | exact Frm.refl _ _ | refine Frm.put' ?_ (by simp)))), _, _, rfl, rfl, (by show (((ns.map V.int).length : Nat) : Int) ≠ 0; rw [List.length_map]; omega), a, _, _, _, rfl, rfl, hA _ (by repeat (first | exact Frm.refl _ _ | refine Frm.put' ?_ (by simp))), hz, ?_⟩⟩
        -- state[2] = state[2] + 1; mixed = ..
        refine ⟨_, rfl, s0, _, _, _, rfl, rfl, SqL.of upd_same, rfl, _, _, rfl, rfl, _, rfl, s0, _, _, _, rfl, rfl, upd_same, rfl, ?_⟩
        refine ⟨_, rfl, s0, _, _, _, rfl, rfl, SqL.of upd_same, rfl, .inl ⟨_, rfl, _, _, rfl, rfl, (by show (_ : Int) ≠ 0; decide), _, _, rfl, rfl, .inr ⟨by decide, by decide⟩, ?_⟩⟩
        refine ⟨_, rfl, _, rfl, .inl ⟨_, rfl, _, _, rfl, rfl, (by show (_ : Int) ≠ 0; decide), _, _, rfl, rfl, _, rfl, s0, _, _, _, rfl, rfl, SqL.of upd_same, rfl, _, _, rfl, rfl, .inl ⟨by decide, by decide⟩, _, _, rfl, rfl, _, _, rfl, rfl, ?_⟩⟩
        refine ⟨_, rfl, .inl ⟨_, rfl, _, _, rfl, rfl, (by show (_ : Int) ≠ 0; decide), _, rfl, s0, _, _, _, rfl, rfl, upd_same, rfl, ?_⟩⟩
        refine ⟨_, rfl, s0, _, _, _, rfl, rfl, SqL.of upd_same, rfl, _, _, rfl, rfl, .inr ⟨by decide, by decide⟩, _, rfl, s0, _, _, _, rfl, rfl, SqL.of upd_same, rfl, _, _, rfl, rfl, .inl ⟨_, rfl, _, _, rfl, rfl, (by show (_ : Int) ≠ 0; decide), ?_⟩⟩
        refine ⟨_, rfl, _, _, rfl, rfl, ⟨by decide, by decide⟩, .inl ⟨_, rfl, _, rfl, _, _, rfl, rfl, (by show (_ : Int) ≠ 0; omega), ?_⟩⟩
        exact k _ _ (fmod0 n0) (fmod1 n0) (by repeat (first | exact Frm.refl _ _ | refine Frm.put' ?_ (by simp))) (hScr.frm (by repeat (first | exact Frm.refl _ _ | refine Frm.put' ?_ (by simp))) ⟨_, _, _, _, upd_same⟩)
      · -- state[2] = state[2] + 1; mixed = ..
        refine ⟨_, rfl, s0, _, _, _, rfl, rfl, SqL.of upd_same, rfl, _, _, rfl, rfl, _, rfl, s0, _, _, _, rfl, rfl, upd_same, rfl, ?_⟩
        refine ⟨_, rfl, s0, _, _, _, rfl, rfl, SqL.of upd_same, rfl, .inl ⟨_, rfl, _, _, rfl, rfl, (by show (_ : Int) ≠ 0; decide), _, _, rfl, rfl, .inr ⟨by decide, by decide⟩, ?_⟩⟩
        refine ⟨_, rfl, _, rfl, .inl ⟨_, rfl, _, _, rfl, rfl, (by show (_ : Int) ≠ 0; decide), _, _, rfl, rfl, _, rfl, s0, _, _, _, rfl, rfl, SqL.of upd_same, rfl, _, _, rfl, rfl, .inl ⟨by decide, by decide⟩, _, _, rfl, rfl, _, _, rfl, rfl, ?_⟩⟩
        refine ⟨_, rfl, .inl ⟨_, rfl, _, _, rfl, rfl, (by show (_ : Int) ≠ 0; decide), _, rfl, s0, _, _, _, rfl, rfl, upd_same, rfl, ?_⟩⟩
        refine ⟨_, rfl, s0, _, _, _, rfl, rfl, SqL.of upd_same, rfl, _, _, rfl, rfl, .inr ⟨by decide, by decide⟩, _, rfl, s0, _, _, _, rfl, rfl, SqL.of upd_same, rfl, _, _, rfl, rfl, .inl ⟨_, rfl, _, _, rfl, rfl, (by show (_ : Int) ≠ 0; decide), ?_⟩⟩
        refine ⟨_, rfl, _, _, rfl, rfl, ⟨by decide, by decide⟩, .inl ⟨_, rfl, _, rfl, _, _, rfl, rfl, (by show (_ : Int) ≠ 0; omega), ?_⟩⟩
        exact k _ _ (fmod0 n0) (fmod1 n0) (by repeat (first | exact Frm.refl _ _ | refine Frm.put' ?_ (by simp))) (hScr.frm (by repeat (first | exact Frm.refl _ _ | refine Frm.put' ?_ (by simp))) ⟨_, _, _, _, upd_same⟩)

def d_law_draw (script state : Unit) (limit : Int) : Dn.WP Int := fun Q _ => 0 < limit ∧ limit < 1152921504606846976 ∧ ∀ z : Int, 0 ≤ z → z < limit → Q z
theorem dnL_law_draw {f : Addr} {fd : FuncData} (F : FnOk P w K mg base (L2.CX P w) 1 f fd P_law_draw (sp_law_draw K)) : FnOk P w K mg base (L2.CX P w) 1 f fd P_law_draw (Dn.spL K (fun a0 s0 => Dn.tsC (Dn.tyA a0) (Dn.tsC (Dn.tyA s0) (Dn.tsC Dn.tyI Dn.tsN))) Dn.tyI (fun a => d_law_draw a.1 a.2.1 a.2.2.1)) :=
  F.imp fun vs H Q E ⟨a, s0, ns, L, u, Qa, Ea, hl, ms, rd, st, dL, hrep, ⟨n0, n1, hu⟩, kq, ke⟩ => by
    obtain ⟨v0, r0, rfl, h0, v1, r1, rfl, h1, v2, r2, rfl, h2, h3⟩ := hrep
    have h0 : v0 = .ref a := h0
    have h1 : v1 = .ref s0 := h1
    have h2 : v2 = .int u.2.2.1 := h2
    have h3 : r2 = [] := h3
    subst h0 h1 h2 h3
    refine ⟨a, s0, u.2.2.1, rfl, ⟨⟨ns, ?_, hl⟩, st⟩, n0, n1, fun r H' r0 r1 fr sc => kq r _ H' (hu r r0 r1) (fun b o n e => fr b o (by simpa using n) e) sc.2 rfl⟩
    rcases rd with h | ⟨_, ne, h⟩
    · exact h _
    · exact Dn.sqL_at (hid_eq (by simpa using ne)) h
theorem dn_law_start {f : Addr} {fd : FuncData} (F : FnOk P w K mg base (L2.CX P w) 1 f fd P_law_start (sp_law_start K)) : FnOk P w K mg base (L2.CX P w) 1 f fd P_law_start (Dn.spStart K) :=
  F.imp fun vs H Q E ⟨a, ns, e, h, hl, k⟩ => ⟨a, ns, e, h, hl, fun p H' s n sc => k p H' s n sc.2⟩
end
section
variable {P : Program} {w : World} {K : PySem.W.Frag} {mg : Str → Option Value} {base : Heap}

theorem ok_shown {f : Addr} {fd : FuncData} (F : Fun K "_shown" "_shown" s_shown f fd) (T : Txt K mg) : FnOk P w K mg base CX0 1 f fd P_shown sp_shown := by
  refine F.ok sc_shown (fun vs H Q E h => ?_) (fun cdv A outer s H vs Q E hr h => ?_)
  · obtain ⟨x, rfl, hx, k⟩ := h
    rfl
  · obtain ⟨x, rfl, hx, k⟩ := h
    refine ⟨_, (pss_cons (ps_if (pt_val (pe_callB (id := "isinstance") call_isi (by rfl) T.b_isinstance (by decide +kernel) (pa_cons (pv 0) (pa_cons (pe_bltn (v := .ty "str") (by rfl) T.b_str (by decide +kernel) rfl) pa_nil))))
  (pss_one (ps_ret (pe_callB (id := "repr") call_repr_str (by rfl) T.b_repr (by decide +kernel) (pa_cons (pv 0) pa_nil))))
  pss_nil)
  (pss_cons (ps_if (PW.pt (pw_and (pt_val (pe_callB (id := "isinstance") call_isi (by rfl) T.b_isinstance (by decide +kernel) (pa_cons (pv 0) (pa_cons (pe_bltn (v := .ty "int") (by rfl) T.b_int (by decide +kernel) rfl) pa_nil)))) (pw_and1 (pt_chain op_ltM op_ltM (pe_un un_neg pe_int) (pv 0) pe_int))))
  (pss_one (ps_ret (pe_callTy (T := "str") call_str_ib (by rfl) T.b_str (by decide +kernel) (pa_cons (pv 0) pa_nil))))
  pss_nil)
  (pss_one (ps_ret pe_str)))), ?_⟩
    rcases hx with ⟨z, rfl, hz⟩ | ⟨i, rfl⟩ | rfl | ⟨b, rfl⟩
    · refine ⟨_, rfl, _, _, _, _, true, rfl, .ty _, .base (.str _), kit_ty (by decide +kernel), true, rfl, iteT ?_⟩
      exact ⟨_, rfl, z, rfl, Nat.le_trans hz (by rw [sizeLine_eq]; decide), k _ hz⟩
    · refine ⟨_, rfl, _, _, _, _, false, rfl, .ty _, .base (.int _), kit_ty (by decide +kernel), false, rfl, iteF ?_⟩
      refine ⟨_, rfl, _, _, _, _, true, rfl, .ty _, .base (.int _), kit_ty (by decide +kernel), true, rfl, iteT ?_⟩
      refine ⟨_, rfl, _, rfl, _, _, rfl, rfl, _, rfl, ?_⟩
      refine ite2 (fun c1 => ?_) (fun c1 => ?_)
      · have c1 := of_decide_eq_true c1
        refine ⟨_, _, rfl, rfl, _, rfl, ?_⟩
        refine ite2 (fun c2 => ?_) (fun c2 => ?_)
        · have c2 := of_decide_eq_true c2
          have hn : i.natAbs < 10 ^ 4 := by
            have e : (10 : Nat) ^ 4 = 10000 := by decide
            rw [e]
            omega
          refine ⟨_, rfl, .inl ⟨_, rfl, ?_, k _ ?_⟩⟩
          · have h2 : i.natAbs < 2 ^ 1920 := Nat.lt_of_lt_of_le hn (by decide)
            by_cases h0 : i.natAbs = 0
            · rw [h0]
              decide
            · exact (Nat.log2_lt h0).mpr h2
          · have e := int_text_length_le10 (k := 4) (by decide) hn
            show (Str.ofString (toString i)).length ≤ _
            rw [PySem.ofString_length]
            omega
        · exact k _ (by decide +kernel)
      · refine ⟨_, rfl, ite2 (fun z => absurd z (by decide)) (fun _ => ?_)⟩
        exact k _ (by decide +kernel)
    · refine ⟨_, rfl, _, _, _, _, false, rfl, .ty _, .base .non, kit_ty (by decide +kernel), false, rfl, iteF ?_⟩
      refine ⟨_, rfl, _, _, _, _, false, rfl, .ty _, .base .non, kit_ty (by decide +kernel), false, rfl, iteF ?_⟩
      exact k _ (by decide +kernel)
    · refine ⟨_, rfl, _, _, _, _, false, rfl, .ty _, .base (.bl _), kit_ty (by decide +kernel), false, rfl, iteF ?_⟩
      refine ⟨_, rfl, _, _, _, _, true, rfl, .ty _, .base (.bl _), kit_ty (by decide +kernel), true, rfl, iteT ?_⟩
      refine ⟨_, rfl, _, rfl, _, _, rfl, rfl, _, rfl, ?_⟩
      refine ite2 (fun c1 => ?_) (fun c1 => absurd (decide_eq_true (by cases b <;> decide)) c1)
      refine ⟨_, _, rfl, rfl, _, rfl, ?_⟩
      refine ite2 (fun c2 => ?_) (fun c2 => absurd (decide_eq_true (by cases b <;> decide)) c2)
      exact ⟨_, rfl, .inr ⟨b, rfl, k _ (by cases b <;> decide +kernel)⟩⟩

theorem okBadNumber___init__ {f C cda cc : Addr} {oc dV kV doc pm ct : Value} {an od : Option Addr} {osl : Array (Option Value)} (lk : K.lookup f = some ⟨oc, od, .func (PySem.W.fnX "__init__" "BadNumber.__init__" (defArgs sBadNumber___init__) (defBody sBadNumber___init__) (defScope sBadNumber___init__) [("__class__", cc)] dV kV doc pm an (.ref cda) ct), osl⟩) (EC : ErrC P K mg "BadNumber" "BadNumber.__init__" C f cda cc) (T : Txt K mg)
    (C_shown : Cal P w K mg base "_shown" P_shown 1 sp_shown) : FnOk P w K mg base CX0 2 f (PySem.W.fnX "__init__" "BadNumber.__init__" (defArgs sBadNumber___init__) (defBody sBadNumber___init__) (defScope sBadNumber___init__) [("__class__", cc)] dV kV doc pm an (.ref cda) ct) PBadNumber___init__ (spBadNumber C) := by
  obtain ⟨g_shown, gd_shown, G_shown, m_shown, k_shown, b_shown⟩ := C_shown.ex
  refine fn_super (N := NBadNumber___init__) lk EC.sup scBadNumber___init__ rfl rfl rfl rfl (fun vs H Q E h => ?_) (fun A outer s H vs Q E hr h => ?_)
  · obtain ⟨a, z, v, rfl, ha, hz, hv, k⟩ := h
    rfl
  · obtain ⟨a, z, v, rfl, ha, hz, hv, k⟩ := h
    refine ⟨_, _, (pa_cons (pe_joined (.cons pe_str (.cons (pe_fmt (pv 1)) (.cons pe_str (.cons (pe_fmt (pe_call G_shown (hr.mono (by decide)) (by rfl) m_shown k_shown b_shown .nil pass0 (pa_cons (pv 2) pa_nil))) .nil))))) pa_nil), (pss_cons (ps_ost (pv 0) (pv 1)) (pss_one (ps_ost (pv 0) (pv 2)))), ?_⟩
    have h1 : (Str.empty ++ ("bad number for " : Str)).length ≤ 15 := by decide +kernel
    have h2 : (Str.empty ++ ("bad number for " : Str) ++ z).length ≤ 1015 := by rw [PySem.Str.length_append]; omega
    have h3 : (Str.empty ++ ("bad number for " : Str) ++ z ++ (": " : Str)).length ≤ 1017 := by rw [PySem.Str.length_append]; rw [show (": " : Str).length = 2 by decide +kernel]; omega
    refine ⟨a, _, rfl, ha, ?_⟩
    refine ⟨_, rfl, Nat.le_trans h1 (by rw [sizeLine_eq]; decide), ?_⟩
    refine ⟨_, rfl, .inl ⟨z, rfl, Nat.le_trans hz (by rw [sizeLine_eq]; decide), z, rfl, Nat.le_trans h2 (by rw [sizeLine_eq]; decide), ?_⟩⟩
    refine ⟨_, rfl, Nat.le_trans h3 (by rw [sizeLine_eq]; decide), ?_⟩
    refine ⟨_, rfl, v, rfl, hv, fun y hy => .inl ⟨y, rfl, Nat.le_trans hy (by rw [sizeLine_eq]; decide), y, rfl, ?_, ?_⟩⟩
    · rw [PySem.Str.length_append, sizeLine_eq]
      omega
    refine ⟨(by show 1 ≤ 1000; decide), ha, ?_⟩
    refine ⟨_, rfl, _, rfl, a, C, rfl, EC.sup.oex, EC.noWhat, .inl ⟨ha, fun dx nd ne => ?_⟩⟩
    refine ⟨_, rfl, _, rfl, a, C, rfl, EC.sup.oex, EC.noValue, .inr ⟨dx, _, upd_same, (by rw [upd_ne ne]; exact upd_same), (by show 1 ≤ 900; decide), ?_⟩⟩
    exact init_leaves2 ha k nd ne
end
section
variable {P : Program} {w : World} {K : PySem.W.Frag} {mg : Str → Option Value} {base : Heap}

def spBadTurn (C : Addr) : Sp := fun vs H Q _ => ∃ (a t : Addr) (xs : List V), vs = [.ref a, .ref t] ∧ H a = some (exo a C none) ∧ H t = some (.tup xs) ∧ InitLeaves H a C [("turn", .ref t)] Q
def sp1any (f : Str) (C : Addr) : Sp := fun vs H Q _ => ∃ (a : Addr) (v : V), vs = [.ref a, v] ∧ H a = some (exo a C none) ∧ InitLeaves H a C [(f, v)] Q
def sp1show (f : Str) (C : Addr) : Sp := fun vs H Q _ => ∃ (a : Addr) (v : V), vs = [.ref a, v] ∧ H a = some (exo a C none) ∧ ShowOk v ∧ InitLeaves H a C [(f, v)] Q
def sp2show (f1 f2 : Str) (C : Addr) : Sp := fun vs H Q _ => ∃ (a : Addr) (v1 v2 : V), vs = [.ref a, v1, v2] ∧ H a = some (exo a C none) ∧ ShowOk v1 ∧ ShowOk v2 ∧ InitLeaves H a C [(f2, v2), (f1, v1)] Q
abbrev spBadStanding := sp1any "standing"
abbrev spNotSafe := sp1any "standing"
abbrev spTooMany := sp1show "limit"
abbrev spNothingFits := sp1show "day"
abbrev spBadText := sp1show "line"
abbrev spBadDeed := sp1show "place"
abbrev spDriedOut := sp2show "plot" "day"
abbrev spBadPaper := sp2show "row" "reason"

theorem okBadText___init__ {f C cda cc : Addr} {oc dV kV doc pm ct : Value} {an od : Option Addr} {osl : Array (Option Value)} (lk : K.lookup f = some ⟨oc, od, .func (PySem.W.fnX "__init__" "BadText.__init__" (defArgs sBadText___init__) (defBody sBadText___init__) (defScope sBadText___init__) [("__class__", cc)] dV kV doc pm an (.ref cda) ct), osl⟩) (EC : ErrC P K mg "BadText" "BadText.__init__" C f cda cc) (T : Txt K mg) (nf : PySem.W.findIn K (.ref C) "line" = some none)
    (C_shown : Cal P w K mg base "_shown" P_shown 1 sp_shown) : FnOk P w K mg base CX0 2 f (PySem.W.fnX "__init__" "BadText.__init__" (defArgs sBadText___init__) (defBody sBadText___init__) (defScope sBadText___init__) [("__class__", cc)] dV kV doc pm an (.ref cda) ct) PBadText___init__ (spBadText C) := by
  obtain ⟨g_shown, gd_shown, G_shown, m_shown, k_shown, b_shown⟩ := C_shown.ex
  refine fn_super (N := NBadText___init__) lk EC.sup scBadText___init__ rfl rfl rfl rfl (fun vs H Q E h => ?_) (fun A outer s H vs Q E hr h => ?_)
  · obtain ⟨a, v, rfl, ha, hv, k⟩ := h
    rfl
  · obtain ⟨a, v, rfl, ha, hv, k⟩ := h
    refine ⟨_, _, (pa_cons (pe_joined (.cons pe_str (.cons (pe_fmt (pe_call G_shown (hr.mono (by decide)) (by rfl) m_shown k_shown b_shown .nil pass0 (pa_cons (pv 1) pa_nil))) (.cons pe_str .nil)))) pa_nil), (pss_one (ps_ost (pv 0) (pv 1))), ?_⟩
    refine ⟨a, _, rfl, ha, ?_⟩
    have l0 : (Str.empty).length = 0 := by decide +kernel
    have lc1 : ("line " : Str).length = 5 := by decide +kernel
    have h1 : (Str.empty ++ ("line " : Str)).length ≤ 5 := by simp only [PySem.Str.length_append]; omega
    refine ⟨_, rfl, Nat.le_trans h1 (by rw [sizeLine_eq]; decide), ?_⟩
    refine ⟨_, rfl, v, rfl, hv, fun y2 qy2 => .inl ⟨y2, rfl, Nat.le_trans qy2 (by rw [sizeLine_eq]; decide), y2, rfl, ?_, ?_⟩⟩
    · refine Nat.le_trans (m := 20005) ?_ (by rw [sizeLine_eq]; decide)
      show (Str.empty ++ ("line " : Str) ++ y2).length ≤ 20005
      simp only [PySem.Str.length_append]
      omega
    have lc3 : (" has a wrong form" : Str).length = 17 := by decide +kernel
    have h3 : (Str.empty ++ ("line " : Str) ++ y2 ++ (" has a wrong form" : Str)).length ≤ 20022 := by simp only [PySem.Str.length_append]; omega
    refine ⟨_, rfl, Nat.le_trans h3 (by rw [sizeLine_eq]; decide), ?_⟩
    refine ⟨(by show 1 ≤ 1000; decide), ha, ?_⟩
    refine ⟨_, rfl, _, rfl, a, C, rfl, EC.sup.oex, nf, .inl ⟨ha, fun dx nd ne => ?_⟩⟩
    exact init_leaves1 k nd ne
end
end Wb

set_option synthInstance.maxSize 2000
set_option maxHeartbeats 400000
namespace Wb
open PySem PySem.Spec PyProof.Rows L2 Wx NdefX RZ StX Dn
structure StandingV where
  levels : (List Int)
  tank : Int
  mood : Int
  deriving DecidableEq, Inhabited
def tu_Standing (d : StandingV) : (((Unit × (List Int)) × Int) × Int) := ((((), d.levels), d.tank), d.mood)
def th_Standing (b : (((Unit × (List Int)) × Int) × Int)) : StandingV := ⟨b.1.1.2, b.1.2, b.2⟩
def tv_Standing (K : PySem.W.Frag) : TyS (((Unit × (List Int)) × Int) × Int) := (tsS (tsS (tsS tsN (tyT K tyI)) tyI) tyI)
abbrev ty_Standing (K : PySem.W.Frag) : Ty StandingV := tyM (tyC (cl K "Standing") ["levels", "tank", "mood"] (tv_Standing K)) tu_Standing
theorem fl_Standing_levels {K : PySem.W.Frag} : Fld ["levels", "tank", "mood"] (tv_Standing K) "levels" (tyT K tyI) (fun b => b.1.1.2) := (fld_there (fs := ["levels", "tank"]) (fld_there (fs := ["levels"]) (fld_here (fs := []) (by decide))))
theorem fl_Standing_tank {K : PySem.W.Frag} : Fld ["levels", "tank", "mood"] (tv_Standing K) "tank" tyI (fun b => b.1.2) := (fld_there (fs := ["levels", "tank"]) (fld_here (fs := ["levels"]) (by decide)))
theorem fl_Standing_mood {K : PySem.W.Frag} : Fld ["levels", "tank", "mood"] (tv_Standing K) "mood" tyI (fun b => b.2) := (fld_here (fs := ["levels", "tank"]) (by decide))
theorem ins_Standing {K : PySem.W.Frag} {x : Str} (h : x ∉ (["levels", "tank", "mood"] : List Str)) : IsIns (cl K "Standing") x (ty_Standing K) := tyM_ins (tyC_ins h)
theorem isC_Standing {K : PySem.W.Frag} {v : V} {H : Hp} {b : StandingV} (h : (ty_Standing K).rep v H b) : ∃ p dx fs, v = .ref p ∧ H p = some (.ins (cl K "Standing") dx fs) := let ⟨p, dx, _, e, hp, _⟩ := h; ⟨p, dx, _, e, hp⟩
def std_Standing (d : StandingV) : StdV := ⟨d.levels, d.tank, d.mood⟩
theorem stdOf_Standing {K : PySem.W.Frag} {v : V} {H : Hp} {u : StandingV} (h : (ty_Standing K).rep v H u) : (tyStd K).rep v H (std_Standing u) := std_of h
theorem un65 {k : Nat} {A : Around} (r : L2.Room k A) : A.units + 65 < cLine := by have := r.un; omega
section
variable {P : Program} {w : World} {K : PySem.W.Frag} {mg : Str → Option Value} {base : Heap}
def dis_number (text : Str) : WP Bool := fun Q E => ((ifS (bd (bd (bd (rt text) fun u => rt true) fun c => rt (!c)) fun c => if c = true then rt true else (bd (bd (rt (1 : Int)) fun a => bd (bd (bd (rt text) fun u => bd (rt ()) fun v => rt (u, v)) fun u => nd (u.1.length ≤ sizeLine) (rt (u.1.length : Int))) fun b => bd ((fun u v => rt (decide (u ≤ v))) a b) fun k => if k = true then bd (rt (4 : Int)) fun c => (fun u v => rt (decide (u ≤ v))) b c else rt false) fun c => rt (!c))) (reS (rt false)) (nxS ()) (fun _ : Unit => (ifS (bd (bd (bd (bd (bd (rt text) fun z => rt (z.cps.toList.map fun c => (⟨#[c]⟩ : Str))) fun as => lcW (fun a1 => bd (noE (rt true)) fun c => if c = true then bd (bd (rt a1) fun u => bd (rt ("0123456789" : Str)) fun v => inSW u v) fun b => rt (some b) else rt none) as []) fun u => bd (rt ()) fun v => rt (u, v)) fun u => rt (u.1.all id)) fun c => rt (!c)) (reS (rt false)) (nxS ()) (fun _ : Unit => (reS (bd (bd (rt text) fun u => bd (rt ("0" : Str)) fun v => rt (decide (u = v))) fun c => if c = true then rt true else (bd (bd (rt text) fun u => bd (rt (0 : Int)) fun v => nd (u.length ≤ sizeLine) (bd (ixW u.cps.toList v) fun c => rt (⟨#[c]⟩ : Str))) fun u => bd (rt ("0" : Str)) fun v => rt (!decide (u = v))))))))) : SB Unit Unit Bool) ⟨fun _ => False, fun _ => False, fun _ => False, Q, E⟩
theorem okis_number {f : Addr} {fd : FuncData} (F : L2.Fun K "is_number" "is_number" sis_number f fd) (T : Txt K mg) : FnOk P w K mg base (L2.CX P w) 1 f fd Pis_number (spF K (tsC tyS tsN) tyB (fun qa => dis_number qa.1)) := by
  obtain ⟨_, c__DIGITS⟩ := T.c__DIGITS
  obtain ⟨_, c__LONGEST_NUMBER⟩ := T.c__LONGEST_NUMBER
  refine fnV (Γ0 := fun qa => [.rp tyS qa.1, .un]) F scis_number (fun vs G a h => by obtain ⟨_, _, rfl, _, rfl⟩ := h; rfl) (fun vs G H a h => by
    obtain ⟨v0, r0, rfl, h0, rfl⟩ := h
    exact ⟨v0, _, rfl, h0, ⟨none, _, rfl, ⟨rfl, rfl⟩⟩⟩) (fun cdv A outer s H E hr air tk L dL qa => ?_)
  exact ⟨_, (ifS (bd (bd (bd (rt qa.1) fun u => rt true) fun c => rt (!c)) fun c => if c = true then rt true else (bd (bd (rt (1 : Int)) fun a => bd (bd (bd (rt qa.1) fun u => bd (rt ()) fun v => rt (u, v)) fun u => nd (u.1.length ≤ sizeLine) (rt (u.1.length : Int))) fun b => bd ((fun u v => rt (decide (u ≤ v))) a b) fun k => if k = true then bd (rt (4 : Int)) fun c => (fun u v => rt (decide (u ≤ v))) b c else rt false) fun c => rt (!c))) (reS (rt false)) (nxS ()) (fun _ : Unit => (ifS (bd (bd (bd (bd (bd (rt qa.1) fun z => rt (z.cps.toList.map fun c => (⟨#[c]⟩ : Str))) fun as => lcW (fun a1 => bd (noE (rt true)) fun c => if c = true then bd (bd (rt a1) fun u => bd (rt ("0123456789" : Str)) fun v => inSW u v) fun b => rt (some b) else rt none) as []) fun u => bd (rt ()) fun v => rt (u, v)) fun u => rt (u.1.all id)) fun c => rt (!c)) (reS (rt false)) (nxS ()) (fun _ : Unit => (reS (bd (bd (rt qa.1) fun u => bd (rt ("0" : Str)) fun v => rt (decide (u = v))) fun c => if c = true then rt true else (bd (bd (rt qa.1) fun u => bd (rt (0 : Int)) fun v => nd (u.length ≤ sizeLine) (bd (ixW u.cps.toList v) fun c => rt (⟨#[c]⟩ : Str))) fun u => bd (rt ("0" : Str)) fun v => rt (!decide (u = v))))))))), (by exact (s_if (Γ1 := fun _ : Unit => [.rp tyS qa.1, .un]) (w_pt (w_or (t_not (t_val (d_isK (K := K) rfl (c := "str") (d := "str") (r := true) (d_var (pv 0) rfl) tyn_S (pe_bltn (v := .ty "str") (by rfl) T.b_str (by decide +kernel) rfl) T.b_isinstance (by decide +kernel)))) (w_or1 (t_not (t_chain op_le op_le (d_con (T := tyI) (u := 1) pe_int (fun _ => rfl)) (d_cb (pe_callB (id := "len") call_len_str (by rfl) T.b_len (by decide +kernel)) (da_cons (d_var (pv 0) rfl) da_nil) (fun u => b_lenS u)) (d_con (T := tyI) (u := 4) (pe_glob (x := "_LONGEST_NUMBER") (v := .int 4) (by rfl) c__LONGEST_NUMBER ⟨_, rfl⟩) (fun _ => rfl)) (fun u v => o_I0b u v) (fun u v => o_I0b u v)))))) (s_ret (d_con (T := tyB) (u := false) pe_bl (fun _ => rfl))) (s_end () (low_eq (low_un low_nil))) (fun _ => (s_if (Γ1 := fun _ : Unit => [.rp tyS qa.1, .un]) (t_not (t_val (d_cb (pe_callB (id := "all") (r := rAll K) (by exact cr_all rfl) (by rfl) T.b_all (by decide +kernel)) (da_cons (d_new (n_lc air rfl scis_number.nd (lc_mk (T := tyS) (S := tyB) (own := [("letter", 1)]) (g := (gName 1)) (K := K) rfl air (i_str (d_var (pv 0) rfl)) (blkOk_by (own := [("letter", 1)]) (N := Nis_number) (sc := defScope sis_number) (by decide +kernel)) (al_c rfl al_n) (fun _ _ _ _ _ => (pg_name (i := 1) scis_number.nd rfl (by first | exact Or.inl rfl | exact Or.inr rfl))) (gn rfl (by decide)) (fun W hw a1 _ _ _ _ _ => ts_nil) (fun W hw a1 _ _ _ _ _ _ _ air => (d_cmp op_in_sign (d_var (pv 1) rfl) (d_con (T := tyS) (u := ("0123456789" : Str)) (pe_glob (x := "_DIGITS") (v := .str ("0123456789" : Str)) (by rfl) c__DIGITS ⟨_, rfl⟩) (fun _ => rfl)) (fun u v => o_inS u v) (by rfl)))))) da_nil) (fun u => b_all u)))) (s_ret (d_con (T := tyB) (u := false) pe_bl (fun _ => rfl))) (s_end () (low_eq (low_un low_nil))) (fun _ => (s_ret (d_or (d_cmp op_eq (d_var (pv 0) rfl) (d_con (T := tyS) (u := ("0" : Str)) pe_str (fun _ => rfl)) (fun u v => o_eq eqsS u v) (nomark _)) (d_one (d_cmp op_ne (d_ix (r := rIxS) (by exact ix_str) (d_var (pv 0) rfl) (d_con (T := tyI) (u := 0) pe_int (fun _ => rfl)) (fun u v => o_ixS u v) (fun _ _ => rfl)) (d_con (T := tyS) (u := ("0" : Str)) pe_str (fun _ => rfl)) (fun u v => o_ne eqsS u v) (nomark _)))))))))), fun Qa Ea h => (by unfold dis_number at h; exact h)⟩

def dread_number (text : Str) : WP Int := fun Q E => ((ifS (bd (bd (bd (rt text) fun u => bd (rt ()) fun v => rt (u, v)) fun a => dis_number a.1) fun c => rt (!c)) (raS (bd (rt ("number" : Str)) fun u => bd (bd (rt text) fun u => bd (rt ()) fun v => rt (u, v)) fun v => rt (u, v)) (fun u => u.1.length ≤ 1000 ∧ ShowOk (V.str u.2.1)) (fun u => .number u.1 (V.str u.2.1))) (nxS ()) (fun _ : Unit => (reS (bd (bd (rt text) fun u => bd (rt ()) fun v => rt (u, v)) fun u => intW u.1)))) : SB Unit Unit Int) ⟨fun _ => False, fun _ => False, fun _ => False, Q, E⟩
theorem okread_number {f : Addr} {fd : FuncData} (F : L2.Fun K "read_number" "read_number" sread_number f fd) (T : Txt K mg) (cis_number : Fn P w K mg base "is_number" 1 Pis_number (tsC tyS tsN) tyB (fun a => dis_number a.1)) {f_BadNumber cda_BadNumber cc_BadNumber : Addr} {fd_BadNumber : FuncData} (E_BadNumber : ErrC P K mg "BadNumber" "BadNumber.__init__" (cl K "BadNumber") f_BadNumber cda_BadNumber cc_BadNumber) (G_BadNumber : FnOk P w K mg base CX0 2 f_BadNumber fd_BadNumber PBadNumber___init__ (spBadNumber (cl K "BadNumber"))) (b_BadNumber : Binds K fd_BadNumber PBadNumber___init__ []) : FnOk P w K mg base (L2.CX P w) 4 f fd Pread_number (spF K (tsC tyS tsN) tyI (fun qa => dread_number qa.1)) := by
  refine fnV (Γ0 := fun qa => [.rp tyS qa.1]) F scread_number (fun vs G a h => by obtain ⟨_, _, rfl, _, rfl⟩ := h; rfl) (fun vs G H a h => by
    obtain ⟨v0, r0, rfl, h0, rfl⟩ := h
    exact ⟨v0, _, rfl, h0, ⟨rfl, rfl⟩⟩) (fun cdv A outer s H E hr air tk L dL qa => ?_)
  exact ⟨_, (ifS (bd (bd (bd (rt qa.1) fun u => bd (rt ()) fun v => rt (u, v)) fun a => dis_number a.1) fun c => rt (!c)) (raS (bd (rt ("number" : Str)) fun u => bd (bd (rt qa.1) fun u => bd (rt ()) fun v => rt (u, v)) fun v => rt (u, v)) (fun u => u.1.length ≤ 1000 ∧ ShowOk (V.str u.2.1)) (fun u => .number u.1 (V.str u.2.1))) (nxS ()) (fun _ : Unit => (reS (bd (bd (rt qa.1) fun u => bd (rt ()) fun v => rt (u, v)) fun u => intW u.1)))), (by exact (s_if (Γ1 := fun _ : Unit => [.rp tyS qa.1]) (t_not (t_val (d_call (K := K) rfl cis_number (hr.mono (by decide)) (fun σ => (air σ).pass) (da_cons (d_var (pv 0) rfl) da_nil)))) (s_raise rfl tk (err_BadNumber K scS) (fun h => pmk_oex E_BadNumber.sup.oex E_BadNumber.ini E_BadNumber.tyI G_BadNumber (hr.mono (by decide)) b_BadNumber .nil pass0 (by rfl) E_BadNumber.g h) (da_cons (d_con (T := tyS) (u := ("number" : Str)) pe_str (fun _ => rfl)) (da_cons (d_var (pv 0) rfl) da_nil))) (s_end () (low_eq low_nil)) (fun _ => (s_ret (d_cb (pe_callTy (T := "int") call_int_str (by rfl) T.b_int (by decide +kernel)) (da_cons (d_var (pv 0) rfl) da_nil) (fun u => b_intS u)))))), fun Qa Ea h => (by unfold dread_number at h; exact h)⟩

def dcheck_number (what : Str) (value : V) (low : Int) (high : Int) : WP Int := fun Q E => ((ifS (bd (bd (rt value) fun u => isW "bool" u) fun c => if c = true then rt true else (bd (bd (rt value) fun u => isW "int" u) fun c => rt (!c))) (raS (bd (rt what) fun u => bd (bd (rt value) fun u => bd (rt ()) fun v => rt (u, v)) fun v => rt (u, v)) (fun u => u.1.length ≤ 1000 ∧ ShowOk (id u.2.1)) (fun u => .number u.1 (id u.2.1))) (nxS ()) (fun _ : Unit => (ifS (bd (bd (bd (rt value) isI) fun u => bd (rt low) fun v => rt (decide (u < v))) fun c => if c = true then rt true else (bd (bd (rt value) isI) fun u => bd (rt high) fun v => rt (decide (v < u)))) (raS (bd (rt what) fun u => bd (bd (rt value) fun u => bd (rt ()) fun v => rt (u, v)) fun v => rt (u, v)) (fun u => u.1.length ≤ 1000 ∧ ShowOk (id u.2.1)) (fun u => .number u.1 (id u.2.1))) (nxS ()) (fun _ : Unit => (reS (bd (rt value) isI)))))) : SB Unit Unit Int) ⟨fun _ => False, fun _ => False, fun _ => False, Q, E⟩
theorem okcheck_number {f : Addr} {fd : FuncData} (F : L2.Fun K "check_number" "check_number" scheck_number f fd) (T : Txt K mg) {f_BadNumber cda_BadNumber cc_BadNumber : Addr} {fd_BadNumber : FuncData} (E_BadNumber : ErrC P K mg "BadNumber" "BadNumber.__init__" (cl K "BadNumber") f_BadNumber cda_BadNumber cc_BadNumber) (G_BadNumber : FnOk P w K mg base CX0 2 f_BadNumber fd_BadNumber PBadNumber___init__ (spBadNumber (cl K "BadNumber"))) (b_BadNumber : Binds K fd_BadNumber PBadNumber___init__ []) : FnOk P w K mg base (L2.CX P w) 4 f fd Pcheck_number (spF K (tsC tyS (tsC tyX (tsC tyI (tsC tyI tsN)))) tyI (fun qa => dcheck_number qa.1 qa.2.1 qa.2.2.1 qa.2.2.2.1)) := by
  refine fnV (Γ0 := fun qa => [.rp tyS qa.1, .rp tyX qa.2.1, .rp tyI qa.2.2.1, .rp tyI qa.2.2.2.1]) F sccheck_number (fun vs G a h => by obtain ⟨_, _, rfl, _, _, _, rfl, _, _, _, rfl, _, _, _, rfl, _, rfl⟩ := h; rfl) (fun vs G H a h => by
    obtain ⟨v0, r0, rfl, h0, v1, r1, rfl, h1, v2, r2, rfl, h2, v3, r3, rfl, h3, rfl⟩ := h
    exact ⟨v0, _, rfl, h0, ⟨v1, _, rfl, h1, ⟨v2, _, rfl, h2, ⟨v3, _, rfl, h3, ⟨rfl, rfl⟩⟩⟩⟩⟩) (fun cdv A outer s H E hr air tk L dL qa => ?_)
  exact ⟨_, (ifS (bd (bd (rt qa.2.1) fun u => isW "bool" u) fun c => if c = true then rt true else (bd (bd (rt qa.2.1) fun u => isW "int" u) fun c => rt (!c))) (raS (bd (rt qa.1) fun u => bd (bd (rt qa.2.1) fun u => bd (rt ()) fun v => rt (u, v)) fun v => rt (u, v)) (fun u => u.1.length ≤ 1000 ∧ ShowOk (id u.2.1)) (fun u => .number u.1 (id u.2.1))) (nxS ()) (fun _ : Unit => (ifS (bd (bd (bd (rt qa.2.1) isI) fun u => bd (rt qa.2.2.1) fun v => rt (decide (u < v))) fun c => if c = true then rt true else (bd (bd (rt qa.2.1) isI) fun u => bd (rt qa.2.2.2.1) fun v => rt (decide (v < u)))) (raS (bd (rt qa.1) fun u => bd (bd (rt qa.2.1) fun u => bd (rt ()) fun v => rt (u, v)) fun v => rt (u, v)) (fun u => u.1.length ≤ 1000 ∧ ShowOk (id u.2.1)) (fun u => .number u.1 (id u.2.1))) (nxS ()) (fun _ : Unit => (reS (bd (rt qa.2.1) isI)))))), (by exact (s_if (Γ1 := fun _ : Unit => [.rp tyS qa.1, .rp tyX qa.2.1, .rp tyI qa.2.2.1, .rp tyI qa.2.2.2.1]) (w_pt (w_or (t_val (d_isX (K := K) rfl (c := "bool") (d_var (pv 1) rfl) (pe_bltn (v := .ty "bool") (by rfl) T.b_bool (by decide +kernel) rfl) T.b_isinstance (by decide +kernel) (by decide +kernel) (by decide +kernel) (by decide +kernel))) (w_or1 (t_not (t_val (d_isX (K := K) rfl (c := "int") (d_var (pv 1) rfl) (pe_bltn (v := .ty "int") (by rfl) T.b_int (by decide +kernel) rfl) T.b_isinstance (by decide +kernel) (by decide +kernel) (by decide +kernel) (by decide +kernel))))))) (s_raise rfl tk (err_BadNumber K scX) (fun h => pmk_oex E_BadNumber.sup.oex E_BadNumber.ini E_BadNumber.tyI G_BadNumber (hr.mono (by decide)) b_BadNumber .nil pass0 (by rfl) E_BadNumber.g h) (da_cons (d_var (pv 0) rfl) (da_cons (d_var (pv 1) rfl) da_nil))) (s_end () (low_eq (low_eq (low_eq (low_eq low_nil))))) (fun _ => (s_if (Γ1 := fun _ : Unit => [.rp tyS qa.1, .rp tyX qa.2.1, .rp tyI qa.2.2.1, .rp tyI qa.2.2.2.1]) (w_pt (w_or (t_cmp op_lt (d_cast (k := isI) (S := tyI) (d_var (pv 1) rfl) (fun u => of_isI u)) (d_var (pv 2) rfl) (fun u v => o_I0b u v) (nomark _)) (w_or1 (t_cmp op_gt (d_cast (k := isI) (S := tyI) (d_var (pv 1) rfl) (fun u => of_isI u)) (d_var (pv 3) rfl) (fun u v => o_I0b u v) (nomark _))))) (s_raise rfl tk (err_BadNumber K scX) (fun h => pmk_oex E_BadNumber.sup.oex E_BadNumber.ini E_BadNumber.tyI G_BadNumber (hr.mono (by decide)) b_BadNumber .nil pass0 (by rfl) E_BadNumber.g h) (da_cons (d_var (pv 0) rfl) (da_cons (d_var (pv 1) rfl) da_nil))) (s_end () (low_eq (low_eq (low_eq (low_eq low_nil))))) (fun _ => (s_ret (d_cast (k := isI) (S := tyI) (d_var (pv 1) rfl) (fun u => of_isI u)))))))), fun Qa Ea h => (by unfold dcheck_number at h; exact h)⟩

def dcheck_units (what : Str) (values : (List Int)) : WP (List Int) := fun Q E => ((reS (bd (bd (bd (bd (rt values) fun as => lcW (fun a2 => bd (noE (rt true)) fun c => if c = true then bd (bd (bd (rt what) fun u => bd (bd (bd (rt a2) fun u => rt ((V.int) u)) fun u => bd (bd (rt (0 : Int)) fun u => bd (bd (rt (8 : Int)) fun u => bd (rt ()) fun v => rt (u, v)) fun v => rt (u, v)) fun v => rt (u, v)) fun v => rt (u, v)) fun a => dcheck_number a.1 a.2.1 a.2.2.1 a.2.2.2.1) fun b => rt (some b) else rt none) as []) fun u => rt (id u)) fun u => bd (rt ()) fun v => rt (u, v)) fun u => rt u.1)) : SB Unit Unit (List Int)) ⟨fun _ => False, fun _ => False, fun _ => False, Q, E⟩
theorem okcheck_units {f : Addr} {fd : FuncData} (F : L2.Fun K "check_units" "check_units" scheck_units f fd) (T : Txt K mg) (ccheck_number : Fn P w K mg base "check_number" 4 Pcheck_number (tsC tyS (tsC tyX (tsC tyI (tsC tyI tsN)))) tyI (fun a => dcheck_number a.1 a.2.1 a.2.2.1 a.2.2.2.1)) : FnOk P w K mg base (L2.CX P w) 5 f fd Pcheck_units (spF K (tsC tyS (tsC (tyL tyI) tsN)) (tyT K tyI) (fun qa => dcheck_units qa.1 qa.2.1)) := by
  obtain ⟨_, c_MOST_UNITS⟩ := T.c_MOST_UNITS
  refine fnV (Γ0 := fun qa => [.rp tyS qa.1, .rp (tyL tyI) qa.2.1, .un]) F sccheck_units (fun vs G a h => by obtain ⟨_, _, rfl, _, _, _, rfl, _, rfl⟩ := h; rfl) (fun vs G H a h => by
    obtain ⟨v0, r0, rfl, h0, v1, r1, rfl, h1, rfl⟩ := h
    exact ⟨v0, _, rfl, h0, ⟨v1, _, rfl, h1, ⟨none, _, rfl, ⟨rfl, rfl⟩⟩⟩⟩) (fun cdv A outer s H E hr air tk L dL qa => ?_)
  exact ⟨_, (reS (bd (bd (bd (bd (rt qa.2.1) fun as => lcW (fun a2 => bd (noE (rt true)) fun c => if c = true then bd (bd (bd (rt qa.1) fun u => bd (bd (bd (rt a2) fun u => rt ((V.int) u)) fun u => bd (bd (rt (0 : Int)) fun u => bd (bd (rt (8 : Int)) fun u => bd (rt ()) fun v => rt (u, v)) fun v => rt (u, v)) fun v => rt (u, v)) fun v => rt (u, v)) fun a => dcheck_number a.1 a.2.1 a.2.2.1 a.2.2.2.1) fun b => rt (some b) else rt none) as []) fun u => rt (id u)) fun u => bd (rt ()) fun v => rt (u, v)) fun u => rt u.1)), (by exact (s_ret (d_cb (pe_callTy (T := "tuple") (r := rTup2 K) (by exact call_tuple_of) (by rfl) T.b_tuple (by decide +kernel)) (da_cons (d_as (f := id) (S := (tyQ K tyI)) (d_new (n_lc air rfl sccheck_units.nd (lc_mk (T := tyI) (S := tyI) (own := [("value", 2)]) (g := (gName 2)) (K := K) rfl air (i_list (K := K) rfl (d_var (pv 1) rfl)) (blkOk_by (own := [("value", 2)]) (N := Ncheck_units) (sc := defScope scheck_units) (by decide +kernel)) (al_c rfl al_n) (fun _ _ _ _ _ => (pg_name (i := 2) sccheck_units.nd rfl (by first | exact Or.inl rfl | exact Or.inr rfl))) (gn rfl (by decide)) (fun W hw a2 _ _ _ _ _ => ts_nil) (fun W hw a2 _ _ _ _ _ _ _ air => (d_call (K := K) rfl ccheck_number (hr.mono (by decide)) (fun σ => (air σ).pass) (da_cons (d_var (pv 0) rfl) (da_cons (d_as (f := V.int) (S := tyX) (d_var (pv 2) rfl) (fun x H u h => toXI h)) (da_cons (d_con (T := tyI) (u := 0) pe_int (fun _ => rfl)) (da_cons (d_con (T := tyI) (u := 8) (pe_glob (x := "MOST_UNITS") (v := .int 8) (by rfl) c_MOST_UNITS ⟨_, rfl⟩) (fun _ => rfl)) da_nil))))))))) (fun x H u h => qL h)) da_nil) (fun u => b_tuple u)))), fun Qa Ea h => (by unfold dcheck_units at h; exact h)⟩

def dStanding___init__ (levels : (List Int)) (tank : Int) (mood : Int) : WP StandingV := fun Q E => ((seS (bd (bd (rt ("plots" : Str)) fun u => bd (bd (bd (bd (bd (bd (rt levels) fun u => rt (id u)) fun u => bd (rt ()) fun v => rt (u, v)) fun u => rt (u.1.length : Int)) fun u => rt ((V.int) u)) fun u => bd (bd (rt (1 : Int)) fun u => bd (bd (rt (4 : Int)) fun u => bd (rt ()) fun v => rt (u, v)) fun v => rt (u, v)) fun v => rt (u, v)) fun v => rt (u, v)) fun a => dcheck_number a.1 a.2.1 a.2.2.1 a.2.2.2.1) (fun _ => (seS (bd (bd (rt ("level" : Str)) fun u => bd (bd (rt levels) fun u => bd (rt ()) fun v => rt (u, v)) fun v => rt (u, v)) fun a => dcheck_units a.1 a.2.1) (fun levels1 => (seS (bd (bd (rt ("tank" : Str)) fun u => bd (bd (bd (rt tank) fun u => rt ((V.int) u)) fun u => bd (bd (rt (0 : Int)) fun u => bd (bd (rt (8 : Int)) fun u => bd (rt ()) fun v => rt (u, v)) fun v => rt (u, v)) fun v => rt (u, v)) fun v => rt (u, v)) fun a => dcheck_number a.1 a.2.1 a.2.2.1 a.2.2.2.1) (fun tank2 => (seS (bd (bd (rt ("mood" : Str)) fun u => bd (bd (bd (rt mood) fun u => rt ((V.int) u)) fun u => bd (bd (rt (0 : Int)) fun u => bd (bd (bd (rt (4 : Int)) fun u => bd (rt (1 : Int)) fun v => rt (u - v)) fun u => bd (rt ()) fun v => rt (u, v)) fun v => rt (u, v)) fun v => rt (u, v)) fun v => rt (u, v)) fun a => dcheck_number a.1 a.2.1 a.2.2.1 a.2.2.2.1) (fun mood3 => (nxS ((((), levels1), tank2), mood3)))))))))) : SB (((Unit × (List Int)) × Int) × Int) Unit Unit) ⟨fun b => Q ⟨b.1.1.2, b.1.2, b.2⟩, fun _ => False, fun _ => False, fun _ => False, E⟩
theorem okStanding___init__ {f : Addr} {fd : FuncData} (F : L2.Fun K "__init__" "Standing.__init__" sStanding___init__ f fd) (T : Txt K mg) (ccheck_number : Fn P w K mg base "check_number" 4 Pcheck_number (tsC tyS (tsC tyX (tsC tyI (tsC tyI tsN)))) tyI (fun a => dcheck_number a.1 a.2.1 a.2.2.1 a.2.2.2.1)) (D_Standing : ClsT K mg "Standing" ["levels", "tank", "mood"]) (ccheck_units : Fn P w K mg base "check_units" 5 Pcheck_units (tsC tyS (tsC (tyL tyI) tsN)) (tyT K tyI) (fun a => dcheck_units a.1 a.2.1)) : FnOk P w K mg base (L2.CX P w) 6 f fd PStanding___init__ (spI K (cl K "Standing") ["levels", "tank", "mood"] (tv_Standing K) tu_Standing (tsC (tyL tyI) (tsC tyI (tsC tyI tsN))) (fun qa => dStanding___init__ qa.1 qa.2.1 qa.2.2.1)) := by
  obtain ⟨_, c_MOST_MOODS⟩ := T.c_MOST_MOODS
  obtain ⟨_, c_MOST_PLOTS⟩ := T.c_MOST_PLOTS
  obtain ⟨_, c_MOST_UNITS⟩ := T.c_MOST_UNITS
  refine fnI (h := th_Standing) (Γ0 := fun qa => [.rp (tyL tyI) qa.1, .rp tyI qa.2.1, .rp tyI qa.2.2.1]) (Γ' := fun _ => [.un, .un, .un]) (fun _ => rfl) F scStanding___init__ (fun vs G a h => by obtain ⟨_, _, rfl, _, _, _, rfl, _, _, _, rfl, _, rfl⟩ := h; rfl) (fun vs G H a h => by
    obtain ⟨v0, r0, rfl, h0, v1, r1, rfl, h1, v2, r2, rfl, h2, rfl⟩ := h
    exact ⟨v0, _, rfl, h0, ⟨v1, _, rfl, h1, ⟨v2, _, rfl, h2, ⟨rfl, rfl⟩⟩⟩⟩) (fun cdv A outer s H E hr air tk L p0 np dL qa => ?_)
  exact ⟨_, (seS (bd (bd (rt ("plots" : Str)) fun u => bd (bd (bd (bd (bd (bd (rt qa.1) fun u => rt (id u)) fun u => bd (rt ()) fun v => rt (u, v)) fun u => rt (u.1.length : Int)) fun u => rt ((V.int) u)) fun u => bd (bd (rt (1 : Int)) fun u => bd (bd (rt (4 : Int)) fun u => bd (rt ()) fun v => rt (u, v)) fun v => rt (u, v)) fun v => rt (u, v)) fun v => rt (u, v)) fun a => dcheck_number a.1 a.2.1 a.2.2.1 a.2.2.2.1) (fun _ => (seS (bd (bd (rt ("level" : Str)) fun u => bd (bd (rt qa.1) fun u => bd (rt ()) fun v => rt (u, v)) fun v => rt (u, v)) fun a => dcheck_units a.1 a.2.1) (fun levels1 => (seS (bd (bd (rt ("tank" : Str)) fun u => bd (bd (bd (rt qa.2.1) fun u => rt ((V.int) u)) fun u => bd (bd (rt (0 : Int)) fun u => bd (bd (rt (8 : Int)) fun u => bd (rt ()) fun v => rt (u, v)) fun v => rt (u, v)) fun v => rt (u, v)) fun v => rt (u, v)) fun a => dcheck_number a.1 a.2.1 a.2.2.1 a.2.2.2.1) (fun tank2 => (seS (bd (bd (rt ("mood" : Str)) fun u => bd (bd (bd (rt qa.2.2.1) fun u => rt ((V.int) u)) fun u => bd (bd (rt (0 : Int)) fun u => bd (bd (bd (rt (4 : Int)) fun u => bd (rt (1 : Int)) fun v => rt (u - v)) fun u => bd (rt ()) fun v => rt (u, v)) fun v => rt (u, v)) fun v => rt (u, v)) fun v => rt (u, v)) fun a => dcheck_number a.1 a.2.1 a.2.2.1 a.2.2.2.1) (fun mood3 => (nxS ((((), levels1), tank2), mood3)))))))))), (by exact (s_expr rfl (d_call (K := K) rfl ccheck_number (hr.mono (by decide)) (fun σ => (air σ).pass) (da_cons (d_con (T := tyS) (u := ("plots" : Str)) pe_str (fun _ => rfl)) (da_cons (d_as (f := V.int) (S := tyX) (d_cb (pe_callB (id := "len") (r := rLen2 K) (by exact call_len_seq) (by rfl) T.b_len PySem.boot_len) (da_cons (d_as (f := id) (S := (tyQ K tyI)) (d_var (pv 1) rfl) (fun x H u h => qL h)) da_nil) (fun u => b_len u)) (fun x H u h => toXI h)) (da_cons (d_con (T := tyI) (u := 1) pe_int (fun _ => rfl)) (da_cons (d_con (T := tyI) (u := 4) (pe_glob (x := "MOST_PLOTS") (v := .int 4) (by rfl) c_MOST_PLOTS ⟨_, rfl⟩) (fun _ => rfl)) da_nil))))) (s_fldI (fs := []) (i := 0) rfl (by decide) (by decide) D_Standing.cls (D_Standing.no "levels" (by decide)) (fun h => ps_fld (pv 0) h rfl) (d_call (K := K) rfl ccheck_units (hr.mono (by decide)) (fun σ => (air σ).pass) (da_cons (d_con (T := tyS) (u := ("level" : Str)) pe_str (fun _ => rfl)) (da_cons (d_var (pv 1) rfl) da_nil))) (fun levels1 => (s_fldI (fs := ["levels"]) (i := 0) rfl (by decide) (by decide) D_Standing.cls (D_Standing.no "tank" (by decide)) (fun h => ps_fld (pv 0) h rfl) (d_call (K := K) rfl ccheck_number (hr.mono (by decide)) (fun σ => (air σ).pass) (da_cons (d_con (T := tyS) (u := ("tank" : Str)) pe_str (fun _ => rfl)) (da_cons (d_as (f := V.int) (S := tyX) (d_var (pv 2) rfl) (fun x H u h => toXI h)) (da_cons (d_con (T := tyI) (u := 0) pe_int (fun _ => rfl)) (da_cons (d_con (T := tyI) (u := 8) (pe_glob (x := "MOST_UNITS") (v := .int 8) (by rfl) c_MOST_UNITS ⟨_, rfl⟩) (fun _ => rfl)) da_nil))))) (fun tank2 => (s_fldI (fs := ["levels", "tank"]) (i := 0) rfl (by decide) (by decide) D_Standing.cls (D_Standing.no "mood" (by decide)) (fun h => ps_fld (pv 0) h rfl) (d_call (K := K) rfl ccheck_number (hr.mono (by decide)) (fun σ => (air σ).pass) (da_cons (d_con (T := tyS) (u := ("mood" : Str)) pe_str (fun _ => rfl)) (da_cons (d_as (f := V.int) (S := tyX) (d_var (pv 3) rfl) (fun x H u h => toXI h)) (da_cons (d_con (T := tyI) (u := 0) pe_int (fun _ => rfl)) (da_cons (d_op op_sub (d_con (T := tyI) (u := 4) (pe_glob (x := "MOST_MOODS") (v := .int 4) (by rfl) c_MOST_MOODS ⟨_, rfl⟩) (fun _ => rfl)) (d_con (T := tyI) (u := 1) pe_int (fun _ => rfl)) (fun u v => o_I0 u v)) da_nil))))) (fun mood3 => (s_end ((((), levels1), tank2), mood3) (low_eq (low_un (low_un (low_un low_nil))))))))))))), fun Qa Ea h => (by unfold dStanding___init__ at h; exact h)⟩

def dStanding___eq__ (self : StandingV) (other : StandingV) : WP Bool := fun Q E => ((reS (bd (bd (rt other) fun _ => rt true) fun c => if c = true then (bd (bd (bd (rt self) fun d => rt d.mood) fun u => bd (bd (rt other) fun d => rt d.mood) fun v => rt (decide (u = v))) fun c => if c = true then (bd (bd (bd (rt self) fun d => rt d.levels) fun u => bd (bd (rt other) fun d => rt d.levels) fun v => rt (id (decide (u = v)))) fun c => if c = true then (bd (bd (rt self) fun d => rt d.tank) fun u => bd (bd (rt other) fun d => rt d.tank) fun v => rt (decide (u = v))) else rt false) else rt false) else rt false)) : SB Unit Unit Bool) ⟨fun _ => False, fun _ => False, fun _ => False, Q, E⟩
theorem okStanding___eq__ {f : Addr} {fd : FuncData} (F : L2.Fun K "__eq__" "Standing.__eq__" sStanding___eq__ f fd) (T : Txt K mg) (D_Standing : ClsT K mg "Standing" ["levels", "tank", "mood"]) : FnOk P w K mg base (L2.CX P w) 3 f fd PStanding___eq__ (spF K (tsC (ty_Standing K) (tsC (ty_Standing K) tsN)) tyB (fun qa => dStanding___eq__ qa.1 qa.2.1)) := by
  refine fnV (Γ0 := fun qa => [.rp (ty_Standing K) qa.1, .rp (ty_Standing K) qa.2.1]) F scStanding___eq__ (fun vs G a h => by obtain ⟨_, _, rfl, _, _, _, rfl, _, rfl⟩ := h; rfl) (fun vs G H a h => by
    obtain ⟨v0, r0, rfl, h0, v1, r1, rfl, h1, rfl⟩ := h
    exact ⟨v0, _, rfl, h0, ⟨v1, _, rfl, h1, ⟨rfl, rfl⟩⟩⟩) (fun cdv A outer s H E hr air tk L dL qa => ?_)
  exact ⟨_, (reS (bd (bd (rt qa.2.1) fun _ => rt true) fun c => if c = true then (bd (bd (bd (rt qa.1) fun d => rt d.mood) fun u => bd (bd (rt qa.2.1) fun d => rt d.mood) fun v => rt (decide (u = v))) fun c => if c = true then (bd (bd (bd (rt qa.1) fun d => rt d.levels) fun u => bd (bd (rt qa.2.1) fun d => rt d.levels) fun v => rt (id (decide (u = v)))) fun c => if c = true then (bd (bd (rt qa.1) fun d => rt d.tank) fun u => bd (bd (rt qa.2.1) fun d => rt d.tank) fun v => rt (decide (u = v))) else rt false) else rt false) else rt false)), (by exact (s_ret (d_and (d_isC (K := K) rfl D_Standing (d_var (pv 1) rfl) T.b_isinstance) (d_and (d_cmp op_eq (d_fld (K := K) rfl fl_Standing_mood D_Standing.cls (D_Standing.no "mood" (by decide)) (d_var (pv 0) rfl) (fun _ => rfl)) (d_fld (K := K) rfl fl_Standing_mood D_Standing.cls (D_Standing.no "mood" (by decide)) (d_var (pv 1) rfl) (fun _ => rfl)) (fun u v => o_eq eqsI u v) (nomark _)) (d_and (d_cmp (op_eqR (R := Ty.rep (tyT K tyI)) (g := id) (rcT (.inl ⟨rfl, rfl⟩) (n := 0) eq_I) (hr.mono (by decide))) (d_fld (K := K) rfl fl_Standing_levels D_Standing.cls (D_Standing.no "levels" (by decide)) (d_var (pv 0) rfl) (fun _ => rfl)) (d_fld (K := K) rfl fl_Standing_levels D_Standing.cls (D_Standing.no "levels" (by decide)) (d_var (pv 1) rfl) (fun _ => rfl)) (fun u v => o_eqT u v) (nomark _)) (d_one (d_cmp op_eq (d_fld (K := K) rfl fl_Standing_tank D_Standing.cls (D_Standing.no "tank" (by decide)) (d_var (pv 0) rfl) (fun _ => rfl)) (d_fld (K := K) rfl fl_Standing_tank D_Standing.cls (D_Standing.no "tank" (by decide)) (d_var (pv 1) rfl) (fun _ => rfl)) (fun u v => o_eq eqsI u v) (nomark _)))))))), fun Qa Ea h => (by unfold dStanding___eq__ at h; exact h)⟩

def dStanding___str__ (self : StandingV) : WP Str := fun Q E => ((seS (bd (bd (rt self) fun d => rt d.levels) fun as => lcW (fun a2 => bd (noE (rt true)) fun c => if c = true then bd (bd (bd (rt a2) fun u => bd (rt ()) fun v => rt (u, v)) fun u => nd (u.1.natAbs.log2 < 1920) (rt (strI u.1))) fun b => rt (some b) else rt none) as []) (fun levels1 => (reS (bd (rt (" " : Str)) fun a => bd (bd (bd (bd ((fun acc => bd (bd (bd (rt self) fun d => rt d.mood) fun i => nd (i.natAbs.log2 < 1920) (rt (strI i))) fun y => nd ((acc ++ y).length ≤ sizeLine) ((fun acc => bd (rt (":" : Str)) fun y => nd ((acc ++ y).length ≤ sizeLine) (rt (acc ++ y))) (acc ++ y))) Str.empty) fun u => bd (bd (bd (rt levels1) fun u => rt (id u)) fun u => bd (bd (rt ("/" : Str)) fun u => bd (bd (bd (bd (bd (rt self) fun d => rt d.tank) fun u => bd (rt ()) fun v => rt (u, v)) fun u => nd (u.1.natAbs.log2 < 1920) (rt (strI u.1))) fun u => bd (rt []) fun v => rt (u :: v)) fun v => rt (u :: v)) fun v => rt (u ++ v)) fun v => rt (u :: v)) fun u => nd (u.length ≤ sizeLine) (rt u)) fun u => rt (id u)) fun ys => nd ((ys.map (·.length)).sum + ys.length * a.length ≤ 16777216) (rt (Txt.join a ys)))))) : SB Unit Unit Str) ⟨fun _ => False, fun _ => False, fun _ => False, Q, E⟩
theorem okStanding___str__ {f : Addr} {fd : FuncData} (F : L2.Fun K "__str__" "Standing.__str__" sStanding___str__ f fd) (T : Txt K mg) (D_Standing : ClsT K mg "Standing" ["levels", "tank", "mood"]) : FnOk P w K mg base (L2.CX P w) 1 f fd PStanding___str__ (spF K (tsC (ty_Standing K) tsN) tyS (fun qa => dStanding___str__ qa.1)) := by
  refine fnV (Γ0 := fun qa => [.rp (ty_Standing K) qa.1, .un, .un]) F scStanding___str__ (fun vs G a h => by obtain ⟨_, _, rfl, _, rfl⟩ := h; rfl) (fun vs G H a h => by
    obtain ⟨v0, r0, rfl, h0, rfl⟩ := h
    exact ⟨v0, _, rfl, h0, ⟨none, _, rfl, ⟨none, _, rfl, ⟨rfl, rfl⟩⟩⟩⟩) (fun cdv A outer s H E hr air tk L dL qa => ?_)
  exact ⟨_, (seS (bd (bd (rt qa.1) fun d => rt d.levels) fun as => lcW (fun a2 => bd (noE (rt true)) fun c => if c = true then bd (bd (bd (rt a2) fun u => bd (rt ()) fun v => rt (u, v)) fun u => nd (u.1.natAbs.log2 < 1920) (rt (strI u.1))) fun b => rt (some b) else rt none) as []) (fun levels1 => (reS (bd (rt (" " : Str)) fun a => bd (bd (bd (bd ((fun acc => bd (bd (bd (rt qa.1) fun d => rt d.mood) fun i => nd (i.natAbs.log2 < 1920) (rt (strI i))) fun y => nd ((acc ++ y).length ≤ sizeLine) ((fun acc => bd (rt (":" : Str)) fun y => nd ((acc ++ y).length ≤ sizeLine) (rt (acc ++ y))) (acc ++ y))) Str.empty) fun u => bd (bd (bd (rt levels1) fun u => rt (id u)) fun u => bd (bd (rt ("/" : Str)) fun u => bd (bd (bd (bd (bd (rt qa.1) fun d => rt d.tank) fun u => bd (rt ()) fun v => rt (u, v)) fun u => nd (u.1.natAbs.log2 < 1920) (rt (strI u.1))) fun u => bd (rt []) fun v => rt (u :: v)) fun v => rt (u :: v)) fun v => rt (u ++ v)) fun v => rt (u :: v)) fun u => nd (u.length ≤ sizeLine) (rt u)) fun u => rt (id u)) fun ys => nd ((ys.map (·.length)).sum + ys.length * a.length ≤ 16777216) (rt (Txt.join a ys)))))), (by exact (s_setLc (i := 1) air rfl scStanding___str__.nd rfl rfl (sw_true rfl rfl rfl (by decide +kernel)) (lc_mk (T := tyI) (S := tyS) (own := [("level", 2)]) (g := (gName 2)) (K := K) rfl air (i_tup (K := K) rfl (d_fld (K := K) rfl fl_Standing_levels D_Standing.cls (D_Standing.no "levels" (by decide)) (d_var (pv 0) rfl) (fun _ => rfl))) (blkOk_by (own := [("level", 2)]) (N := NStanding___str__) (sc := defScope sStanding___str__) (by decide +kernel)) (al_c rfl al_n) (fun _ _ _ _ _ => (pg_name (i := 2) scStanding___str__.nd rfl (by first | exact Or.inl rfl | exact Or.inr rfl))) (gn rfl (by decide)) (fun W hw a2 _ _ _ _ _ => ts_nil) (fun W hw a2 _ _ _ _ _ _ _ air => (d_cb (pe_callTy (T := "str") call_str_int (by rfl) T.b_str (by decide +kernel)) (da_cons (d_var (pv 2) rfl) da_nil) (fun u => b_strI u)))) rfl (fun levels1 => (s_ret (d_join (K := K) rfl (d_con (T := tyS) (u := (" " : Str)) pe_str (fun _ => rfl)) (d_as (f := id) (S := (tyQ K tyS)) (d_new (n_lstQ (T := tyS) (da_consQ (d_joined (k := (fun acc => bd (bd (bd (rt qa.1) fun d => rt d.mood) fun i => nd (i.natAbs.log2 < 1920) (rt (strI i))) fun y => nd ((acc ++ y).length ≤ sizeLine) ((fun acc => bd (rt (":" : Str)) fun y => nd ((acc ++ y).length ≤ sizeLine) (rt (acc ++ y))) (acc ++ y)))) (dj_cons (k := (fun acc => bd (rt (":" : Str)) fun y => nd ((acc ++ y).length ≤ sizeLine) (rt (acc ++ y)))) (d_fmtI (d_fld (K := K) rfl fl_Standing_mood D_Standing.cls (D_Standing.no "mood" (by decide)) (d_var (pv 0) rfl) (fun _ => rfl))) (dj_cons (k := rt) (d_con (T := tyS) (u := (":" : Str)) pe_str (fun _ => rfl)) dj_nil))) (da_starQ (K := K) rfl (d_as (f := id) (S := (tyQ K tyS)) (d_var (pv 1) rfl) (fun x H u h => qL h)) (da_consQ (d_con (T := tyS) (u := ("/" : Str)) pe_str (fun _ => rfl)) (da_consQ (d_cb (pe_callTy (T := "str") call_str_int (by rfl) T.b_str (by decide +kernel)) (da_cons (d_fld (K := K) rfl fl_Standing_tank D_Standing.cls (D_Standing.no "tank" (by decide)) (d_var (pv 0) rfl) (fun _ => rfl)) da_nil) (fun u => b_strI u)) da_nilQ)))))) (fun x H u h => qL h))))))), fun Qa Ea h => (by unfold dStanding___str__ at h; exact h)⟩

theorem fun_Standing {X : Cx} : FunI X (ty_Standing X.K) := fun_C (funS_S (funS_S (funS_S funS_N (fun_T fun_I)) fun_I) fun_I) fun a b h => by
  cases a; cases b; simp [tu_Standing] at h ⊢; first | exact h | simpa [and_assoc] using h
theorem eqm_Standing (a b : StandingV) (Q : Bool → Prop) (h : Q (decide (a = b))) : dStanding___eq__ a b Q fun _ => False := by
  obtain ⟨l, t, m⟩ := a
  obtain ⟨l', t', m'⟩ := b
  by_cases e1 : m = m' <;> by_cases e2 : l = l' <;> by_cases e3 : t = t' <;> simp_all [dStanding___eq__, reS, bd, rt]
end
end Wb

set_option synthInstance.maxSize 2000
set_option maxHeartbeats 400000
namespace Wb
open PySem PySem.Spec PyProof.Rows L2 Wx NdefX RZ StX Dn
section
variable {P : Program} {w : World} {K : PySem.W.Frag} {mg : Str → Option Value} {base : Heap}
def d_are_numbers (words : (List Str)) : WP Bool := fun Q E => ((reS (bd (bd (bd (bd (bd (rt words) fun u => rt (id u)) fun u => bd (rt ()) fun v => rt (u, v)) fun u => rt (u.1.length : Int)) fun u => bd (rt (0 : Int)) fun v => rt (decide (v < u))) fun c => if c = true then (bd (bd (bd (rt words) fun as => lcW (fun a1 => bd (noE (rt true)) fun c => if c = true then bd (bd (bd (rt a1) fun u => bd (rt ()) fun v => rt (u, v)) fun a => dis_number a.1) fun b => rt (some b) else rt none) as []) fun u => bd (rt ()) fun v => rt (u, v)) fun u => rt (u.1.all id)) else rt false)) : SB Unit Unit Bool) ⟨fun _ => False, fun _ => False, fun _ => False, Q, E⟩
theorem ok_are_numbers {f : Addr} {fd : FuncData} (F : L2.Fun K "_are_numbers" "_are_numbers" s_are_numbers f fd) (T : Txt K mg) (cis_number : Fn P w K mg base "is_number" 1 Pis_number (tsC tyS tsN) tyB (fun a => dis_number a.1)) : FnOk P w K mg base (L2.CX P w) 2 f fd P_are_numbers (spF K (tsC (tyL tyS) tsN) tyB (fun qa => d_are_numbers qa.1)) := by
  refine fnV (Γ0 := fun qa => [.rp (tyL tyS) qa.1, .un]) F sc_are_numbers (fun vs G a h => by obtain ⟨_, _, rfl, _, rfl⟩ := h; rfl) (fun vs G H a h => by
    obtain ⟨v0, r0, rfl, h0, rfl⟩ := h
    exact ⟨v0, _, rfl, h0, ⟨none, _, rfl, ⟨rfl, rfl⟩⟩⟩) (fun cdv A outer s H E hr air tk L dL qa => ?_)
  exact ⟨_, (reS (bd (bd (bd (bd (bd (rt qa.1) fun u => rt (id u)) fun u => bd (rt ()) fun v => rt (u, v)) fun u => rt (u.1.length : Int)) fun u => bd (rt (0 : Int)) fun v => rt (decide (v < u))) fun c => if c = true then (bd (bd (bd (rt qa.1) fun as => lcW (fun a1 => bd (noE (rt true)) fun c => if c = true then bd (bd (bd (rt a1) fun u => bd (rt ()) fun v => rt (u, v)) fun a => dis_number a.1) fun b => rt (some b) else rt none) as []) fun u => bd (rt ()) fun v => rt (u, v)) fun u => rt (u.1.all id)) else rt false)), (by exact (s_ret (d_and (d_cmp op_gt (d_cb (pe_callB (id := "len") (r := rLen2 K) (by exact call_len_seq) (by rfl) T.b_len PySem.boot_len) (da_cons (d_as (f := id) (S := (tyQ K tyS)) (d_var (pv 0) rfl) (fun x H u h => qL h)) da_nil) (fun u => b_len u)) (d_con (T := tyI) (u := 0) pe_int (fun _ => rfl)) (fun u v => o_I0b u v) (nomark _)) (d_one (d_cb (pe_callB (id := "all") (r := rAll K) (by exact cr_all rfl) (by rfl) T.b_all (by decide +kernel)) (da_cons (d_new (n_lc air rfl sc_are_numbers.nd (lc_mk (T := tyS) (S := tyB) (own := [("word", 1)]) (g := (gName 1)) (K := K) rfl air (i_list (K := K) rfl (d_var (pv 0) rfl)) (blkOk_by (own := [("word", 1)]) (N := N_are_numbers) (sc := defScope s_are_numbers) (by decide +kernel)) (al_c rfl al_n) (fun _ _ _ _ _ => (pg_name (i := 1) sc_are_numbers.nd rfl (by first | exact Or.inl rfl | exact Or.inr rfl))) (gn rfl (by decide)) (fun W hw a1 _ _ _ _ _ => ts_nil) (fun W hw a1 _ _ _ _ _ _ _ air => (d_call (K := K) rfl cis_number (hr.mono (by decide)) (fun σ => (air σ).pass) (da_cons (d_var (pv 1) rfl) da_nil)))))) da_nil) (fun u => b_all u)))))), fun Qa Ea h => (by unfold d_are_numbers at h; exact h)⟩

def dread_standing (text : Str) : WP StandingV := fun Q E => ((seS (bd (rt text) fun a => bd (rt (" " : Str)) fun b => nd ((b.length == 0) = false ∧ a.length + 2 ≤ sizeLine) (rt (Txt.split a b))) (fun words1 => (ifS (bd (bd (bd (bd (bd (rt words1) fun u => rt (id u)) fun u => bd (rt ()) fun v => rt (u, v)) fun u => rt (u.1.length : Int)) fun u => bd (rt (4 : Int)) fun v => rt (decide (u < v))) fun c => if c = true then rt true else (bd (bd (bd (bd (rt words1) fun u => bd (rt (0 : Int)) fun v => ixW u v) fun a => bd (rt (":" : Str)) fun b => rt (Txt.endswith a b)) fun c => rt (!c)) fun c => if c = true then rt true else (bd (bd (rt words1) fun u => bd (bd (rt (2 : Int)) fun u => rt (-u)) fun v => ixW u v) fun u => bd (rt ("/" : Str)) fun v => rt (!decide (u = v))))) (raS (bd (rt (1 : Int)) fun u => bd (rt ()) fun v => rt (u, v)) (fun u => ShowOk (.int u.1)) (fun u => .text u.1)) (nxS ()) (fun _ : Unit => (seS (bd (bd (bd (bd (rt words1) fun u => bd (rt (0 : Int)) fun v => ixW u v) fun z => bd (rt none) fun l => bd (bd (bd (rt (1 : Int)) fun u => rt (-u)) fun i => rt (some i)) fun u => nd (z.length ≤ sizeLine) (rt (cutS z l u))) fun u => bd (bd (bd (bd (rt words1) fun as => bd (bd (rt (1 : Int)) fun i => rt (some i)) fun l => bd (bd (bd (rt (2 : Int)) fun u => rt (-u)) fun i => rt (some i)) fun u => rt (cutL as l u)) fun u => rt (id u)) fun u => bd (bd (bd (rt words1) fun u => bd (bd (rt (1 : Int)) fun u => rt (-u)) fun v => ixW u v) fun u => bd (rt []) fun v => rt (u :: v)) fun v => rt (u ++ v)) fun v => rt (u :: v)) fun u => nd (u.length ≤ sizeLine) (rt u)) (fun parts2 => (ifS (bd (bd (bd (rt parts2) fun u => bd (rt ()) fun v => rt (u, v)) fun a => d_are_numbers a.1) fun c => rt (!c)) (raS (bd (rt (1 : Int)) fun u => bd (rt ()) fun v => rt (u, v)) (fun u => ShowOk (.int u.1)) (fun u => .text u.1)) (nxS ()) (fun _ : Unit => (stS (bd (rt parts2) fun as => lcW (fun a3 => bd (noE (rt true)) fun c => if c = true then bd (bd (bd (rt a3) fun u => bd (rt ()) fun v => rt (u, v)) fun a => dread_number a.1) fun b => rt (some b) else rt none) as []) (fun a4 => (reS (bd (bd (rt a4.2.1) fun u => bd (bd (rt a4.2.2) fun u => bd (bd (rt a4.1) fun u => bd (rt ()) fun v => rt (u, v)) fun v => rt (u, v)) fun v => rt (u, v)) fun a => dStanding___init__ a.1 a.2.1 a.2.2.1)))))))))))) : SB Unit Unit StandingV) ⟨fun _ => False, fun _ => False, fun _ => False, Q, E⟩
theorem okread_standing {f : Addr} {fd : FuncData} (F : L2.Fun K "read_standing" "read_standing" sread_standing f fd) (T : Txt K mg) {f_BadText cda_BadText cc_BadText : Addr} {fd_BadText : FuncData} (E_BadText : ErrC P K mg "BadText" "BadText.__init__" (cl K "BadText") f_BadText cda_BadText cc_BadText) (G_BadText : FnOk P w K mg base CX0 2 f_BadText fd_BadText PBadText___init__ (spBadText (cl K "BadText"))) (b_BadText : Binds K fd_BadText PBadText___init__ []) (c_are_numbers : Fn P w K mg base "_are_numbers" 2 P_are_numbers (tsC (tyL tyS) tsN) tyB (fun a => d_are_numbers a.1)) (cread_number : Fn P w K mg base "read_number" 4 Pread_number (tsC tyS tsN) tyI (fun a => dread_number a.1)) (m_Standing : Mk1 P w K mg base "Standing" 6 PStanding___init__ ["levels", "tank", "mood"] (tv_Standing K) tu_Standing (tsC (tyL tyI) (tsC tyI (tsC tyI tsN))) (fun a => dStanding___init__ a.1 a.2.1 a.2.2.1)) : FnOk P w K mg base (L2.CX P w) 8 f fd Pread_standing (spF K (tsC tyS tsN) (ty_Standing K) (fun qa => dread_standing qa.1)) := by
  refine fnV (Γ0 := fun qa => [.rp tyS qa.1, .un, .un, .un, .un, .un, .un]) F scread_standing (fun vs G a h => by obtain ⟨_, _, rfl, _, rfl⟩ := h; rfl) (fun vs G H a h => by
    obtain ⟨v0, r0, rfl, h0, rfl⟩ := h
    exact ⟨v0, _, rfl, h0, ⟨none, _, rfl, ⟨none, _, rfl, ⟨none, _, rfl, ⟨none, _, rfl, ⟨none, _, rfl, ⟨none, _, rfl, ⟨rfl, rfl⟩⟩⟩⟩⟩⟩⟩⟩) (fun cdv A outer s H E hr air tk L dL qa => ?_)
  exact ⟨_, (seS (bd (rt qa.1) fun a => bd (rt (" " : Str)) fun b => nd ((b.length == 0) = false ∧ a.length + 2 ≤ sizeLine) (rt (Txt.split a b))) (fun words1 => (ifS (bd (bd (bd (bd (bd (rt words1) fun u => rt (id u)) fun u => bd (rt ()) fun v => rt (u, v)) fun u => rt (u.1.length : Int)) fun u => bd (rt (4 : Int)) fun v => rt (decide (u < v))) fun c => if c = true then rt true else (bd (bd (bd (bd (rt words1) fun u => bd (rt (0 : Int)) fun v => ixW u v) fun a => bd (rt (":" : Str)) fun b => rt (Txt.endswith a b)) fun c => rt (!c)) fun c => if c = true then rt true else (bd (bd (rt words1) fun u => bd (bd (rt (2 : Int)) fun u => rt (-u)) fun v => ixW u v) fun u => bd (rt ("/" : Str)) fun v => rt (!decide (u = v))))) (raS (bd (rt (1 : Int)) fun u => bd (rt ()) fun v => rt (u, v)) (fun u => ShowOk (.int u.1)) (fun u => .text u.1)) (nxS ()) (fun _ : Unit => (seS (bd (bd (bd (bd (rt words1) fun u => bd (rt (0 : Int)) fun v => ixW u v) fun z => bd (rt none) fun l => bd (bd (bd (rt (1 : Int)) fun u => rt (-u)) fun i => rt (some i)) fun u => nd (z.length ≤ sizeLine) (rt (cutS z l u))) fun u => bd (bd (bd (bd (rt words1) fun as => bd (bd (rt (1 : Int)) fun i => rt (some i)) fun l => bd (bd (bd (rt (2 : Int)) fun u => rt (-u)) fun i => rt (some i)) fun u => rt (cutL as l u)) fun u => rt (id u)) fun u => bd (bd (bd (rt words1) fun u => bd (bd (rt (1 : Int)) fun u => rt (-u)) fun v => ixW u v) fun u => bd (rt []) fun v => rt (u :: v)) fun v => rt (u ++ v)) fun v => rt (u :: v)) fun u => nd (u.length ≤ sizeLine) (rt u)) (fun parts2 => (ifS (bd (bd (bd (rt parts2) fun u => bd (rt ()) fun v => rt (u, v)) fun a => d_are_numbers a.1) fun c => rt (!c)) (raS (bd (rt (1 : Int)) fun u => bd (rt ()) fun v => rt (u, v)) (fun u => ShowOk (.int u.1)) (fun u => .text u.1)) (nxS ()) (fun _ : Unit => (stS (bd (rt parts2) fun as => lcW (fun a3 => bd (noE (rt true)) fun c => if c = true then bd (bd (bd (rt a3) fun u => bd (rt ()) fun v => rt (u, v)) fun a => dread_number a.1) fun b => rt (some b) else rt none) as []) (fun a4 => (reS (bd (bd (rt a4.2.1) fun u => bd (bd (rt a4.2.2) fun u => bd (bd (rt a4.1) fun u => bd (rt ()) fun v => rt (u, v)) fun v => rt (u, v)) fun v => rt (u, v)) fun a => dStanding___init__ a.1 a.2.1 a.2.2.1)))))))))))), (by exact (s_set (fun h => ps_set (i := 1) scread_standing.nd rfl (by first | exact Or.inl rfl | exact Or.inr rfl) h) (d_split (d_var (pv 0) rfl) (d_con (T := tyS) (u := (" " : Str)) pe_str (fun _ => rfl))) rfl (fun words1 => (s_if (Γ1 := fun _ : Unit => [.rp tyS qa.1, .rp (tyL tyS) words1, .un, .un, .un, .un, .un]) (w_pt (w_or (t_cmp op_lt (d_cb (pe_callB (id := "len") (r := rLen2 K) (by exact call_len_seq) (by rfl) T.b_len PySem.boot_len) (da_cons (d_as (f := id) (S := (tyQ K tyS)) (d_var (pv 1) rfl) (fun x H u h => qL h)) da_nil) (fun u => b_len u)) (d_con (T := tyI) (u := 4) pe_int (fun _ => rfl)) (fun u v => o_I0b u v) (nomark _)) (w_or (t_not (t_val (d_ends (d_ix (r := rIxL K) (by exact ix_list) (d_var (pv 1) rfl) (d_con (T := tyI) (u := 0) pe_int (fun _ => rfl)) (fun u v => o_ixL u v) (fun _ _ => rfl)) (d_con (T := tyS) (u := (":" : Str)) pe_str (fun _ => rfl))))) (w_or1 (t_cmp op_ne (d_ix (r := rIxL K) (by exact ix_list) (d_var (pv 1) rfl) (d_un un_neg (d_con (T := tyI) (u := 2) pe_int (fun _ => rfl)) (fun u => o_U u)) (fun u v => o_ixL u v) (fun _ _ => rfl)) (d_con (T := tyS) (u := ("/" : Str)) pe_str (fun _ => rfl)) (fun u v => o_ne eqsS u v) (nomark _)))))) (s_raise rfl tk (err1I K (E := fun v => .text v) (fun a v H Q XE h1 h2 h3 => ⟨a, .int v, rfl, h2, h1, h3⟩) (ex_text K)) (fun h => pmk_oex E_BadText.sup.oex E_BadText.ini E_BadText.tyI G_BadText (hr.mono (by decide)) b_BadText .nil pass0 (by rfl) E_BadText.g h) (da_cons (d_con (T := tyI) (u := 1) pe_int (fun _ => rfl)) da_nil)) (s_end () (low_eq (low_eq (low_un (low_un (low_un (low_un (low_un low_nil)))))))) (fun _ => (s_set (fun h => ps_set (i := 2) scread_standing.nd rfl (by first | exact Or.inl rfl | exact Or.inr rfl) h) (d_new (n_lstQ (T := tyS) (da_consQ (d_sliceS (d_ix (r := rIxL K) (by exact ix_list) (d_var (pv 1) rfl) (d_con (T := tyI) (u := 0) pe_int (fun _ => rfl)) (fun u v => o_ixL u v) (fun _ _ => rfl)) po_no (po_so (d_un un_neg (d_con (T := tyI) (u := 1) pe_int (fun _ => rfl)) (fun u => o_U u)))) (da_starQ (K := K) rfl (d_as (f := id) (S := (tyQ K tyS)) (d_new (n_slice (K := K) rfl (d_var (pv 1) rfl) (po_so (d_con (T := tyI) (u := 1) pe_int (fun _ => rfl))) (po_so (d_un un_neg (d_con (T := tyI) (u := 2) pe_int (fun _ => rfl)) (fun u => o_U u))))) (fun x H u h => qL h)) (da_consQ (d_ix (r := rIxL K) (by exact ix_list) (d_var (pv 1) rfl) (d_un un_neg (d_con (T := tyI) (u := 1) pe_int (fun _ => rfl)) (fun u => o_U u)) (fun u v => o_ixL u v) (fun _ _ => rfl)) da_nilQ))))) rfl (fun parts2 => (s_if (Γ1 := fun _ : Unit => [.rp tyS qa.1, .rp (tyL tyS) words1, .rp (tyL tyS) parts2, .un, .un, .un, .un]) (t_not (t_val (d_call (K := K) rfl c_are_numbers (hr.mono (by decide)) (fun σ => (air σ).pass) (da_cons (d_var (pv 2) rfl) da_nil)))) (s_raise rfl tk (err1I K (E := fun v => .text v) (fun a v H Q XE h1 h2 h3 => ⟨a, .int v, rfl, h2, h1, h3⟩) (ex_text K)) (fun h => pmk_oex E_BadText.sup.oex E_BadText.ini E_BadText.tyI G_BadText (hr.mono (by decide)) b_BadText .nil pass0 (by rfl) E_BadText.g h) (da_cons (d_con (T := tyI) (u := 1) pe_int (fun _ => rfl)) da_nil)) (s_end () (low_eq (low_eq (low_eq (low_un (low_un (low_un (low_un low_nil)))))))) (fun _ => (s_star (fun h => ps_asg h (pg_star rfl (pgs_cons (pg_name (i := 3) scread_standing.nd rfl (by first | exact Or.inl rfl | exact Or.inr rfl)) (pgs_star (pg_name (i := 4) scread_standing.nd rfl (by first | exact Or.inl rfl | exact Or.inr rfl)) (pgs_cons (pg_name (i := 5) scread_standing.nd rfl (by first | exact Or.inl rfl | exact Or.inr rfl)) pgs_nil))) (by decide))) (d_new (n_lc air rfl scread_standing.nd (lc_mk (T := tyS) (S := tyI) (own := [("part", 6)]) (g := (gName 6)) (K := K) rfl air (i_list (K := K) rfl (d_var (pv 2) rfl)) (blkOk_by (own := [("part", 6)]) (N := Nread_standing) (sc := defScope sread_standing) (by decide +kernel)) (al_c rfl al_n) (fun _ _ _ _ _ => (pg_name (i := 6) scread_standing.nd rfl (by first | exact Or.inl rfl | exact Or.inr rfl))) (gn rfl (by decide)) (fun W hw a3 _ _ _ _ _ => ts_nil) (fun W hw a3 _ _ _ _ _ _ _ air => (d_call (K := K) rfl cread_number (hr.mono (by decide)) (fun σ => (air σ).pass) (da_cons (d_var (pv 6) rfl) da_nil)))))) ((gs3 (gn rfl (by decide)) (fun _ => (gn rfl (by decide))) (fun _ _ => (gn rfl (by decide)))) : DenGs _ [3, 4, 5] _ _ _ _) (fun a4 => (s_ret (d_make (K := K) rfl m_Standing (hr.mono (by decide)) (fun σ => (air σ).pass) (da_cons (d_var (pv 4) rfl) (da_cons (d_var (pv 5) rfl) (da_cons (d_var (pv 3) rfl) da_nil)))))))))))))))), fun Qa Ea h => (by unfold dread_standing at h; exact h)⟩

def d_law_told (text : Str) : WP (StandingV ⊕ (Str × Int)) := fun Q E => ((trR (bd (bd (noE (rt ("read" : Str))) fun u => bd (bd (noE (bd (rt text) fun u => bd (rt ()) fun v => rt (u, v))) fun a => dread_standing a.1) fun v => rt (u, v)) (toWl "read")) (hC Ex.text (fun u2 => (reS (bd (bd (bd (rt ("line" : Str)) fun u => bd (bd (rt u2) fun u => bd (rt ()) fun v => rt (u, v)) fun v => rt (u, v)) fun u => rt (u.1, u.2.1)) (toWr "read")))) (hC numX (fun u1 => (reS (bd (bd (bd (rt u1.1) fun u => bd (bd (rt u1.2) fun u => bd (rt ()) fun v => rt (u, v)) fun v => rt (u, v)) fun u => rt (u.1, u.2.1)) (toWr "read")))) hN))) : SB Unit Unit (StandingV ⊕ (Str × Int))) ⟨fun _ => False, fun _ => False, fun _ => False, Q, E⟩
theorem ok_law_told {f : Addr} {fd : FuncData} (F : L2.Fun K "_law_told" "_law_told" s_law_told f fd) (T : Txt K mg) (cread_standing : Fn P w K mg base "read_standing" 8 Pread_standing (tsC tyS tsN) (ty_Standing K) (fun a => dread_standing a.1)) {f_BadNumber cda_BadNumber cc_BadNumber : Addr} {fd_BadNumber : FuncData} (E_BadNumber : ErrC P K mg "BadNumber" "BadNumber.__init__" (cl K "BadNumber") f_BadNumber cda_BadNumber cc_BadNumber) (G_BadNumber : FnOk P w K mg base CX0 2 f_BadNumber fd_BadNumber PBadNumber___init__ (spBadNumber (cl K "BadNumber"))) (b_BadNumber : Binds K fd_BadNumber PBadNumber___init__ []) (gn_BadNumber : mg "BadNumber" = some (.ref (cl K "BadNumber"))) (na_BadNumber_what : PySem.W.findIn K (.ref (cl K "BadNumber")) "what" = some none) (na_BadNumber_value : PySem.W.findIn K (.ref (cl K "BadNumber")) "value" = some none) {f_BadText cda_BadText cc_BadText : Addr} {fd_BadText : FuncData} (E_BadText : ErrC P K mg "BadText" "BadText.__init__" (cl K "BadText") f_BadText cda_BadText cc_BadText) (G_BadText : FnOk P w K mg base CX0 2 f_BadText fd_BadText PBadText___init__ (spBadText (cl K "BadText"))) (b_BadText : Binds K fd_BadText PBadText___init__ []) (gn_BadText : mg "BadText" = some (.ref (cl K "BadText"))) (na_BadText_line : PySem.W.findIn K (.ref (cl K "BadText")) "line" = some none) (xf_BadNumber_BadText : PySem.W.exmOne K (.ref (cl K "BadNumber")) (.ref (cl K "BadText")) = some false) : FnOk P w K mg base (L2.CX P w) 9 f fd P_law_told (spF K (tsC tyS tsN) (tyW K "read" (ty_Standing K)) (fun qa => d_law_told qa.1)) := by
  refine fnV (Γ0 := fun qa => [.rp tyS qa.1, .un]) F sc_law_told (fun vs G a h => by obtain ⟨_, _, rfl, _, rfl⟩ := h; rfl) (fun vs G H a h => by
    obtain ⟨v0, r0, rfl, h0, rfl⟩ := h
    exact ⟨v0, _, rfl, h0, ⟨none, _, rfl, ⟨rfl, rfl⟩⟩⟩) (fun cdv A outer s H E hr air tk L dL qa => ?_)
  exact ⟨_, (trR (bd (bd (noE (rt ("read" : Str))) fun u => bd (bd (noE (bd (rt qa.1) fun u => bd (rt ()) fun v => rt (u, v))) fun a => dread_standing a.1) fun v => rt (u, v)) (toWl "read")) (hC Ex.text (fun u2 => (reS (bd (bd (bd (rt ("line" : Str)) fun u => bd (bd (rt u2) fun u => bd (rt ()) fun v => rt (u, v)) fun v => rt (u, v)) fun u => rt (u.1, u.2.1)) (toWr "read")))) (hC numX (fun u1 => (reS (bd (bd (bd (rt u1.1) fun u => bd (bd (rt u1.2) fun u => bd (rt ()) fun v => rt (u, v)) fun v => rt (u, v)) fun u => rt (u.1, u.2.1)) (toWr "read")))) hN))), (by exact (s_tryR (i := 1) rfl rfl rfl sc_law_told.nd rfl rfl (fun WW pn xe tkw => (q_cast (k := toWl "read") (S := (tyW K "read" (ty_Standing K))) (q_tup2 (d_con (T := tyS) (u := ("read" : Str)) pe_str (fun _ => rfl)) (q_call (K := K) rfl cread_standing (hr.mono (by decide)) (fun σ => passAt tkw σ) (da_cons (d_var (pv 0) rfl) da_nil))) (fun u => of_toWl u))) (hd_cons (mk := Ex.text) ⟨rfl, by decide, Or.inl gn_BadText⟩ (tyXf K "BadText" "line" tyI) (exm_of is_text E_BadText.exm) sl_text (nox_cons (exm_of is_number xf_BadNumber_BadText) nox_nil) rfl (fun ea eo ec ed epn hz hf u2 => (s_ret (d_cast (k := toWr "read") (S := (tyW K "read" (ty_Standing K))) (d_tup (S2 := (tyP K (ts2 tyS tyI))) (f := fun u : (Str × Int × Unit) => (u.1, u.2.1)) (k := 2) (da_cons (d_con (T := tyS) (u := ("line" : Str)) pe_str (fun _ => rfl)) (da_cons (d_xf (K := K) rfl (i := 1) rfl E_BadText.xf na_BadText_line hz hf (pv 1)) da_nil)) (fun p xs H u h r => dp2 p xs H u h r) (fun xs H u r => lnC2 r) (by decide)) (fun u => of_toWr u)))) (hd_cons (mk := numX) ⟨rfl, by decide, Or.inl gn_BadNumber⟩ (tyXg K "BadNumber" "what" "value" tyS tyI) (exm_of is_number E_BadNumber.exm) sl_number nox_nil rfl (fun ea eo ec ed epn hz hf u1 => (s_ret (d_cast (k := toWr "read") (S := (tyW K "read" (ty_Standing K))) (d_tup (S2 := (tyP K (ts2 tyS tyI))) (f := fun u : (Str × Int × Unit) => (u.1, u.2.1)) (k := 2) (da_cons (d_xg1 (K := K) rfl (i := 1) rfl E_BadNumber.xf na_BadNumber_what hz hf (pv 1)) (da_cons (d_xg2 (K := K) rfl (i := 1) rfl E_BadNumber.xf na_BadNumber_value hz hf (pv 1)) da_nil)) (fun p xs H u h r => dp2 p xs H u h r) (fun xs H u r => lnC2 r) (by decide)) (fun u => of_toWr u)))) hd_nil)))), fun Qa Ea h => (by unfold d_law_told at h; exact h)⟩

def d_law_text (levels : (List Int)) (tank : Int) (mood : Int) : WP Str := fun Q E => ((reS (bd (bd (bd (bd (bd (bd (rt mood) fun u => bd (rt ()) fun v => rt (u, v)) fun u => nd (u.1.natAbs.log2 < 1920) (rt (strI u.1))) fun u => bd (rt (": " : Str)) fun v => nd (u.length + v.length ≤ sizeLine) (rt (u ++ v))) fun u => bd (bd (rt (" " : Str)) fun a => bd (bd (bd (rt levels) fun as => lcW (fun a1 => bd (noE (rt true)) fun c => if c = true then bd (bd (bd (rt a1) fun u => bd (rt ()) fun v => rt (u, v)) fun u => nd (u.1.natAbs.log2 < 1920) (rt (strI u.1))) fun b => rt (some b) else rt none) as []) fun u => rt (id u)) fun ys => nd ((ys.map (·.length)).sum + ys.length * a.length ≤ 16777216) (rt (Txt.join a ys))) fun v => nd (u.length + v.length ≤ sizeLine) (rt (u ++ v))) fun u => bd (rt (" / " : Str)) fun v => nd (u.length + v.length ≤ sizeLine) (rt (u ++ v))) fun u => bd (bd (bd (rt tank) fun u => bd (rt ()) fun v => rt (u, v)) fun u => nd (u.1.natAbs.log2 < 1920) (rt (strI u.1))) fun v => nd (u.length + v.length ≤ sizeLine) (rt (u ++ v)))) : SB Unit Unit Str) ⟨fun _ => False, fun _ => False, fun _ => False, Q, E⟩
theorem ok_law_text {f : Addr} {fd : FuncData} (F : L2.Fun K "_law_text" "_law_text" s_law_text f fd) (T : Txt K mg) : FnOk P w K mg base (L2.CX P w) 1 f fd P_law_text (spF K (tsC (tyL tyI) (tsC tyI (tsC tyI tsN))) tyS (fun qa => d_law_text qa.1 qa.2.1 qa.2.2.1)) := by
  refine fnV (Γ0 := fun qa => [.rp (tyL tyI) qa.1, .rp tyI qa.2.1, .rp tyI qa.2.2.1, .un]) F sc_law_text (fun vs G a h => by obtain ⟨_, _, rfl, _, _, _, rfl, _, _, _, rfl, _, rfl⟩ := h; rfl) (fun vs G H a h => by
    obtain ⟨v0, r0, rfl, h0, v1, r1, rfl, h1, v2, r2, rfl, h2, rfl⟩ := h
    exact ⟨v0, _, rfl, h0, ⟨v1, _, rfl, h1, ⟨v2, _, rfl, h2, ⟨none, _, rfl, ⟨rfl, rfl⟩⟩⟩⟩⟩) (fun cdv A outer s H E hr air tk L dL qa => ?_)
  exact ⟨_, (reS (bd (bd (bd (bd (bd (bd (rt qa.2.2.1) fun u => bd (rt ()) fun v => rt (u, v)) fun u => nd (u.1.natAbs.log2 < 1920) (rt (strI u.1))) fun u => bd (rt (": " : Str)) fun v => nd (u.length + v.length ≤ sizeLine) (rt (u ++ v))) fun u => bd (bd (rt (" " : Str)) fun a => bd (bd (bd (rt qa.1) fun as => lcW (fun a1 => bd (noE (rt true)) fun c => if c = true then bd (bd (bd (rt a1) fun u => bd (rt ()) fun v => rt (u, v)) fun u => nd (u.1.natAbs.log2 < 1920) (rt (strI u.1))) fun b => rt (some b) else rt none) as []) fun u => rt (id u)) fun ys => nd ((ys.map (·.length)).sum + ys.length * a.length ≤ 16777216) (rt (Txt.join a ys))) fun v => nd (u.length + v.length ≤ sizeLine) (rt (u ++ v))) fun u => bd (rt (" / " : Str)) fun v => nd (u.length + v.length ≤ sizeLine) (rt (u ++ v))) fun u => bd (bd (bd (rt qa.2.1) fun u => bd (rt ()) fun v => rt (u, v)) fun u => nd (u.1.natAbs.log2 < 1920) (rt (strI u.1))) fun v => nd (u.length + v.length ≤ sizeLine) (rt (u ++ v)))), (by exact (s_ret (d_op op_add_str (d_op op_add_str (d_op op_add_str (d_op op_add_str (d_cb (pe_callTy (T := "str") call_str_int (by rfl) T.b_str (by decide +kernel)) (da_cons (d_var (pv 2) rfl) da_nil) (fun u => b_strI u)) (d_con (T := tyS) (u := (": " : Str)) pe_str (fun _ => rfl)) (fun u v => o_addS u v)) (d_join (K := K) rfl (d_con (T := tyS) (u := (" " : Str)) pe_str (fun _ => rfl)) (d_as (f := id) (S := (tyQ K tyS)) (d_new (n_lc air rfl sc_law_text.nd (lc_mk (T := tyI) (S := tyS) (own := [("level", 3)]) (g := (gName 3)) (K := K) rfl air (i_list (K := K) rfl (d_var (pv 0) rfl)) (blkOk_by (own := [("level", 3)]) (N := N_law_text) (sc := defScope s_law_text) (by decide +kernel)) (al_c rfl al_n) (fun _ _ _ _ _ => (pg_name (i := 3) sc_law_text.nd rfl (by first | exact Or.inl rfl | exact Or.inr rfl))) (gn rfl (by decide)) (fun W hw a1 _ _ _ _ _ => ts_nil) (fun W hw a1 _ _ _ _ _ _ _ air => (d_cb (pe_callTy (T := "str") call_str_int (by rfl) T.b_str (by decide +kernel)) (da_cons (d_var (pv 3) rfl) da_nil) (fun u => b_strI u)))))) (fun x H u h => qL h))) (fun u v => o_addS u v)) (d_con (T := tyS) (u := (" / " : Str)) pe_str (fun _ => rfl)) (fun u v => o_addS u v)) (d_cb (pe_callTy (T := "str") call_str_int (by rfl) T.b_str (by decide +kernel)) (da_cons (d_var (pv 1) rfl) da_nil) (fun u => b_strI u)) (fun u v => o_addS u v)))), fun Qa Ea h => (by unfold d_law_text at h; exact h)⟩

end
end Wb

set_option synthInstance.maxSize 2000
set_option maxHeartbeats 400000
namespace Wb
open PySem PySem.Spec PyProof.Rows L2 Wx NdefX RZ StX Dn
section
variable {P : Program} {w : World} {K : PySem.W.Frag} {mg : Str → Option Value} {base : Heap}
def d_law_wrong_texts (text : Str) : WP (List Str) := fun Q E => ((seS (bd (bd (bd (rt (" " : Str)) fun u => bd (rt text) fun v => nd (u.length + v.length ≤ sizeLine) (rt (u ++ v))) fun u => bd (bd (bd (rt text) fun u => bd (rt (" " : Str)) fun v => nd (u.length + v.length ≤ sizeLine) (rt (u ++ v))) fun u => bd (bd (bd (rt text) fun u => bd (rt ("\n" : Str)) fun v => nd (u.length + v.length ≤ sizeLine) (rt (u ++ v))) fun u => bd (bd (bd (rt text) fun a => nd (((":" : Str) == ("" : Str)) = false ∧ a.length + (a.length + 1) * Str.length ("" : Str) ≤ 16777216) (rt (Txt.replace a (":" : Str) ("" : Str)))) fun u => bd (bd (bd (rt text) fun a => nd (((" /" : Str) == ("" : Str)) = false ∧ a.length + (a.length + 1) * Str.length ("" : Str) ≤ 16777216) (rt (Txt.replace a (" /" : Str) ("" : Str)))) fun u => bd (bd (bd (rt text) fun u => bd (rt (" 1" : Str)) fun v => nd (u.length + v.length ≤ sizeLine) (rt (u ++ v))) fun u => bd (rt []) fun v => rt (u :: v)) fun v => rt (u :: v)) fun v => rt (u :: v)) fun v => rt (u :: v)) fun v => rt (u :: v)) fun v => rt (u :: v)) fun u => nd ((("" : Str) :: u).length ≤ sizeLine) (rt (("" : Str) :: u))) (fun rows1 => (seS (bd (rt rows1) fun u => bd (bd (bd (bd (rt text) fun a => nd (((" " : Str) == ("  " : Str)) = false ∧ a.length + Str.length ("  " : Str) ≤ 16777216) (rt (repl1 a (" " : Str) ("  " : Str)))) fun u => bd (bd (bd (rt text) fun a => nd (((": " : Str) == (":" : Str)) = false ∧ a.length + (a.length + 1) * Str.length (":" : Str) ≤ 16777216) (rt (Txt.replace a (": " : Str) (":" : Str)))) fun u => bd (bd (bd (rt text) fun a => nd ((("/" : Str) == ("|" : Str)) = false ∧ a.length + (a.length + 1) * Str.length ("|" : Str) ≤ 16777216) (rt (Txt.replace a ("/" : Str) ("|" : Str)))) fun u => bd (bd (bd (rt ("0" : Str)) fun u => bd (rt text) fun v => nd (u.length + v.length ≤ sizeLine) (rt (u ++ v))) fun u => bd (rt []) fun v => rt (u :: v)) fun v => rt (u :: v)) fun v => rt (u :: v)) fun v => rt (u :: v)) fun u => nd (u.length ≤ sizeLine) (rt u)) fun v => nd (u.length + v.length ≤ sizeLine) (rt (u ++ v))) (fun rows2 => (seS (bd (rt rows2) fun u => bd (bd (bd (bd (rt text) fun z => bd (rt none) fun l => bd (bd (bd (rt (1 : Int)) fun u => rt (-u)) fun i => rt (some i)) fun u => nd (z.length ≤ sizeLine) (rt (cutS z l u))) fun u => bd (bd (bd (bd (rt text) fun z => bd (rt none) fun l => bd (bd (bd (rt (1 : Int)) fun u => rt (-u)) fun i => rt (some i)) fun u => nd (z.length ≤ sizeLine) (rt (cutS z l u))) fun u => bd (rt ("x" : Str)) fun v => nd (u.length + v.length ≤ sizeLine) (rt (u ++ v))) fun u => bd (bd (bd (rt ("x" : Str)) fun u => bd (bd (rt text) fun z => bd (bd (rt (1 : Int)) fun i => rt (some i)) fun l => bd (rt none) fun u => nd (z.length ≤ sizeLine) (rt (cutS z l u))) fun v => nd (u.length + v.length ≤ sizeLine) (rt (u ++ v))) fun u => bd (bd (bd (rt ("-" : Str)) fun u => bd (rt text) fun v => nd (u.length + v.length ≤ sizeLine) (rt (u ++ v))) fun u => bd (bd (bd (rt text) fun u => bd (rt ("/" : Str)) fun v => nd (u.length + v.length ≤ sizeLine) (rt (u ++ v))) fun u => bd (bd (bd (rt text) fun a => nd (((": " : Str) == (": 01 " : Str)) = false ∧ a.length + (a.length + 1) * Str.length (": 01 " : Str) ≤ 16777216) (rt (Txt.replace a (": " : Str) (": 01 " : Str)))) fun u => bd (rt []) fun v => rt (u :: v)) fun v => rt (u :: v)) fun v => rt (u :: v)) fun v => rt (u :: v)) fun v => rt (u :: v)) fun v => rt (u :: v)) fun u => nd (u.length ≤ sizeLine) (rt u)) fun v => nd (u.length + v.length ≤ sizeLine) (rt (u ++ v))) (fun rows3 => (reS (bd (rt rows3) fun u => bd (bd (bd (rt ("0: / 1" : Str)) fun u => bd (bd (rt ("0: 1 / 10000" : Str)) fun u => bd (bd (rt ("0: +1 / 1" : Str)) fun u => bd (bd (rt (": 1 / 1" : Str)) fun u => bd (bd (rt ("0:1 / 1" : Str)) fun u => bd (bd (rt ("0: 1 /1" : Str)) fun u => bd (rt ()) fun v => rt (u, v)) fun v => rt (u, v)) fun v => rt (u, v)) fun v => rt (u, v)) fun v => rt (u, v)) fun v => rt (u, v)) fun u => rt [u.1, u.2.1, u.2.2.1, u.2.2.2.1, u.2.2.2.2.1, u.2.2.2.2.2.1]) fun v => nd (u.length + v.length ≤ sizeLine) (rt (u ++ v)))))))))) : SB Unit Unit (List Str)) ⟨fun _ => False, fun _ => False, fun _ => False, Q, E⟩
theorem ok_law_wrong_texts {f : Addr} {fd : FuncData} (F : L2.Fun K "_law_wrong_texts" "_law_wrong_texts" s_law_wrong_texts f fd) (T : Txt K mg) : FnOk P w K mg base (L2.CX P w) 1 f fd P_law_wrong_texts (spF K (tsC tyS tsN) (tyL tyS) (fun qa => d_law_wrong_texts qa.1)) := by
  refine fnV (Γ0 := fun qa => [.rp tyS qa.1, .un]) F sc_law_wrong_texts (fun vs G a h => by obtain ⟨_, _, rfl, _, rfl⟩ := h; rfl) (fun vs G H a h => by
    obtain ⟨v0, r0, rfl, h0, rfl⟩ := h
    exact ⟨v0, _, rfl, h0, ⟨none, _, rfl, ⟨rfl, rfl⟩⟩⟩) (fun cdv A outer s H E hr air tk L dL qa => ?_)
  exact ⟨_, (seS (bd (bd (bd (rt (" " : Str)) fun u => bd (rt qa.1) fun v => nd (u.length + v.length ≤ sizeLine) (rt (u ++ v))) fun u => bd (bd (bd (rt qa.1) fun u => bd (rt (" " : Str)) fun v => nd (u.length + v.length ≤ sizeLine) (rt (u ++ v))) fun u => bd (bd (bd (rt qa.1) fun u => bd (rt ("\n" : Str)) fun v => nd (u.length + v.length ≤ sizeLine) (rt (u ++ v))) fun u => bd (bd (bd (rt qa.1) fun a => nd (((":" : Str) == ("" : Str)) = false ∧ a.length + (a.length + 1) * Str.length ("" : Str) ≤ 16777216) (rt (Txt.replace a (":" : Str) ("" : Str)))) fun u => bd (bd (bd (rt qa.1) fun a => nd (((" /" : Str) == ("" : Str)) = false ∧ a.length + (a.length + 1) * Str.length ("" : Str) ≤ 16777216) (rt (Txt.replace a (" /" : Str) ("" : Str)))) fun u => bd (bd (bd (rt qa.1) fun u => bd (rt (" 1" : Str)) fun v => nd (u.length + v.length ≤ sizeLine) (rt (u ++ v))) fun u => bd (rt []) fun v => rt (u :: v)) fun v => rt (u :: v)) fun v => rt (u :: v)) fun v => rt (u :: v)) fun v => rt (u :: v)) fun v => rt (u :: v)) fun u => nd ((("" : Str) :: u).length ≤ sizeLine) (rt (("" : Str) :: u))) (fun rows1 => (seS (bd (rt rows1) fun u => bd (bd (bd (bd (rt qa.1) fun a => nd (((" " : Str) == ("  " : Str)) = false ∧ a.length + Str.length ("  " : Str) ≤ 16777216) (rt (repl1 a (" " : Str) ("  " : Str)))) fun u => bd (bd (bd (rt qa.1) fun a => nd (((": " : Str) == (":" : Str)) = false ∧ a.length + (a.length + 1) * Str.length (":" : Str) ≤ 16777216) (rt (Txt.replace a (": " : Str) (":" : Str)))) fun u => bd (bd (bd (rt qa.1) fun a => nd ((("/" : Str) == ("|" : Str)) = false ∧ a.length + (a.length + 1) * Str.length ("|" : Str) ≤ 16777216) (rt (Txt.replace a ("/" : Str) ("|" : Str)))) fun u => bd (bd (bd (rt ("0" : Str)) fun u => bd (rt qa.1) fun v => nd (u.length + v.length ≤ sizeLine) (rt (u ++ v))) fun u => bd (rt []) fun v => rt (u :: v)) fun v => rt (u :: v)) fun v => rt (u :: v)) fun v => rt (u :: v)) fun u => nd (u.length ≤ sizeLine) (rt u)) fun v => nd (u.length + v.length ≤ sizeLine) (rt (u ++ v))) (fun rows2 => (seS (bd (rt rows2) fun u => bd (bd (bd (bd (rt qa.1) fun z => bd (rt none) fun l => bd (bd (bd (rt (1 : Int)) fun u => rt (-u)) fun i => rt (some i)) fun u => nd (z.length ≤ sizeLine) (rt (cutS z l u))) fun u => bd (bd (bd (bd (rt qa.1) fun z => bd (rt none) fun l => bd (bd (bd (rt (1 : Int)) fun u => rt (-u)) fun i => rt (some i)) fun u => nd (z.length ≤ sizeLine) (rt (cutS z l u))) fun u => bd (rt ("x" : Str)) fun v => nd (u.length + v.length ≤ sizeLine) (rt (u ++ v))) fun u => bd (bd (bd (rt ("x" : Str)) fun u => bd (bd (rt qa.1) fun z => bd (bd (rt (1 : Int)) fun i => rt (some i)) fun l => bd (rt none) fun u => nd (z.length ≤ sizeLine) (rt (cutS z l u))) fun v => nd (u.length + v.length ≤ sizeLine) (rt (u ++ v))) fun u => bd (bd (bd (rt ("-" : Str)) fun u => bd (rt qa.1) fun v => nd (u.length + v.length ≤ sizeLine) (rt (u ++ v))) fun u => bd (bd (bd (rt qa.1) fun u => bd (rt ("/" : Str)) fun v => nd (u.length + v.length ≤ sizeLine) (rt (u ++ v))) fun u => bd (bd (bd (rt qa.1) fun a => nd (((": " : Str) == (": 01 " : Str)) = false ∧ a.length + (a.length + 1) * Str.length (": 01 " : Str) ≤ 16777216) (rt (Txt.replace a (": " : Str) (": 01 " : Str)))) fun u => bd (rt []) fun v => rt (u :: v)) fun v => rt (u :: v)) fun v => rt (u :: v)) fun v => rt (u :: v)) fun v => rt (u :: v)) fun v => rt (u :: v)) fun u => nd (u.length ≤ sizeLine) (rt u)) fun v => nd (u.length + v.length ≤ sizeLine) (rt (u ++ v))) (fun rows3 => (reS (bd (rt rows3) fun u => bd (bd (bd (rt ("0: / 1" : Str)) fun u => bd (bd (rt ("0: 1 / 10000" : Str)) fun u => bd (bd (rt ("0: +1 / 1" : Str)) fun u => bd (bd (rt (": 1 / 1" : Str)) fun u => bd (bd (rt ("0:1 / 1" : Str)) fun u => bd (bd (rt ("0: 1 /1" : Str)) fun u => bd (rt ()) fun v => rt (u, v)) fun v => rt (u, v)) fun v => rt (u, v)) fun v => rt (u, v)) fun v => rt (u, v)) fun v => rt (u, v)) fun u => rt [u.1, u.2.1, u.2.2.1, u.2.2.2.1, u.2.2.2.2.1, u.2.2.2.2.2.1]) fun v => nd (u.length + v.length ≤ sizeLine) (rt (u ++ v)))))))))), (by exact (s_listK (i := 1) sc_law_wrong_texts.nd rfl (by first | exact Or.inl rfl | exact Or.inr rfl) (dat_cons (det_of (d_op op_add_str (d_con (T := tyS) (u := (" " : Str)) pe_str (fun _ => rfl)) (d_var (pv 0) rfl) (fun u v => o_addS u v))) (dat_cons (det_of (d_op op_add_str (d_var (pv 0) rfl) (d_con (T := tyS) (u := (" " : Str)) pe_str (fun _ => rfl)) (fun u v => o_addS u v))) (dat_cons (det_of (d_op op_add_str (d_var (pv 0) rfl) (d_con (T := tyS) (u := ("\n" : Str)) pe_str (fun _ => rfl)) (fun u v => o_addS u v))) (dat_cons (det_repl (d_var (pv 0) rfl)) (dat_cons (det_repl (d_var (pv 0) rfl)) (dat_cons (det_of (d_op op_add_str (d_var (pv 0) rfl) (d_con (T := tyS) (u := (" 1" : Str)) pe_str (fun _ => rfl)) (fun u v => o_addS u v))) dat_nil)))))) rfl (fun rows1 => (dst_set (i := 1) sc_law_wrong_texts.nd rfl (by first | exact Or.inl rfl | exact Or.inr rfl) (det_cat (d_var (pv 1) rfl) (det_lst (dat_cons (det_repl1 (d_var (pv 0) rfl)) (dat_cons (det_repl (d_var (pv 0) rfl)) (dat_cons (det_repl (d_var (pv 0) rfl)) (dat_cons (det_of (d_op op_add_str (d_con (T := tyS) (u := ("0" : Str)) pe_str (fun _ => rfl)) (d_var (pv 0) rfl) (fun u v => o_addS u v))) dat_nil)))))) rfl (fun rows2 => (dst_set (i := 1) sc_law_wrong_texts.nd rfl (by first | exact Or.inl rfl | exact Or.inr rfl) (det_cat (d_var (pv 1) rfl) (det_lst (dat_cons (det_of (d_sliceS (d_var (pv 0) rfl) po_no (po_so (d_un un_neg (d_con (T := tyI) (u := 1) pe_int (fun _ => rfl)) (fun u => o_U u))))) (dat_cons (det_of (d_op op_add_str (d_sliceS (d_var (pv 0) rfl) po_no (po_so (d_un un_neg (d_con (T := tyI) (u := 1) pe_int (fun _ => rfl)) (fun u => o_U u)))) (d_con (T := tyS) (u := ("x" : Str)) pe_str (fun _ => rfl)) (fun u v => o_addS u v))) (dat_cons (det_of (d_op op_add_str (d_con (T := tyS) (u := ("x" : Str)) pe_str (fun _ => rfl)) (d_sliceS (d_var (pv 0) rfl) (po_so (d_con (T := tyI) (u := 1) pe_int (fun _ => rfl))) po_no) (fun u v => o_addS u v))) (dat_cons (det_of (d_op op_add_str (d_con (T := tyS) (u := ("-" : Str)) pe_str (fun _ => rfl)) (d_var (pv 0) rfl) (fun u v => o_addS u v))) (dat_cons (det_of (d_op op_add_str (d_var (pv 0) rfl) (d_con (T := tyS) (u := ("/" : Str)) pe_str (fun _ => rfl)) (fun u v => o_addS u v))) (dat_cons (det_repl (d_var (pv 0) rfl)) dat_nil)))))))) rfl (fun rows3 => (dst_of (s_ret (d_op (r := rCat) (by exact op_cat) (d_var (pv 1) rfl) (d_new (n_lst (T := tyS) (f := fun u : (Str × Str × Str × Str × Str × Str × Unit) => [u.1, u.2.1, u.2.2.1, u.2.2.2.1, u.2.2.2.2.1, u.2.2.2.2.2.1]) (k := 6) (da_cons (d_con (T := tyS) (u := ("0: / 1" : Str)) pe_str (fun _ => rfl)) (da_cons (d_con (T := tyS) (u := ("0: 1 / 10000" : Str)) pe_str (fun _ => rfl)) (da_cons (d_con (T := tyS) (u := ("0: +1 / 1" : Str)) pe_str (fun _ => rfl)) (da_cons (d_con (T := tyS) (u := (": 1 / 1" : Str)) pe_str (fun _ => rfl)) (da_cons (d_con (T := tyS) (u := ("0:1 / 1" : Str)) pe_str (fun _ => rfl)) (da_cons (d_con (T := tyS) (u := ("0: 1 /1" : Str)) pe_str (fun _ => rfl)) da_nil)))))) (fun xs H u r => ((sm_c (sm_c (sm_c (sm_c (sm_c (sm_c sm0))))))).rep r) (fun xs H u r => ((sm_c (sm_c (sm_c (sm_c (sm_c (sm_c (sm0 (T := tyS))))))))).len r) (by decide))) (fun u v => o_catL u v))))))))))), fun Qa Ea h => (by unfold d_law_wrong_texts at h; exact h)⟩

end
end Wb

set_option synthInstance.maxSize 2000
set_option maxHeartbeats 400000
namespace Wb
open PySem PySem.Spec PyProof.Rows L2 Wx NdefX RZ StX Dn
section
variable {P : Program} {w : World} {K : PySem.W.Frag} {mg : Str → Option Value} {base : Heap}
def dlaw : WP Bool := fun Q E => ((seS (bd (bd (bd (bd (rt (1 : Int)) fun u => bd (bd (bd (rt ()) fun u => bd (bd (rt ()) fun u => bd (bd (rt (4 : Int)) fun u => bd (rt ()) fun v => rt (u, v)) fun v => rt (u, v)) fun v => rt (u, v)) fun a => d_law_draw a.1 a.2.1 a.2.2.1) fun v => rt (u + v)) fun u => bd (rt ()) fun v => rt (u, v)) fun n => nd (-(2 ^ 62) ≤ n.1 ∧ n.1 < 2 ^ 62) (rt (rangeI 0 n.1))) fun as => lcW (fun a2 => bd (noE (rt true)) fun c => if c = true then bd (bd (bd (rt ()) fun u => bd (bd (rt ()) fun u => bd (bd (rt (9 : Int)) fun u => bd (rt ()) fun v => rt (u, v)) fun v => rt (u, v)) fun v => rt (u, v)) fun a => d_law_draw a.1 a.2.1 a.2.2.1) fun b => rt (some b) else rt none) as []) (fun levels1 => (seS (bd (bd (rt ()) fun u => bd (bd (rt ()) fun u => bd (bd (rt (9 : Int)) fun u => bd (rt ()) fun v => rt (u, v)) fun v => rt (u, v)) fun v => rt (u, v)) fun a => d_law_draw a.1 a.2.1 a.2.2.1) (fun tank3 => (seS (bd (bd (rt ()) fun u => bd (bd (rt ()) fun u => bd (bd (rt (4 : Int)) fun u => bd (rt ()) fun v => rt (u, v)) fun v => rt (u, v)) fun v => rt (u, v)) fun a => d_law_draw a.1 a.2.1 a.2.2.1) (fun mood4 => (seS (bd (bd (rt levels1) fun u => bd (bd (rt tank3) fun u => bd (bd (rt mood4) fun u => bd (rt ()) fun v => rt (u, v)) fun v => rt (u, v)) fun v => rt (u, v)) fun a => dStanding___init__ a.1 a.2.1 a.2.2.1) (fun standing5 => (seS (bd (bd (rt levels1) fun u => bd (bd (rt tank3) fun u => bd (bd (rt mood4) fun u => bd (rt ()) fun v => rt (u, v)) fun v => rt (u, v)) fun v => rt (u, v)) fun a => d_law_text a.1 a.2.1 a.2.2.1) (fun text6 => (ifS (bd (bd (bd (rt standing5) fun u => noE (dStanding___str__ u)) fun u => bd (rt text6) fun v => rt (!decide (u = v))) fun c => if c = true then rt true else (bd (bd (bd (rt text6) fun u => bd (rt ()) fun v => rt (u, v)) fun a => d_law_told a.1) fun u => bd (bd (bd (bd (rt ("read" : Str)) fun u => bd (bd (rt standing5) fun u => bd (rt ()) fun v => rt (u, v)) fun v => rt (u, v)) fun u => rt (u.1, u.2.1)) (toWl "read")) fun v => rt (not (decide (u = v))))) (reS (rt false)) (nxS ()) (fun _ : Unit => (foS (bd (bd (rt text6) fun u => bd (rt ()) fun v => rt (u, v)) fun a => d_law_wrong_texts a.1) (fun s7 a8 => (ifS (bd (bd (bd (rt a8) fun u => bd (rt ()) fun v => rt (u, v)) fun a => d_law_told a.1) fun u => bd (bd (bd (bd (rt ("line" : Str)) fun u => bd (bd (rt (1 : Int)) fun u => bd (rt ()) fun v => rt (u, v)) fun v => rt (u, v)) fun u => rt (u.1, u.2.1)) (toWr "read")) fun v => rt (not (decide (u = v)))) (reS (rt false)) (nxS ()) (fun _ : Unit => (nxS ())))) () (fun s7 => (seS (bd (rt (9 : Int)) fun u => bd (bd (bd (rt ()) fun u => bd (bd (rt ()) fun u => bd (bd (rt (9990 : Int)) fun u => bd (rt ()) fun v => rt (u, v)) fun v => rt (u, v)) fun v => rt (u, v)) fun a => d_law_draw a.1 a.2.1 a.2.2.1) fun v => rt (u + v)) (fun far9 => (seS (bd (bd (rt ()) fun u => bd (bd (rt ()) fun u => bd (bd (bd (bd (bd (rt levels1) fun u => rt (id u)) fun u => bd (rt ()) fun v => rt (u, v)) fun u => rt (u.1.length : Int)) fun u => bd (rt ()) fun v => rt (u, v)) fun v => rt (u, v)) fun v => rt (u, v)) fun a => d_law_draw a.1 a.2.1 a.2.2.1) (fun at10 => (seS (bd (bd (bd (rt levels1) fun as => bd (rt none) fun l => bd (bd (rt at10) fun i => rt (some i)) fun u => rt (cutL as l u)) fun u => bd (bd (bd (rt far9) fun u => bd (rt ()) fun v => rt (u, v)) fun u => rt [u.1]) fun v => nd (u.length + v.length ≤ sizeLine) (rt (u ++ v))) fun u => bd (bd (rt levels1) fun as => bd (bd (bd (rt at10) fun u => bd (rt (1 : Int)) fun v => rt (u + v)) fun i => rt (some i)) fun l => bd (rt none) fun u => rt (cutL as l u)) fun v => nd (u.length + v.length ≤ sizeLine) (rt (u ++ v))) (fun high11 => (ifS (bd (bd (bd (bd (bd (rt high11) fun u => bd (bd (rt far9) fun u => bd (bd (rt far9) fun u => bd (rt ()) fun v => rt (u, v)) fun v => rt (u, v)) fun v => rt (u, v)) fun a => d_law_text a.1 a.2.1 a.2.2.1) fun u => bd (rt ()) fun v => rt (u, v)) fun a => d_law_told a.1) fun u => bd (bd (bd (bd (rt ("level" : Str)) fun u => bd (bd (rt far9) fun u => bd (rt ()) fun v => rt (u, v)) fun v => rt (u, v)) fun u => rt (u.1, u.2.1)) (toWr "read")) fun v => rt (not (decide (u = v)))) (reS (rt false)) (nxS ()) (fun _ : Unit => (ifS (bd (bd (bd (bd (bd (rt levels1) fun u => bd (bd (rt far9) fun u => bd (bd (rt (4 : Int)) fun u => bd (rt ()) fun v => rt (u, v)) fun v => rt (u, v)) fun v => rt (u, v)) fun a => d_law_text a.1 a.2.1 a.2.2.1) fun u => bd (rt ()) fun v => rt (u, v)) fun a => d_law_told a.1) fun u => bd (bd (bd (bd (rt ("tank" : Str)) fun u => bd (bd (rt far9) fun u => bd (rt ()) fun v => rt (u, v)) fun v => rt (u, v)) fun u => rt (u.1, u.2.1)) (toWr "read")) fun v => rt (not (decide (u = v)))) (reS (rt false)) (nxS ()) (fun _ : Unit => (ifS (bd (bd (bd (bd (bd (bd (rt levels1) fun u => bd (bd (rt tank3) fun u => bd (bd (bd (rt (4 : Int)) fun u => bd (rt far9) fun v => rt (u + v)) fun u => bd (rt ()) fun v => rt (u, v)) fun v => rt (u, v)) fun v => rt (u, v)) fun a => d_law_text a.1 a.2.1 a.2.2.1) fun u => bd (rt ()) fun v => rt (u, v)) fun a => d_law_told a.1) fun u => bd (bd (bd (bd (rt ("mood" : Str)) fun u => bd (bd (bd (rt (4 : Int)) fun u => bd (rt far9) fun v => rt (u + v)) fun u => bd (rt ()) fun v => rt (u, v)) fun v => rt (u, v)) fun u => rt (u.1, u.2.1)) (toWr "read")) fun v => rt (not (decide (u = v)))) fun c => if c = true then (bd (rt far9) fun u => bd (rt (9990 : Int)) fun v => rt (decide (u < v))) else rt false) (reS (rt false)) (nxS ()) (fun _ : Unit => (reS (bd (bd (bd (bd (bd (bd (bd (rt levels1) fun u => bd (rt (5 : Int)) fun v => nd (-(2 ^ 63) ≤ v ∧ v < 2 ^ 63 ∧ u.length * v.toNat ≤ sizeLine) (rt (List.replicate v.toNat u).flatten)) fun as => bd (rt none) fun l => bd (bd (rt (5 : Int)) fun i => rt (some i)) fun u => rt (cutL as l u)) fun u => bd (bd (rt (9 : Int)) fun u => bd (bd (rt (9 : Int)) fun u => bd (rt ()) fun v => rt (u, v)) fun v => rt (u, v)) fun v => rt (u, v)) fun a => d_law_text a.1 a.2.1 a.2.2.1) fun u => bd (rt ()) fun v => rt (u, v)) fun a => d_law_told a.1) fun u => bd (bd (bd (bd (rt ("plots" : Str)) fun u => bd (bd (rt (5 : Int)) fun u => bd (rt ()) fun v => rt (u, v)) fun v => rt (u, v)) fun u => rt (u.1, u.2.1)) (toWr "read")) fun v => rt (id (decide (u = v))))))))))))))))))))))))))))))) : SB Unit Unit Bool) ⟨fun _ => False, fun _ => False, fun _ => False, Q, E⟩
theorem oklaw {f : Addr} {fd : FuncData} (F : L2.Fun K "law" "law" slaw f fd) (T : Txt K mg) (c_law_start : ∃ (g : Addr) (gd : FuncData), FnOk P w K mg base (L2.CX P w) 1 g gd P_law_start (spStart K) ∧ mg "_law_start" = some (.ref g) ∧ PySem.W.keepIn K (.ref g) = true ∧ Binds K gd P_law_start []) (c_law_draw : FnL P w K mg base "_law_draw" 1 P_law_draw (fun aS s0 => (tsC (tyA aS) (tsC (tyA s0) (tsC tyI tsN)))) tyI (fun a => d_law_draw a.1 a.2.1 a.2.2.1)) (m_Standing : Mk1 P w K mg base "Standing" 6 PStanding___init__ ["levels", "tank", "mood"] (tv_Standing K) tu_Standing (tsC (tyL tyI) (tsC tyI (tsC tyI tsN))) (fun a => dStanding___init__ a.1 a.2.1 a.2.2.1)) (c_law_text : Fn P w K mg base "_law_text" 1 P_law_text (tsC (tyL tyI) (tsC tyI (tsC tyI tsN))) tyS (fun a => d_law_text a.1 a.2.1 a.2.2.1)) (cStanding___str__ : OwC P w K mg base (cl K "Standing") "__str__" 1 (tsC (ty_Standing K) tsN) tyS (fun a => dStanding___str__ a.1)) (c_law_told : Fn P w K mg base "_law_told" 9 P_law_told (tsC tyS tsN) (tyW K "read" (ty_Standing K)) (fun a => d_law_told a.1)) (cStanding___eq__ : OwC P w K mg base (cl K "Standing") "__eq__" 3 (tsC (ty_Standing K) (tsC (ty_Standing K) tsN)) tyB (fun a => dStanding___eq__ a.1 a.2.1)) (c_law_wrong_texts : Fn P w K mg base "_law_wrong_texts" 1 P_law_wrong_texts (tsC tyS tsN) (tyL tyS) (fun a => d_law_wrong_texts a.1)) (hm : dlaw (fun b => b = true) (fun _ => False)) : FnOk P w K mg base (L2.CX P w) 10 f fd Plaw (spLaw K) := by
  obtain ⟨g0, gd0, G0, m0, k0, b0⟩ := c_law_start
  refine fnLaw hm F sclaw rfl (fun cdv A outer s H E hr air tk => ⟨ps_set (i := 1) sclaw.nd rfl (by first | exact Or.inl rfl | exact Or.inr rfl) (pe_callS G0 (hr.mono (by decide)) (by rfl) m0 k0 b0 (fun σ => (air σ).pass) (pa_cons (pv 0) pa_nil)), _, fun H1 aS s0 ns L dL ms lw => ⟨(seS (bd (bd (bd (bd (rt (1 : Int)) fun u => bd (bd (bd (rt ()) fun u => bd (bd (rt ()) fun u => bd (bd (rt (4 : Int)) fun u => bd (rt ()) fun v => rt (u, v)) fun v => rt (u, v)) fun v => rt (u, v)) fun a => d_law_draw a.1 a.2.1 a.2.2.1) fun v => rt (u + v)) fun u => bd (rt ()) fun v => rt (u, v)) fun n => nd (-(2 ^ 62) ≤ n.1 ∧ n.1 < 2 ^ 62) (rt (rangeI 0 n.1))) fun as => lcW (fun a2 => bd (noE (rt true)) fun c => if c = true then bd (bd (bd (rt ()) fun u => bd (bd (rt ()) fun u => bd (bd (rt (9 : Int)) fun u => bd (rt ()) fun v => rt (u, v)) fun v => rt (u, v)) fun v => rt (u, v)) fun a => d_law_draw a.1 a.2.1 a.2.2.1) fun b => rt (some b) else rt none) as []) (fun levels1 => (seS (bd (bd (rt ()) fun u => bd (bd (rt ()) fun u => bd (bd (rt (9 : Int)) fun u => bd (rt ()) fun v => rt (u, v)) fun v => rt (u, v)) fun v => rt (u, v)) fun a => d_law_draw a.1 a.2.1 a.2.2.1) (fun tank3 => (seS (bd (bd (rt ()) fun u => bd (bd (rt ()) fun u => bd (bd (rt (4 : Int)) fun u => bd (rt ()) fun v => rt (u, v)) fun v => rt (u, v)) fun v => rt (u, v)) fun a => d_law_draw a.1 a.2.1 a.2.2.1) (fun mood4 => (seS (bd (bd (rt levels1) fun u => bd (bd (rt tank3) fun u => bd (bd (rt mood4) fun u => bd (rt ()) fun v => rt (u, v)) fun v => rt (u, v)) fun v => rt (u, v)) fun a => dStanding___init__ a.1 a.2.1 a.2.2.1) (fun standing5 => (seS (bd (bd (rt levels1) fun u => bd (bd (rt tank3) fun u => bd (bd (rt mood4) fun u => bd (rt ()) fun v => rt (u, v)) fun v => rt (u, v)) fun v => rt (u, v)) fun a => d_law_text a.1 a.2.1 a.2.2.1) (fun text6 => (ifS (bd (bd (bd (rt standing5) fun u => noE (dStanding___str__ u)) fun u => bd (rt text6) fun v => rt (!decide (u = v))) fun c => if c = true then rt true else (bd (bd (bd (rt text6) fun u => bd (rt ()) fun v => rt (u, v)) fun a => d_law_told a.1) fun u => bd (bd (bd (bd (rt ("read" : Str)) fun u => bd (bd (rt standing5) fun u => bd (rt ()) fun v => rt (u, v)) fun v => rt (u, v)) fun u => rt (u.1, u.2.1)) (toWl "read")) fun v => rt (not (decide (u = v))))) (reS (rt false)) (nxS ()) (fun _ : Unit => (foS (bd (bd (rt text6) fun u => bd (rt ()) fun v => rt (u, v)) fun a => d_law_wrong_texts a.1) (fun s7 a8 => (ifS (bd (bd (bd (rt a8) fun u => bd (rt ()) fun v => rt (u, v)) fun a => d_law_told a.1) fun u => bd (bd (bd (bd (rt ("line" : Str)) fun u => bd (bd (rt (1 : Int)) fun u => bd (rt ()) fun v => rt (u, v)) fun v => rt (u, v)) fun u => rt (u.1, u.2.1)) (toWr "read")) fun v => rt (not (decide (u = v)))) (reS (rt false)) (nxS ()) (fun _ : Unit => (nxS ())))) () (fun s7 => (seS (bd (rt (9 : Int)) fun u => bd (bd (bd (rt ()) fun u => bd (bd (rt ()) fun u => bd (bd (rt (9990 : Int)) fun u => bd (rt ()) fun v => rt (u, v)) fun v => rt (u, v)) fun v => rt (u, v)) fun a => d_law_draw a.1 a.2.1 a.2.2.1) fun v => rt (u + v)) (fun far9 => (seS (bd (bd (rt ()) fun u => bd (bd (rt ()) fun u => bd (bd (bd (bd (bd (rt levels1) fun u => rt (id u)) fun u => bd (rt ()) fun v => rt (u, v)) fun u => rt (u.1.length : Int)) fun u => bd (rt ()) fun v => rt (u, v)) fun v => rt (u, v)) fun v => rt (u, v)) fun a => d_law_draw a.1 a.2.1 a.2.2.1) (fun at10 => (seS (bd (bd (bd (rt levels1) fun as => bd (rt none) fun l => bd (bd (rt at10) fun i => rt (some i)) fun u => rt (cutL as l u)) fun u => bd (bd (bd (rt far9) fun u => bd (rt ()) fun v => rt (u, v)) fun u => rt [u.1]) fun v => nd (u.length + v.length ≤ sizeLine) (rt (u ++ v))) fun u => bd (bd (rt levels1) fun as => bd (bd (bd (rt at10) fun u => bd (rt (1 : Int)) fun v => rt (u + v)) fun i => rt (some i)) fun l => bd (rt none) fun u => rt (cutL as l u)) fun v => nd (u.length + v.length ≤ sizeLine) (rt (u ++ v))) (fun high11 => (ifS (bd (bd (bd (bd (bd (rt high11) fun u => bd (bd (rt far9) fun u => bd (bd (rt far9) fun u => bd (rt ()) fun v => rt (u, v)) fun v => rt (u, v)) fun v => rt (u, v)) fun a => d_law_text a.1 a.2.1 a.2.2.1) fun u => bd (rt ()) fun v => rt (u, v)) fun a => d_law_told a.1) fun u => bd (bd (bd (bd (rt ("level" : Str)) fun u => bd (bd (rt far9) fun u => bd (rt ()) fun v => rt (u, v)) fun v => rt (u, v)) fun u => rt (u.1, u.2.1)) (toWr "read")) fun v => rt (not (decide (u = v)))) (reS (rt false)) (nxS ()) (fun _ : Unit => (ifS (bd (bd (bd (bd (bd (rt levels1) fun u => bd (bd (rt far9) fun u => bd (bd (rt (4 : Int)) fun u => bd (rt ()) fun v => rt (u, v)) fun v => rt (u, v)) fun v => rt (u, v)) fun a => d_law_text a.1 a.2.1 a.2.2.1) fun u => bd (rt ()) fun v => rt (u, v)) fun a => d_law_told a.1) fun u => bd (bd (bd (bd (rt ("tank" : Str)) fun u => bd (bd (rt far9) fun u => bd (rt ()) fun v => rt (u, v)) fun v => rt (u, v)) fun u => rt (u.1, u.2.1)) (toWr "read")) fun v => rt (not (decide (u = v)))) (reS (rt false)) (nxS ()) (fun _ : Unit => (ifS (bd (bd (bd (bd (bd (bd (rt levels1) fun u => bd (bd (rt tank3) fun u => bd (bd (bd (rt (4 : Int)) fun u => bd (rt far9) fun v => rt (u + v)) fun u => bd (rt ()) fun v => rt (u, v)) fun v => rt (u, v)) fun v => rt (u, v)) fun a => d_law_text a.1 a.2.1 a.2.2.1) fun u => bd (rt ()) fun v => rt (u, v)) fun a => d_law_told a.1) fun u => bd (bd (bd (bd (rt ("mood" : Str)) fun u => bd (bd (bd (rt (4 : Int)) fun u => bd (rt far9) fun v => rt (u + v)) fun u => bd (rt ()) fun v => rt (u, v)) fun v => rt (u, v)) fun u => rt (u.1, u.2.1)) (toWr "read")) fun v => rt (not (decide (u = v)))) fun c => if c = true then (bd (rt far9) fun u => bd (rt (9990 : Int)) fun v => rt (decide (u < v))) else rt false) (reS (rt false)) (nxS ()) (fun _ : Unit => (reS (bd (bd (bd (bd (bd (bd (bd (rt levels1) fun u => bd (rt (5 : Int)) fun v => nd (-(2 ^ 63) ≤ v ∧ v < 2 ^ 63 ∧ u.length * v.toNat ≤ sizeLine) (rt (List.replicate v.toNat u).flatten)) fun as => bd (rt none) fun l => bd (bd (rt (5 : Int)) fun i => rt (some i)) fun u => rt (cutL as l u)) fun u => bd (bd (rt (9 : Int)) fun u => bd (bd (rt (9 : Int)) fun u => bd (rt ()) fun v => rt (u, v)) fun v => rt (u, v)) fun v => rt (u, v)) fun a => d_law_text a.1 a.2.1 a.2.2.1) fun u => bd (rt ()) fun v => rt (u, v)) fun a => d_law_told a.1) fun u => bd (bd (bd (bd (rt ("plots" : Str)) fun u => bd (bd (rt (5 : Int)) fun u => bd (rt ()) fun v => rt (u, v)) fun v => rt (u, v)) fun u => rt (u.1, u.2.1)) (toWr "read")) fun v => rt (id (decide (u = v))))))))))))))))))))))))))))))), (by exact (s_setLc (i := 2) air rfl sclaw.nd rfl rfl (sw_true rfl rfl rfl (by decide +kernel)) (lc_mk (T := tyI) (S := tyI) (own := [("k", 11)]) (g := (gName 11)) (K := K) rfl air (i_range1 (by rfl) T.b_range (da_cons (d_op op_add (d_con (T := tyI) (u := 1) pe_int (fun _ => rfl)) (d_callL (K := K) rfl lw c_law_draw (hr.mono (by decide)) (fun σ => (air σ).pass) (da_cons (d_var (pv 0) rfl) (da_cons (d_var (pv 1) rfl) (da_cons (d_con (T := tyI) (u := 4) pe_int (fun _ => rfl)) da_nil)))) (fun u v => o_I0 u v)) da_nil)) (blkOk_by (own := [("k", 11)]) (N := Nlaw) (sc := defScope slaw) (by decide +kernel)) (al_c rfl al_n) (fun _ _ _ _ _ => (pg_name (i := 11) sclaw.nd rfl (by first | exact Or.inl rfl | exact Or.inr rfl))) (gn rfl (by decide)) (fun W hw a2 _ _ _ _ _ => have lw := lw.inn hw; ts_nil) (fun W hw a2 _ _ _ _ _ _ _ air => have lw := lw.inn hw; (d_callL (K := K) rfl lw c_law_draw (hr.mono (by decide)) (fun σ => (air σ).pass) (da_cons (d_var (pv 0) rfl) (da_cons (d_var (pv 1) rfl) (da_cons (d_con (T := tyI) (u := 9) pe_int (fun _ => rfl)) da_nil)))))) rfl (fun levels1 => (s_set (fun h => ps_set (i := 3) sclaw.nd rfl (by first | exact Or.inl rfl | exact Or.inr rfl) h) (d_callL (K := K) rfl lw c_law_draw (hr.mono (by decide)) (fun σ => (air σ).pass) (da_cons (d_var (pv 0) rfl) (da_cons (d_var (pv 1) rfl) (da_cons (d_con (T := tyI) (u := 9) pe_int (fun _ => rfl)) da_nil)))) rfl (fun tank3 => (s_set (fun h => ps_set (i := 4) sclaw.nd rfl (by first | exact Or.inl rfl | exact Or.inr rfl) h) (d_callL (K := K) rfl lw c_law_draw (hr.mono (by decide)) (fun σ => (air σ).pass) (da_cons (d_var (pv 0) rfl) (da_cons (d_var (pv 1) rfl) (da_cons (d_con (T := tyI) (u := 4) pe_int (fun _ => rfl)) da_nil)))) rfl (fun mood4 => (s_set (fun h => ps_set (i := 5) sclaw.nd rfl (by first | exact Or.inl rfl | exact Or.inr rfl) h) (d_make (K := K) rfl m_Standing (hr.mono (by decide)) (fun σ => (air σ).pass) (da_cons (d_var (pv 2) rfl) (da_cons (d_var (pv 3) rfl) (da_cons (d_var (pv 4) rfl) da_nil)))) rfl (fun standing5 => (s_set (fun h => ps_set (i := 6) sclaw.nd rfl (by first | exact Or.inl rfl | exact Or.inr rfl) h) (d_call (K := K) rfl c_law_text (hr.mono (by decide)) (fun σ => (air σ).pass) (da_cons (d_var (pv 2) rfl) (da_cons (d_var (pv 3) rfl) (da_cons (d_var (pv 4) rfl) da_nil)))) rfl (fun text6 => (s_if (Γ1 := fun _ : Unit => [.rp (tyA aS) (), .rp (tyA s0) (), .rp (tyL tyI) levels1, .rp tyI tank3, .rp tyI mood4, .rp (ty_Standing K) standing5, .rp tyS text6, .un, .un, .un, .un, .un]) (w_pt (w_or (t_cmp op_ne (d_strO (K := K) rfl cStanding___str__ (fun v H b h => isC_Standing h) (hr.mono (by decide)) T.b_str (d_var (pv 5) rfl)) (d_var (pv 6) rfl) (fun u v => o_ne eqsS u v) (nomark _)) (w_or1 (t_cmp (op_neR (R := Ty.rep (tyW K "read" (ty_Standing K))) (g := not) (rcW (.inr ⟨rfl, rfl⟩) (n := 3) (eqO (K := K) rfl cStanding___eq__ (fun v H b h => isC_Standing h) eqm_Standing fun_Standing)) (hr.mono (by decide))) (d_call (K := K) rfl c_law_told (hr.mono (by decide)) (fun σ => (air σ).pass) (da_cons (d_var (pv 6) rfl) da_nil)) (d_cast (k := toWl "read") (S := (tyW K "read" (ty_Standing K))) (d_tup (S2 := (tyP K (ts2 tyS (ty_Standing K)))) (f := fun u : (Str × StandingV × Unit) => (u.1, u.2.1)) (k := 2) (da_cons (d_con (T := tyS) (u := ("read" : Str)) pe_str (fun _ => rfl)) (da_cons (d_var (pv 5) rfl) da_nil)) (fun p xs H u h r => dp2 p xs H u h r) (fun xs H u r => lnC2 r) (by decide)) (fun u => of_toWl u)) (fun u v => o_eqT u v) (nomark _))))) (s_ret (d_con (T := tyB) (u := false) pe_bl (fun _ => rfl))) (s_end () (low_eq (low_eq (low_eq (low_eq (low_eq (low_eq (low_eq (low_un (low_un (low_un (low_un (low_un low_nil))))))))))))) (fun _ => (s_for (Γ1 := fun s7 : Unit => [.rp (tyA aS) (), .rp (tyA s0) (), .rp (tyL tyI) levels1, .rp tyI tank3, .rp tyI mood4, .rp (ty_Standing K) standing5, .rp tyS text6, .un, .un, .un, .un, .un]) () (passes_of rfl) rfl (i_list (K := K) rfl (d_call (K := K) rfl c_law_wrong_texts (hr.mono (by decide)) (fun σ => (air σ).pass) (da_cons (d_var (pv 6) rfl) da_nil))) (pg_name (i := 7) sclaw.nd rfl (by first | exact Or.inl rfl | exact Or.inr rfl)) (fun _ => ((gn rfl (by decide)) : DenG' _ [7] _ _ _ _).g) (low_eq (low_eq (low_eq (low_eq (low_eq (low_eq (low_eq (low_un (low_un (low_un (low_un (low_un low_nil)))))))))))) (fun s7 a8 => (s_if (Γ1 := fun _ : Unit => [.rp (tyA aS) (), .rp (tyA s0) (), .rp (tyL tyI) levels1, .rp tyI tank3, .rp tyI mood4, .rp (ty_Standing K) standing5, .rp tyS text6, .rp tyS a8, .un, .un, .un, .un]) (t_cmp (op_neR (R := Ty.rep (tyW K "read" (ty_Standing K))) (g := not) (rcW (.inr ⟨rfl, rfl⟩) (n := 3) (eqO (K := K) rfl cStanding___eq__ (fun v H b h => isC_Standing h) eqm_Standing fun_Standing)) (hr.mono (by decide))) (d_call (K := K) rfl c_law_told (hr.mono (by decide)) (fun σ => (air σ).pass) (da_cons (d_var (pv 7) rfl) da_nil)) (d_cast (k := toWr "read") (S := (tyW K "read" (ty_Standing K))) (d_tup (S2 := (tyP K (ts2 tyS tyI))) (f := fun u : (Str × Int × Unit) => (u.1, u.2.1)) (k := 2) (da_cons (d_con (T := tyS) (u := ("line" : Str)) pe_str (fun _ => rfl)) (da_cons (d_con (T := tyI) (u := 1) pe_int (fun _ => rfl)) da_nil)) (fun p xs H u h r => dp2 p xs H u h r) (fun xs H u r => lnC2 r) (by decide)) (fun u => of_toWr u)) (fun u v => o_eqT u v) (nomark _)) (s_ret (d_con (T := tyB) (u := false) pe_bl (fun _ => rfl))) (s_end () (low_eq (low_eq (low_eq (low_eq (low_eq (low_eq (low_eq (low_eq (low_un (low_un (low_un (low_un low_nil))))))))))))) (fun _ => (s_end () (low_eq (low_eq (low_eq (low_eq (low_eq (low_eq (low_eq (low_un (low_un (low_un (low_un (low_un low_nil)))))))))))))))) (fun s7 => (s_set (fun h => ps_set (i := 8) sclaw.nd rfl (by first | exact Or.inl rfl | exact Or.inr rfl) h) (d_op op_add (d_con (T := tyI) (u := 9) pe_int (fun _ => rfl)) (d_callL (K := K) rfl lw c_law_draw (hr.mono (by decide)) (fun σ => (air σ).pass) (da_cons (d_var (pv 0) rfl) (da_cons (d_var (pv 1) rfl) (da_cons (d_con (T := tyI) (u := 9990) pe_int (fun _ => rfl)) da_nil)))) (fun u v => o_I0 u v)) rfl (fun far9 => (s_set (fun h => ps_set (i := 9) sclaw.nd rfl (by first | exact Or.inl rfl | exact Or.inr rfl) h) (d_callL (K := K) rfl lw c_law_draw (hr.mono (by decide)) (fun σ => (air σ).pass) (da_cons (d_var (pv 0) rfl) (da_cons (d_var (pv 1) rfl) (da_cons (d_cb (pe_callB (id := "len") (r := rLen2 K) (by exact call_len_seq) (by rfl) T.b_len PySem.boot_len) (da_cons (d_as (f := id) (S := (tyQ K tyI)) (d_var (pv 2) rfl) (fun x H u h => qL h)) da_nil) (fun u => b_len u)) da_nil)))) rfl (fun at10 => (s_set (fun h => ps_set (i := 10) sclaw.nd rfl (by first | exact Or.inl rfl | exact Or.inr rfl) h) (d_op (r := rCat) (by exact op_cat) (d_op (r := rCat) (by exact op_cat) (d_new (n_slice (K := K) rfl (d_var (pv 2) rfl) po_no (po_so (d_var (pv 9) rfl)))) (d_new (n_lst (T := tyI) (f := fun u : (Int × Unit) => [u.1]) (k := 1) (da_cons (d_var (pv 8) rfl) da_nil) (fun xs H u r => ((sm_c sm0)).rep r) (fun xs H u r => ((sm_c (sm0 (T := tyI)))).len r) (by decide))) (fun u v => o_catL u v)) (d_new (n_slice (K := K) rfl (d_var (pv 2) rfl) (po_so (d_op op_add (d_var (pv 9) rfl) (d_con (T := tyI) (u := 1) pe_int (fun _ => rfl)) (fun u v => o_I0 u v))) po_no)) (fun u v => o_catL u v)) rfl (fun high11 => (s_if (Γ1 := fun _ : Unit => [.rp (tyA aS) (), .rp (tyA s0) (), .rp (tyL tyI) levels1, .rp tyI tank3, .rp tyI mood4, .rp (ty_Standing K) standing5, .rp tyS text6, .un, .rp tyI far9, .rp tyI at10, .rp (tyL tyI) high11, .un]) (t_cmp (op_neR (R := Ty.rep (tyW K "read" (ty_Standing K))) (g := not) (rcW (.inr ⟨rfl, rfl⟩) (n := 3) (eqO (K := K) rfl cStanding___eq__ (fun v H b h => isC_Standing h) eqm_Standing fun_Standing)) (hr.mono (by decide))) (d_call (K := K) rfl c_law_told (hr.mono (by decide)) (fun σ => (air σ).pass) (da_cons (d_call (K := K) rfl c_law_text (hr.mono (by decide)) (fun σ => (air σ).pass) (da_cons (d_var (pv 10) rfl) (da_cons (d_var (pv 8) rfl) (da_cons (d_var (pv 8) rfl) da_nil)))) da_nil)) (d_cast (k := toWr "read") (S := (tyW K "read" (ty_Standing K))) (d_tup (S2 := (tyP K (ts2 tyS tyI))) (f := fun u : (Str × Int × Unit) => (u.1, u.2.1)) (k := 2) (da_cons (d_con (T := tyS) (u := ("level" : Str)) pe_str (fun _ => rfl)) (da_cons (d_var (pv 8) rfl) da_nil)) (fun p xs H u h r => dp2 p xs H u h r) (fun xs H u r => lnC2 r) (by decide)) (fun u => of_toWr u)) (fun u v => o_eqT u v) (nomark _)) (s_ret (d_con (T := tyB) (u := false) pe_bl (fun _ => rfl))) (s_end () (low_eq (low_eq (low_eq (low_eq (low_eq (low_eq (low_eq (low_un (low_eq (low_eq (low_eq (low_un low_nil))))))))))))) (fun _ => (s_if (Γ1 := fun _ : Unit => [.rp (tyA aS) (), .rp (tyA s0) (), .rp (tyL tyI) levels1, .rp tyI tank3, .rp tyI mood4, .rp (ty_Standing K) standing5, .rp tyS text6, .un, .rp tyI far9, .rp tyI at10, .rp (tyL tyI) high11, .un]) (t_cmp (op_neR (R := Ty.rep (tyW K "read" (ty_Standing K))) (g := not) (rcW (.inr ⟨rfl, rfl⟩) (n := 3) (eqO (K := K) rfl cStanding___eq__ (fun v H b h => isC_Standing h) eqm_Standing fun_Standing)) (hr.mono (by decide))) (d_call (K := K) rfl c_law_told (hr.mono (by decide)) (fun σ => (air σ).pass) (da_cons (d_call (K := K) rfl c_law_text (hr.mono (by decide)) (fun σ => (air σ).pass) (da_cons (d_var (pv 2) rfl) (da_cons (d_var (pv 8) rfl) (da_cons (d_con (T := tyI) (u := 4) pe_int (fun _ => rfl)) da_nil)))) da_nil)) (d_cast (k := toWr "read") (S := (tyW K "read" (ty_Standing K))) (d_tup (S2 := (tyP K (ts2 tyS tyI))) (f := fun u : (Str × Int × Unit) => (u.1, u.2.1)) (k := 2) (da_cons (d_con (T := tyS) (u := ("tank" : Str)) pe_str (fun _ => rfl)) (da_cons (d_var (pv 8) rfl) da_nil)) (fun p xs H u h r => dp2 p xs H u h r) (fun xs H u r => lnC2 r) (by decide)) (fun u => of_toWr u)) (fun u v => o_eqT u v) (nomark _)) (s_ret (d_con (T := tyB) (u := false) pe_bl (fun _ => rfl))) (s_end () (low_eq (low_eq (low_eq (low_eq (low_eq (low_eq (low_eq (low_un (low_eq (low_eq (low_eq (low_un low_nil))))))))))))) (fun _ => (s_if (Γ1 := fun _ : Unit => [.rp (tyA aS) (), .rp (tyA s0) (), .rp (tyL tyI) levels1, .rp tyI tank3, .rp tyI mood4, .rp (ty_Standing K) standing5, .rp tyS text6, .un, .rp tyI far9, .rp tyI at10, .rp (tyL tyI) high11, .un]) (w_pt (w_and (t_cmp (op_neR (R := Ty.rep (tyW K "read" (ty_Standing K))) (g := not) (rcW (.inr ⟨rfl, rfl⟩) (n := 3) (eqO (K := K) rfl cStanding___eq__ (fun v H b h => isC_Standing h) eqm_Standing fun_Standing)) (hr.mono (by decide))) (d_call (K := K) rfl c_law_told (hr.mono (by decide)) (fun σ => (air σ).pass) (da_cons (d_call (K := K) rfl c_law_text (hr.mono (by decide)) (fun σ => (air σ).pass) (da_cons (d_var (pv 2) rfl) (da_cons (d_var (pv 3) rfl) (da_cons (d_op op_add (d_con (T := tyI) (u := 4) pe_int (fun _ => rfl)) (d_var (pv 8) rfl) (fun u v => o_I0 u v)) da_nil)))) da_nil)) (d_cast (k := toWr "read") (S := (tyW K "read" (ty_Standing K))) (d_tup (S2 := (tyP K (ts2 tyS tyI))) (f := fun u : (Str × Int × Unit) => (u.1, u.2.1)) (k := 2) (da_cons (d_con (T := tyS) (u := ("mood" : Str)) pe_str (fun _ => rfl)) (da_cons (d_op op_add (d_con (T := tyI) (u := 4) pe_int (fun _ => rfl)) (d_var (pv 8) rfl) (fun u v => o_I0 u v)) da_nil)) (fun p xs H u h r => dp2 p xs H u h r) (fun xs H u r => lnC2 r) (by decide)) (fun u => of_toWr u)) (fun u v => o_eqT u v) (nomark _)) (w_and1 (t_cmp op_lt (d_var (pv 8) rfl) (d_con (T := tyI) (u := 9990) pe_int (fun _ => rfl)) (fun u v => o_I0b u v) (nomark _))))) (s_ret (d_con (T := tyB) (u := false) pe_bl (fun _ => rfl))) (s_end () (low_eq (low_eq (low_eq (low_eq (low_eq (low_eq (low_eq (low_un (low_eq (low_eq (low_eq (low_un low_nil))))))))))))) (fun _ => (s_ret (d_cmp (op_eqR (R := Ty.rep (tyW K "read" (ty_Standing K))) (g := id) (rcW (.inl ⟨rfl, rfl⟩) (n := 3) (eqO (K := K) rfl cStanding___eq__ (fun v H b h => isC_Standing h) eqm_Standing fun_Standing)) (hr.mono (by decide))) (d_call (K := K) rfl c_law_told (hr.mono (by decide)) (fun σ => (air σ).pass) (da_cons (d_call (K := K) rfl c_law_text (hr.mono (by decide)) (fun σ => (air σ).pass) (da_cons (d_new (n_slice (K := K) rfl (d_op (r := rRep) (by exact op_rep) (d_var (pv 2) rfl) (d_con (T := tyI) (u := 5) pe_int (fun _ => rfl)) (fun u v => o_rep u v)) po_no (po_so (d_con (T := tyI) (u := 5) pe_int (fun _ => rfl))))) (da_cons (d_con (T := tyI) (u := 9) pe_int (fun _ => rfl)) (da_cons (d_con (T := tyI) (u := 9) pe_int (fun _ => rfl)) da_nil)))) da_nil)) (d_cast (k := toWr "read") (S := (tyW K "read" (ty_Standing K))) (d_tup (S2 := (tyP K (ts2 tyS tyI))) (f := fun u : (Str × Int × Unit) => (u.1, u.2.1)) (k := 2) (da_cons (d_con (T := tyS) (u := ("plots" : Str)) pe_str (fun _ => rfl)) (da_cons (d_con (T := tyI) (u := 5) pe_int (fun _ => rfl)) da_nil)) (fun p xs H u h r => dp2 p xs H u h r) (fun xs H u r => lnC2 r) (by decide)) (fun u => of_toWr u)) (fun u v => o_eqT u v) (nomark _)))))))))))))))))))))))))))))), fun Qa Ea h => (by unfold dlaw at h; exact h)⟩⟩)

end
end Wb

set_option maxHeartbeats 400000
namespace Wb
open PySem PySem.Spec PyProof.Rows L2 Wx NdefX RZ StX Dn TL
theorem w_check (z : Str) (n lo hi : Int) {Q : Int → Prop} {E : Ex → Prop} (h0 : lo ≤ n) (h1 : n ≤ hi) (h : Q n) : dcheck_number z (V.int n) lo hi Q E := by
  have a : ¬ n < lo := by omega
  have b : ¬ hi < n := by omega
  unfold dcheck_number
  simp only [ifS, reS, nxS, bd, rt, isW, isI]
  simp [rt, bd, isI, a, b, AE.nxt]
  exact h
/-- .. refused -/
theorem w_check_no (z : Str) (n lo hi : Int) {Q : Int → Prop} {E : Ex → Prop} (hn : n < lo ∨ hi < n) (hz : z.length ≤ 1000) (hs : ShowOk (V.int n)) (h : E (.number z (V.int n))) : dcheck_number z (V.int n) lo hi Q E := by
  unfold dcheck_number
  simp only [ifS, reS, nxS, raS, bd, rt, isW, isI]
  by_cases a : n < lo
  · simp [rt, bd, isI, a, AE.nxt]
    exact ⟨⟨hz, hs⟩, h⟩
  · have b : hi < n := by omega
    simp [rt, bd, isI, a, b, AE.nxt]
    exact ⟨⟨hz, hs⟩, h⟩
theorem w_draw (k : Int) (h0 : 0 < k) (h1 : k < 1152921504606846976) {Q : Int → Prop} {E : Ex → Prop} (h : ∀ z : Int, 0 ≤ z → z < k → Q z) : d_law_draw () () k Q E := ⟨h0, h1, h⟩
theorem tl_strI (n : Nat) : tl (strI (n : Int)) = numL n := tl_num n
def dig (c : Nat) : Bool := decide (48 ≤ c) && decide (c ≤ 57)
/-- the signs of a written number -/
def numB (l : List Nat) : Bool := decide (1 ≤ l.length) && decide (l.length ≤ 4) && l.all dig && (l == [48] || !(l.head? == some 48))
theorem digits_str : tl (Str.ofString "0123456789") = [48, 49, 50, 51, 52, 53, 54, 55, 56, 57] := by decide +kernel
theorem in_dig (c : Nat) : decide (c ∈ tl (Str.ofString "0123456789")) = dig c := by
  rw [digits_str, Bool.eq_iff_iff]
  unfold dig
  simp only [decide_eq_true_eq, Bool.and_eq_true, List.mem_cons, List.not_mem_nil, or_false]
  omega
theorem zero_str : tl (Str.ofString "0") = [48] := by decide +kernel
theorem eq_tl (x y : Str) : decide (x = y) = (tl x == tl y) := by
  rw [Bool.eq_iff_iff]
  simp only [decide_eq_true_eq, beq_iff_eq]
  exact ⟨fun h => by rw [h], fun h => ext_tl h⟩
theorem w_isnum (z : Str) (hz : z.length ≤ 1000) {Q : Bool → Prop} {E : Ex → Prop} (hq : Q (numB (tl z))) : dis_number z Q E := by
  unfold dis_number
  have ez : z.length = (tl z).length := len_tl z
  have hs : z.length ≤ sizeLine := Nat.le_trans hz (by decide)
  unfold numB at hq
  by_cases h1 : 1 ≤ (tl z).length
  · have g1 : decide ((1 : Int) ≤ (z.length : Int)) = true := decide_eq_true (by omega)
    rw [decide_eq_true h1] at hq
    by_cases h4 : (tl z).length ≤ 4
    · have g4 : decide ((z.length : Int) ≤ 4) = true := decide_eq_true (by omega)
      rw [decide_eq_true h4] at hq
      simp only [ifS, reS, nxS, bd, rt, nd, noE, AE.nxt, g1, g4, Bool.not_true, Bool.false_eq_true, if_false, if_true]
      refine ⟨hs, ?_⟩
      refine lc_map (g := fun u : Str => (tl u).all dig) _ [] (fun a m Q E hq => ?_) ?_ ?_
      · obtain ⟨c, mc, rfl⟩ := List.mem_map.mp m
        (try simp only [if_true])
        refine ⟨c, rfl, ?_⟩
        rw [in_dig]
        show Q (some (dig c))
        simpa using hq
      · rw [List.length_nil, List.length_map, Nat.zero_add]
        exact Nat.le_trans (Nat.le_of_eq ez.symm) hs
      · rw [List.nil_append]
        have e : ((z.cps.toList.map fun c => (⟨#[c]⟩ : Str)).map fun u : Str => (tl u).all dig).all id = (tl z).all dig := by
          rw [List.map_map, List.all_map]
          congr 1
          funext c
          simp [Function.comp, tl]
        rw [e]
        cases hd : (tl z).all dig
        · rw [hd] at hq
          simpa using hq
        · rw [hd] at hq
          simp only [Bool.not_true, Bool.false_eq_true, if_false]
          match e : tl z, h1 with
          | c :: r, _ =>
            have ez0 : decide (z = Str.ofString "0") = (tl z == [48]) := by rw [eq_tl, zero_str]
            rw [ez0]
            cases h0 : (tl z == [48])
            · simp only [Bool.false_eq_true, if_false]
              refine ⟨hs, at_nat (k := 0) (x := c) (by show (tl z)[0]? = _; rw [e]; rfl) ?_⟩
              rw [h0, e] at hq
              show Q (!decide ((⟨#[c]⟩ : Str) = Str.ofString "0"))
              rw [eq_tl, zero_str]
              show Q (!(([c] : List Nat) == [48]))
              simpa using hq
            · simp only [if_true]
              rw [h0] at hq
              show Q true
              simpa using hq
    · have g4 : decide ((z.length : Int) ≤ 4) = false := decide_eq_false (by omega)
      rw [decide_eq_false h4] at hq
      simp only [ifS, reS, nxS, bd, rt, nd, noE, AE.nxt, g1, g4, Bool.not_true, Bool.not_false, Bool.false_eq_true, if_false, if_true]
      exact ⟨hs, by simpa using hq⟩
  · have g1 : decide ((1 : Int) ≤ (z.length : Int)) = false := decide_eq_false (by omega)
    rw [decide_eq_false h1] at hq
    simp only [ifS, reS, nxS, bd, rt, nd, noE, AE.nxt, g1, Bool.not_true, Bool.not_false, Bool.false_eq_true, if_false, if_true]
    exact ⟨hs, by simpa using hq⟩
theorem w_arenum (ws : List Str) (hl : ws.length ≤ 1000) (hw : ∀ w ∈ ws, w.length ≤ 1000) (hne : ws ≠ []) {Q : Bool → Prop} {E : Ex → Prop} (hq : Q (ws.all fun w => numB (tl w))) : d_are_numbers ws Q E := by
  unfold d_are_numbers
  have g : decide ((0 : Int) < (ws.length : Int)) = true := decide_eq_true (by have := List.length_pos_iff.mpr hne; omega)
  simp only [reS, bd, rt, nd, noE, id, g, if_true]
  refine lc_map (g := fun w => numB (tl w)) _ [] (fun a m Q E hq => ?_) ?_ ?_
  · (try simp only [if_true])
    exact w_isnum a (hw a m) hq
  · rw [List.length_nil, Nat.zero_add]
    exact Nat.le_trans hl (by decide)
  · rw [List.nil_append]
    have e : (ws.map fun w => numB (tl w)).all id = ws.all fun w => numB (tl w) := by rw [List.all_map]; rfl
    rw [e]
    exact hq
def val (z : Str) : Int := (NumText.digitsVal (tl z) : Nat)
theorem numB_parts {l : List Nat} (h : numB l = true) : l ≠ [] ∧ l.length ≤ 4 ∧ NumText.AllDigits l := by
  unfold numB at h
  simp only [Bool.and_eq_true, decide_eq_true_eq, List.all_eq_true] at h
  refine ⟨fun e => by rw [e] at h; exact absurd h.1.1.1 (by decide), h.1.1.2, fun c m => ?_⟩
  have := h.1.2 c m
  unfold dig at this
  simpa using this
theorem w_readnum (z : Str) (h : numB (tl z) = true) {Q : Int → Prop} {E : Ex → Prop} (hq : Q (val z)) : dread_number z Q E := by
  obtain ⟨hne, h4, hd⟩ := numB_parts h
  have ez : z.length = (tl z).length := len_tl z
  unfold dread_number
  simp only [ifS, reS, nxS, bd, rt, nd, noE, AE.nxt]
  refine w_isnum z (by omega) ?_
  rw [h]
  simp only [Bool.not_true, Bool.false_eq_true, if_false]
  exact ⟨_, intText_digits hd hne (by omega), by omega, hq⟩
theorem numB_num {n : Nat} (h : n < 10000) : numB (numL n) = true := by
  have h4 : (numL n).length ≤ 4 := numL_len (by decide) (by simpa using h)
  have hne := numL_ne n
  have hd : (numL n).all dig = true := List.all_eq_true.mpr fun c m => by
    have := numL_digits n c m
    unfold dig
    simpa using this
  have h0 : (numL n == [48] || !((numL n).head? == some 48)) = true := by
    by_cases z : n < 10
    · rw [numL_lt z]
      by_cases z0 : n = 0
      · simp [z0]
      · have : (48 + n == 48) = false := by simpa using z0
        simp [z0]
    · have key : ∀ n : Nat, 1 ≤ n → (numL n).head? ≠ some 48 := by
        intro n
        induction n using Nat.strongRecOn with
        | _ n ih =>
          intro p
          by_cases z : n < 10
          · rw [numL_lt z]
            simp
            omega
          · rw [numL_step (by omega)]
            have := ih (n / 10) (by omega) (by omega)
            rw [List.head?_append]
            cases e : (numL (n / 10)).head? with
            | none => exact absurd (List.head?_eq_none_iff.mp e) (numL_ne _)
            | some c => rw [e] at this; simpa using this
      have := key n (by omega)
      simp [this]
  unfold numB
  rw [decide_eq_true (show 1 ≤ (numL n).length from List.length_pos_iff.mpr hne), decide_eq_true h4, hd, h0]
  rfl
theorem numB_big {n : Nat} (h : 10000 ≤ n) : numB (numL n) = false := by
  have : ¬ (numL n).length ≤ 4 := fun q => by
    have key : ∀ (k n : Nat), (numL n).length ≤ k → n < 10 ^ k := by
      intro k
      induction k with
      | zero => intro n q; exact absurd (List.length_eq_zero_iff.mp (Nat.le_zero.mp q)) (numL_ne n)
      | succ k ih =>
        intro n q
        by_cases z : n < 10
        · exact Nat.lt_of_lt_of_le z (by rw [Nat.pow_succ]; have : 1 ≤ 10 ^ k := Nat.one_le_pow _ _ (by decide); omega)
        · rw [numL_step (by omega), List.length_append, List.length_singleton] at q
          have := ih (n / 10) (by omega)
          rw [Nat.pow_succ]
          omega
    have := key 4 n q
    omega
  unfold numB
  rw [decide_eq_false this]
  simp
theorem val_strI (n : Nat) : val (strI (n : Int)) = n := by
  unfold val
  rw [tl_strI, numL_val]
end Wb

set_option maxHeartbeats 400000
namespace Wb
open PySem PySem.Spec PyProof.Rows L2 Wx NdefX RZ StX Dn TL
theorem w_init {levels : List Int} {tank mood : Int} (h1 : 1 ≤ levels.length) (h4 : levels.length ≤ 4) (hl : ∀ n, n ∈ levels → 0 ≤ n ∧ n ≤ 8) (t0 : 0 ≤ tank) (t8 : tank ≤ 8) (m0 : 0 ≤ mood) (m3 : mood ≤ 3) {Q : StandingV → Prop} {E : Ex → Prop} (hq : Q ⟨levels, tank, mood⟩) : dStanding___init__ levels tank mood Q E := by
  unfold dStanding___init__
  (repeat (first | with_reducible refine r_rt ?_ | with_reducible refine r_bd ?_ | with_reducible refine r_se ?_ | with_reducible refine r_re ?_ | with_reducible refine r_nx ?_ | with_reducible refine r_if ?_ | with_reducible refine r_i1 ?_ | with_reducible refine r_fo ?_ | with_reducible refine r_ap ?_ | with_reducible refine r_ra ?_ | with_reducible refine r_nd ?_ | with_reducible refine r_noE ?_ | with_reducible refine r_pu ?_ | with_reducible refine r_bk ?_ | with_reducible refine r_ct ?_ | with_reducible refine r_trR ?_ | with_reducible refine r_trE ?_)); (try dsimp only [id])
  refine w_check _ _ _ _ (by omega) (by omega) ?_
  (repeat (first | with_reducible refine r_rt ?_ | with_reducible refine r_bd ?_ | with_reducible refine r_se ?_ | with_reducible refine r_re ?_ | with_reducible refine r_nx ?_ | with_reducible refine r_if ?_ | with_reducible refine r_i1 ?_ | with_reducible refine r_fo ?_ | with_reducible refine r_ap ?_ | with_reducible refine r_ra ?_ | with_reducible refine r_nd ?_ | with_reducible refine r_noE ?_ | with_reducible refine r_pu ?_ | with_reducible refine r_bk ?_ | with_reducible refine r_ct ?_ | with_reducible refine r_trR ?_ | with_reducible refine r_trE ?_)); (try dsimp only [id])
  unfold dcheck_units
  (repeat (first | with_reducible refine r_rt ?_ | with_reducible refine r_bd ?_ | with_reducible refine r_se ?_ | with_reducible refine r_re ?_ | with_reducible refine r_nx ?_ | with_reducible refine r_if ?_ | with_reducible refine r_i1 ?_ | with_reducible refine r_fo ?_ | with_reducible refine r_ap ?_ | with_reducible refine r_ra ?_ | with_reducible refine r_nd ?_ | with_reducible refine r_noE ?_ | with_reducible refine r_pu ?_ | with_reducible refine r_bk ?_ | with_reducible refine r_ct ?_ | with_reducible refine r_trR ?_ | with_reducible refine r_trE ?_)); (try dsimp only [id])
  refine lc_map (g := fun n => n) _ [] (fun a m Q E hq => ?_) (by rw [List.length_nil, Nat.zero_add]; exact Nat.le_trans h4 (by decide)) ?_
  · (repeat (first | with_reducible refine r_rt ?_ | with_reducible refine r_bd ?_ | with_reducible refine r_se ?_ | with_reducible refine r_re ?_ | with_reducible refine r_nx ?_ | with_reducible refine r_if ?_ | with_reducible refine r_i1 ?_ | with_reducible refine r_fo ?_ | with_reducible refine r_ap ?_ | with_reducible refine r_ra ?_ | with_reducible refine r_nd ?_ | with_reducible refine r_noE ?_ | with_reducible refine r_pu ?_ | with_reducible refine r_bk ?_ | with_reducible refine r_ct ?_ | with_reducible refine r_trR ?_ | with_reducible refine r_trE ?_)); (try dsimp only [id])
    rw [if_pos rfl]
    (repeat (first | with_reducible refine r_rt ?_ | with_reducible refine r_bd ?_ | with_reducible refine r_se ?_ | with_reducible refine r_re ?_ | with_reducible refine r_nx ?_ | with_reducible refine r_if ?_ | with_reducible refine r_i1 ?_ | with_reducible refine r_fo ?_ | with_reducible refine r_ap ?_ | with_reducible refine r_ra ?_ | with_reducible refine r_nd ?_ | with_reducible refine r_noE ?_ | with_reducible refine r_pu ?_ | with_reducible refine r_bk ?_ | with_reducible refine r_ct ?_ | with_reducible refine r_trR ?_ | with_reducible refine r_trE ?_)); (try dsimp only [id])
    exact w_check _ _ _ _ (hl a m).1 (hl a m).2 hq
  rw [List.nil_append, List.map_id']
  (repeat (first | with_reducible refine r_rt ?_ | with_reducible refine r_bd ?_ | with_reducible refine r_se ?_ | with_reducible refine r_re ?_ | with_reducible refine r_nx ?_ | with_reducible refine r_if ?_ | with_reducible refine r_i1 ?_ | with_reducible refine r_fo ?_ | with_reducible refine r_ap ?_ | with_reducible refine r_ra ?_ | with_reducible refine r_nd ?_ | with_reducible refine r_noE ?_ | with_reducible refine r_pu ?_ | with_reducible refine r_bk ?_ | with_reducible refine r_ct ?_ | with_reducible refine r_trR ?_ | with_reducible refine r_trE ?_)); (try dsimp only [id])
  refine w_check _ _ _ _ t0 t8 ?_
  (repeat (first | with_reducible refine r_rt ?_ | with_reducible refine r_bd ?_ | with_reducible refine r_se ?_ | with_reducible refine r_re ?_ | with_reducible refine r_nx ?_ | with_reducible refine r_if ?_ | with_reducible refine r_i1 ?_ | with_reducible refine r_fo ?_ | with_reducible refine r_ap ?_ | with_reducible refine r_ra ?_ | with_reducible refine r_nd ?_ | with_reducible refine r_noE ?_ | with_reducible refine r_pu ?_ | with_reducible refine r_bk ?_ | with_reducible refine r_ct ?_ | with_reducible refine r_trR ?_ | with_reducible refine r_trE ?_)); (try dsimp only [id])
  refine w_check _ _ _ _ m0 (by omega) ?_
  (repeat (first | with_reducible refine r_rt ?_ | with_reducible refine r_bd ?_ | with_reducible refine r_se ?_ | with_reducible refine r_re ?_ | with_reducible refine r_nx ?_ | with_reducible refine r_if ?_ | with_reducible refine r_i1 ?_ | with_reducible refine r_fo ?_ | with_reducible refine r_ap ?_ | with_reducible refine r_ra ?_ | with_reducible refine r_nd ?_ | with_reducible refine r_noE ?_ | with_reducible refine r_pu ?_ | with_reducible refine r_bk ?_ | with_reducible refine r_ct ?_ | with_reducible refine r_trR ?_ | with_reducible refine r_trE ?_)); (try dsimp only [id])
  exact hq
theorem ends_colon (a : Str) : Txt.endswith a (Str.ofString ":") = ((tl a).getLast? == some 58) := by
  have e1 : (Str.ofString ":").length = 1 := by decide +kernel
  have e2 : (Str.ofString ":").cps = #[58] := by decide +kernel
  have la : a.length = (tl a).length := len_tl a
  show (decide (0 + (Str.ofString ":").length ≤ a.length) && Builtin.Str.subAt a (Str.ofString ":") (a.length - (Str.ofString ":").length)) = _
  unfold Builtin.Str.subAt
  rw [e1, e2]
  rcases List.eq_nil_or_concat (tl a) with e | ⟨p, c, e⟩
  · rw [e]
    have : a.length = 0 := by rw [la, e]; rfl
    rw [this]
    rfl
  · have e : tl a = p ++ [c] := by simpa using e
    have ln : a.length = p.length + 1 := by rw [la, e, List.length_append]; rfl
    have ex : a.cps.extract (p.length + 1 - 1) (p.length + 1 - 1 + 1) = #[c] := by
      apply Array.ext'
      rw [Array.toList_extract]
      show ((tl a).drop (p.length + 1 - 1)).take _ = _
      rw [e]
      simp
    rw [ln, ex, e, Bool.eq_iff_iff]
    simp
theorem tl_cut1 (a : Str) : tl (cutS a none (some (-1))) = (tl a).dropLast := by
  have la : a.length = (tl a).length := len_tl a
  show ((tl a).drop (HT.sIx a.length 0 none)).take (HT.sIx a.length a.length (some (-1)) - HT.sIx a.length 0 none) = _
  rw [show HT.sIx a.length 0 none = 0 from rfl, show HT.sIx a.length a.length (some (-1)) = a.length - 1 from by
    show (if (-1 : Int) < 0 then (-1 + (a.length : Int)).toNat else min (-1 : Int).toNat a.length) = a.length - 1
    rw [if_pos (by decide)]
    omega, List.drop_zero, Nat.sub_zero, la, List.dropLast_eq_take]
theorem tl_cut2 (a : Str) (h : a.length ≠ 0) : tl (cutS a (some 1) none) = (tl a).drop 1 := by
  have la : a.length = (tl a).length := len_tl a
  show ((tl a).drop (HT.sIx a.length 0 (some 1))).take (HT.sIx a.length a.length none - HT.sIx a.length 0 (some 1)) = _
  rw [show HT.sIx a.length a.length none = a.length from rfl, show HT.sIx a.length 0 (some 1) = 1 from by
    show (if (1 : Int) < 0 then (1 + (a.length : Int)).toNat else min (1 : Int).toNat a.length) = 1
    rw [if_neg (by decide)]
    show min 1 a.length = 1
    omega]
  exact List.take_of_length_le (by rw [List.length_drop, la]; exact Nat.le_refl _)
theorem cut_mid {α : Type} (a y x : α) (mid : List α) : cutL (a :: (mid ++ [y, x])) (some 1) (some (-2)) = mid := by
  have ln : (a :: (mid ++ [y, x])).length = mid.length + 3 := by simp
  unfold cutL
  rw [ln, show HT.sIx (mid.length + 3) (mid.length + 3) (some (-2)) = mid.length + 1 from by
    show (if (-2 : Int) < 0 then (-2 + ((mid.length + 3 : Nat) : Int)).toNat else min (-2 : Int).toNat (mid.length + 3)) = mid.length + 1
    rw [if_pos (by decide)]
    omega, show HT.sIx (mid.length + 3) 0 (some 1) = 1 from by
    show (if (1 : Int) < 0 then (1 + ((mid.length + 3 : Nat) : Int)).toNat else min (1 : Int).toNat (mid.length + 3)) = 1
    rw [if_neg (by decide)]
    show min 1 (mid.length + 3) = 1
    omega]
  simp
theorem at_first {α : Type} (a : α) (r : List α) {Q : α → Prop} {E : Ex → Prop} (h : Q a) : ixW (a :: r) 0 Q E := ⟨a, by unfold atI ixN; simp, h⟩
theorem at_second {α : Type} (a y x : α) (mid : List α) {Q : α → Prop} {E : Ex → Prop} (h : Q y) : ixW (a :: (mid ++ [y, x])) (-2) Q E := ⟨y, by
  have ln : (a :: (mid ++ [y, x])).length = mid.length + 3 := by simp
  unfold atI ixN
  rw [ln, if_neg (by decide), if_pos (by omega)]
  show (a :: (mid ++ [y, x]))[(-2 + ((mid.length + 3 : Nat) : Int)).toNat]? = some y
  rw [show (-2 + ((mid.length + 3 : Nat) : Int)).toNat = mid.length + 1 by omega]
  simp, h⟩
theorem at_end {α : Type} (a y x : α) (mid : List α) {Q : α → Prop} {E : Ex → Prop} (h : Q x) : ixW (a :: (mid ++ [y, x])) (-1) Q E := ⟨x, by
  have ln : (a :: (mid ++ [y, x])).length = mid.length + 3 := by simp
  unfold atI ixN
  rw [ln, if_neg (by decide), if_pos (by omega)]
  show (a :: (mid ++ [y, x]))[(-1 + ((mid.length + 3 : Nat) : Int)).toNat]? = some x
  rw [show (-1 + ((mid.length + 3 : Nat) : Int)).toNat = mid.length + 2 by omega]
  simp, h⟩
theorem one_ok : ShowOk (V.int 1) := .inr (.inl ⟨1, rfl⟩)
theorem slash_str : tl (Str.ofString "/") = [47] := by decide +kernel
theorem blank_len : ((Str.ofString " ").length == 0) = false := by decide +kernel
/-- fewer than four words -/
theorem w_read3 (z : Str) (hz : z.length ≤ 1000) (hl : (Txt.split z (Str.ofString " ")).length < 4) {Q : StandingV → Prop} {E : Ex → Prop} (he : E (.text 1)) : dread_standing z Q E := by
  unfold dread_standing
  (repeat (first | with_reducible refine r_rt ?_ | with_reducible refine r_bd ?_ | with_reducible refine r_se ?_ | with_reducible refine r_re ?_ | with_reducible refine r_nx ?_ | with_reducible refine r_if ?_ | with_reducible refine r_i1 ?_ | with_reducible refine r_fo ?_ | with_reducible refine r_ap ?_ | with_reducible refine r_ra ?_ | with_reducible refine r_nd ?_ | with_reducible refine r_noE ?_ | with_reducible refine r_pu ?_ | with_reducible refine r_bk ?_ | with_reducible refine r_ct ?_ | with_reducible refine r_trR ?_ | with_reducible refine r_trE ?_)); (try dsimp only [id])
  refine ⟨⟨blank_len, Nat.le_trans (Nat.add_le_add_right hz 2) (by decide)⟩, ?_⟩
  (repeat (first | with_reducible refine r_rt ?_ | with_reducible refine r_bd ?_ | with_reducible refine r_se ?_ | with_reducible refine r_re ?_ | with_reducible refine r_nx ?_ | with_reducible refine r_if ?_ | with_reducible refine r_i1 ?_ | with_reducible refine r_fo ?_ | with_reducible refine r_ap ?_ | with_reducible refine r_ra ?_ | with_reducible refine r_nd ?_ | with_reducible refine r_noE ?_ | with_reducible refine r_pu ?_ | with_reducible refine r_bk ?_ | with_reducible refine r_ct ?_ | with_reducible refine r_trR ?_ | with_reducible refine r_trE ?_)); (try dsimp only [id])
  rw [decide_eq_true (show ((Txt.split z (Str.ofString " ")).length : Int) < 4 by omega), if_pos rfl]
  (repeat (first | with_reducible refine r_rt ?_ | with_reducible refine r_bd ?_ | with_reducible refine r_se ?_ | with_reducible refine r_re ?_ | with_reducible refine r_nx ?_ | with_reducible refine r_if ?_ | with_reducible refine r_i1 ?_ | with_reducible refine r_fo ?_ | with_reducible refine r_ap ?_ | with_reducible refine r_ra ?_ | with_reducible refine r_nd ?_ | with_reducible refine r_noE ?_ | with_reducible refine r_pu ?_ | with_reducible refine r_bk ?_ | with_reducible refine r_ct ?_ | with_reducible refine r_trR ?_ | with_reducible refine r_trE ?_)); (try dsimp only [id])
  rw [if_pos rfl]
  (repeat (first | with_reducible refine r_rt ?_ | with_reducible refine r_bd ?_ | with_reducible refine r_se ?_ | with_reducible refine r_re ?_ | with_reducible refine r_nx ?_ | with_reducible refine r_if ?_ | with_reducible refine r_i1 ?_ | with_reducible refine r_fo ?_ | with_reducible refine r_ap ?_ | with_reducible refine r_ra ?_ | with_reducible refine r_nd ?_ | with_reducible refine r_noE ?_ | with_reducible refine r_pu ?_ | with_reducible refine r_bk ?_ | with_reducible refine r_ct ?_ | with_reducible refine r_trR ?_ | with_reducible refine r_trE ?_)); (try dsimp only [id])
  exact ⟨one_ok, he⟩
/-- four words or more -/
theorem w_read4 (z a y x : Str) (mid : List Str) (hz : z.length ≤ 1000) (hw : Txt.split z (Str.ofString " ") = a :: (mid ++ [y, x])) (hm : mid ≠ []) (hs : mid.length ≤ 900) (ha : a.length ≤ 1000) (hx : x.length ≤ 1000) (hp : ∀ p ∈ mid, p.length ≤ 1000) {Q : StandingV → Prop} {E : Ex → Prop}
    (bad : (Txt.endswith a (Str.ofString ":") = false ∨ y ≠ Str.ofString "/" ∨ ((cutS a none (some (-1)) :: (mid ++ [x])).all fun w => numB (tl w)) = false) → E (.text 1))
    (good : Txt.endswith a (Str.ofString ":") = true → y = Str.ofString "/" → ((cutS a none (some (-1)) :: (mid ++ [x])).all fun w => numB (tl w)) = true → dStanding___init__ (mid.map val) (val x) (val (cutS a none (some (-1)))) Q E) : dread_standing z Q E := by
  have ln : (a :: (mid ++ [y, x])).length = mid.length + 3 := by simp
  have m1 : 1 ≤ mid.length := List.length_pos_iff.mpr hm
  have s1 : ShowOk (V.int 1) := one_ok
  unfold dread_standing
  (repeat (first | with_reducible refine r_rt ?_ | with_reducible refine r_bd ?_ | with_reducible refine r_se ?_ | with_reducible refine r_re ?_ | with_reducible refine r_nx ?_ | with_reducible refine r_if ?_ | with_reducible refine r_i1 ?_ | with_reducible refine r_fo ?_ | with_reducible refine r_ap ?_ | with_reducible refine r_ra ?_ | with_reducible refine r_nd ?_ | with_reducible refine r_noE ?_ | with_reducible refine r_pu ?_ | with_reducible refine r_bk ?_ | with_reducible refine r_ct ?_ | with_reducible refine r_trR ?_ | with_reducible refine r_trE ?_)); (try dsimp only [id])
  refine ⟨⟨blank_len, Nat.le_trans (Nat.add_le_add_right hz 2) (by decide)⟩, ?_⟩
  rw [hw]
  (repeat (first | with_reducible refine r_rt ?_ | with_reducible refine r_bd ?_ | with_reducible refine r_se ?_ | with_reducible refine r_re ?_ | with_reducible refine r_nx ?_ | with_reducible refine r_if ?_ | with_reducible refine r_i1 ?_ | with_reducible refine r_fo ?_ | with_reducible refine r_ap ?_ | with_reducible refine r_ra ?_ | with_reducible refine r_nd ?_ | with_reducible refine r_noE ?_ | with_reducible refine r_pu ?_ | with_reducible refine r_bk ?_ | with_reducible refine r_ct ?_ | with_reducible refine r_trR ?_ | with_reducible refine r_trE ?_)); (try dsimp only [id])
  rw [ln, decide_eq_false (show ¬ ((mid.length + 3 : Nat) : Int) < 4 by omega), if_neg (by decide)]
  (repeat (first | with_reducible refine r_rt ?_ | with_reducible refine r_bd ?_ | with_reducible refine r_se ?_ | with_reducible refine r_re ?_ | with_reducible refine r_nx ?_ | with_reducible refine r_if ?_ | with_reducible refine r_i1 ?_ | with_reducible refine r_fo ?_ | with_reducible refine r_ap ?_ | with_reducible refine r_ra ?_ | with_reducible refine r_nd ?_ | with_reducible refine r_noE ?_ | with_reducible refine r_pu ?_ | with_reducible refine r_bk ?_ | with_reducible refine r_ct ?_ | with_reducible refine r_trR ?_ | with_reducible refine r_trE ?_)); (try dsimp only [id])
  refine at_first _ _ ?_
  (repeat (first | with_reducible refine r_rt ?_ | with_reducible refine r_bd ?_ | with_reducible refine r_se ?_ | with_reducible refine r_re ?_ | with_reducible refine r_nx ?_ | with_reducible refine r_if ?_ | with_reducible refine r_i1 ?_ | with_reducible refine r_fo ?_ | with_reducible refine r_ap ?_ | with_reducible refine r_ra ?_ | with_reducible refine r_nd ?_ | with_reducible refine r_noE ?_ | with_reducible refine r_pu ?_ | with_reducible refine r_bk ?_ | with_reducible refine r_ct ?_ | with_reducible refine r_trR ?_ | with_reducible refine r_trE ?_)); (try dsimp only [id])
  cases hc : Txt.endswith a (Str.ofString ":")
  · rw [if_pos (by decide)]
    (repeat (first | with_reducible refine r_rt ?_ | with_reducible refine r_bd ?_ | with_reducible refine r_se ?_ | with_reducible refine r_re ?_ | with_reducible refine r_nx ?_ | with_reducible refine r_if ?_ | with_reducible refine r_i1 ?_ | with_reducible refine r_fo ?_ | with_reducible refine r_ap ?_ | with_reducible refine r_ra ?_ | with_reducible refine r_nd ?_ | with_reducible refine r_noE ?_ | with_reducible refine r_pu ?_ | with_reducible refine r_bk ?_ | with_reducible refine r_ct ?_ | with_reducible refine r_trR ?_ | with_reducible refine r_trE ?_)); (try dsimp only [id])
    rw [if_pos (by decide)]
    (repeat (first | with_reducible refine r_rt ?_ | with_reducible refine r_bd ?_ | with_reducible refine r_se ?_ | with_reducible refine r_re ?_ | with_reducible refine r_nx ?_ | with_reducible refine r_if ?_ | with_reducible refine r_i1 ?_ | with_reducible refine r_fo ?_ | with_reducible refine r_ap ?_ | with_reducible refine r_ra ?_ | with_reducible refine r_nd ?_ | with_reducible refine r_noE ?_ | with_reducible refine r_pu ?_ | with_reducible refine r_bk ?_ | with_reducible refine r_ct ?_ | with_reducible refine r_trR ?_ | with_reducible refine r_trE ?_)); (try dsimp only [id])
    exact ⟨s1, bad (.inl hc)⟩
  rw [if_neg (by decide)]
  (repeat (first | with_reducible refine r_rt ?_ | with_reducible refine r_bd ?_ | with_reducible refine r_se ?_ | with_reducible refine r_re ?_ | with_reducible refine r_nx ?_ | with_reducible refine r_if ?_ | with_reducible refine r_i1 ?_ | with_reducible refine r_fo ?_ | with_reducible refine r_ap ?_ | with_reducible refine r_ra ?_ | with_reducible refine r_nd ?_ | with_reducible refine r_noE ?_ | with_reducible refine r_pu ?_ | with_reducible refine r_bk ?_ | with_reducible refine r_ct ?_ | with_reducible refine r_trR ?_ | with_reducible refine r_trE ?_)); (try dsimp only [id])
  refine at_second _ _ _ _ ?_
  (repeat (first | with_reducible refine r_rt ?_ | with_reducible refine r_bd ?_ | with_reducible refine r_se ?_ | with_reducible refine r_re ?_ | with_reducible refine r_nx ?_ | with_reducible refine r_if ?_ | with_reducible refine r_i1 ?_ | with_reducible refine r_fo ?_ | with_reducible refine r_ap ?_ | with_reducible refine r_ra ?_ | with_reducible refine r_nd ?_ | with_reducible refine r_noE ?_ | with_reducible refine r_pu ?_ | with_reducible refine r_bk ?_ | with_reducible refine r_ct ?_ | with_reducible refine r_trR ?_ | with_reducible refine r_trE ?_)); (try dsimp only [id])
  by_cases hy : ¬ y = Str.ofString "/"
  · rw [decide_eq_false hy, if_pos (by decide)]
    (repeat (first | with_reducible refine r_rt ?_ | with_reducible refine r_bd ?_ | with_reducible refine r_se ?_ | with_reducible refine r_re ?_ | with_reducible refine r_nx ?_ | with_reducible refine r_if ?_ | with_reducible refine r_i1 ?_ | with_reducible refine r_fo ?_ | with_reducible refine r_ap ?_ | with_reducible refine r_ra ?_ | with_reducible refine r_nd ?_ | with_reducible refine r_noE ?_ | with_reducible refine r_pu ?_ | with_reducible refine r_bk ?_ | with_reducible refine r_ct ?_ | with_reducible refine r_trR ?_ | with_reducible refine r_trE ?_)); (try dsimp only [id])
    exact ⟨s1, bad (.inr (.inl hy))⟩
  have hy := Decidable.not_not.mp hy
  rw [decide_eq_true hy, if_neg (by decide)]
  (repeat (first | with_reducible refine r_rt ?_ | with_reducible refine r_bd ?_ | with_reducible refine r_se ?_ | with_reducible refine r_re ?_ | with_reducible refine r_nx ?_ | with_reducible refine r_if ?_ | with_reducible refine r_i1 ?_ | with_reducible refine r_fo ?_ | with_reducible refine r_ap ?_ | with_reducible refine r_ra ?_ | with_reducible refine r_nd ?_ | with_reducible refine r_noE ?_ | with_reducible refine r_pu ?_ | with_reducible refine r_bk ?_ | with_reducible refine r_ct ?_ | with_reducible refine r_trR ?_ | with_reducible refine r_trE ?_)); (try dsimp only [id])
  refine at_first _ _ ?_
  (repeat (first | with_reducible refine r_rt ?_ | with_reducible refine r_bd ?_ | with_reducible refine r_se ?_ | with_reducible refine r_re ?_ | with_reducible refine r_nx ?_ | with_reducible refine r_if ?_ | with_reducible refine r_i1 ?_ | with_reducible refine r_fo ?_ | with_reducible refine r_ap ?_ | with_reducible refine r_ra ?_ | with_reducible refine r_nd ?_ | with_reducible refine r_noE ?_ | with_reducible refine r_pu ?_ | with_reducible refine r_bk ?_ | with_reducible refine r_ct ?_ | with_reducible refine r_trR ?_ | with_reducible refine r_trE ?_)); (try dsimp only [id])
  refine ⟨Nat.le_trans ha (by decide), ?_⟩
  (repeat (first | with_reducible refine r_rt ?_ | with_reducible refine r_bd ?_ | with_reducible refine r_se ?_ | with_reducible refine r_re ?_ | with_reducible refine r_nx ?_ | with_reducible refine r_if ?_ | with_reducible refine r_i1 ?_ | with_reducible refine r_fo ?_ | with_reducible refine r_ap ?_ | with_reducible refine r_ra ?_ | with_reducible refine r_nd ?_ | with_reducible refine r_noE ?_ | with_reducible refine r_pu ?_ | with_reducible refine r_bk ?_ | with_reducible refine r_ct ?_ | with_reducible refine r_trR ?_ | with_reducible refine r_trE ?_)); (try dsimp only [id])
  refine at_end _ _ _ _ ?_
  (repeat (first | with_reducible refine r_rt ?_ | with_reducible refine r_bd ?_ | with_reducible refine r_se ?_ | with_reducible refine r_re ?_ | with_reducible refine r_nx ?_ | with_reducible refine r_if ?_ | with_reducible refine r_i1 ?_ | with_reducible refine r_fo ?_ | with_reducible refine r_ap ?_ | with_reducible refine r_ra ?_ | with_reducible refine r_nd ?_ | with_reducible refine r_noE ?_ | with_reducible refine r_pu ?_ | with_reducible refine r_bk ?_ | with_reducible refine r_ct ?_ | with_reducible refine r_trR ?_ | with_reducible refine r_trE ?_)); (try dsimp only [id])
  rw [show (-(2 : Int)) = -2 from rfl, show (-(1 : Int)) = -1 from rfl, cut_mid]
  refine ⟨by rw [List.length_cons, List.length_append, List.length_singleton]; exact Nat.le_trans (show mid.length + 1 + 1 ≤ 1000 by omega) (by decide), ?_⟩
  (repeat (first | with_reducible refine r_rt ?_ | with_reducible refine r_bd ?_ | with_reducible refine r_se ?_ | with_reducible refine r_re ?_ | with_reducible refine r_nx ?_ | with_reducible refine r_if ?_ | with_reducible refine r_i1 ?_ | with_reducible refine r_fo ?_ | with_reducible refine r_ap ?_ | with_reducible refine r_ra ?_ | with_reducible refine r_nd ?_ | with_reducible refine r_noE ?_ | with_reducible refine r_pu ?_ | with_reducible refine r_bk ?_ | with_reducible refine r_ct ?_ | with_reducible refine r_trR ?_ | with_reducible refine r_trE ?_)); (try dsimp only [id])
  have hall : ∀ w ∈ cutS a none (some (-1)) :: (mid ++ [x]), w.length ≤ 1000 := fun w m => by
    rcases List.mem_cons.mp m with e | m
    · rw [e]; exact Nat.le_trans (cutS_length a _ _) ha
    · rcases List.mem_append.mp m with m | m
      · exact hp w m
      · rw [List.mem_singleton.mp m]; exact hx
  refine w_arenum _ (by rw [List.length_cons, List.length_append, List.length_singleton]; omega) hall (by simp) ?_
  cases hn : (cutS a none (some (-1)) :: (mid ++ [x])).all fun w => numB (tl w)
  · (repeat (first | with_reducible refine r_rt ?_ | with_reducible refine r_bd ?_ | with_reducible refine r_se ?_ | with_reducible refine r_re ?_ | with_reducible refine r_nx ?_ | with_reducible refine r_if ?_ | with_reducible refine r_i1 ?_ | with_reducible refine r_fo ?_ | with_reducible refine r_ap ?_ | with_reducible refine r_ra ?_ | with_reducible refine r_nd ?_ | with_reducible refine r_noE ?_ | with_reducible refine r_pu ?_ | with_reducible refine r_bk ?_ | with_reducible refine r_ct ?_ | with_reducible refine r_trR ?_ | with_reducible refine r_trE ?_)); (try dsimp only [id])
    rw [if_pos (by decide)]
    (repeat (first | with_reducible refine r_rt ?_ | with_reducible refine r_bd ?_ | with_reducible refine r_se ?_ | with_reducible refine r_re ?_ | with_reducible refine r_nx ?_ | with_reducible refine r_if ?_ | with_reducible refine r_i1 ?_ | with_reducible refine r_fo ?_ | with_reducible refine r_ap ?_ | with_reducible refine r_ra ?_ | with_reducible refine r_nd ?_ | with_reducible refine r_noE ?_ | with_reducible refine r_pu ?_ | with_reducible refine r_bk ?_ | with_reducible refine r_ct ?_ | with_reducible refine r_trR ?_ | with_reducible refine r_trE ?_)); (try dsimp only [id])
    exact ⟨s1, bad (.inr (.inr hn))⟩
  (repeat (first | with_reducible refine r_rt ?_ | with_reducible refine r_bd ?_ | with_reducible refine r_se ?_ | with_reducible refine r_re ?_ | with_reducible refine r_nx ?_ | with_reducible refine r_if ?_ | with_reducible refine r_i1 ?_ | with_reducible refine r_fo ?_ | with_reducible refine r_ap ?_ | with_reducible refine r_ra ?_ | with_reducible refine r_nd ?_ | with_reducible refine r_noE ?_ | with_reducible refine r_pu ?_ | with_reducible refine r_bk ?_ | with_reducible refine r_ct ?_ | with_reducible refine r_trR ?_ | with_reducible refine r_trE ?_)); (try dsimp only [id])
  rw [if_neg (by decide)]
  (repeat (first | with_reducible refine r_rt ?_ | with_reducible refine r_bd ?_ | with_reducible refine r_se ?_ | with_reducible refine r_re ?_ | with_reducible refine r_nx ?_ | with_reducible refine r_if ?_ | with_reducible refine r_i1 ?_ | with_reducible refine r_fo ?_ | with_reducible refine r_ap ?_ | with_reducible refine r_ra ?_ | with_reducible refine r_nd ?_ | with_reducible refine r_noE ?_ | with_reducible refine r_pu ?_ | with_reducible refine r_bk ?_ | with_reducible refine r_ct ?_ | with_reducible refine r_trR ?_ | with_reducible refine r_trE ?_)); (try dsimp only [id])
  unfold stS
  (repeat (first | with_reducible refine r_rt ?_ | with_reducible refine r_bd ?_ | with_reducible refine r_se ?_ | with_reducible refine r_re ?_ | with_reducible refine r_nx ?_ | with_reducible refine r_if ?_ | with_reducible refine r_i1 ?_ | with_reducible refine r_fo ?_ | with_reducible refine r_ap ?_ | with_reducible refine r_ra ?_ | with_reducible refine r_nd ?_ | with_reducible refine r_noE ?_ | with_reducible refine r_pu ?_ | with_reducible refine r_bk ?_ | with_reducible refine r_ct ?_ | with_reducible refine r_trR ?_ | with_reducible refine r_trE ?_)); (try dsimp only [id])
  refine lc_map (g := val) _ [] (fun w m Q E hq => ?_) (by rw [List.length_nil, Nat.zero_add, List.length_cons, List.length_append, List.length_singleton]; exact Nat.le_trans (show mid.length + 1 + 1 ≤ 1000 by omega) (by decide)) ?_
  · (repeat (first | with_reducible refine r_rt ?_ | with_reducible refine r_bd ?_ | with_reducible refine r_se ?_ | with_reducible refine r_re ?_ | with_reducible refine r_nx ?_ | with_reducible refine r_if ?_ | with_reducible refine r_i1 ?_ | with_reducible refine r_fo ?_ | with_reducible refine r_ap ?_ | with_reducible refine r_ra ?_ | with_reducible refine r_nd ?_ | with_reducible refine r_noE ?_ | with_reducible refine r_pu ?_ | with_reducible refine r_bk ?_ | with_reducible refine r_ct ?_ | with_reducible refine r_trR ?_ | with_reducible refine r_trE ?_)); (try dsimp only [id])
    rw [if_pos rfl]
    (repeat (first | with_reducible refine r_rt ?_ | with_reducible refine r_bd ?_ | with_reducible refine r_se ?_ | with_reducible refine r_re ?_ | with_reducible refine r_nx ?_ | with_reducible refine r_if ?_ | with_reducible refine r_i1 ?_ | with_reducible refine r_fo ?_ | with_reducible refine r_ap ?_ | with_reducible refine r_ra ?_ | with_reducible refine r_nd ?_ | with_reducible refine r_noE ?_ | with_reducible refine r_pu ?_ | with_reducible refine r_bk ?_ | with_reducible refine r_ct ?_ | with_reducible refine r_trR ?_ | with_reducible refine r_trE ?_)); (try dsimp only [id])
    exact w_readnum w (List.all_eq_true.mp hn w m) hq
  rw [List.nil_append]
  refine ⟨val (cutS a none (some (-1))), mid.map val, val x, by rw [List.map_cons, List.map_append]; rfl, ?_⟩
  (repeat (first | with_reducible refine r_rt ?_ | with_reducible refine r_bd ?_ | with_reducible refine r_se ?_ | with_reducible refine r_re ?_ | with_reducible refine r_nx ?_ | with_reducible refine r_if ?_ | with_reducible refine r_i1 ?_ | with_reducible refine r_fo ?_ | with_reducible refine r_ap ?_ | with_reducible refine r_ra ?_ | with_reducible refine r_nd ?_ | with_reducible refine r_noE ?_ | with_reducible refine r_pu ?_ | with_reducible refine r_bk ?_ | with_reducible refine r_ct ?_ | with_reducible refine r_trR ?_ | with_reducible refine r_trE ?_)); (try dsimp only [id])
  exact good hc hy hn
end Wb

set_option maxHeartbeats 400000
namespace Wb
open PySem PySem.Spec PyProof.Rows L2 Wx NdefX RZ StX Dn TL
/-- cut at each blank -/
def sp : List Nat → List (List Nat)
  | [] => [[]]
  | c :: r => if c = 32 then [] :: sp r else match sp r with
    | [] => [[c]]
    | w :: ws => (c :: w) :: ws
theorem sp_ne (l : List Nat) : sp l ≠ [] := by
  cases l with
  | nil => simp [sp]
  | cons c r =>
    unfold sp
    split
    · simp
    · split <;> simp
theorem spl_sp : ∀ (l acc : List Nat), spl [32] 0 acc l = match sp l with
    | [] => [acc]
    | w :: ws => (acc ++ w) :: ws
  | [], acc => by
    rw [spl_nil]
    simp [sp]
  | c :: r, acc => by
    by_cases h : c = 32
    · subst h
      rw [spl_hit (by simp [pre])]
      have ih := spl_sp r []
      show acc :: spl [32] 0 [] r = _
      rw [ih]
      have : sp (32 :: r) = [] :: sp r := by simp [sp]
      rw [this]
      match e : sp r with
      | [] => exact absurd e (sp_ne r)
      | w :: ws => simp
    · rw [spl_miss (pre_of_head _ _ h), spl_sp r (acc ++ [c])]
      match e : sp r with
      | [] => exact absurd e (sp_ne r)
      | w :: ws =>
        have : sp (c :: r) = (c :: w) :: ws := by
          rw [sp, if_neg h, e]
        rw [this]
        simp
theorem blank_str : tl (Str.ofString " ") = [32] := by decide +kernel
theorem split_sp (z : Str) : (Txt.split z (Str.ofString " ")).map tl = sp (tl z) := by
  rw [split_spl z _ (by rw [blank_str]; simp) (kind_ok (by decide +kernel)), blank_str, spl_sp]
  match e : sp (tl z) with
  | [] => exact absurd e (sp_ne _)
  | w :: ws => simp
theorem sp_len : ∀ l : List Nat, (sp l).length ≤ l.length + 1 ∧ ∀ w ∈ sp l, w.length ≤ l.length
  | [] => ⟨by simp [sp], fun w m => by simp [sp] at m; rw [m]; exact Nat.le_refl _⟩
  | c :: r => by
    obtain ⟨h1, h2⟩ := sp_len r
    by_cases h : c = 32
    · have : sp (c :: r) = [] :: sp r := by rw [sp, if_pos h]
      rw [this, List.length_cons, List.length_cons]
      refine ⟨by omega, fun w m => ?_⟩
      rcases List.mem_cons.mp m with e | m
      · rw [e]; exact Nat.zero_le _
      · exact Nat.le_succ_of_le (h2 w m)
    · match e : sp r with
      | [] => exact absurd e (sp_ne r)
      | w :: ws =>
        have : sp (c :: r) = (c :: w) :: ws := by rw [sp, if_neg h, e]
        rw [this, List.length_cons, List.length_cons]
        rw [e, List.length_cons] at h1
        refine ⟨by omega, fun v m => ?_⟩
        rcases List.mem_cons.mp m with q | m
        · rw [q, List.length_cons]
          exact Nat.succ_le_succ (h2 w (by rw [e]; exact List.mem_cons_self))
        · exact Nat.le_succ_of_le (h2 v (by rw [e]; exact List.mem_cons_of_mem _ m))
/-- the words are no standing's -/
def badW : List (List Nat) → Bool
  | [] => true
  | A :: R => decide (R.length < 3) || !(A.getLast? == some 58) || !(R.dropLast.getLast? == some [47]) || !((A.dropLast :: (R.dropLast.dropLast ++ [R.getLastD []])).all numB)
theorem four {α : Type} (w : List α) (h : 4 ≤ w.length) : ∃ a mid y x, w = a :: (mid ++ [y, x]) ∧ mid ≠ [] := by
  match w with
  | a :: r =>
    rw [List.length_cons] at h
    rcases List.eq_nil_or_concat r with e | ⟨p, x, e⟩
    · rw [e] at h; exact absurd h (by simp)
    · rcases List.eq_nil_or_concat p with e2 | ⟨q, y, e2⟩
      · rw [e, e2] at h; exact absurd h (by simp)
      · refine ⟨a, q, y, x, by rw [e, e2]; simp, fun e3 => ?_⟩
        rw [e, e2, e3] at h
        exact absurd h (by simp)
theorem all_parts (a : Str) (mid : List Str) (x : Str) : ((cutS a none (some (-1)) :: (mid ++ [x])).all fun w => numB (tl w)) = ((tl a).dropLast :: (mid.map tl ++ [tl x])).all numB := by
  rw [List.all_cons, List.all_cons, tl_cut1, List.all_append, List.all_append, List.all_map]
  rfl
theorem w_read_bad (z : Str) (hz : (tl z).length ≤ 900) (hb : badW (sp (tl z)) = true) {Q : StandingV → Prop} {E : Ex → Prop} (he : E (.text 1)) : dread_standing z Q E := by
  have hs := split_sp z
  have lz : z.length = (tl z).length := len_tl z
  obtain ⟨ln, lw⟩ := sp_len (tl z)
  rw [← hs] at hb ln lw
  rw [List.length_map] at ln
  by_cases h4 : (Txt.split z (Str.ofString " ")).length < 4
  · exact w_read3 z (by omega) h4 he
  obtain ⟨a, mid, y, x, e, hm⟩ := four _ (by omega : 4 ≤ (Txt.split z (Str.ofString " ")).length)
  rw [e] at hb ln lw
  have bound : ∀ w : Str, w ∈ a :: (mid ++ [y, x]) → w.length ≤ 1000 := fun w m => by
    have := lw (tl w) (List.mem_map_of_mem m)
    rw [len_tl w]
    omega
  have ls : mid.length ≤ 900 := by
    have l2 : (a :: (mid ++ [y, x])).length = mid.length + 3 := by simp
    omega
  refine w_read4 z a y x mid (by omega) e hm ls (bound a List.mem_cons_self) (bound x (by simp)) (fun p m => bound p (by simp [m])) (fun _ => he) fun g1 g2 g3 => ?_
  rw [ends_colon] at g1
  rw [all_parts] at g3
  have e2 : (mid ++ [y, x]).map tl = mid.map tl ++ [[47], tl x] := by rw [g2, List.map_append, List.map_cons, List.map_cons, List.map_nil, slash_str]
  rw [List.map_cons, e2] at hb
  have d1 : (mid.map tl ++ [[47], tl x]).dropLast = mid.map tl ++ [[47]] := by
    rw [show mid.map tl ++ [[47], tl x] = (mid.map tl ++ [[47]]) ++ [tl x] by simp, List.dropLast_concat]
  have d2 : (mid.map tl ++ [[47], tl x]).getLastD [] = tl x := by
    rw [show mid.map tl ++ [[47], tl x] = (mid.map tl ++ [[47]]) ++ [tl x] by simp, List.getLastD_eq_getLast?, List.getLast?_concat]
    rfl
  have hl : ¬ (mid.map tl ++ [[47], tl x]).length < 3 := by
    have := List.length_pos_iff.mpr hm
    simp
    omega
  have hb : (decide ((mid.map tl ++ [[47], tl x]).length < 3) || !((tl a).getLast? == some 58) || !((mid.map tl ++ [[47], tl x]).dropLast.getLast? == some [47]) || !(((tl a).dropLast :: ((mid.map tl ++ [[47], tl x]).dropLast.dropLast ++ [(mid.map tl ++ [[47], tl x]).getLastD []])).all numB)) = true := hb
  rw [d1, d2, List.dropLast_concat, List.getLast?_concat, decide_eq_false hl, g1, g3] at hb
  exact absurd hb (by decide)
theorem w_read_ok (z : Str) (hz : (tl z).length ≤ 900) {M T : List Nat} {L : List (List Nat)} (hw : sp (tl z) = (M ++ [58]) :: (L ++ [[47], T])) (hL : L ≠ []) (nM : numB M = true) (nT : numB T = true) (nL : ∀ l ∈ L, numB l = true) {Q : StandingV → Prop} {E : Ex → Prop}
    (hq : dStanding___init__ (L.map fun l => ((NumText.digitsVal l : Nat) : Int)) ((NumText.digitsVal T : Nat) : Int) ((NumText.digitsVal M : Nat) : Int) Q E) : dread_standing z Q E := by
  have hs := split_sp z
  have lz : z.length = (tl z).length := len_tl z
  obtain ⟨ln, lw⟩ := sp_len (tl z)
  rw [← hs] at ln lw
  rw [hw] at hs
  rw [List.length_map] at ln
  obtain ⟨a, rest, e, ea, er⟩ := List.map_eq_cons_iff.mp hs
  obtain ⟨mid, r2, e2, em, er2⟩ := List.map_eq_append_iff.mp er
  obtain ⟨y, r3, e3, ey, er3⟩ := List.map_eq_cons_iff.mp er2
  obtain ⟨x, r4, e4, ex, er4⟩ := List.map_eq_cons_iff.mp er3
  have e5 := List.map_eq_nil_iff.mp er4
  subst e5 e4 e3 e2
  rw [e] at ln lw
  have bound : ∀ w : Str, w ∈ a :: (mid ++ [y, x]) → w.length ≤ 1000 := fun w m => by
    have := lw (tl w) (List.mem_map_of_mem m)
    rw [len_tl w]
    omega
  have ls : mid.length ≤ 900 := by
    have l2 : (a :: (mid ++ [y, x])).length = mid.length + 3 := by simp
    omega
  have hm : mid ≠ [] := fun q => hL (by rw [← em, q]; rfl)
  have hy : y = Str.ofString "/" := ext_tl (by rw [ey, slash_str])
  have hc : Txt.endswith a (Str.ofString ":") = true := by rw [ends_colon, ea, List.getLast?_concat]; rfl
  have hn : ((cutS a none (some (-1)) :: (mid ++ [x])).all fun w => numB (tl w)) = true := by
    rw [all_parts, ea, List.dropLast_concat, em, ex]
    refine List.all_eq_true.mpr fun l m => ?_
    rcases List.mem_cons.mp m with q | m
    · rw [q]; exact nM
    · rcases List.mem_append.mp m with m | m
      · exact nL l m
      · rw [List.mem_singleton.mp m]; exact nT
  refine w_read4 z a y x mid (by omega) e hm ls (bound a List.mem_cons_self) (bound x (by simp)) (fun p m => bound p (by simp [m])) (fun g => ?_) fun _ _ _ => ?_
  · rcases g with g | g | g
    · rw [hc] at g; cases g
    · exact absurd hy g
    · rw [hn] at g; cases g
  · have v1 : mid.map val = L.map fun l => ((NumText.digitsVal l : Nat) : Int) := by
      rw [← em, List.map_map]
      rfl
    have v2 : val x = ((NumText.digitsVal T : Nat) : Int) := by unfold val; rw [ex]
    have v3 : val (cutS a none (some (-1))) = ((NumText.digitsVal M : Nat) : Int) := by unfold val; rw [tl_cut1, ea, List.dropLast_concat]
    rw [v1, v2, v3]
    exact hq
/-- what a text's reading tells -/
theorem w_told (z : Str) {Q : StandingV ⊕ (Str × Int) → Prop} {E : Ex → Prop} (h : dread_standing z (fun s => Q (.inl s)) fun e => (∃ n, e = .text n ∧ Q (.inr (Str.ofString "line", n))) ∨ ∃ w n, e = .number w (V.int n) ∧ w ≠ Str.ofString "read" ∧ Q (.inr (w, n))) : d_law_told z Q E := by
  unfold d_law_told
  (repeat (first | with_reducible refine r_rt ?_ | with_reducible refine r_bd ?_ | with_reducible refine r_se ?_ | with_reducible refine r_re ?_ | with_reducible refine r_nx ?_ | with_reducible refine r_if ?_ | with_reducible refine r_i1 ?_ | with_reducible refine r_fo ?_ | with_reducible refine r_ap ?_ | with_reducible refine r_ra ?_ | with_reducible refine r_nd ?_ | with_reducible refine r_noE ?_ | with_reducible refine r_pu ?_ | with_reducible refine r_bk ?_ | with_reducible refine r_ct ?_ | with_reducible refine r_trR ?_ | with_reducible refine r_trE ?_)); (try dsimp only [id])
  have mono : ∀ {P P' : StandingV → Prop} {F F' : Ex → Prop}, dread_standing z P F → P = P' → F = F' → dread_standing z P' F' := fun h e1 e2 => by rw [← e1, ← e2]; exact h
  refine mono h (funext fun s => ?_) (funext fun e => ?_)
  · exact propext ⟨fun q => ⟨rfl, q⟩, fun q => q.2⟩
  · refine propext ⟨?_, ?_⟩
    · rintro (⟨n, e, q⟩ | ⟨w, n, e, hw, q⟩)
      · exact .inl ⟨n, e, show Str.ofString "line" ≠ Str.ofString "read" by decide +kernel, q⟩
      · exact .inr (.inl ⟨(w, n), e, hw, q⟩)
    · rintro (⟨n, e, q⟩ | ⟨p, e, q⟩ | q)
      · exact .inl ⟨n, e, q.2⟩
      · exact .inr ⟨p.1, p.2, e, q.1, q.2⟩
      · exact q.elim
end Wb

set_option maxHeartbeats 400000
namespace Wb
open PySem PySem.Spec PyProof.Rows L2 Wx NdefX RZ StX Dn TL
theorem log_small {n : Nat} (h : n < 100000) : ((n : Int)).natAbs.log2 < 1920 := by
  show n.log2 < 1920
  by_cases z : n = 0
  · rw [z]; decide
  · have p : (2 : Nat) ^ 17 ≤ 2 ^ 1920 := Nat.pow_le_pow_right (by decide) (by decide)
    exact (Nat.log2_lt z).mpr (Nat.lt_of_lt_of_le (show n < 2 ^ 17 by omega) p)
/-- numbers as the program has them -/
def nats (ls : List Nat) : List Int := ls.map fun n : Nat => (n : Int)
theorem len_strI {n : Nat} (h : n < 100000) : (strI (n : Int)).length ≤ 5 := by
  rw [len_tl, tl_strI]
  exact numL_len (by decide) (by simpa using h)
theorem len_app (x y : Str) : (x ++ y).length = x.length + y.length := by rw [len_tl, tl_append, List.length_append, ← len_tl, ← len_tl]
theorem sum_five : ∀ ys : List Str, (∀ y ∈ ys, y.length ≤ 8) → (ys.map (·.length)).sum ≤ 8 * ys.length
  | [], _ => Nat.zero_le _
  | y :: ys, h => by
    have h1 := h y List.mem_cons_self
    have h2 := sum_five ys fun z m => h z (List.mem_cons_of_mem _ m)
    rw [List.map_cons, List.sum_cons, List.length_cons]
    omega
/-- the signs of a standing's text -/
def parts (m : Nat) (ls : List Nat) (t : Nat) : List (List Nat) := (numL m ++ [58]) :: (ls.map numL ++ [[47], numL t])
def TX (m : Nat) (ls : List Nat) (t : Nat) : List Nat := joinL [32] (parts m ls t)
theorem joinL_cons (S p : List Nat) {ps : List (List Nat)} (h : ps ≠ []) : joinL S (p :: ps) = p ++ (S ++ joinL S ps) := by
  match ps, h with
  | q :: r, _ => rfl
theorem joinL_app (S : List Nat) : ∀ (ps qs : List (List Nat)), ps ≠ [] → qs ≠ [] → joinL S (ps ++ qs) = joinL S ps ++ (S ++ joinL S qs)
  | [], _, h, _ => absurd rfl h
  | [p], qs, _, h => joinL_cons S p h
  | p :: q :: r, qs, _, h => by
    have ih := joinL_app S (q :: r) qs (by simp) h
    rw [List.cons_append, joinL_cons S p (by simp), joinL_cons S p (by simp), ih]
    simp
theorem TX_eq (m : Nat) {ls : List Nat} (t : Nat) (h : ls ≠ []) : TX m ls t = numL m ++ ([58, 32] ++ (joinL [32] (ls.map numL) ++ ([32, 47, 32] ++ numL t))) := by
  unfold TX parts
  rw [joinL_cons _ _ (by simp), joinL_app _ _ _ (fun e => h (List.map_eq_nil_iff.mp e)) (by simp), joinL_cons _ _ (by simp)]
  simp [joinL]
theorem sp_join {ps : List (List Nat)} (h : ps ≠ []) (hp : ∀ p ∈ ps, 32 ∉ p) : sp (joinL [32] ps) = ps := by
  have e := spl_sp (joinL [32] ps) []
  rw [spl_join h hp] at e
  match q : sp (joinL [32] ps) with
  | [] => exact absurd q (sp_ne _)
  | w :: ws =>
    rw [q] at e
    simpa using e.symm
theorem free32 (n : Nat) : 32 ∉ numL n := numL_free (.inl (by decide))
theorem sp_TX (m : Nat) (ls : List Nat) (t : Nat) : sp (TX m ls t) = parts m ls t := by
  refine sp_join (by simp [parts]) fun p hp => ?_
  unfold parts at hp
  rcases (List.mem_cons.mp hp : _ ∨ _) with e | hp
  · rw [e]
    intro q
    rcases List.mem_append.mp q with q | q
    · exact free32 m q
    · exact absurd q (by decide)
  · rcases (List.mem_append.mp hp : _ ∨ _) with hp | hp
    · obtain ⟨n, _, rfl⟩ := List.mem_map.mp hp
      exact free32 n
    · simp only [List.mem_cons, List.not_mem_nil, or_false] at hp
      rcases hp with e | e
      · rw [e]; decide
      · rw [e]; exact free32 t
theorem TX_len {m : Nat} {ls : List Nat} {t : Nat} (hm : m < 100000) (ht : t < 100000) (hl : ls.length ≤ 100) (h : ∀ n ∈ ls, n < 100000) : (TX m ls t).length ≤ 800 := by
  have five : ∀ {n : Nat}, n < 100000 → (numL n).length ≤ 5 := fun h => numL_len (by decide) (by simpa using h)
  have key : ∀ ls : List Nat, (∀ n ∈ ls, n < 100000) → (joinL [32] (ls.map numL ++ [[47], numL t])).length ≤ 6 * ls.length + 7 := by
    intro ls
    induction ls with
    | nil =>
      intro _
      have := five ht
      simp [joinL]
      omega
    | cons n ls ih =>
      intro h
      have h1 := five (h n List.mem_cons_self)
      have h2 := ih fun k m => h k (List.mem_cons_of_mem _ m)
      rw [List.map_cons, List.cons_append, joinL_cons _ _ (by simp), List.length_append, List.length_append]
      have s1 : ([32] : List Nat).length = 1 := rfl
      have s2 : (n :: ls).length = ls.length + 1 := rfl
      omega
  have h1 := five hm
  have h2 := key ls h
  unfold TX parts
  rw [joinL_cons _ _ (by simp), List.length_append, List.length_append, List.length_append]
  have s1 : ([32] : List Nat).length = 1 := rfl
  have s2 : ([58] : List Nat).length = 1 := rfl
  omega
theorem c_str : tl (Str.ofString ": ") = [58, 32] := by decide +kernel
theorem s_str : tl (Str.ofString " / ") = [32, 47, 32] := by decide +kernel
theorem colon_str : tl (Str.ofString ":") = [58] := by decide +kernel
theorem tl_strs (ls : List Nat) : ((nats ls).map strI).map tl = ls.map numL := by
  unfold nats
  rw [List.map_map (l := ls), List.map_map]
  exact List.map_congr_left fun n _ => tl_strI n
theorem len_strs {ls : List Nat} (h : ∀ n ∈ ls, n < 100000) : ∀ y ∈ (nats ls).map strI, y.length ≤ 8 := fun y hy => by
  obtain ⟨i, hi, rfl⟩ := List.mem_map.mp hy
  obtain ⟨n, hn, rfl⟩ := List.mem_map.mp hi
  exact Nat.le_trans (len_strI (h n hn)) (by decide)
theorem le_line {n : Nat} (h : n ≤ 10000) : n ≤ sizeLine := Nat.le_trans h (by decide)
theorem w_text {ls : List Nat} {t m : Nat} (hm : m < 100000) (ht : t < 100000) (hl : ls.length ≤ 100) (h0 : ls ≠ []) (h : ∀ n ∈ ls, n < 100000) {Q : Str → Prop} {E : Ex → Prop} (hq : ∀ z, tl z = TX m ls t → Q z) : d_law_text (nats ls) (t : Int) (m : Int) Q E := by
  have lj : (Txt.join (Str.ofString " ") ((nats ls).map strI)).length ≤ 800 := by
    have := TX_len hm ht hl h
    rw [TX_eq m t h0, List.length_append, List.length_append, List.length_append] at this
    rw [len_tl, join_eq, tl_join, tl_strs, blank_str]
    omega
  have l1 := len_strI hm
  have l2 := len_strI ht
  have l3 : (Str.ofString ": ").length = 2 := by decide +kernel
  have l4 : (Str.ofString " / ").length = 3 := by decide +kernel
  have l5 : (Str.ofString " ").length = 1 := by decide +kernel
  unfold d_law_text
  (repeat (first | with_reducible refine r_rt ?_ | with_reducible refine r_bd ?_ | with_reducible refine r_se ?_ | with_reducible refine r_re ?_ | with_reducible refine r_nx ?_ | with_reducible refine r_if ?_ | with_reducible refine r_i1 ?_ | with_reducible refine r_fo ?_ | with_reducible refine r_ap ?_ | with_reducible refine r_ra ?_ | with_reducible refine r_nd ?_ | with_reducible refine r_noE ?_ | with_reducible refine r_pu ?_ | with_reducible refine r_bk ?_ | with_reducible refine r_ct ?_ | with_reducible refine r_trR ?_ | with_reducible refine r_trE ?_)); (try dsimp only [id])
  refine ⟨log_small hm, ?_⟩
  (repeat (first | with_reducible refine r_rt ?_ | with_reducible refine r_bd ?_ | with_reducible refine r_se ?_ | with_reducible refine r_re ?_ | with_reducible refine r_nx ?_ | with_reducible refine r_if ?_ | with_reducible refine r_i1 ?_ | with_reducible refine r_fo ?_ | with_reducible refine r_ap ?_ | with_reducible refine r_ra ?_ | with_reducible refine r_nd ?_ | with_reducible refine r_noE ?_ | with_reducible refine r_pu ?_ | with_reducible refine r_bk ?_ | with_reducible refine r_ct ?_ | with_reducible refine r_trR ?_ | with_reducible refine r_trE ?_)); (try dsimp only [id])
  refine ⟨le_line (by omega), ?_⟩
  (repeat (first | with_reducible refine r_rt ?_ | with_reducible refine r_bd ?_ | with_reducible refine r_se ?_ | with_reducible refine r_re ?_ | with_reducible refine r_nx ?_ | with_reducible refine r_if ?_ | with_reducible refine r_i1 ?_ | with_reducible refine r_fo ?_ | with_reducible refine r_ap ?_ | with_reducible refine r_ra ?_ | with_reducible refine r_nd ?_ | with_reducible refine r_noE ?_ | with_reducible refine r_pu ?_ | with_reducible refine r_bk ?_ | with_reducible refine r_ct ?_ | with_reducible refine r_trR ?_ | with_reducible refine r_trE ?_)); (try dsimp only [id])
  refine lc_map (g := strI) _ [] (fun a ma Q E hq => ?_) (by rw [List.length_nil, Nat.zero_add]; unfold nats; rw [List.length_map]; exact le_line (by omega)) ?_
  · (repeat (first | with_reducible refine r_rt ?_ | with_reducible refine r_bd ?_ | with_reducible refine r_se ?_ | with_reducible refine r_re ?_ | with_reducible refine r_nx ?_ | with_reducible refine r_if ?_ | with_reducible refine r_i1 ?_ | with_reducible refine r_fo ?_ | with_reducible refine r_ap ?_ | with_reducible refine r_ra ?_ | with_reducible refine r_nd ?_ | with_reducible refine r_noE ?_ | with_reducible refine r_pu ?_ | with_reducible refine r_bk ?_ | with_reducible refine r_ct ?_ | with_reducible refine r_trR ?_ | with_reducible refine r_trE ?_)); (try dsimp only [id])
    rw [if_pos rfl]
    (repeat (first | with_reducible refine r_rt ?_ | with_reducible refine r_bd ?_ | with_reducible refine r_se ?_ | with_reducible refine r_re ?_ | with_reducible refine r_nx ?_ | with_reducible refine r_if ?_ | with_reducible refine r_i1 ?_ | with_reducible refine r_fo ?_ | with_reducible refine r_ap ?_ | with_reducible refine r_ra ?_ | with_reducible refine r_nd ?_ | with_reducible refine r_noE ?_ | with_reducible refine r_pu ?_ | with_reducible refine r_bk ?_ | with_reducible refine r_ct ?_ | with_reducible refine r_trR ?_ | with_reducible refine r_trE ?_)); (try dsimp only [id])
    obtain ⟨n, hn, rfl⟩ := List.mem_map.mp ma
    exact ⟨log_small (h n hn), hq⟩
  rw [List.nil_append]
  (repeat (first | with_reducible refine r_rt ?_ | with_reducible refine r_bd ?_ | with_reducible refine r_se ?_ | with_reducible refine r_re ?_ | with_reducible refine r_nx ?_ | with_reducible refine r_if ?_ | with_reducible refine r_i1 ?_ | with_reducible refine r_fo ?_ | with_reducible refine r_ap ?_ | with_reducible refine r_ra ?_ | with_reducible refine r_nd ?_ | with_reducible refine r_noE ?_ | with_reducible refine r_pu ?_ | with_reducible refine r_bk ?_ | with_reducible refine r_ct ?_ | with_reducible refine r_trR ?_ | with_reducible refine r_trE ?_)); (try dsimp only [id])
  refine ⟨?_, ?_⟩
  · have := sum_five _ (len_strs h)
    rw [l5]
    rw [List.length_map] at this ⊢
    have li : (nats ls).length = ls.length := by unfold nats; rw [List.length_map]
    omega
  (repeat (first | with_reducible refine r_rt ?_ | with_reducible refine r_bd ?_ | with_reducible refine r_se ?_ | with_reducible refine r_re ?_ | with_reducible refine r_nx ?_ | with_reducible refine r_if ?_ | with_reducible refine r_i1 ?_ | with_reducible refine r_fo ?_ | with_reducible refine r_ap ?_ | with_reducible refine r_ra ?_ | with_reducible refine r_nd ?_ | with_reducible refine r_noE ?_ | with_reducible refine r_pu ?_ | with_reducible refine r_bk ?_ | with_reducible refine r_ct ?_ | with_reducible refine r_trR ?_ | with_reducible refine r_trE ?_)); (try dsimp only [id])
  refine ⟨le_line (by rw [len_app]; omega), ?_⟩
  (repeat (first | with_reducible refine r_rt ?_ | with_reducible refine r_bd ?_ | with_reducible refine r_se ?_ | with_reducible refine r_re ?_ | with_reducible refine r_nx ?_ | with_reducible refine r_if ?_ | with_reducible refine r_i1 ?_ | with_reducible refine r_fo ?_ | with_reducible refine r_ap ?_ | with_reducible refine r_ra ?_ | with_reducible refine r_nd ?_ | with_reducible refine r_noE ?_ | with_reducible refine r_pu ?_ | with_reducible refine r_bk ?_ | with_reducible refine r_ct ?_ | with_reducible refine r_trR ?_ | with_reducible refine r_trE ?_)); (try dsimp only [id])
  refine ⟨le_line (by rw [len_app, len_app]; omega), ?_⟩
  (repeat (first | with_reducible refine r_rt ?_ | with_reducible refine r_bd ?_ | with_reducible refine r_se ?_ | with_reducible refine r_re ?_ | with_reducible refine r_nx ?_ | with_reducible refine r_if ?_ | with_reducible refine r_i1 ?_ | with_reducible refine r_fo ?_ | with_reducible refine r_ap ?_ | with_reducible refine r_ra ?_ | with_reducible refine r_nd ?_ | with_reducible refine r_noE ?_ | with_reducible refine r_pu ?_ | with_reducible refine r_bk ?_ | with_reducible refine r_ct ?_ | with_reducible refine r_trR ?_ | with_reducible refine r_trE ?_)); (try dsimp only [id])
  refine ⟨log_small ht, ?_⟩
  (repeat (first | with_reducible refine r_rt ?_ | with_reducible refine r_bd ?_ | with_reducible refine r_se ?_ | with_reducible refine r_re ?_ | with_reducible refine r_nx ?_ | with_reducible refine r_if ?_ | with_reducible refine r_i1 ?_ | with_reducible refine r_fo ?_ | with_reducible refine r_ap ?_ | with_reducible refine r_ra ?_ | with_reducible refine r_nd ?_ | with_reducible refine r_noE ?_ | with_reducible refine r_pu ?_ | with_reducible refine r_bk ?_ | with_reducible refine r_ct ?_ | with_reducible refine r_trR ?_ | with_reducible refine r_trE ?_)); (try dsimp only [id])
  refine ⟨le_line (by rw [len_app, len_app, len_app]; omega), ?_⟩
  (repeat (first | with_reducible refine r_rt ?_ | with_reducible refine r_bd ?_ | with_reducible refine r_se ?_ | with_reducible refine r_re ?_ | with_reducible refine r_nx ?_ | with_reducible refine r_if ?_ | with_reducible refine r_i1 ?_ | with_reducible refine r_fo ?_ | with_reducible refine r_ap ?_ | with_reducible refine r_ra ?_ | with_reducible refine r_nd ?_ | with_reducible refine r_noE ?_ | with_reducible refine r_pu ?_ | with_reducible refine r_bk ?_ | with_reducible refine r_ct ?_ | with_reducible refine r_trR ?_ | with_reducible refine r_trE ?_)); (try dsimp only [id])
  refine hq _ ?_
  rw [tl_append, tl_append, tl_append, tl_append, tl_strI, tl_strI, c_str, s_str, join_eq, tl_join, tl_strs, blank_str, TX_eq m t h0]
  simp
theorem w_str {ls : List Nat} {t m : Nat} (hm : m < 100000) (ht : t < 100000) (hl : ls.length ≤ 100) (h : ∀ n ∈ ls, n < 100000) {Q : Str → Prop} {E : Ex → Prop} (hq : ∀ z, tl z = TX m ls t → Q z) : dStanding___str__ ⟨nats ls, (t : Int), (m : Int)⟩ Q E := by
  have l1 := len_strI hm
  have l2 := len_strI ht
  have l3 : (Str.ofString ":").length = 1 := by decide +kernel
  have l4 : (Str.ofString "/").length = 1 := by decide +kernel
  have l5 : (Str.ofString " ").length = 1 := by decide +kernel
  have l6 : Str.empty.length = 0 := rfl
  have li : (nats ls).length = ls.length := by unfold nats; rw [List.length_map]
  unfold dStanding___str__
  (repeat (first | with_reducible refine r_rt ?_ | with_reducible refine r_bd ?_ | with_reducible refine r_se ?_ | with_reducible refine r_re ?_ | with_reducible refine r_nx ?_ | with_reducible refine r_if ?_ | with_reducible refine r_i1 ?_ | with_reducible refine r_fo ?_ | with_reducible refine r_ap ?_ | with_reducible refine r_ra ?_ | with_reducible refine r_nd ?_ | with_reducible refine r_noE ?_ | with_reducible refine r_pu ?_ | with_reducible refine r_bk ?_ | with_reducible refine r_ct ?_ | with_reducible refine r_trR ?_ | with_reducible refine r_trE ?_)); (try dsimp only [id])
  refine lc_map (g := strI) _ [] (fun a ma Q E hq => ?_) (by rw [List.length_nil, Nat.zero_add, li]; exact le_line (by omega)) ?_
  · (repeat (first | with_reducible refine r_rt ?_ | with_reducible refine r_bd ?_ | with_reducible refine r_se ?_ | with_reducible refine r_re ?_ | with_reducible refine r_nx ?_ | with_reducible refine r_if ?_ | with_reducible refine r_i1 ?_ | with_reducible refine r_fo ?_ | with_reducible refine r_ap ?_ | with_reducible refine r_ra ?_ | with_reducible refine r_nd ?_ | with_reducible refine r_noE ?_ | with_reducible refine r_pu ?_ | with_reducible refine r_bk ?_ | with_reducible refine r_ct ?_ | with_reducible refine r_trR ?_ | with_reducible refine r_trE ?_)); (try dsimp only [id])
    rw [if_pos rfl]
    (repeat (first | with_reducible refine r_rt ?_ | with_reducible refine r_bd ?_ | with_reducible refine r_se ?_ | with_reducible refine r_re ?_ | with_reducible refine r_nx ?_ | with_reducible refine r_if ?_ | with_reducible refine r_i1 ?_ | with_reducible refine r_fo ?_ | with_reducible refine r_ap ?_ | with_reducible refine r_ra ?_ | with_reducible refine r_nd ?_ | with_reducible refine r_noE ?_ | with_reducible refine r_pu ?_ | with_reducible refine r_bk ?_ | with_reducible refine r_ct ?_ | with_reducible refine r_trR ?_ | with_reducible refine r_trE ?_)); (try dsimp only [id])
    obtain ⟨n, hn, rfl⟩ := List.mem_map.mp ma
    exact ⟨log_small (h n hn), hq⟩
  rw [List.nil_append]
  (repeat (first | with_reducible refine r_rt ?_ | with_reducible refine r_bd ?_ | with_reducible refine r_se ?_ | with_reducible refine r_re ?_ | with_reducible refine r_nx ?_ | with_reducible refine r_if ?_ | with_reducible refine r_i1 ?_ | with_reducible refine r_fo ?_ | with_reducible refine r_ap ?_ | with_reducible refine r_ra ?_ | with_reducible refine r_nd ?_ | with_reducible refine r_noE ?_ | with_reducible refine r_pu ?_ | with_reducible refine r_bk ?_ | with_reducible refine r_ct ?_ | with_reducible refine r_trR ?_ | with_reducible refine r_trE ?_)); (try dsimp only [id])
  refine ⟨log_small hm, ?_⟩
  (repeat (first | with_reducible refine r_rt ?_ | with_reducible refine r_bd ?_ | with_reducible refine r_se ?_ | with_reducible refine r_re ?_ | with_reducible refine r_nx ?_ | with_reducible refine r_if ?_ | with_reducible refine r_i1 ?_ | with_reducible refine r_fo ?_ | with_reducible refine r_ap ?_ | with_reducible refine r_ra ?_ | with_reducible refine r_nd ?_ | with_reducible refine r_noE ?_ | with_reducible refine r_pu ?_ | with_reducible refine r_bk ?_ | with_reducible refine r_ct ?_ | with_reducible refine r_trR ?_ | with_reducible refine r_trE ?_)); (try dsimp only [id])
  refine ⟨le_line (by rw [len_app]; omega), ?_⟩
  (repeat (first | with_reducible refine r_rt ?_ | with_reducible refine r_bd ?_ | with_reducible refine r_se ?_ | with_reducible refine r_re ?_ | with_reducible refine r_nx ?_ | with_reducible refine r_if ?_ | with_reducible refine r_i1 ?_ | with_reducible refine r_fo ?_ | with_reducible refine r_ap ?_ | with_reducible refine r_ra ?_ | with_reducible refine r_nd ?_ | with_reducible refine r_noE ?_ | with_reducible refine r_pu ?_ | with_reducible refine r_bk ?_ | with_reducible refine r_ct ?_ | with_reducible refine r_trR ?_ | with_reducible refine r_trE ?_)); (try dsimp only [id])
  refine ⟨le_line (by rw [len_app, len_app]; omega), ?_⟩
  (repeat (first | with_reducible refine r_rt ?_ | with_reducible refine r_bd ?_ | with_reducible refine r_se ?_ | with_reducible refine r_re ?_ | with_reducible refine r_nx ?_ | with_reducible refine r_if ?_ | with_reducible refine r_i1 ?_ | with_reducible refine r_fo ?_ | with_reducible refine r_ap ?_ | with_reducible refine r_ra ?_ | with_reducible refine r_nd ?_ | with_reducible refine r_noE ?_ | with_reducible refine r_pu ?_ | with_reducible refine r_bk ?_ | with_reducible refine r_ct ?_ | with_reducible refine r_trR ?_ | with_reducible refine r_trE ?_)); (try dsimp only [id])
  refine ⟨log_small ht, ?_⟩
  (repeat (first | with_reducible refine r_rt ?_ | with_reducible refine r_bd ?_ | with_reducible refine r_se ?_ | with_reducible refine r_re ?_ | with_reducible refine r_nx ?_ | with_reducible refine r_if ?_ | with_reducible refine r_i1 ?_ | with_reducible refine r_fo ?_ | with_reducible refine r_ap ?_ | with_reducible refine r_ra ?_ | with_reducible refine r_nd ?_ | with_reducible refine r_noE ?_ | with_reducible refine r_pu ?_ | with_reducible refine r_bk ?_ | with_reducible refine r_ct ?_ | with_reducible refine r_trR ?_ | with_reducible refine r_trE ?_)); (try dsimp only [id])
  refine ⟨le_line (by rw [List.length_cons, List.length_append, List.length_map, li]; simp; omega), ?_⟩
  (repeat (first | with_reducible refine r_rt ?_ | with_reducible refine r_bd ?_ | with_reducible refine r_se ?_ | with_reducible refine r_re ?_ | with_reducible refine r_nx ?_ | with_reducible refine r_if ?_ | with_reducible refine r_i1 ?_ | with_reducible refine r_fo ?_ | with_reducible refine r_ap ?_ | with_reducible refine r_ra ?_ | with_reducible refine r_nd ?_ | with_reducible refine r_noE ?_ | with_reducible refine r_pu ?_ | with_reducible refine r_bk ?_ | with_reducible refine r_ct ?_ | with_reducible refine r_trR ?_ | with_reducible refine r_trE ?_)); (try dsimp only [id])
  have hp : ∀ y ∈ (Str.empty ++ strI (m : Int) ++ Str.ofString ":") :: ((nats ls).map strI ++ [Str.ofString "/", strI (t : Int)]), y.length ≤ 8 := fun y hy => by
    rcases (List.mem_cons.mp hy : _ ∨ _) with e | hy
    · rw [e, len_app, len_app]; omega
    · rcases List.mem_append.mp hy with hy | hy
      · exact len_strs h y hy
      · simp only [List.mem_cons, List.not_mem_nil, or_false] at hy
        rcases hy with e | e
        · rw [e]; omega
        · rw [e]; omega
  refine ⟨?_, ?_⟩
  · have := sum_five _ hp
    rw [List.length_cons, List.length_append, List.length_map, li] at this
    rw [l5, List.length_cons, List.length_append, List.length_map, li]
    simp only [List.length_cons, List.length_nil] at this ⊢
    omega
  (repeat (first | with_reducible refine r_rt ?_ | with_reducible refine r_bd ?_ | with_reducible refine r_se ?_ | with_reducible refine r_re ?_ | with_reducible refine r_nx ?_ | with_reducible refine r_if ?_ | with_reducible refine r_i1 ?_ | with_reducible refine r_fo ?_ | with_reducible refine r_ap ?_ | with_reducible refine r_ra ?_ | with_reducible refine r_nd ?_ | with_reducible refine r_noE ?_ | with_reducible refine r_pu ?_ | with_reducible refine r_bk ?_ | with_reducible refine r_ct ?_ | with_reducible refine r_trR ?_ | with_reducible refine r_trE ?_)); (try dsimp only [id])
  refine hq _ ?_
  rw [join_eq, tl_join, List.map_cons, List.map_append, tl_strs, tl_append, tl_append, tl_strI, colon_str, blank_str, List.map_cons, List.map_cons, tl_strI, slash_str]
  rfl
end Wb

set_option maxHeartbeats 1000000
namespace Wb
open PySem PySem.Spec PyProof.Rows L2 Wx NdefX RZ StX Dn TL
theorem e32 (a : Nat) : (48 + a = 32) = False := eq_false (by omega)
theorem e47 (a : Nat) : (48 + a = 47) = False := eq_false (by omega)
def Bd (L : List Nat) : Prop := badW (sp L) = true ∧ L.length ≤ 900
theorem e58 (a : Nat) : (48 + a = 58) = (a = 10) := by rw [eq_iff_iff]; omega
theorem bad_blank1 {m t a : Nat} (hm : ¬ m = 10) (ht : ¬ t = 10) (ha : ¬ a = 10) : Bd (32 :: [48 + m, 58, 32, 48 + a, 32, 47, 32, 48 + t]) := by
  refine ⟨?_, ?_⟩ <;> simp [e32, e47, e58, sp, badW, numB, dig, StrLaws.replL, StrLaws.replS, hm, ht, ha]
theorem bad_blank2 {m t a b : Nat} (hm : ¬ m = 10) (ht : ¬ t = 10) (ha : ¬ a = 10) (hb : ¬ b = 10) : Bd (32 :: [48 + m, 58, 32, 48 + a, 32, 48 + b, 32, 47, 32, 48 + t]) := by
  refine ⟨?_, ?_⟩ <;> simp [e32, e47, e58, sp, badW, numB, dig, StrLaws.replL, StrLaws.replS, hm, ht, ha, hb]
theorem bad_blank3 {m t a b c : Nat} (hm : ¬ m = 10) (ht : ¬ t = 10) (ha : ¬ a = 10) (hb : ¬ b = 10) (hc : ¬ c = 10) : Bd (32 :: [48 + m, 58, 32, 48 + a, 32, 48 + b, 32, 48 + c, 32, 47, 32, 48 + t]) := by
  refine ⟨?_, ?_⟩ <;> simp [e32, e47, e58, sp, badW, numB, dig, StrLaws.replL, StrLaws.replS, hm, ht, ha, hb, hc]
theorem bad_blank4 {m t a b c d : Nat} (hm : ¬ m = 10) (ht : ¬ t = 10) (ha : ¬ a = 10) (hb : ¬ b = 10) (hc : ¬ c = 10) (hd : ¬ d = 10) : Bd (32 :: [48 + m, 58, 32, 48 + a, 32, 48 + b, 32, 48 + c, 32, 48 + d, 32, 47, 32, 48 + t]) := by
  refine ⟨?_, ?_⟩ <;> simp [e32, e47, e58, sp, badW, numB, dig, StrLaws.replL, StrLaws.replS, hm, ht, ha, hb, hc, hd]
theorem bad_tail1 {m t a : Nat} (hm : ¬ m = 10) (ht : ¬ t = 10) (ha : ¬ a = 10) : Bd ([48 + m, 58, 32, 48 + a, 32, 47, 32, 48 + t] ++ [32]) := by
  refine ⟨?_, ?_⟩ <;> simp [e32, e47, e58, sp, badW, numB, dig, StrLaws.replL, StrLaws.replS, hm, ht, ha]
theorem bad_tail2 {m t a b : Nat} (hm : ¬ m = 10) (ht : ¬ t = 10) (ha : ¬ a = 10) (hb : ¬ b = 10) : Bd ([48 + m, 58, 32, 48 + a, 32, 48 + b, 32, 47, 32, 48 + t] ++ [32]) := by
  refine ⟨?_, ?_⟩ <;> simp [e32, e47, e58, sp, badW, numB, dig, StrLaws.replL, StrLaws.replS, hm, ht, ha, hb]
theorem bad_tail3 {m t a b c : Nat} (hm : ¬ m = 10) (ht : ¬ t = 10) (ha : ¬ a = 10) (hb : ¬ b = 10) (hc : ¬ c = 10) : Bd ([48 + m, 58, 32, 48 + a, 32, 48 + b, 32, 48 + c, 32, 47, 32, 48 + t] ++ [32]) := by
  refine ⟨?_, ?_⟩ <;> simp [e32, e47, e58, sp, badW, numB, dig, StrLaws.replL, StrLaws.replS, hm, ht, ha, hb, hc]
theorem bad_tail4 {m t a b c d : Nat} (hm : ¬ m = 10) (ht : ¬ t = 10) (ha : ¬ a = 10) (hb : ¬ b = 10) (hc : ¬ c = 10) (hd : ¬ d = 10) : Bd ([48 + m, 58, 32, 48 + a, 32, 48 + b, 32, 48 + c, 32, 48 + d, 32, 47, 32, 48 + t] ++ [32]) := by
  refine ⟨?_, ?_⟩ <;> simp [e32, e47, e58, sp, badW, numB, dig, StrLaws.replL, StrLaws.replS, hm, ht, ha, hb, hc, hd]
theorem bad_line1 {m t a : Nat} (hm : ¬ m = 10) (ht : ¬ t = 10) (ha : ¬ a = 10) : Bd ([48 + m, 58, 32, 48 + a, 32, 47, 32, 48 + t] ++ [10]) := by
  refine ⟨?_, ?_⟩ <;> simp [e32, e47, e58, sp, badW, numB, dig, StrLaws.replL, StrLaws.replS, hm, ht, ha]
theorem bad_line2 {m t a b : Nat} (hm : ¬ m = 10) (ht : ¬ t = 10) (ha : ¬ a = 10) (hb : ¬ b = 10) : Bd ([48 + m, 58, 32, 48 + a, 32, 48 + b, 32, 47, 32, 48 + t] ++ [10]) := by
  refine ⟨?_, ?_⟩ <;> simp [e32, e47, e58, sp, badW, numB, dig, StrLaws.replL, StrLaws.replS, hm, ht, ha, hb]
theorem bad_line3 {m t a b c : Nat} (hm : ¬ m = 10) (ht : ¬ t = 10) (ha : ¬ a = 10) (hb : ¬ b = 10) (hc : ¬ c = 10) : Bd ([48 + m, 58, 32, 48 + a, 32, 48 + b, 32, 48 + c, 32, 47, 32, 48 + t] ++ [10]) := by
  refine ⟨?_, ?_⟩ <;> simp [e32, e47, e58, sp, badW, numB, dig, StrLaws.replL, StrLaws.replS, hm, ht, ha, hb, hc]
theorem bad_line4 {m t a b c d : Nat} (hm : ¬ m = 10) (ht : ¬ t = 10) (ha : ¬ a = 10) (hb : ¬ b = 10) (hc : ¬ c = 10) (hd : ¬ d = 10) : Bd ([48 + m, 58, 32, 48 + a, 32, 48 + b, 32, 48 + c, 32, 48 + d, 32, 47, 32, 48 + t] ++ [10]) := by
  refine ⟨?_, ?_⟩ <;> simp [e32, e47, e58, sp, badW, numB, dig, StrLaws.replL, StrLaws.replS, hm, ht, ha, hb, hc, hd]
theorem bad_nocolon1 {m t a : Nat} (hm : ¬ m = 10) (ht : ¬ t = 10) (ha : ¬ a = 10) : Bd (StrLaws.replL [58] [] [48 + m, 58, 32, 48 + a, 32, 47, 32, 48 + t]) := by
  refine ⟨?_, ?_⟩ <;> simp [e32, e47, e58, sp, badW, numB, dig, StrLaws.replL, StrLaws.replS, hm, ht, ha]
theorem bad_nocolon2 {m t a b : Nat} (hm : ¬ m = 10) (ht : ¬ t = 10) (ha : ¬ a = 10) (hb : ¬ b = 10) : Bd (StrLaws.replL [58] [] [48 + m, 58, 32, 48 + a, 32, 48 + b, 32, 47, 32, 48 + t]) := by
  refine ⟨?_, ?_⟩ <;> simp [e32, e47, e58, sp, badW, numB, dig, StrLaws.replL, StrLaws.replS, hm, ht, ha, hb]
theorem bad_nocolon3 {m t a b c : Nat} (hm : ¬ m = 10) (ht : ¬ t = 10) (ha : ¬ a = 10) (hb : ¬ b = 10) (hc : ¬ c = 10) : Bd (StrLaws.replL [58] [] [48 + m, 58, 32, 48 + a, 32, 48 + b, 32, 48 + c, 32, 47, 32, 48 + t]) := by
  refine ⟨?_, ?_⟩ <;> simp [e32, e47, e58, sp, badW, numB, dig, StrLaws.replL, StrLaws.replS, hm, ht, ha, hb, hc]
theorem bad_nocolon4 {m t a b c d : Nat} (hm : ¬ m = 10) (ht : ¬ t = 10) (ha : ¬ a = 10) (hb : ¬ b = 10) (hc : ¬ c = 10) (hd : ¬ d = 10) : Bd (StrLaws.replL [58] [] [48 + m, 58, 32, 48 + a, 32, 48 + b, 32, 48 + c, 32, 48 + d, 32, 47, 32, 48 + t]) := by
  refine ⟨?_, ?_⟩ <;> simp [e32, e47, e58, sp, badW, numB, dig, StrLaws.replL, StrLaws.replS, hm, ht, ha, hb, hc, hd]
theorem bad_noslash1 {m t a : Nat} (hm : ¬ m = 10) (ht : ¬ t = 10) (ha : ¬ a = 10) : Bd (StrLaws.replL [32, 47] [] [48 + m, 58, 32, 48 + a, 32, 47, 32, 48 + t]) := by
  refine ⟨?_, ?_⟩ <;> simp [e32, e47, e58, sp, badW, numB, dig, StrLaws.replL, StrLaws.replS, hm, ht, ha]
theorem bad_noslash2 {m t a b : Nat} (hm : ¬ m = 10) (ht : ¬ t = 10) (ha : ¬ a = 10) (hb : ¬ b = 10) : Bd (StrLaws.replL [32, 47] [] [48 + m, 58, 32, 48 + a, 32, 48 + b, 32, 47, 32, 48 + t]) := by
  refine ⟨?_, ?_⟩ <;> simp [e32, e47, e58, sp, badW, numB, dig, StrLaws.replL, StrLaws.replS, hm, ht, ha, hb]
theorem bad_noslash3 {m t a b c : Nat} (hm : ¬ m = 10) (ht : ¬ t = 10) (ha : ¬ a = 10) (hb : ¬ b = 10) (hc : ¬ c = 10) : Bd (StrLaws.replL [32, 47] [] [48 + m, 58, 32, 48 + a, 32, 48 + b, 32, 48 + c, 32, 47, 32, 48 + t]) := by
  refine ⟨?_, ?_⟩ <;> simp [e32, e47, e58, sp, badW, numB, dig, StrLaws.replL, StrLaws.replS, hm, ht, ha, hb, hc]
theorem bad_noslash4 {m t a b c d : Nat} (hm : ¬ m = 10) (ht : ¬ t = 10) (ha : ¬ a = 10) (hb : ¬ b = 10) (hc : ¬ c = 10) (hd : ¬ d = 10) : Bd (StrLaws.replL [32, 47] [] [48 + m, 58, 32, 48 + a, 32, 48 + b, 32, 48 + c, 32, 48 + d, 32, 47, 32, 48 + t]) := by
  refine ⟨?_, ?_⟩ <;> simp [e32, e47, e58, sp, badW, numB, dig, StrLaws.replL, StrLaws.replS, hm, ht, ha, hb, hc, hd]
theorem bad_more1 {m t a : Nat} (hm : ¬ m = 10) (ht : ¬ t = 10) (ha : ¬ a = 10) : Bd ([48 + m, 58, 32, 48 + a, 32, 47, 32, 48 + t] ++ [32, 49]) := by
  refine ⟨?_, ?_⟩ <;> simp [e32, e47, e58, sp, badW, numB, dig, StrLaws.replL, StrLaws.replS, hm, ht, ha]
theorem bad_more2 {m t a b : Nat} (hm : ¬ m = 10) (ht : ¬ t = 10) (ha : ¬ a = 10) (hb : ¬ b = 10) : Bd ([48 + m, 58, 32, 48 + a, 32, 48 + b, 32, 47, 32, 48 + t] ++ [32, 49]) := by
  refine ⟨?_, ?_⟩ <;> simp [e32, e47, e58, sp, badW, numB, dig, StrLaws.replL, StrLaws.replS, hm, ht, ha, hb]
theorem bad_more3 {m t a b c : Nat} (hm : ¬ m = 10) (ht : ¬ t = 10) (ha : ¬ a = 10) (hb : ¬ b = 10) (hc : ¬ c = 10) : Bd ([48 + m, 58, 32, 48 + a, 32, 48 + b, 32, 48 + c, 32, 47, 32, 48 + t] ++ [32, 49]) := by
  refine ⟨?_, ?_⟩ <;> simp [e32, e47, e58, sp, badW, numB, dig, StrLaws.replL, StrLaws.replS, hm, ht, ha, hb, hc]
theorem bad_more4 {m t a b c d : Nat} (hm : ¬ m = 10) (ht : ¬ t = 10) (ha : ¬ a = 10) (hb : ¬ b = 10) (hc : ¬ c = 10) (hd : ¬ d = 10) : Bd ([48 + m, 58, 32, 48 + a, 32, 48 + b, 32, 48 + c, 32, 48 + d, 32, 47, 32, 48 + t] ++ [32, 49]) := by
  refine ⟨?_, ?_⟩ <;> simp [e32, e47, e58, sp, badW, numB, dig, StrLaws.replL, StrLaws.replS, hm, ht, ha, hb, hc, hd]
theorem bad_glue1 {m t a : Nat} (hm : ¬ m = 10) (ht : ¬ t = 10) (ha : ¬ a = 10) : Bd (StrLaws.replL [58, 32] [58] [48 + m, 58, 32, 48 + a, 32, 47, 32, 48 + t]) := by
  refine ⟨?_, ?_⟩ <;> simp [e32, e47, e58, sp, badW, numB, dig, StrLaws.replL, StrLaws.replS, hm, ht, ha]
theorem bad_glue2 {m t a b : Nat} (hm : ¬ m = 10) (ht : ¬ t = 10) (ha : ¬ a = 10) (hb : ¬ b = 10) : Bd (StrLaws.replL [58, 32] [58] [48 + m, 58, 32, 48 + a, 32, 48 + b, 32, 47, 32, 48 + t]) := by
  refine ⟨?_, ?_⟩ <;> simp [e32, e47, e58, sp, badW, numB, dig, StrLaws.replL, StrLaws.replS, hm, ht, ha, hb]
theorem bad_glue3 {m t a b c : Nat} (hm : ¬ m = 10) (ht : ¬ t = 10) (ha : ¬ a = 10) (hb : ¬ b = 10) (hc : ¬ c = 10) : Bd (StrLaws.replL [58, 32] [58] [48 + m, 58, 32, 48 + a, 32, 48 + b, 32, 48 + c, 32, 47, 32, 48 + t]) := by
  refine ⟨?_, ?_⟩ <;> simp [e32, e47, e58, sp, badW, numB, dig, StrLaws.replL, StrLaws.replS, hm, ht, ha, hb, hc]
theorem bad_glue4 {m t a b c d : Nat} (hm : ¬ m = 10) (ht : ¬ t = 10) (ha : ¬ a = 10) (hb : ¬ b = 10) (hc : ¬ c = 10) (hd : ¬ d = 10) : Bd (StrLaws.replL [58, 32] [58] [48 + m, 58, 32, 48 + a, 32, 48 + b, 32, 48 + c, 32, 48 + d, 32, 47, 32, 48 + t]) := by
  refine ⟨?_, ?_⟩ <;> simp [e32, e47, e58, sp, badW, numB, dig, StrLaws.replL, StrLaws.replS, hm, ht, ha, hb, hc, hd]
theorem bad_bar1 {m t a : Nat} (hm : ¬ m = 10) (ht : ¬ t = 10) (ha : ¬ a = 10) : Bd (StrLaws.replL [47] [124] [48 + m, 58, 32, 48 + a, 32, 47, 32, 48 + t]) := by
  refine ⟨?_, ?_⟩ <;> simp [e32, e47, e58, sp, badW, numB, dig, StrLaws.replL, StrLaws.replS, hm, ht, ha]
theorem bad_bar2 {m t a b : Nat} (hm : ¬ m = 10) (ht : ¬ t = 10) (ha : ¬ a = 10) (hb : ¬ b = 10) : Bd (StrLaws.replL [47] [124] [48 + m, 58, 32, 48 + a, 32, 48 + b, 32, 47, 32, 48 + t]) := by
  refine ⟨?_, ?_⟩ <;> simp [e32, e47, e58, sp, badW, numB, dig, StrLaws.replL, StrLaws.replS, hm, ht, ha, hb]
theorem bad_bar3 {m t a b c : Nat} (hm : ¬ m = 10) (ht : ¬ t = 10) (ha : ¬ a = 10) (hb : ¬ b = 10) (hc : ¬ c = 10) : Bd (StrLaws.replL [47] [124] [48 + m, 58, 32, 48 + a, 32, 48 + b, 32, 48 + c, 32, 47, 32, 48 + t]) := by
  refine ⟨?_, ?_⟩ <;> simp [e32, e47, e58, sp, badW, numB, dig, StrLaws.replL, StrLaws.replS, hm, ht, ha, hb, hc]
theorem bad_bar4 {m t a b c d : Nat} (hm : ¬ m = 10) (ht : ¬ t = 10) (ha : ¬ a = 10) (hb : ¬ b = 10) (hc : ¬ c = 10) (hd : ¬ d = 10) : Bd (StrLaws.replL [47] [124] [48 + m, 58, 32, 48 + a, 32, 48 + b, 32, 48 + c, 32, 48 + d, 32, 47, 32, 48 + t]) := by
  refine ⟨?_, ?_⟩ <;> simp [e32, e47, e58, sp, badW, numB, dig, StrLaws.replL, StrLaws.replS, hm, ht, ha, hb, hc, hd]
theorem bad_zero1 {m t a : Nat} (hm : ¬ m = 10) (ht : ¬ t = 10) (ha : ¬ a = 10) : Bd (48 :: [48 + m, 58, 32, 48 + a, 32, 47, 32, 48 + t]) := by
  refine ⟨?_, ?_⟩ <;> simp [e32, e47, e58, sp, badW, numB, dig, StrLaws.replL, StrLaws.replS, hm, ht, ha]
theorem bad_zero2 {m t a b : Nat} (hm : ¬ m = 10) (ht : ¬ t = 10) (ha : ¬ a = 10) (hb : ¬ b = 10) : Bd (48 :: [48 + m, 58, 32, 48 + a, 32, 48 + b, 32, 47, 32, 48 + t]) := by
  refine ⟨?_, ?_⟩ <;> simp [e32, e47, e58, sp, badW, numB, dig, StrLaws.replL, StrLaws.replS, hm, ht, ha, hb]
theorem bad_zero3 {m t a b c : Nat} (hm : ¬ m = 10) (ht : ¬ t = 10) (ha : ¬ a = 10) (hb : ¬ b = 10) (hc : ¬ c = 10) : Bd (48 :: [48 + m, 58, 32, 48 + a, 32, 48 + b, 32, 48 + c, 32, 47, 32, 48 + t]) := by
  refine ⟨?_, ?_⟩ <;> simp [e32, e47, e58, sp, badW, numB, dig, StrLaws.replL, StrLaws.replS, hm, ht, ha, hb, hc]
theorem bad_zero4 {m t a b c d : Nat} (hm : ¬ m = 10) (ht : ¬ t = 10) (ha : ¬ a = 10) (hb : ¬ b = 10) (hc : ¬ c = 10) (hd : ¬ d = 10) : Bd (48 :: [48 + m, 58, 32, 48 + a, 32, 48 + b, 32, 48 + c, 32, 48 + d, 32, 47, 32, 48 + t]) := by
  refine ⟨?_, ?_⟩ <;> simp [e32, e47, e58, sp, badW, numB, dig, StrLaws.replL, StrLaws.replS, hm, ht, ha, hb, hc, hd]
theorem bad_cut1 {m t a : Nat} (hm : ¬ m = 10) (ht : ¬ t = 10) (ha : ¬ a = 10) : Bd [48 + m, 58, 32, 48 + a, 32, 47, 32, 48 + t].dropLast := by
  refine ⟨?_, ?_⟩ <;> simp [e32, e47, e58, sp, badW, numB, dig, StrLaws.replL, StrLaws.replS, hm, ht, ha]
theorem bad_cut2 {m t a b : Nat} (hm : ¬ m = 10) (ht : ¬ t = 10) (ha : ¬ a = 10) (hb : ¬ b = 10) : Bd [48 + m, 58, 32, 48 + a, 32, 48 + b, 32, 47, 32, 48 + t].dropLast := by
  refine ⟨?_, ?_⟩ <;> simp [e32, e47, e58, sp, badW, numB, dig, StrLaws.replL, StrLaws.replS, hm, ht, ha, hb]
theorem bad_cut3 {m t a b c : Nat} (hm : ¬ m = 10) (ht : ¬ t = 10) (ha : ¬ a = 10) (hb : ¬ b = 10) (hc : ¬ c = 10) : Bd [48 + m, 58, 32, 48 + a, 32, 48 + b, 32, 48 + c, 32, 47, 32, 48 + t].dropLast := by
  refine ⟨?_, ?_⟩ <;> simp [e32, e47, e58, sp, badW, numB, dig, StrLaws.replL, StrLaws.replS, hm, ht, ha, hb, hc]
theorem bad_cut4 {m t a b c d : Nat} (hm : ¬ m = 10) (ht : ¬ t = 10) (ha : ¬ a = 10) (hb : ¬ b = 10) (hc : ¬ c = 10) (hd : ¬ d = 10) : Bd [48 + m, 58, 32, 48 + a, 32, 48 + b, 32, 48 + c, 32, 48 + d, 32, 47, 32, 48 + t].dropLast := by
  refine ⟨?_, ?_⟩ <;> simp [e32, e47, e58, sp, badW, numB, dig, StrLaws.replL, StrLaws.replS, hm, ht, ha, hb, hc, hd]
theorem bad_cutx1 {m t a : Nat} (hm : ¬ m = 10) (ht : ¬ t = 10) (ha : ¬ a = 10) : Bd ([48 + m, 58, 32, 48 + a, 32, 47, 32, 48 + t].dropLast ++ [120]) := by
  refine ⟨?_, ?_⟩ <;> simp [e32, e47, e58, sp, badW, numB, dig, StrLaws.replL, StrLaws.replS, hm, ht, ha]
theorem bad_cutx2 {m t a b : Nat} (hm : ¬ m = 10) (ht : ¬ t = 10) (ha : ¬ a = 10) (hb : ¬ b = 10) : Bd ([48 + m, 58, 32, 48 + a, 32, 48 + b, 32, 47, 32, 48 + t].dropLast ++ [120]) := by
  refine ⟨?_, ?_⟩ <;> simp [e32, e47, e58, sp, badW, numB, dig, StrLaws.replL, StrLaws.replS, hm, ht, ha, hb]
theorem bad_cutx3 {m t a b c : Nat} (hm : ¬ m = 10) (ht : ¬ t = 10) (ha : ¬ a = 10) (hb : ¬ b = 10) (hc : ¬ c = 10) : Bd ([48 + m, 58, 32, 48 + a, 32, 48 + b, 32, 48 + c, 32, 47, 32, 48 + t].dropLast ++ [120]) := by
  refine ⟨?_, ?_⟩ <;> simp [e32, e47, e58, sp, badW, numB, dig, StrLaws.replL, StrLaws.replS, hm, ht, ha, hb, hc]
theorem bad_cutx4 {m t a b c d : Nat} (hm : ¬ m = 10) (ht : ¬ t = 10) (ha : ¬ a = 10) (hb : ¬ b = 10) (hc : ¬ c = 10) (hd : ¬ d = 10) : Bd ([48 + m, 58, 32, 48 + a, 32, 48 + b, 32, 48 + c, 32, 48 + d, 32, 47, 32, 48 + t].dropLast ++ [120]) := by
  refine ⟨?_, ?_⟩ <;> simp [e32, e47, e58, sp, badW, numB, dig, StrLaws.replL, StrLaws.replS, hm, ht, ha, hb, hc, hd]
theorem bad_xhead1 {m t a : Nat} (hm : ¬ m = 10) (ht : ¬ t = 10) (ha : ¬ a = 10) : Bd (120 :: [48 + m, 58, 32, 48 + a, 32, 47, 32, 48 + t].drop 1) := by
  refine ⟨?_, ?_⟩ <;> simp [e32, e47, e58, sp, badW, numB, dig, StrLaws.replL, StrLaws.replS, hm, ht, ha]
theorem bad_xhead2 {m t a b : Nat} (hm : ¬ m = 10) (ht : ¬ t = 10) (ha : ¬ a = 10) (hb : ¬ b = 10) : Bd (120 :: [48 + m, 58, 32, 48 + a, 32, 48 + b, 32, 47, 32, 48 + t].drop 1) := by
  refine ⟨?_, ?_⟩ <;> simp [e32, e47, e58, sp, badW, numB, dig, StrLaws.replL, StrLaws.replS, hm, ht, ha, hb]
theorem bad_xhead3 {m t a b c : Nat} (hm : ¬ m = 10) (ht : ¬ t = 10) (ha : ¬ a = 10) (hb : ¬ b = 10) (hc : ¬ c = 10) : Bd (120 :: [48 + m, 58, 32, 48 + a, 32, 48 + b, 32, 48 + c, 32, 47, 32, 48 + t].drop 1) := by
  refine ⟨?_, ?_⟩ <;> simp [e32, e47, e58, sp, badW, numB, dig, StrLaws.replL, StrLaws.replS, hm, ht, ha, hb, hc]
theorem bad_xhead4 {m t a b c d : Nat} (hm : ¬ m = 10) (ht : ¬ t = 10) (ha : ¬ a = 10) (hb : ¬ b = 10) (hc : ¬ c = 10) (hd : ¬ d = 10) : Bd (120 :: [48 + m, 58, 32, 48 + a, 32, 48 + b, 32, 48 + c, 32, 48 + d, 32, 47, 32, 48 + t].drop 1) := by
  refine ⟨?_, ?_⟩ <;> simp [e32, e47, e58, sp, badW, numB, dig, StrLaws.replL, StrLaws.replS, hm, ht, ha, hb, hc, hd]
theorem bad_minus1 {m t a : Nat} (hm : ¬ m = 10) (ht : ¬ t = 10) (ha : ¬ a = 10) : Bd (45 :: [48 + m, 58, 32, 48 + a, 32, 47, 32, 48 + t]) := by
  refine ⟨?_, ?_⟩ <;> simp [e32, e47, e58, sp, badW, numB, dig, StrLaws.replL, StrLaws.replS, hm, ht, ha]
theorem bad_minus2 {m t a b : Nat} (hm : ¬ m = 10) (ht : ¬ t = 10) (ha : ¬ a = 10) (hb : ¬ b = 10) : Bd (45 :: [48 + m, 58, 32, 48 + a, 32, 48 + b, 32, 47, 32, 48 + t]) := by
  refine ⟨?_, ?_⟩ <;> simp [e32, e47, e58, sp, badW, numB, dig, StrLaws.replL, StrLaws.replS, hm, ht, ha, hb]
theorem bad_minus3 {m t a b c : Nat} (hm : ¬ m = 10) (ht : ¬ t = 10) (ha : ¬ a = 10) (hb : ¬ b = 10) (hc : ¬ c = 10) : Bd (45 :: [48 + m, 58, 32, 48 + a, 32, 48 + b, 32, 48 + c, 32, 47, 32, 48 + t]) := by
  refine ⟨?_, ?_⟩ <;> simp [e32, e47, e58, sp, badW, numB, dig, StrLaws.replL, StrLaws.replS, hm, ht, ha, hb, hc]
theorem bad_minus4 {m t a b c d : Nat} (hm : ¬ m = 10) (ht : ¬ t = 10) (ha : ¬ a = 10) (hb : ¬ b = 10) (hc : ¬ c = 10) (hd : ¬ d = 10) : Bd (45 :: [48 + m, 58, 32, 48 + a, 32, 48 + b, 32, 48 + c, 32, 48 + d, 32, 47, 32, 48 + t]) := by
  refine ⟨?_, ?_⟩ <;> simp [e32, e47, e58, sp, badW, numB, dig, StrLaws.replL, StrLaws.replS, hm, ht, ha, hb, hc, hd]
theorem bad_slash1 {m t a : Nat} (hm : ¬ m = 10) (ht : ¬ t = 10) (ha : ¬ a = 10) : Bd ([48 + m, 58, 32, 48 + a, 32, 47, 32, 48 + t] ++ [47]) := by
  refine ⟨?_, ?_⟩ <;> simp [e32, e47, e58, sp, badW, numB, dig, StrLaws.replL, StrLaws.replS, hm, ht, ha]
theorem bad_slash2 {m t a b : Nat} (hm : ¬ m = 10) (ht : ¬ t = 10) (ha : ¬ a = 10) (hb : ¬ b = 10) : Bd ([48 + m, 58, 32, 48 + a, 32, 48 + b, 32, 47, 32, 48 + t] ++ [47]) := by
  refine ⟨?_, ?_⟩ <;> simp [e32, e47, e58, sp, badW, numB, dig, StrLaws.replL, StrLaws.replS, hm, ht, ha, hb]
theorem bad_slash3 {m t a b c : Nat} (hm : ¬ m = 10) (ht : ¬ t = 10) (ha : ¬ a = 10) (hb : ¬ b = 10) (hc : ¬ c = 10) : Bd ([48 + m, 58, 32, 48 + a, 32, 48 + b, 32, 48 + c, 32, 47, 32, 48 + t] ++ [47]) := by
  refine ⟨?_, ?_⟩ <;> simp [e32, e47, e58, sp, badW, numB, dig, StrLaws.replL, StrLaws.replS, hm, ht, ha, hb, hc]
theorem bad_slash4 {m t a b c d : Nat} (hm : ¬ m = 10) (ht : ¬ t = 10) (ha : ¬ a = 10) (hb : ¬ b = 10) (hc : ¬ c = 10) (hd : ¬ d = 10) : Bd ([48 + m, 58, 32, 48 + a, 32, 48 + b, 32, 48 + c, 32, 48 + d, 32, 47, 32, 48 + t] ++ [47]) := by
  refine ⟨?_, ?_⟩ <;> simp [e32, e47, e58, sp, badW, numB, dig, StrLaws.replL, StrLaws.replS, hm, ht, ha, hb, hc, hd]
theorem bad_lead1 {m t a : Nat} (hm : ¬ m = 10) (ht : ¬ t = 10) (ha : ¬ a = 10) : Bd (StrLaws.replL [58, 32] [58, 32, 48, 49, 32] [48 + m, 58, 32, 48 + a, 32, 47, 32, 48 + t]) := by
  refine ⟨?_, ?_⟩ <;> simp [e32, e47, e58, sp, badW, numB, dig, StrLaws.replL, StrLaws.replS, hm, ht, ha]
theorem bad_lead2 {m t a b : Nat} (hm : ¬ m = 10) (ht : ¬ t = 10) (ha : ¬ a = 10) (hb : ¬ b = 10) : Bd (StrLaws.replL [58, 32] [58, 32, 48, 49, 32] [48 + m, 58, 32, 48 + a, 32, 48 + b, 32, 47, 32, 48 + t]) := by
  refine ⟨?_, ?_⟩ <;> simp [e32, e47, e58, sp, badW, numB, dig, StrLaws.replL, StrLaws.replS, hm, ht, ha, hb]
theorem bad_lead3 {m t a b c : Nat} (hm : ¬ m = 10) (ht : ¬ t = 10) (ha : ¬ a = 10) (hb : ¬ b = 10) (hc : ¬ c = 10) : Bd (StrLaws.replL [58, 32] [58, 32, 48, 49, 32] [48 + m, 58, 32, 48 + a, 32, 48 + b, 32, 48 + c, 32, 47, 32, 48 + t]) := by
  refine ⟨?_, ?_⟩ <;> simp [e32, e47, e58, sp, badW, numB, dig, StrLaws.replL, StrLaws.replS, hm, ht, ha, hb, hc]
theorem bad_lead4 {m t a b c d : Nat} (hm : ¬ m = 10) (ht : ¬ t = 10) (ha : ¬ a = 10) (hb : ¬ b = 10) (hc : ¬ c = 10) (hd : ¬ d = 10) : Bd (StrLaws.replL [58, 32] [58, 32, 48, 49, 32] [48 + m, 58, 32, 48 + a, 32, 48 + b, 32, 48 + c, 32, 48 + d, 32, 47, 32, 48 + t]) := by
  refine ⟨?_, ?_⟩ <;> simp [e32, e47, e58, sp, badW, numB, dig, StrLaws.replL, StrLaws.replS, hm, ht, ha, hb, hc, hd]
theorem bad_two1 {m t a : Nat} : Bd [48 + m, 58, 32, 32, 48 + a, 32, 47, 32, 48 + t] := by
  refine ⟨?_, ?_⟩ <;> simp [e32, e47, e58, sp, badW, numB, dig]
theorem bad_two2 {m t a b : Nat} : Bd [48 + m, 58, 32, 32, 48 + a, 32, 48 + b, 32, 47, 32, 48 + t] := by
  refine ⟨?_, ?_⟩ <;> simp [e32, e47, e58, sp, badW, numB, dig]
theorem bad_two3 {m t a b c : Nat} : Bd [48 + m, 58, 32, 32, 48 + a, 32, 48 + b, 32, 48 + c, 32, 47, 32, 48 + t] := by
  refine ⟨?_, ?_⟩ <;> simp [e32, e47, e58, sp, badW, numB, dig]
theorem bad_two4 {m t a b c d : Nat} : Bd [48 + m, 58, 32, 32, 48 + a, 32, 48 + b, 32, 48 + c, 32, 48 + d, 32, 47, 32, 48 + t] := by
  refine ⟨?_, ?_⟩ <;> simp [e32, e47, e58, sp, badW, numB, dig]
theorem bad_c0 : Bd [48, 58, 32, 47, 32, 49] := ⟨by decide +kernel, by decide⟩
theorem bad_c1 : Bd [48, 58, 32, 49, 32, 47, 32, 49, 48, 48, 48, 48] := ⟨by decide +kernel, by decide⟩
theorem bad_c2 : Bd [48, 58, 32, 43, 49, 32, 47, 32, 49] := ⟨by decide +kernel, by decide⟩
theorem bad_c3 : Bd [58, 32, 49, 32, 47, 32, 49] := ⟨by decide +kernel, by decide⟩
theorem bad_c4 : Bd [48, 58, 49, 32, 47, 32, 49] := ⟨by decide +kernel, by decide⟩
theorem bad_c5 : Bd [48, 58, 32, 49, 32, 47, 49] := ⟨by decide +kernel, by decide⟩
theorem bad_c6 : Bd [] := ⟨by decide +kernel, by decide⟩
structure Bads (X : List Nat) : Prop where
  len : X.length ≤ 14
  pos : X.length ≠ 0
  two : ∃ p q, X = p ++ 32 :: q ∧ 32 ∉ p ∧ Bd (p ++ ([32, 32] ++ q))
  blank : Bd (32 :: X)
  tail : Bd (X ++ [32])
  line : Bd (X ++ [10])
  nocolon : Bd (StrLaws.replL [58] [] X)
  noslash : Bd (StrLaws.replL [32, 47] [] X)
  more : Bd (X ++ [32, 49])
  glue : Bd (StrLaws.replL [58, 32] [58] X)
  bar : Bd (StrLaws.replL [47] [124] X)
  zero : Bd (48 :: X)
  cut : Bd X.dropLast
  cutx : Bd (X.dropLast ++ [120])
  xhead : Bd (120 :: X.drop 1)
  minus : Bd (45 :: X)
  slash : Bd (X ++ [47])
  lead : Bd (StrLaws.replL [58, 32] [58, 32, 48, 49, 32] X)
theorem bads1 {m t a : Nat} (hm : ¬ m = 10) (ht : ¬ t = 10) (ha : ¬ a = 10) : Bads [48 + m, 58, 32, 48 + a, 32, 47, 32, 48 + t] := ⟨by simp, by simp, ⟨[48 + m, 58], _, rfl, by simp; omega, bad_two1⟩, bad_blank1 hm ht ha, bad_tail1 hm ht ha, bad_line1 hm ht ha, bad_nocolon1 hm ht ha, bad_noslash1 hm ht ha, bad_more1 hm ht ha, bad_glue1 hm ht ha, bad_bar1 hm ht ha, bad_zero1 hm ht ha, bad_cut1 hm ht ha, bad_cutx1 hm ht ha, bad_xhead1 hm ht ha, bad_minus1 hm ht ha, bad_slash1 hm ht ha, bad_lead1 hm ht ha⟩
theorem bads2 {m t a b : Nat} (hm : ¬ m = 10) (ht : ¬ t = 10) (ha : ¬ a = 10) (hb : ¬ b = 10) : Bads [48 + m, 58, 32, 48 + a, 32, 48 + b, 32, 47, 32, 48 + t] := ⟨by simp, by simp, ⟨[48 + m, 58], _, rfl, by simp; omega, bad_two2⟩, bad_blank2 hm ht ha hb, bad_tail2 hm ht ha hb, bad_line2 hm ht ha hb, bad_nocolon2 hm ht ha hb, bad_noslash2 hm ht ha hb, bad_more2 hm ht ha hb, bad_glue2 hm ht ha hb, bad_bar2 hm ht ha hb, bad_zero2 hm ht ha hb, bad_cut2 hm ht ha hb, bad_cutx2 hm ht ha hb, bad_xhead2 hm ht ha hb, bad_minus2 hm ht ha hb, bad_slash2 hm ht ha hb, bad_lead2 hm ht ha hb⟩
theorem bads3 {m t a b c : Nat} (hm : ¬ m = 10) (ht : ¬ t = 10) (ha : ¬ a = 10) (hb : ¬ b = 10) (hc : ¬ c = 10) : Bads [48 + m, 58, 32, 48 + a, 32, 48 + b, 32, 48 + c, 32, 47, 32, 48 + t] := ⟨by simp, by simp, ⟨[48 + m, 58], _, rfl, by simp; omega, bad_two3⟩, bad_blank3 hm ht ha hb hc, bad_tail3 hm ht ha hb hc, bad_line3 hm ht ha hb hc, bad_nocolon3 hm ht ha hb hc, bad_noslash3 hm ht ha hb hc, bad_more3 hm ht ha hb hc, bad_glue3 hm ht ha hb hc, bad_bar3 hm ht ha hb hc, bad_zero3 hm ht ha hb hc, bad_cut3 hm ht ha hb hc, bad_cutx3 hm ht ha hb hc, bad_xhead3 hm ht ha hb hc, bad_minus3 hm ht ha hb hc, bad_slash3 hm ht ha hb hc, bad_lead3 hm ht ha hb hc⟩
theorem bads4 {m t a b c d : Nat} (hm : ¬ m = 10) (ht : ¬ t = 10) (ha : ¬ a = 10) (hb : ¬ b = 10) (hc : ¬ c = 10) (hd : ¬ d = 10) : Bads [48 + m, 58, 32, 48 + a, 32, 48 + b, 32, 48 + c, 32, 48 + d, 32, 47, 32, 48 + t] := ⟨by simp, by simp, ⟨[48 + m, 58], _, rfl, by simp; omega, bad_two4⟩, bad_blank4 hm ht ha hb hc hd, bad_tail4 hm ht ha hb hc hd, bad_line4 hm ht ha hb hc hd, bad_nocolon4 hm ht ha hb hc hd, bad_noslash4 hm ht ha hb hc hd, bad_more4 hm ht ha hb hc hd, bad_glue4 hm ht ha hb hc hd, bad_bar4 hm ht ha hb hc hd, bad_zero4 hm ht ha hb hc hd, bad_cut4 hm ht ha hb hc hd, bad_cutx4 hm ht ha hb hc hd, bad_xhead4 hm ht ha hb hc hd, bad_minus4 hm ht ha hb hc hd, bad_slash4 hm ht ha hb hc hd, bad_lead4 hm ht ha hb hc hd⟩
end Wb

set_option maxHeartbeats 400000
namespace Wb
open PySem PySem.Spec PyProof.Rows L2 Wx NdefX RZ StX Dn TL
open PySem.Builtin.Str (occurrences glued partsBetween)
theorem repl1_list {x z : Str} {p q : List Nat} (hx : tl x = p ++ 32 :: q) (hp : 32 ∉ p) : tl (repl1 x (Str.ofString " ") z) = p ++ (tl z ++ q) := by
  have ey : Str.ofString " " = (⟨#[32]⟩ : Str) := ext_tl blank_str
  rw [ey]
  have few := StrLaws.occ_length_le x (⟨#[32]⟩ : Str) 0 x.length 1
  have here : StrLaws.At x ⟨#[32]⟩ x.length p.length := (StrLaws.subAt_one x 32 p.length).mpr (by show (tl x)[p.length]? = some 32; rw [hx]; simp)
  rcases StrLaws.occ_head x (⟨#[32]⟩ : Str) 1 (Nat.le_refl 1) with ⟨_, hn⟩ | ⟨i, r, h0, hi, hn⟩
  · exact absurd here (hn _)
  have hi' : (tl x)[i]? = some 32 := (StrLaws.subAt_one x 32 i).mp hi
  have ei : i = p.length := by
    rcases Nat.lt_trichotomy i p.length with c | c | c
    · rw [hx, List.getElem?_append_left c] at hi'
      exact absurd (List.mem_of_getElem? hi') hp
    · exact c
    · exact absurd here (hn _ c)
  rw [h0, List.length_cons] at few
  have er : r = [] := List.length_eq_zero_iff.mp (by omega)
  subst er ei
  have lx : x.length = p.length + (q.length + 1) := by rw [len_tl, hx]; simp
  unfold repl1
  rw [h0, if_neg (by simp [Str.length])]
  show tl (glued z (partsBetween x [p.length] (⟨#[32]⟩ : Str).length)) = _
  have e2 : partsBetween x [p.length] (⟨#[32]⟩ : Str).length = [Builtin.Str.strSub x 0 p.length, Builtin.Str.strSub x (p.length + 1) x.length] := rfl
  rw [e2, StrLaws.glued_eq_join, tl_join]
  show tl (Builtin.Str.strSub x 0 p.length) ++ (tl z ++ tl (Builtin.Str.strSub x (p.length + 1) x.length)) = _
  rw [tl_strSub, tl_strSub, hx, lx]
  have a1 : (p ++ 32 :: q).drop (p.length + 1) = q := by simp
  rw [a1, List.drop_zero, Nat.sub_zero, List.take_left, List.take_of_length_le (by omega)]
def Bs (r : Str) : Prop := Bd (tl r)
theorem bs_app {x y : Str} {L : List Nat} (h : Bd L) (e : tl x ++ tl y = L) : Bs (x ++ y) := by
  unfold Bs
  rw [tl_append, e]
  exact h
theorem bs_repl {x y z : Str} {L : List Nat} (h : Bd L) (hy : 1 ≤ y.length) (e : StrLaws.replL (tl y) (tl z) (tl x) = L) : Bs (Txt.replace x y z) := by
  unfold Bs
  rw [show tl (Txt.replace x y z) = L from (StrLaws.replace_list hy).trans e]
  exact h
theorem w_wrong {z : Str} (B : Bads (tl z)) {Q : List Str → Prop} {E : Ex → Prop} (hq : ∀ rows, (∀ r ∈ rows, Bs r) → Q rows) : d_law_wrong_texts z Q E := by
  have lz : z.length ≤ 14 := by rw [len_tl]; exact B.len
  have z0 : z.length ≠ 0 := by rw [len_tl]; exact B.pos
  have k1 : (Str.ofString " ").length = 1 := by decide +kernel
  have k2 : (Str.ofString "\n").length = 1 := by decide +kernel
  have k3 : (Str.ofString "").length = 0 := by decide +kernel
  have k4 : (Str.ofString " 1").length = 2 := by decide +kernel
  have k5 : (Str.ofString "  ").length = 2 := by decide +kernel
  have k6 : (Str.ofString ":").length = 1 := by decide +kernel
  have k7 : (Str.ofString "|").length = 1 := by decide +kernel
  have k8 : (Str.ofString "0").length = 1 := by decide +kernel
  have k9 : (Str.ofString "x").length = 1 := by decide +kernel
  have ka : (Str.ofString "-").length = 1 := by decide +kernel
  have kb : (Str.ofString "/").length = 1 := by decide +kernel
  have kc : (Str.ofString ": 01 ").length = 5 := by decide +kernel
  have c1 : (cutS z none (some (-1))).length ≤ 14 := Nat.le_trans (cutS_length z _ _) lz
  have c2 : (cutS z (some 1) none).length ≤ 14 := Nat.le_trans (cutS_length z _ _) lz
  unfold d_law_wrong_texts
  (repeat (first | with_reducible refine r_rt ?_ | with_reducible refine r_bd ?_ | with_reducible refine r_se ?_ | with_reducible refine r_re ?_ | with_reducible refine r_nx ?_ | with_reducible refine r_if ?_ | with_reducible refine r_i1 ?_ | with_reducible refine r_fo ?_ | with_reducible refine r_ap ?_ | with_reducible refine r_ra ?_ | with_reducible refine r_nd ?_ | with_reducible refine r_noE ?_ | with_reducible refine r_pu ?_ | with_reducible refine r_bk ?_ | with_reducible refine r_ct ?_ | with_reducible refine r_trR ?_ | with_reducible refine r_trE ?_)); (try dsimp only [id])
  refine ⟨le_line (by omega), ?_⟩
  (repeat (first | with_reducible refine r_rt ?_ | with_reducible refine r_bd ?_ | with_reducible refine r_se ?_ | with_reducible refine r_re ?_ | with_reducible refine r_nx ?_ | with_reducible refine r_if ?_ | with_reducible refine r_i1 ?_ | with_reducible refine r_fo ?_ | with_reducible refine r_ap ?_ | with_reducible refine r_ra ?_ | with_reducible refine r_nd ?_ | with_reducible refine r_noE ?_ | with_reducible refine r_pu ?_ | with_reducible refine r_bk ?_ | with_reducible refine r_ct ?_ | with_reducible refine r_trR ?_ | with_reducible refine r_trE ?_)); (try dsimp only [id])
  refine ⟨le_line (by omega), ?_⟩
  (repeat (first | with_reducible refine r_rt ?_ | with_reducible refine r_bd ?_ | with_reducible refine r_se ?_ | with_reducible refine r_re ?_ | with_reducible refine r_nx ?_ | with_reducible refine r_if ?_ | with_reducible refine r_i1 ?_ | with_reducible refine r_fo ?_ | with_reducible refine r_ap ?_ | with_reducible refine r_ra ?_ | with_reducible refine r_nd ?_ | with_reducible refine r_noE ?_ | with_reducible refine r_pu ?_ | with_reducible refine r_bk ?_ | with_reducible refine r_ct ?_ | with_reducible refine r_trR ?_ | with_reducible refine r_trE ?_)); (try dsimp only [id])
  refine ⟨le_line (by omega), ?_⟩
  (repeat (first | with_reducible refine r_rt ?_ | with_reducible refine r_bd ?_ | with_reducible refine r_se ?_ | with_reducible refine r_re ?_ | with_reducible refine r_nx ?_ | with_reducible refine r_if ?_ | with_reducible refine r_i1 ?_ | with_reducible refine r_fo ?_ | with_reducible refine r_ap ?_ | with_reducible refine r_ra ?_ | with_reducible refine r_nd ?_ | with_reducible refine r_noE ?_ | with_reducible refine r_pu ?_ | with_reducible refine r_bk ?_ | with_reducible refine r_ct ?_ | with_reducible refine r_trR ?_ | with_reducible refine r_trE ?_)); (try dsimp only [id])
  refine ⟨⟨by decide +kernel, by rw [k3]; omega⟩, ?_⟩
  (repeat (first | with_reducible refine r_rt ?_ | with_reducible refine r_bd ?_ | with_reducible refine r_se ?_ | with_reducible refine r_re ?_ | with_reducible refine r_nx ?_ | with_reducible refine r_if ?_ | with_reducible refine r_i1 ?_ | with_reducible refine r_fo ?_ | with_reducible refine r_ap ?_ | with_reducible refine r_ra ?_ | with_reducible refine r_nd ?_ | with_reducible refine r_noE ?_ | with_reducible refine r_pu ?_ | with_reducible refine r_bk ?_ | with_reducible refine r_ct ?_ | with_reducible refine r_trR ?_ | with_reducible refine r_trE ?_)); (try dsimp only [id])
  refine ⟨⟨by decide +kernel, by rw [k3]; omega⟩, ?_⟩
  (repeat (first | with_reducible refine r_rt ?_ | with_reducible refine r_bd ?_ | with_reducible refine r_se ?_ | with_reducible refine r_re ?_ | with_reducible refine r_nx ?_ | with_reducible refine r_if ?_ | with_reducible refine r_i1 ?_ | with_reducible refine r_fo ?_ | with_reducible refine r_ap ?_ | with_reducible refine r_ra ?_ | with_reducible refine r_nd ?_ | with_reducible refine r_noE ?_ | with_reducible refine r_pu ?_ | with_reducible refine r_bk ?_ | with_reducible refine r_ct ?_ | with_reducible refine r_trR ?_ | with_reducible refine r_trE ?_)); (try dsimp only [id])
  refine ⟨le_line (by omega), ?_⟩
  (repeat (first | with_reducible refine r_rt ?_ | with_reducible refine r_bd ?_ | with_reducible refine r_se ?_ | with_reducible refine r_re ?_ | with_reducible refine r_nx ?_ | with_reducible refine r_if ?_ | with_reducible refine r_i1 ?_ | with_reducible refine r_fo ?_ | with_reducible refine r_ap ?_ | with_reducible refine r_ra ?_ | with_reducible refine r_nd ?_ | with_reducible refine r_noE ?_ | with_reducible refine r_pu ?_ | with_reducible refine r_bk ?_ | with_reducible refine r_ct ?_ | with_reducible refine r_trR ?_ | with_reducible refine r_trE ?_)); (try dsimp only [id])
  refine ⟨le_line (by simp), ?_⟩
  (repeat (first | with_reducible refine r_rt ?_ | with_reducible refine r_bd ?_ | with_reducible refine r_se ?_ | with_reducible refine r_re ?_ | with_reducible refine r_nx ?_ | with_reducible refine r_if ?_ | with_reducible refine r_i1 ?_ | with_reducible refine r_fo ?_ | with_reducible refine r_ap ?_ | with_reducible refine r_ra ?_ | with_reducible refine r_nd ?_ | with_reducible refine r_noE ?_ | with_reducible refine r_pu ?_ | with_reducible refine r_bk ?_ | with_reducible refine r_ct ?_ | with_reducible refine r_trR ?_ | with_reducible refine r_trE ?_)); (try dsimp only [id])
  refine ⟨⟨by decide +kernel, by rw [k5]; omega⟩, ?_⟩
  (repeat (first | with_reducible refine r_rt ?_ | with_reducible refine r_bd ?_ | with_reducible refine r_se ?_ | with_reducible refine r_re ?_ | with_reducible refine r_nx ?_ | with_reducible refine r_if ?_ | with_reducible refine r_i1 ?_ | with_reducible refine r_fo ?_ | with_reducible refine r_ap ?_ | with_reducible refine r_ra ?_ | with_reducible refine r_nd ?_ | with_reducible refine r_noE ?_ | with_reducible refine r_pu ?_ | with_reducible refine r_bk ?_ | with_reducible refine r_ct ?_ | with_reducible refine r_trR ?_ | with_reducible refine r_trE ?_)); (try dsimp only [id])
  refine ⟨⟨by decide +kernel, by rw [k6]; omega⟩, ?_⟩
  (repeat (first | with_reducible refine r_rt ?_ | with_reducible refine r_bd ?_ | with_reducible refine r_se ?_ | with_reducible refine r_re ?_ | with_reducible refine r_nx ?_ | with_reducible refine r_if ?_ | with_reducible refine r_i1 ?_ | with_reducible refine r_fo ?_ | with_reducible refine r_ap ?_ | with_reducible refine r_ra ?_ | with_reducible refine r_nd ?_ | with_reducible refine r_noE ?_ | with_reducible refine r_pu ?_ | with_reducible refine r_bk ?_ | with_reducible refine r_ct ?_ | with_reducible refine r_trR ?_ | with_reducible refine r_trE ?_)); (try dsimp only [id])
  refine ⟨⟨by decide +kernel, by rw [k7]; omega⟩, ?_⟩
  (repeat (first | with_reducible refine r_rt ?_ | with_reducible refine r_bd ?_ | with_reducible refine r_se ?_ | with_reducible refine r_re ?_ | with_reducible refine r_nx ?_ | with_reducible refine r_if ?_ | with_reducible refine r_i1 ?_ | with_reducible refine r_fo ?_ | with_reducible refine r_ap ?_ | with_reducible refine r_ra ?_ | with_reducible refine r_nd ?_ | with_reducible refine r_noE ?_ | with_reducible refine r_pu ?_ | with_reducible refine r_bk ?_ | with_reducible refine r_ct ?_ | with_reducible refine r_trR ?_ | with_reducible refine r_trE ?_)); (try dsimp only [id])
  refine ⟨le_line (by omega), ?_⟩
  (repeat (first | with_reducible refine r_rt ?_ | with_reducible refine r_bd ?_ | with_reducible refine r_se ?_ | with_reducible refine r_re ?_ | with_reducible refine r_nx ?_ | with_reducible refine r_if ?_ | with_reducible refine r_i1 ?_ | with_reducible refine r_fo ?_ | with_reducible refine r_ap ?_ | with_reducible refine r_ra ?_ | with_reducible refine r_nd ?_ | with_reducible refine r_noE ?_ | with_reducible refine r_pu ?_ | with_reducible refine r_bk ?_ | with_reducible refine r_ct ?_ | with_reducible refine r_trR ?_ | with_reducible refine r_trE ?_)); (try dsimp only [id])
  refine ⟨le_line (by simp), ?_⟩
  (repeat (first | with_reducible refine r_rt ?_ | with_reducible refine r_bd ?_ | with_reducible refine r_se ?_ | with_reducible refine r_re ?_ | with_reducible refine r_nx ?_ | with_reducible refine r_if ?_ | with_reducible refine r_i1 ?_ | with_reducible refine r_fo ?_ | with_reducible refine r_ap ?_ | with_reducible refine r_ra ?_ | with_reducible refine r_nd ?_ | with_reducible refine r_noE ?_ | with_reducible refine r_pu ?_ | with_reducible refine r_bk ?_ | with_reducible refine r_ct ?_ | with_reducible refine r_trR ?_ | with_reducible refine r_trE ?_)); (try dsimp only [id])
  refine ⟨le_line (by simp), ?_⟩
  (repeat (first | with_reducible refine r_rt ?_ | with_reducible refine r_bd ?_ | with_reducible refine r_se ?_ | with_reducible refine r_re ?_ | with_reducible refine r_nx ?_ | with_reducible refine r_if ?_ | with_reducible refine r_i1 ?_ | with_reducible refine r_fo ?_ | with_reducible refine r_ap ?_ | with_reducible refine r_ra ?_ | with_reducible refine r_nd ?_ | with_reducible refine r_noE ?_ | with_reducible refine r_pu ?_ | with_reducible refine r_bk ?_ | with_reducible refine r_ct ?_ | with_reducible refine r_trR ?_ | with_reducible refine r_trE ?_)); (try dsimp only [id])
  refine ⟨le_line (by omega), ?_⟩
  (repeat (first | with_reducible refine r_rt ?_ | with_reducible refine r_bd ?_ | with_reducible refine r_se ?_ | with_reducible refine r_re ?_ | with_reducible refine r_nx ?_ | with_reducible refine r_if ?_ | with_reducible refine r_i1 ?_ | with_reducible refine r_fo ?_ | with_reducible refine r_ap ?_ | with_reducible refine r_ra ?_ | with_reducible refine r_nd ?_ | with_reducible refine r_noE ?_ | with_reducible refine r_pu ?_ | with_reducible refine r_bk ?_ | with_reducible refine r_ct ?_ | with_reducible refine r_trR ?_ | with_reducible refine r_trE ?_)); (try dsimp only [id])
  refine ⟨le_line (by omega), ?_⟩
  (repeat (first | with_reducible refine r_rt ?_ | with_reducible refine r_bd ?_ | with_reducible refine r_se ?_ | with_reducible refine r_re ?_ | with_reducible refine r_nx ?_ | with_reducible refine r_if ?_ | with_reducible refine r_i1 ?_ | with_reducible refine r_fo ?_ | with_reducible refine r_ap ?_ | with_reducible refine r_ra ?_ | with_reducible refine r_nd ?_ | with_reducible refine r_noE ?_ | with_reducible refine r_pu ?_ | with_reducible refine r_bk ?_ | with_reducible refine r_ct ?_ | with_reducible refine r_trR ?_ | with_reducible refine r_trE ?_)); (try dsimp only [id])
  refine ⟨le_line (by rw [show (-(1 : Int)) = -1 from rfl]; omega), ?_⟩
  (repeat (first | with_reducible refine r_rt ?_ | with_reducible refine r_bd ?_ | with_reducible refine r_se ?_ | with_reducible refine r_re ?_ | with_reducible refine r_nx ?_ | with_reducible refine r_if ?_ | with_reducible refine r_i1 ?_ | with_reducible refine r_fo ?_ | with_reducible refine r_ap ?_ | with_reducible refine r_ra ?_ | with_reducible refine r_nd ?_ | with_reducible refine r_noE ?_ | with_reducible refine r_pu ?_ | with_reducible refine r_bk ?_ | with_reducible refine r_ct ?_ | with_reducible refine r_trR ?_ | with_reducible refine r_trE ?_)); (try dsimp only [id])
  refine ⟨le_line (by omega), ?_⟩
  (repeat (first | with_reducible refine r_rt ?_ | with_reducible refine r_bd ?_ | with_reducible refine r_se ?_ | with_reducible refine r_re ?_ | with_reducible refine r_nx ?_ | with_reducible refine r_if ?_ | with_reducible refine r_i1 ?_ | with_reducible refine r_fo ?_ | with_reducible refine r_ap ?_ | with_reducible refine r_ra ?_ | with_reducible refine r_nd ?_ | with_reducible refine r_noE ?_ | with_reducible refine r_pu ?_ | with_reducible refine r_bk ?_ | with_reducible refine r_ct ?_ | with_reducible refine r_trR ?_ | with_reducible refine r_trE ?_)); (try dsimp only [id])
  refine ⟨le_line (by omega), ?_⟩
  (repeat (first | with_reducible refine r_rt ?_ | with_reducible refine r_bd ?_ | with_reducible refine r_se ?_ | with_reducible refine r_re ?_ | with_reducible refine r_nx ?_ | with_reducible refine r_if ?_ | with_reducible refine r_i1 ?_ | with_reducible refine r_fo ?_ | with_reducible refine r_ap ?_ | with_reducible refine r_ra ?_ | with_reducible refine r_nd ?_ | with_reducible refine r_noE ?_ | with_reducible refine r_pu ?_ | with_reducible refine r_bk ?_ | with_reducible refine r_ct ?_ | with_reducible refine r_trR ?_ | with_reducible refine r_trE ?_)); (try dsimp only [id])
  refine ⟨le_line (by omega), ?_⟩
  (repeat (first | with_reducible refine r_rt ?_ | with_reducible refine r_bd ?_ | with_reducible refine r_se ?_ | with_reducible refine r_re ?_ | with_reducible refine r_nx ?_ | with_reducible refine r_if ?_ | with_reducible refine r_i1 ?_ | with_reducible refine r_fo ?_ | with_reducible refine r_ap ?_ | with_reducible refine r_ra ?_ | with_reducible refine r_nd ?_ | with_reducible refine r_noE ?_ | with_reducible refine r_pu ?_ | with_reducible refine r_bk ?_ | with_reducible refine r_ct ?_ | with_reducible refine r_trR ?_ | with_reducible refine r_trE ?_)); (try dsimp only [id])
  refine ⟨le_line (by omega), ?_⟩
  (repeat (first | with_reducible refine r_rt ?_ | with_reducible refine r_bd ?_ | with_reducible refine r_se ?_ | with_reducible refine r_re ?_ | with_reducible refine r_nx ?_ | with_reducible refine r_if ?_ | with_reducible refine r_i1 ?_ | with_reducible refine r_fo ?_ | with_reducible refine r_ap ?_ | with_reducible refine r_ra ?_ | with_reducible refine r_nd ?_ | with_reducible refine r_noE ?_ | with_reducible refine r_pu ?_ | with_reducible refine r_bk ?_ | with_reducible refine r_ct ?_ | with_reducible refine r_trR ?_ | with_reducible refine r_trE ?_)); (try dsimp only [id])
  refine ⟨⟨by decide +kernel, by rw [kc]; omega⟩, ?_⟩
  (repeat (first | with_reducible refine r_rt ?_ | with_reducible refine r_bd ?_ | with_reducible refine r_se ?_ | with_reducible refine r_re ?_ | with_reducible refine r_nx ?_ | with_reducible refine r_if ?_ | with_reducible refine r_i1 ?_ | with_reducible refine r_fo ?_ | with_reducible refine r_ap ?_ | with_reducible refine r_ra ?_ | with_reducible refine r_nd ?_ | with_reducible refine r_noE ?_ | with_reducible refine r_pu ?_ | with_reducible refine r_bk ?_ | with_reducible refine r_ct ?_ | with_reducible refine r_trR ?_ | with_reducible refine r_trE ?_)); (try dsimp only [id])
  refine ⟨le_line (by simp), ?_⟩
  (repeat (first | with_reducible refine r_rt ?_ | with_reducible refine r_bd ?_ | with_reducible refine r_se ?_ | with_reducible refine r_re ?_ | with_reducible refine r_nx ?_ | with_reducible refine r_if ?_ | with_reducible refine r_i1 ?_ | with_reducible refine r_fo ?_ | with_reducible refine r_ap ?_ | with_reducible refine r_ra ?_ | with_reducible refine r_nd ?_ | with_reducible refine r_noE ?_ | with_reducible refine r_pu ?_ | with_reducible refine r_bk ?_ | with_reducible refine r_ct ?_ | with_reducible refine r_trR ?_ | with_reducible refine r_trE ?_)); (try dsimp only [id])
  refine ⟨le_line (by simp), ?_⟩
  (repeat (first | with_reducible refine r_rt ?_ | with_reducible refine r_bd ?_ | with_reducible refine r_se ?_ | with_reducible refine r_re ?_ | with_reducible refine r_nx ?_ | with_reducible refine r_if ?_ | with_reducible refine r_i1 ?_ | with_reducible refine r_fo ?_ | with_reducible refine r_ap ?_ | with_reducible refine r_ra ?_ | with_reducible refine r_nd ?_ | with_reducible refine r_noE ?_ | with_reducible refine r_pu ?_ | with_reducible refine r_bk ?_ | with_reducible refine r_ct ?_ | with_reducible refine r_trR ?_ | with_reducible refine r_trE ?_)); (try dsimp only [id])
  refine ⟨le_line (by simp), ?_⟩
  (repeat (first | with_reducible refine r_rt ?_ | with_reducible refine r_bd ?_ | with_reducible refine r_se ?_ | with_reducible refine r_re ?_ | with_reducible refine r_nx ?_ | with_reducible refine r_if ?_ | with_reducible refine r_i1 ?_ | with_reducible refine r_fo ?_ | with_reducible refine r_ap ?_ | with_reducible refine r_ra ?_ | with_reducible refine r_nd ?_ | with_reducible refine r_noE ?_ | with_reducible refine r_pu ?_ | with_reducible refine r_bk ?_ | with_reducible refine r_ct ?_ | with_reducible refine r_trR ?_ | with_reducible refine r_trE ?_)); (try dsimp only [id])
  rw [show (-(1 : Int)) = -1 from rfl]
  obtain ⟨p, q, hx, hp, hb⟩ := B.two
  refine hq _ fun r m => ?_
  simp only [List.mem_append, List.mem_cons, List.not_mem_nil, or_false] at m
  rcases m with (((e | e | e | e | e | e | e) | e | e | e | e) | e | e | e | e | e | e) | e | e | e | e | e | e <;> subst e
  · exact bad_c6
  · exact bs_app B.blank (by rw [blank_str]; rfl)
  · exact bs_app B.tail (by rw [blank_str])
  · exact bs_app B.line (by rw [show tl (Str.ofString "\n") = [10] by decide +kernel])
  · exact bs_repl B.nocolon (by rw [k6]; exact Nat.le_refl 1) (by rw [colon_str, show tl (Str.ofString "") = [] by decide +kernel])
  · exact bs_repl B.noslash (by decide +kernel) (by rw [show tl (Str.ofString " /") = [32, 47] by decide +kernel, show tl (Str.ofString "") = [] by decide +kernel])
  · exact bs_app B.more (by rw [show tl (Str.ofString " 1") = [32, 49] by decide +kernel])
  · unfold Bs
    rw [repl1_list hx hp, show tl (Str.ofString "  ") = [32, 32] by decide +kernel]
    exact hb
  · exact bs_repl B.glue (by decide +kernel) (by rw [c_str, colon_str])
  · exact bs_repl B.bar (by decide +kernel) (by rw [slash_str, show tl (Str.ofString "|") = [124] by decide +kernel])
  · exact bs_app B.zero (by rw [zero_str]; rfl)
  · unfold Bs
    rw [tl_cut1]
    exact B.cut
  · exact bs_app B.cutx (by rw [tl_cut1, show tl (Str.ofString "x") = [120] by decide +kernel])
  · exact bs_app B.xhead (by rw [tl_cut2 z z0, show tl (Str.ofString "x") = [120] by decide +kernel]; rfl)
  · exact bs_app B.minus (by rw [show tl (Str.ofString "-") = [45] by decide +kernel]; rfl)
  · exact bs_app B.slash (by rw [slash_str])
  · exact bs_repl B.lead (by decide +kernel) (by rw [c_str, show tl (Str.ofString ": 01 ") = [58, 32, 48, 49, 32] by decide +kernel])
  · unfold Bs
    rw [show tl (Str.ofString "0: / 1") = [48, 58, 32, 47, 32, 49] by decide +kernel]
    exact bad_c0
  · unfold Bs
    rw [show tl (Str.ofString "0: 1 / 10000") = [48, 58, 32, 49, 32, 47, 32, 49, 48, 48, 48, 48] by decide +kernel]
    exact bad_c1
  · unfold Bs
    rw [show tl (Str.ofString "0: +1 / 1") = [48, 58, 32, 43, 49, 32, 47, 32, 49] by decide +kernel]
    exact bad_c2
  · unfold Bs
    rw [show tl (Str.ofString ": 1 / 1") = [58, 32, 49, 32, 47, 32, 49] by decide +kernel]
    exact bad_c3
  · unfold Bs
    rw [show tl (Str.ofString "0:1 / 1") = [48, 58, 49, 32, 47, 32, 49] by decide +kernel]
    exact bad_c4
  · unfold Bs
    rw [show tl (Str.ofString "0: 1 /1") = [48, 58, 32, 49, 32, 47, 49] by decide +kernel]
    exact bad_c5
end Wb

set_option maxHeartbeats 400000
namespace Wb
open PySem PySem.Spec PyProof.Rows L2 Wx NdefX RZ StX Dn TL
theorem range_len (n : Int) : (rangeI 0 n).length = n.toNat := by
  unfold rangeI
  simp
theorem nats_of : ∀ levels : List Int, (∀ i ∈ levels, 0 ≤ i) → ∃ ls : List Nat, levels = nats ls
  | [], _ => ⟨[], rfl⟩
  | i :: is, h => by
    obtain ⟨ls, e⟩ := nats_of is fun j m => h j (List.mem_cons_of_mem _ m)
    refine ⟨i.toNat :: ls, ?_⟩
    rw [e]
    show _ = ((i.toNat : Nat) : Int) :: nats ls
    rw [Int.toNat_of_nonneg (h i List.mem_cons_self)]
theorem nats_mem {ls : List Nat} {n : Nat} (h : n ∈ ls) : (n : Int) ∈ nats ls := List.mem_map.mpr ⟨n, h, rfl⟩
theorem nats_len (ls : List Nat) : (nats ls).length = ls.length := by unfold nats; rw [List.length_map]
/-- an answer of the reading that tells a number -/
abbrev Ans (Q : StandingV ⊕ (Str × Int) → Prop) : Ex → Prop := fun e => (∃ n, e = .text n ∧ Q (.inr (Str.ofString "line", n))) ∨ ∃ w n, e = .number w (V.int n) ∧ w ≠ Str.ofString "read" ∧ Q (.inr (w, n))
theorem w_told_text {z : Str} {m t : Nat} {ls : List Nat} (hz : tl z = TX m ls t) (hm : m < 10000) (ht : t < 10000) (h0 : ls ≠ []) (hl : ls.length ≤ 100) (h : ∀ n ∈ ls, n < 10000) {Q : StandingV ⊕ (Str × Int) → Prop} {E : Ex → Prop}
    (hq : dStanding___init__ (nats ls) (t : Int) (m : Int) (fun s => Q (.inl s)) (Ans Q)) : d_law_told z Q E := by
  have len : (tl z).length ≤ 900 := by
    rw [hz]
    exact Nat.le_trans (TX_len (by omega) (by omega) hl fun n mn => Nat.lt_of_lt_of_le (h n mn) (by decide)) (by decide)
  refine w_told z (w_read_ok z len (M := numL m) (T := numL t) (L := ls.map numL) (by rw [hz, sp_TX]; rfl) (fun e => h0 (List.map_eq_nil_iff.mp e)) (numB_num hm) (numB_num ht) (fun l ml => ?_) ?_)
  · obtain ⟨n, mn, rfl⟩ := List.mem_map.mp ml
    exact numB_num (h n mn)
  · rw [numL_val, numL_val, List.map_map, show (ls.map ((fun l => ((NumText.digitsVal l : Nat) : Int)) ∘ numL)) = nats ls from List.map_congr_left fun n _ => by show ((NumText.digitsVal (numL n) : Nat) : Int) = _; rw [numL_val]]
    exact hq
theorem w_told_bad {z : Str} (h : Bs z) {Q : StandingV ⊕ (Str × Int) → Prop} {E : Ex → Prop} (hq : Q (.inr (Str.ofString "line", 1))) : d_law_told z Q E := w_told z (w_read_bad z h.2 h.1 (.inl ⟨1, rfl, hq⟩))
theorem show_int (n : Int) : ShowOk (V.int n) := .inr (.inl ⟨n, rfl⟩)
/-- a comprehension that ends at an item that raises -/
theorem lc_stop {α β : Type} {f : α → WP (Option β)} {g : α → β} {Q : List β → Prop} {E : Ex → Prop} {a : α} {post : List α} : ∀ (pre : List α) (acc : List β), (∀ b ∈ pre, ∀ Q, Q (some (g b)) → f b Q E) → (∀ Q, f a Q E) → acc.length + pre.length ≤ sizeLine → lcW f (pre ++ a :: post) acc Q E
  | [], acc, _, h, _ => h _
  | b :: pre, acc, hf, h, hl => by
    rw [List.length_cons] at hl
    exact hf b List.mem_cons_self _ ⟨by omega, lc_stop pre (acc ++ [g b]) (fun c m => hf c (List.mem_cons_of_mem _ m)) h (by rw [List.length_append, List.length_singleton]; omega)⟩
theorem units_no {pre post : List Nat} {far : Nat} (hp : ∀ n ∈ pre, n ≤ 8) (hl : pre.length ≤ 100) (hf : 8 < far) {z : Str} (hz : z.length ≤ 1000) {Q : List Int → Prop} {E : Ex → Prop} (h : E (.number z (V.int far))) : dcheck_units z (nats (pre ++ far :: post)) Q E := by
  unfold dcheck_units
  (repeat (first | with_reducible refine r_rt ?_ | with_reducible refine r_bd ?_ | with_reducible refine r_se ?_ | with_reducible refine r_re ?_ | with_reducible refine r_nx ?_ | with_reducible refine r_if ?_ | with_reducible refine r_i1 ?_ | with_reducible refine r_fo ?_ | with_reducible refine r_ap ?_ | with_reducible refine r_ra ?_ | with_reducible refine r_nd ?_ | with_reducible refine r_noE ?_ | with_reducible refine r_pu ?_ | with_reducible refine r_bk ?_ | with_reducible refine r_ct ?_ | with_reducible refine r_trR ?_ | with_reducible refine r_trE ?_)); (try dsimp only [id])
  have e : nats (pre ++ far :: post) = nats pre ++ (far : Int) :: nats post := by unfold nats; rw [List.map_append, List.map_cons]
  rw [e]
  refine lc_stop (g := fun n => n) _ [] (fun b m Q hq => ?_) (fun Q => ?_) (by rw [List.length_nil, Nat.zero_add, nats_len]; exact le_line (by omega))
  · (repeat (first | with_reducible refine r_rt ?_ | with_reducible refine r_bd ?_ | with_reducible refine r_se ?_ | with_reducible refine r_re ?_ | with_reducible refine r_nx ?_ | with_reducible refine r_if ?_ | with_reducible refine r_i1 ?_ | with_reducible refine r_fo ?_ | with_reducible refine r_ap ?_ | with_reducible refine r_ra ?_ | with_reducible refine r_nd ?_ | with_reducible refine r_noE ?_ | with_reducible refine r_pu ?_ | with_reducible refine r_bk ?_ | with_reducible refine r_ct ?_ | with_reducible refine r_trR ?_ | with_reducible refine r_trE ?_)); (try dsimp only [id])
    rw [if_pos rfl]
    (repeat (first | with_reducible refine r_rt ?_ | with_reducible refine r_bd ?_ | with_reducible refine r_se ?_ | with_reducible refine r_re ?_ | with_reducible refine r_nx ?_ | with_reducible refine r_if ?_ | with_reducible refine r_i1 ?_ | with_reducible refine r_fo ?_ | with_reducible refine r_ap ?_ | with_reducible refine r_ra ?_ | with_reducible refine r_nd ?_ | with_reducible refine r_noE ?_ | with_reducible refine r_pu ?_ | with_reducible refine r_bk ?_ | with_reducible refine r_ct ?_ | with_reducible refine r_trR ?_ | with_reducible refine r_trE ?_)); (try dsimp only [id])
    obtain ⟨n, mn, rfl⟩ := List.mem_map.mp m
    exact w_check _ _ _ _ (by omega) (by have := hp n mn; omega) hq
  · (repeat (first | with_reducible refine r_rt ?_ | with_reducible refine r_bd ?_ | with_reducible refine r_se ?_ | with_reducible refine r_re ?_ | with_reducible refine r_nx ?_ | with_reducible refine r_if ?_ | with_reducible refine r_i1 ?_ | with_reducible refine r_fo ?_ | with_reducible refine r_ap ?_ | with_reducible refine r_ra ?_ | with_reducible refine r_nd ?_ | with_reducible refine r_noE ?_ | with_reducible refine r_pu ?_ | with_reducible refine r_bk ?_ | with_reducible refine r_ct ?_ | with_reducible refine r_trR ?_ | with_reducible refine r_trE ?_)); (try dsimp only [id])
    rw [if_pos rfl]
    (repeat (first | with_reducible refine r_rt ?_ | with_reducible refine r_bd ?_ | with_reducible refine r_se ?_ | with_reducible refine r_re ?_ | with_reducible refine r_nx ?_ | with_reducible refine r_if ?_ | with_reducible refine r_i1 ?_ | with_reducible refine r_fo ?_ | with_reducible refine r_ap ?_ | with_reducible refine r_ra ?_ | with_reducible refine r_nd ?_ | with_reducible refine r_noE ?_ | with_reducible refine r_pu ?_ | with_reducible refine r_bk ?_ | with_reducible refine r_ct ?_ | with_reducible refine r_trR ?_ | with_reducible refine r_trE ?_)); (try dsimp only [id])
    exact w_check_no _ _ _ _ (.inr (by omega)) hz (show_int _) h
theorem units_ok {ls : List Nat} (h : ∀ n ∈ ls, n ≤ 8) (hl : ls.length ≤ 100) {z : Str} {Q : List Int → Prop} {E : Ex → Prop} (hq : Q (nats ls)) : dcheck_units z (nats ls) Q E := by
  unfold dcheck_units
  (repeat (first | with_reducible refine r_rt ?_ | with_reducible refine r_bd ?_ | with_reducible refine r_se ?_ | with_reducible refine r_re ?_ | with_reducible refine r_nx ?_ | with_reducible refine r_if ?_ | with_reducible refine r_i1 ?_ | with_reducible refine r_fo ?_ | with_reducible refine r_ap ?_ | with_reducible refine r_ra ?_ | with_reducible refine r_nd ?_ | with_reducible refine r_noE ?_ | with_reducible refine r_pu ?_ | with_reducible refine r_bk ?_ | with_reducible refine r_ct ?_ | with_reducible refine r_trR ?_ | with_reducible refine r_trE ?_)); (try dsimp only [id])
  refine lc_map (g := fun n => n) _ [] (fun b m Q E hq => ?_) (by rw [List.length_nil, Nat.zero_add, nats_len]; exact le_line (by omega)) ?_
  · (repeat (first | with_reducible refine r_rt ?_ | with_reducible refine r_bd ?_ | with_reducible refine r_se ?_ | with_reducible refine r_re ?_ | with_reducible refine r_nx ?_ | with_reducible refine r_if ?_ | with_reducible refine r_i1 ?_ | with_reducible refine r_fo ?_ | with_reducible refine r_ap ?_ | with_reducible refine r_ra ?_ | with_reducible refine r_nd ?_ | with_reducible refine r_noE ?_ | with_reducible refine r_pu ?_ | with_reducible refine r_bk ?_ | with_reducible refine r_ct ?_ | with_reducible refine r_trR ?_ | with_reducible refine r_trE ?_)); (try dsimp only [id])
    rw [if_pos rfl]
    (repeat (first | with_reducible refine r_rt ?_ | with_reducible refine r_bd ?_ | with_reducible refine r_se ?_ | with_reducible refine r_re ?_ | with_reducible refine r_nx ?_ | with_reducible refine r_if ?_ | with_reducible refine r_i1 ?_ | with_reducible refine r_fo ?_ | with_reducible refine r_ap ?_ | with_reducible refine r_ra ?_ | with_reducible refine r_nd ?_ | with_reducible refine r_noE ?_ | with_reducible refine r_pu ?_ | with_reducible refine r_bk ?_ | with_reducible refine r_ct ?_ | with_reducible refine r_trR ?_ | with_reducible refine r_trE ?_)); (try dsimp only [id])
    obtain ⟨n, mn, rfl⟩ := List.mem_map.mp m
    exact w_check _ _ _ _ (by omega) (by have := h n mn; omega) hq
  rw [List.nil_append, List.map_id']
  (repeat (first | with_reducible refine r_rt ?_ | with_reducible refine r_bd ?_ | with_reducible refine r_se ?_ | with_reducible refine r_re ?_ | with_reducible refine r_nx ?_ | with_reducible refine r_if ?_ | with_reducible refine r_i1 ?_ | with_reducible refine r_fo ?_ | with_reducible refine r_ap ?_ | with_reducible refine r_ra ?_ | with_reducible refine r_nd ?_ | with_reducible refine r_noE ?_ | with_reducible refine r_pu ?_ | with_reducible refine r_bk ?_ | with_reducible refine r_ct ?_ | with_reducible refine r_trR ?_ | with_reducible refine r_trE ?_)); (try dsimp only [id])
  exact hq
theorem len_plots : (Str.ofString "plots").length ≤ 1000 := by decide +kernel
theorem len_level : (Str.ofString "level").length ≤ 1000 := by decide +kernel
theorem len_tank : (Str.ofString "tank").length ≤ 1000 := by decide +kernel
theorem len_mood : (Str.ofString "mood").length ≤ 1000 := by decide +kernel
theorem init_plots {ls : List Nat} {t m : Int} (h : 4 < ls.length) {Q : StandingV → Prop} {E : Ex → Prop} (he : E (.number (Str.ofString "plots") (V.int (ls.length : Int)))) : dStanding___init__ (nats ls) t m Q E := by
  unfold dStanding___init__
  (repeat (first | with_reducible refine r_rt ?_ | with_reducible refine r_bd ?_ | with_reducible refine r_se ?_ | with_reducible refine r_re ?_ | with_reducible refine r_nx ?_ | with_reducible refine r_if ?_ | with_reducible refine r_i1 ?_ | with_reducible refine r_fo ?_ | with_reducible refine r_ap ?_ | with_reducible refine r_ra ?_ | with_reducible refine r_nd ?_ | with_reducible refine r_noE ?_ | with_reducible refine r_pu ?_ | with_reducible refine r_bk ?_ | with_reducible refine r_ct ?_ | with_reducible refine r_trR ?_ | with_reducible refine r_trE ?_)); (try dsimp only [id])
  rw [nats_len]
  exact w_check_no _ _ _ _ (.inr (by omega)) len_plots (show_int _) he
theorem init_level {pre post : List Nat} {far : Nat} {t m : Int} (hp : ∀ n ∈ pre, n ≤ 8) (hl : (pre ++ far :: post).length ≤ 4) (hf : 8 < far) {Q : StandingV → Prop} {E : Ex → Prop} (he : E (.number (Str.ofString "level") (V.int far))) : dStanding___init__ (nats (pre ++ far :: post)) t m Q E := by
  unfold dStanding___init__
  (repeat (first | with_reducible refine r_rt ?_ | with_reducible refine r_bd ?_ | with_reducible refine r_se ?_ | with_reducible refine r_re ?_ | with_reducible refine r_nx ?_ | with_reducible refine r_if ?_ | with_reducible refine r_i1 ?_ | with_reducible refine r_fo ?_ | with_reducible refine r_ap ?_ | with_reducible refine r_ra ?_ | with_reducible refine r_nd ?_ | with_reducible refine r_noE ?_ | with_reducible refine r_pu ?_ | with_reducible refine r_bk ?_ | with_reducible refine r_ct ?_ | with_reducible refine r_trR ?_ | with_reducible refine r_trE ?_)); (try dsimp only [id])
  have ln : (pre ++ far :: post).length = pre.length + (post.length + 1) := by simp
  refine w_check _ _ _ _ (by rw [nats_len]; omega) (by rw [nats_len]; omega) ?_
  (repeat (first | with_reducible refine r_rt ?_ | with_reducible refine r_bd ?_ | with_reducible refine r_se ?_ | with_reducible refine r_re ?_ | with_reducible refine r_nx ?_ | with_reducible refine r_if ?_ | with_reducible refine r_i1 ?_ | with_reducible refine r_fo ?_ | with_reducible refine r_ap ?_ | with_reducible refine r_ra ?_ | with_reducible refine r_nd ?_ | with_reducible refine r_noE ?_ | with_reducible refine r_pu ?_ | with_reducible refine r_bk ?_ | with_reducible refine r_ct ?_ | with_reducible refine r_trR ?_ | with_reducible refine r_trE ?_)); (try dsimp only [id])
  exact units_no hp (by omega) hf len_level he
theorem init_tank {ls : List Nat} {t m : Int} (h1 : 1 ≤ ls.length) (h4 : ls.length ≤ 4) (h : ∀ n ∈ ls, n ≤ 8) (ht : 8 < t) {Q : StandingV → Prop} {E : Ex → Prop} (he : E (.number (Str.ofString "tank") (V.int t))) : dStanding___init__ (nats ls) t m Q E := by
  unfold dStanding___init__
  (repeat (first | with_reducible refine r_rt ?_ | with_reducible refine r_bd ?_ | with_reducible refine r_se ?_ | with_reducible refine r_re ?_ | with_reducible refine r_nx ?_ | with_reducible refine r_if ?_ | with_reducible refine r_i1 ?_ | with_reducible refine r_fo ?_ | with_reducible refine r_ap ?_ | with_reducible refine r_ra ?_ | with_reducible refine r_nd ?_ | with_reducible refine r_noE ?_ | with_reducible refine r_pu ?_ | with_reducible refine r_bk ?_ | with_reducible refine r_ct ?_ | with_reducible refine r_trR ?_ | with_reducible refine r_trE ?_)); (try dsimp only [id])
  refine w_check _ _ _ _ (by rw [nats_len]; omega) (by rw [nats_len]; omega) ?_
  (repeat (first | with_reducible refine r_rt ?_ | with_reducible refine r_bd ?_ | with_reducible refine r_se ?_ | with_reducible refine r_re ?_ | with_reducible refine r_nx ?_ | with_reducible refine r_if ?_ | with_reducible refine r_i1 ?_ | with_reducible refine r_fo ?_ | with_reducible refine r_ap ?_ | with_reducible refine r_ra ?_ | with_reducible refine r_nd ?_ | with_reducible refine r_noE ?_ | with_reducible refine r_pu ?_ | with_reducible refine r_bk ?_ | with_reducible refine r_ct ?_ | with_reducible refine r_trR ?_ | with_reducible refine r_trE ?_)); (try dsimp only [id])
  refine units_ok h (by omega) ?_
  (repeat (first | with_reducible refine r_rt ?_ | with_reducible refine r_bd ?_ | with_reducible refine r_se ?_ | with_reducible refine r_re ?_ | with_reducible refine r_nx ?_ | with_reducible refine r_if ?_ | with_reducible refine r_i1 ?_ | with_reducible refine r_fo ?_ | with_reducible refine r_ap ?_ | with_reducible refine r_ra ?_ | with_reducible refine r_nd ?_ | with_reducible refine r_noE ?_ | with_reducible refine r_pu ?_ | with_reducible refine r_bk ?_ | with_reducible refine r_ct ?_ | with_reducible refine r_trR ?_ | with_reducible refine r_trE ?_)); (try dsimp only [id])
  exact w_check_no _ _ _ _ (.inr ht) len_tank (show_int _) he
theorem init_mood {ls : List Nat} {t m : Int} (h1 : 1 ≤ ls.length) (h4 : ls.length ≤ 4) (h : ∀ n ∈ ls, n ≤ 8) (t0 : 0 ≤ t) (t8 : t ≤ 8) (hm : 3 < m) {Q : StandingV → Prop} {E : Ex → Prop} (he : E (.number (Str.ofString "mood") (V.int m))) : dStanding___init__ (nats ls) t m Q E := by
  unfold dStanding___init__
  (repeat (first | with_reducible refine r_rt ?_ | with_reducible refine r_bd ?_ | with_reducible refine r_se ?_ | with_reducible refine r_re ?_ | with_reducible refine r_nx ?_ | with_reducible refine r_if ?_ | with_reducible refine r_i1 ?_ | with_reducible refine r_fo ?_ | with_reducible refine r_ap ?_ | with_reducible refine r_ra ?_ | with_reducible refine r_nd ?_ | with_reducible refine r_noE ?_ | with_reducible refine r_pu ?_ | with_reducible refine r_bk ?_ | with_reducible refine r_ct ?_ | with_reducible refine r_trR ?_ | with_reducible refine r_trE ?_)); (try dsimp only [id])
  refine w_check _ _ _ _ (by rw [nats_len]; omega) (by rw [nats_len]; omega) ?_
  (repeat (first | with_reducible refine r_rt ?_ | with_reducible refine r_bd ?_ | with_reducible refine r_se ?_ | with_reducible refine r_re ?_ | with_reducible refine r_nx ?_ | with_reducible refine r_if ?_ | with_reducible refine r_i1 ?_ | with_reducible refine r_fo ?_ | with_reducible refine r_ap ?_ | with_reducible refine r_ra ?_ | with_reducible refine r_nd ?_ | with_reducible refine r_noE ?_ | with_reducible refine r_pu ?_ | with_reducible refine r_bk ?_ | with_reducible refine r_ct ?_ | with_reducible refine r_trR ?_ | with_reducible refine r_trE ?_)); (try dsimp only [id])
  refine units_ok h (by omega) ?_
  (repeat (first | with_reducible refine r_rt ?_ | with_reducible refine r_bd ?_ | with_reducible refine r_se ?_ | with_reducible refine r_re ?_ | with_reducible refine r_nx ?_ | with_reducible refine r_if ?_ | with_reducible refine r_i1 ?_ | with_reducible refine r_fo ?_ | with_reducible refine r_ap ?_ | with_reducible refine r_ra ?_ | with_reducible refine r_nd ?_ | with_reducible refine r_noE ?_ | with_reducible refine r_pu ?_ | with_reducible refine r_bk ?_ | with_reducible refine r_ct ?_ | with_reducible refine r_trR ?_ | with_reducible refine r_trE ?_)); (try dsimp only [id])
  refine w_check _ _ _ _ t0 t8 ?_
  (repeat (first | with_reducible refine r_rt ?_ | with_reducible refine r_bd ?_ | with_reducible refine r_se ?_ | with_reducible refine r_re ?_ | with_reducible refine r_nx ?_ | with_reducible refine r_if ?_ | with_reducible refine r_i1 ?_ | with_reducible refine r_fo ?_ | with_reducible refine r_ap ?_ | with_reducible refine r_ra ?_ | with_reducible refine r_nd ?_ | with_reducible refine r_noE ?_ | with_reducible refine r_pu ?_ | with_reducible refine r_bk ?_ | with_reducible refine r_ct ?_ | with_reducible refine r_trR ?_ | with_reducible refine r_trE ?_)); (try dsimp only [id])
  exact w_check_no _ _ _ _ (.inr (by omega)) len_mood (show_int _) he
theorem bads_TX {m t : Nat} {ls : List Nat} (hm : m < 10) (ht : t < 10) (h1 : 1 ≤ ls.length) (h4 : ls.length ≤ 4) (h : ∀ n ∈ ls, n < 10) : Bads (TX m ls t) := by
  have num : ∀ {n : Nat}, n < 10 → numL n = [48 + n] := fun h => numL_lt h
  have no : ∀ {n : Nat}, n < 10 → ¬ n = 10 := fun h => Nat.ne_of_lt h
  match ls, h1, h4, h with
  | [a], _, _, h =>
    have ha := h a (by simp)
    have e : TX m [a] t = [48 + m, 58, 32, 48 + a, 32, 47, 32, 48 + t] := by unfold TX parts; rw [num hm, num ht, List.map_cons, num ha]; rfl
    rw [e]
    exact bads1 (no hm) (no ht) (no ha)
  | [a, b], _, _, h =>
    have ha := h a (by simp)
    have hb := h b (by simp)
    have e : TX m [a, b] t = [48 + m, 58, 32, 48 + a, 32, 48 + b, 32, 47, 32, 48 + t] := by unfold TX parts; rw [num hm, num ht, List.map_cons, List.map_cons, num ha, num hb]; rfl
    rw [e]
    exact bads2 (no hm) (no ht) (no ha) (no hb)
  | [a, b, c], _, _, h =>
    have ha := h a (by simp)
    have hb := h b (by simp)
    have hc := h c (by simp)
    have e : TX m [a, b, c] t = [48 + m, 58, 32, 48 + a, 32, 48 + b, 32, 48 + c, 32, 47, 32, 48 + t] := by unfold TX parts; rw [num hm, num ht, List.map_cons, List.map_cons, List.map_cons, num ha, num hb, num hc]; rfl
    rw [e]
    exact bads3 (no hm) (no ht) (no ha) (no hb) (no hc)
  | [a, b, c, d], _, _, h =>
    have ha := h a (by simp)
    have hb := h b (by simp)
    have hc := h c (by simp)
    have hd := h d (by simp)
    have e : TX m [a, b, c, d] t = [48 + m, 58, 32, 48 + a, 32, 48 + b, 32, 48 + c, 32, 48 + d, 32, 47, 32, 48 + t] := by unfold TX parts; rw [num hm, num ht, List.map_cons, List.map_cons, List.map_cons, List.map_cons, num ha, num hb, num hc, num hd]; rfl
    rw [e]
    exact bads4 (no hm) (no ht) (no ha) (no hb) (no hc) (no hd)
theorem bad_mood {z : Str} {m t : Nat} {ls : List Nat} (hz : tl z = TX m ls t) (hm : 10000 ≤ m) (h5 : m < 100000) (ht : t < 10000) (h0 : ls ≠ []) (hl : ls.length ≤ 100) (h : ∀ n ∈ ls, n < 10000) : Bs z := by
  unfold Bs
  rw [hz]
  refine ⟨?_, Nat.le_trans (TX_len h5 (by omega) hl fun n mn => Nat.lt_of_lt_of_le (h n mn) (by decide)) (by decide)⟩
  rw [sp_TX]
  have e : numB (numL m) = false := numB_big hm
  show (_ || !(((numL m ++ [58]).dropLast :: _).all numB)) = true
  rw [List.dropLast_concat, List.all_cons, e, Bool.false_and, Bool.not_false, Bool.or_true]
end Wb

set_option maxHeartbeats 400000
namespace Wb
open PySem PySem.Spec PyProof.Rows L2 Wx NdefX RZ StX Dn TL
theorem ne_line : Str.ofString "line" ≠ Str.ofString "read" := by decide +kernel
theorem ne_level : Str.ofString "level" ≠ Str.ofString "read" := by decide +kernel
theorem ne_tank : Str.ofString "tank" ≠ Str.ofString "read" := by decide +kernel
theorem ne_mood : Str.ofString "mood" ≠ Str.ofString "read" := by decide +kernel
theorem ne_plots : Str.ofString "plots" ≠ Str.ofString "read" := by decide +kernel
theorem law_true : dlaw (fun b => b = true) (fun _ => False) := by
  unfold dlaw
  (repeat (first | with_reducible refine r_rt ?_ | with_reducible refine r_bd ?_ | with_reducible refine r_se ?_ | with_reducible refine r_re ?_ | with_reducible refine r_nx ?_ | with_reducible refine r_if ?_ | with_reducible refine r_i1 ?_ | with_reducible refine r_fo ?_ | with_reducible refine r_ap ?_ | with_reducible refine r_ra ?_ | with_reducible refine r_nd ?_ | with_reducible refine r_noE ?_ | with_reducible refine r_pu ?_ | with_reducible refine r_bk ?_ | with_reducible refine r_ct ?_ | with_reducible refine r_trR ?_ | with_reducible refine r_trE ?_)); (try dsimp only [id])
  refine w_draw _ (by decide) (by decide) fun n n0 n4 => ?_
  (repeat (first | with_reducible refine r_rt ?_ | with_reducible refine r_bd ?_ | with_reducible refine r_se ?_ | with_reducible refine r_re ?_ | with_reducible refine r_nx ?_ | with_reducible refine r_if ?_ | with_reducible refine r_i1 ?_ | with_reducible refine r_fo ?_ | with_reducible refine r_ap ?_ | with_reducible refine r_ra ?_ | with_reducible refine r_nd ?_ | with_reducible refine r_noE ?_ | with_reducible refine r_pu ?_ | with_reducible refine r_bk ?_ | with_reducible refine r_ct ?_ | with_reducible refine r_trR ?_ | with_reducible refine r_trE ?_)); (try dsimp only [id])
  refine ⟨⟨by omega, by omega⟩, ?_⟩
  (repeat (first | with_reducible refine r_rt ?_ | with_reducible refine r_bd ?_ | with_reducible refine r_se ?_ | with_reducible refine r_re ?_ | with_reducible refine r_nx ?_ | with_reducible refine r_if ?_ | with_reducible refine r_i1 ?_ | with_reducible refine r_fo ?_ | with_reducible refine r_ap ?_ | with_reducible refine r_ra ?_ | with_reducible refine r_nd ?_ | with_reducible refine r_noE ?_ | with_reducible refine r_pu ?_ | with_reducible refine r_bk ?_ | with_reducible refine r_ct ?_ | with_reducible refine r_trR ?_ | with_reducible refine r_trE ?_)); (try dsimp only [id])
  refine lc_some (R := fun i : Int => 0 ≤ i ∧ i < 9) _ [] (fun a m Q E hq => ?_) (by rw [List.length_nil, rangeI_len]; exact le_line (by omega)) fun levels ln lr => ?_
  · (repeat (first | with_reducible refine r_rt ?_ | with_reducible refine r_bd ?_ | with_reducible refine r_se ?_ | with_reducible refine r_re ?_ | with_reducible refine r_nx ?_ | with_reducible refine r_if ?_ | with_reducible refine r_i1 ?_ | with_reducible refine r_fo ?_ | with_reducible refine r_ap ?_ | with_reducible refine r_ra ?_ | with_reducible refine r_nd ?_ | with_reducible refine r_noE ?_ | with_reducible refine r_pu ?_ | with_reducible refine r_bk ?_ | with_reducible refine r_ct ?_ | with_reducible refine r_trR ?_ | with_reducible refine r_trE ?_)); (try dsimp only [id])
    rw [if_pos rfl]
    (repeat (first | with_reducible refine r_rt ?_ | with_reducible refine r_bd ?_ | with_reducible refine r_se ?_ | with_reducible refine r_re ?_ | with_reducible refine r_nx ?_ | with_reducible refine r_if ?_ | with_reducible refine r_i1 ?_ | with_reducible refine r_fo ?_ | with_reducible refine r_ap ?_ | with_reducible refine r_ra ?_ | with_reducible refine r_nd ?_ | with_reducible refine r_noE ?_ | with_reducible refine r_pu ?_ | with_reducible refine r_bk ?_ | with_reducible refine r_ct ?_ | with_reducible refine r_trR ?_ | with_reducible refine r_trE ?_)); (try dsimp only [id])
    exact w_draw _ (by decide) (by decide) fun i i0 i9 => hq i ⟨i0, i9⟩
  rw [List.nil_append]
  rw [rangeI_len] at ln
  obtain ⟨ls, rfl⟩ := nats_of levels fun i m => (lr i m).1
  rw [nats_len] at ln
  have small : ∀ k ∈ ls, k < 9 := fun k m => by have := (lr _ (nats_mem m)).2; omega
  have h1 : 1 ≤ ls.length := by omega
  have h4 : ls.length ≤ 4 := by omega
  have h0 : ls ≠ [] := fun e => by rw [e] at h1; exact absurd h1 (by decide)
  have s8 : ∀ k ∈ ls, k ≤ 8 := fun k m => Nat.le_of_lt_succ (small k m)
  have sT : ∀ k ∈ ls, k < 10000 := fun k m => Nat.lt_trans (small k m) (by decide)
  have sH : ∀ k ∈ ls, k < 100000 := fun k m => Nat.lt_trans (small k m) (by decide)
  (repeat (first | with_reducible refine r_rt ?_ | with_reducible refine r_bd ?_ | with_reducible refine r_se ?_ | with_reducible refine r_re ?_ | with_reducible refine r_nx ?_ | with_reducible refine r_if ?_ | with_reducible refine r_i1 ?_ | with_reducible refine r_fo ?_ | with_reducible refine r_ap ?_ | with_reducible refine r_ra ?_ | with_reducible refine r_nd ?_ | with_reducible refine r_noE ?_ | with_reducible refine r_pu ?_ | with_reducible refine r_bk ?_ | with_reducible refine r_ct ?_ | with_reducible refine r_trR ?_ | with_reducible refine r_trE ?_)); (try dsimp only [id])
  refine w_draw _ (by decide) (by decide) fun tank t0 t9 => ?_
  (repeat (first | with_reducible refine r_rt ?_ | with_reducible refine r_bd ?_ | with_reducible refine r_se ?_ | with_reducible refine r_re ?_ | with_reducible refine r_nx ?_ | with_reducible refine r_if ?_ | with_reducible refine r_i1 ?_ | with_reducible refine r_fo ?_ | with_reducible refine r_ap ?_ | with_reducible refine r_ra ?_ | with_reducible refine r_nd ?_ | with_reducible refine r_noE ?_ | with_reducible refine r_pu ?_ | with_reducible refine r_bk ?_ | with_reducible refine r_ct ?_ | with_reducible refine r_trR ?_ | with_reducible refine r_trE ?_)); (try dsimp only [id])
  refine w_draw _ (by decide) (by decide) fun mood m0 m4 => ?_
  (repeat (first | with_reducible refine r_rt ?_ | with_reducible refine r_bd ?_ | with_reducible refine r_se ?_ | with_reducible refine r_re ?_ | with_reducible refine r_nx ?_ | with_reducible refine r_if ?_ | with_reducible refine r_i1 ?_ | with_reducible refine r_fo ?_ | with_reducible refine r_ap ?_ | with_reducible refine r_ra ?_ | with_reducible refine r_nd ?_ | with_reducible refine r_noE ?_ | with_reducible refine r_pu ?_ | with_reducible refine r_bk ?_ | with_reducible refine r_ct ?_ | with_reducible refine r_trR ?_ | with_reducible refine r_trE ?_)); (try dsimp only [id])
  obtain ⟨t, rfl⟩ : ∃ t : Nat, tank = t := ⟨tank.toNat, by omega⟩
  obtain ⟨m, rfl⟩ : ∃ m : Nat, mood = m := ⟨mood.toNat, by omega⟩
  have init : ∀ {Q : StandingV → Prop} {E : Ex → Prop}, Q ⟨nats ls, t, m⟩ → dStanding___init__ (nats ls) t m Q E := fun hq => w_init (by rw [nats_len]; omega) (by rw [nats_len]; omega) (fun i mi => ⟨(lr i mi).1, by have := (lr i mi).2; omega⟩) (by omega) (by omega) (by omega) (by omega) hq
  refine init ?_
  (repeat (first | with_reducible refine r_rt ?_ | with_reducible refine r_bd ?_ | with_reducible refine r_se ?_ | with_reducible refine r_re ?_ | with_reducible refine r_nx ?_ | with_reducible refine r_if ?_ | with_reducible refine r_i1 ?_ | with_reducible refine r_fo ?_ | with_reducible refine r_ap ?_ | with_reducible refine r_ra ?_ | with_reducible refine r_nd ?_ | with_reducible refine r_noE ?_ | with_reducible refine r_pu ?_ | with_reducible refine r_bk ?_ | with_reducible refine r_ct ?_ | with_reducible refine r_trR ?_ | with_reducible refine r_trE ?_)); (try dsimp only [id])
  refine w_text (by omega) (by omega) (by omega) h0 sH fun z hz => ?_
  (repeat (first | with_reducible refine r_rt ?_ | with_reducible refine r_bd ?_ | with_reducible refine r_se ?_ | with_reducible refine r_re ?_ | with_reducible refine r_nx ?_ | with_reducible refine r_if ?_ | with_reducible refine r_i1 ?_ | with_reducible refine r_fo ?_ | with_reducible refine r_ap ?_ | with_reducible refine r_ra ?_ | with_reducible refine r_nd ?_ | with_reducible refine r_noE ?_ | with_reducible refine r_pu ?_ | with_reducible refine r_bk ?_ | with_reducible refine r_ct ?_ | with_reducible refine r_trR ?_ | with_reducible refine r_trE ?_)); (try dsimp only [id])
  refine w_str (by omega) (by omega) (by omega) sH fun y hy => ?_
  (repeat (first | with_reducible refine r_rt ?_ | with_reducible refine r_bd ?_ | with_reducible refine r_se ?_ | with_reducible refine r_re ?_ | with_reducible refine r_nx ?_ | with_reducible refine r_if ?_ | with_reducible refine r_i1 ?_ | with_reducible refine r_fo ?_ | with_reducible refine r_ap ?_ | with_reducible refine r_ra ?_ | with_reducible refine r_nd ?_ | with_reducible refine r_noE ?_ | with_reducible refine r_pu ?_ | with_reducible refine r_bk ?_ | with_reducible refine r_ct ?_ | with_reducible refine r_trR ?_ | with_reducible refine r_trE ?_)); (try dsimp only [id])
  have ey : y = z := ext_tl (hy.trans hz.symm)
  rw [decide_eq_true ey, if_neg (by decide)]
  (repeat (first | with_reducible refine r_rt ?_ | with_reducible refine r_bd ?_ | with_reducible refine r_se ?_ | with_reducible refine r_re ?_ | with_reducible refine r_nx ?_ | with_reducible refine r_if ?_ | with_reducible refine r_i1 ?_ | with_reducible refine r_fo ?_ | with_reducible refine r_ap ?_ | with_reducible refine r_ra ?_ | with_reducible refine r_nd ?_ | with_reducible refine r_noE ?_ | with_reducible refine r_pu ?_ | with_reducible refine r_bk ?_ | with_reducible refine r_ct ?_ | with_reducible refine r_trR ?_ | with_reducible refine r_trE ?_)); (try dsimp only [id])
  refine w_told_text hz (by omega) (by omega) h0 (by omega) sT (init ?_)
  (repeat (first | with_reducible refine r_rt ?_ | with_reducible refine r_bd ?_ | with_reducible refine r_se ?_ | with_reducible refine r_re ?_ | with_reducible refine r_nx ?_ | with_reducible refine r_if ?_ | with_reducible refine r_i1 ?_ | with_reducible refine r_fo ?_ | with_reducible refine r_ap ?_ | with_reducible refine r_ra ?_ | with_reducible refine r_nd ?_ | with_reducible refine r_noE ?_ | with_reducible refine r_pu ?_ | with_reducible refine r_bk ?_ | with_reducible refine r_ct ?_ | with_reducible refine r_trR ?_ | with_reducible refine r_trE ?_)); (try dsimp only [id])
  refine ⟨rfl, ?_⟩
  (repeat (first | with_reducible refine r_rt ?_ | with_reducible refine r_bd ?_ | with_reducible refine r_se ?_ | with_reducible refine r_re ?_ | with_reducible refine r_nx ?_ | with_reducible refine r_if ?_ | with_reducible refine r_i1 ?_ | with_reducible refine r_fo ?_ | with_reducible refine r_ap ?_ | with_reducible refine r_ra ?_ | with_reducible refine r_nd ?_ | with_reducible refine r_noE ?_ | with_reducible refine r_pu ?_ | with_reducible refine r_bk ?_ | with_reducible refine r_ct ?_ | with_reducible refine r_trR ?_ | with_reducible refine r_trE ?_)); (try dsimp only [id])
  rw [decide_eq_true rfl]
  (repeat (first | with_reducible refine r_rt ?_ | with_reducible refine r_bd ?_ | with_reducible refine r_se ?_ | with_reducible refine r_re ?_ | with_reducible refine r_nx ?_ | with_reducible refine r_if ?_ | with_reducible refine r_i1 ?_ | with_reducible refine r_fo ?_ | with_reducible refine r_ap ?_ | with_reducible refine r_ra ?_ | with_reducible refine r_nd ?_ | with_reducible refine r_noE ?_ | with_reducible refine r_pu ?_ | with_reducible refine r_bk ?_ | with_reducible refine r_ct ?_ | with_reducible refine r_trR ?_ | with_reducible refine r_trE ?_)); (try dsimp only [id])
  rw [if_neg (by decide)]
  (repeat (first | with_reducible refine r_rt ?_ | with_reducible refine r_bd ?_ | with_reducible refine r_se ?_ | with_reducible refine r_re ?_ | with_reducible refine r_nx ?_ | with_reducible refine r_if ?_ | with_reducible refine r_i1 ?_ | with_reducible refine r_fo ?_ | with_reducible refine r_ap ?_ | with_reducible refine r_ra ?_ | with_reducible refine r_nd ?_ | with_reducible refine r_noE ?_ | with_reducible refine r_pu ?_ | with_reducible refine r_bk ?_ | with_reducible refine r_ct ?_ | with_reducible refine r_trR ?_ | with_reducible refine r_trE ?_)); (try dsimp only [id])
  refine w_wrong (by rw [hz]; exact bads_TX (by omega) (by omega) h1 h4 fun k mk => Nat.lt_trans (small k mk) (by decide)) fun rows hr => ?_
  (repeat (first | with_reducible refine r_rt ?_ | with_reducible refine r_bd ?_ | with_reducible refine r_se ?_ | with_reducible refine r_re ?_ | with_reducible refine r_nx ?_ | with_reducible refine r_if ?_ | with_reducible refine r_i1 ?_ | with_reducible refine r_fo ?_ | with_reducible refine r_ap ?_ | with_reducible refine r_ra ?_ | with_reducible refine r_nd ?_ | with_reducible refine r_noE ?_ | with_reducible refine r_pu ?_ | with_reducible refine r_bk ?_ | with_reducible refine r_ct ?_ | with_reducible refine r_trR ?_ | with_reducible refine r_trE ?_)); (try dsimp only [id])
  refine for_inv (I := fun _ => True) rows () trivial (fun st r mr _ D hD => ?_) fun _ _ => ?_
  · (repeat (first | with_reducible refine r_rt ?_ | with_reducible refine r_bd ?_ | with_reducible refine r_se ?_ | with_reducible refine r_re ?_ | with_reducible refine r_nx ?_ | with_reducible refine r_if ?_ | with_reducible refine r_i1 ?_ | with_reducible refine r_fo ?_ | with_reducible refine r_ap ?_ | with_reducible refine r_ra ?_ | with_reducible refine r_nd ?_ | with_reducible refine r_noE ?_ | with_reducible refine r_pu ?_ | with_reducible refine r_bk ?_ | with_reducible refine r_ct ?_ | with_reducible refine r_trR ?_ | with_reducible refine r_trE ?_)); (try dsimp only [id])
    refine w_told_bad (hr r mr) ?_
    (repeat (first | with_reducible refine r_rt ?_ | with_reducible refine r_bd ?_ | with_reducible refine r_se ?_ | with_reducible refine r_re ?_ | with_reducible refine r_nx ?_ | with_reducible refine r_if ?_ | with_reducible refine r_i1 ?_ | with_reducible refine r_fo ?_ | with_reducible refine r_ap ?_ | with_reducible refine r_ra ?_ | with_reducible refine r_nd ?_ | with_reducible refine r_noE ?_ | with_reducible refine r_pu ?_ | with_reducible refine r_bk ?_ | with_reducible refine r_ct ?_ | with_reducible refine r_trR ?_ | with_reducible refine r_trE ?_)); (try dsimp only [id])
    refine ⟨ne_line, ?_⟩
    (repeat (first | with_reducible refine r_rt ?_ | with_reducible refine r_bd ?_ | with_reducible refine r_se ?_ | with_reducible refine r_re ?_ | with_reducible refine r_nx ?_ | with_reducible refine r_if ?_ | with_reducible refine r_i1 ?_ | with_reducible refine r_fo ?_ | with_reducible refine r_ap ?_ | with_reducible refine r_ra ?_ | with_reducible refine r_nd ?_ | with_reducible refine r_noE ?_ | with_reducible refine r_pu ?_ | with_reducible refine r_bk ?_ | with_reducible refine r_ct ?_ | with_reducible refine r_trR ?_ | with_reducible refine r_trE ?_)); (try dsimp only [id])
    rw [decide_eq_true rfl]
    (repeat (first | with_reducible refine r_rt ?_ | with_reducible refine r_bd ?_ | with_reducible refine r_se ?_ | with_reducible refine r_re ?_ | with_reducible refine r_nx ?_ | with_reducible refine r_if ?_ | with_reducible refine r_i1 ?_ | with_reducible refine r_fo ?_ | with_reducible refine r_ap ?_ | with_reducible refine r_ra ?_ | with_reducible refine r_nd ?_ | with_reducible refine r_noE ?_ | with_reducible refine r_pu ?_ | with_reducible refine r_bk ?_ | with_reducible refine r_ct ?_ | with_reducible refine r_trR ?_ | with_reducible refine r_trE ?_)); (try dsimp only [id])
    rw [if_neg (by decide)]
    (repeat (first | with_reducible refine r_rt ?_ | with_reducible refine r_bd ?_ | with_reducible refine r_se ?_ | with_reducible refine r_re ?_ | with_reducible refine r_nx ?_ | with_reducible refine r_if ?_ | with_reducible refine r_i1 ?_ | with_reducible refine r_fo ?_ | with_reducible refine r_ap ?_ | with_reducible refine r_ra ?_ | with_reducible refine r_nd ?_ | with_reducible refine r_noE ?_ | with_reducible refine r_pu ?_ | with_reducible refine r_bk ?_ | with_reducible refine r_ct ?_ | with_reducible refine r_trR ?_ | with_reducible refine r_trE ?_)); (try dsimp only [id])
    exact hD () trivial
  (repeat (first | with_reducible refine r_rt ?_ | with_reducible refine r_bd ?_ | with_reducible refine r_se ?_ | with_reducible refine r_re ?_ | with_reducible refine r_nx ?_ | with_reducible refine r_if ?_ | with_reducible refine r_i1 ?_ | with_reducible refine r_fo ?_ | with_reducible refine r_ap ?_ | with_reducible refine r_ra ?_ | with_reducible refine r_nd ?_ | with_reducible refine r_noE ?_ | with_reducible refine r_pu ?_ | with_reducible refine r_bk ?_ | with_reducible refine r_ct ?_ | with_reducible refine r_trR ?_ | with_reducible refine r_trE ?_)); (try dsimp only [id])
  refine w_draw _ (by decide) (by decide) fun far f0 f1 => ?_
  (repeat (first | with_reducible refine r_rt ?_ | with_reducible refine r_bd ?_ | with_reducible refine r_se ?_ | with_reducible refine r_re ?_ | with_reducible refine r_nx ?_ | with_reducible refine r_if ?_ | with_reducible refine r_i1 ?_ | with_reducible refine r_fo ?_ | with_reducible refine r_ap ?_ | with_reducible refine r_ra ?_ | with_reducible refine r_nd ?_ | with_reducible refine r_noE ?_ | with_reducible refine r_pu ?_ | with_reducible refine r_bk ?_ | with_reducible refine r_ct ?_ | with_reducible refine r_trR ?_ | with_reducible refine r_trE ?_)); (try dsimp only [id])
  obtain ⟨f, hf⟩ : ∃ f : Nat, 9 + far = f := ⟨(9 + far).toNat, by omega⟩
  rw [hf]
  rw [nats_len]
  refine w_draw _ (by omega) (by omega) fun at_ a0 a1 => ?_
  obtain ⟨k, rfl⟩ : ∃ k : Nat, at_ = k := ⟨at_.toNat, by omega⟩
  have hk : k < ls.length := by omega
  (repeat (first | with_reducible refine r_rt ?_ | with_reducible refine r_bd ?_ | with_reducible refine r_se ?_ | with_reducible refine r_re ?_ | with_reducible refine r_nx ?_ | with_reducible refine r_if ?_ | with_reducible refine r_i1 ?_ | with_reducible refine r_fo ?_ | with_reducible refine r_ap ?_ | with_reducible refine r_ra ?_ | with_reducible refine r_nd ?_ | with_reducible refine r_noE ?_ | with_reducible refine r_pu ?_ | with_reducible refine r_bk ?_ | with_reducible refine r_ct ?_ | with_reducible refine r_trR ?_ | with_reducible refine r_trE ?_)); (try dsimp only [id])
  rw [cut_lo _ k (by rw [nats_len]; omega)]
  have lt : ((nats ls).take k).length = k := by rw [List.length_take, nats_len]; omega
  have ld : ((nats ls).drop (k + 1)).length = ls.length - (k + 1) := by rw [List.length_drop, nats_len]
  refine ⟨le_line (by rw [lt]; simp; omega), ?_⟩
  (repeat (first | with_reducible refine r_rt ?_ | with_reducible refine r_bd ?_ | with_reducible refine r_se ?_ | with_reducible refine r_re ?_ | with_reducible refine r_nx ?_ | with_reducible refine r_if ?_ | with_reducible refine r_i1 ?_ | with_reducible refine r_fo ?_ | with_reducible refine r_ap ?_ | with_reducible refine r_ra ?_ | with_reducible refine r_nd ?_ | with_reducible refine r_noE ?_ | with_reducible refine r_pu ?_ | with_reducible refine r_bk ?_ | with_reducible refine r_ct ?_ | with_reducible refine r_trR ?_ | with_reducible refine r_trE ?_)); (try dsimp only [id])
  rw [show ((k : Int) + 1) = ((k + 1 : Nat) : Int) by omega, cut_hi _ (k + 1) (by rw [nats_len]; omega)]
  refine ⟨le_line (by rw [List.length_append, lt, ld]; simp; omega), ?_⟩
  (repeat (first | with_reducible refine r_rt ?_ | with_reducible refine r_bd ?_ | with_reducible refine r_se ?_ | with_reducible refine r_re ?_ | with_reducible refine r_nx ?_ | with_reducible refine r_if ?_ | with_reducible refine r_i1 ?_ | with_reducible refine r_fo ?_ | with_reducible refine r_ap ?_ | with_reducible refine r_ra ?_ | with_reducible refine r_nd ?_ | with_reducible refine r_noE ?_ | with_reducible refine r_pu ?_ | with_reducible refine r_bk ?_ | with_reducible refine r_ct ?_ | with_reducible refine r_trR ?_ | with_reducible refine r_trE ?_)); (try dsimp only [id])
  have eh : (nats ls).take k ++ [(f : Int)] ++ (nats ls).drop (k + 1) = nats (ls.take k ++ f :: ls.drop (k + 1)) := by
    unfold nats
    rw [← List.map_take, ← List.map_drop, List.map_append, List.map_cons, List.append_assoc]
    rfl
  rw [eh]
  have hh : ∀ j ∈ ls.take k ++ f :: ls.drop (k + 1), j < 10000 := fun j mj => by
    rcases List.mem_append.mp mj with mj | mj
    · exact sT j (List.mem_of_mem_take mj)
    · rcases List.mem_cons.mp mj with e | mj
      · rw [e]; omega
      · exact sT j (List.mem_of_mem_drop mj)
  have lh : (ls.take k ++ f :: ls.drop (k + 1)).length = ls.length := by rw [List.length_append, List.length_cons, List.length_take, List.length_drop]; omega
  have nh : ls.take k ++ f :: ls.drop (k + 1) ≠ [] := by simp
  refine w_text (by omega) (by omega) (by omega) nh (fun j mj => Nat.lt_trans (hh j mj) (by decide)) fun z2 hz2 => ?_
  (repeat (first | with_reducible refine r_rt ?_ | with_reducible refine r_bd ?_ | with_reducible refine r_se ?_ | with_reducible refine r_re ?_ | with_reducible refine r_nx ?_ | with_reducible refine r_if ?_ | with_reducible refine r_i1 ?_ | with_reducible refine r_fo ?_ | with_reducible refine r_ap ?_ | with_reducible refine r_ra ?_ | with_reducible refine r_nd ?_ | with_reducible refine r_noE ?_ | with_reducible refine r_pu ?_ | with_reducible refine r_bk ?_ | with_reducible refine r_ct ?_ | with_reducible refine r_trR ?_ | with_reducible refine r_trE ?_)); (try dsimp only [id])
  refine w_told_text hz2 (by omega) (by omega) nh (by omega) hh (init_level (fun j mj => s8 j (List.mem_of_mem_take mj)) (by omega) (by omega) (.inr ⟨_, _, rfl, ne_level, ?_⟩))
  (repeat (first | with_reducible refine r_rt ?_ | with_reducible refine r_bd ?_ | with_reducible refine r_se ?_ | with_reducible refine r_re ?_ | with_reducible refine r_nx ?_ | with_reducible refine r_if ?_ | with_reducible refine r_i1 ?_ | with_reducible refine r_fo ?_ | with_reducible refine r_ap ?_ | with_reducible refine r_ra ?_ | with_reducible refine r_nd ?_ | with_reducible refine r_noE ?_ | with_reducible refine r_pu ?_ | with_reducible refine r_bk ?_ | with_reducible refine r_ct ?_ | with_reducible refine r_trR ?_ | with_reducible refine r_trE ?_)); (try dsimp only [id])
  refine ⟨ne_level, ?_⟩
  (repeat (first | with_reducible refine r_rt ?_ | with_reducible refine r_bd ?_ | with_reducible refine r_se ?_ | with_reducible refine r_re ?_ | with_reducible refine r_nx ?_ | with_reducible refine r_if ?_ | with_reducible refine r_i1 ?_ | with_reducible refine r_fo ?_ | with_reducible refine r_ap ?_ | with_reducible refine r_ra ?_ | with_reducible refine r_nd ?_ | with_reducible refine r_noE ?_ | with_reducible refine r_pu ?_ | with_reducible refine r_bk ?_ | with_reducible refine r_ct ?_ | with_reducible refine r_trR ?_ | with_reducible refine r_trE ?_)); (try dsimp only [id])
  rw [decide_eq_true rfl]
  (repeat (first | with_reducible refine r_rt ?_ | with_reducible refine r_bd ?_ | with_reducible refine r_se ?_ | with_reducible refine r_re ?_ | with_reducible refine r_nx ?_ | with_reducible refine r_if ?_ | with_reducible refine r_i1 ?_ | with_reducible refine r_fo ?_ | with_reducible refine r_ap ?_ | with_reducible refine r_ra ?_ | with_reducible refine r_nd ?_ | with_reducible refine r_noE ?_ | with_reducible refine r_pu ?_ | with_reducible refine r_bk ?_ | with_reducible refine r_ct ?_ | with_reducible refine r_trR ?_ | with_reducible refine r_trE ?_)); (try dsimp only [id])
  rw [if_neg (by decide)]
  (repeat (first | with_reducible refine r_rt ?_ | with_reducible refine r_bd ?_ | with_reducible refine r_se ?_ | with_reducible refine r_re ?_ | with_reducible refine r_nx ?_ | with_reducible refine r_if ?_ | with_reducible refine r_i1 ?_ | with_reducible refine r_fo ?_ | with_reducible refine r_ap ?_ | with_reducible refine r_ra ?_ | with_reducible refine r_nd ?_ | with_reducible refine r_noE ?_ | with_reducible refine r_pu ?_ | with_reducible refine r_bk ?_ | with_reducible refine r_ct ?_ | with_reducible refine r_trR ?_ | with_reducible refine r_trE ?_)); (try dsimp only [id])
  refine w_text (ls := ls) (t := f) (m := 4) (by omega) (by omega) (by omega) h0 sH fun z3 hz3 => ?_
  (repeat (first | with_reducible refine r_rt ?_ | with_reducible refine r_bd ?_ | with_reducible refine r_se ?_ | with_reducible refine r_re ?_ | with_reducible refine r_nx ?_ | with_reducible refine r_if ?_ | with_reducible refine r_i1 ?_ | with_reducible refine r_fo ?_ | with_reducible refine r_ap ?_ | with_reducible refine r_ra ?_ | with_reducible refine r_nd ?_ | with_reducible refine r_noE ?_ | with_reducible refine r_pu ?_ | with_reducible refine r_bk ?_ | with_reducible refine r_ct ?_ | with_reducible refine r_trR ?_ | with_reducible refine r_trE ?_)); (try dsimp only [id])
  refine w_told_text hz3 (by omega) (by omega) h0 (by omega) sT (init_tank h1 h4 s8 (by omega) (.inr ⟨_, _, rfl, ne_tank, ?_⟩))
  (repeat (first | with_reducible refine r_rt ?_ | with_reducible refine r_bd ?_ | with_reducible refine r_se ?_ | with_reducible refine r_re ?_ | with_reducible refine r_nx ?_ | with_reducible refine r_if ?_ | with_reducible refine r_i1 ?_ | with_reducible refine r_fo ?_ | with_reducible refine r_ap ?_ | with_reducible refine r_ra ?_ | with_reducible refine r_nd ?_ | with_reducible refine r_noE ?_ | with_reducible refine r_pu ?_ | with_reducible refine r_bk ?_ | with_reducible refine r_ct ?_ | with_reducible refine r_trR ?_ | with_reducible refine r_trE ?_)); (try dsimp only [id])
  refine ⟨ne_tank, ?_⟩
  (repeat (first | with_reducible refine r_rt ?_ | with_reducible refine r_bd ?_ | with_reducible refine r_se ?_ | with_reducible refine r_re ?_ | with_reducible refine r_nx ?_ | with_reducible refine r_if ?_ | with_reducible refine r_i1 ?_ | with_reducible refine r_fo ?_ | with_reducible refine r_ap ?_ | with_reducible refine r_ra ?_ | with_reducible refine r_nd ?_ | with_reducible refine r_noE ?_ | with_reducible refine r_pu ?_ | with_reducible refine r_bk ?_ | with_reducible refine r_ct ?_ | with_reducible refine r_trR ?_ | with_reducible refine r_trE ?_)); (try dsimp only [id])
  rw [decide_eq_true rfl]
  (repeat (first | with_reducible refine r_rt ?_ | with_reducible refine r_bd ?_ | with_reducible refine r_se ?_ | with_reducible refine r_re ?_ | with_reducible refine r_nx ?_ | with_reducible refine r_if ?_ | with_reducible refine r_i1 ?_ | with_reducible refine r_fo ?_ | with_reducible refine r_ap ?_ | with_reducible refine r_ra ?_ | with_reducible refine r_nd ?_ | with_reducible refine r_noE ?_ | with_reducible refine r_pu ?_ | with_reducible refine r_bk ?_ | with_reducible refine r_ct ?_ | with_reducible refine r_trR ?_ | with_reducible refine r_trE ?_)); (try dsimp only [id])
  rw [if_neg (by decide)]
  (repeat (first | with_reducible refine r_rt ?_ | with_reducible refine r_bd ?_ | with_reducible refine r_se ?_ | with_reducible refine r_re ?_ | with_reducible refine r_nx ?_ | with_reducible refine r_if ?_ | with_reducible refine r_i1 ?_ | with_reducible refine r_fo ?_ | with_reducible refine r_ap ?_ | with_reducible refine r_ra ?_ | with_reducible refine r_nd ?_ | with_reducible refine r_noE ?_ | with_reducible refine r_pu ?_ | with_reducible refine r_bk ?_ | with_reducible refine r_ct ?_ | with_reducible refine r_trR ?_ | with_reducible refine r_trE ?_)); (try dsimp only [id])
  rw [show ((4 : Int) + (f : Int)) = ((4 + f : Nat) : Int) by omega]
  refine w_text (by omega) (by omega) (by omega) h0 sH fun z4 hz4 => ?_
  (repeat (first | with_reducible refine r_rt ?_ | with_reducible refine r_bd ?_ | with_reducible refine r_se ?_ | with_reducible refine r_re ?_ | with_reducible refine r_nx ?_ | with_reducible refine r_if ?_ | with_reducible refine r_i1 ?_ | with_reducible refine r_fo ?_ | with_reducible refine r_ap ?_ | with_reducible refine r_ra ?_ | with_reducible refine r_nd ?_ | with_reducible refine r_noE ?_ | with_reducible refine r_pu ?_ | with_reducible refine r_bk ?_ | with_reducible refine r_ct ?_ | with_reducible refine r_trR ?_ | with_reducible refine r_trE ?_)); (try dsimp only [id])
  have last : ∀ {D : Bool → Prop} {E : Ex → Prop}, D true → (reS (bd (bd (bd (bd (bd (bd (bd (rt (nats ls)) fun u => bd (rt (5 : Int)) fun v => nd (-(2 ^ 63) ≤ v ∧ v < 2 ^ 63 ∧ u.length * v.toNat ≤ sizeLine) (rt (List.replicate v.toNat u).flatten)) fun as => bd (rt none) fun l => bd (bd (rt (5 : Int)) fun i => rt (some i)) fun u => rt (cutL as l u)) fun u => bd (bd (rt (9 : Int)) fun u => bd (bd (rt (9 : Int)) fun u => bd (rt ()) fun v => rt (u, v)) fun v => rt (u, v)) fun v => rt (u, v)) fun a => d_law_text a.1 a.2.1 a.2.2.1) fun u => bd (rt ()) fun v => rt (u, v)) fun a => d_law_told a.1) fun u => bd (bd (bd (bd (rt ("plots" : Str)) fun u => bd (bd (rt (5 : Int)) fun u => bd (rt ()) fun v => rt (u, v)) fun v => rt (u, v)) fun u => rt (u.1, u.2.1)) (toWr "read")) fun v => rt (id (decide (u = v)))) : SB Unit Unit Bool) ⟨fun _ => False, fun _ => False, fun _ => False, D, E⟩ := fun {D E} hD => by
    (repeat (first | with_reducible refine r_rt ?_ | with_reducible refine r_bd ?_ | with_reducible refine r_se ?_ | with_reducible refine r_re ?_ | with_reducible refine r_nx ?_ | with_reducible refine r_if ?_ | with_reducible refine r_i1 ?_ | with_reducible refine r_fo ?_ | with_reducible refine r_ap ?_ | with_reducible refine r_ra ?_ | with_reducible refine r_nd ?_ | with_reducible refine r_noE ?_ | with_reducible refine r_pu ?_ | with_reducible refine r_bk ?_ | with_reducible refine r_ct ?_ | with_reducible refine r_trR ?_ | with_reducible refine r_trE ?_)); (try dsimp only [id])
    refine ⟨⟨by decide, by decide, ?_⟩, ?_⟩
    · rw [nats_len]
      exact le_line (show ls.length * 5 ≤ 10000 by omega)
    (repeat (first | with_reducible refine r_rt ?_ | with_reducible refine r_bd ?_ | with_reducible refine r_se ?_ | with_reducible refine r_re ?_ | with_reducible refine r_nx ?_ | with_reducible refine r_if ?_ | with_reducible refine r_i1 ?_ | with_reducible refine r_fo ?_ | with_reducible refine r_ap ?_ | with_reducible refine r_ra ?_ | with_reducible refine r_nd ?_ | with_reducible refine r_noE ?_ | with_reducible refine r_pu ?_ | with_reducible refine r_bk ?_ | with_reducible refine r_ct ?_ | with_reducible refine r_trR ?_ | with_reducible refine r_trE ?_)); (try dsimp only [id])
    have e5 : (List.replicate (5 : Int).toNat (nats ls)).flatten = nats (List.replicate 5 ls).flatten := by
      unfold nats
      rw [List.map_flatten (f := fun n : Nat => (n : Int)), List.map_replicate]
      rfl
    have l5 : (List.replicate 5 ls).flatten.length = 5 * ls.length := by simp; omega
    rw [e5, show (5 : Int) = ((5 : Nat) : Int) from rfl, cut_lo _ 5 (by rw [nats_len, l5]; omega)]
    have e6 : (nats (List.replicate 5 ls).flatten).take 5 = nats ((List.replicate 5 ls).flatten.take 5) := by unfold nats; rw [List.map_take]
    have l6 : ((List.replicate 5 ls).flatten.take 5).length = 5 := by rw [List.length_take, l5]; omega
    have s6 : ∀ j ∈ (List.replicate 5 ls).flatten.take 5, j < 9 := fun j mj => by
      obtain ⟨l, ml, mj⟩ := List.mem_flatten.mp (List.mem_of_mem_take mj)
      rw [List.eq_of_mem_replicate ml] at mj
      exact small j mj
    have n6 : (List.replicate 5 ls).flatten.take 5 ≠ [] := fun e => by rw [e] at l6; exact absurd l6 (by decide)
    rw [e6]
    refine w_text (t := 9) (m := 9) (by decide) (by decide) (by omega) n6 (fun j mj => Nat.lt_trans (s6 j mj) (by decide)) fun z5 hz5 => ?_
    (repeat (first | with_reducible refine r_rt ?_ | with_reducible refine r_bd ?_ | with_reducible refine r_se ?_ | with_reducible refine r_re ?_ | with_reducible refine r_nx ?_ | with_reducible refine r_if ?_ | with_reducible refine r_i1 ?_ | with_reducible refine r_fo ?_ | with_reducible refine r_ap ?_ | with_reducible refine r_ra ?_ | with_reducible refine r_nd ?_ | with_reducible refine r_noE ?_ | with_reducible refine r_pu ?_ | with_reducible refine r_bk ?_ | with_reducible refine r_ct ?_ | with_reducible refine r_trR ?_ | with_reducible refine r_trE ?_)); (try dsimp only [id])
    refine w_told_text hz5 (by decide) (by decide) n6 (by omega) (fun j mj => Nat.lt_trans (s6 j mj) (by decide)) (init_plots (by omega) (.inr ⟨_, _, rfl, ne_plots, ?_⟩))
    (repeat (first | with_reducible refine r_rt ?_ | with_reducible refine r_bd ?_ | with_reducible refine r_se ?_ | with_reducible refine r_re ?_ | with_reducible refine r_nx ?_ | with_reducible refine r_if ?_ | with_reducible refine r_i1 ?_ | with_reducible refine r_fo ?_ | with_reducible refine r_ap ?_ | with_reducible refine r_ra ?_ | with_reducible refine r_nd ?_ | with_reducible refine r_noE ?_ | with_reducible refine r_pu ?_ | with_reducible refine r_bk ?_ | with_reducible refine r_ct ?_ | with_reducible refine r_trR ?_ | with_reducible refine r_trE ?_)); (try dsimp only [id])
    refine ⟨ne_plots, ?_⟩
    (repeat (first | with_reducible refine r_rt ?_ | with_reducible refine r_bd ?_ | with_reducible refine r_se ?_ | with_reducible refine r_re ?_ | with_reducible refine r_nx ?_ | with_reducible refine r_if ?_ | with_reducible refine r_i1 ?_ | with_reducible refine r_fo ?_ | with_reducible refine r_ap ?_ | with_reducible refine r_ra ?_ | with_reducible refine r_nd ?_ | with_reducible refine r_noE ?_ | with_reducible refine r_pu ?_ | with_reducible refine r_bk ?_ | with_reducible refine r_ct ?_ | with_reducible refine r_trR ?_ | with_reducible refine r_trE ?_)); (try dsimp only [id])
    rw [l6, decide_eq_true rfl]
    exact hD
  by_cases big : 10000 ≤ 4 + f
  · refine w_told_bad (bad_mood hz4 big (by omega) (by omega) h0 (by omega) sT) ?_
    (repeat (first | with_reducible refine r_rt ?_ | with_reducible refine r_bd ?_ | with_reducible refine r_se ?_ | with_reducible refine r_re ?_ | with_reducible refine r_nx ?_ | with_reducible refine r_if ?_ | with_reducible refine r_i1 ?_ | with_reducible refine r_fo ?_ | with_reducible refine r_ap ?_ | with_reducible refine r_ra ?_ | with_reducible refine r_nd ?_ | with_reducible refine r_noE ?_ | with_reducible refine r_pu ?_ | with_reducible refine r_bk ?_ | with_reducible refine r_ct ?_ | with_reducible refine r_trR ?_ | with_reducible refine r_trE ?_)); (try dsimp only [id])
    refine ⟨ne_mood, ?_⟩
    (repeat (first | with_reducible refine r_rt ?_ | with_reducible refine r_bd ?_ | with_reducible refine r_se ?_ | with_reducible refine r_re ?_ | with_reducible refine r_nx ?_ | with_reducible refine r_if ?_ | with_reducible refine r_i1 ?_ | with_reducible refine r_fo ?_ | with_reducible refine r_ap ?_ | with_reducible refine r_ra ?_ | with_reducible refine r_nd ?_ | with_reducible refine r_noE ?_ | with_reducible refine r_pu ?_ | with_reducible refine r_bk ?_ | with_reducible refine r_ct ?_ | with_reducible refine r_trR ?_ | with_reducible refine r_trE ?_)); (try dsimp only [id])
    rw [show ((4 : Int) + (f : Int)) = ((4 + f : Nat) : Int) by omega]
    have ne : ¬ ((Sum.inr (Str.ofString "line", (1 : Int)) : StandingV ⊕ (Str × Int)) = Sum.inr (Str.ofString "mood", ((4 + f : Nat) : Int))) := fun e => by
      have := congrArg (fun p : Str × Int => p.2) (Sum.inr.inj e)
      have : (1 : Int) = ((4 + f : Nat) : Int) := this
      omega
    rw [decide_eq_false ne]
    (repeat (first | with_reducible refine r_rt ?_ | with_reducible refine r_bd ?_ | with_reducible refine r_se ?_ | with_reducible refine r_re ?_ | with_reducible refine r_nx ?_ | with_reducible refine r_if ?_ | with_reducible refine r_i1 ?_ | with_reducible refine r_fo ?_ | with_reducible refine r_ap ?_ | with_reducible refine r_ra ?_ | with_reducible refine r_nd ?_ | with_reducible refine r_noE ?_ | with_reducible refine r_pu ?_ | with_reducible refine r_bk ?_ | with_reducible refine r_ct ?_ | with_reducible refine r_trR ?_ | with_reducible refine r_trE ?_)); (try dsimp only [id])
    rw [if_pos (by decide)]
    (repeat (first | with_reducible refine r_rt ?_ | with_reducible refine r_bd ?_ | with_reducible refine r_se ?_ | with_reducible refine r_re ?_ | with_reducible refine r_nx ?_ | with_reducible refine r_if ?_ | with_reducible refine r_i1 ?_ | with_reducible refine r_fo ?_ | with_reducible refine r_ap ?_ | with_reducible refine r_ra ?_ | with_reducible refine r_nd ?_ | with_reducible refine r_noE ?_ | with_reducible refine r_pu ?_ | with_reducible refine r_bk ?_ | with_reducible refine r_ct ?_ | with_reducible refine r_trR ?_ | with_reducible refine r_trE ?_)); (try dsimp only [id])
    rw [decide_eq_false (show ¬ ((f : Int) < 9990) by omega), if_neg (by decide)]
    (repeat (first | with_reducible refine r_rt ?_ | with_reducible refine r_bd ?_ | with_reducible refine r_se ?_ | with_reducible refine r_re ?_ | with_reducible refine r_nx ?_ | with_reducible refine r_if ?_ | with_reducible refine r_i1 ?_ | with_reducible refine r_fo ?_ | with_reducible refine r_ap ?_ | with_reducible refine r_ra ?_ | with_reducible refine r_nd ?_ | with_reducible refine r_noE ?_ | with_reducible refine r_pu ?_ | with_reducible refine r_bk ?_ | with_reducible refine r_ct ?_ | with_reducible refine r_trR ?_ | with_reducible refine r_trE ?_)); (try dsimp only [id])
    exact last rfl
  · refine w_told_text hz4 (by omega) (by omega) h0 (by omega) sT (init_mood h1 h4 s8 (by omega) (by omega) (by omega) (.inr ⟨_, _, rfl, ne_mood, ?_⟩))
    (repeat (first | with_reducible refine r_rt ?_ | with_reducible refine r_bd ?_ | with_reducible refine r_se ?_ | with_reducible refine r_re ?_ | with_reducible refine r_nx ?_ | with_reducible refine r_if ?_ | with_reducible refine r_i1 ?_ | with_reducible refine r_fo ?_ | with_reducible refine r_ap ?_ | with_reducible refine r_ra ?_ | with_reducible refine r_nd ?_ | with_reducible refine r_noE ?_ | with_reducible refine r_pu ?_ | with_reducible refine r_bk ?_ | with_reducible refine r_ct ?_ | with_reducible refine r_trR ?_ | with_reducible refine r_trE ?_)); (try dsimp only [id])
    refine ⟨ne_mood, ?_⟩
    (repeat (first | with_reducible refine r_rt ?_ | with_reducible refine r_bd ?_ | with_reducible refine r_se ?_ | with_reducible refine r_re ?_ | with_reducible refine r_nx ?_ | with_reducible refine r_if ?_ | with_reducible refine r_i1 ?_ | with_reducible refine r_fo ?_ | with_reducible refine r_ap ?_ | with_reducible refine r_ra ?_ | with_reducible refine r_nd ?_ | with_reducible refine r_noE ?_ | with_reducible refine r_pu ?_ | with_reducible refine r_bk ?_ | with_reducible refine r_ct ?_ | with_reducible refine r_trR ?_ | with_reducible refine r_trE ?_)); (try dsimp only [id])
    rw [show ((4 : Int) + (f : Int)) = ((4 + f : Nat) : Int) by omega]
    rw [decide_eq_true rfl]
    (repeat (first | with_reducible refine r_rt ?_ | with_reducible refine r_bd ?_ | with_reducible refine r_se ?_ | with_reducible refine r_re ?_ | with_reducible refine r_nx ?_ | with_reducible refine r_if ?_ | with_reducible refine r_i1 ?_ | with_reducible refine r_fo ?_ | with_reducible refine r_ap ?_ | with_reducible refine r_ra ?_ | with_reducible refine r_nd ?_ | with_reducible refine r_noE ?_ | with_reducible refine r_pu ?_ | with_reducible refine r_bk ?_ | with_reducible refine r_ct ?_ | with_reducible refine r_trR ?_ | with_reducible refine r_trE ?_)); (try dsimp only [id])
    rw [if_neg (by decide)]
    (repeat (first | with_reducible refine r_rt ?_ | with_reducible refine r_bd ?_ | with_reducible refine r_se ?_ | with_reducible refine r_re ?_ | with_reducible refine r_nx ?_ | with_reducible refine r_if ?_ | with_reducible refine r_i1 ?_ | with_reducible refine r_fo ?_ | with_reducible refine r_ap ?_ | with_reducible refine r_ra ?_ | with_reducible refine r_nd ?_ | with_reducible refine r_noE ?_ | with_reducible refine r_pu ?_ | with_reducible refine r_bk ?_ | with_reducible refine r_ct ?_ | with_reducible refine r_trR ?_ | with_reducible refine r_trE ?_)); (try dsimp only [id])
    rw [if_neg (by decide)]
    (repeat (first | with_reducible refine r_rt ?_ | with_reducible refine r_bd ?_ | with_reducible refine r_se ?_ | with_reducible refine r_re ?_ | with_reducible refine r_nx ?_ | with_reducible refine r_if ?_ | with_reducible refine r_i1 ?_ | with_reducible refine r_fo ?_ | with_reducible refine r_ap ?_ | with_reducible refine r_ra ?_ | with_reducible refine r_nd ?_ | with_reducible refine r_noE ?_ | with_reducible refine r_pu ?_ | with_reducible refine r_bk ?_ | with_reducible refine r_ct ?_ | with_reducible refine r_trR ?_ | with_reducible refine r_trE ?_)); (try dsimp only [id])
    exact last rfl
end Wb

namespace Dn
open PySem PySem.Spec PyProof.Rows L2 Wx NdefX RZ StX
section
variable {P : Program} {w : World} {K : PySem.W.Frag} {mg : Str → Option Value} {base : Heap} {x nm rn : Str} {k : Nat} {f : Addr} {fd : FuncData} {ps fs : List Str} {α β γ ρ : Type} {TA : TyS α} {TAl : Addr → Addr → TyS α} {T : Ty ρ} {m : α → WP ρ} {S : TyS γ} {g : β → γ} {mi : α → WP β} {C : Addr}
theorem fn_of (F : FnOk P w K mg base (L2.CX P w) k f fd ps (spF K TA T m)) (hm : mg x = some (.ref f)) (hk : PySem.W.keepIn K (.ref f) = true) (hb : Binds K fd ps []) : Fn P w K mg base x k ps TA T m := ⟨f, fd, F, hm, hk, hb⟩
theorem fnl_of (F : FnOk P w K mg base (L2.CX P w) k f fd ps (spL K TAl T m)) (hm : mg x = some (.ref f)) (hk : PySem.W.keepIn K (.ref f) = true) (hb : Binds K fd ps []) : FnL P w K mg base x k ps TAl T m := ⟨f, fd, F, hm, hk, hb⟩
theorem mk_of (F : FnOk P w K mg base (L2.CX P w) k f fd ps (spI K (cl K x) fs S g TA mi)) (hm : Mk K (cl K x) f) (hb : Binds K fd ps []) (hg : mg x = some (.ref (cl K x))) : Mk1 P w K mg base x k ps fs S g TA mi := ⟨⟨f, fd, F, hm, hb⟩, hg⟩
theorem ow_of (F : FnOk P w K mg base (L2.CX P w) k f fd ps (spF K TA T m)) (hb : Binds K fd ps []) (hs : PySem.W.findIn K (.ref C) nm = some (some (.ref f))) (hf : PySem.W.isFn K (.ref f) = true) : OwC P w K mg base C nm k TA T m := ⟨f, fd, ps, F, hb, hs, hf⟩
theorem ob_of (F : FnOk P w K mg base (L2.CX P w) k f fd ps (spF K TA T m)) (hb : Binds K fd ps []) (O : OpC K C f nm rn) : OwB P w K mg base C nm rn k TA T m := ⟨f, fd, ps, F, hb, O⟩
theorem mt_of (F : FnOk P w K mg base (L2.CX P w) k f fd ps (spF K TA T m)) (hm : Meth K C x f) (hb : Binds K fd ps []) (hc : Cls K C) : Mt P w K mg base C x k ps TA T m := ⟨⟨f, fd, F, hm, hb⟩, hc⟩
theorem cl_of {C : Addr} (h : PySem.W.nsIn K mainGlobals x = some (some (.ref C))) : C = cl K x := by
  show C = He.ga K x
  unfold He.ga
  rw [h]
end
end Dn

set_option synthInstance.maxSize 2000
namespace Wb
open PySem PySem.Spec PyProof.Rows L2 Wx NdefX RZ StX Dn
section
theorem all_mk {l : PySem.W.OpenLaw} {w : World} {K : PySem.W.Frag} {h : Heap} {mg : Str → Option Value} {fa : Addr}
    {oc0 kV0 dc0 pm0 cd0 ct0 : Value} {od0 an0 : Option Addr} {sl0 : Array (Option Value)} {f0 : Addr}
    {oc1 kV1 dc1 pm1 cd1 ct1 : Value} {od1 an1 : Option Addr} {sl1 : Array (Option Value)} {f1 : Addr}
    {oc2 kV2 dc2 pm2 cd2 ct2 : Value} {od2 an2 : Option Addr} {sl2 : Array (Option Value)} {f2 : Addr}
    {oc3 kV3 dc3 pm3 cd3 ct3 : Value} {od3 an3 : Option Addr} {sl3 : Array (Option Value)} {f3 : Addr}
    {oc4 kV4 dc4 pm4 cd4 ct4 : Value} {od4 an4 : Option Addr} {sl4 : Array (Option Value)} {f4 : Addr}
    {oc5 kV5 dc5 pm5 cd5 ct5 : Value} {od5 an5 : Option Addr} {sl5 : Array (Option Value)} {f5 : Addr}
    {oc6 kV6 dc6 pm6 cd6 ct6 : Value} {od6 an6 : Option Addr} {sl6 : Array (Option Value)} {f6 : Addr}
    {oc7 kV7 dc7 pm7 cd7 ct7 : Value} {od7 an7 : Option Addr} {sl7 : Array (Option Value)} {f7 : Addr}
    {oc8 kV8 dc8 pm8 cd8 ct8 : Value} {od8 an8 : Option Addr} {sl8 : Array (Option Value)} {f8 : Addr}
    {oc9 kV9 dc9 pm9 cd9 ct9 : Value} {od9 an9 : Option Addr} {sl9 : Array (Option Value)} {f9 : Addr}
    {oc10 kV10 dc10 pm10 cd10 ct10 : Value} {od10 an10 : Option Addr} {sl10 : Array (Option Value)} {f10 : Addr}
    {oc11 kV11 dc11 pm11 cd11 ct11 : Value} {od11 an11 : Option Addr} {sl11 : Array (Option Value)} {f11 : Addr}
    {oc12 kV12 dc12 pm12 cd12 ct12 : Value} {od12 an12 : Option Addr} {sl12 : Array (Option Value)} {f12 : Addr}
    {t_MOST_PLOTS : Tok}
    {t_MOST_UNITS : Tok}
    {t_MOST_MOODS : Tok}
    {t__LONGEST_NUMBER : Tok}
    {t__DIGITS : Tok}
    {nm_BadNumber qn_BadNumber fl_BadNumber : Str} {N_BadNumber C_BadNumber f_BadNumber cda_BadNumber cc_BadNumber : Addr} {bs_BadNumber sub_BadNumber bm_BadNumber : List Value} {sn_BadNumber : List Str} {ab_BadNumber : Bool} {col_BadNumber : Option Bool} {dd_BadNumber od_BadNumber an_BadNumber cdd_BadNumber cld_BadNumber : Option Addr} {m0_BadNumber m1_BadNumber m2_BadNumber m3_BadNumber m5_BadNumber : Option Value} {oc_BadNumber kV_BadNumber doc_BadNumber pm_BadNumber ct_BadNumber ccl_BadNumber clv_BadNumber : Value} {osl_BadNumber ccs_BadNumber csl_BadNumber : Array (Option Value)} {vs_BadNumber : Array Value} {tf_BadNumber : Tok}
    {nm_BadText qn_BadText fl_BadText : Str} {N_BadText C_BadText f_BadText cda_BadText cc_BadText : Addr} {bs_BadText sub_BadText bm_BadText : List Value} {sn_BadText : List Str} {ab_BadText : Bool} {col_BadText : Option Bool} {dd_BadText od_BadText an_BadText cdd_BadText cld_BadText : Option Addr} {m0_BadText m1_BadText m2_BadText m3_BadText m5_BadText : Option Value} {oc_BadText kV_BadText doc_BadText pm_BadText ct_BadText ccl_BadText clv_BadText : Value} {osl_BadText ccs_BadText csl_BadText : Array (Option Value)} {vs_BadText : Array Value} {tf_BadText : Tok}
    {C_Standing : Addr}
    {oc_Standing_init kV_Standing_init dc_Standing_init pm_Standing_init cd_Standing_init ct_Standing_init : Value} {od_Standing_init an_Standing_init : Option Addr} {sl_Standing_init : Array (Option Value)} {f_Standing_init : Addr}
    {oc_Standing_eq kV_Standing_eq dc_Standing_eq pm_Standing_eq cd_Standing_eq ct_Standing_eq : Value} {od_Standing_eq an_Standing_eq : Option Addr} {sl_Standing_eq : Array (Option Value)} {f_Standing_eq : Addr}
    {oc_Standing___str__ kV_Standing___str__ dc_Standing___str__ pm_Standing___str__ cd_Standing___str__ ct_Standing___str__ : Value} {od_Standing___str__ an_Standing___str__ : Option Addr} {sl_Standing___str__ : Array (Option Value)} {f_Standing___str__ : Addr}
    (X : K.In h) (G : h.Ns mainGlobals mg) (hfa : mg "law" = some (.ref fa))
    (a0 : PySem.W.nsIn K mainGlobals "_shown" = some (some (.ref f0)))
    (l0 : K.lookup f0 = some ⟨oc0, od0, .func (PySem.W.fnOf "_shown" "_shown" (defArgs s_shown) (defBody s_shown) (defScope s_shown) .none kV0 dc0 pm0 an0 cd0 ct0), sl0⟩)
    (c0 : PySem.W.codeIn K cd0 "_shown" = true)
    (k0 : PySem.W.keepIn K (.ref f0) = true)
    (a1 : PySem.W.nsIn K mainGlobals "_law_start" = some (some (.ref f1)))
    (l1 : K.lookup f1 = some ⟨oc1, od1, .func (PySem.W.fnOf "_law_start" "_law_start" (defArgs s_law_start) (defBody s_law_start) (defScope s_law_start) .none kV1 dc1 pm1 an1 cd1 ct1), sl1⟩)
    (c1 : PySem.W.codeIn K cd1 "_law_start" = true)
    (k1 : PySem.W.keepIn K (.ref f1) = true)
    (a2 : PySem.W.nsIn K mainGlobals "_law_draw" = some (some (.ref f2)))
    (l2 : K.lookup f2 = some ⟨oc2, od2, .func (PySem.W.fnOf "_law_draw" "_law_draw" (defArgs s_law_draw) (defBody s_law_draw) (defScope s_law_draw) .none kV2 dc2 pm2 an2 cd2 ct2), sl2⟩)
    (c2 : PySem.W.codeIn K cd2 "_law_draw" = true)
    (k2 : PySem.W.keepIn K (.ref f2) = true)
    (a3 : PySem.W.nsIn K mainGlobals "is_number" = some (some (.ref f3)))
    (l3 : K.lookup f3 = some ⟨oc3, od3, .func (PySem.W.fnOf "is_number" "is_number" (defArgs sis_number) (defBody sis_number) (defScope sis_number) .none kV3 dc3 pm3 an3 cd3 ct3), sl3⟩)
    (c3 : PySem.W.codeIn K cd3 "is_number" = true)
    (k3 : PySem.W.keepIn K (.ref f3) = true)
    (a4 : PySem.W.nsIn K mainGlobals "read_number" = some (some (.ref f4)))
    (l4 : K.lookup f4 = some ⟨oc4, od4, .func (PySem.W.fnOf "read_number" "read_number" (defArgs sread_number) (defBody sread_number) (defScope sread_number) .none kV4 dc4 pm4 an4 cd4 ct4), sl4⟩)
    (c4 : PySem.W.codeIn K cd4 "read_number" = true)
    (k4 : PySem.W.keepIn K (.ref f4) = true)
    (a5 : PySem.W.nsIn K mainGlobals "check_number" = some (some (.ref f5)))
    (l5 : K.lookup f5 = some ⟨oc5, od5, .func (PySem.W.fnOf "check_number" "check_number" (defArgs scheck_number) (defBody scheck_number) (defScope scheck_number) .none kV5 dc5 pm5 an5 cd5 ct5), sl5⟩)
    (c5 : PySem.W.codeIn K cd5 "check_number" = true)
    (k5 : PySem.W.keepIn K (.ref f5) = true)
    (a6 : PySem.W.nsIn K mainGlobals "check_units" = some (some (.ref f6)))
    (l6 : K.lookup f6 = some ⟨oc6, od6, .func (PySem.W.fnOf "check_units" "check_units" (defArgs scheck_units) (defBody scheck_units) (defScope scheck_units) .none kV6 dc6 pm6 an6 cd6 ct6), sl6⟩)
    (c6 : PySem.W.codeIn K cd6 "check_units" = true)
    (k6 : PySem.W.keepIn K (.ref f6) = true)
    (a7 : PySem.W.nsIn K mainGlobals "_are_numbers" = some (some (.ref f7)))
    (l7 : K.lookup f7 = some ⟨oc7, od7, .func (PySem.W.fnOf "_are_numbers" "_are_numbers" (defArgs s_are_numbers) (defBody s_are_numbers) (defScope s_are_numbers) .none kV7 dc7 pm7 an7 cd7 ct7), sl7⟩)
    (c7 : PySem.W.codeIn K cd7 "_are_numbers" = true)
    (k7 : PySem.W.keepIn K (.ref f7) = true)
    (a8 : PySem.W.nsIn K mainGlobals "read_standing" = some (some (.ref f8)))
    (l8 : K.lookup f8 = some ⟨oc8, od8, .func (PySem.W.fnOf "read_standing" "read_standing" (defArgs sread_standing) (defBody sread_standing) (defScope sread_standing) .none kV8 dc8 pm8 an8 cd8 ct8), sl8⟩)
    (c8 : PySem.W.codeIn K cd8 "read_standing" = true)
    (k8 : PySem.W.keepIn K (.ref f8) = true)
    (a9 : PySem.W.nsIn K mainGlobals "_law_told" = some (some (.ref f9)))
    (l9 : K.lookup f9 = some ⟨oc9, od9, .func (PySem.W.fnOf "_law_told" "_law_told" (defArgs s_law_told) (defBody s_law_told) (defScope s_law_told) .none kV9 dc9 pm9 an9 cd9 ct9), sl9⟩)
    (c9 : PySem.W.codeIn K cd9 "_law_told" = true)
    (k9 : PySem.W.keepIn K (.ref f9) = true)
    (a10 : PySem.W.nsIn K mainGlobals "_law_text" = some (some (.ref f10)))
    (l10 : K.lookup f10 = some ⟨oc10, od10, .func (PySem.W.fnOf "_law_text" "_law_text" (defArgs s_law_text) (defBody s_law_text) (defScope s_law_text) .none kV10 dc10 pm10 an10 cd10 ct10), sl10⟩)
    (c10 : PySem.W.codeIn K cd10 "_law_text" = true)
    (k10 : PySem.W.keepIn K (.ref f10) = true)
    (a11 : PySem.W.nsIn K mainGlobals "_law_wrong_texts" = some (some (.ref f11)))
    (l11 : K.lookup f11 = some ⟨oc11, od11, .func (PySem.W.fnOf "_law_wrong_texts" "_law_wrong_texts" (defArgs s_law_wrong_texts) (defBody s_law_wrong_texts) (defScope s_law_wrong_texts) .none kV11 dc11 pm11 an11 cd11 ct11), sl11⟩)
    (c11 : PySem.W.codeIn K cd11 "_law_wrong_texts" = true)
    (k11 : PySem.W.keepIn K (.ref f11) = true)
    (a12 : PySem.W.nsIn K mainGlobals "law" = some (some (.ref f12)))
    (l12 : K.lookup f12 = some ⟨oc12, od12, .func (PySem.W.fnOf "law" "law" (defArgs slaw) (defBody slaw) (defScope slaw) .none kV12 dc12 pm12 an12 cd12 ct12), sl12⟩)
    (c12 : PySem.W.codeIn K cd12 "law" = true)
    (k12 : PySem.W.keepIn K (.ref f12) = true)
    (z_len : PySem.W.nsIn K mainGlobals "len" = some none)
    (z_abs : PySem.W.nsIn K mainGlobals "abs" = some none)
    (z_int : PySem.W.nsIn K mainGlobals "int" = some none)
    (z_bool : PySem.W.nsIn K mainGlobals "bool" = some none)
    (z_str : PySem.W.nsIn K mainGlobals "str" = some none)
    (z_range : PySem.W.nsIn K mainGlobals "range" = some none)
    (z_all : PySem.W.nsIn K mainGlobals "all" = some none)
    (z_isinstance : PySem.W.nsIn K mainGlobals "isinstance" = some none)
    (z_tuple : PySem.W.nsIn K mainGlobals "tuple" = some none)
    (z_super : PySem.W.nsIn K mainGlobals "super" = some none)
    (z_repr : PySem.W.nsIn K mainGlobals "repr" = some none)
    (g_MOST_PLOTS : PySem.W.nsIn K mainGlobals "MOST_PLOTS" = some (some (.int 4 t_MOST_PLOTS)))
    (g_MOST_UNITS : PySem.W.nsIn K mainGlobals "MOST_UNITS" = some (some (.int 8 t_MOST_UNITS)))
    (g_MOST_MOODS : PySem.W.nsIn K mainGlobals "MOST_MOODS" = some (some (.int 4 t_MOST_MOODS)))
    (g__LONGEST_NUMBER : PySem.W.nsIn K mainGlobals "_LONGEST_NUMBER" = some (some (.int 4 t__LONGEST_NUMBER)))
    (g__DIGITS : PySem.W.nsIn K mainGlobals "_DIGITS" = some (some (.str "0123456789" t__DIGITS)))
    (g_BadNumber : PySem.W.nsIn K mainGlobals "BadNumber" = some (some (.ref C_BadNumber)))
    (x_BadNumber : K.lookup C_BadNumber = some (excClassObj nm_BadNumber qn_BadNumber C_BadNumber N_BadNumber bs_BadNumber bm_BadNumber true sn_BadNumber sub_BadNumber ab_BadNumber col_BadNumber dd_BadNumber m0_BadNumber m1_BadNumber m2_BadNumber m3_BadNumber m5_BadNumber "ValueError.__new__"))
    (r_BadNumber : PySem.HandSPX.refsVE bm_BadNumber = true)
    (sa_BadNumber : PySem.W.findIn K (.ref C_BadNumber) "__setattr__" = some (some (.builtin "object.__setattr__")))
    (ex_BadNumber : PySem.W.subIn K (.ref C_BadNumber) (.type "BaseException") = some true)
    (ty_BadNumber : PySem.W.typeIn K (.ref C_BadNumber) = some (.type "type"))
    (kp_BadNumber : PySem.W.keepIn K (.ref C_BadNumber) = true)
    (i_BadNumber : PySem.W.findIn K (.ref C_BadNumber) "__init__" = some (some (.ref f_BadNumber)))
    (l_BadNumber : K.lookup f_BadNumber = some ⟨oc_BadNumber, od_BadNumber, .func (PySem.W.fnX "__init__" "BadNumber.__init__" (defArgs sBadNumber___init__) (defBody sBadNumber___init__) (defScope sBadNumber___init__) [("__class__", cc_BadNumber)] .none kV_BadNumber doc_BadNumber pm_BadNumber an_BadNumber (.ref cda_BadNumber) ct_BadNumber), osl_BadNumber⟩)
    (cd_BadNumber : PySem.W.codeIn K (.ref cda_BadNumber) "BadNumber.__init__" = true)
    (cf_BadNumber : K.lookup cda_BadNumber = some ⟨ccl_BadNumber, cdd_BadNumber, .fields vs_BadNumber, ccs_BadNumber⟩)
    (v2_BadNumber : vs_BadNumber[2]? = some (.str fl_BadNumber tf_BadNumber))
    (fi_BadNumber : ((l.prog.main.file : Str) == fl_BadNumber) = true)
    (cl_BadNumber : K.lookup cc_BadNumber = some ⟨clv_BadNumber, cld_BadNumber, .cell (some (.ref C_BadNumber)), csl_BadNumber⟩)
    (mr_BadNumber : PySem.W.mroIn K C_BadNumber (.ref C_BadNumber) = some true)
    (sb_BadNumber : PySem.W.subIn K (.ref C_BadNumber) (.type "ValueError") = some true)
    (su_BadNumber : PySem.W.ks_superIn K C_BadNumber C_BadNumber "__init__" = some (some (.builtin "ValueError.__init__")))
    (ti_BadNumber : PySem.W.typeIn K (.ref f_BadNumber) = some (.type "function"))
    (ga_BadNumber : PySem.W.findIn K (.ref C_BadNumber) "__getattribute__" = some (some (.builtin "BaseException.__getattribute__")))
    (gg_BadNumber : PySem.W.findIn K (.ref C_BadNumber) "__getattr__" = some none)
    (hd_BadNumber : PySem.W.hasDictIn K C_BadNumber = true)
    (ha_BadNumber : PySem.W.findIn K (.ref C_BadNumber) "__class__" = some (some (.builtin "object.__class__")))
    (mo_BadNumber : PySem.W.mroIn K C_BadNumber (.type "object") = some true)
    (em_BadNumber : PySem.W.subIn K (.ref C_BadNumber) (.ref C_BadNumber) = some true)
    (nw_BadNumber : PySem.W.findIn K (.ref C_BadNumber) "what" = some none)
    (nv_BadNumber : PySem.W.findIn K (.ref C_BadNumber) "value" = some none)
    (nn_BadNumber : PySem.W.findIn K (.ref C_BadNumber) "name" = some none)
    (nt_BadNumber : PySem.W.findIn K (.ref C_BadNumber) "turn" = some none)
    (g_BadText : PySem.W.nsIn K mainGlobals "BadText" = some (some (.ref C_BadText)))
    (x_BadText : K.lookup C_BadText = some (excClassObj nm_BadText qn_BadText C_BadText N_BadText bs_BadText bm_BadText true sn_BadText sub_BadText ab_BadText col_BadText dd_BadText m0_BadText m1_BadText m2_BadText m3_BadText m5_BadText "ValueError.__new__"))
    (r_BadText : PySem.HandSPX.refsVE bm_BadText = true)
    (sa_BadText : PySem.W.findIn K (.ref C_BadText) "__setattr__" = some (some (.builtin "object.__setattr__")))
    (ex_BadText : PySem.W.subIn K (.ref C_BadText) (.type "BaseException") = some true)
    (ty_BadText : PySem.W.typeIn K (.ref C_BadText) = some (.type "type"))
    (kp_BadText : PySem.W.keepIn K (.ref C_BadText) = true)
    (i_BadText : PySem.W.findIn K (.ref C_BadText) "__init__" = some (some (.ref f_BadText)))
    (l_BadText : K.lookup f_BadText = some ⟨oc_BadText, od_BadText, .func (PySem.W.fnX "__init__" "BadText.__init__" (defArgs sBadText___init__) (defBody sBadText___init__) (defScope sBadText___init__) [("__class__", cc_BadText)] .none kV_BadText doc_BadText pm_BadText an_BadText (.ref cda_BadText) ct_BadText), osl_BadText⟩)
    (cd_BadText : PySem.W.codeIn K (.ref cda_BadText) "BadText.__init__" = true)
    (cf_BadText : K.lookup cda_BadText = some ⟨ccl_BadText, cdd_BadText, .fields vs_BadText, ccs_BadText⟩)
    (v2_BadText : vs_BadText[2]? = some (.str fl_BadText tf_BadText))
    (fi_BadText : ((l.prog.main.file : Str) == fl_BadText) = true)
    (cl_BadText : K.lookup cc_BadText = some ⟨clv_BadText, cld_BadText, .cell (some (.ref C_BadText)), csl_BadText⟩)
    (mr_BadText : PySem.W.mroIn K C_BadText (.ref C_BadText) = some true)
    (sb_BadText : PySem.W.subIn K (.ref C_BadText) (.type "ValueError") = some true)
    (su_BadText : PySem.W.ks_superIn K C_BadText C_BadText "__init__" = some (some (.builtin "ValueError.__init__")))
    (ti_BadText : PySem.W.typeIn K (.ref f_BadText) = some (.type "function"))
    (ga_BadText : PySem.W.findIn K (.ref C_BadText) "__getattribute__" = some (some (.builtin "BaseException.__getattribute__")))
    (gg_BadText : PySem.W.findIn K (.ref C_BadText) "__getattr__" = some none)
    (hd_BadText : PySem.W.hasDictIn K C_BadText = true)
    (ha_BadText : PySem.W.findIn K (.ref C_BadText) "__class__" = some (some (.builtin "object.__class__")))
    (mo_BadText : PySem.W.mroIn K C_BadText (.type "object") = some true)
    (em_BadText : PySem.W.subIn K (.ref C_BadText) (.ref C_BadText) = some true)
    (nw_BadText : PySem.W.findIn K (.ref C_BadText) "what" = some none)
    (nv_BadText : PySem.W.findIn K (.ref C_BadText) "value" = some none)
    (nn_BadText : PySem.W.findIn K (.ref C_BadText) "name" = some none)
    (nt_BadText : PySem.W.findIn K (.ref C_BadText) "turn" = some none)
    (nxline_BadText : PySem.W.findIn K (.ref C_BadText) "line" = some none)
    (g_Standing : PySem.W.nsIn K mainGlobals "Standing" = some (some (.ref C_Standing)))
    (mk_Standing : PySem.W.makesIn K C_Standing = true)
    (kp_Standing : PySem.W.keepIn K (.ref C_Standing) = true)
    (pg_Standing : PySem.W.plainGet K C_Standing Str.empty = true)
    (hd_Standing : PySem.W.hasDictIn K C_Standing = true)
    (po_Standing : PySem.W.plainOver K C_Standing = true)
    (sa_Standing : PySem.W.findIn K (.ref C_Standing) "__setattr__" = some (some (.builtin "object.__setattr__")))
    (ne_Standing : PySem.W.findIn K (.ref C_Standing) "__ne__" = some (some (.builtin "object.__ne__")))
    (ob_Standing : PySem.W.subIn K (.ref C_Standing) (.type "object") = some true)
    (ha_Standing : PySem.W.findIn K (.ref C_Standing) "__class__" = some (some (.builtin "object.__class__")))
    (hm_Standing : PySem.W.mroIn K C_Standing (.type "object") = some true)
    (kk_Standing : PySem.W.kitOne K (.ref C_Standing) (.ref C_Standing) = some true)
    (no_Standing_levels : PySem.W.findIn K (.ref C_Standing) "levels" = some none)
    (no_Standing_tank : PySem.W.findIn K (.ref C_Standing) "tank" = some none)
    (no_Standing_mood : PySem.W.findIn K (.ref C_Standing) "mood" = some none)
    (i_Standing_init : PySem.W.findIn K (.ref C_Standing) "__init__" = some (some (.ref f_Standing_init)))
    (fn_Standing_init : PySem.W.isFn K (.ref f_Standing_init) = true)
    (l_Standing_init : K.lookup f_Standing_init = some ⟨oc_Standing_init, od_Standing_init, .func (PySem.W.fnOf "__init__" "Standing.__init__" (defArgs sStanding___init__) (defBody sStanding___init__) (defScope sStanding___init__) .none kV_Standing_init dc_Standing_init pm_Standing_init an_Standing_init cd_Standing_init ct_Standing_init), sl_Standing_init⟩)
    (c_Standing_init : PySem.W.codeIn K cd_Standing_init "Standing.__init__" = true)
    (k_Standing_init : PySem.W.keepIn K (.ref f_Standing_init) = true)
    (i_Standing_eq : PySem.W.findIn K (.ref C_Standing) "__eq__" = some (some (.ref f_Standing_eq)))
    (fn_Standing_eq : PySem.W.isFn K (.ref f_Standing_eq) = true)
    (l_Standing_eq : K.lookup f_Standing_eq = some ⟨oc_Standing_eq, od_Standing_eq, .func (PySem.W.fnOf "__eq__" "Standing.__eq__" (defArgs sStanding___eq__) (defBody sStanding___eq__) (defScope sStanding___eq__) .none kV_Standing_eq dc_Standing_eq pm_Standing_eq an_Standing_eq cd_Standing_eq ct_Standing_eq), sl_Standing_eq⟩)
    (c_Standing_eq : PySem.W.codeIn K cd_Standing_eq "Standing.__eq__" = true)
    (k_Standing_eq : PySem.W.keepIn K (.ref f_Standing_eq) = true)
    (i_Standing___str__ : PySem.W.findIn K (.ref C_Standing) "__str__" = some (some (.ref f_Standing___str__)))
    (fn_Standing___str__ : PySem.W.isFn K (.ref f_Standing___str__) = true)
    (l_Standing___str__ : K.lookup f_Standing___str__ = some ⟨oc_Standing___str__, od_Standing___str__, .func (PySem.W.fnOf "__str__" "Standing.__str__" (defArgs sStanding___str__) (defBody sStanding___str__) (defScope sStanding___str__) .none kV_Standing___str__ dc_Standing___str__ pm_Standing___str__ an_Standing___str__ cd_Standing___str__ ct_Standing___str__), sl_Standing___str__⟩)
    (c_Standing___str__ : PySem.W.codeIn K cd_Standing___str__ "Standing.__str__" = true)
    (k_Standing___str__ : PySem.W.keepIn K (.ref f_Standing___str__) = true)
    (hdx_BadText : PySem.W.hasDictIn K C_BadText = true)
    (sx_BadNumber_BadText : PySem.W.subIn K (.ref C_BadNumber) (.ref C_BadText) = some false)
    (opq : PySem.W.nsIn K cStatics "thirdparty.any" = some none)
    (htop : (l.prog.main.scope.names.lookup ("super" : Str)).isSome = false)
    (spc : PySem.W.specialIn K (.builtin "object.__class__") "__get__" = some (some (.builtin "getset_descriptor.__get__")))
    (tks : PySem.W.takesIn K (.builtin "object.__class__") = some true) :
    ∃ fd : FuncData, (∀ (s : Shared) (v : Value), BindsTo s fd ⟨[v], []⟩ [("script", v)]) ∧ ∀ base : Heap, K.In base → base.Ns mainGlobals mg → FnOk l.prog w K mg base (L2.CX l.prog w) 10 fa fd ["script"] (spLaw K) := by
  have e := hfa.symm.trans (PySem.W.mg_of X G a12)
  cases e
  have eC_BadNumber := cl_of g_BadNumber
  subst eC_BadNumber
  have eC_BadText := cl_of g_BadText
  subst eC_BadText
  have eC_Standing := cl_of g_Standing
  subst eC_Standing
  have T : Txt K mg := ⟨PySem.W.mg_none_of X G z_len, PySem.W.mg_none_of X G z_abs, PySem.W.mg_none_of X G z_int, PySem.W.mg_none_of X G z_bool, PySem.W.mg_none_of X G z_str, PySem.W.mg_none_of X G z_range, PySem.W.mg_none_of X G z_all, PySem.W.mg_none_of X G z_isinstance, PySem.W.mg_none_of X G z_tuple, PySem.W.mg_none_of X G z_super, PySem.W.mg_none_of X G z_repr, ⟨_, PySem.W.mg_of X G g_MOST_PLOTS⟩, ⟨_, PySem.W.mg_of X G g_MOST_UNITS⟩, ⟨_, PySem.W.mg_of X G g_MOST_MOODS⟩, ⟨_, PySem.W.mg_of X G g__LONGEST_NUMBER⟩, ⟨_, PySem.W.mg_of X G g__DIGITS⟩⟩
  have E_BadNumber : ErrC l.prog K mg "BadNumber" "BadNumber.__init__" (cl K "BadNumber") f_BadNumber cda_BadNumber cc_BadNumber := ⟨PySem.W.mg_of X G g_BadNumber, ⟨⟨⟨_, _, _, _, _, _, _, _, _, _, _, _, _, _, _, x_BadNumber, r_BadNumber⟩, sa_BadNumber, ex_BadNumber, ty_BadNumber, kp_BadNumber⟩, cd_BadNumber, ⟨_, _, _, _, _, _, cf_BadNumber, v2_BadNumber, fi_BadNumber⟩, ⟨_, _, _, cl_BadNumber⟩, T.b_super, htop, mr_BadNumber, sb_BadNumber, su_BadNumber, opq⟩, i_BadNumber, ti_BadNumber, ⟨ga_BadNumber, gg_BadNumber, ex_BadNumber, hd_BadNumber⟩, ⟨ga_BadNumber, gg_BadNumber, ex_BadNumber, hd_BadNumber, ha_BadNumber, spc, tks, mo_BadNumber⟩, PySem.W.exm_ref ex_BadNumber hd_BadNumber ty_BadNumber em_BadNumber, nw_BadNumber, nv_BadNumber, nn_BadNumber, nt_BadNumber⟩
  have E_BadText : ErrC l.prog K mg "BadText" "BadText.__init__" (cl K "BadText") f_BadText cda_BadText cc_BadText := ⟨PySem.W.mg_of X G g_BadText, ⟨⟨⟨_, _, _, _, _, _, _, _, _, _, _, _, _, _, _, x_BadText, r_BadText⟩, sa_BadText, ex_BadText, ty_BadText, kp_BadText⟩, cd_BadText, ⟨_, _, _, _, _, _, cf_BadText, v2_BadText, fi_BadText⟩, ⟨_, _, _, cl_BadText⟩, T.b_super, htop, mr_BadText, sb_BadText, su_BadText, opq⟩, i_BadText, ti_BadText, ⟨ga_BadText, gg_BadText, ex_BadText, hd_BadText⟩, ⟨ga_BadText, gg_BadText, ex_BadText, hd_BadText, ha_BadText, spc, tks, mo_BadText⟩, PySem.W.exm_ref ex_BadText hd_BadText ty_BadText em_BadText, nw_BadText, nv_BadText, nn_BadText, nt_BadText⟩
  have F_Standing_init := fun_mk (st := sStanding___init__) l_Standing_init c_Standing_init k_Standing_init
  have b_Standing_init := F_Standing_init.binds (ps := PStanding___init__) fun _ _ _ _ _ _ us hl => match us, hl with | [_, _, _, _], _ => rfl
  have F_Standing_eq := fun_mk (st := sStanding___eq__) l_Standing_eq c_Standing_eq k_Standing_eq
  have b_Standing_eq := F_Standing_eq.binds (ps := PStanding___eq__) fun _ _ _ _ _ _ us hl => match us, hl with | [_, _], _ => rfl
  have F_Standing___str__ := fun_mk (st := sStanding___str__) l_Standing___str__ c_Standing___str__ k_Standing___str__
  have b_Standing___str__ := F_Standing___str__.binds (ps := PStanding___str__) fun _ _ _ _ _ _ us hl => match us, hl with | [_], _ => rfl
  have cls_Standing : Cls K (cl K "Standing") := ⟨pg_Standing, hd_Standing, po_Standing, sa_Standing⟩
  have D_Standing : ClsT K mg "Standing" ["levels", "tank", "mood"] := ⟨PySem.W.mg_of X G g_Standing, cls_Standing, (fun f hf => by
    simp only [List.mem_cons, List.not_mem_nil, or_false] at hf
    rcases hf with rfl | rfl | rfl
    · exact no_Standing_levels
    · exact no_Standing_tank
    · exact no_Standing_mood), ha_Standing, spc, tks, hm_Standing, kk_Standing⟩
  have F0 := fun_mk (st := s_shown) l0 c0 k0
  have b0 := F0.binds (ps := P_shown) fun _ _ _ _ _ _ us hl => match us, hl with | [_], _ => rfl
  have F1 := fun_mk (st := s_law_start) l1 c1 k1
  have b1 := F1.binds (ps := P_law_start) fun _ _ _ _ _ _ us hl => match us, hl with | [_], _ => rfl
  have F2 := fun_mk (st := s_law_draw) l2 c2 k2
  have b2 := F2.binds (ps := P_law_draw) fun _ _ _ _ _ _ us hl => match us, hl with | [_, _, _], _ => rfl
  have F3 := fun_mk (st := sis_number) l3 c3 k3
  have b3 := F3.binds (ps := Pis_number) fun _ _ _ _ _ _ us hl => match us, hl with | [_], _ => rfl
  have F4 := fun_mk (st := sread_number) l4 c4 k4
  have b4 := F4.binds (ps := Pread_number) fun _ _ _ _ _ _ us hl => match us, hl with | [_], _ => rfl
  have F5 := fun_mk (st := scheck_number) l5 c5 k5
  have b5 := F5.binds (ps := Pcheck_number) fun _ _ _ _ _ _ us hl => match us, hl with | [_, _, _, _], _ => rfl
  have F6 := fun_mk (st := scheck_units) l6 c6 k6
  have b6 := F6.binds (ps := Pcheck_units) fun _ _ _ _ _ _ us hl => match us, hl with | [_, _], _ => rfl
  have F7 := fun_mk (st := s_are_numbers) l7 c7 k7
  have b7 := F7.binds (ps := P_are_numbers) fun _ _ _ _ _ _ us hl => match us, hl with | [_], _ => rfl
  have F8 := fun_mk (st := sread_standing) l8 c8 k8
  have b8 := F8.binds (ps := Pread_standing) fun _ _ _ _ _ _ us hl => match us, hl with | [_], _ => rfl
  have F9 := fun_mk (st := s_law_told) l9 c9 k9
  have b9 := F9.binds (ps := P_law_told) fun _ _ _ _ _ _ us hl => match us, hl with | [_], _ => rfl
  have F10 := fun_mk (st := s_law_text) l10 c10 k10
  have b10 := F10.binds (ps := P_law_text) fun _ _ _ _ _ _ us hl => match us, hl with | [_, _, _], _ => rfl
  have F11 := fun_mk (st := s_law_wrong_texts) l11 c11 k11
  have b11 := F11.binds (ps := P_law_wrong_texts) fun _ _ _ _ _ _ us hl => match us, hl with | [_], _ => rfl
  have F12 := fun_mk (st := slaw) l12 c12 k12
  have b_BadNumber : Binds K (PySem.W.fnX "__init__" "BadNumber.__init__" (defArgs sBadNumber___init__) (defBody sBadNumber___init__) (defScope sBadNumber___init__) [("__class__", cc_BadNumber)] .none kV_BadNumber doc_BadNumber pm_BadNumber an_BadNumber (.ref cda_BadNumber) ct_BadNumber) PBadNumber___init__ [] := .all fun us hl => match us, hl with | [_, _, _], _ => rfl
  have b_BadText : Binds K (PySem.W.fnX "__init__" "BadText.__init__" (defArgs sBadText___init__) (defBody sBadText___init__) (defScope sBadText___init__) [("__class__", cc_BadText)] .none kV_BadText doc_BadText pm_BadText an_BadText (.ref cda_BadText) ct_BadText) PBadText___init__ [] := .all fun us hl => match us, hl with | [_, _], _ => rfl
  refine ⟨PySem.W.fnOf "law" "law" (defArgs slaw) (defBody slaw) (defScope slaw) .none kV12 dc12 pm12 an12 cd12 ct12, fun s v => .of_eq rfl, fun base _ _ => ?_⟩
  have C_shown := Cal.mk (ok_shown (P := l.prog) (w := w) (base := base) F0 T) (PySem.W.mg_of X G a0) k0 b0
  have G_BadNumber := okBadNumber___init__ (P := l.prog) (w := w) (base := base) l_BadNumber E_BadNumber T  C_shown
  have G_BadText := okBadText___init__ (P := l.prog) (w := w) (base := base) l_BadText E_BadText T nxline_BadText C_shown
  have c_law_draw := fnl_of (x := "_law_draw") (dnL_law_draw (ok_law_draw (P := l.prog) (w := w) (base := base) F2 T)) (PySem.W.mg_of X G a2) k2 b2
  have c_law_start : ∃ (g : Addr) (gd : FuncData), FnOk l.prog w K mg base (L2.CX l.prog w) 1 g gd P_law_start (spStart K) ∧ mg "_law_start" = some (.ref g) ∧ PySem.W.keepIn K (.ref g) = true ∧ Binds K gd P_law_start [] := ⟨_, _, dn_law_start (ok_law_start (P := l.prog) (w := w) (base := base) F1 T), PySem.W.mg_of X G a1, k1, b1⟩
  have gn_BadNumber := PySem.W.mg_of X G g_BadNumber
  have gn_BadText := PySem.W.mg_of X G g_BadText
  have xf_BadNumber_BadText := PySem.W.exm_ref ex_BadText hdx_BadText ty_BadText sx_BadNumber_BadText
  have na_BadText_line := nxline_BadText
  have na_BadNumber_what := nw_BadNumber
  have na_BadNumber_value := nv_BadNumber
  have Gis_number := okis_number (P := l.prog) (w := w) (base := base) F3 T 
  have cis_number := fn_of (x := "is_number") Gis_number (PySem.W.mg_of X G a3) k3 b3
  have Gread_number := okread_number (P := l.prog) (w := w) (base := base) F4 T cis_number E_BadNumber G_BadNumber b_BadNumber
  have cread_number := fn_of (x := "read_number") Gread_number (PySem.W.mg_of X G a4) k4 b4
  have Gcheck_number := okcheck_number (P := l.prog) (w := w) (base := base) F5 T E_BadNumber G_BadNumber b_BadNumber
  have ccheck_number := fn_of (x := "check_number") Gcheck_number (PySem.W.mg_of X G a5) k5 b5
  have Gcheck_units := okcheck_units (P := l.prog) (w := w) (base := base) F6 T ccheck_number
  have ccheck_units := fn_of (x := "check_units") Gcheck_units (PySem.W.mg_of X G a6) k6 b6
  have GStanding___init__ := okStanding___init__ (P := l.prog) (w := w) (base := base) F_Standing_init T ccheck_number D_Standing ccheck_units
  have m_Standing := mk_of (x := "Standing") GStanding___init__ ⟨mk_Standing, i_Standing_init, fn_Standing_init, kp_Standing⟩ b_Standing_init (PySem.W.mg_of X G g_Standing)
  have GStanding___eq__ := okStanding___eq__ (P := l.prog) (w := w) (base := base) F_Standing_eq T D_Standing
  have wcStanding___eq__ := ow_of (nm := "__eq__") GStanding___eq__ b_Standing_eq i_Standing_eq fn_Standing_eq
  have GStanding___str__ := okStanding___str__ (P := l.prog) (w := w) (base := base) F_Standing___str__ T D_Standing
  have wcStanding___str__ := ow_of (nm := "__str__") GStanding___str__ b_Standing___str__ i_Standing___str__ fn_Standing___str__
  have G_are_numbers := ok_are_numbers (P := l.prog) (w := w) (base := base) F7 T cis_number
  have c_are_numbers := fn_of (x := "_are_numbers") G_are_numbers (PySem.W.mg_of X G a7) k7 b7
  have Gread_standing := okread_standing (P := l.prog) (w := w) (base := base) F8 T E_BadText G_BadText b_BadText c_are_numbers cread_number m_Standing
  have cread_standing := fn_of (x := "read_standing") Gread_standing (PySem.W.mg_of X G a8) k8 b8
  have G_law_told := ok_law_told (P := l.prog) (w := w) (base := base) F9 T cread_standing E_BadNumber G_BadNumber b_BadNumber gn_BadNumber na_BadNumber_what na_BadNumber_value E_BadText G_BadText b_BadText gn_BadText na_BadText_line xf_BadNumber_BadText
  have c_law_told := fn_of (x := "_law_told") G_law_told (PySem.W.mg_of X G a9) k9 b9
  have G_law_text := ok_law_text (P := l.prog) (w := w) (base := base) F10 T 
  have c_law_text := fn_of (x := "_law_text") G_law_text (PySem.W.mg_of X G a10) k10 b10
  have G_law_wrong_texts := ok_law_wrong_texts (P := l.prog) (w := w) (base := base) F11 T 
  have c_law_wrong_texts := fn_of (x := "_law_wrong_texts") G_law_wrong_texts (PySem.W.mg_of X G a11) k11 b11
  exact oklaw (P := l.prog) (w := w) (base := base) F12 T c_law_start c_law_draw m_Standing c_law_text wcStanding___str__ c_law_told wcStanding___eq__ c_law_wrong_texts law_true
theorem walk {l : PySem.W.OpenLaw} {q : Program} {loose : List Str} {XP : (Str → Option Value) → Heap → Prop} {YP : World → Heap → Prop} {d : DefRec} {K : Params → PySem.W.Frag} (hn : l.most = some 63) (hdf : d.params.defaults = [])
    (hY : ∀ (w : World) (h : Heap), YP w h → (K w.params).In h)
    (F : ∀ (w : World) (mg : Str → Option Value) (fa : Addr) (h : Heap), (K w.params).In h → h.Ns mainGlobals mg → mg d.name = some (.ref fa) →
      ∃ fd : FuncData, (∀ (s : Shared) (u : Value), BindsTo s fd ⟨[u], []⟩ [("script", u)]) ∧ ∀ base : Heap, (K w.params).In base → base.Ns mainGlobals mg → FnOk l.prog w (K w.params) mg base (L2.CX l.prog w) 10 fa fd ["script"] (spLaw (K w.params))) :
    PySem.W.WalkO q loose XP YP l.row.toRowW d [] (fun f vs => PySem.call f vs) :=
  L2.walk_of (n := 63) (k := 10) (x := "script") (CX := fun w => L2.CX l.prog w) (sp := fun w => spLaw (K w.params)) hn (by decide) hdf ⟨rfl, by decide, by decide⟩ hY F (fun _ _ a ns hl _ hS => ⟨a, ns, rfl, hS, hl, fun _ => rfl⟩) fun _ _ _ _ _ z => (by obtain ⟨_, _, _, _, _, _, _, _, _, _, _, _, hE⟩ := z; exact hE.elim)
end
end Wb
open PySem PySem.W PyProof.Rows in
set_option maxRecDepth 100000 in
set_option maxHeartbeats 0 in
theorem PySem.Challenge.cw_waterbyturns_k74_standing_texts_holds : PySem.Challenge.rw_waterbyturns_k74_standing_texts.Holds := by
  w_on; o_law; k_head; (case hw => w_witness2)
  k_fill
  refine Wb.walk (l := PySem.Challenge.rw_waterbyturns_k74_standing_texts) rfl rfl (fun w h Y => PySem.W.kIn_of Y) ?F
  case F =>
    intro w mg fa h KX G hmg
    refine' Wb.all_mk KX G hmg ?a0 ?l0 ?c0 ?k0 ?a1 ?l1 ?c1 ?k1 ?a2 ?l2 ?c2 ?k2 ?a3 ?l3 ?c3 ?k3 ?a4 ?l4 ?c4 ?k4 ?a5 ?l5 ?c5 ?k5 ?a6 ?l6 ?c6 ?k6 ?a7 ?l7 ?c7 ?k7 ?a8 ?l8 ?c8 ?k8 ?a9 ?l9 ?c9 ?k9 ?a10 ?l10 ?c10 ?k10 ?a11 ?l11 ?c11 ?k11 ?a12 ?l12 ?c12 ?k12 ?z_len ?z_abs ?z_int ?z_bool ?z_str ?z_range ?z_all ?z_isinstance ?z_tuple ?z_super ?z_repr ?g_MOST_PLOTS ?g_MOST_UNITS ?g_MOST_MOODS ?g__LONGEST_NUMBER ?g__DIGITS ?g_BadNumber ?x_BadNumber ?r_BadNumber ?sa_BadNumber ?ex_BadNumber ?ty_BadNumber ?kp_BadNumber ?i_BadNumber ?l_BadNumber ?cd_BadNumber ?cf_BadNumber ?v2_BadNumber ?fi_BadNumber ?cl_BadNumber ?mr_BadNumber ?sb_BadNumber ?su_BadNumber ?ti_BadNumber ?ga_BadNumber ?gg_BadNumber ?hd_BadNumber ?ha_BadNumber ?mo_BadNumber ?em_BadNumber ?nw_BadNumber ?nv_BadNumber ?nn_BadNumber ?nt_BadNumber ?g_BadText ?x_BadText ?r_BadText ?sa_BadText ?ex_BadText ?ty_BadText ?kp_BadText ?i_BadText ?l_BadText ?cd_BadText ?cf_BadText ?v2_BadText ?fi_BadText ?cl_BadText ?mr_BadText ?sb_BadText ?su_BadText ?ti_BadText ?ga_BadText ?gg_BadText ?hd_BadText ?ha_BadText ?mo_BadText ?em_BadText ?nw_BadText ?nv_BadText ?nn_BadText ?nt_BadText ?nxline_BadText ?g_Standing ?mk_Standing ?kp_Standing ?pg_Standing ?hd_Standing ?po_Standing ?sa_Standing ?ne_Standing ?ob_Standing ?ha_Standing ?hm_Standing ?kk_Standing ?no_Standing_levels ?no_Standing_tank ?no_Standing_mood ?i_Standing_init ?fn_Standing_init ?l_Standing_init ?c_Standing_init ?k_Standing_init ?i_Standing_eq ?fn_Standing_eq ?l_Standing_eq ?c_Standing_eq ?k_Standing_eq ?i_Standing___str__ ?fn_Standing___str__ ?l_Standing___str__ ?c_Standing___str__ ?k_Standing___str__ ?hdx_BadText ?sx_BadNumber_BadText ?opq ?htop ?spc ?tks
    (case a0 => k_is)
    (case l0 => k_is)
    (case c0 => k_is)
    (case k0 => k_is)
    (case a1 => k_is)
    (case l1 => k_is)
    (case c1 => k_is)
    (case k1 => k_is)
    (case a2 => k_is)
    (case l2 => k_is)
    (case c2 => k_is)
    (case k2 => k_is)
    (case a3 => k_is)
    (case l3 => k_is)
    (case c3 => k_is)
    (case k3 => k_is)
    (case a4 => k_is)
    (case l4 => k_is)
    (case c4 => k_is)
    (case k4 => k_is)
    (case a5 => k_is)
    (case l5 => k_is)
    (case c5 => k_is)
    (case k5 => k_is)
    (case a6 => k_is)
    (case l6 => k_is)
    (case c6 => k_is)
    (case k6 => k_is)
    (case a7 => k_is)
    (case l7 => k_is)
    (case c7 => k_is)
    (case k7 => k_is)
    (case a8 => k_is)
    (case l8 => k_is)
    (case c8 => k_is)
    (case k8 => k_is)
    (case a9 => k_is)
    (case l9 => k_is)
    (case c9 => k_is)
    (case k9 => k_is)
    (case a10 => k_is)
    (case l10 => k_is)
    (case c10 => k_is)
    (case k10 => k_is)
    (case a11 => k_is)
    (case l11 => k_is)
    (case c11 => k_is)
    (case k11 => k_is)
    (case a12 => k_is)
    (case l12 => k_is)
    (case c12 => k_is)
    (case k12 => k_is)
    (case z_len => k_is)
    (case z_abs => k_is)
    (case z_int => k_is)
    (case z_bool => k_is)
    (case z_str => k_is)
    (case z_range => k_is)
    (case z_all => k_is)
    (case z_isinstance => k_is)
    (case z_tuple => k_is)
    (case z_super => k_is)
    (case z_repr => k_is)
    (case g_MOST_PLOTS => k_is)
    (case g_MOST_UNITS => k_is)
    (case g_MOST_MOODS => k_is)
    (case g__LONGEST_NUMBER => k_is)
    (case g__DIGITS => k_is)
    (case g_BadNumber => k_is)
    (case x_BadNumber => k_is)
    (case r_BadNumber => first | rfl | decide +kernel)
    (case sa_BadNumber => k_is)
    (case ex_BadNumber => k_is)
    (case ty_BadNumber => k_is)
    (case kp_BadNumber => k_is)
    (case i_BadNumber => k_is)
    (case l_BadNumber => k_is)
    (case cd_BadNumber => k_is)
    (case cf_BadNumber => k_is)
    (case v2_BadNumber => first | rfl | decide +kernel)
    (case fi_BadNumber => first | rfl | decide +kernel)
    (case cl_BadNumber => k_is)
    (case mr_BadNumber => k_is)
    (case sb_BadNumber => k_is)
    (case su_BadNumber => ks_is)
    (case ti_BadNumber => k_is)
    (case ga_BadNumber => k_is)
    (case gg_BadNumber => k_is)
    (case hd_BadNumber => k_is)
    (case ha_BadNumber => k_is)
    (case mo_BadNumber => k_is)
    (case em_BadNumber => k_is)
    (case nw_BadNumber => k_is)
    (case nv_BadNumber => k_is)
    (case nn_BadNumber => k_is)
    (case nt_BadNumber => k_is)
    (case g_BadText => k_is)
    (case x_BadText => k_is)
    (case r_BadText => first | rfl | decide +kernel)
    (case sa_BadText => k_is)
    (case ex_BadText => k_is)
    (case ty_BadText => k_is)
    (case kp_BadText => k_is)
    (case i_BadText => k_is)
    (case l_BadText => k_is)
    (case cd_BadText => k_is)
    (case cf_BadText => k_is)
    (case v2_BadText => first | rfl | decide +kernel)
    (case fi_BadText => first | rfl | decide +kernel)
    (case cl_BadText => k_is)
    (case mr_BadText => k_is)
    (case sb_BadText => k_is)
    (case su_BadText => ks_is)
    (case ti_BadText => k_is)
    (case ga_BadText => k_is)
    (case gg_BadText => k_is)
    (case hd_BadText => k_is)
    (case ha_BadText => k_is)
    (case mo_BadText => k_is)
    (case em_BadText => k_is)
    (case nw_BadText => k_is)
    (case nv_BadText => k_is)
    (case nn_BadText => k_is)
    (case nt_BadText => k_is)
    (case nxline_BadText => k_is)
    (case g_Standing => k_is)
    (case mk_Standing => k_is)
    (case kp_Standing => k_is)
    (case pg_Standing => k_is)
    (case hd_Standing => k_is)
    (case po_Standing => k_is)
    (case sa_Standing => k_is)
    (case ne_Standing => k_is)
    (case ob_Standing => k_is)
    (case ha_Standing => k_is)
    (case hm_Standing => k_is)
    (case kk_Standing => first | k_is | kit_is)
    (case no_Standing_levels => k_is)
    (case no_Standing_tank => k_is)
    (case no_Standing_mood => k_is)
    (case i_Standing_init => k_is)
    (case fn_Standing_init => k_is)
    (case l_Standing_init => k_is)
    (case c_Standing_init => k_is)
    (case k_Standing_init => k_is)
    (case i_Standing_eq => k_is)
    (case fn_Standing_eq => k_is)
    (case l_Standing_eq => k_is)
    (case c_Standing_eq => k_is)
    (case k_Standing_eq => k_is)
    (case i_Standing___str__ => k_is)
    (case fn_Standing___str__ => k_is)
    (case l_Standing___str__ => k_is)
    (case c_Standing___str__ => k_is)
    (case k_Standing___str__ => k_is)
    (case hdx_BadText => k_is)
    (case sx_BadNumber_BadText => k_is)
    (case opq => k_is)
    (case htop => first | rfl | decide +kernel)
    (case spc => k_is)
    (case tks => k_is)

