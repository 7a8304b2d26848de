import PyProof.Rows.All
import Wide.All
import OpenK.AllK
import Wide.FinOn
import HandS.ForMost
import HandS.Exc
import HandS.ExcInit
import HandS.Nested
import HandS.WordsExc
import KE.KExcSuper
import HandS.ExcIs
import HandS.ExcField
import HandS.IsInst
import HandS.FStr
import HandS.RaiseMore
import KE.KExcIs
import PyProof.NeKinds
import PyProof.CallStr
import HandS.Text
import PyProof.InstNe
import HandS.SlotsOwn
import HandS.OwnEq
import KE.KCallOwn
import HandS.Zip
import HandS.Walk
import HandS.Star
import PyProof.Rows.FinIter
import KE.KOpsOwn
import OpenK.KMeth
import OpenK.KOps
import PyProof.TwoTypes
import PyProof.FactsAll.int_1
import KE.GoesMore
import PyProof.Draws
import PyProof.EnumMake
import HandS.Iter
import HandS.ClsMeth
import HandS.ExcOwn
import HandS.Strs
import HandS.Comp
import KE.KWords
import HandS.ReplaceList
import KE.LtData
import PyProof.Rows.StrMeet
import HandS.Property
import HandS.Wide
import KE.IntTextLaws
import HandS.Codes
import PySem.Challenge.RW_waterbyturns_k06_grounds
import HandS.Records
set_option Elab.async false
set_option linter.all false
set_option maxRecDepth 100000
set_option maxHeartbeats 4000000
namespace Wx
open PySem PySem.Spec PyProof.Rows L2 NdefX
/-! super().__init__(..) in the __init__ of an own exception class whose line goes over own classes to ValueError -/
section
variable {prog : Program} {w : World} {A : Around} {E : Value → Shared → Prop} {hp : Heap} {g : Array GenState} {d : Drawn} {t : Nat} {os : OsState}
theorem mw_called {u x t0 : Addr} {us : List Value} {Q : Value → Shared → Prop} {C N : Addr} {nm q : Str} {bs bm : List Value} {hdct : Bool} {sn : List Str} {sub : List Value} {ab : Bool} {col : Option Bool} {dd : Option Addr} {k0 k1 k2 k3 k5 : Option Value}
    (cC : hp.get? C = some (excClassObj nm q C N bs bm hdct sn sub ab col dd k0 k1 k2 k3 k5 "ValueError.__new__")) (cx : hp.get? x = some (PySem.HandSPX.excO C t0)) (cu : hp.get? u = some (PySem.W.kxs_mw "ValueError.__init__" x)) (hl : us.length ≤ sizeLine)
    (fin : ∀ h' t1, (∀ b o, b ≠ x → hp.get? b = some o → h'.get? b = some o) → h'.get? x = some (PySem.HandSPX.excO C t1) → Q .none ⟨h', g, d, t, os⟩) : wpAny (model prog w) A (call (.ref u) us) Q E ⟨hp, g, d, t, os⟩ := by
  refine wpAny_call (codeAny_of_tree ?_)
  show wpAny _ A.in1 (callAny (Value.ref u) (Args.mk us [])) _ _ _
  unfold callAny
  dsimp only
  refine wpAny_bind (wpAny_load cu ?_)
  have mt : (Value.type "method-wrapper" == Value.type "method" || Value.type "method-wrapper" == Value.type "builtin_function_or_method" || Value.type "method-wrapper" == Value.type "method-wrapper") = true := by decide
  simp only [PySem.W.kxs_mw, mt, if_true]
  refine PySem.W.KFB.if_so (by decide) (wpAny_bind (PySem.W.check_bound_init F.excBase_ValueError.toExcCallFacts cC cx rfl (wpAny_bind (wpAny_pure (wpAny_pure ?_)))))
  refine And.intro (plainId_quiet F.excBase_ValueError.init.plain _) (codeAny_builtin F.excBase_ValueError.initEntry ?_)
  exact PySem.W.exc_init_tree (cls := Value.ref C) (t0 := t0) (dv := Option.none) (c2 := Value.none) (c3 := Value.none) (b4 := Value.bool false) cx hl fun h' k e _ => fin h' _ k e
end
/-- the first statement: super().__init__(e, ..) -/
abbrev stSuper (p0 p1 p2 p3 p4 : Pos) (e : Expr) (es : List Expr) : Stmt := .Expr (.Call (.Attribute (.Call (.Name "super" p0) [] [] p1) "__init__" p2) (e :: es) [] p3) p4
abbrev nfS (name qual : Str) (params : Arguments) (body : List Stmt) (scope : Scope) (cc cda : Addr) : NF := ⟨name, qual, params, body, scope, [("__class__", cc)], cda⟩
/-- what the written part says -/
structure SupTxt (P : Program) (K : PySem.W.Frag) (mg : Str → Option Value) (C cda cc : Addr) (qual : Str) : Prop where
  oex : OexC K C
  code : PySem.W.codeIn K (.ref cda) qual = true
  file : ∃ (ccl : Value) (cdd : Option Addr) (vs : Array Value) (ccs : Array (Option Value)) (fl : Str) (tf : Tok), K.lookup cda = some ⟨ccl, cdd, .fields vs, ccs⟩ ∧ vs[2]? = some (.str fl tf) ∧ ((P.main.file : Str) == fl) = true
  cell : ∃ (cl : Value) (cld : Option Addr) (csl : Array (Option Value)), K.lookup cc = some ⟨cl, cld, .cell (some (.ref C)), csl⟩
  sup : mg "super" = none
  top : (P.main.scope.names.lookup ("super" : Str)).isSome = false
  mro : PySem.W.mroIn K C (.ref C) = some true
  subB : PySem.W.subIn K (.ref C) (.type "ValueError") = some true
  ini : PySem.W.ks_superIn K C C "__init__" = some (some (.builtin "ValueError.__init__"))
  opq : PySem.W.nsIn K cStatics "thirdparty.any" = some none
theorem exo_upd {H : Hp} {a C : Addr} {d : Option Addr} (e : H a = some (exo a C d)) : upd H a (exo a C d) = H := by
  funext b
  by_cases hb : b = a
  · rw [hb, upd_same, e]
  · rw [upd_ne hb]
section
variable {CX : CXT} {P : Program} {w : World} {K : PySem.W.Frag} {mg : Str → Option Value} {base : Heap} {name qual : Str} {params : Arguments} {scope : Scope} {dV kV doc pm ct oc : Value} {an od : Option Addr} {osl : Array (Option Value)} {f cda cc C : Addr}
  {N ps : List Str} {k : Nat} {sp : Sp} {e : Expr} {es : List Expr} {rest : List Stmt} {p0 p1 p2 p3 p4 : Pos} {ar : Arg}
theorem fn_super (lk : K.lookup f = some ⟨oc, od, .func (PySem.W.fnX name qual params (stSuper p0 p1 p2 p3 p4 e es :: rest) scope [("__class__", cc)] dV kV doc pm an (.ref cda) ct), osl⟩)
    (T : SupTxt P K mg C cda cc qual) (S : NScope N ps ["__class__"] scope) (hp : (params.posonlyargs ++ params.args).head? = some ar) (har : N[0]? = some ar.arg) (hal : scope.names.lookup ar.arg = some .local) (hks : scope.names.lookup ("super" : Str) = some .globalImplicit)
    (len : ∀ vs H Q E, sp vs H Q E → vs.length = ps.length)
    (hbody : ∀ (A : Around) (outer : List Env) (s : Shared) (H : Hp) (vs : List V) (Q : VK) (E : XK), Room k (A.deeper (envF (nfS name qual params (stSuper p0 p1 p2 p3 p4 e es :: rest) scope cc cda) f s.heap.objs.size)) → sp vs H Q E →
      ∃ ta tr, PA (ncx CX P w K mg base N (nfS name qual params (stSuper p0 p1 p2 p3 p4 e es :: rest) scope cc cda) f A outer s H E) (e :: es) ta ∧ PSs (ncx CX P w K mg base N (nfS name qual params (stSuper p0 p1 p2 p3 p4 e es :: rest) scope cc cda) f A outer s H E) rest tr ∧ ∃ (a : Addr) (vr : List V), vs = .ref a :: vr ∧ H a = some (exo a C none) ∧
        ta (startF N vs [some (.ref C)]) H fun ws H1 => ws.length ≤ 1000 ∧ H1 a = some (exo a C none) ∧ tr { nx := fun _ H' => Q .non H', rt := Q } (startF N vs [some (.ref C)]) H1)
    (hi : ∀ L : Addr, interactive (envF (nfS name qual params (stSuper p0 p1 p2 p3 p4 e es :: rest) scope cc cda) f L) = false := by intros; rfl)
    (hs : ∀ L : Addr, swapsWith (.Call (.Attribute (.Call (.Name "super" p0) [] [] p1) "__init__" p2) (e :: es) [] p3) none p4.line (envF (nfS name qual params (stSuper p0 p1 p2 p3 p4 e es :: rest) scope cc cda) f L) = pure false := by intros; rfl)
    (he : ∀ L : Addr, starEach (e :: es) (envF (nfS name qual params (stSuper p0 p1 p2 p3 p4 e es :: rest) scope cc cda) f L) = (false, eval e (envF (nfS name qual params (stSuper p0 p1 p2 p3 p4 e es :: rest) scope cc cda) f L)) :: starEach es (envF (nfS name qual params (stSuper p0 p1 p2 p3 p4 e es :: rest) scope cc cda) f L) := by intros; rfl)
    (hpl : ∀ L : Addr, (backTo p3 (starEach es (envF (nfS name qual params (stSuper p0 p1 p2 p3 p4 e es :: rest) scope cc cda) f L))).any (·.1) = false := by intros; rfl)
    (hev : ∀ L : Addr, ∃ pl, eval (.Call (.Attribute (.Call (.Name "super" p0) [] [] p1) "__init__" p2) (e :: es) [] p3) (envF (nfS name qual params (stSuper p0 p1 p2 p3 p4 e es :: rest) scope cc cda) f L) = (do
      let ov ← attributeBase (.Call (.Name "super" p0) [] [] p1) "__init__" (envF (nfS name qual params (stSuper p0 p1 p2 p3 p4 e es :: rest) scope cc cda) f L) (eval (.Call (.Name "super" p0) [] [] p1) (envF (nfS name qual params (stSuper p0 p1 p2 p3 p4 e es :: rest) scope cc cda) f L))
      standAt p2.atName
      let r ← holding [ov] (getMethod ov "__init__" pl)
      callWith p3 r.1 r.2 (backTo p3 (starEach (e :: es) (envF (nfS name qual params (stSuper p0 p1 p2 p3 p4 e es :: rest) scope cc cda) f L))) []) := by intros; exact ⟨_, rfl⟩) :
    FnOk P w K mg base CX (k + 1) f (PySem.W.fnX name qual params (stSuper p0 p1 p2 p3 p4 e es :: rest) scope [("__class__", cc)] dV kV doc pm an (.ref cda) ct) ps sp := by
  obtain ⟨clv, cld, csl, hcell⟩ := T.cell
  obtain ⟨ccl, cdd, vsC, ccs, flC, tfC, hcode, hvsC, hfile⟩ := T.file
  refine ⟨len, fun A outer s H args us vs Q E hr e0 hbind r hsp => ?_⟩
  have hl := len _ _ _ _ hsp
  have KX : K.In s.heap := e0.mod.kin.keeps fun b o z => (e0.bs b o z).1
  have lim : s.heap.NoLimit := e0.mod.nolimit.keeps fun b o z => (e0.bs b o z).1
  let F : NF := (nfS name qual params (stSuper p0 p1 p2 p3 p4 e es :: rest) scope cc cda)
  have Hc : H cc = none := (e0.bs cc _ (e0.mod.kin _ _ hcell)).2
  have CA : CellsAt F.cl ["__class__"] [some (V.ref C)] s.heap H := by
    have key : ∀ y c, F.cl.lookup y = some c → y = "__class__" ∧ c = cc := fun y c z => by
      by_cases q : y = "__class__"
      · subst q
        have z : some cc = some c := by simpa [F, List.lookup] using z
        exact ⟨rfl, (Option.some.inj z).symm⟩
      · have : (y == ("__class__" : Str)) = false := by simpa using q
        simp [F, List.lookup, this] at z
    refine ⟨rfl, fun y c z => ?_, fun x y c z z' => ?_, fun i y z => ?_⟩
    · obtain ⟨_, rfl⟩ := key y c z
      exact ⟨Hc, _, _, KX _ _ hcell, rfl⟩
    · rw [(key x c z).1, (key y c z').1]
    · have hi : i = 0 ∧ y = "__class__" := by
        cases i with
        | zero => exact ⟨rfl, (Option.some.inj z).symm⟩
        | succ i => simp at z
      obtain ⟨rfl, rfl⟩ := hi
      refine ⟨cc, by simp [F, List.lookup], fun v hv => ?_⟩
      have hv : V.ref C = v := Option.some.inj (Option.some.inj hv)
      subst hv
      exact ⟨.ref C, rfl, _, KX _ _ hcell, rfl⟩
  refine PySem.ks_codeAny_call_defAt (fd := PySem.W.fnX name qual params (stSuper p0 p1 p2 p3 p4 e es :: rest) scope [("__class__", cc)] dV kV doc pm an (.ref cda) ct) (body := stSuper p0 p1 p2 p3 p4 e es :: rest) (binds := ps.zip us) hr.depth (KX _ _ lk) rfl lim
    (PySem.W.codeRec_of KX T.code) rfl hbind S.nocell (fun y hy => S.par y.1 (List.of_mem_zip hy).1) (fun h₁ hns kp => ?_) S.co S.gen S.kind
  show PySem.wpAt (model P w) (A.deeper (envF F f s.heap.objs.size)) (.func (stSuper p0 p1 p2 p3 p4 e es :: rest) (envF F f s.heap.objs.size)) (execs (stSuper p0 p1 p2 p3 p4 e es :: rest) (envF F f s.heap.objs.size)) _ _ _
  have I : Inv (ncx CX P w K mg base N F f A outer s H E) [] (startF N vs [some (.ref C)]) H { s with heap := h₁, toks := s.toks + (ps.zip us).length } := inv_startN (F := F) S hr.hd e0 hl r CA hns kp
  obtain ⟨ta, tr, hA, hR, a, vr, rfl, ea, hq⟩ := hbody A outer s H vs Q E (hr.deeper _) hsp
  obtain ⟨nm, qn, Nn, bs, bm, sn, sub, ab, col, dd, k0, k1, k2, k3, k5, hC, hbm⟩ := T.oex.cls
  have hcl : PySem.W.clsIn K C = some { name := nm, bases := bs, mro := .ref C :: bm, ns := Nn, qualname := qn, hasDict := true, slotNames := sn, subclasses := sub, abstract := ab, collection := col, hasDel := false } := by unfold PySem.W.clsIn; rw [hC] <;> rfl
  -- the local that holds the object
  have self : ∀ {s1 : Shared} {H1 : Hp} {pins : List (Addr × Obj)}, Inv (ncx CX P w K mg base N F f A outer s H E) pins (startF N (.ref a :: vr) [some (.ref C)]) H1 s1 → ∃ m, s1.heap.Ns (envF F f s.heap.objs.size).locals m ∧ m ar.arg = some (.ref a) := fun J => by
    obtain ⟨m, hm, hl⟩ := J.loc
    obtain ⟨u, ru, hk⟩ := hl 0 ar.arg (.ref a) har rfl (.inl hal)
    refine ⟨m, hm, ?_⟩
    rcases hk with ⟨_, hk⟩ | ⟨hk, _⟩
    · rw [hk]
      exact congrArg some ru
    · exfalso
      have hk : scope.names.lookup ar.arg = some .cell ∨ scope.names.lookup ar.arg = some .free := hk
      rw [hal] at hk
      rcases hk with z | z <;> cases z
  have fin : ∀ {fl : Flow} {s' : Shared}, SP (ncx CX P w K mg base N F f A outer s H E) [] { nx := fun _ H' => Q .non H', rt := Q } fl s' → CR CX outer P w H s Q E (.ok (.ret (match fl with | .ret v => v | _ => .none))) s' := fun {fl s'} hs' => by
    have out : ∀ {σ' : L2.St} {H' : Hp} {v : V} {u : Value}, Inv (ncx CX P w K mg base N F f A outer s H E) [] σ' H' s' → L2.RelV v u → Q v H' → CE outer P w H s Q u s' := fun {σ' H' v u} J rv q => ⟨v, H', J.os, J.bare, J.base, J.hok, rv, q⟩
    cases fl with
    | ret u =>
      obtain ⟨v, σ', H', J, rv, q⟩ := hs'
      exact out J rv q
    | next =>
      obtain ⟨σ', H', J, q⟩ := hs'
      exact out (v := V.non) (u := Value.none) J rfl q
    | brk =>
      obtain ⟨_, _, _, q⟩ := hs'
      exact q.elim
    | cont =>
      obtain ⟨_, _, _, q⟩ := hs'
      exact q.elim
  obtain ⟨pl, hev⟩ := hev s.heap.objs.size
  refine PySem.ks_wpAt_execs_cons (PySem.ks_wpAt_Expr_any (PySem.ks_wpAt_MethodCall (pl := pl) ?_ hev) (hi _) (hs _))
  · obtain ⟨m, hm, hma⟩ := self I
    obtain ⟨oD, hD1, hD2⟩ : ∃ oD, h₁.get? C = some oD ∧ oD.data = .cls { name := nm, bases := bs, mro := .ref C :: bm, ns := Nn, qualname := qn, hasDict := true, slotNames := sn, subclasses := sub, abstract := ab, collection := col, hasDel := false } := ⟨_, I.kIn _ _ hC, rfl⟩
    refine PySem.ks_wpAt_super_base (env := envF F f s.heap.objs.size) hks (S.frk _ (by simp)) rfl rfl (I.kIn _ _ lk) rfl hp rfl (I.kIn _ _ hcode) rfl hvsC hfile T.top ?_
    obtain ⟨mb, hb1, hb2⟩ := I.mod.blt
    refine PySem.W.ks_loadName_global S.kind hks (Calls.loadGlobal_builtin (I.mod.glob.keeps I.bk) T.sup (hb1.keeps I.bk) ((hb2 "super" (by decide)).trans (by decide +kernel : bootBuiltins "super" = some (.type "super"))) ⟨rfl, ?_⟩)
    refine wpAny_loadName_free S.kind (S.frk _ (by simp)) rfl ⟨_, I.kIn _ _ hcell, rfl⟩ ?_
    refine wpAny_loadName_local S.kind hal hm hma ?_
    refine PySem.ks_wpAny_isType_cls hD1 hD2 ⟨rfl, ?_⟩
    obtain ⟨t1, ho⟩ := exo_at I.hok ea
    have IA : PySem.W.InstAt h₁ a { cls := .ref C, dict := none, data := .fields #[.ref t1, .none, .none, .none, .bool false, .none] } C none := ⟨ho, rfl, rfl, trivial⟩
    refine PySem.ks_wpAny_call_super hD1 hD2 ho rfl (fun c z => by cases z) (PySem.W.looks_mroIn I.kIn T.mro) (fun h2 e2 k2 => ?_)
    have J2 : Inv (ncx CX P w K mg base N F f A outer s H E) [] (startF N (.ref a :: vr) [some (.ref C)]) H { s with heap := h2, toks := s.toks + (ps.zip us).length } := I.kept k2
    have ni : PySem.W.alongIn K "__init__" (((Value.ref C :: bm).dropWhile (· != .ref C)).drop 1) = some (some (.builtin "ValueError.__init__")) := by
      have z := T.ini
      unfold PySem.W.ks_superIn at z
      rw [hcl] at z
      exact z
    have ho2 := k2 _ _ ho
    have hI : PySem.W.Looks (model P w) h2 (isInstance (.ref a) (.type "ValueError")) true := (show PySem.W.InstAt h2 a _ C none from ⟨ho2, rfl, rfl, trivial⟩).type.andThen (PySem.W.looks_subIn J2.kIn T.subB)
    refine PySem.W.kxs_getMethod PySem.W.kxs_ValueError e2 (PySem.W.looks_opaque J2.kIn T.opq) ((PySem.W.looks_clsIn J2.kIn hcl).andThen .now) rfl J2.kIn ni hI (PySem.W.ks_ne I.kIn IA hcl) (by decide) ?_
    have J3 : Inv (ncx CX P w K mg base N F f A outer s H E) [] (startF N (.ref a :: vr) [some (.ref C)]) H { s with heap := h2.push (PySem.W.kxs_mw "ValueError.__init__" a), toks := s.toks + (ps.zip us).length + 1 } := J2.kept fun b o z => Heap.get?_push_of_some _ z
    have hmw : (h2.push (PySem.W.kxs_mw "ValueError.__init__" a)).get? h2.objs.size = some (PySem.W.kxs_mw "ValueError.__init__" a) := Heap.get?_push_at rfl rfl
    have J4 : Inv (ncx CX P w K mg base N F f A outer s H E) [(h2.objs.size, PySem.W.kxs_mw "ValueError.__init__" a)] (startF N (.ref a :: vr) [some (.ref C)]) H { s with heap := h2.push (PySem.W.kxs_mw "ValueError.__init__" a), toks := s.toks + (ps.zip us).length + 1 } := by
      refine ⟨J3.ok, J3.os, J3.bare, J3.base, J3.loc, J3.cell, J3.free, J3.freeC, fun p hp => ?_, J3.hok, J3.len⟩
      have hp : p = (h2.objs.size, PySem.W.kxs_mw "ValueError.__init__" a) := by
        have z : p ∈ ([] : List (Addr × Obj)) ++ [(h2.objs.size, PySem.W.kxs_mw "ValueError.__init__" a)] := hp
        simpa using z
      subst hp
      refine ⟨hmw, J2.hok.fresh (Nat.le_refl _), fun z => absurd J2.lt ?_, fun z => ?_, fun v z => by cases z⟩
      · rw [← z]
        exact Nat.lt_irrefl _
      · obtain ⟨_, o1, ho1, _⟩ := J2.ok.funs.mem z
        obtain ⟨o2, ho2'⟩ := J2.base.there _ _ ho1 (fun y => absurd (show _ ∈ ([] : List Addr) from y) (by simp))
        exact absurd (Heap.lt_size ho2') (Nat.lt_irrefl _)
    rw [he s.heap.objs.size]
    refine PySem.W.kxs_callWith (i := "ValueError.__init__") (x := a) (by show (false || (backTo p3 (starEach es (envF F f s.heap.objs.size))).any fun y => y.1) = false; rw [hpl s.heap.objs.size]; rfl) ?_
    refine Calls.evalArgs_plain ?_
    have run := hA.run p3 _ _ _ _ _ J4 hq
    rw [show starEach (e :: es) (ncx CX P w K mg base N F f A outer s H E).env = _ from he s.heap.objs.size] at run
    refine thn run fun us4 s4 hap => ?_
    obtain ⟨ws, H4, I4, r4, hw, ea4, tr4⟩ := hap
    obtain ⟨cu4, _⟩ := I4.pin _ (List.mem_append_right _ List.mem_cons_self)
    refine ⟨cu4, ?_⟩
    obtain ⟨t4, ho4⟩ := exo_at I4.hok ea4
    have hlen4 : us4.length ≤ sizeLine := by
      rw [← Paired.length r4]
      exact Nat.le_of_lt (small1000 hw)
    obtain ⟨h4, g4, d4, tk4, os4⟩ := s4
    refine mw_called (I4.kIn _ _ hC) ho4 cu4 hlen4 fun h5 t5 k5 e5 => ?_
    have I5 := I4.write (t' := tk4) (x := a) (e := a) (o := exo a C none) (by rw [ea4]; exact True.intro) (.inl rfl) k5 ⟨_, e5⟩ (exo_ok e5)
    rw [exo_upd ea4] at I5
    have I6 : Inv (ncx CX P w K mg base N F f A outer s H E) [] (startF N (.ref a :: vr) [some (.ref C)]) H4 ⟨h5, g4, d4, tk4, os4⟩ := ⟨I5.ok, I5.os, I5.bare, I5.base, I5.loc, I5.cell, I5.free, I5.freeC, fun p hp => absurd (show p ∈ ([] : List (Addr × Obj)) ++ [] from hp) (by simp), I5.hok, I5.len⟩
    exact wpAt_of_wpAny (wpAny_mono (hR.run [] _ _ _ _ I6 tr4) (fun fl s' z => fin z) fun _ _ z => z)
end
end Wx

namespace Wx
open PySem PySem.Spec PyProof.Rows L2
/-! a caught exception that is kept behind its except suite -/
/-- at a: an exception of the class cls, its dict d -/
def exv (cls : Value) (d : Option Addr) (a : Addr) : HO := .ext fun h => ∃ (oe : Obj) (vs : Array Value), h.get? a = some oe ∧ Zc cls d oe ∧ oe.data = .fields vs
theorem exv_ok {P : Program} {w : World} {H : Hp} {h : Heap} {a : Addr} {cls : Value} {d : Option Addr} {oe : Obj} {vs : Array Value} (e : h.get? a = some oe) (z : Zc cls d oe) (q : oe.data = .fields vs) : ObjOk P w H h a (exv cls d a) :=
  ⟨⟨oe, vs, e, z, q⟩, ⟨oe, e⟩, fun _ _ ⟨o, v, x, y⟩ k => ⟨o, v, k o x, y⟩⟩
theorem exv_at {P : Program} {w : World} {H : Hp} {h : Heap} {a : Addr} {cls : Value} {d : Option Addr} (x : HOk P w H h) (e : H a = some (exv cls d a)) : ∃ (oe : Obj) (vs : Array Value), h.get? a = some oe ∧ Zc cls d oe ∧ oe.data = .fields vs := by
  have y : ObjOk P w H h a (.ext fun h => ∃ (oe : Obj) (vs : Array Value), h.get? a = some oe ∧ Zc cls d oe ∧ oe.data = .fields vs) := x a _ e
  exact y.1
section
variable {X : Cx} {pins : List (Addr × Obj)} {σ : L2.St} {H : Hp} {s : Shared}
theorem tracked {a : Addr} {oe : Obj} {vs : Array Value} {cls : Value} {d : Option Addr} (J : Inv X ((a, oe) :: pins) σ H s) (n0 : X.s_0.heap.get? a = none) (np : ∀ p, p ∈ X.pn ++ pins → p.1 ≠ a) (hz : Zc cls d oe) (hd : oe.data = .fields vs) :
    Inv X pins σ (upd H a (exv cls d a)) s := by
  obtain ⟨ga, na, nL, nF, nc⟩ := J.pin (a, oe) (List.mem_append_right _ List.mem_cons_self)
  have ga : s.heap.get? a = some oe := ga
  have na : H a = none := na
  have neS : ∀ {b : Addr} {o : HO}, H b = some o → b ≠ a := fun e => ne_of_none e na
  have ne0 : ∀ {b : Addr} {o : Obj}, X.s_0.heap.get? b = some o → b ≠ a := fun {b o} e z => by
    rw [z, n0] at e
    cases e
  refine ⟨J.ok, J.os, J.bare, ⟨J.base.keep, J.base.slot, fun b o e n x => ?_, J.base.there, fun b xs e => ?_, fun b o u e => ?_, fun b ps e => ?_⟩, J.loc, J.cell, ?_, fun y c e => ?_, fun p hp => ?_, fun b u e => ?_, J.len⟩
  · rw [upd_ne (ne0 e)]
    exact J.base.free b o e n x
  · have q := J.base.tups b xs e
    rw [upd_ne (neS q)]
    exact q
  · have q := J.base.frzs b o u e
    rw [upd_ne (neS q)]
    exact q
  · obtain ⟨ms, q⟩ := J.base.tbls b ps e
    exact ⟨ms, by rw [upd_ne (neS q)]; exact q⟩
  · rw [upd_ne (fun z => nL z.symm)]
    exact J.free
  · have nca : c ≠ a := fun z => by
      obtain ⟨v, o, q1, q2⟩ := J.cell y c e
      rw [z, ga] at q1
      cases q1
      exact nc _ q2
    rw [upd_ne nca]
    exact J.freeC y c e
  · have hm : p ∈ X.pn ++ (a, oe) :: pins := by
      rcases List.mem_append.mp hp with z | z
      · exact List.mem_append_left _ z
      · exact List.mem_append_right _ (List.mem_cons_of_mem _ z)
    obtain ⟨q1, q2, q3, q4, q5⟩ := J.pin p hm
    exact ⟨q1, by rw [upd_ne (np p hp)]; exact q2, q3, q4, q5⟩
  · by_cases hb : b = a
    · subst hb
      rw [upd_same] at e
      cases e
      exact exv_ok ga hz hd
    · rw [upd_ne hb] at e
      exact (J.hok b u e).stay (fun _ _ _ q => q) (fun c q => by rw [upd_ne (neS q)]; exact q) fun c xs q => by rw [upd_ne (neS q)]; exact q
end
/-- what 'except x as n: ..' wishes, the exception kept: slot i is n's -/
def wKeep (K : PySem.W.Frag) (c : Value) (i : Nat) (ts : Addr → Value → Option Addr → TS) (Wout : WX) (D : Ends) : WX := fun cls d σ H =>
  ∃ b, PySem.W.exmOne K cls c = some b ∧ (b = true → ∀ a, H a = none → ts a cls d { nx := fun σ1 H1 => D.nx (σ1.set i none) (upd H1 a (exv cls d a)), rt := fun v H1 => D.rt v (upd H1 a (exv cls d a)), bk := fun σ1 H1 => D.bk (σ1.set i none) (upd H1 a (exv cls d a)), ct := fun σ1 H1 => D.ct (σ1.set i none) (upd H1 a (exv cls d a)) } (σ.set i (some (.ref a))) H) ∧
    (b = false → Wout cls d σ H)
section
variable {X : Cx} {x n : Str} {c : Value} {i : Nat} {body suite : List Stmt} {b₀ : Stmt} {np pos pos' : Pos} {tb : WX → TS} {ts : Addr → Value → Option Addr → TS} {Wout : WX}
theorem ps_try_keep (hex : X.ex = []) (stk : X.stack = X.env :: X.outer) (frm : X.env.frame = some X.env.locals) (nd : X.N.Nodup) (atI : X.N[i]? = some n) (lcl : X.env.kindOf n = some .local) (nms : Names X x c) (tko : Takes X Wout)
    (hbody : ∀ (W : WX) (pn : List (Addr × Obj)) (xe : Value → Shared → Prop), Takes (X.tr pn xe) W → PassesOwn (model X.prog X.w) X.A X.env xe → PSs (X.tr pn xe) body (tb W))
    (hsuite : ∀ (a : Addr) (oe : Obj) (cls : Value) (d : Option Addr) (pn : List (Addr × Obj)), Zc cls d oe → (∃ vs, oe.data = .fields vs) → PSs (X.suite a ((a, oe) :: pn)) (b₀ :: suite) (ts a cls d)) :
    PS X (.Try body [.ExceptHandler (some (.Name x np)) (some n) (b₀ :: suite) pos'] [] [] pos) (fun D σ H => tb (wKeep X.K c i ts Wout D) D σ H) := by
  refine ⟨fun pins s σ H D I0 rd => ?_⟩
  have okX := I0.ok
  have frA : X.A.frames = some (X.env :: X.outer) := okX.frames.trans (congrArg some stk)
  have locN : Loc X.env.scope n := Or.inl lcl
  refine wpAny_Try_except (wpAny_mono ((hbody (wKeep X.K c i ts Wout D) (X.pn ++ pins) (fun e s₁ => wpAny (model X.prog X.w) X.A (noteFrame e X.env) (fun _ s₂ => wpAny (model X.prog X.w) X.A (setFlight e none) (fun _ s₃ =>
      wpAny (model X.prog X.w) X.A (handleBy e X.env [.ExceptHandler (some (.Name x np)) (some n) (b₀ :: suite) pos']) (SP X pins D) X.xe s₃) X.xe s₂) X.xe s₁) (fun u s' caught => ?_) PassesOwn.looking).run [] s σ H D (I0.toTry _) rd) (fun fl s1 done => ?_) (fun _ _ z => z))
  · obtain ⟨a, B, sI, pinsT, σT, HT, cls, d, rfl, JT, nb, upT, skyT, naT, osT, agT, b, hcl, hyes, hno⟩ := caught
    have JX : Inv X pins σT HT sI := Inv.ofTry JT okX
    have skyX : Sky B (X.env :: X.outer) a (Zc cls d) X.env.locals s'.heap := stk ▸ skyT
    show wpAny _ X.A (noteFrame (Value.ref a) X.env) _ _ _
    refine Sky.land Zc.steady frA frm skyX (fun hq flq upq => ?_)
    have Jq : Inv X pins σT HT { s' with heap := hq } := JX.landed nb flq.1 (upT.trans upq) osT agT
    obtain ⟨oeq, vsq, heq, hzq, hdq⟩ := flq.there
    have nfr : a ∉ frs (X.env :: X.outer) := fun hm => by
      obtain ⟨_, o', e', nf'⟩ := flq.2.2.1.mem hm
      have z := heq.symm.trans e'
      cases z
      exact nf' _ hdq
    have nLoc : a ≠ X.env.locals := fun z => nfr (List.mem_filterMap.mpr ⟨X.env, List.mem_cons_self, frm.trans (congrArg some z.symm)⟩)
    have nOut : a ∉ X.fs := fun hm => by
      obtain ⟨ev, hev, qv⟩ := List.mem_filterMap.mp hm
      exact nfr (List.mem_filterMap.mpr ⟨ev, List.mem_cons_of_mem _ hev, qv⟩)
    -- the exception is younger than the frame
    have sInone : sI.heap.get? a = none := by
      cases z : sI.heap.get? a with
      | none => rfl
      | some o =>
        have Bn : B.get? a = none := by
          rcases skyX with ⟨_, q, _⟩ | q | q
          · exact q
          · exact q.2.1
          · exact q.2.1
        have y := nb a o z (fun hm => nfr (by rw [← stk]; exact hm))
        rw [Bn] at y
        cases y
    have s0none : X.s_0.heap.get? a = none := by
      cases z : X.s_0.heap.get? a with
      | none => rfl
      | some o =>
        obtain ⟨o2, y⟩ := JX.base.there a o z (by rw [hex]; simp)
        rw [sInone] at y
        cases y
    have pinNe : ∀ p, p ∈ X.pn ++ pins → p.1 ≠ a := fun p hp z => by
      have y := (JX.pin p hp).1
      rw [z, sInone] at y
      cases y
    have Sq := Jq.suite heq hdq naT nLoc nOut
    refine wpAny_handleBy_cons (codeAny_handlers_test ?_) (by rintro ⟨⟩)
    have LTy : PySem.W.Looks (model X.prog X.w) hq (typeOf (.ref a)) cls := fun A Q E s k q => wpAny_typeOf_ref (k _ _ heq) (hzq.1 ▸ q)
    have LEx := PySem.W.exm_one (M := model X.prog X.w) Jq.kIn LTy hcl
    have tst : ∀ {Q : Value → Shared → Prop} {E : Value → Shared → Prop}, Q c { s' with heap := hq } → wpAny (model X.prog X.w) (X.A.mark (some (.ref a))) (eval (.Name x np) X.env) Q E { s' with heap := hq } := fun {Q E} q => by
      obtain ⟨g1, g2, g3 | ⟨g3, g4, g5⟩⟩ := nms
      · exact ld_glob (X := X.suite a ((a, oeq) :: (X.pn ++ pins))) Sq g1 g3 q g2
      · exact ld_blt (X := X.suite a ((a, oeq) :: (X.pn ++ pins))) Sq g1 g3 g4 q g5 g2
    refine tst (LEx.here ?_)
    cases b with
    | true =>
      refine codeAny_handlers_suite_as (HandSPX.lands_againZ flq fun hr flr upr => ?_)
      have Jr : Inv X pins σT HT { s' with heap := hr } := JX.landed nb flr.1 ((upT.trans upq).trans upr) osT agT
      obtain ⟨oer, vsr, her, hzr, hdr⟩ := flr.there
      have Sr := Jr.suite her hdr naT nLoc nOut
      refine store_ok (X := X.suite a ((a, oer) :: (X.pn ++ pins))) (v := V.ref a) Sr nd atI locN rfl (fun s5 S5 => ?_) (Or.inr lcl)
      refine wpAny_mono ((hsuite a oer cls d (X.pn ++ pins) hzr ⟨_, hdr⟩).run [] s5 _ HT _ S5 (hyes rfl a naT)) (fun fl s6 out => ?_) (fun _ _ z => z.elim)
      have leave : ∀ {σ6 : L2.St} {H6 : Hp} {Q : Shared → Prop}, Inv (X.suite a ((a, oer) :: (X.pn ++ pins))) [] σ6 H6 s6 → (∀ s7, Inv X pins (σ6.set i none) (upd H6 a (exv cls d a)) s7 → Q s7) →
          wpAny (model X.prog X.w) X.A (do bindName X.env n .none; unbindBehindTheSuite X.env n pos') (fun _ s7 => Q s7) X.xe s6 := fun {σ6 H6 Q} S6 hQ => by
        have S7 : Inv X ((a, oer) :: pins) σ6 H6 s6 := ⟨okX, S6.os, S6.bare, S6.base, S6.loc, S6.cell, S6.free, S6.freeC, fun p hp => S6.pin p (by
          rw [List.append_nil]
          rcases List.mem_append.mp hp with z | z
          · exact List.mem_cons_of_mem _ (List.mem_append_left _ z)
          · rcases List.mem_cons.mp z with y | y
            · rw [y]
              exact List.mem_cons_self
            · exact List.mem_cons_of_mem _ (List.mem_append_right _ y)), S6.hok, S6.len⟩
        exact gone_ok S7 nd atI lcl fun s7 J7 => hQ s7 (tracked J7 s0none pinNe hzr hdr)
      cases fl with
      | next =>
        obtain ⟨σ6, H6, S6, q6⟩ := out
        exact leave S6 fun s7 J7 => ⟨_, _, J7, q6⟩
      | brk =>
        obtain ⟨σ6, H6, S6, q6⟩ := out
        exact leave S6 fun s7 J7 => ⟨_, _, J7, q6⟩
      | cont =>
        obtain ⟨σ6, H6, S6, q6⟩ := out
        exact leave S6 fun s7 J7 => ⟨_, _, J7, q6⟩
      | ret u =>
        obtain ⟨v6, σ6, H6, S6, r6, q6⟩ := out
        exact leave S6 fun s7 J7 => ⟨_, _, _, J7, r6, q6⟩
    | false =>
      show wpAny _ X.A (handleBy (Value.ref a) X.env []) _ _ _
      refine wpAny_handleBy_nil ?_
      obtain ⟨z1, z2, z3, oe, vs, T1, oT1, tsT, he, hz, hd, h1, hr1⟩ := id flq
      unfold PySem.passOn
      refine wpAny_bind (wpAny_field he hd h1 ?_)
      rw [if_neg (show ¬ ((Value.ref T1 == Value.none) = true) by simp)]
      have fin : wpAny (model X.prog X.w) X.A (setFlight (.ref a) X.env.frame) (fun _ s4 => wpAny (model X.prog X.w) X.A (throw (.ref a) : Sem Flow) (SP X pins D) X.xe s4) X.xe { s' with heap := hq } := by
        rw [frm]
        exact HandSPX.setFlight_upZ flq fun h4 hh4 up4 => wpAny_throw (tko _ _ ⟨a, B, sI, pins, σT, HT, cls, d, rfl, JX, nb, (upT.trans upq).trans up4, .inr (.inr (by rw [stk]; exact hh4)), naT, osT, agT, hno rfl⟩)
      first
        | exact wpAny_bind (wpAny_pure (wpAny_bind fin))
        | exact wpAny_bind fin
  · cases fl with
    | next =>
      obtain ⟨σ1, H1, J1, q1⟩ := done
      exact wpAny_execs_nil ⟨σ1, H1, J1.ofTry okX, q1⟩
    | brk =>
      obtain ⟨σ1, H1, J1, q1⟩ := done
      exact ⟨σ1, H1, J1.ofTry okX, q1⟩
    | cont =>
      obtain ⟨σ1, H1, J1, q1⟩ := done
      exact ⟨σ1, H1, J1.ofTry okX, q1⟩
    | ret u =>
      obtain ⟨v1, σ1, H1, J1, r1, q1⟩ := done
      exact ⟨v1, σ1, H1, J1.ofTry okX, r1, q1⟩
end
end Wx

namespace Wx
open PySem PySem.Spec PyProof.Rows L2 NdefX
section
variable {X : Cx}
/-- e.n, e a kept exception of an own class -/
def tEv (K : PySem.W.Frag) (n : Str) (te : TE) : TE := fun σ H Q => te σ H fun x H1 => ∃ (a C dd : Addr) (fs : List (Str × V)) (v : V), x = .ref a ∧ XfC K C ∧ PySem.W.findIn K (.ref C) n = some none ∧ H1 a = some (exv (.ref C) (some dd) a) ∧ H1 dd = some (.xd fs) ∧ fs.lookup n = some v ∧ Q v H1
theorem pe_ev {e : Expr} {te : TE} {pos : Pos} {n : Str} (he : PE X e te) (hb : attributeBase e n X.env (eval e X.env) = eval e X.env := by rfl) : PE X (.Attribute e n pos) (tEv X.K n te) := by
  refine ⟨fun pins s σ H Q I h => attr_of hb (thn (he.run pins s σ H _ I h) fun u s1 got => ?_)⟩
  obtain ⟨x, H1, I1, rx, a, C, dd, fs, v, ex, T, hno, ea, ed, hl, q⟩ := got
  subst ex
  obtain rfl : u = Value.ref a := rx
  obtain ⟨oe, vs, ga, hz, hd⟩ := exv_at I1.hok ea
  obtain ⟨mA, hns, hr⟩ : ObjOk X.prog X.w H1 s1.heap dd (.xd fs) := I1.hok dd _ ed
  obtain ⟨od, ho, hlk⟩ := lookIn_ns hns
  obtain ⟨u, hu, ru⟩ := RelO.some_of (v := v) (o := mA n) (by rw [← hl]; exact hr n)
  have inst : PySem.W.InstAt s1.heap a oe C (some od) := ⟨ga, hz.1, by unfold PySem.W.notCls; rw [hd] <;> rfl, by rw [hz.2]; exact ho⟩
  exact HandSPX.exc_get I1.kIn inst T.ga T.gg T.exC (PySem.W.findObj_own T.hdC hno rfl (by rw [hlk, hu])) (handed_of ru) ⟨v, H1, I1.tok _, ru, q⟩
/-- isinstance(e, c), e a kept exception of an own class -/
def rIsX (K : PySem.W.Frag) : List V → Hp → VK → Prop := fun xs H Q => ∃ (a C : Addr) (d : Option Addr) (c : V) (u : Value) (b : Bool), xs = [.ref a, c] ∧ ClsV c u ∧ ExcC K C ∧ H a = some (exv (.ref C) d a) ∧ (∀ dd, d = some dd → ∃ fs, H dd = some (.xd fs)) ∧ PySem.W.kitOne K (.ref C) u = some b ∧ Q (.bl b) H
theorem call_isX : CallR X (.builtin "isinstance") (rIsX X.K) := by
  intro pins s σ H xs us Q I r h
  obtain ⟨a, C, d, c, u, b, rfl, hc, T, ea, hd, hk, q⟩ := h
  cases r with
  | cons r1 r2 =>
    cases r2 with
    | cons r3 r4 =>
      cases r4
      cases r1
      have eu := hc.eq r3
      subst eu
      obtain ⟨oe, vs, ga, hz, hf⟩ := exv_at I.hok ea
      have inst : ∃ od, PySem.W.InstAt s.heap a oe C od := by
        cases d with
        | none => exact ⟨none, ga, hz.1, by unfold PySem.W.notCls; rw [hf] <;> rfl, by rw [hz.2]; trivial⟩
        | some dd =>
          obtain ⟨fs, ed⟩ := hd dd rfl
          obtain ⟨mA, hns, _⟩ : ObjOk X.prog X.w H s.heap dd (.xd fs) := I.hok dd _ ed
          obtain ⟨od, ho, _⟩ := lookIn_ns hns
          exact ⟨some od, ga, hz.1, by unfold PySem.W.notCls; rw [hf] <;> rfl, by rw [hz.2]; exact ho⟩
      obtain ⟨od, inst⟩ := inst
      have hcl : (PySem.W.clsIn X.K C).isSome = true := by
        obtain ⟨cd, hcd, _⟩ := PySem.W.any_some T.hd
        rw [hcd]
        rfl
      exact PySem.W.kia_one (PySem.W.kitx_exc hcl T.hg T.hk T.hs T.ha T.hn T.ht T.hm) I.kIn inst hk (fun z => nomatch z) fun tk => ⟨.bl b, H, I.kept (t' := tk) fun _ _ z => z, rfl, q⟩
theorem call_repr_str : CallR X (.builtin "repr") (fun xs H Q => ∃ z, xs = [.str z] ∧ (reprText z).length ≤ sizeLine ∧ Q (.str (reprText z)) H) := by
  intro pins s σ H xs us Q I r h
  obtain ⟨z, rfl, hz, q⟩ := h
  obtain ⟨u, rfl, t, rfl⟩ := vals1 r
  exact PySem.P.repr_of_str ⟨.str (reprText z), H, I.tok _, ⟨_, rfl⟩, q⟩ hz
end
/-! ### what the errors' modules promise -/
/-- a value that a message can show -/
def ShowOk (x : V) : Prop := (∃ z, x = .str z ∧ (reprText z).length ≤ 20000) ∨ (∃ i, x = .int i) ∨ x = .non ∨ ∃ b, x = .bl b
def sp_shown : Sp := fun vs H Q _ => ∃ x, vs = [x] ∧ ShowOk x ∧ ∀ y : Str, y.length ≤ 20000 → Q (.str y) H
/-- __init__ of an own error: the object at a gets a dict of these fields -/
def InitLeaves (H : Hp) (a C : Addr) (fs : List (Str × V)) (Q : VK) : Prop := ∀ (dx : Addr) (H' : Hp), H dx = none → (∀ b o, b ≠ a → H b = some o → H' b = some o) → H' a = some (exo a C (some dx)) → H' dx = some (exd dx fs) → Q .non H'
def spBadNumber (C : Addr) : Sp := fun vs H Q _ => ∃ (a : Addr) (z : Str) (v : V), vs = [.ref a, .str z, v] ∧ H a = some (exo a C none) ∧ z.length ≤ 1000 ∧ ShowOk v ∧ InitLeaves H a C [("value", v), ("what", .str z)] Q
def spBadName (C : Addr) : Sp := fun vs H Q _ => ∃ (a : Addr) (v : V), vs = [.ref a, v] ∧ H a = some (exo a C none) ∧ ShowOk v ∧ InitLeaves H a C [("name", v)] Q
/-- all that is asked of an own error class -/
structure ErrC (P : Program) (K : PySem.W.Frag) (mg : Str → Option Value) (x qual : Str) (C f cda cc : Addr) : Prop where
  g : mg x = some (.ref C)
  sup : SupTxt P K mg C cda cc qual
  ini : PySem.W.findIn K (.ref C) "__init__" = some (some (.ref f))
  tyI : PySem.W.typeIn K (.ref f) = some (.type "function")
  xf : XfC K C
  isx : ExcC K C
  exm : PySem.W.exmOne K (.ref C) (.ref C) = some true
  noWhat : PySem.W.findIn K (.ref C) "what" = some none
  noValue : PySem.W.findIn K (.ref C) "value" = some none
  noName : PySem.W.findIn K (.ref C) "name" = some none
  noTurn : PySem.W.findIn K (.ref C) "turn" = some none
theorem init_leaves2 {H : Hp} {a C : Addr} {f1 f2 : Str} {v1 v2 : V} {Q : VK} (ha : H a = some (exo a C none)) (k : InitLeaves H a C [(f2, v2), (f1, v1)] Q) {dx : Addr} (nd : H dx = none) (ne : dx ≠ a) :
    Q .non (upd (upd (upd H dx (exd dx [(f1, v1)])) a (exo a C (some dx))) dx (exd dx [(f2, v2), (f1, v1)])) := by
  refine k dx _ nd (fun b o nb e => ?_) ?_ upd_same
  · have nbd : b ≠ dx := ne_of_none e nd
    rw [upd_ne nbd, upd_ne nb, upd_ne nbd]
    exact e
  · rw [upd_ne (Ne.symm ne)]
    exact upd_same
theorem init_leaves1 {H : Hp} {a C : Addr} {f1 : Str} {v1 : V} {Q : VK} (k : InitLeaves H a C [(f1, v1)] Q) {dx : Addr} (nd : H dx = none) (ne : dx ≠ a) : Q .non (upd (upd H dx (exd dx [(f1, v1)])) a (exo a C (some dx))) := by
  refine k dx _ nd (fun b o nb e => ?_) upd_same ?_
  · rw [upd_ne nb, upd_ne (ne_of_none e nd)]
    exact e
  · rw [upd_ne ne]
    exact upd_same
/-- C(..) made: its promise by what __init__ leaves; the exception itself goes, its dict stays -/
theorem made_of {H1 : Hp} {a C : Addr} {fs : List (Str × V)} {Q : XK} (na : H1 a = none) (k : ∀ (d : Addr) (H' : Hp), H1 d = none → Same H1 H' → H' d = some (.xd fs) → Q (.ref C) (some d) H') :
    InitLeaves (upd H1 a (exo a C none)) a C fs (fun v H2 => v = .non ∧ ∃ (d : Addr) (gs : List (Str × V)), H2 a = some (exo a C (some d)) ∧ H2 d = some (exd d gs) ∧ H1 d = none ∧ Q (.ref C) (some d) (upd (del H2 a) d (.xd gs))) := fun dx H' nd keep ha hd => by
  have nda : dx ≠ a := fun z => by
    rw [z, upd_same] at nd
    cases nd
  have nd1 : H1 dx = none := by
    rw [upd_ne nda] at nd
    exact nd
  refine ⟨rfl, dx, fs, ha, hd, nd1, k dx _ nd1 (fun b o e => ?_) upd_same⟩
  have nba : b ≠ a := ne_of_none e na
  rw [upd_ne (ne_of_none e nd1), del_ne nba]
  exact keep b o nba (by rw [upd_ne nba]; exact e)
end Wx

namespace Wx
open PySem PySem.Spec PyProof.Rows L2 NdefX
theorem gives_lt_ib (p : Bool) (b : Int) (u : Tok) : Gives (Builtin.«int.__lt__» ⟨[.bool p, .int b u], []⟩) (.val (Value.bool (decide ((if p = true then (1 : Int) else 0) < b)))) :=
  .of_wp fun M A E s Q h => by obtain ⟨hp, g, d, tk, os⟩ := s; wp_walk; exact ⟨_, rfl, h⟩
theorem gives_gt_ib (p : Bool) (b : Int) (u : Tok) : Gives (Builtin.«int.__gt__» ⟨[.bool p, .int b u], []⟩) (.val (Value.bool (decide ((if p = true then (1 : Int) else 0) > b)))) :=
  .of_wp fun M A E s Q h => by obtain ⟨hp, g, d, tk, os⟩ := s; wp_walk; exact ⟨_, rfl, h⟩
section
variable {prog : Program} {w : World} {A : Around} {E : Value → Shared → Prop} {s : Shared}
theorem lt_bool_int {p : Bool} {b : Int} {u : Tok} {Q : Value → Shared → Prop} (h : Q (.bool (decide (PyProof.Rows.b2i p < b))) s) : wpAny (model prog w) A (compareOp .Lt (.bool p) (.int b u)) Q E s := by
  show wpAny _ A (richCompare .Lt _ _) Q E s
  exact PySem.SeqAt.rc_left_or rfl (typeIs_int s b u) (by decide) F.sub_int_bool F.slot_bool_lt
    (call_gives F.slot_bool_lt rfl F.entry_int_lt (F.args_int_lt_2 _ _) (gives_lt_ib p b u) ⟨nofun, h⟩) (.inl rfl)
theorem lt_int_bool {p : Bool} {a : Int} {t : Tok} {Q : Value → Shared → Prop} (h : Q (.bool (decide (a < PyProof.Rows.b2i p))) s) : wpAny (model prog w) A (compareOp .Lt (.int a t) (.bool p)) Q E s := by
  show wpAny _ A (richCompare .Lt _ _) Q E s
  exact PySem.SeqAt.rc_sub_first_or (typeIs_int s a t) rfl (by decide) F.sub_bool_int F.slot_bool_gt
    (call_gives F.slot_bool_gt rfl F.entry_int_gt (F.args_int_gt_2 _ _) (gives_gt_ib p a t) ⟨nofun, h⟩) (.inl rfl)
end
def nV : V → Option Int | .int i => some i | .bl b => some (if b = true then 1 else 0) | _ => none
section
variable {X : Cx}
theorem op_ltM : OpR X (compareOp .Lt) (fun x y H Q => ∃ i j, nV x = some i ∧ nV y = some j ∧ Q (.bl (decide (i < j))) H) := by
  intro pins s σ H x y v u Q I rx ry h
  obtain ⟨i, j, hx, hy, q⟩ := h
  cases x with
  | int a =>
    obtain rfl : a = i := Option.some.inj hx
    obtain ⟨t, rfl⟩ := rx
    cases y with
    | int b =>
      obtain rfl : b = j := Option.some.inj hy
      obtain ⟨t', rfl⟩ := ry
      exact PyProof.Rows.lt_int (fin_bl I q rfl)
    | bl b =>
      obtain rfl : (if b = true then 1 else 0) = j := Option.some.inj hy
      cases ry
      exact lt_int_bool (fin_bl I q rfl)
    | _ => cases hy
  | bl a =>
    obtain rfl : (if a = true then 1 else 0) = i := Option.some.inj hx
    cases rx
    cases y with
    | int b =>
      obtain rfl : b = j := Option.some.inj hy
      obtain ⟨t', rfl⟩ := ry
      exact lt_bool_int (fin_bl I q rfl)
    | bl b =>
      obtain rfl : (if b = true then 1 else 0) = j := Option.some.inj hy
      cases ry
      exact PyProof.Rows.lt_bool (fin_bl I q rfl)
    | _ => cases hy
  | _ => cases hx
theorem call_str_ib : CallR X (.type "str") (fun xs H Q => (∃ i, xs = [.int i] ∧ i.natAbs.log2 < 1920 ∧ Q (.str (toString i)) H) ∨ ∃ b, xs = [.bl b] ∧ Q (.str (if b = true then "True" else "False")) H) := by
  intro pins s σ H xs us Q I r h
  rcases h with ⟨i, rfl, hz, q⟩ | ⟨b, rfl, q⟩
  · obtain ⟨u, rfl, t, rfl⟩ := vals1 r
    exact PySem.P.str_of_int hz ⟨.str _, H, I.tok _, ⟨_, rfl⟩, q⟩
  · obtain ⟨u, rfl, hu⟩ := vals1 r
    obtain rfl : u = Value.bool b := hu
    exact PySem.P.str_of_bool ⟨.str _, H, I.tok _, ⟨_, by cases b <;> rfl⟩, q⟩
end
end Wx

namespace Wx
open PySem PySem.Spec PyProof.Rows L2 NdefX
/-! == and != by an own __eq__, any answer; C(..) inside a try -/
section
variable {prog : Program} {w : World} {A : Around} {E : Value → Shared → Prop} {K : PySem.W.Frag} {s : Shared} {x C f : Addr} {ox : Obj} {od : Option Obj}
theorem ifBound_B {M : Model} {name : Str} {id : String} {args : List Value} {Q : Option Value → Shared → Prop} (X : K.In s.heap) (I : PySem.W.InstAt s.heap x ox C od) (hs : PySem.W.findIn K (.ref C) name = some (some (.builtin id)))
    (hb : ∀ self, bindSpecial (.builtin id) self = pure (.builtin id, [self]))
    (h : wpAny M A (call (.builtin id) (.ref x :: args)) (fun v => Q (some v)) E s) : wpAny M A (callSpecialIfBound? (.ref x) name args) Q E s := by
  simp only [callSpecialIfBound?, bindSpecialIfBound?]
  refine wpAny_holding (wpAny_bind (wpAny_bind (wpAny_bind (I.type.here ((PySem.W.looks_findIn X hs).here ?_)))))
  refine wpAny_bind (wpAny_askSetting (wpAny_ite ?_))
  have fin : wpAny M A (call (.builtin id) ([.ref x] ++ args) >>= fun v => pure (some v)) Q E s := wpAny_bind (wpAny_mono h (fun v s' h' => wpAny_pure h') fun _ _ h' => h')
  simp only [hb]
  split
  · exact wpAny_bind (wpAny_pure (wpAny_pure (by exact fin)))
  · exact wpAny_tryCatch (wpAny_bind (wpAny_pure (wpAny_pure (by exact fin))))
theorem objNe_K {b : Value} {Q : Fin → Shared → Prop} (X : K.In s.heap) (I : PySem.W.InstAt s.heap x ox C od) (hs : PySem.W.findIn K (.ref C) "__eq__" = some (some (.ref f))) (hf : PySem.W.isFn K (.ref f) = true) (hu : A.units < cLine)
    (h : wpAny (model prog w) A (call (.ref f) [.ref x, b]) (fun v s' => ∃ k, v = .bool k ∧ Q (.done (.ret (.bool (!k)))) s') E s) : wpAny (model prog w) A (Builtin.«object.__ne__» ⟨[.ref x, b], []⟩) Q E s := by
  unfold Builtin.«object.__ne__»
  repeat (first
    | with_reducible refine wpAny_cRoomFor hu ?_
    | (refine wpAny_bind (m := callSpecialIfBound? (.ref x) (Str.ofString "__eq__") [b])
        (PySem.W.ifBound_K X I hs hf (wpAny_mono h (fun r s' hr => by
          obtain ⟨k, rfl, hq⟩ := hr
          repeat (first | exact hq | exact wpAny_pure hq | exact wpAny_truthy_bool hq | (refine wpAny_bind (m := truthy (.bool _)) (wpAny_truthy_bool ?_)) | wp_step)) fun _ _ e => e)))
    | wp_step)
/-- x != y by the class's own __eq__ -/
theorem ne_K {L : Addr} {h₀ : Heap} {m : Str → Option Value} {b tb : Value} {Q : Value → Shared → Prop} (hu : A.units + 1 < cLine) (FR : Fr h₀ L s.heap m) (X₀ : K.In h₀) (I : PySem.W.InstAt s.heap x ox C od) (hb : PySem.W.Looks (model prog w) s.heap (typeOf b) tb) (hn : PySem.W.notFirst K C tb = true)
    (hne : PySem.W.findIn K (.ref C) "__ne__" = some (some (.builtin "object.__ne__"))) (ho : PySem.W.subIn K (.ref C) (.type "object") = some true)
    (hs : PySem.W.findIn K (.ref C) "__eq__" = some (some (.ref f))) (hf : PySem.W.isFn K (.ref f) = true)
    (h : wpAny (model prog w) A.in1 (call (.ref f) [.ref x, b]) (fun v s' => ∃ k, v = .bool k ∧ Q (.bool (!k)) s') E s) : wpAny (model prog w) A (richCompare .NotEq (.ref x) b) Q E s := by
  have X := X₀.keeps FR.keep
  have one : wpAny (model prog w) A (tryCompare (.ref x) "__ne__" b) (fun r s' => ∃ v, r = some v ∧ Q v s') E s := by
    simp only [tryCompare]
    refine wpAny_bind (ifBound_B X I hne F.cmp_object.ne.bind (wpAny_call (codeAny_call_builtin F.cmp_object.ne.plain F.cmpEntry_ne
      (@PySem.W.check_slot (model prog w) _ _ s "object.__ne__" "object" "__ne__" (.ref x) [b] [] _ F.cmpKind_ne F.cmpSplit_ne (I.type.andThen (PySem.W.looks_subIn X ho)) (F.cmpArgs_ne _ _)
        (objNe_K (A := A.in1) X I hs hf hu (wpAny_mono h (fun v s' hv => ?_) fun _ _ e => e))))))
    obtain ⟨k, rfl, hq⟩ := hv
    first | exact ⟨k, rfl, wpAny_pure ⟨_, rfl, hq⟩⟩ | exact ⟨k, rfl, wpAny_pure (wpAny_pure ⟨_, rfl, hq⟩)⟩ | exact ⟨k, rfl, _, rfl, hq⟩
  unfold richCompare
  simp only [oneThing_ref]
  refine wpAny_holding (wpAny_bind (wpAny_cRoomFor (Nat.lt_of_succ_lt hu) ?_))
  rw [cmpInfo_NotEq]
  dsimp only
  refine wpAny_bind (I.type.here (wpAny_bind (hb.here ?_)))
  split
  · rename_i q
    have e : PySem.W.subIn K tb (.ref C) = some false := by
      rcases Bool.or_eq_true_iff.mp hn with e | e
      · rw [beq_iff_eq.mp e] at q; simp at q
      · exact beq_iff_eq.mp e
    refine wpAny_bind ((PySem.W.looks_subIn X e).here ?_)
    simp only [Bool.false_eq_true, if_false]
    refine wpAny_bind (wpAny_mono one (fun r s' z => ?_) fun _ _ e => e)
    obtain ⟨v, rfl, hq⟩ := z
    exact wpAny_pure hq
  · refine wpAny_bind (wpAny_pure ?_)
    simp only [Bool.false_eq_true, if_false]
    refine wpAny_bind (wpAny_mono one (fun r s' z => ?_) fun _ _ e => e)
    obtain ⟨v, rfl, hq⟩ := z
    exact wpAny_pure hq
end
/-- two instances of the class at C -/
def rOwnI (K : PySem.W.Frag) (C : Addr) (sp : Sp) (E : XK) (g : Bool → Bool) : R2 := fun x y H Q => ∃ a dx fs b dy gs, x = .ref a ∧ y = .ref b ∧ H a = some (.ins C dx fs) ∧ H b = some (.ins C dy gs) ∧ sp [x, y] H (fun z H' => ∃ k, z = .bl k ∧ Q (.bl (g k)) H') E
section
variable {X : Cx} {CX : CXT} {C f : Addr} {n : Nat} {fd : FuncData} {ps : List Str} {sp : Sp} {E : XK}
theorem run_two {A : Around} {pins : List (Addr × Obj)} {σ : L2.St} {H : Hp} {s : Shared} {us : List Value} {vs : List V} {Q : VK} (F : FnOk X.prog X.w X.K X.mg X.base CX n f fd ps sp) (hr : Room n A) (e0 : Env0 X.prog X.w X.K X.mg X.base A X.stack s H) (hb : Binds X.K fd ps []) (hx : Passes CX X E)
    (I : Inv X pins σ H s) (r : Vals vs us) (h : sp vs H Q E) : wpAny (model X.prog X.w) A (call (.ref f) us) (EP X pins σ Q) X.xe s := by
  have hl : us.length = ps.length := by rw [← r.length]; exact F.len _ _ _ _ h
  refine wpAny_call (codeAny_mono (F.run A X.stack s H ⟨us, []⟩ us vs Q E hr e0 (by
    have := hb s us I.kIn (by simpa using hl)
    simpa using this) r h) fun r s' hq => ?_)
  cases r with
  | error e => exact hx pins σ H s e s' I hq
  | ok fl =>
    cases fl with
    | ret w => exact I.after hq
    | next => exact False.elim hq
    | brk => exact False.elim hq
    | cont => exact False.elim hq
theorem op_eqI (F : FnOk X.prog X.w X.K X.mg X.base CX n f fd ps sp) (hr : Room n X.A) (hs : PySem.W.findIn X.K (.ref C) "__eq__" = some (some (.ref f))) (hf : PySem.W.isFn X.K (.ref f) = true) (hb : Binds X.K fd ps []) (hx : Passes CX X E) : OpR X (compareOp .Eq) (rOwnI X.K C sp E id) := by
  intro pins s σ H x y v u Q I rx ry h
  obtain ⟨a, dx, fs, b, dy, gs, rfl, rfl, ha, hb', q⟩ := h
  cases (show v = Value.ref a from rx)
  cases (show u = Value.ref b from ry)
  obtain ⟨mA, J, _⟩ := ins_get I.hok ha
  obtain ⟨mB, J', _⟩ := ins_get I.hok hb'
  obtain ⟨od, J, _⟩ := J.look
  obtain ⟨od', J', _⟩ := J'.look
  obtain ⟨m, hF⟩ := I.fr
  show wpAny (model X.prog X.w) X.A (richCompare .Eq _ _) (EP X pins σ Q) X.xe s
  refine PySem.W.cmp_K (op := .Eq) (tb := .ref C) hr.units0 hF I.ok.mod.kin J J'.type (by simp [PySem.W.notFirst]) hs hf ?_
  refine wpAny_mono (run_two (us := [.ref a, .ref b]) (vs := [.ref a, .ref b]) F hr I.env0 hb hx I (.cons rfl (.cons rfl .nil)) q) (fun w s' z => ?_) fun _ _ x => x
  obtain ⟨z', H', I', rz, k, ez, qz⟩ := z
  subst ez
  cases (show w = Value.bool k from rz)
  exact ⟨.bl k, H', I', rfl, qz⟩
theorem op_neI (F : FnOk X.prog X.w X.K X.mg X.base CX n f fd ps sp) (hr : Room (n + 1) X.A) (hne : PySem.W.findIn X.K (.ref C) "__ne__" = some (some (.builtin "object.__ne__"))) (ho : PySem.W.subIn X.K (.ref C) (.type "object") = some true)
    (hs : PySem.W.findIn X.K (.ref C) "__eq__" = some (some (.ref f))) (hf : PySem.W.isFn X.K (.ref f) = true) (hb : Binds X.K fd ps []) (hx : Passes CX X E) : OpR X (compareOp .NotEq) (rOwnI X.K C sp E not) := by
  intro pins s σ H x y v u Q I rx ry h
  obtain ⟨a, dx, fs, b, dy, gs, rfl, rfl, ha, hb', q⟩ := h
  cases (show v = Value.ref a from rx)
  cases (show u = Value.ref b from ry)
  obtain ⟨mA, J, _⟩ := ins_get I.hok ha
  obtain ⟨mB, J', _⟩ := ins_get I.hok hb'
  obtain ⟨od, J, _⟩ := J.look
  obtain ⟨od', J', _⟩ := J'.look
  obtain ⟨m, hF⟩ := I.fr
  show wpAny (model X.prog X.w) X.A (richCompare .NotEq _ _) (EP X pins σ Q) X.xe s
  have hr1 : Room n X.A.in1 := hr.in1
  refine ne_K (tb := .ref C) hr1.units0 hF I.ok.mod.kin J J'.type (by simp [PySem.W.notFirst]) hne ho hs hf ?_
  refine wpAny_mono (run_two (us := [.ref a, .ref b]) (vs := [.ref a, .ref b]) F hr1 I.env0.in1 hb hx I (.cons rfl (.cons rfl .nil)) q) (fun w s' z => ?_) fun _ _ x => x
  obtain ⟨z', H', I', rz, k, ez, qz⟩ := z
  subst ez
  cases (show w = Value.bool k from rz)
  exact ⟨k, rfl, .bl (!k), H', I', rfl, qz⟩
end
section
variable {X : Cx} {CX : CXT} {k : Nat} {f C : Addr} {fd : FuncData} {ps : List Str} {sp : Sp} {E : L2.St → XK} {x : Str} {p pos : Pos} {e : Expr} {es : List Expr} {t : TA}
/-- C(..) where what is raised is wished for at the caller's slots -/
def tMakeS (C : Addr) (sp : Sp) (E : L2.St → XK) (t : TA) : TE := fun σ H Q => t σ H fun vs H1 => ∀ x dx, H1 x = none → H1 dx = none → dx ≠ x → sp (.ref x :: vs) (upd (upd H1 dx (.own x)) x (.ins C dx [])) (fun v H2 => v = .non ∧ Q (.ref x) H2) (E σ)
theorem pe_makeS (M : Mk X.K C f) (F : FnOk X.prog X.w X.K X.mg X.base CX k f fd ps sp) (hr : Room (k + 1) X.A) (hg : Gl X x) (hm : X.mg x = some (.ref C)) (hb : Binds X.K fd ps []) (hx : ∀ σ, PassesAt CX X σ (E σ))
    (ha : PA X (e :: es) t) (hdb : (x == ("__debug__" : Str)) = false := by decide) (he : starEach (e :: es) X.env = (false, eval e X.env) :: starEach es X.env := by rfl) (hpl : (backTo pos (starEach es X.env)).any (·.1) = false := by rfl) :
    PE X (.Call (.Name x p) (e :: es) [] pos) (tMakeS C sp E t) := by
  refine ⟨fun pins s σ H Q I h => ?_⟩
  refine wpAny_Call_Name_kw (ld_glob I hg hm ?_ hdb)
  refine PySem.W.callWith_K (h₀ := X.base) I.ok.mod.kin M.kp (thn (ha.run pos pins s σ H _ I h) fun us s1 ⟨vs, H1, I1, r, q⟩ => ⟨I1.kIn, ?_⟩) he hpl
  have hq := q (s1.heap.objs.size + 1) s1.heap.objs.size (I1.hok.fresh (Nat.le_succ _)) (I1.hok.fresh (Nat.le_refl _)) (Nat.ne_of_lt (Nat.lt_succ_self _))
  have I2 := Inv.made (C := C) I1
  have r2 : Vals (V.ref (s1.heap.objs.size + 1) :: vs) (Value.ref (s1.heap.objs.size + 1) :: us) := .cons rfl r
  have hl : (Value.ref (s1.heap.objs.size + 1) :: us).length = ps.length := by
    have e := r2.length
    rw [F.len _ _ _ _ hq] at e
    exact e.symm
  refine wpAny_call (make_map (f := f) I1.kIn M.makes M.init (beq_iff_eq.mp M.fn) (codeAny_mono (F.run _ X.stack _ _ ⟨Value.ref (s1.heap.objs.size + 1) :: us, []⟩ (Value.ref (s1.heap.objs.size + 1) :: us) _ _ (E σ) (hr.make C us [])
    (I2.env0.make C us []) (by
      have := hb _ (Value.ref (s1.heap.objs.size + 1) :: us) I2.kIn (by simpa using hl)
      simpa using this) r2 hq) fun r s' hq' => ?_))
  cases r with
  | error e => exact hx σ pins _ _ e s' I2 hq'
  | ok fl =>
    cases fl with
    | ret u =>
      obtain ⟨v, H', I3, rv, ev, q3⟩ := I2.after hq'
      subst ev
      exact ⟨rv, ⟨V.ref (s1.heap.objs.size + 1), H', I3, rfl, q3⟩⟩
    | next => exact False.elim hq'
    | brk => exact False.elim hq'
    | cont => exact False.elim hq'
end
end Wx

namespace Wx
open PySem PySem.Spec PyProof.Rows L2 NdefX
def wKeeps (K : PySem.W.Frag) (i : Nat) (Wout : WX) (D : Ends) : List (Value × (Addr → Value → Option Addr → TS)) → WX
  | [] => Wout
  | (c, ts) :: r => fun cls d σ H =>
    ∃ b, PySem.W.exmOne K cls c = some b ∧ (b = true → ∀ a, H a = none → ts a cls d { nx := fun σ1 H1 => D.nx (σ1.set i none) (upd H1 a (exv cls d a)), rt := fun v H1 => D.rt v (upd H1 a (exv cls d a)), bk := fun σ1 H1 => D.bk (σ1.set i none) (upd H1 a (exv cls d a)), ct := fun σ1 H1 => D.ct (σ1.set i none) (upd H1 a (exv cls d a)) } (σ.set i (some (.ref a))) H) ∧
      (b = false → wKeeps K i Wout D r cls d σ H)
inductive HdsKeep (X : Cx) (n : Str) : List ExceptHandler → List (Value × (Addr → Value → Option Addr → TS)) → Prop
  | nil : HdsKeep X n [] []
  | cons {x : Str} {c : Value} {ts : Addr → Value → Option Addr → TS} {b₀ : Stmt} {suite : List Stmt} {np pos' : Pos} {hds : List ExceptHandler} {l : List (Value × (Addr → Value → Option Addr → TS))} (hc : Names X x c)
      (hsu : ∀ (a : Addr) (oe : Obj) (cls : Value) (d : Option Addr) (pn : List (Addr × Obj)), Zc cls d oe → (∃ vs, oe.data = .fields vs) → PSs (X.suite a ((a, oe) :: pn)) (b₀ :: suite) (ts a cls d)) (r : HdsKeep X n hds l) :
      HdsKeep X n (.ExceptHandler (some (.Name x np)) (some n) (b₀ :: suite) pos' :: hds) ((c, ts) :: l)
section
variable {X : Cx} {n : Str} {i : Nat} {body : List Stmt} {h₀ : ExceptHandler} {hds : List ExceptHandler} {l : List (Value × (Addr → Value → Option Addr → TS))} {pos : Pos} {tb : WX → TS} {Wout : WX}
/-- several clauses, each one keeping its exception under the same name -/
theorem ps_try_keeps (hex : X.ex = []) (stk : X.stack = X.env :: X.outer) (frm : X.env.frame = some X.env.locals) (nd : X.N.Nodup) (atI : X.N[i]? = some n) (lcl : X.env.kindOf n = some .local) (tko : Takes X Wout)
    (hbody : ∀ (W : WX) (pn : List (Addr × Obj)) (xe : Value → Shared → Prop), Takes (X.tr pn xe) W → PassesOwn (model X.prog X.w) X.A X.env xe → PSs (X.tr pn xe) body (tb W))
    (hh : HdsKeep X n (h₀ :: hds) l) :
    PS X (.Try body (h₀ :: hds) [] [] pos) (fun D σ H => tb (wKeeps X.K i Wout D l) D σ H) := by
  refine ⟨fun pins s σ H D I0 rd => ?_⟩
  have okX := I0.ok
  have frA : X.A.frames = some (X.env :: X.outer) := okX.frames.trans (congrArg some stk)
  have locN : Loc X.env.scope n := Or.inl lcl
  refine wpAny_Try_except (wpAny_mono ((hbody (wKeeps X.K i Wout D l) (X.pn ++ pins) (fun e s₁ => wpAny (model X.prog X.w) X.A (noteFrame e X.env) (fun _ s₂ => wpAny (model X.prog X.w) X.A (setFlight e none) (fun _ s₃ =>
      wpAny (model X.prog X.w) X.A (handleBy e X.env (h₀ :: hds)) (SP X pins D) X.xe s₃) X.xe s₂) X.xe s₁) (fun u s' caught => ?_) PassesOwn.looking).run [] s σ H D (I0.toTry _) rd) (fun fl s1 done => ?_) (fun _ _ z => z))
  · obtain ⟨a, B, sI, pinsT, σT, HT, cls, d, rfl, JT, nb, upT, skyT, naT, osT, agT, wl⟩ := caught
    have JX : Inv X pins σT HT sI := Inv.ofTry JT okX
    have skyX : Sky B (X.env :: X.outer) a (Zc cls d) X.env.locals s'.heap := stk ▸ skyT
    show wpAny _ X.A (noteFrame (Value.ref a) X.env) _ _ _
    refine Sky.land Zc.steady frA frm skyX (fun hq flq upq => ?_)
    have Jq : Inv X pins σT HT { s' with heap := hq } := JX.landed nb flq.1 (upT.trans upq) osT agT
    obtain ⟨oeq, vsq, heq, hzq, hdq⟩ := flq.there
    have nfr : a ∉ frs (X.env :: X.outer) := fun hm => by
      obtain ⟨_, o', e', nf'⟩ := flq.2.2.1.mem hm
      have z := heq.symm.trans e'
      cases z
      exact nf' _ hdq
    have nLoc : a ≠ X.env.locals := fun z => nfr (List.mem_filterMap.mpr ⟨X.env, List.mem_cons_self, frm.trans (congrArg some z.symm)⟩)
    have nOut : a ∉ X.fs := fun hm => by
      obtain ⟨ev, hev, qv⟩ := List.mem_filterMap.mp hm
      exact nfr (List.mem_filterMap.mpr ⟨ev, List.mem_cons_of_mem _ hev, qv⟩)
    -- the exception is younger than the frame
    have sInone : sI.heap.get? a = none := by
      cases z : sI.heap.get? a with
      | none => rfl
      | some o =>
        have Bn : B.get? a = none := by
          rcases skyX with ⟨_, q, _⟩ | q | q
          · exact q
          · exact q.2.1
          · exact q.2.1
        have y := nb a o z (fun hm => nfr (by rw [← stk]; exact hm))
        rw [Bn] at y
        cases y
    have s0none : X.s_0.heap.get? a = none := by
      cases z : X.s_0.heap.get? a with
      | none => rfl
      | some o =>
        obtain ⟨o2, y⟩ := JX.base.there a o z (by rw [hex]; simp)
        rw [sInone] at y
        cases y
    have pinNe : ∀ p, p ∈ X.pn ++ pins → p.1 ≠ a := fun p hp z => by
      have y := (JX.pin p hp).1
      rw [z, sInone] at y
      cases y
    have Sq := Jq.suite heq hdq naT nLoc nOut
    have LTy : PySem.W.Looks (model X.prog X.w) hq (typeOf (.ref a)) cls := fun A Q E s k q => wpAny_typeOf_ref (k _ _ heq) (hzq.1 ▸ q)
    have go : ∀ (hs : List ExceptHandler) (l : List (Value × (Addr → Value → Option Addr → TS))), HdsKeep X n hs l → wKeeps X.K i Wout D l cls d σT HT → wpAny (model X.prog X.w) X.A (handleBy (Value.ref a) X.env hs) (SP X pins D) X.xe { s' with heap := hq } := by
      intro hs l hk
      induction hk with
      | nil =>
        intro wout
        refine wpAny_handleBy_nil ?_
        obtain ⟨z1, z2, z3, oe, vs, T1, oT1, tsT, he, hz, hd, h1, hr1⟩ := id flq
        unfold PySem.passOn
        refine wpAny_bind (wpAny_field he hd h1 ?_)
        rw [if_neg (show ¬ ((Value.ref T1 == Value.none) = true) by simp)]
        have fin : wpAny (model X.prog X.w) X.A (setFlight (.ref a) X.env.frame) (fun _ s4 => wpAny (model X.prog X.w) X.A (throw (.ref a) : Sem Flow) (SP X pins D) X.xe s4) X.xe { s' with heap := hq } := by
          rw [frm]
          exact HandSPX.setFlight_upZ flq fun h4 hh4 up4 => wpAny_throw (tko _ _ ⟨a, B, sI, pins, σT, HT, cls, d, rfl, JX, nb, (upT.trans upq).trans up4, .inr (.inr (by rw [stk]; exact hh4)), naT, osT, agT, wout⟩)
        first
          | exact wpAny_bind (wpAny_pure (wpAny_bind fin))
          | exact wpAny_bind fin
      | @cons x c ts b₀ suite np pos' hs l nms hsuite hrest ih =>
        intro wl
        obtain ⟨b, hcl, hyes, hno⟩ := wl
        refine wpAny_handleBy_cons (codeAny_handlers_test ?_) (by rintro ⟨⟩)
        have LEx := PySem.W.exm_one (M := model X.prog X.w) Jq.kIn LTy hcl
        have tst : ∀ {Q : Value → Shared → Prop} {E : Value → Shared → Prop}, Q c { s' with heap := hq } → wpAny (model X.prog X.w) (X.A.mark (some (.ref a))) (eval (.Name x np) X.env) Q E { s' with heap := hq } := fun {Q E} q => by
          obtain ⟨g1, g2, g3 | ⟨g3, g4, g5⟩⟩ := nms
          · exact ld_glob (X := X.suite a ((a, oeq) :: (X.pn ++ pins))) Sq g1 g3 q g2
          · exact ld_blt (X := X.suite a ((a, oeq) :: (X.pn ++ pins))) Sq g1 g3 g4 q g5 g2
        refine tst (LEx.here ?_)
        cases b with
        | true =>
          refine codeAny_handlers_suite_as (HandSPX.lands_againZ flq fun hr flr upr => ?_)
          have Jr : Inv X pins σT HT { s' with heap := hr } := JX.landed nb flr.1 ((upT.trans upq).trans upr) osT agT
          obtain ⟨oer, vsr, her, hzr, hdr⟩ := flr.there
          have Sr := Jr.suite her hdr naT nLoc nOut
          refine store_ok (X := X.suite a ((a, oer) :: (X.pn ++ pins))) (v := V.ref a) Sr nd atI locN rfl (fun s5 S5 => ?_) (Or.inr lcl)
          refine wpAny_mono ((hsuite a oer cls d (X.pn ++ pins) hzr ⟨_, hdr⟩).run [] s5 _ HT _ S5 (hyes rfl a naT)) (fun fl s6 out => ?_) (fun _ _ z => z.elim)
          have leave : ∀ {σ6 : L2.St} {H6 : Hp} {Q : Shared → Prop}, Inv (X.suite a ((a, oer) :: (X.pn ++ pins))) [] σ6 H6 s6 → (∀ s7, Inv X pins (σ6.set i none) (upd H6 a (exv cls d a)) s7 → Q s7) →
              wpAny (model X.prog X.w) X.A (do bindName X.env n .none; unbindBehindTheSuite X.env n pos') (fun _ s7 => Q s7) X.xe s6 := fun {σ6 H6 Q} S6 hQ => by
            have S7 : Inv X ((a, oer) :: pins) σ6 H6 s6 := ⟨okX, S6.os, S6.bare, S6.base, S6.loc, S6.cell, S6.free, S6.freeC, fun p hp => S6.pin p (by
              rw [List.append_nil]
              rcases List.mem_append.mp hp with z | z
              · exact List.mem_cons_of_mem _ (List.mem_append_left _ z)
              · rcases List.mem_cons.mp z with y | y
                · rw [y]
                  exact List.mem_cons_self
                · exact List.mem_cons_of_mem _ (List.mem_append_right _ y)), S6.hok, S6.len⟩
            exact gone_ok S7 nd atI lcl fun s7 J7 => hQ s7 (tracked J7 s0none pinNe hzr hdr)
          cases fl with
          | next =>
            obtain ⟨σ6, H6, S6, q6⟩ := out
            exact leave S6 fun s7 J7 => ⟨_, _, J7, q6⟩
          | brk =>
            obtain ⟨σ6, H6, S6, q6⟩ := out
            exact leave S6 fun s7 J7 => ⟨_, _, J7, q6⟩
          | cont =>
            obtain ⟨σ6, H6, S6, q6⟩ := out
            exact leave S6 fun s7 J7 => ⟨_, _, J7, q6⟩
          | ret u =>
            obtain ⟨v6, σ6, H6, S6, r6, q6⟩ := out
            exact leave S6 fun s7 J7 => ⟨_, _, _, J7, r6, q6⟩
        | false => exact ih (hno rfl)
    exact go _ _ hh wl
  · cases fl with
    | next =>
      obtain ⟨σ1, H1, J1, q1⟩ := done
      exact wpAny_execs_nil ⟨σ1, H1, J1.ofTry okX, q1⟩
    | brk =>
      obtain ⟨σ1, H1, J1, q1⟩ := done
      exact ⟨σ1, H1, J1.ofTry okX, q1⟩
    | cont =>
      obtain ⟨σ1, H1, J1, q1⟩ := done
      exact ⟨σ1, H1, J1.ofTry okX, q1⟩
    | ret u =>
      obtain ⟨v1, σ1, H1, J1, r1, q1⟩ := done
      exact ⟨v1, σ1, H1, J1.ofTry okX, r1, q1⟩
end
end Wx

namespace Wx
open PySem PySem.Spec PyProof.Rows L2 NdefX
theorem dropPin {X : Cx} {pins : List (Addr × Obj)} {σ : L2.St} {H : Hp} {s : Shared} {p : Addr × Obj} (J : Inv X (p :: pins) σ H s) : Inv X pins σ H s :=
  ⟨J.ok, J.os, J.bare, J.base, J.loc, J.cell, J.free, J.freeC, fun q hq => J.pin q (by
    rcases List.mem_append.mp hq with z | z
    · exact List.mem_append_left _ z
    · exact List.mem_append_right _ (List.mem_cons_of_mem _ z)), J.hok, J.len⟩
def wAss (K : PySem.W.Frag) (i : Nat) (Wout : WX) (D : Ends) : List (Value × (Addr → Value → Option Addr → TS)) → WX
  | [] => Wout
  | (c, ts) :: r => fun cls d σ H =>
    ∃ b, PySem.W.exmOne K cls c = some b ∧ (b = true → ∀ a, H a = none → ts a cls d { nx := fun σ1 H1 => D.nx (σ1.set i none) H1, rt := D.rt, bk := fun σ1 H1 => D.bk (σ1.set i none) H1, ct := fun σ1 H1 => D.ct (σ1.set i none) H1 } (σ.set i (some (.ref a))) H) ∧
      (b = false → wAss K i Wout D r cls d σ H)
inductive HdsAs (X : Cx) (n : Str) : List ExceptHandler → List (Value × (Addr → Value → Option Addr → TS)) → Prop
  | nil : HdsAs X n [] []
  | cons {x : Str} {c : Value} {ts : Addr → Value → Option Addr → TS} {b₀ : Stmt} {suite : List Stmt} {np pos' : Pos} {hds : List ExceptHandler} {l : List (Value × (Addr → Value → Option Addr → TS))} (hc : Names X x c)
      (hsu : ∀ (a : Addr) (oe : Obj) (cls : Value) (d : Option Addr) (pn : List (Addr × Obj)), Zc cls d oe → (∃ vs, oe.data = .fields vs) → PSs (X.suite a ((a, oe) :: pn)) (b₀ :: suite) (ts a cls d)) (r : HdsAs X n hds l) :
      HdsAs X n (.ExceptHandler (some (.Name x np)) (some n) (b₀ :: suite) pos' :: hds) ((c, ts) :: l)
section
variable {X : Cx} {n : Str} {i : Nat} {body : List Stmt} {h₀ : ExceptHandler} {hds : List ExceptHandler} {l : List (Value × (Addr → Value → Option Addr → TS))} {pos : Pos} {tb : WX → TS} {Wout : WX}
/-- several clauses with the same name; the exception is let go behind the suite -/
theorem ps_try_ass (hex : X.ex = []) (stk : X.stack = X.env :: X.outer) (frm : X.env.frame = some X.env.locals) (nd : X.N.Nodup) (atI : X.N[i]? = some n) (lcl : X.env.kindOf n = some .local) (tko : Takes X Wout)
    (hbody : ∀ (W : WX) (pn : List (Addr × Obj)) (xe : Value → Shared → Prop), Takes (X.tr pn xe) W → PassesOwn (model X.prog X.w) X.A X.env xe → PSs (X.tr pn xe) body (tb W))
    (hh : HdsAs X n (h₀ :: hds) l) :
    PS X (.Try body (h₀ :: hds) [] [] pos) (fun D σ H => tb (wAss X.K i Wout D l) D σ H) := by
  refine ⟨fun pins s σ H D I0 rd => ?_⟩
  have okX := I0.ok
  have frA : X.A.frames = some (X.env :: X.outer) := okX.frames.trans (congrArg some stk)
  have locN : Loc X.env.scope n := Or.inl lcl
  refine wpAny_Try_except (wpAny_mono ((hbody (wAss X.K i Wout D l) (X.pn ++ pins) (fun e s₁ => wpAny (model X.prog X.w) X.A (noteFrame e X.env) (fun _ s₂ => wpAny (model X.prog X.w) X.A (setFlight e none) (fun _ s₃ =>
      wpAny (model X.prog X.w) X.A (handleBy e X.env (h₀ :: hds)) (SP X pins D) X.xe s₃) X.xe s₂) X.xe s₁) (fun u s' caught => ?_) PassesOwn.looking).run [] s σ H D (I0.toTry _) rd) (fun fl s1 done => ?_) (fun _ _ z => z))
  · obtain ⟨a, B, sI, pinsT, σT, HT, cls, d, rfl, JT, nb, upT, skyT, naT, osT, agT, wl⟩ := caught
    have JX : Inv X pins σT HT sI := Inv.ofTry JT okX
    have skyX : Sky B (X.env :: X.outer) a (Zc cls d) X.env.locals s'.heap := stk ▸ skyT
    show wpAny _ X.A (noteFrame (Value.ref a) X.env) _ _ _
    refine Sky.land Zc.steady frA frm skyX (fun hq flq upq => ?_)
    have Jq : Inv X pins σT HT { s' with heap := hq } := JX.landed nb flq.1 (upT.trans upq) osT agT
    obtain ⟨oeq, vsq, heq, hzq, hdq⟩ := flq.there
    have nfr : a ∉ frs (X.env :: X.outer) := fun hm => by
      obtain ⟨_, o', e', nf'⟩ := flq.2.2.1.mem hm
      have z := heq.symm.trans e'
      cases z
      exact nf' _ hdq
    have nLoc : a ≠ X.env.locals := fun z => nfr (List.mem_filterMap.mpr ⟨X.env, List.mem_cons_self, frm.trans (congrArg some z.symm)⟩)
    have nOut : a ∉ X.fs := fun hm => by
      obtain ⟨ev, hev, qv⟩ := List.mem_filterMap.mp hm
      exact nfr (List.mem_filterMap.mpr ⟨ev, List.mem_cons_of_mem _ hev, qv⟩)
    -- the exception is younger than the frame
    have sInone : sI.heap.get? a = none := by
      cases z : sI.heap.get? a with
      | none => rfl
      | some o =>
        have Bn : B.get? a = none := by
          rcases skyX with ⟨_, q, _⟩ | q | q
          · exact q
          · exact q.2.1
          · exact q.2.1
        have y := nb a o z (fun hm => nfr (by rw [← stk]; exact hm))
        rw [Bn] at y
        cases y
    have s0none : X.s_0.heap.get? a = none := by
      cases z : X.s_0.heap.get? a with
      | none => rfl
      | some o =>
        obtain ⟨o2, y⟩ := JX.base.there a o z (by rw [hex]; simp)
        rw [sInone] at y
        cases y
    have pinNe : ∀ p, p ∈ X.pn ++ pins → p.1 ≠ a := fun p hp z => by
      have y := (JX.pin p hp).1
      rw [z, sInone] at y
      cases y
    have Sq := Jq.suite heq hdq naT nLoc nOut
    have LTy : PySem.W.Looks (model X.prog X.w) hq (typeOf (.ref a)) cls := fun A Q E s k q => wpAny_typeOf_ref (k _ _ heq) (hzq.1 ▸ q)
    have go : ∀ (hs : List ExceptHandler) (l : List (Value × (Addr → Value → Option Addr → TS))), HdsAs X n hs l → wAss X.K i Wout D l cls d σT HT → wpAny (model X.prog X.w) X.A (handleBy (Value.ref a) X.env hs) (SP X pins D) X.xe { s' with heap := hq } := by
      intro hs l hk
      induction hk with
      | nil =>
        intro wout
        refine wpAny_handleBy_nil ?_
        obtain ⟨z1, z2, z3, oe, vs, T1, oT1, tsT, he, hz, hd, h1, hr1⟩ := id flq
        unfold PySem.passOn
        refine wpAny_bind (wpAny_field he hd h1 ?_)
        rw [if_neg (show ¬ ((Value.ref T1 == Value.none) = true) by simp)]
        have fin : wpAny (model X.prog X.w) X.A (setFlight (.ref a) X.env.frame) (fun _ s4 => wpAny (model X.prog X.w) X.A (throw (.ref a) : Sem Flow) (SP X pins D) X.xe s4) X.xe { s' with heap := hq } := by
          rw [frm]
          exact HandSPX.setFlight_upZ flq fun h4 hh4 up4 => wpAny_throw (tko _ _ ⟨a, B, sI, pins, σT, HT, cls, d, rfl, JX, nb, (upT.trans upq).trans up4, .inr (.inr (by rw [stk]; exact hh4)), naT, osT, agT, wout⟩)
        first
          | exact wpAny_bind (wpAny_pure (wpAny_bind fin))
          | exact wpAny_bind fin
      | @cons x c ts b₀ suite np pos' hs l nms hsuite hrest ih =>
        intro wl
        obtain ⟨b, hcl, hyes, hno⟩ := wl
        refine wpAny_handleBy_cons (codeAny_handlers_test ?_) (by rintro ⟨⟩)
        have LEx := PySem.W.exm_one (M := model X.prog X.w) Jq.kIn LTy hcl
        have tst : ∀ {Q : Value → Shared → Prop} {E : Value → Shared → Prop}, Q c { s' with heap := hq } → wpAny (model X.prog X.w) (X.A.mark (some (.ref a))) (eval (.Name x np) X.env) Q E { s' with heap := hq } := fun {Q E} q => by
          obtain ⟨g1, g2, g3 | ⟨g3, g4, g5⟩⟩ := nms
          · exact ld_glob (X := X.suite a ((a, oeq) :: (X.pn ++ pins))) Sq g1 g3 q g2
          · exact ld_blt (X := X.suite a ((a, oeq) :: (X.pn ++ pins))) Sq g1 g3 g4 q g5 g2
        refine tst (LEx.here ?_)
        cases b with
        | true =>
          refine codeAny_handlers_suite_as (HandSPX.lands_againZ flq fun hr flr upr => ?_)
          have Jr : Inv X pins σT HT { s' with heap := hr } := JX.landed nb flr.1 ((upT.trans upq).trans upr) osT agT
          obtain ⟨oer, vsr, her, hzr, hdr⟩ := flr.there
          have Sr := Jr.suite her hdr naT nLoc nOut
          refine store_ok (X := X.suite a ((a, oer) :: (X.pn ++ pins))) (v := V.ref a) Sr nd atI locN rfl (fun s5 S5 => ?_) (Or.inr lcl)
          refine wpAny_mono ((hsuite a oer cls d (X.pn ++ pins) hzr ⟨_, hdr⟩).run [] s5 _ HT _ S5 (hyes rfl a naT)) (fun fl s6 out => ?_) (fun _ _ z => z.elim)
          have leave : ∀ {σ6 : L2.St} {H6 : Hp} {Q : Shared → Prop}, Inv (X.suite a ((a, oer) :: (X.pn ++ pins))) [] σ6 H6 s6 → (∀ s7, Inv X pins (σ6.set i none) H6 s7 → Q s7) →
              wpAny (model X.prog X.w) X.A (do bindName X.env n .none; unbindBehindTheSuite X.env n pos') (fun _ s7 => Q s7) X.xe s6 := fun {σ6 H6 Q} S6 hQ => by
            have S7 : Inv X ((a, oer) :: pins) σ6 H6 s6 := ⟨okX, S6.os, S6.bare, S6.base, S6.loc, S6.cell, S6.free, S6.freeC, fun p hp => S6.pin p (by
              rw [List.append_nil]
              rcases List.mem_append.mp hp with z | z
              · exact List.mem_cons_of_mem _ (List.mem_append_left _ z)
              · rcases List.mem_cons.mp z with y | y
                · rw [y]
                  exact List.mem_cons_self
                · exact List.mem_cons_of_mem _ (List.mem_append_right _ y)), S6.hok, S6.len⟩
            exact gone_ok S7 nd atI lcl fun s7 J7 => hQ s7 (dropPin J7)
          cases fl with
          | next =>
            obtain ⟨σ6, H6, S6, q6⟩ := out
            exact leave S6 fun s7 J7 => ⟨_, _, J7, q6⟩
          | brk =>
            obtain ⟨σ6, H6, S6, q6⟩ := out
            exact leave S6 fun s7 J7 => ⟨_, _, J7, q6⟩
          | cont =>
            obtain ⟨σ6, H6, S6, q6⟩ := out
            exact leave S6 fun s7 J7 => ⟨_, _, J7, q6⟩
          | ret u =>
            obtain ⟨v6, σ6, H6, S6, r6, q6⟩ := out
            exact leave S6 fun s7 J7 => ⟨_, _, _, J7, r6, q6⟩
        | false => exact ih (hno rfl)
    exact go _ _ hh wl
  · cases fl with
    | next =>
      obtain ⟨σ1, H1, J1, q1⟩ := done
      exact wpAny_execs_nil ⟨σ1, H1, J1.ofTry okX, q1⟩
    | brk =>
      obtain ⟨σ1, H1, J1, q1⟩ := done
      exact ⟨σ1, H1, J1.ofTry okX, q1⟩
    | cont =>
      obtain ⟨σ1, H1, J1, q1⟩ := done
      exact ⟨σ1, H1, J1.ofTry okX, q1⟩
    | ret u =>
      obtain ⟨v1, σ1, H1, J1, r1, q1⟩ := done
      exact ⟨v1, σ1, H1, J1.ofTry okX, r1, q1⟩
end
end Wx

namespace Wx
open PySem PySem.Spec PyProof.Rows L2 NdefX
/-! a list comprehension from which an exception may leave -/
/-- in the air over the frames l, the frame L at work: sI is the state without it -/
def Aloft (stk : List Env) (L : Addr) (sI : Shared) (H : Hp) (E : XK) (u : Value) (s' : Shared) : Prop :=
  ∃ (a : Addr) (B : Heap) (cls : Value) (d : Option Addr), u = .ref a ∧ (∀ b o, sI.heap.get? b = some o → b ∉ frs stk → B.get? b = some o) ∧ sI.heap.UpToSlots s'.heap ∧
    Sky B stk a (Zc cls d) L s'.heap ∧ H a = none ∧ s'.os = sI.os ∧ AllBare s'.gens ∧ E cls d H
/-- what is let out at the slots σ is taken -/
structure Air (X : Cx) (σ : L2.St) (E : XK) : Prop where
  ex : ∃ (ev : Env) (outer : List Env) (L : Addr), X.stack = ev :: outer ∧ ev.frame = some L ∧ X.env.frame = some L ∧
    ∀ (pins : List (Addr × Obj)) (H : Hp) (sI : Shared) (u : Value) (s' : Shared), Inv X pins σ H sI → Aloft X.stack L sI H E u s' → X.xe u s'
section
variable {X : Cx} {pins : List (Addr × Obj)} {σ : L2.St} {H : Hp} {s s' : Shared} {E : XK} {W : WX}
theorem air_of {σ : L2.St} (tk : Takes X W) (hs : X.stack = X.env :: X.outer) (hf : X.env.frame = some X.env.locals) : Air X σ (WE W σ) :=
  ⟨X.env, X.outer, X.env.locals, hs, hf, hf, fun pins H sI u s' I ⟨a, B, cls, d, e, nb, up, sky, na, os, ag, w⟩ => tk u s' ⟨a, B, sI, pins, σ, H, cls, d, e, I, nb, up, sky, na, os, ag, w⟩⟩
theorem Air.pass (x : Air X σ E) : PassesAt (L2.CX X.prog X.w) X σ E := fun pins H s u s' I c => by
  obtain ⟨ev, outer, L, hs, hf, hg, k⟩ := x.ex
  obtain ⟨a, B, H', cls, d, rfl, fl, hok, ub, na, os, ag, hE⟩ := c
  obtain ⟨G, g1, g2⟩ := restrict s'.heap fun b => (B.get? b).isSome || decide (b ∈ frs X.stack)
  have st : B.StaysIn s'.heap := fl.1
  have gB : ∀ b o, B.get? b = some o → G.get? b = some o := fun b o e => by
    have q : ((B.get? b).isSome || decide (b ∈ frs X.stack)) = true := by rw [e]; rfl
    exact (g1 b q).trans (st b o e)
  have gF : ∀ b, b ∈ frs X.stack → G.get? b = s'.heap.get? b := fun b hb => g1 b (by rw [decide_eq_true hb, Bool.or_true])
  have back : ∀ b o, G.get? b = some o → s'.heap.get? b = some o ∧ ((B.get? b).isSome = true ∨ b ∈ frs X.stack) := fun b o e => by
    by_cases q : ((B.get? b).isSome || decide (b ∈ frs X.stack)) = true
    · rw [g1 b q] at e
      refine ⟨e, ?_⟩
      rcases Bool.or_eq_true_iff.mp q with y | y
      · exact .inl y
      · exact .inr (of_decide_eq_true y)
    · rw [g2 b (Bool.eq_false_iff.mpr q)] at e
      cases e
  have I1 : Inv X pins σ H' { s with heap := G, gens := s'.gens, drawn := s'.drawn, toks := s'.toks } := by
    refine I.call (ch := []) ⟨fun b o e n hb _ => gB b o (ub.keep b o e n hb), fun b o e n hb _ => ?_, fun b o e n _ => ub.free b o e n, fun b o e _ => ?_, ub.tups, ub.frzs, ub.tbls⟩ (hok.kept gB) ag (fun _ z => nomatch z)
    · obtain ⟨sl, q⟩ := ub.slot b o e hb
      exact ⟨sl, (gF b hb).trans q⟩
    · by_cases hb : b ∈ frs X.stack
      · obtain ⟨sl, q⟩ := ub.slot b o e hb
        exact ⟨_, (gF b hb).trans q⟩
      · obtain ⟨o', q⟩ := ub.there b o e hb
        exact ⟨o', gB b o' q⟩
  refine k pins H' _ _ _ I1 ⟨a, B, cls, d, rfl, fun b o e hb => ?_, Heap.UpToSlots.of_keeps fun b o e => (back b o e).1, .inr (.inl fl), na, os, ag, hE⟩
  obtain ⟨e1, e2 | e2⟩ := back b o e
  · obtain ⟨o', q⟩ := Option.isSome_iff_exists.mp e2
    have z := (st b o' q).symm.trans e1
    cases z
    exact q
  · exact absurd e2 hb
end
theorem passNo {X : Cx} (σ : L2.St) : PassesAt (L2.CX X.prog X.w) X σ ((fun _ _ _ _ => False : L2.St → XK) σ) := fun _ _ _ _ _ _ c => by
  obtain ⟨_, _, _, _, _, _, _, _, _, _, _, _, hE⟩ := c
  exact hE.elim
theorem funFrames_step {h h2 B B' : Heap} : ∀ {l : List Env}, h.FunFrames B l → (∀ b, B.get? b = none → B'.get? b = none) → (∀ b o, B.get? b = none → h.get? b = some o → h2.get? b = some o) → h2.FunFrames B' l
  | [], _, _, _ => trivial
  | env :: l, hl, k1, k2 => by
    obtain ⟨hk, ⟨L, o, hf, hn, ho, hd⟩, hr⟩ := hl
    exact ⟨hk, ⟨L, o, hf, k1 _ hn, k2 _ _ hn ho, hd⟩, funFrames_step hr k1 k2⟩
theorem note_same {e : Value} {e1 e2 : Env} (h : e1.frame = e2.frame) : noteFrame e e1 = noteFrame e e2 := by
  unfold noteFrame PySem.frameOf
  rw [h]
section
variable {M : Model} {A : Around} {E : Value → Shared → Prop} {s : Shared} {env : Env}
/-- behind a block: let go of its names; an exception goes on by the block's own environment -/
def postX (M : Model) (A : Around) (E : Value → Shared → Prop) (use : Option (Value → Sem Unit)) (Q : Value → Shared → Prop) (acc : Value) (cenv : Env) (r : Result) (s' : Shared) : Prop :=
  match r, use with
  | .ok _, none => ∃ m, s'.heap.Ns cenv.locals m ∧ ∀ h', Heap.SameBut cenv.locals s'.heap h' → Q acc { s' with heap := h' }
  | .ok _, some u => wpAny M A (u acc) (fun _ s'' => ∃ m, s''.heap.Ns cenv.locals m ∧ ∀ h', Heap.SameBut cenv.locals s''.heap h' → Q .none { s'' with heap := h' }) E s'
  | .error x, _ => ∃ m, s'.heap.Ns cenv.locals m ∧ ∀ h', Heap.SameBut cenv.locals s'.heap h' → wpAny M A (passOn "comprehension.variables-let-go" x cenv : Sem Value) (fun _ _ => False) E { s' with heap := h' }
theorem comprehension_freeX {e : Expr} {scope : Scope} {pos : Pos} {newAcc first : Sem Value} {g : Comprehension} {gs : List Comprehension} {cl : List (Str × Addr)} {use : Option (Value → Sem Unit)}
    {Q : Value → Shared → Prop}
    (hcl : clausesOf e = g :: gs) (hs : ∀ x, foldedSetIterable g.iter env x = pure x) (hclos : closureFor scope env = pure cl)
    (hkind : scope.kind = .function) (hnames : ∀ x ∈ scope.names, x.2 = .local → scope.names.lookup x.1 = some .local)
    (h : wpAny M A first (fun x s₁ => wpAny M A (pyIter x) (fun it s₂ => wpAny M A newAcc (fun acc s₃ =>
      wpAny M A (newFunctionEnv scope env.globals cl [] env.qual none .none (some env)) (fun cenv s₄ =>
        codeAny M A (.compStart e 0 it acc { cenv with scope := relabel scope env }) (postX M A E use Q acc { cenv with scope := relabel scope env }) s₄) E s₃) E s₂) E s₁) E s) :
    wpAny M A (comprehension e scope env pos newAcc false first use) Q E s := by
  unfold comprehension
  rw [hclos, hcl]
  refine wpAny_bind (wpAny_mono h (fun x s₁ h₁ => wpAny_bind (wpAny_standAt (wpAny_bind (wpAny_of_eq (hs x) (wpAny_bind (wpAny_holding (wpAny_mono h₁ (fun it s₂ h₂ =>
    wpAny_standIf (wpAny_bind (wpAny_mono h₂ (fun acc s₃ h₃ => wpAny_bind (wpAny_pure (wpAny_bind (wpAny_mono h₃ (fun cenv s₄ h₄ => ?_) fun _ _ h' => h')))) fun _ _ h' => h')))
      fun _ _ h' => h'))))))) fun _ _ h' => h')
  dsimp only
  have hv : ∀ x ∈ (scope.names.filter fun x => (x.2 == .local || x.2 == .cell) && x.1 != (".0" : Str)).reverse, x.2 = .local →
      Env.kindOf { cenv with scope := relabel scope env } x.1 = some .local := fun x hx hl => lookup_relabel_local (hnames x (List.mem_filter.mp (List.mem_reverse.mp hx)).1 hl)
  have hv' : ∀ x ∈ (scope.names.filter fun x => (x.2 == .local || x.2 == .cell) && x.1 != (".0" : Str)).reverse.drop 1 ++ (scope.names.filter fun x => (x.2 == .local || x.2 == .cell) && x.1 != (".0" : Str)).reverse.take 1,
      x.2 = .local → Env.kindOf { cenv with scope := relabel scope env } x.1 = some .local := fun x hx hl => by
    rcases List.mem_append.mp hx with h1 | h1
    · exact hv x (List.mem_of_mem_drop h1) hl
    · exact hv x (List.mem_of_mem_take h1) hl
  refine wpAny_holding (wpAny_bind (wpAny_attempt (wpAny_holding (wpAny_run (codeAny_mono h₄ fun r s' hr => ?_)))))
  cases r with
  | ok f =>
    cases use with
    | none =>
      obtain ⟨m, hn, hr⟩ := hr
      exact wpAny_bind (wpAny_holding (wpAny_comp_letGo (cenv := { cenv with scope := relabel scope env }) hkind _ s' m hv hn fun h' m' _ hs' => wpAny_pure (hr h' hs')))
    | some u =>
      refine wpAny_bind (wpAny_rule (wpAny_bind (wpAny_holding (wpAny_mono hr (fun _ s'' hr' => ?_) fun _ _ h' => h'))))
      obtain ⟨m, hn, hr'⟩ := hr'
      exact wpAny_bind (wpAny_comp_letGo (cenv := { cenv with scope := relabel scope env }) hkind _ s'' m hv' hn fun h' m' _ hs' => wpAny_pure (hr' h' hs'))
  | error x =>
    have hr' : ∃ m, s'.heap.Ns cenv.locals m ∧ ∀ h', Heap.SameBut cenv.locals s'.heap h' → wpAny M A (passOn "comprehension.variables-let-go" x { cenv with scope := relabel scope env } : Sem Value) (fun _ _ => False) E { s' with heap := h' } := by cases use <;> exact hr
    obtain ⟨m, hn, hr⟩ := hr'
    exact wpAny_bind (wpAny_holding (wpAny_comp_letGo (cenv := { cenv with scope := relabel scope env }) hkind _ s' m hv hn fun h' m' _ hs' => wpAny_mono (hr h' hs') (fun _ _ f => f.elim) fun _ _ y => y))
end
section
variable {X : Cx}
theorem lc_coreX {E : L2.St → XK} {pins : List (Addr × Obj)} {s : Shared} {σ : L2.St} {H : Hp} {Q : VK} {elt tg iter : Expr} {ifs : List Expr} {scope : Scope} {own : List (Str × Nat)} {pos pos' : Pos} {wi : TI} {g : TG} {tt : TT} {te : XK → TE} {Qf : Value → Shared → Prop}
    (hc : X.calm = true) (hN : X.N.Nodup) (I : Inv X pins σ H s) (hi : PI X tg iter wi) (ok : BlkOk X.N X.env.scope scope own)
    (hg : ∀ (s : Shared) (H : Hp) (C : Addr) (cl : List (Str × Addr)) (fp : List Addr), PG (X.blk s H scope (compEnvC scope cl C X.env) fp) tg g) (ht : ∀ (s : Shared) (H : Hp) (C : Addr) (cl : List (Str × Addr)) (fp : List Addr), PTs (X.blk s H scope (compEnvC scope cl C X.env) fp) ifs tt)
    (air : Air X σ (E σ)) (he : ∀ (s : Shared) (H : Hp) (C : Addr) (cl : List (Str × Addr)) (fp : List Addr) (xe : Value → Shared → Prop) (E1 : XK), (∀ σ1, Air ((X.blk s H scope (compEnvC scope cl C X.env) fp).wish xe) σ1 E1) → PE ((X.blk s H scope (compEnvC scope cl C X.env) fp).wish xe) elt (te E1)) (hs : ∀ x, foldedSetIterable iter X.env x = pure x)
    (h : tLc wi g tt (te (E σ)) (own.map (·.2)) σ H Q)
    (hRR : ∀ D C s' m H', Inv X pins σ H' s' → Q (.ref D) H' → s'.heap.Ns C m → FpOk X pins H' C → compPost (model X.prog X.w) X.A X.xe none Qf (.ref D) C (.ok .next) s') :
    wpAny (model X.prog X.w) X.A (comprehension (.ListComp elt [⟨tg, iter, ifs, 0⟩] scope pos) scope X.env pos' (newList []) false (eval iter X.env) none) Qf X.xe s := by
  have hfree : ∀ y ∈ scope.names, y.2 = .free → ∃ c, X.env.cells.lookup y.1 = some c := fun y hy e => by
    rcases ok.free y hy e with k | k
    · exact I.ok.has _ (.inl k)
    · exact I.ok.has _ (.inr k)
  refine comprehension_freeX (use := none) rfl hs (closure_ok hfree) ok.kind (fun y hy e => by rw [ok.uniq y hy, e])
    (thn (hi.run pins s σ H _ I h) fun xv s1 hx => thn hx fun itv s2 h2 => ?_)
  obtain ⟨it, fp, tn, J, H2, e, I2, T, st2, f2, q⟩ := h2
  subst e
  refine wpAny_newObj_type (newEnv_comp ?_) (by show 0 ≤ sizeLine; decide)
  generalize hD : s2.heap.objs.size = D
  have hDn : H2 D = none := I2.hok.fresh (Nat.le_of_eq hD)
  obtain ⟨W, ⟨m0, w0⟩, turn⟩ := q D hDn
  -- the new list
  generalize hs3 : ({ s2 with heap := s2.heap.push { cls := .type "list", data := .seq ([] : List Value).toArray } } : Shared) = s3
  have I3 : Inv X pins σ (upd H2 D (.lst [])) s3 := by
    rw [← hs3]
    refine I2.laid (t' := s2.toks) (fun b o e => Heap.get?_push_of_some _ e) (Nat.le_of_eq hD) ⟨Nat.zero_le _, [], 0, .nil, ?_⟩
    rw [← hD]
    exact Heap.get?_push_size _ rfl
  have h3 : s3.heap = s2.heap.push { cls := .type "list", data := .seq ([] : List Value).toArray } := by rw [← hs3]
  have sz : ∀ b ∈ fp, b < s2.heap.objs.size := fun b hb => by
    obtain ⟨o, e, _⟩ := T.obj _ _ st2 b hb
    exact Heap.lt_size e
  have f3 : ∀ b ∈ fp, FpOk X pins (upd H2 D (.lst [])) b ∧ b < s3.heap.objs.size := fun b hb => by
    have hlt := sz b hb
    refine ⟨⟨?_, (f2 b hb).2⟩, by rw [h3, Heap.size_push]; exact Nat.lt_succ_of_lt hlt⟩
    rw [upd_ne (by rw [← hD]; exact Nat.ne_of_lt hlt)]
    exact (f2 b hb).1
  have st3 : tn 0 s3.heap := T.keep _ _ _ st2 fun b _ o e => by rw [h3]; exact Heap.get?_push_of_some _ e
  have I4 := block_start I3 ok hN f3
  have pg := hg s3 (upd H2 D (.lst [])) s3.heap.objs.size (cellsFrom (s3.heap.objs.size + 1) scope.names (cloFrom X.env.cells scope.names [])) fp
  have pt := ht s3 (upd H2 D (.lst [])) s3.heap.objs.size (cellsFrom (s3.heap.objs.size + 1) scope.names (cloFrom X.env.cells scope.names [])) fp
  have pe := he s3 (upd H2 D (.lst [])) s3.heap.objs.size (cellsFrom (s3.heap.objs.size + 1) scope.names (cloFrom X.env.cells scope.names [])) fp
  have cF : (compEnvC scope (cellsFrom (s3.heap.objs.size + 1) scope.names (cloFrom X.env.cells scope.names [])) s3.heap.objs.size X.env).frame = X.env.frame := rfl
  show codeAny _ _ (.compStart (.ListComp elt [⟨tg, iter, ifs, 0⟩] scope pos) 0 (.ref it) (.ref D) (compEnvC scope (cellsFrom (s3.heap.objs.size + 1) scope.names (cloFrom X.env.cells scope.names [])) s3.heap.objs.size X.env)) (postX (model X.prog X.w) X.A X.xe none Qf (.ref D) (compEnvC scope (cellsFrom (s3.heap.objs.size + 1) scope.names (cloFrom X.env.cells scope.names [])) s3.heap.objs.size X.env)) { s3 with heap := pushCells (s3.heap.push { cls := .type "dict", data := .dict #[] }) scope.names }
  have nfp : ∀ b ∈ fp, (upd H2 D (.lst [])) b = none := fun b hb => (f3 b hb).1.1
  generalize hce : compEnvC scope (cellsFrom (s3.heap.objs.size + 1) scope.names (cloFrom X.env.cells scope.names [])) s3.heap.objs.size X.env = ce at I4 pg pt pe cF ⊢
  have cL : ce.locals = s3.heap.objs.size := by subst hce; rfl
  generalize hH3 : upd H2 D (.lst []) = H3 at I3 I4 pg pt pe w0 nfp f3
  generalize hs4 : ({ s3 with heap := pushCells (s3.heap.push { cls := .type "dict", data := .dict #[] }) scope.names } : Shared) = s4 at I4 ⊢
  have st4 : tn 0 s4.heap := T.keep _ _ _ st3 fun b _ o e => by rw [← hs4]; exact pushCells_keeps _ _ _ _ (Heap.get?_push_of_some _ e)
  have stat : ∀ {σ' : L2.St} {H' : Hp} {s' : Shared}, Inv (X.blk s3 H3 scope ce fp) [] σ' H' s' → (∀ b ∈ fp, H' b = none) → ∀ b ∈ fp, FpOk (X.blk s3 H3 scope ce fp) [] H' b := fun {σ' H' s'} I' hn b hb =>
    ⟨hn b hb, (I'.ok.exf b hb).1, I'.ok.exfs b hb, .inl hb, fun x c e => (I'.ok.exf b hb).2 x c e, fun p hp => absurd (show p ∈ ([] : List (Addr × Obj)) ++ [] from hp) (by simp)⟩
  have loop : codeAny (model X.prog X.w) X.A (.compLoop (.ListComp elt [⟨tg, iter, ifs, 0⟩] scope pos) 0 (.ref it) (.ref D) ce) (postX (model X.prog X.w) X.A X.xe none Qf (.ref D) ce) s4 := by
    refine compLoop_any (fun n s' => ∃ i H', Inv (X.blk s3 H3 scope ce fp) [] (wipe σ (own.map (·.2))) H' s' ∧ tn i s'.heap ∧ (∀ b ∈ fp, H' b = none) ∧ W i n H') ?_ m0 ⟨0, H3, I4, st4, nfp, w0⟩
    rintro n s5 ⟨i, H5, I5, st5, n5, w5⟩
    rcases turn i n H5 w5 with ⟨stop, qq⟩ | ⟨go, Nx, hNx, step⟩
    · have td := T.done (X.blk s3 H3 scope ce fp) rfl rfl rfl hc i [] s5 _ H5 (fun _ _ => False) I5 (stat I5 n5) st5 stop
      refine thnF td fun r s6 ⟨hr, I6⟩ => ?_
      subst hr
      -- back in the def's context
      have I7 : Inv X pins σ H5 s6 := I3.call' (ch := fp) I6.os I6.base I6.hok I6.bare fun b hb => ⟨(f3 b hb).1.2.2.2.1, (f3 b hb).1.2.1, (f3 b hb).1.2.2.2.2.1, (f3 b hb).1.2.2.2.2.2⟩
      have nC : H5 s3.heap.objs.size = none := by
        have z : H5 ce.locals = none := I6.free
        rw [cL] at z
        exact z
      obtain ⟨m, hn, _⟩ := I6.loc
      have hn : s6.heap.Ns ce.locals m := hn
      rw [cL] at hn
      have hR := hRR D s3.heap.objs.size s6 m H5 I7 qq hn (I3.fpOk (Nat.le_refl _) nC)
      rw [← cL] at hR
      exact hR
    · have ti := T.item (X.blk s3 H3 scope ce fp) rfl rfl rfl hc i [] s5 _ H5 (fun _ _ => False) I5 (stat I5 n5) st5 go
      refine thnF ti fun r s6 ⟨u, hr, h6⟩ => ?_
      subst hr
      refine thnF h6 fun _ s7 ⟨x, H7, I7, r7, y7, st7, n7⟩ => ?_
      have I7' := I7.pinned (stat I7 n7) (T.obj _ _ st7)
      refine thnF (pg.run _ s7 _ H7 x u _ I7' r7 (step x H7 y7)) fun _ s8 ⟨σ8, H8, I8, hw8, q8⟩ => ?_
      refine thnF (pt.run _ s8 σ8 H8 _ I8 q8) fun b s9 ⟨H9, I9, q9⟩ => ?_
      -- the turn's end
      have fin : ∀ {s' : Shared} {H' : Hp}, Inv (X.blk s3 H3 scope ce fp) ([] ++ pinsAt fp s7.heap) σ8 H' s' → Nx H' → ∃ m, m < n ∧ ∃ i H', Inv (X.blk s3 H3 scope ce fp) [] (wipe σ (own.map (·.2))) H' s' ∧ tn i s'.heap ∧ (∀ b ∈ fp, H' b = none) ∧ W i m H' := fun {s' H'} I' nx => by
        obtain ⟨m', hm, w'⟩ := hNx H' nx
        have pin' : ∀ b ∈ fp, ∀ o, s7.heap.get? b = some o → s'.heap.get? b = some o ∧ H' b = none := fun b hb o e =>
          let z := I'.pin (b, o) (List.mem_append_right _ (List.mem_append_right _ (mem_pinsAt hb e)))
          ⟨z.1, z.2.1⟩
        have hl : (wipe σ (own.map (·.2))).length = σ8.length := by rw [← hw8, wipe_length]
        refine ⟨m', hm, i + 1, H', (I'.unpinned (pins := [])).weak hl (fun j v e => ?_), T.keep _ _ _ st7 fun b hb o e => (pin' b hb o e).1, fun b hb => ?_, w'⟩
        · rw [← hw8] at e
          exact (wipe_some e).1
        · obtain ⟨o, e, _⟩ := T.obj _ _ st7 b hb
          exact (pin' b hb o e).2
      cases b with
      | false =>
        simp only [Bool.false_eq_true, if_false] at q9 ⊢
        exact fin I9 q9
      | true =>
        simp only [if_true] at q9 ⊢
        obtain ⟨ev, outer, L, hstk, hfr, hXf, kx⟩ := air.ex
        refine wpAny_mono ((pe (fun u s' => ∃ H' sI, Inv X pins σ H' sI ∧ (∃ m, sI.heap.Ns ce.locals m) ∧ H' ce.locals = none ∧ Aloft X.stack L sI H' (E σ) u s') (E σ) (fun σ1 => ⟨ev, outer, L, hstk, hfr, cF.trans hXf, fun pins1 H1 sI u s' I1 al => ?_⟩)).run _ s9 σ8 H9 _ (I9.wish _) q9) (fun z s10 ⟨yv, H10, I10, r10, acc, hD10, hz10, nx⟩ => ?_) (fun u s10 hx => ?_)
        · have I1' := I1.unwish
          obtain ⟨m, hn, _⟩ := I1'.loc
          exact ⟨H1, sI, I3.call' (ch := fp) I1'.os I1'.base I1'.hok I1'.bare fun b hb => ⟨(f3 b hb).1.2.2.2.1, (f3 b hb).1.2.1, (f3 b hb).1.2.2.2.2.1, (f3 b hb).1.2.2.2.2.2⟩, ⟨m, hn⟩, I1'.free, al⟩
        · exact app_ok (X := X.blk s3 H3 scope ce fp) I10.unwish hD10 hz10 r10 fun s11 I11 => fin I11 nx
        · obtain ⟨H', sI, JX, ⟨m, hn⟩, nC, a, B, cls, d, rfl, nb, up, sky, na, os, ag, w⟩ := hx
          have fpC : FpOk X pins H' ce.locals := I3.fpOk (by rw [cL]; exact Nat.le_refl _) nC
          obtain ⟨f0, f1, f2, f3', f4, f5⟩ := fpC
          have frA : X.A.frames = some (ev :: outer) := I3.ok.frames.trans (congrArg some hstk)
          have cNot : ce.locals ∉ frs X.stack := fun hm => by
            rcases List.mem_cons.mp (I3.stkSub _ hm) with z | z
            · exact f1 z
            · exact f2 z
          show wpAny _ X.A (noteFrame (Value.ref a) ce) _ _ _
          rw [note_same (e2 := ev) (by rw [cF, hXf, hfr])]
          -- noted by the frame
          have held : ∀ {Q : Unit → Shared → Prop} {E' : Value → Shared → Prop}, (∀ h1, HandSPX.HeldZ B (ev :: outer) a (Zc cls d) L h1 → s10.heap.UpToSlots h1 → Q () { s10 with heap := h1 }) → wpAny (model X.prog X.w) X.A (noteFrame (.ref a) ev) Q E' s10 := fun {Q E'} k => by
            rw [hstk] at sky
            rcases sky with ⟨hB, hn, hl, oe, vs, he, hz, hd, h1⟩ | fl | hh
            · exact HandSPX.look_newZ Zc.steady frA hl hfr he hB hn hd h1 hz k
            · exact HandSPX.looks_onZ Zc.steady frA hfr fl k
            · exact HandSPX.againZ hfr hh.2.2.2 (k s10.heap hh (Heap.UpToSlots.refl _))
          refine held fun h1 hh1 up1 => ?_
          have upH : sI.heap.UpToSlots h1 := up.trans up1
          refine ⟨m, upH.ns hn, fun h2 sb2 => ?_⟩
          -- the ground without the block's names
          obtain ⟨B', b1, b2⟩ := restrict B fun b => decide (b ≠ ce.locals)
          obtain ⟨G, g1, g2⟩ := restrict sI.heap fun b => decide (b ≠ ce.locals)
          have bB : ∀ b o, B'.get? b = some o → b ≠ ce.locals ∧ B.get? b = some o := fun b o e => by
            by_cases q : b = ce.locals
            · rw [b2 b (by simp [q])] at e
              cases e
            · exact ⟨q, by rw [b1 b (by simp [q])] at e; exact e⟩
          have gG : ∀ b o, G.get? b = some o → b ≠ ce.locals ∧ sI.heap.get? b = some o := fun b o e => by
            by_cases q : b = ce.locals
            · rw [g2 b (by simp [q])] at e
              cases e
            · exact ⟨q, by rw [g1 b (by simp [q])] at e; exact e⟩
          obtain ⟨k1, k2, k3, oe, vs, T1, oT1, ts, he1, hz1, hd1, hv1, hbT, hTa, hT1, hdT, hfl⟩ := hh1
          obtain ⟨oC, es, ep, hoC, hdC, _⟩ := hn
          have BC : B.get? ce.locals = some oC := nb _ _ hoC cNot
          have aC : a ≠ ce.locals := fun z => by rw [z] at k2; rw [k2] at BC; cases BC
          have TC : T1 ≠ ce.locals := fun z => by rw [z] at hbT; rw [hbT] at BC; cases BC
          have sb : ∀ b, b ≠ ce.locals → h2.get? b = h1.get? b := sb2.2
          have B'a : B'.get? a = none := by rw [b1 a (by simp [aC])]; exact k2
          have B'T : B'.get? T1 = none := by rw [b1 T1 (by simp [TC])]; exact hbT
          have fF : h2.FunFrames B' (ev :: outer) := funFrames_step k3 (fun b q => by
              cases z : B'.get? b with
              | none => rfl
              | some o =>
                rw [(bB b o z).2] at q
                cases q) fun b o q e => (sb b (fun z => by rw [z, BC] at q; cases q)).trans e
          have kB : B'.StaysIn h2 := fun b o e => (sb b (bB b o e).1).trans (k1 b o (bB b o e).2)
          have he2 : h2.get? a = some oe := (sb a aC).trans he1
          have hh2 : HandSPX.HeldZ B' (ev :: outer) a (Zc cls d) L h2 := ⟨kB, B'a, fF, oe, vs, T1, oT1, ts, he2, hz1, hd1, hv1, B'T, hTa, (sb T1 TC).trans hT1, hdT, hfl⟩
          unfold PySem.passOn
          refine wpAny_bind (wpAny_field he2 hd1 hv1 ?_)
          rw [if_neg (show ¬ ((Value.ref T1 == Value.none) = true) by simp)]
          have fin2 : wpAny (model X.prog X.w) X.A (setFlight (.ref a) ce.frame) (fun _ s4 => wpAny (model X.prog X.w) X.A (throw (.ref a) : Sem Value) (fun _ _ => False) X.xe s4) X.xe { s10 with heap := h2 } := by
            rw [cF, hXf]
            refine HandSPX.setFlight_onZ hh2 fun h4 hh4 up4 => wpAny_throw ?_
            refine kx pins H' { sI with heap := G } _ _ (JX.turned (t' := sI.toks) (fun b o hb e => (g1 b (by simp [hb])).trans e) f0 f1 f3' f4 f5) ⟨a, B', cls, d, rfl, fun b o e hb => ?_, ?_, ?_, na, os, ag, w⟩
            · obtain ⟨q1, q2⟩ := gG b o e
              exact (b1 b (by simp [q1])).trans (nb b o q2 hb)
            · refine Heap.UpToSlots.trans (fun b o e nf => ?_) up4
              obtain ⟨q1, q2⟩ := gG b o e
              obtain ⟨sl, q3⟩ := upH b o q2 nf
              exact ⟨sl, (sb b q1).trans q3⟩
            · rw [hstk]
              exact .inr (.inr hh4)
          first
            | exact wpAny_bind (wpAny_pure (wpAny_bind fin2))
            | exact wpAny_bind fin2
  exact codeAny_compStart_list loop (T.self X.A 0 _ _ _ st4 loop)
/-- [elt for target in iter if ..]; what elt lets out is let out -/
theorem pe_lcX {E : L2.St → XK} {elt tg iter : Expr} {ifs : List Expr} {scope : Scope} {own : List (Str × Nat)} {pos : Pos} {wi : TI} {g : TG} {tt : TT} {te : XK → TE} (air : ∀ σ, Air X σ (E σ)) (hc : X.calm = true) (hN : X.N.Nodup) (hi : PI X tg iter wi) (ok : BlkOk X.N X.env.scope scope own)
    (hg : ∀ (s : Shared) (H : Hp) (C : Addr) (cl : List (Str × Addr)) (fp : List Addr), PG (X.blk s H scope (compEnvC scope cl C X.env) fp) tg g) (ht : ∀ (s : Shared) (H : Hp) (C : Addr) (cl : List (Str × Addr)) (fp : List Addr), PTs (X.blk s H scope (compEnvC scope cl C X.env) fp) ifs tt)
    (he : ∀ (s : Shared) (H : Hp) (C : Addr) (cl : List (Str × Addr)) (fp : List Addr) (xe : Value → Shared → Prop) (E1 : XK), (∀ σ1, Air ((X.blk s H scope (compEnvC scope cl C X.env) fp).wish xe) σ1 E1) → PE ((X.blk s H scope (compEnvC scope cl C X.env) fp).wish xe) elt (te E1)) (hs : ∀ x, foldedSetIterable iter X.env x = pure x := by intro _; rfl) :
    PE X (.ListComp elt [⟨tg, iter, ifs, 0⟩] scope pos) (fun σ H Q => tLc wi g tt (te (E σ)) (own.map (·.2)) σ H Q) := by
  refine ⟨fun pins s σ H Q I h => ?_⟩
  rw [eval_ListComp]
  refine lc_coreX hc hN I hi ok hg ht (air σ) he hs h fun D C s' m H' I' q hn f => ⟨m, hn, fun h'' sb => ?_⟩
  obtain ⟨f0, f1, f2, f3, f4, f5⟩ := f
  exact ⟨.ref D, H', I'.turned (t' := s'.toks) (fun b o hb e => (sb.2 b hb).trans e) f0 f1 f3 f4 f5, rfl, q⟩
end
end Wx

namespace Wx
open PySem PySem.Spec PyProof.Rows L2 NdefX RZ
/-! walks over a list or a tuple; <= and str by own defs; tuples of ints compared -/
section
variable {X : Cx} {tg : Expr}
def iSeq (K : PySem.W.Frag) (tl : TE) : TI := fun σ H R => tl σ H fun x H1 => ∃ a xs, x = .ref a ∧ ((SqL K H1 a xs ∧ R (Itl K a) H1) ∨ (SqT K H1 a xs ∧ R (Itt K a) H1))
theorem pi_seq {l : Expr} {tl : TE} (hl : PE X l tl) : PI X tg l (iSeq X.K tl) := by
  refine ⟨fun pins s σ H R I h => ?_⟩
  refine thn (hl.run pins s σ H _ I h) fun v s1 ⟨x, H1, I1, r1, q1⟩ => ?_
  obtain ⟨a, xs, e, q⟩ := q1
  subst e
  cases r1
  have fresh : ∀ b ∈ [s1.heap.objs.size], FpOk X pins H1 b := fun b hb => by
    have e : b = s1.heap.objs.size := by simpa using hb
    subst e
    exact I1.fpOk (Nat.le_refl _) (I1.hok.fresh (Nat.le_refl _))
  rcases q with ⟨hq, q⟩ | ⟨hq, q⟩
  · obtain ⟨its, rv, p, hz⟩ := I1.list hq
    refine wpAny_pyIter_list p.isList ?_
    exact ⟨s1.heap.objs.size, [s1.heap.objs.size], _, _, H1, rfl, I1.kept (t' := s1.toks) fun b o e => Heap.get?_push_of_some _ e, turn_list a _, ⟨_, Heap.get?_push_size _ rfl, rfl, rfl⟩, fresh, q⟩
  · obtain ⟨its, rv, p, hz⟩ := I1.tuple hq
    refine wpAny_pyIter_tuple (show s1.heap.IsTuple a its.toArray from p) ?_
    exact ⟨s1.heap.objs.size, [s1.heap.objs.size], _, _, H1, rfl, I1.kept (t' := s1.toks) fun b o e => Heap.get?_push_of_some _ e, turn_tuple a _, ⟨_, Heap.get?_push_size _ rfl, rfl, rfl⟩, fresh, q⟩
end
section
variable {X : Cx} {CX : CXT} {C f : Addr} {n : Nat} {fd : FuncData} {ps : List Str} {sp : Sp} {E : XK}
theorem op_leI (F : FnOk X.prog X.w X.K X.mg X.base CX n f fd ps sp) (hr : Room n X.A) (hs : PySem.W.findIn X.K (.ref C) "__le__" = some (some (.ref f))) (hf : PySem.W.isFn X.K (.ref f) = true) (hb : Binds X.K fd ps []) (hx : Passes CX X E) : OpR X (compareOp .LtE) (rOwnI X.K C sp E id) := by
  intro pins s σ H x y v u Q I rx ry h
  obtain ⟨a, dx, fs, b, dy, gs, rfl, rfl, ha, hb', q⟩ := h
  cases (show v = Value.ref a from rx)
  cases (show u = Value.ref b from ry)
  obtain ⟨mA, J, _⟩ := ins_get I.hok ha
  obtain ⟨mB, J', _⟩ := ins_get I.hok hb'
  obtain ⟨od, J, _⟩ := J.look
  obtain ⟨od', J', _⟩ := J'.look
  obtain ⟨m, hF⟩ := I.fr
  show wpAny (model X.prog X.w) X.A (richCompare .LtE _ _) (EP X pins σ Q) X.xe s
  refine PySem.W.cmp_K (op := .LtE) (tb := .ref C) hr.units0 hF I.ok.mod.kin J J'.type (by simp [PySem.W.notFirst]) hs hf ?_
  refine wpAny_mono (run_two (us := [.ref a, .ref b]) (vs := [.ref a, .ref b]) F hr I.env0 hb hx I (.cons rfl (.cons rfl .nil)) q) (fun w s' z => ?_) fun _ _ x => x
  obtain ⟨z', H', I', rz, k, ez, qz⟩ := z
  subst ez
  cases (show w = Value.bool k from rz)
  exact ⟨.bl k, H', I', rfl, qz⟩
/-- str(x) by the class's own __str__ -/
theorem call_strOwn (F : FnOk X.prog X.w X.K X.mg X.base CX n f fd ps sp) (hr : Room (n + 2) X.A) (hs : PySem.W.findIn X.K (.ref C) "__str__" = some (some (.ref f))) (hf : PySem.W.isFn X.K (.ref f) = true) (hb : Binds X.K fd ps []) (hx : Passes CX X E) :
    CallR X (.type "str") (fun xs H Q => ∃ a dx fs, xs = [.ref a] ∧ H a = some (.ins C dx fs) ∧ sp xs H (fun z H' => ∃ t : Str, z = .str t ∧ Q z H') E) := by
  intro pins s σ H xs us Q I r h
  obtain ⟨a, dx, fs, rfl, ha, q⟩ := h
  obtain ⟨u, rfl, hu⟩ := vals1 r
  cases (show u = Value.ref a from hu)
  obtain ⟨mA, J, _⟩ := ins_get I.hok ha
  obtain ⟨od, J, _⟩ := J.look
  have hr1 : Room (n + 1) X.A.in1 := hr.in1
  have hr2 : Room n X.A.in1.in1 := hr1.in1
  refine PySem.W.kso_call hr2.units0 I.kIn J hs hf ?_
  refine wpAny_mono (run_two (us := [.ref a]) (vs := [.ref a]) F hr2 I.env0.in1.in1 hb hx I (.cons rfl .nil) q) (fun w s' z => ?_) fun _ _ x => x
  obtain ⟨z', H', I', rz, t, ez, qz⟩ := z
  subst ez
  obtain ⟨tk, rfl⟩ := rz
  exact ⟨.str t, H', I', ⟨_, rfl⟩, qz⟩
end
/-! ### data -/
theorem eqvAll_ints : ∀ (xs ys : List Int), PyData.eqvAll (xs.map PyData.int) (ys.map PyData.int) = decide (xs = ys)
  | [], [] => rfl
  | [], y :: ys => rfl
  | x :: xs, [] => rfl
  | x :: xs, y :: ys => by
    show (PyData.eqv (.int x) (.int y) && PyData.eqvAll (xs.map PyData.int) (ys.map PyData.int)) = _
    rw [eqvAll_ints xs ys]
    show ((x == y) && _) = _
    by_cases h : x = y
    · subst h
      by_cases h2 : xs = ys
      · subst h2
        simp
      · simp [h2]
    · have e : (x == y) = false := beq_eq_false_iff_ne.mpr h
      rw [e, Bool.false_and, decide_eq_false (fun q => h (by injection q))]
theorem eqv_intsT (xs ys : List Int) : PyData.eqv (.tuple (xs.map PyData.int)) (.tuple (ys.map PyData.int)) = decide (xs = ys) := eqvAll_ints xs ys
theorem eqv_intsL (xs ys : List Int) : PyData.eqv (.list (xs.map PyData.int)) (.list (ys.map PyData.int)) = decide (xs = ys) := eqvAll_ints xs ys
theorem lay_ints : ∀ xs : List Int, PyData.canLayAll0 (xs.map PyData.int) = true
  | [] => rfl
  | x :: xs => lay_ints xs
theorem depth_ints : ∀ xs : List Int, PyData.depthAll (xs.map PyData.int) ≤ 1
  | [] => by decide
  | x :: xs => by
    have ih := depth_ints xs
    simp only [List.map_cons, PyData.depthAll, PyData.depth]
    omega
theorem shaped_intsT (xs : List Int) : SeqAt.shaped (.tuple (xs.map PyData.int)) = true := by
  have h := depth_ints xs
  show (PyData.canLay0 (.tuple (xs.map PyData.int)) && decide ((PyData.tuple (xs.map PyData.int)).depth ≤ 64)) = true
  rw [Bool.and_eq_true]
  refine ⟨by simp only [PyData.canLay0]; exact lay_ints xs, decide_eq_true ?_⟩
  simp only [PyData.depth]
  omega
theorem shaped_intsL (xs : List Int) : SeqAt.shaped (.list (xs.map PyData.int)) = true := by
  have h := depth_ints xs
  show (PyData.canLay0 (.list (xs.map PyData.int)) && decide ((PyData.list (xs.map PyData.int)).depth ≤ 64)) = true
  rw [Bool.and_eq_true]
  refine ⟨by simp only [PyData.canLay0]; exact lay_ints xs, decide_eq_true ?_⟩
  simp only [PyData.depth]
  omega
theorem dpAll_ints {K : PySem.W.Frag} {H : Hp} : ∀ xs : List Int, DpAll K H (xs.map V.int) (xs.map PyData.int)
  | [] => .nil
  | x :: xs => .cons (.int x) (dpAll_ints xs)
theorem dp_intsT {K : PySem.W.Frag} {H : Hp} {a : Addr} {xs : List Int} (h : SqT K H a (xs.map V.int)) : Dp K H (.ref a) (.tuple (xs.map PyData.int)) := .tup h (dpAll_ints xs)
theorem dp_intsL {K : PySem.W.Frag} {H : Hp} {a : Addr} {xs : List Int} (h : SqL K H a (xs.map V.int)) : Dp K H (.ref a) (.list (xs.map PyData.int)) := .lst h (dpAll_ints xs)
theorem walk_zipT {K : PySem.W.Frag} {a b : Addr} {xs ys : List V} {n : Nat} (hn : n = min xs.length ys.length) : Walk (ItzT K a b) n (fun H => SqT K H a xs ∧ SqT K H b ys) (YPair (fun i => xs[i]?) (fun i => ys[i]?)) := by
  subst hn
  refine ⟨fun i _ hi q => ?_, fun _ q => ⟨xs, ys, q.1, q.2, by omega⟩, fun i H v H' _ q y => ?_⟩
  · have h1 : i < xs.length := by omega
    have h2 : i < ys.length := by omega
    exact ⟨xs, ys, xs[i], ys[i], q.1, q.2, by simp [h1], by simp [h2]⟩
  · obtain ⟨T, x, z, h1, h2, h3, h4, h5⟩ := y
    exact ⟨T, x, z, h1, h2, h3, h4 xs q.1, h5 ys q.2⟩
end Wx

namespace Wx
open PySem PySem.Spec PyProof.Rows L2 NdefX RZ
/-! own operators: an instance and a whole number, two instances of one class -/
theorem back_rel {Q : Value → Shared → Prop} {x : V} {v : Value} {s : Shared} (r : RelV x v) (h : Q v s) : PySem.W.CmpBack Q v s := by
  cases x with
  | non => cases (show v = Value.none from r); exact h
  | bl b => cases (show v = Value.bool b from r); exact h
  | int i => obtain ⟨t, rfl⟩ := r; exact h
  | str z => obtain ⟨t, rfl⟩ := r; exact h
  | byt b => obtain ⟨t, rfl⟩ := r; exact h
  | flt b => obtain ⟨t, rfl⟩ := r; exact h
  | ref a => cases (show v = Value.ref a from r); exact h
  | ty n => cases (show v = Value.type n from r); exact h
/-- what the class at C says of an own operator of the names nm, rn -/
structure OpC (K : PySem.W.Frag) (C f : Addr) (nm rn : Str) : Prop where
  first : PySem.W.selfFirst K C = true
  own : PySem.W.findIn K (.ref C) nm = some (some (.ref f))
  fn : PySem.W.isFn K (.ref f) = true
  back : ∃ rc, PySem.W.findIn K (.ref C) rn = some rc ∧ (rc = none ∨ ∃ g : Addr, rc = some (.ref g))
  i1 : ∃ fo, PySem.W.findIn K (.type "int") nm = some fo
  i2 : ∃ ro, PySem.W.findIn K (.type "int") rn = some ro
  isub : PySem.W.subIn K (.type "int") (.ref C) = some false
def tOwnN (C : Addr) (sp : Sp) (E : L2.St → XK) (ta tb : TE) : TE := fun σ H Q => ta σ H fun x H1 => tb σ H1 fun y H2 => ∃ a dx fs i, x = .ref a ∧ y = .int i ∧ H2 a = some (.ins C dx fs) ∧ sp [x, y] H2 Q (E σ)
def tOwnB (C : Addr) (sp : Sp) (E : L2.St → XK) (ta tb : TE) : TE := fun σ H Q => ta σ H fun x H1 => tb σ H1 fun y H2 => ∃ a dx fs b dy gs, x = .ref a ∧ y = .ref b ∧ H2 a = some (.ins C dx fs) ∧ H2 b = some (.ins C dy gs) ∧ sp [x, y] H2 Q (E σ)
section
variable {X : Cx} {CX : CXT} {C f : Addr} {n : Nat} {fd : FuncData} {ps : List Str} {sp : Sp} {E : L2.St → XK} {op : Operator} {a b : Expr} {ta tb : TE} {pos : Pos} {nm rn : Str}
theorem pe_ownN (F : FnOk X.prog X.w X.K X.mg X.base CX n f fd ps sp) (hr : Room n X.A) (O : OpC X.K C f nm rn) (hb : Binds X.K fd ps []) (hx : ∀ σ, PassesAt CX X σ (E σ)) (en : PySem.dunder op.info.2 = nm) (er : PySem.dunderR op.info.2 = rn) (ha : PE X a ta) (hb' : PE X b tb) : PE X (.BinOp a op b pos) (tOwnN C sp E ta tb) := by
  subst en er
  refine ⟨fun pins s σ H Q I h => ?_⟩
  refine wpAny_BinOp (binT ha hb' I h fun v u s2 x y H2 I2 rx ry q => ?_)
  obtain ⟨p, dx, fs, i, rfl, rfl, hp, q⟩ := q
  cases (show v = Value.ref p from rx)
  obtain ⟨t, rfl⟩ := id ry
  obtain ⟨mA, J, _⟩ := ins_get I2.hok hp
  obtain ⟨od, J, _⟩ := J.look
  obtain ⟨m, hF⟩ := I2.fr
  obtain ⟨rc, e1, e2⟩ := O.back
  obtain ⟨fo, e3⟩ := O.i1
  obtain ⟨ro, e4⟩ := O.i2
  refine PySem.W.ksp_binT (T := "int") hF I2.ok.mod.kin J rfl O.first O.own O.fn e1 e2 e3 e4 O.isub ?_
  exact wpAny_mono (run_fnS (us := [.ref p, .int i t]) (vs := [.ref p, .int i]) F hr hb (hx σ) I2 (.cons rfl (.cons ⟨t, rfl⟩ .nil)) q) (fun w s' z => by
    obtain ⟨z', H', I', rz, qz⟩ := z
    exact back_rel rz ⟨z', H', I', rz, qz⟩) fun _ _ x => x
theorem pe_ownB (F : FnOk X.prog X.w X.K X.mg X.base CX n f fd ps sp) (hr : Room n X.A) (O : OpC X.K C f nm rn) (hb : Binds X.K fd ps []) (hx : ∀ σ, PassesAt CX X σ (E σ)) (en : PySem.dunder op.info.2 = nm) (er : PySem.dunderR op.info.2 = rn) (ha : PE X a ta) (hb' : PE X b tb) : PE X (.BinOp a op b pos) (tOwnB C sp E ta tb) := by
  subst en er
  refine ⟨fun pins s σ H Q I h => ?_⟩
  refine wpAny_BinOp (binT ha hb' I h fun v u s2 x y H2 I2 rx ry q => ?_)
  obtain ⟨p, dx, fs, r, dy, gs, rfl, rfl, hp, hq, q⟩ := q
  cases (show v = Value.ref p from rx)
  cases (show u = Value.ref r from ry)
  obtain ⟨mA, J, _⟩ := ins_get I2.hok hp
  obtain ⟨mB, J', _⟩ := ins_get I2.hok hq
  obtain ⟨od, J, _⟩ := J.look
  obtain ⟨od', J', _⟩ := J'.look
  obtain ⟨m, hF⟩ := I2.fr
  refine PySem.W.binop_K hF I2.ok.mod.kin J J'.type O.first O.own O.fn ?_
  exact wpAny_mono (run_fnS (us := [.ref p, .ref r]) (vs := [.ref p, .ref r]) F hr hb (hx σ) I2 (.cons rfl (.cons rfl .nil)) q) (fun w s' z => by
    obtain ⟨z', H', I', rz, qz⟩ := z
    exact back_rel rz ⟨z', H', I', rz, qz⟩) fun _ _ x => x
end
end Wx

/-! == and != of lists and tuples whose items have an own ==, with either answer -/
namespace GB
open PySem PySem.SeqAt
open AutoSeq1 (wpAny_loadPart')
open MeetsSeq MeetsSeq2 MeetsSeq3 SeqRoads2
open GQ (FinOf call_here)
theorem all_take {e : Nat → Bool} {N i : Nat} (h : ((List.range N).take i).all e = true) (hi : i < N) (t : e i = true) : ((List.range N).take (i + 1)).all e = true := by
  have q : (List.range N).take (i + 1) = (List.range N).take i ++ [i] := by
    rw [List.take_add_one, List.getElem?_range hi]
    rfl
  rw [q, List.all_append, h]
  simp [t]
theorem all_no {e : Nat → Bool} {N i : Nat} (hi : i < N) (t : e i = false) : (List.range N).all e = false := by
  refine Bool.eq_false_iff.mpr fun h => ?_
  have := List.all_eq_true.mp h i (List.mem_range.mpr hi)
  rw [t] at this
  cases this
theorem all_end {e : Nat → Bool} {N i : Nat} (h : ((List.range N).take i).all e = true) (hi : N ≤ i) : (List.range N).all e = true := by
  rw [List.take_of_length_le (by simpa using hi)] at h
  exact h
section
variable {prog : Program} {w : World} {A : Around} {R : Result → Shared → Prop}
def ListB (prog : Program) (w : World) (A : Around) (E : Value → Shared → Prop) (l b : Addr) (N : Nat) (e : Nat → Bool) (I : Shared → Prop) : Prop :=
  ∀ s, I s → ∃ (items items2 : Array Value) (n n2 : Nat), s.heap.get? l = some { cls := .type "list", data := .seq items n } ∧ s.heap.get? b = some { cls := .type "list", data := .seq items2 n2 } ∧ items.size = N ∧ items2.size = N ∧
    ∀ i (h1 : i < items.size) (h2 : i < items2.size), wpAny (model prog w) A.in1 (eqBool items[i] items2[i]) (fun r s' => r = e i ∧ I s') E s

theorem eq_loopB (l b : Addr) (N : Nat) (e : Nat → Bool) (I : Shared → Prop) (hl : ListB prog w A (fun e s' => R (.error e) s') l b N e I)
    (fin : ∀ s, I s → R (.ok (.ret (.bool ((List.range N).all e)))) s) (k : Nat) :
    ∀ i : Nat, N - i = k → i ≤ N → ((List.range N).take i).all e = true → ∀ s, I s →
      wpAny (model prog w) A.in1 (Builtin.«list.__eq__.loop» ⟨[.ref l, .ref b, rawInt i, rawInt 2], []⟩) (FinOf prog w A R) (fun e s' => R (.error e) s') s := by
  induction k with
  | zero =>
    intro i hk hi ha s h
    obtain ⟨items, items2, n, n2, hl1, hb1, hs1, hs2, _⟩ := hl _ h
    have hi' : i = N := by omega
    have hR := fin s h
    rw [all_end ha (by omega)] at hR
    obtain ⟨hp, g, d, tk, os⟩ := s
    wp_walk using wpAny_loadPart' hl1, wpAny_loadPart' hb1
    have hi1 : items[((i : Nat) : Int).toNat]? = none := by simp; omega
    have hi2 : items2[((i : Nat) : Int).toNat]? = none := by simp; omega
    rw [hi1, hi2]
    wp_walk using wpAny_loadPart' hl1, wpAny_loadPart' hb1
    show R (.ok (.ret (.bool (items.size == items2.size)))) _
    rw [hs1, hs2]
    simpa using hR
  | succ k ih =>
    intro i hk hi ha s h
    obtain ⟨items, items2, n, n2, hl1, hb1, hs1, hs2, turn⟩ := hl _ h
    have hlt : i < items.size := by omega
    have hlt2 : i < items2.size := by omega
    have ht := turn i hlt hlt2
    obtain ⟨hp, g, d, tk, os⟩ := s
    wp_walk using wpAny_loadPart' hl1, wpAny_loadPart' hb1
    have hi1 : items[((i : Nat) : Int).toNat]? = some items[i] := by simp [hlt]
    have hi2 : items2[((i : Nat) : Int).toNat]? = some items2[i] := by simp [hlt2]
    have hc : ((i : Int) + 1) = ((i + 1 : Nat) : Int) := by omega
    rw [hi1, hi2]
    refine wpAny_bind (wpAny_mono ht (fun r s2 h2 => ?_) fun _ _ x => x)
    obtain ⟨hr, h2⟩ := h2
    subst hr
    cases hb' : e i with
    | true =>
      have hrec := ih (i + 1) (by omega) (by omega) (all_take ha (by omega) hb') s2 h2
      obtain ⟨hp2, g2, d2, tk2, os2⟩ := s2
      wp_walk
      rw [hc]
      exact ⟨plainId_quiet plain_eq_loop _, codeAny_builtin entry_eq_loop (by
        rw [Around.under_plainId plain_eq_loop _]
        exact hrec)⟩
    | false =>
      obtain ⟨items', items2', n', n2', hl1', hb1', hs1', hs2', _⟩ := hl _ h2
      have hR := fin s2 h2
      rw [all_no (by omega) hb'] at hR
      obtain ⟨hp2, g2, d2, tk2, os2⟩ := s2
      wp_walk using wpAny_loadPart' hl1', wpAny_loadPart' hb1'
      have hi1 : items'[((i : Nat) : Int).toNat]? = some (items'[i]'(by omega)) := by simp [show i < items'.size by omega]
      have hi2 : items2'[((i : Nat) : Int).toNat]? = some (items2'[i]'(by omega)) := by simp [show i < items2'.size by omega]
      rw [hi1, hi2]
      wp_walk
      simpa using hR
theorem list_eqB (l b : Addr) (N : Nat) (e : Nat → Bool) (I : Shared → Prop) (hl : ListB prog w A (fun e s' => R (.error e) s') l b N e I)
    (fin : ∀ s, I s → R (.ok (.ret (.bool ((List.range N).all e)))) s) {s : Shared} (h : I s) :
    wpAny (model prog w) A.in1 (Builtin.«list.__eq__» ⟨[.ref l, .ref b], []⟩) (FinOf prog w A R) (fun e s' => R (.error e) s') s := by
  obtain ⟨items, items2, n, n2, hl1, hb1, hs1, hs2, _⟩ := hl _ h
  have hrec := eq_loopB (A := A) (R := R) l b N e I hl fin _ 0 rfl (Nat.zero_le _) rfl s h
  obtain ⟨hp, g, d, tk, os⟩ := s
  have f3 := AutoSeq1.sub_list_list
  have hne : ¬ (items.size != items2.size) = true := by simp [hs1, hs2]
  wp_walk using wpAny_loadPart' hl1, wpAny_loadPart' hb1
  exact ⟨plainId_quiet plain_eq_loop _, codeAny_builtin entry_eq_loop (by
    rw [Around.under_plainId plain_eq_loop _]
    exact hrec)⟩
theorem list_eqD (l b : Addr) (items items2 : Array Value) (n n2 : Nat) (hc0 : (items.size != items2.size) = true) {s : Shared} (hl1 : s.heap.get? l = some { cls := .type "list", data := .seq items n }) (hb1 : s.heap.get? b = some { cls := .type "list", data := .seq items2 n2 })
    (fin : R (.ok (.ret (.bool false))) s) :
    wpAny (model prog w) A.in1 (Builtin.«list.__eq__» ⟨[.ref l, .ref b], []⟩) (FinOf prog w A R) (fun e s' => R (.error e) s') s := by
  obtain ⟨hp, g, d, tk, os⟩ := s
  have f3 := AutoSeq1.sub_list_list
  wp_walk using wpAny_loadPart' hl1, wpAny_loadPart' hb1
  exact fin
theorem tuple_eqB (l b : Addr) (items items2 : Array Value) (n n2 : Nat) (dd dd2 : Option Addr) (sl sl2 : Array (Option Value)) (e : Nat → Bool) (I : Shared → Prop)
    (turn : ∀ i (h1 : i < items.size) (h2 : i < items2.size) s, I s → wpAny (model prog w) A.in1 (eqBool items[i] items2[i]) (fun r s' => r = e i ∧ I s') (fun e s' => R (.error e) s') s)
    (fin : ∀ s, I s → R (.ok (.ret (.bool ((List.range (min items.size items2.size)).all e && items.size == items2.size)))) s) {s : Shared} (hl1 : s.heap.get? l = some { cls := .type "tuple", dict := dd, data := .seq items n, slots := sl }) (hb1 : s.heap.get? b = some { cls := .type "tuple", dict := dd2, data := .seq items2 n2, slots := sl2 }) (h : I s) :
    wpAny (model prog w) A.in1 (Builtin.«tuple.__eq__» ⟨[.ref l, .ref b], []⟩) (FinOf prog w A R) (fun e s' => R (.error e) s') s := by
  have f2 := AutoSeq1.sub_tuple_tuple
  have hZ : (items.toList.zip items2.toList).length = min items.size items2.size := by simp
  have h0 := h
  obtain ⟨hp, g, d, tk, os⟩ := s
  wp_walk using wpAny_loadPart' hl1, wpAny_loadPart' hb1, wpAny_forIn_list _ (fun rest b s' => b.1 = none ∧ ∃ i, rest = (items.toList.zip items2.toList).drop i ∧ ((List.range (min items.size items2.size)).take i).all e = true ∧ I s') _
  case turn =>
    rintro ⟨y, x⟩ rest b s' ⟨hb', i, hz, ha, hI⟩
    have hlt : i < (items.toList.zip items2.toList).length := by
      rcases Nat.lt_or_ge i (items.toList.zip items2.toList).length with h' | h'
      · exact h'
      · rw [List.drop_of_length_le h'] at hz; cases hz
    have hm : i < min items.size items2.size := hZ ▸ hlt
    have h1 : i < items.size := Nat.lt_of_lt_of_le hm (Nat.min_le_left _ _)
    have h2 : i < items2.size := Nat.lt_of_lt_of_le hm (Nat.min_le_right _ _)
    rw [List.drop_eq_getElem_cons hlt] at hz
    injection hz with hyx hrest
    have hy : y = items[i] := by have := congrArg Prod.fst hyx; simpa using this
    have hx : x = items2[i] := by have := congrArg Prod.snd hyx; simpa using this
    subst hy hx
    refine wpAny_bind (wpAny_mono (turn i h1 h2 s' hI) (fun r s2 q2 => ?_) fun _ _ x => x)
    obtain ⟨hr, q2⟩ := q2
    subst hr
    cases hy : e i with
    | true =>
      wp_walk
      exact ⟨rfl, i + 1, hrest, all_take ha hm hy, q2⟩
    | false =>
      have hR := fin s2 q2
      rw [all_no hm hy] at hR
      wp_walk
      simpa using hR
  case fin =>
    rintro ⟨b1, b2⟩ s' ⟨hb', i, hz, ha, hI⟩
    simp only at hb'
    subst hb'
    have hge : min items.size items2.size ≤ i := by
      rcases Nat.lt_or_ge i (items.toList.zip items2.toList).length with h' | h'
      · rw [List.drop_eq_getElem_cons h'] at hz; cases hz
      · exact hZ ▸ h'
    have hR := fin s' hI
    rw [all_end ha hge] at hR
    wp_walk
    simpa [Builtin.Tuple.tupleCompareSizes, bne] using hR
  case h =>
    exact ⟨rfl, 0, rfl, rfl, h0⟩
section
variable {E : Value → Shared → Prop} {s : Shared}
theorem rc_list_eq {l b : Addr} {N : Nat} {e : Nat → Bool} {Q : Value → Shared → Prop} (hu : A.units < cLine) (I : Shared → Prop) (hl : ListB prog w A E l b N e I)
    (fin : ∀ s, I s → Q (.bool ((List.range N).all e)) s) (h : I s) : wpAny (model prog w) A (richCompare .Eq (.ref l) (.ref b)) Q E s := by
  obtain ⟨items, items2, n, n2, hl1, hb1, _, _, _⟩ := hl _ h
  refine wpAny_richCompare_same_room (op := .Eq) ⟨_, hl1, rfl⟩ ⟨_, hb1, rfl⟩ F.slot_list_eq (call_here F.slot_list_eq ⟨_, hl1, rfl⟩ F.entry_list_eq (F.args_list_eq_2 _ _) ?_) hu
  exact list_eqB (R := wants (fun v s' => v ≠ .notImplemented ∧ Q v s') E) l b N e I hl (fun s' q => ⟨(fun x => nomatch x), fin s' q⟩) h
theorem rc_list_eqD {l b : Addr} {items items2 : Array Value} {n n2 : Nat} {Q : Value → Shared → Prop} (hu : A.units < cLine) (hc0 : (items.size != items2.size) = true) (hl1 : s.heap.get? l = some { cls := .type "list", data := .seq items n }) (hb1 : s.heap.get? b = some { cls := .type "list", data := .seq items2 n2 })
    (fin : Q (.bool false) s) : wpAny (model prog w) A (richCompare .Eq (.ref l) (.ref b)) Q E s := by
  refine wpAny_richCompare_same_room (op := .Eq) ⟨_, hl1, rfl⟩ ⟨_, hb1, rfl⟩ F.slot_list_eq (call_here F.slot_list_eq ⟨_, hl1, rfl⟩ F.entry_list_eq (F.args_list_eq_2 _ _) ?_) hu
  exact list_eqD (R := wants (fun v s' => v ≠ .notImplemented ∧ Q v s') E) l b items items2 n n2 hc0 hl1 hb1 ⟨(fun x => nomatch x), fin⟩
theorem rc_tup_eq {l b : Addr} {items items2 : Array Value} {e : Nat → Bool} {Q : Value → Shared → Prop} (hu : A.units < cLine) (I : Shared → Prop) (hl : s.heap.IsTuple l items) (hb : s.heap.IsTuple b items2)
    (turn : ∀ i (h1 : i < items.size) (h2 : i < items2.size) s, I s → wpAny (model prog w) A.in1 (eqBool items[i] items2[i]) (fun r s' => r = e i ∧ I s') E s)
    (fin : ∀ s, I s → Q (.bool ((List.range (min items.size items2.size)).all e && items.size == items2.size)) s) (h : I s) : wpAny (model prog w) A (richCompare .Eq (.ref l) (.ref b)) Q E s := by
  obtain ⟨⟨cls, dd, data, sl⟩, ho, hc, n, hd⟩ := id hl
  obtain ⟨⟨cls2, dd2, data2, sl2⟩, ho2, hc2, n2, hd2⟩ := id hb
  simp only at hc hd hc2 hd2
  subst hc hd hc2 hd2
  refine wpAny_richCompare_same_room (op := .Eq) ⟨_, ho, rfl⟩ ⟨_, ho2, rfl⟩ F.slot_tuple_eq (call_here F.slot_tuple_eq ⟨_, ho, rfl⟩ F.entry_tuple_eq (F.args_tuple_eq_2 _ _) ?_) hu
  exact tuple_eqB (R := wants (fun v s' => v ≠ .notImplemented ∧ Q v s') E) l b items items2 n n2 dd dd2 sl sl2 e I turn (fun s' q => ⟨(fun x => nomatch x), fin s' q⟩) ho ho2 h
end

theorem ne_loopB (l b : Addr) (N : Nat) (e : Nat → Bool) (I : Shared → Prop) (hl : ListB prog w A (fun e s' => R (.error e) s') l b N e I)
    (fin : ∀ s, I s → R (.ok (.ret (.bool (!(List.range N).all e)))) s) (k : Nat) :
    ∀ i : Nat, N - i = k → i ≤ N → ((List.range N).take i).all e = true → ∀ s, I s →
      wpAny (model prog w) A.in1 (Builtin.«list.__eq__.loop» ⟨[.ref l, .ref b, rawInt i, rawInt 3], []⟩) (FinOf prog w A R) (fun e s' => R (.error e) s') s := by
  induction k with
  | zero =>
    intro i hk hi ha s h
    obtain ⟨items, items2, n, n2, hl1, hb1, hs1, hs2, _⟩ := hl _ h
    have hi' : i = N := by omega
    have hR := fin s h
    rw [all_end ha (by omega)] at hR
    obtain ⟨hp, g, d, tk, os⟩ := s
    wp_walk using wpAny_loadPart' hl1, wpAny_loadPart' hb1
    have hi1 : items[((i : Nat) : Int).toNat]? = none := by simp; omega
    have hi2 : items2[((i : Nat) : Int).toNat]? = none := by simp; omega
    rw [hi1, hi2]
    wp_walk using wpAny_loadPart' hl1, wpAny_loadPart' hb1
    show R (.ok (.ret (.bool (items.size != items2.size)))) _
    rw [hs1, hs2]
    simpa using hR
  | succ k ih =>
    intro i hk hi ha s h
    obtain ⟨items, items2, n, n2, hl1, hb1, hs1, hs2, turn⟩ := hl _ h
    have hlt : i < items.size := by omega
    have hlt2 : i < items2.size := by omega
    have ht := turn i hlt hlt2
    obtain ⟨hp, g, d, tk, os⟩ := s
    wp_walk using wpAny_loadPart' hl1, wpAny_loadPart' hb1
    have hi1 : items[((i : Nat) : Int).toNat]? = some items[i] := by simp [hlt]
    have hi2 : items2[((i : Nat) : Int).toNat]? = some items2[i] := by simp [hlt2]
    have hc : ((i : Int) + 1) = ((i + 1 : Nat) : Int) := by omega
    rw [hi1, hi2]
    refine wpAny_bind (wpAny_mono ht (fun r s2 h2 => ?_) fun _ _ x => x)
    obtain ⟨hr, h2⟩ := h2
    subst hr
    cases hb' : e i with
    | true =>
      have hrec := ih (i + 1) (by omega) (by omega) (all_take ha (by omega) hb') s2 h2
      obtain ⟨hp2, g2, d2, tk2, os2⟩ := s2
      wp_walk
      rw [hc]
      exact ⟨plainId_quiet plain_eq_loop _, codeAny_builtin entry_eq_loop (by
        rw [Around.under_plainId plain_eq_loop _]
        exact hrec)⟩
    | false =>
      obtain ⟨items', items2', n', n2', hl1', hb1', hs1', hs2', _⟩ := hl _ h2
      have hR := fin s2 h2
      rw [all_no (by omega) hb'] at hR
      obtain ⟨hp2, g2, d2, tk2, os2⟩ := s2
      wp_walk using wpAny_loadPart' hl1', wpAny_loadPart' hb1'
      have hi1 : items'[((i : Nat) : Int).toNat]? = some (items'[i]'(by omega)) := by simp [show i < items'.size by omega]
      have hi2 : items2'[((i : Nat) : Int).toNat]? = some (items2'[i]'(by omega)) := by simp [show i < items2'.size by omega]
      rw [hi1, hi2]
      wp_walk
      simpa using hR
theorem list_neB (l b : Addr) (N : Nat) (e : Nat → Bool) (I : Shared → Prop) (hl : ListB prog w A (fun e s' => R (.error e) s') l b N e I)
    (fin : ∀ s, I s → R (.ok (.ret (.bool (!(List.range N).all e)))) s) {s : Shared} (h : I s) :
    wpAny (model prog w) A.in1 (Builtin.«list.__ne__» ⟨[.ref l, .ref b], []⟩) (FinOf prog w A R) (fun e s' => R (.error e) s') s := by
  obtain ⟨items, items2, n, n2, hl1, hb1, hs1, hs2, _⟩ := hl _ h
  have hrec := ne_loopB (A := A) (R := R) l b N e I hl fin _ 0 rfl (Nat.zero_le _) rfl s h
  obtain ⟨hp, g, d, tk, os⟩ := s
  have f3 := AutoSeq1.sub_list_list
  have hne : ¬ (items.size != items2.size) = true := by simp [hs1, hs2]
  wp_walk using wpAny_loadPart' hl1, wpAny_loadPart' hb1
  exact ⟨plainId_quiet plain_eq_loop _, codeAny_builtin entry_eq_loop (by
    rw [Around.under_plainId plain_eq_loop _]
    exact hrec)⟩
theorem list_neD (l b : Addr) (items items2 : Array Value) (n n2 : Nat) (hc0 : (items.size != items2.size) = true) {s : Shared} (hl1 : s.heap.get? l = some { cls := .type "list", data := .seq items n }) (hb1 : s.heap.get? b = some { cls := .type "list", data := .seq items2 n2 })
    (fin : R (.ok (.ret (.bool true))) s) :
    wpAny (model prog w) A.in1 (Builtin.«list.__ne__» ⟨[.ref l, .ref b], []⟩) (FinOf prog w A R) (fun e s' => R (.error e) s') s := by
  obtain ⟨hp, g, d, tk, os⟩ := s
  have f3 := AutoSeq1.sub_list_list
  wp_walk using wpAny_loadPart' hl1, wpAny_loadPart' hb1
  exact fin
theorem tuple_neB (l b : Addr) (items items2 : Array Value) (n n2 : Nat) (dd dd2 : Option Addr) (sl sl2 : Array (Option Value)) (e : Nat → Bool) (I : Shared → Prop)
    (turn : ∀ i (h1 : i < items.size) (h2 : i < items2.size) s, I s → wpAny (model prog w) A.in1 (eqBool items[i] items2[i]) (fun r s' => r = e i ∧ I s') (fun e s' => R (.error e) s') s)
    (fin : ∀ s, I s → R (.ok (.ret (.bool (!((List.range (min items.size items2.size)).all e && items.size == items2.size))))) s) {s : Shared} (hl1 : s.heap.get? l = some { cls := .type "tuple", dict := dd, data := .seq items n, slots := sl }) (hb1 : s.heap.get? b = some { cls := .type "tuple", dict := dd2, data := .seq items2 n2, slots := sl2 }) (h : I s) :
    wpAny (model prog w) A.in1 (Builtin.«tuple.__ne__» ⟨[.ref l, .ref b], []⟩) (FinOf prog w A R) (fun e s' => R (.error e) s') s := by
  have f2 := AutoSeq1.sub_tuple_tuple
  have hZ : (items.toList.zip items2.toList).length = min items.size items2.size := by simp
  have h0 := h
  obtain ⟨hp, g, d, tk, os⟩ := s
  wp_walk using wpAny_loadPart' hl1, wpAny_loadPart' hb1, wpAny_forIn_list _ (fun rest b s' => b.1 = none ∧ ∃ i, rest = (items.toList.zip items2.toList).drop i ∧ ((List.range (min items.size items2.size)).take i).all e = true ∧ I s') _
  case turn =>
    rintro ⟨y, x⟩ rest b s' ⟨hb', i, hz, ha, hI⟩
    have hlt : i < (items.toList.zip items2.toList).length := by
      rcases Nat.lt_or_ge i (items.toList.zip items2.toList).length with h' | h'
      · exact h'
      · rw [List.drop_of_length_le h'] at hz; cases hz
    have hm : i < min items.size items2.size := hZ ▸ hlt
    have h1 : i < items.size := Nat.lt_of_lt_of_le hm (Nat.min_le_left _ _)
    have h2 : i < items2.size := Nat.lt_of_lt_of_le hm (Nat.min_le_right _ _)
    rw [List.drop_eq_getElem_cons hlt] at hz
    injection hz with hyx hrest
    have hy : y = items[i] := by have := congrArg Prod.fst hyx; simpa using this
    have hx : x = items2[i] := by have := congrArg Prod.snd hyx; simpa using this
    subst hy hx
    refine wpAny_bind (wpAny_mono (turn i h1 h2 s' hI) (fun r s2 q2 => ?_) fun _ _ x => x)
    obtain ⟨hr, q2⟩ := q2
    subst hr
    cases hy : e i with
    | true =>
      wp_walk
      exact ⟨rfl, i + 1, hrest, all_take ha hm hy, q2⟩
    | false =>
      have hR := fin s2 q2
      rw [all_no hm hy] at hR
      wp_walk
      simpa using hR
  case fin =>
    rintro ⟨b1, b2⟩ s' ⟨hb', i, hz, ha, hI⟩
    simp only at hb'
    subst hb'
    have hge : min items.size items2.size ≤ i := by
      rcases Nat.lt_or_ge i (items.toList.zip items2.toList).length with h' | h'
      · rw [List.drop_eq_getElem_cons h'] at hz; cases hz
      · exact hZ ▸ h'
    have hR := fin s' hI
    rw [all_end ha hge] at hR
    wp_walk
    simpa [Builtin.Tuple.tupleCompareSizes, bne] using hR
  case h =>
    exact ⟨rfl, 0, rfl, rfl, h0⟩
section
variable {E : Value → Shared → Prop} {s : Shared}
theorem rc_list_ne {l b : Addr} {N : Nat} {e : Nat → Bool} {Q : Value → Shared → Prop} (hu : A.units < cLine) (I : Shared → Prop) (hl : ListB prog w A E l b N e I)
    (fin : ∀ s, I s → Q (.bool (!(List.range N).all e)) s) (h : I s) : wpAny (model prog w) A (richCompare .NotEq (.ref l) (.ref b)) Q E s := by
  obtain ⟨items, items2, n, n2, hl1, hb1, _, _, _⟩ := hl _ h
  refine wpAny_richCompare_same_room (op := .NotEq) ⟨_, hl1, rfl⟩ ⟨_, hb1, rfl⟩ F.slot_list_ne (call_here F.slot_list_ne ⟨_, hl1, rfl⟩ F.entry_list_ne (F.args_list_ne_2 _ _) ?_) hu
  exact list_neB (R := wants (fun v s' => v ≠ .notImplemented ∧ Q v s') E) l b N e I hl (fun s' q => ⟨(fun x => nomatch x), fin s' q⟩) h
theorem rc_list_neD {l b : Addr} {items items2 : Array Value} {n n2 : Nat} {Q : Value → Shared → Prop} (hu : A.units < cLine) (hc0 : (items.size != items2.size) = true) (hl1 : s.heap.get? l = some { cls := .type "list", data := .seq items n }) (hb1 : s.heap.get? b = some { cls := .type "list", data := .seq items2 n2 })
    (fin : Q (.bool true) s) : wpAny (model prog w) A (richCompare .NotEq (.ref l) (.ref b)) Q E s := by
  refine wpAny_richCompare_same_room (op := .NotEq) ⟨_, hl1, rfl⟩ ⟨_, hb1, rfl⟩ F.slot_list_ne (call_here F.slot_list_ne ⟨_, hl1, rfl⟩ F.entry_list_ne (F.args_list_ne_2 _ _) ?_) hu
  exact list_neD (R := wants (fun v s' => v ≠ .notImplemented ∧ Q v s') E) l b items items2 n n2 hc0 hl1 hb1 ⟨(fun x => nomatch x), fin⟩
theorem rc_tup_ne {l b : Addr} {items items2 : Array Value} {e : Nat → Bool} {Q : Value → Shared → Prop} (hu : A.units < cLine) (I : Shared → Prop) (hl : s.heap.IsTuple l items) (hb : s.heap.IsTuple b items2)
    (turn : ∀ i (h1 : i < items.size) (h2 : i < items2.size) s, I s → wpAny (model prog w) A.in1 (eqBool items[i] items2[i]) (fun r s' => r = e i ∧ I s') E s)
    (fin : ∀ s, I s → Q (.bool (!((List.range (min items.size items2.size)).all e && items.size == items2.size))) s) (h : I s) : wpAny (model prog w) A (richCompare .NotEq (.ref l) (.ref b)) Q E s := by
  obtain ⟨⟨cls, dd, data, sl⟩, ho, hc, n, hd⟩ := id hl
  obtain ⟨⟨cls2, dd2, data2, sl2⟩, ho2, hc2, n2, hd2⟩ := id hb
  simp only at hc hd hc2 hd2
  subst hc hd hc2 hd2
  refine wpAny_richCompare_same_room (op := .NotEq) ⟨_, ho, rfl⟩ ⟨_, ho2, rfl⟩ F.slot_tuple_ne (call_here F.slot_tuple_ne ⟨_, ho, rfl⟩ F.entry_tuple_ne (F.args_tuple_ne_2 _ _) ?_) hu
  exact tuple_neB (R := wants (fun v s' => v ≠ .notImplemented ∧ Q v s') E) l b items items2 n n2 dd dd2 sl sl2 e I turn (fun s' q => ⟨(fun x => nomatch x), fin s' q⟩) ho ho2 h
end
end
end GB
namespace Wx
open PySem PySem.Spec PyProof.Rows L2 NdefX RZ
/-! what a value stands for, and == by it -/
abbrev Rep (α : Type) := V → Hp → α → Prop
def RMon {α : Type} (R : Rep α) : Prop := ∀ x H H' a, Ext H H' → R x H a → R x H' a
def RFun {α : Type} (R : Rep α) : Prop := ∀ x H a a', R x H a → R x H a' → a = a'
def Reps {α : Type} (R : Rep α) (H : Hp) : List V → List α → Prop
  | [], [] => True
  | x :: xs, a :: as => R x H a ∧ Reps R H xs as
  | _, _ => False
section
variable {α : Type} {R : Rep α} {H H' : Hp}
theorem Reps.len : ∀ {xs : List V} {as : List α}, Reps R H xs as → xs.length = as.length
  | [], [], _ => rfl
  | _ :: xs, _ :: as, h => by rw [List.length_cons, List.length_cons, Reps.len h.2]
  | [], _ :: _, h => h.elim
  | _ :: _, [], h => h.elim
theorem Reps.mono (hR : RMon R) (e : Ext H H') : ∀ {xs : List V} {as : List α}, Reps R H xs as → Reps R H' xs as
  | [], [], _ => trivial
  | _ :: xs, _ :: as, h => ⟨hR _ _ _ _ e h.1, Reps.mono hR e h.2⟩
  | [], _ :: _, h => h.elim
  | _ :: _, [], h => h.elim
theorem Reps.imp {S : Rep α} (hR : ∀ x a, R x H a → S x H' a) : ∀ {xs : List V} {as : List α}, Reps R H xs as → Reps S H' xs as
  | [], [], _ => trivial
  | _ :: xs, _ :: as, h => ⟨hR _ _ h.1, Reps.imp hR h.2⟩
  | [], _ :: _, h => h.elim
  | _ :: _, [], h => h.elim
theorem Reps.fn (hR : RFun R) : ∀ {xs : List V} {as bs : List α}, Reps R H xs as → Reps R H xs bs → as = bs
  | [], [], [], _, _ => rfl
  | _ :: xs, _ :: as, _ :: bs, h, h' => by rw [hR _ _ _ _ h.1 h'.1, Reps.fn hR h.2 h'.2]
  | [], _ :: _, _, h, _ => h.elim
  | [], _, _ :: _, _, h => h.elim
  | _ :: _, [], _, h, _ => h.elim
  | _ :: _, _, [], _, h => h.elim
theorem Reps.get : ∀ {xs : List V} {as : List α} {i : Nat} {x : V} {a : α}, Reps R H xs as → xs[i]? = some x → as[i]? = some a → R x H a
  | _ :: xs, _ :: as, 0, x, a, h, h1, h2 => by
    have e1 := Option.some.inj h1
    have e2 := Option.some.inj h2
    subst e1 e2
    exact h.1
  | _ :: xs, _ :: as, i + 1, x, a, h, h1, h2 => Reps.get (i := i) h.2 h1 h2
  | [], _, _, _, _, _, h, _ => by simp at h
  | _ :: _, [], _, _, _, h, _, _ => h.elim
theorem Reps.at {xs : List V} {as : List α} {i : Nat} {x : V} (h : Reps R H xs as) (h1 : xs[i]? = some x) : ∃ a, as[i]? = some a ∧ R x H a := by
  have hi : i < as.length := by rw [← h.len]; exact (List.getElem?_eq_some_iff.mp h1).1
  exact ⟨_, List.getElem?_eq_getElem hi, h.get h1 (List.getElem?_eq_getElem hi)⟩
theorem Reps.at' {xs : List V} {as : List α} {i : Nat} {a : α} (h : Reps R H xs as) (h1 : as[i]? = some a) : ∃ x, xs[i]? = some x ∧ R x H a := by
  have hi : i < xs.length := by rw [h.len]; exact (List.getElem?_eq_some_iff.mp h1).1
  exact ⟨_, List.getElem?_eq_getElem hi, h.get (List.getElem?_eq_getElem hi) h1⟩
theorem Reps.app : ∀ {xs ys : List V} {as bs : List α}, Reps R H xs as → Reps R H ys bs → Reps R H (xs ++ ys) (as ++ bs)
  | [], _, [], _, _, h' => h'
  | _ :: xs, _, _ :: as, _, h, h' => ⟨h.1, Reps.app h.2 h'⟩
  | [], _, _ :: _, _, h, _ => h.elim
  | _ :: _, _, [], _, h, _ => h.elim
theorem Reps.one {x : V} {a : α} (h : R x H a) : Reps R H [x] [a] := ⟨h, trivial⟩
theorem Reps.rep {x : V} {a : α} (h : R x H a) : ∀ n, Reps R H (List.replicate n x) (List.replicate n a)
  | 0 => trivial
  | n + 1 => ⟨h, Reps.rep h n⟩
theorem Reps.take : ∀ {xs : List V} {as : List α} (n : Nat), Reps R H xs as → Reps R H (xs.take n) (as.take n)
  | _, _, 0, _ => by rw [List.take_zero, List.take_zero]; trivial
  | [], [], n + 1, _ => trivial
  | _ :: xs, _ :: as, n + 1, h => ⟨h.1, Reps.take n h.2⟩
  | [], _ :: _, _ + 1, h => h.elim
  | _ :: _, [], _ + 1, h => h.elim
theorem Reps.drop : ∀ {xs : List V} {as : List α} (n : Nat), Reps R H xs as → Reps R H (xs.drop n) (as.drop n)
  | _, _, 0, h => h
  | [], [], n + 1, _ => trivial
  | _ :: xs, _ :: as, n + 1, h => Reps.drop n h.2
  | [], _ :: _, _ + 1, h => h.elim
  | _ :: _, [], _ + 1, h => h.elim
theorem Reps.set : ∀ {xs : List V} {as : List α} (i : Nat) {x : V} {a : α}, Reps R H xs as → R x H a → Reps R H (xs.set i x) (as.set i a)
  | [], [], _, _, _, _, _ => trivial
  | _ :: xs, _ :: as, 0, _, _, h, h' => ⟨h', h.2⟩
  | _ :: xs, _ :: as, i + 1, _, _, h, h' => ⟨h.1, Reps.set i h.2 h'⟩
  | [], _ :: _, _, _, _, h, _ => h.elim
  | _ :: _, [], _, _, _, h, _ => h.elim
end
/-- a tuple, a list whose items stand for as -/
def repT {α : Type} (R : Rep α) : Rep (List α) := fun x H as => ∃ p xs, x = .ref p ∧ H p = some (.tup xs) ∧ Reps R H xs as
def repL {α : Type} (R : Rep α) : Rep (List α) := fun x H as => ∃ p xs, x = .ref p ∧ H p = some (.lst xs) ∧ Reps R H xs as
def repI : Rep Int := fun x _ i => x = .int i
section
variable {α : Type} {R : Rep α}
theorem repT_mono (hR : RMon R) : RMon (repT R) := fun x H H' a e h => by
  obtain ⟨p, xs, rfl, h1, h2⟩ := h
  exact ⟨p, xs, rfl, e _ _ h1, h2.mono hR e⟩
theorem repL_mono (hR : RMon R) : RMon (repL R) := fun x H H' a e h => by
  obtain ⟨p, xs, rfl, h1, h2⟩ := h
  exact ⟨p, xs, rfl, e _ _ h1, h2.mono hR e⟩
theorem repT_fn (hR : RFun R) : RFun (repT R) := fun x H a b h h' => by
  obtain ⟨p, xs, rfl, h1, h2⟩ := h
  obtain ⟨q, ys, e, h3, h4⟩ := h'
  cases e
  rw [h1] at h3
  cases h3
  exact h2.fn hR h4
theorem repL_fn (hR : RFun R) : RFun (repL R) := fun x H a b h h' => by
  obtain ⟨p, xs, rfl, h1, h2⟩ := h
  obtain ⟨q, ys, e, h3, h4⟩ := h'
  cases e
  rw [h1] at h3
  cases h3
  exact h2.fn hR h4
theorem repI_mono : RMon repI := fun _ _ _ _ _ h => h
theorem repI_fn : RFun repI := fun x H a b h h' => by rw [h] at h'; injection h'
end
theorem all_eqs {α : Type} [DecidableEq α] [Inhabited α] : ∀ (as bs : List α), ((List.range (min as.length bs.length)).all (fun i => decide (as[i]? = bs[i]?)) && as.length == bs.length) = decide (as = bs) := fun as bs => by
  rw [Bool.eq_iff_iff, Bool.and_eq_true, List.all_eq_true, decide_eq_true_iff, beq_iff_eq]
  constructor
  · rintro ⟨h, hl⟩
    apply List.ext_getElem?
    intro i
    by_cases hi : i < as.length
    · exact of_decide_eq_true (h i (List.mem_range.mpr (by omega)))
    · rw [List.getElem?_eq_none (by omega), List.getElem?_eq_none (by omega)]
  · rintro rfl
    exact ⟨fun i _ => decide_eq_true rfl, rfl⟩
def EqR {α : Type} [DecidableEq α] (X : Cx) (n : Nat) (R : Rep α) : Prop :=
  ∀ (A : Around) (pins : List (Addr × Obj)) (s : Shared) (σ : L2.St) (H : Hp) (x y : V) (u v : Value) (a b : α), Sub X n A → Inv X pins σ H s → RelV x u → RelV y v → R x H a → R y H b →
    wpAny (model X.prog X.w) A (eqBool u v) (fun r s' => r = decide (a = b) ∧ ∃ H', Inv X pins σ H' s' ∧ Ext H H') X.xe s
def RcR {α : Type} [DecidableEq α] (op : CmpOp) (g : Bool → Bool) (X : Cx) (n : Nat) (R : Rep α) : Prop :=
  ∀ (A : Around) (pins : List (Addr × Obj)) (s : Shared) (σ : L2.St) (H : Hp) (x y : V) (u v : Value) (a b : α), Sub X n A → Inv X pins σ H s → RelV x u → RelV y v → R x H a → R y H b →
    wpAny (model X.prog X.w) A (richCompare op u v) (fun r s' => r = .bool (g (decide (a = b))) ∧ ∃ H', Inv X pins σ H' s' ∧ Ext H H') X.xe s
section
variable {α : Type} [DecidableEq α] {R : Rep α} {X : Cx} {n m : Nat}
theorem EqR.mono (h : EqR X n R) (hn : n ≤ m) : EqR X m R := fun A pins s σ H x y u v a b sb => h A pins s σ H x y u v a b (sb.mono hn)
theorem eqR_int : EqR X 0 repI := by
  intro A pins s σ H x y u v a b sb I rx ry h1 h2
  cases h1
  cases h2
  have q := eqAt_V (A := A) (s := s) rx ry rfl rfl
  refine q X.prog X.w X.xe _ ⟨?_, H, I, Ext.rfl'⟩
  show eqV (.int a) (.int b) = decide (a = b)
  first | rfl | simp [eqV]
theorem RcR.eqR (h : RcR .Eq id X n R) (hr : ∀ x H a, R x H a → ∃ p, x = .ref p) (hf : RFun R) : EqR X n R := by
  intro A pins s σ H x y u v a b sb I rx ry h1 h2
  obtain ⟨p, rfl⟩ := hr _ _ _ h1
  obtain ⟨q, rfl⟩ := hr _ _ _ h2
  cases rx
  cases ry
  by_cases hab : p = q
  · subst hab
    have e := hf _ _ _ _ h1 h2
    subst e
    rw [decide_eq_true rfl]
    exact SeqAt.EqAt.same (A := A) (s := s) (.ref p) X.prog X.w X.xe _ ⟨rfl, H, I, Ext.rfl'⟩
  · refine GQ.eqBool_refG hab (wpAny_mono (h A pins s σ H (.ref p) (.ref q) _ _ a b sb I rfl rfl h1 h2) (fun r s' z => ?_) fun _ _ x => x)
    obtain ⟨hr', z⟩ := z
    exact ⟨_, hr', rfl, z⟩
theorem turnR (hM : RMon R) (h : EqR X n R) {A : Around} (sb : Sub X (n + 1) A) {pins : List (Addr × Obj)} {σ : L2.St} {H : Hp} {xs ys : List V} {as bs : List α} {its its2 : List Value} (p : Reps R H xs as) (q : Reps R H ys bs) (r : Vals xs its) (r2 : Vals ys its2)
    (i : Nat) (h1 : i < its.toArray.size) (h2 : i < its2.toArray.size) (s' : Shared) (l : LoopI X pins σ H s') :
    wpAny (model X.prog X.w) A.in1 (eqBool its.toArray[i] its2.toArray[i]) (fun r s2 => r = decide (as[i]? = bs[i]?) ∧ LoopI X pins σ H s2) X.xe s' := by
  obtain ⟨H1, I1, e1⟩ := l
  have g1 : its[i]? = some its.toArray[i] := by
    have h1' : i < its.length := by simpa using h1
    rw [List.getElem?_eq_getElem h1'] <;> simp
  have g2 : its2[i]? = some its2.toArray[i] := by
    have h2' : i < its2.length := by simpa using h2
    rw [List.getElem?_eq_getElem h2'] <;> simp
  have k1 : i < xs.length := by rw [r.length]; simpa using h1
  have k2 : i < ys.length := by rw [r2.length]; simpa using h2
  obtain ⟨u, hu, ru⟩ := r.get (List.getElem?_eq_getElem k1)
  obtain ⟨v, hv, rv⟩ := r2.get (List.getElem?_eq_getElem k2)
  rw [g1] at hu
  rw [g2] at hv
  rw [Option.some.inj hu, Option.some.inj hv]
  obtain ⟨a, ha, ra⟩ := p.at (List.getElem?_eq_getElem k1)
  obtain ⟨b, hb, rb⟩ := q.at (List.getElem?_eq_getElem k2)
  refine wpAny_mono (h A.in1 pins s' σ H1 _ _ u v a b sb.in1 I1 ru rv (hM _ _ _ _ e1 ra) (hM _ _ _ _ e1 rb)) (fun r s2 z => ?_) fun _ _ x => x
  obtain ⟨hr, H2, I2, e2⟩ := z
  refine ⟨?_, H2, I2, e1.trans e2⟩
  rw [hr, ha, hb]
  simp
theorem rc_T {op : CmpOp} {g : Bool → Bool} (hop : (op = .Eq ∧ g = id) ∨ (op = .NotEq ∧ g = not)) [Inhabited α] (hM : RMon R) (h : EqR X n R) : RcR op g X (n + 1) (repT R) := by
  intro A pins s σ H x y u v as bs sb I rx ry h1 h2
  obtain ⟨a, xs, rfl, ha, p⟩ := h1
  obtain ⟨b, ys, rfl, hb, q⟩ := h2
  cases rx
  cases ry
  obtain ⟨its, r, e, z⟩ := I.tuple (SqT.of (K := X.K) ha)
  obtain ⟨its2, r2, e2, z2⟩ := I.tuple (SqT.of (K := X.K) hb)
  have l1 : its.toArray.size = as.length := by rw [List.size_toArray, ← r.length]; exact p.len
  have l2 : its2.toArray.size = bs.length := by rw [List.size_toArray, ← r2.length]; exact q.len
  have ans : ((List.range (min its.toArray.size its2.toArray.size)).all (fun i => decide (as[i]? = bs[i]?)) && its.toArray.size == its2.toArray.size) = decide (as = bs) := by rw [l1, l2]; exact all_eqs as bs
  rcases hop with ⟨rfl, rfl⟩ | ⟨rfl, rfl⟩
  · exact GB.rc_tup_eq (e := fun i => decide (as[i]? = bs[i]?)) sb.room.units0 (fun s' => LoopI X pins σ H s') e e2 (fun i h1 h2 s' l => turnR hM h sb p q r r2 i h1 h2 s' l) (fun s' l => ⟨by rw [ans]; rfl, l⟩) ⟨H, I, Ext.rfl'⟩
  · exact GB.rc_tup_ne (e := fun i => decide (as[i]? = bs[i]?)) sb.room.units0 (fun s' => LoopI X pins σ H s') e e2 (fun i h1 h2 s' l => turnR hM h sb p q r r2 i h1 h2 s' l) (fun s' l => ⟨by rw [ans], l⟩) ⟨H, I, Ext.rfl'⟩
theorem rc_L {op : CmpOp} {g : Bool → Bool} (hop : (op = .Eq ∧ g = id) ∨ (op = .NotEq ∧ g = not)) [Inhabited α] (hM : RMon R) (h : EqR X n R) : RcR op g X (n + 1) (repL R) := by
  intro A pins s σ H x y u v as bs sb I rx ry h1 h2
  obtain ⟨a, xs, rfl, ha, p⟩ := h1
  obtain ⟨b, ys, rfl, hb, q⟩ := h2
  cases rx
  cases ry
  by_cases hl : as.length = bs.length
  · have ans : ((List.range xs.length).all (fun i => decide (as[i]? = bs[i]?))) = decide (as = bs) := by
      rw [← all_eqs as bs, p.len, hl]
      simp
    have LB : GB.ListB X.prog X.w A X.xe a b xs.length (fun i => decide (as[i]? = bs[i]?)) (fun s' => LoopI X pins σ H s') := fun s' l => by
      obtain ⟨H1, I1, e1⟩ := id l
      obtain ⟨z, its, k, r, e⟩ := I1.hok a _ (e1 _ _ ha)
      obtain ⟨z2, its2, k2, r2, e2⟩ := I1.hok b _ (e1 _ _ hb)
      refine ⟨its.toArray, its2.toArray, k, k2, e, e2, by rw [List.size_toArray, ← r.length], by rw [List.size_toArray, ← r2.length, q.len, p.len, hl], fun i h1 h2 => ?_⟩
      exact turnR hM h sb p q r r2 i h1 h2 s' l
    rcases hop with ⟨rfl, rfl⟩ | ⟨rfl, rfl⟩
    · exact GB.rc_list_eq sb.room.units0 _ LB (fun s' l => ⟨by rw [ans]; rfl, l⟩) ⟨H, I, Ext.rfl'⟩
    · exact GB.rc_list_ne sb.room.units0 _ LB (fun s' l => ⟨by rw [ans], l⟩) ⟨H, I, Ext.rfl'⟩
  · obtain ⟨z, its, k, r, e⟩ := I.hok a _ ha
    obtain ⟨z2, its2, k2, r2, e2⟩ := I.hok b _ hb
    have hc : (its.toArray.size != its2.toArray.size) = true := by
      rw [List.size_toArray, List.size_toArray, ← r.length, ← r2.length, p.len, q.len]
      simpa using hl
    have ans : decide (as = bs) = false := decide_eq_false (fun z => hl (by rw [z]))
    rcases hop with ⟨rfl, rfl⟩ | ⟨rfl, rfl⟩
    · exact GB.rc_list_eqD sb.room.units0 hc e e2 ⟨by rw [ans]; rfl, H, I, Ext.rfl'⟩
    · exact GB.rc_list_neD sb.room.units0 hc e e2 ⟨by rw [ans]; rfl, H, I, Ext.rfl'⟩
theorem eqR_T [Inhabited α] (hM : RMon R) (hF : RFun R) (h : EqR X n R) : EqR X (n + 1) (repT R) := (rc_T (.inl ⟨rfl, rfl⟩) hM h).eqR (fun _ _ _ d => let ⟨p, _, hx, _⟩ := d; ⟨p, hx⟩) (repT_fn hF)
theorem eqR_L [Inhabited α] (hM : RMon R) (hF : RFun R) (h : EqR X n R) : EqR X (n + 1) (repL R) := (rc_L (.inl ⟨rfl, rfl⟩) hM h).eqR (fun _ _ _ d => let ⟨p, _, hx, _⟩ := d; ⟨p, hx⟩) (repL_fn hF)
/-- x == y, x != y as expressions -/
def rEqR (R : Rep α) (g : Bool → Bool) : R2 := fun x y H Q => ∃ a b, R x H a ∧ R y H b ∧ ∀ H', Ext H H' → Q (.bl (g (decide (a = b)))) H'
theorem op_eqR {g : Bool → Bool} (h : RcR .Eq g X n R) (hr : Room n X.A) : OpR X (compareOp .Eq) (rEqR R g) := by
  intro pins s σ H x y v u Q I rx ry hq
  obtain ⟨a, b, ra, rb, q⟩ := hq
  show wpAny (model X.prog X.w) X.A (richCompare .Eq v u) (EP X pins σ Q) X.xe s
  refine wpAny_mono (h X.A pins s σ H x y v u a b ⟨hr, rfl⟩ I rx ry ra rb) (fun r s' z => ?_) fun _ _ x => x
  obtain ⟨hr', H', I', e⟩ := z
  subst hr'
  exact ⟨.bl _, H', I', rfl, q H' e⟩
theorem op_neR {g : Bool → Bool} (h : RcR .NotEq g X n R) (hr : Room n X.A) : OpR X (compareOp .NotEq) (rEqR R g) := by
  intro pins s σ H x y v u Q I rx ry hq
  obtain ⟨a, b, ra, rb, q⟩ := hq
  show wpAny (model X.prog X.w) X.A (richCompare .NotEq v u) (EP X pins σ Q) X.xe s
  refine wpAny_mono (h X.A pins s σ H x y v u a b ⟨hr, rfl⟩ I rx ry ra rb) (fun r s' z => ?_) fun _ _ x => x
  obtain ⟨hr', H', I', e⟩ := z
  subst hr'
  exact ⟨.bl _, H', I', rfl, q H' e⟩
/-- an own class: its __eq__ answers by what the instances stand for -/
theorem rcR_ins {CX : CXT} {C f : Addr} {fd : FuncData} {ps : List Str} {sp : Sp} {E : XK} (F : FnOk X.prog X.w X.K X.mg X.base CX n f fd ps sp)
    (hs : PySem.W.findIn X.K (.ref C) "__eq__" = some (some (.ref f))) (hf : PySem.W.isFn X.K (.ref f) = true) (hb : Binds X.K fd ps []) (hx : Passes CX X E)
    (hi : ∀ x H a, R x H a → ∃ p dx fs, x = .ref p ∧ H p = some (.ins C dx fs))
    (hsp : ∀ p q H a b (Q : VK), R (.ref p) H a → R (.ref q) H b → (∀ H', Ext H H' → Q (.bl (decide (a = b))) H') → sp [.ref p, .ref q] H Q E) : RcR .Eq id X n R := by
  intro A pins s σ H x y u v a b sb I rx ry h1 h2
  obtain ⟨p, dx, fs, rfl, ha⟩ := hi _ _ _ h1
  obtain ⟨q, dy, gs, rfl, hb'⟩ := hi _ _ _ h2
  cases rx
  cases ry
  obtain ⟨mA, J, _⟩ := ins_get I.hok ha
  obtain ⟨mB, J', _⟩ := ins_get I.hok hb'
  obtain ⟨od, J, _⟩ := J.look
  obtain ⟨od', J', _⟩ := J'.look
  obtain ⟨m, hF⟩ := I.fr
  refine PySem.W.cmp_K (op := .Eq) (tb := .ref C) sb.room.units0 hF I.ok.mod.kin J J'.type (by simp [PySem.W.notFirst]) hs hf ?_
  have h := hsp p q H a b (fun v H' => v = .bl (decide (a = b)) ∧ Ext H H') h1 h2 (fun H' e => ⟨rfl, e⟩)
  have e0 : Env0 X.prog X.w X.K X.mg X.base A X.stack s H := by
    have e := I.env0
    exact ⟨by rw [sb.fr]; exact e.frames, e.mod, e.bs, e.bsz, e.funs, e.frf, e.hok, e.bare⟩
  have hl := F.len _ _ _ _ h
  have r2 : Vals [V.ref p, V.ref q] [Value.ref p, Value.ref q] := .cons rfl (.cons rfl .nil)
  refine wpAny_call (codeAny_mono (F.run A X.stack s H ⟨[.ref p, .ref q], []⟩ [.ref p, .ref q] [.ref p, .ref q] _ E sb.room e0 (by
    have := hb s [.ref p, .ref q] I.kIn (by simpa using hl)
    simpa using this) r2 h) fun r s' hq => ?_)
  cases r with
  | error e => exact hx pins σ H s e s' I hq
  | ok fl =>
    cases fl with
    | ret w =>
      obtain ⟨z, H', I', rz, ez, ex⟩ := I.after hq
      subst ez
      cases rz
      exact ⟨rfl, H', I', ex⟩
    | next => exact False.elim hq
    | brk => exact False.elim hq
    | cont => exact False.elim hq
theorem eqR_ins {CX : CXT} {C f : Addr} {fd : FuncData} {ps : List Str} {sp : Sp} {E : XK} (F : FnOk X.prog X.w X.K X.mg X.base CX n f fd ps sp)
    (hs : PySem.W.findIn X.K (.ref C) "__eq__" = some (some (.ref f))) (hf : PySem.W.isFn X.K (.ref f) = true) (hb : Binds X.K fd ps []) (hx : Passes CX X E)
    (hi : ∀ x H a, R x H a → ∃ p dx fs, x = .ref p ∧ H p = some (.ins C dx fs))
    (hsp : ∀ p q H a b (Q : VK), R (.ref p) H a → R (.ref q) H b → (∀ H', Ext H H' → Q (.bl (decide (a = b))) H') → sp [.ref p, .ref q] H Q E) (hF : RFun R) : EqR X n R :=
  (rcR_ins F hs hf hb hx hi hsp).eqR (fun x H a h => let ⟨p, _, _, e, _⟩ := hi x H a h; ⟨p, e⟩) hF
end
end Wx

namespace Wx
open PySem PySem.Spec PyProof.Rows L2 NdefX RZ StX
/-! own [..] and len, a class made of a starred list, defs with a starred parameter that may raise -/
abbrev rTupOf (K : PySem.W.Frag) : List V → Hp → VK → Prop := fun xs H Q => ∃ p ys, xs = [.ref p] ∧ ((SqL K H p ys ∧ ∀ l, H l = none → Q (.ref l) (upd H l (.tup ys))) ∨ (SqT K H p ys ∧ Q (.ref p) H))
section
variable {X : Cx}
def rIxA (K : PySem.W.Frag) : R2 := fun x y H Q => ∃ p xs i v, x = .ref p ∧ y = .int i ∧ (SqL K H p xs ∨ SqT K H p xs) ∧ atI xs i = some v ∧ Q v H
theorem ix_lortu : IxR X (rIxA X.K) := by
  intro value slice pins s σ H x y v u Q I rx ry h hs
  obtain ⟨p, xs, i, z, hx, hy, hq, he, q⟩ := h
  rcases hq with hq | hq
  · exact ix_list value slice pins s σ H x y v u Q I rx ry ⟨p, xs, i, z, hx, hy, hq, he, q⟩ hs
  · exact ix_tup value slice pins s σ H x y v u Q I rx ry ⟨p, xs, i, z, hx, hy, hq, he, q⟩ hs
end
section
variable {X : Cx} {CX : CXT} {C f : Addr} {n k : Nat} {fd : FuncData} {ps : List Str} {sp : Sp} {E : L2.St → XK} {a b e : Expr} {es : List Expr} {ta tb te : TE} {t : TA} {x : Str} {pos p sp_ : Pos}
/-- a call in a deeper place, what is raised told at the slots -/
theorem run_inS {A : Around} {pins : List (Addr × Obj)} {σ : L2.St} {H : Hp} {s : Shared} {us : List Value} {vs : List V} {Q : VK} {E : XK} (F : FnOk X.prog X.w X.K X.mg X.base CX n f fd ps sp) (hr : Room n A) (e0 : Env0 X.prog X.w X.K X.mg X.base A X.stack s H) (hb : Binds X.K fd ps []) (hx : PassesAt CX X σ E)
    (I : Inv X pins σ H s) (r : Vals vs us) (h : sp vs H Q E) : wpAny (model X.prog X.w) A (call (.ref f) us) (EP X pins σ Q) X.xe s := by
  have hl : us.length = ps.length := by rw [← r.length]; exact F.len _ _ _ _ h
  refine wpAny_call (codeAny_mono (F.run A X.stack s H ⟨us, []⟩ us vs Q E hr e0 (by
    have := hb s us I.kIn (by simpa using hl)
    simpa using this) r h) fun r s' hq => ?_)
  cases r with
  | error e => exact hx pins H s e s' I hq
  | ok fl =>
    cases fl with
    | ret w => exact I.after hq
    | next => exact False.elim hq
    | brk => exact False.elim hq
    | cont => exact False.elim hq
theorem run_inR {A : Around} {pins : List (Addr × Obj)} {σ : L2.St} {H : Hp} {s : Shared} {us : List Value} {vs : List V} {Q : VK} {E : XK} (F : FnR X.prog X.w X.K X.mg X.base CX n f sp) (hr : Room n A) (e0 : Env0 X.prog X.w X.K X.mg X.base A X.stack s H) (hx : PassesAt CX X σ E)
    (I : Inv X pins σ H s) (r : Vals vs us) (h : sp vs H Q E) : codeAny (model X.prog X.w) A (.call (.ref f) ⟨us, []⟩) (fun r s' => match r with | .ok (.ret v) => EP X pins σ Q v s' | .ok _ => False | .error e => X.xe e s') s := by
  refine codeAny_mono (F A X.stack s H us vs Q E hr e0 r h) fun r s' hq => ?_
  cases r with
  | error e => exact hx pins H s e s' I hq
  | ok fl =>
    cases fl with
    | ret w => exact I.after hq
    | next => exact False.elim hq
    | brk => exact False.elim hq
    | cont => exact False.elim hq
def tIxOwn (C : Addr) (sp : Sp) (E : L2.St → XK) (ta tb : TE) : TE := fun σ H Q => ta σ H fun x H1 => tb σ H1 fun y H2 => ∃ a dx fs, x = .ref a ∧ H2 a = some (.ins C dx fs) ∧ sp [x, y] H2 Q (E σ)
/-- x[i] by an own __getitem__ -/
theorem pe_ixOwn (F : FnOk X.prog X.w X.K X.mg X.base CX n f fd ps sp) (hr : Room (n + 1) X.A) (hs : PySem.W.findIn X.K (.ref C) "__getitem__" = some (some (.ref f))) (hf : PySem.W.fnIn X.K f = true) (hfn : PySem.W.isFn X.K (.ref f) = true) (hb : Binds X.K fd ps []) (hx : ∀ σ, PassesAt CX X σ (E σ))
    (ha : PE X a ta) (hb' : PE X b tb) (hsl : ∀ v i, subscripted b true v i = runValue (.builtin "lifetime.subscript" ⟨[v, i], []⟩) := by intro _ _; with_unfolding_all rfl) : PE X (.Subscript a b pos) (tIxOwn C sp E ta tb) := by
  refine ⟨fun pins s σ H Q I h => ?_⟩
  refine Subscript_ (binT ha hb' I h fun v u s2 x y H2 I2 rx ry q => ?_)
  obtain ⟨p, dx, fs, rfl, hp, q⟩ := q
  cases (show v = Value.ref p from rx)
  obtain ⟨mA, J, _⟩ := ins_get I2.hok hp
  obtain ⟨od, J, _⟩ := J.look
  obtain ⟨m, hF⟩ := I2.fr
  refine PySem.W.sub_K hF I2.ok.mod.kin J hs hf hfn ?_ (hsl _ _)
  exact run_inS (us := [.ref p, u]) (vs := [.ref p, y]) F hr.in1 I2.env0.in1 hb (hx σ) I2 (.cons rfl (.cons ry .nil)) q
/-- len(x) by an own __len__ -/
theorem call_lenOwn {E : XK} (F : FnOk X.prog X.w X.K X.mg X.base CX n f fd ps sp) (hr : Room (n + 1) X.A) (hs : PySem.W.findIn X.K (.ref C) "__len__" = some (some (.ref f))) (hfn : PySem.W.isFn X.K (.ref f) = true) (hb : Binds X.K fd ps []) (hx : Passes CX X E) :
    CallR X (.builtin "len") (fun xs H Q => ∃ a dx fs, xs = [.ref a] ∧ H a = some (.ins C dx fs) ∧ sp xs H (fun z H' => ∃ n : Nat, z = .int n ∧ n ≤ 1000000 ∧ Q (.int n) H') E) := by
  intro pins s σ H xs us Q I r h
  obtain ⟨p, dx, fs, rfl, hp, q⟩ := h
  obtain ⟨u, rfl, rx⟩ := vals1 r
  cases (show u = Value.ref p from rx)
  obtain ⟨mA, J, _⟩ := ins_get I.hok hp
  obtain ⟨od, J, _⟩ := J.look
  obtain ⟨m, hF⟩ := I.fr
  refine PySem.W.len_K hF I.ok.mod.kin J hs hfn ?_
  refine wpAny_mono (run_inS (us := [.ref p]) (vs := [.ref p]) F hr.in1 I.env0.in1 hb (fun pins H s e s' I c => hx pins σ H s e s' I c) I (.cons rfl .nil) q) (fun w s' z => ?_) fun _ _ x => x
  obtain ⟨z', H', I', rz, k, ez, hk, qz⟩ := z
  subst ez
  obtain ⟨t, rfl⟩ := rz
  exact ⟨⟨by omega, by omega⟩, .int k, H', I'.tok _, ⟨_, rfl⟩, qz⟩
/-- the spec of a def with a starred last parameter, as it is called -/
def spStar (m : Nat) (sp : Sp) : Sp := fun vs H Q E => ∃ ws rest, vs = ws ++ rest ∧ ws.length = m ∧ rest.length ≤ sizeLine ∧ ∀ p, H p = Option.none → sp (ws ++ [V.ref p]) (upd H p (.tup rest)) Q E
theorem star1 {sp : Sp} {a : V} {rest : List V} {H : Hp} {Q : VK} {E : XK} (hl : rest.length ≤ sizeLine) (h : ∀ p, H p = Option.none → sp [a, .ref p] (upd H p (.tup rest)) Q E) : spStar 1 sp (a :: rest) H Q E := ⟨[a], rest, rfl, rfl, hl, h⟩
def tMakeRS (C : Addr) (sp : Sp) (E : L2.St → XK) (t : TA) : TE := fun σ H Q => t σ H fun vs H1 => ∀ x dx, H1 x = Option.none → H1 dx = Option.none → dx ≠ x →
  sp (V.ref x :: vs) (upd (upd H1 dx (.own x)) x (.ins C dx [])) (fun v H2 => v = .non ∧ Q (.ref x) H2) (E σ)
theorem run_makeRS {pins : List (Addr × Obj)} {σ : L2.St} {H : Hp} {s : Shared} {Q : VK} {us : List Value} {vs : List V} {E : XK} (M : Mk X.K C f) (F : FnR X.prog X.w X.K X.mg X.base CX k f sp) (hr : Room (k + 1) X.A) (hx : PassesAt CX X σ E) (I : Inv X pins σ H s) (r : Vals vs us)
    (h : ∀ x dx, H x = Option.none → H dx = Option.none → dx ≠ x → sp (V.ref x :: vs) (upd (upd H dx (.own x)) x (.ins C dx [])) (fun v H2 => v = .non ∧ Q (.ref x) H2) E) :
    wpAny (model X.prog X.w) X.A (call (.ref C) us) (EP X pins σ Q) X.xe s := by
  have hq := h (s.heap.objs.size + 1) s.heap.objs.size (I.hok.fresh (Nat.le_succ _)) (I.hok.fresh (Nat.le_refl _)) (Nat.ne_of_lt (Nat.lt_succ_self _))
  have I2 := Inv.made (C := C) I
  have r2 : Vals (V.ref (s.heap.objs.size + 1) :: vs) (Value.ref (s.heap.objs.size + 1) :: us) := .cons rfl r
  refine wpAny_call (make_map (f := f) I.kIn M.makes M.init (beq_iff_eq.mp M.fn) (codeAny_mono (F _ X.stack _ _ (Value.ref (s.heap.objs.size + 1) :: us) _ _ E (hr.make C us []) (I2.env0.make C us []) r2 hq) fun r s' hq' => ?_))
  cases r with
  | error e => exact hx pins _ _ e s' I2 hq'
  | ok fl =>
    cases fl with
    | ret u =>
      obtain ⟨v, H', I3, rv, ev, q3⟩ := I2.after hq'
      subst ev
      exact ⟨rv, ⟨V.ref (s.heap.objs.size + 1), H', I3, rfl, q3⟩⟩
    | next => exact False.elim hq'
    | brk => exact False.elim hq'
    | cont => exact False.elim hq'
/-- C(e, ..) -/
theorem pe_makeRS (M : Mk X.K C f) (F : FnR X.prog X.w X.K X.mg X.base CX k f sp) (hr : Room (k + 1) X.A) (hg : Gl X x) (hm : X.mg x = some (.ref C)) (hx : ∀ σ, PassesAt CX X σ (E σ)) (ha : PA X (e :: es) t) (hdb : (x == ("__debug__" : Str)) = false := by decide)
    (he : starEach (e :: es) X.env = (false, eval e X.env) :: starEach es X.env := by rfl) (hpl : (backTo pos (starEach es X.env)).any (·.1) = false := by rfl) : PE X (.Call (.Name x p) (e :: es) [] pos) (tMakeRS C sp E t) := by
  refine ⟨fun pins s σ H Q I h => ?_⟩
  refine wpAny_Call_Name_kw (ld_glob I hg hm ?_ hdb)
  refine PySem.W.callWith_K (h₀ := X.base) I.ok.mod.kin M.kp (thn (ha.run pos pins s σ H _ I h) fun us s1 ⟨vs, H1, I1, r, q⟩ => ⟨I1.kIn, ?_⟩) he hpl
  exact run_makeRS M F hr (hx σ) I1 r q
/-- C() -/
theorem pe_makeRS0 (M : Mk X.K C f) (F : FnR X.prog X.w X.K X.mg X.base CX k f sp) (hr : Room (k + 1) X.A) (hg : Gl X x) (hm : X.mg x = some (.ref C)) (hx : ∀ σ, PassesAt CX X σ (E σ)) (hdb : (x == ("__debug__" : Str)) = false := by decide) :
    PE X (.Call (.Name x p) [] [] pos) (tMakeRS C sp E (fun _ H Q => Q [] H)) := by
  refine ⟨fun pins s σ H Q I h => ?_⟩
  refine wpAny_Call_Name_kw (ld_glob I hg hm ?_ hdb)
  refine PySem.W.callWith_K0 I.kIn M.kp ?_
  exact run_makeRS (us := []) M F hr (hx σ) I .nil h
/-- C(*y) -/
def tMakeStar (K : PySem.W.Frag) (C : Addr) (sp : Sp) (E : L2.St → XK) (te : TE) : TE := fun σ H Q => te σ H fun y H1 => ∃ a xs, y = V.ref a ∧ (SqT K H1 a xs ∨ SqL K H1 a xs) ∧ ∀ x dx, H1 x = Option.none → H1 dx = Option.none → dx ≠ x →
  sp (V.ref x :: xs) (upd (upd H1 dx (.own x)) x (.ins C dx [])) (fun v H2 => v = .non ∧ Q (.ref x) H2) (E σ)
theorem pe_makeStar (M : Mk X.K C f) (F : FnR X.prog X.w X.K X.mg X.base CX k f sp) (hr : Room (k + 1) X.A) (hg : Gl X x) (hm : X.mg x = some (.ref C)) (hx : ∀ σ, PassesAt CX X σ (E σ)) (he : PE X e te) (hdb : (x == ("__debug__" : Str)) = false := by decide)
    (hst : starEach [.Starred e sp_] X.env = [(true, eval e X.env)] := by rfl) : PE X (.Call (.Name x p) [.Starred e sp_] [] pos) (tMakeStar X.K C sp E te) := by
  refine ⟨fun pins s σ H Q I h => ?_⟩
  refine wpAny_Call_Name_kw (ld_glob I hg hm ?_ hdb)
  refine PySem.W.callWith_S (h₀ := X.base) I.ok.mod.kin M.kp (thn (he.run pins s σ H _ I h) fun v s1 ⟨y, H1, I1, ry, a, xs, ey, hxs, q⟩ => ?_) hst
  subst ey
  obtain rfl : v = Value.ref a := ry
  exact star_any I1 hxs fun us s2 I2 rv => ⟨I2.kIn, run_makeRS M F hr (hx σ) I2 rv q⟩
end
section
variable {P : Program} {w : World} {K : PySem.W.Frag} {mg : Str → Option Value} {base : Heap}
/-- a def whose last parameter is starred -/
theorem okStar {x qual : Str} {st : Stmt} {f : Addr} {fd : FuncData} {N ps : List Str} {pv : Str} {k : Nat} {sp : Sp} (F : L2.Fun K x qual st f fd) (S : FnScope N (ps ++ [pv]) (defScope st))
    (hb : ∀ (kV doc pm : Value) (an : Option Addr) (cdv ct : Value) (us rest : List Value), us.length = ps.length → bindArgs (PySem.W.fnOf x qual (defArgs st) (defBody st) (defScope st) .none kV doc pm an cdv ct) ⟨us ++ rest, []⟩ = (newTuple rest >>= fun t => pure (ps.zip us ++ [(pv, t)])))
    (hbody : ∀ (cdv : Value) (A : Around) (outer : List Env) (s : Shared) (H : Hp) (vs : List V) (Q : VK) (E : XK), Room k (A.deeper (envOfC qual (defScope st) s.heap.objs.size f cdv)) → sp vs H Q E →
      ∃ t, PSs (cxOf (L2.CX P w) P w K mg base N qual (defScope st) f cdv A outer s H E) (defBody st) t ∧ t { nx := fun _ H' => Q .non H', rt := Q } (start N vs) H) : FnR P w K mg base (L2.CX P w) (k + 1) f (spStar ps.length sp) := by
  obtain ⟨oc, od, kV, doc, pm, an, cdv, ct, osl, rfl, lk, hcd⟩ := F.ex
  exact fn_star lk hcd S cxUp (hb kV doc pm an cdv ct) fun A outer s H vs Q E hr hsp => hbody cdv A outer s H vs Q E hr hsp
end
end Wx

namespace Wx
open PySem PySem.Spec PyProof.Rows L2 NdefX RZ StX
section
variable {X : Cx}
theorem lc_coreU {E : L2.St → XK} {pins : List (Addr × Obj)} {s : Shared} {σ : L2.St} {H : Hp} {Q : VK} {elt tg iter : Expr} {ifs : List Expr} {scope : Scope} {own : List (Str × Nat)} {pos pos' : Pos} {wi : TI} {g : TG} {tt : TT} {te : XK → TE} {Qf : Value → Shared → Prop} {us_ : Value → Sem Unit}
    (hc : X.calm = true) (hN : X.N.Nodup) (I : Inv X pins σ H s) (hi : PI X tg iter wi) (ok : BlkOk X.N X.env.scope scope own)
    (hg : ∀ (s : Shared) (H : Hp) (C : Addr) (cl : List (Str × Addr)) (fp : List Addr), PG (X.blk s H scope (compEnvC scope cl C X.env) fp) tg g) (ht : ∀ (s : Shared) (H : Hp) (C : Addr) (cl : List (Str × Addr)) (fp : List Addr), PTs (X.blk s H scope (compEnvC scope cl C X.env) fp) ifs tt)
    (air : Air X σ (E σ)) (he : ∀ (s : Shared) (H : Hp) (C : Addr) (cl : List (Str × Addr)) (fp : List Addr) (xe : Value → Shared → Prop) (E1 : XK), (∀ σ1, Air ((X.blk s H scope (compEnvC scope cl C X.env) fp).wish xe) σ1 E1) → PE ((X.blk s H scope (compEnvC scope cl C X.env) fp).wish xe) elt (te E1)) (hs : ∀ x, foldedSetIterable iter X.env x = pure x)
    (h : tLc wi g tt (te (E σ)) (own.map (·.2)) σ H Q)
    (hRR : ∀ D C s' m H', Inv X pins σ H' s' → Q (.ref D) H' → s'.heap.Ns C m → FpOk X pins H' C → compPost (model X.prog X.w) X.A X.xe (some us_) Qf (.ref D) C (.ok .next) s') :
    wpAny (model X.prog X.w) X.A (comprehension (.ListComp elt [⟨tg, iter, ifs, 0⟩] scope pos) scope X.env pos' (newList []) false (eval iter X.env) (some us_)) Qf X.xe s := by
  have hfree : ∀ y ∈ scope.names, y.2 = .free → ∃ c, X.env.cells.lookup y.1 = some c := fun y hy e => by
    rcases ok.free y hy e with k | k
    · exact I.ok.has _ (.inl k)
    · exact I.ok.has _ (.inr k)
  refine comprehension_freeX (use := some us_) rfl hs (closure_ok hfree) ok.kind (fun y hy e => by rw [ok.uniq y hy, e])
    (thn (hi.run pins s σ H _ I h) fun xv s1 hx => thn hx fun itv s2 h2 => ?_)
  obtain ⟨it, fp, tn, J, H2, e, I2, T, st2, f2, q⟩ := h2
  subst e
  refine wpAny_newObj_type (newEnv_comp ?_) (by show 0 ≤ sizeLine; decide)
  generalize hD : s2.heap.objs.size = D
  have hDn : H2 D = none := I2.hok.fresh (Nat.le_of_eq hD)
  obtain ⟨W, ⟨m0, w0⟩, turn⟩ := q D hDn
  -- the new list
  generalize hs3 : ({ s2 with heap := s2.heap.push { cls := .type "list", data := .seq ([] : List Value).toArray } } : Shared) = s3
  have I3 : Inv X pins σ (upd H2 D (.lst [])) s3 := by
    rw [← hs3]
    refine I2.laid (t' := s2.toks) (fun b o e => Heap.get?_push_of_some _ e) (Nat.le_of_eq hD) ⟨Nat.zero_le _, [], 0, .nil, ?_⟩
    rw [← hD]
    exact Heap.get?_push_size _ rfl
  have h3 : s3.heap = s2.heap.push { cls := .type "list", data := .seq ([] : List Value).toArray } := by rw [← hs3]
  have sz : ∀ b ∈ fp, b < s2.heap.objs.size := fun b hb => by
    obtain ⟨o, e, _⟩ := T.obj _ _ st2 b hb
    exact Heap.lt_size e
  have f3 : ∀ b ∈ fp, FpOk X pins (upd H2 D (.lst [])) b ∧ b < s3.heap.objs.size := fun b hb => by
    have hlt := sz b hb
    refine ⟨⟨?_, (f2 b hb).2⟩, by rw [h3, Heap.size_push]; exact Nat.lt_succ_of_lt hlt⟩
    rw [upd_ne (by rw [← hD]; exact Nat.ne_of_lt hlt)]
    exact (f2 b hb).1
  have st3 : tn 0 s3.heap := T.keep _ _ _ st2 fun b _ o e => by rw [h3]; exact Heap.get?_push_of_some _ e
  have I4 := block_start I3 ok hN f3
  have pg := hg s3 (upd H2 D (.lst [])) s3.heap.objs.size (cellsFrom (s3.heap.objs.size + 1) scope.names (cloFrom X.env.cells scope.names [])) fp
  have pt := ht s3 (upd H2 D (.lst [])) s3.heap.objs.size (cellsFrom (s3.heap.objs.size + 1) scope.names (cloFrom X.env.cells scope.names [])) fp
  have pe := he s3 (upd H2 D (.lst [])) s3.heap.objs.size (cellsFrom (s3.heap.objs.size + 1) scope.names (cloFrom X.env.cells scope.names [])) fp
  have cF : (compEnvC scope (cellsFrom (s3.heap.objs.size + 1) scope.names (cloFrom X.env.cells scope.names [])) s3.heap.objs.size X.env).frame = X.env.frame := rfl
  show codeAny _ _ (.compStart (.ListComp elt [⟨tg, iter, ifs, 0⟩] scope pos) 0 (.ref it) (.ref D) (compEnvC scope (cellsFrom (s3.heap.objs.size + 1) scope.names (cloFrom X.env.cells scope.names [])) s3.heap.objs.size X.env)) (postX (model X.prog X.w) X.A X.xe (some us_) Qf (.ref D) (compEnvC scope (cellsFrom (s3.heap.objs.size + 1) scope.names (cloFrom X.env.cells scope.names [])) s3.heap.objs.size X.env)) { s3 with heap := pushCells (s3.heap.push { cls := .type "dict", data := .dict #[] }) scope.names }
  have nfp : ∀ b ∈ fp, (upd H2 D (.lst [])) b = none := fun b hb => (f3 b hb).1.1
  generalize hce : compEnvC scope (cellsFrom (s3.heap.objs.size + 1) scope.names (cloFrom X.env.cells scope.names [])) s3.heap.objs.size X.env = ce at I4 pg pt pe cF ⊢
  have cL : ce.locals = s3.heap.objs.size := by subst hce; rfl
  generalize hH3 : upd H2 D (.lst []) = H3 at I3 I4 pg pt pe w0 nfp f3
  generalize hs4 : ({ s3 with heap := pushCells (s3.heap.push { cls := .type "dict", data := .dict #[] }) scope.names } : Shared) = s4 at I4 ⊢
  have st4 : tn 0 s4.heap := T.keep _ _ _ st3 fun b _ o e => by rw [← hs4]; exact pushCells_keeps _ _ _ _ (Heap.get?_push_of_some _ e)
  have stat : ∀ {σ' : L2.St} {H' : Hp} {s' : Shared}, Inv (X.blk s3 H3 scope ce fp) [] σ' H' s' → (∀ b ∈ fp, H' b = none) → ∀ b ∈ fp, FpOk (X.blk s3 H3 scope ce fp) [] H' b := fun {σ' H' s'} I' hn b hb =>
    ⟨hn b hb, (I'.ok.exf b hb).1, I'.ok.exfs b hb, .inl hb, fun x c e => (I'.ok.exf b hb).2 x c e, fun p hp => absurd (show p ∈ ([] : List (Addr × Obj)) ++ [] from hp) (by simp)⟩
  have loop : codeAny (model X.prog X.w) X.A (.compLoop (.ListComp elt [⟨tg, iter, ifs, 0⟩] scope pos) 0 (.ref it) (.ref D) ce) (postX (model X.prog X.w) X.A X.xe (some us_) Qf (.ref D) ce) s4 := by
    refine compLoop_any (fun n s' => ∃ i H', Inv (X.blk s3 H3 scope ce fp) [] (wipe σ (own.map (·.2))) H' s' ∧ tn i s'.heap ∧ (∀ b ∈ fp, H' b = none) ∧ W i n H') ?_ m0 ⟨0, H3, I4, st4, nfp, w0⟩
    rintro n s5 ⟨i, H5, I5, st5, n5, w5⟩
    rcases turn i n H5 w5 with ⟨stop, qq⟩ | ⟨go, Nx, hNx, step⟩
    · have td := T.done (X.blk s3 H3 scope ce fp) rfl rfl rfl hc i [] s5 _ H5 (fun _ _ => False) I5 (stat I5 n5) st5 stop
      refine thnF td fun r s6 ⟨hr, I6⟩ => ?_
      subst hr
      -- back in the def's context
      have I7 : Inv X pins σ H5 s6 := I3.call' (ch := fp) I6.os I6.base I6.hok I6.bare fun b hb => ⟨(f3 b hb).1.2.2.2.1, (f3 b hb).1.2.1, (f3 b hb).1.2.2.2.2.1, (f3 b hb).1.2.2.2.2.2⟩
      have nC : H5 s3.heap.objs.size = none := by
        have z : H5 ce.locals = none := I6.free
        rw [cL] at z
        exact z
      obtain ⟨m, hn, _⟩ := I6.loc
      have hn : s6.heap.Ns ce.locals m := hn
      rw [cL] at hn
      have hR := hRR D s3.heap.objs.size s6 m H5 I7 qq hn (I3.fpOk (Nat.le_refl _) nC)
      rw [← cL] at hR
      exact hR
    · have ti := T.item (X.blk s3 H3 scope ce fp) rfl rfl rfl hc i [] s5 _ H5 (fun _ _ => False) I5 (stat I5 n5) st5 go
      refine thnF ti fun r s6 ⟨u, hr, h6⟩ => ?_
      subst hr
      refine thnF h6 fun _ s7 ⟨x, H7, I7, r7, y7, st7, n7⟩ => ?_
      have I7' := I7.pinned (stat I7 n7) (T.obj _ _ st7)
      refine thnF (pg.run _ s7 _ H7 x u _ I7' r7 (step x H7 y7)) fun _ s8 ⟨σ8, H8, I8, hw8, q8⟩ => ?_
      refine thnF (pt.run _ s8 σ8 H8 _ I8 q8) fun b s9 ⟨H9, I9, q9⟩ => ?_
      -- the turn's end
      have fin : ∀ {s' : Shared} {H' : Hp}, Inv (X.blk s3 H3 scope ce fp) ([] ++ pinsAt fp s7.heap) σ8 H' s' → Nx H' → ∃ m, m < n ∧ ∃ i H', Inv (X.blk s3 H3 scope ce fp) [] (wipe σ (own.map (·.2))) H' s' ∧ tn i s'.heap ∧ (∀ b ∈ fp, H' b = none) ∧ W i m H' := fun {s' H'} I' nx => by
        obtain ⟨m', hm, w'⟩ := hNx H' nx
        have pin' : ∀ b ∈ fp, ∀ o, s7.heap.get? b = some o → s'.heap.get? b = some o ∧ H' b = none := fun b hb o e =>
          let z := I'.pin (b, o) (List.mem_append_right _ (List.mem_append_right _ (mem_pinsAt hb e)))
          ⟨z.1, z.2.1⟩
        have hl : (wipe σ (own.map (·.2))).length = σ8.length := by rw [← hw8, wipe_length]
        refine ⟨m', hm, i + 1, H', (I'.unpinned (pins := [])).weak hl (fun j v e => ?_), T.keep _ _ _ st7 fun b hb o e => (pin' b hb o e).1, fun b hb => ?_, w'⟩
        · rw [← hw8] at e
          exact (wipe_some e).1
        · obtain ⟨o, e, _⟩ := T.obj _ _ st7 b hb
          exact (pin' b hb o e).2
      cases b with
      | false =>
        simp only [Bool.false_eq_true, if_false] at q9 ⊢
        exact fin I9 q9
      | true =>
        simp only [if_true] at q9 ⊢
        obtain ⟨ev, outer, L, hstk, hfr, hXf, kx⟩ := air.ex
        refine wpAny_mono ((pe (fun u s' => ∃ H' sI, Inv X pins σ H' sI ∧ (∃ m, sI.heap.Ns ce.locals m) ∧ H' ce.locals = none ∧ Aloft X.stack L sI H' (E σ) u s') (E σ) (fun σ1 => ⟨ev, outer, L, hstk, hfr, cF.trans hXf, fun pins1 H1 sI u s' I1 al => ?_⟩)).run _ s9 σ8 H9 _ (I9.wish _) q9) (fun z s10 ⟨yv, H10, I10, r10, acc, hD10, hz10, nx⟩ => ?_) (fun u s10 hx => ?_)
        · have I1' := I1.unwish
          obtain ⟨m, hn, _⟩ := I1'.loc
          exact ⟨H1, sI, I3.call' (ch := fp) I1'.os I1'.base I1'.hok I1'.bare fun b hb => ⟨(f3 b hb).1.2.2.2.1, (f3 b hb).1.2.1, (f3 b hb).1.2.2.2.2.1, (f3 b hb).1.2.2.2.2.2⟩, ⟨m, hn⟩, I1'.free, al⟩
        · exact app_ok (X := X.blk s3 H3 scope ce fp) I10.unwish hD10 hz10 r10 fun s11 I11 => fin I11 nx
        · obtain ⟨H', sI, JX, ⟨m, hn⟩, nC, a, B, cls, d, rfl, nb, up, sky, na, os, ag, w⟩ := hx
          have fpC : FpOk X pins H' ce.locals := I3.fpOk (by rw [cL]; exact Nat.le_refl _) nC
          obtain ⟨f0, f1, f2, f3', f4, f5⟩ := fpC
          have frA : X.A.frames = some (ev :: outer) := I3.ok.frames.trans (congrArg some hstk)
          have cNot : ce.locals ∉ frs X.stack := fun hm => by
            rcases List.mem_cons.mp (I3.stkSub _ hm) with z | z
            · exact f1 z
            · exact f2 z
          show wpAny _ X.A (noteFrame (Value.ref a) ce) _ _ _
          rw [note_same (e2 := ev) (by rw [cF, hXf, hfr])]
          -- noted by the frame
          have held : ∀ {Q : Unit → Shared → Prop} {E' : Value → Shared → Prop}, (∀ h1, HandSPX.HeldZ B (ev :: outer) a (Zc cls d) L h1 → s10.heap.UpToSlots h1 → Q () { s10 with heap := h1 }) → wpAny (model X.prog X.w) X.A (noteFrame (.ref a) ev) Q E' s10 := fun {Q E'} k => by
            rw [hstk] at sky
            rcases sky with ⟨hB, hn, hl, oe, vs, he, hz, hd, h1⟩ | fl | hh
            · exact HandSPX.look_newZ Zc.steady frA hl hfr he hB hn hd h1 hz k
            · exact HandSPX.looks_onZ Zc.steady frA hfr fl k
            · exact HandSPX.againZ hfr hh.2.2.2 (k s10.heap hh (Heap.UpToSlots.refl _))
          refine held fun h1 hh1 up1 => ?_
          have upH : sI.heap.UpToSlots h1 := up.trans up1
          refine ⟨m, upH.ns hn, fun h2 sb2 => ?_⟩
          -- the ground without the block's names
          obtain ⟨B', b1, b2⟩ := restrict B fun b => decide (b ≠ ce.locals)
          obtain ⟨G, g1, g2⟩ := restrict sI.heap fun b => decide (b ≠ ce.locals)
          have bB : ∀ b o, B'.get? b = some o → b ≠ ce.locals ∧ B.get? b = some o := fun b o e => by
            by_cases q : b = ce.locals
            · rw [b2 b (by simp [q])] at e
              cases e
            · exact ⟨q, by rw [b1 b (by simp [q])] at e; exact e⟩
          have gG : ∀ b o, G.get? b = some o → b ≠ ce.locals ∧ sI.heap.get? b = some o := fun b o e => by
            by_cases q : b = ce.locals
            · rw [g2 b (by simp [q])] at e
              cases e
            · exact ⟨q, by rw [g1 b (by simp [q])] at e; exact e⟩
          obtain ⟨k1, k2, k3, oe, vs, T1, oT1, ts, he1, hz1, hd1, hv1, hbT, hTa, hT1, hdT, hfl⟩ := hh1
          obtain ⟨oC, es, ep, hoC, hdC, _⟩ := hn
          have BC : B.get? ce.locals = some oC := nb _ _ hoC cNot
          have aC : a ≠ ce.locals := fun z => by rw [z] at k2; rw [k2] at BC; cases BC
          have TC : T1 ≠ ce.locals := fun z => by rw [z] at hbT; rw [hbT] at BC; cases BC
          have sb : ∀ b, b ≠ ce.locals → h2.get? b = h1.get? b := sb2.2
          have B'a : B'.get? a = none := by rw [b1 a (by simp [aC])]; exact k2
          have B'T : B'.get? T1 = none := by rw [b1 T1 (by simp [TC])]; exact hbT
          have fF : h2.FunFrames B' (ev :: outer) := funFrames_step k3 (fun b q => by
              cases z : B'.get? b with
              | none => rfl
              | some o =>
                rw [(bB b o z).2] at q
                cases q) fun b o q e => (sb b (fun z => by rw [z, BC] at q; cases q)).trans e
          have kB : B'.StaysIn h2 := fun b o e => (sb b (bB b o e).1).trans (k1 b o (bB b o e).2)
          have he2 : h2.get? a = some oe := (sb a aC).trans he1
          have hh2 : HandSPX.HeldZ B' (ev :: outer) a (Zc cls d) L h2 := ⟨kB, B'a, fF, oe, vs, T1, oT1, ts, he2, hz1, hd1, hv1, B'T, hTa, (sb T1 TC).trans hT1, hdT, hfl⟩
          unfold PySem.passOn
          refine wpAny_bind (wpAny_field he2 hd1 hv1 ?_)
          rw [if_neg (show ¬ ((Value.ref T1 == Value.none) = true) by simp)]
          have fin2 : wpAny (model X.prog X.w) X.A (setFlight (.ref a) ce.frame) (fun _ s4 => wpAny (model X.prog X.w) X.A (throw (.ref a) : Sem Value) (fun _ _ => False) X.xe s4) X.xe { s10 with heap := h2 } := by
            rw [cF, hXf]
            refine HandSPX.setFlight_onZ hh2 fun h4 hh4 up4 => wpAny_throw ?_
            refine kx pins H' { sI with heap := G } _ _ (JX.turned (t' := sI.toks) (fun b o hb e => (g1 b (by simp [hb])).trans e) f0 f1 f3' f4 f5) ⟨a, B', cls, d, rfl, fun b o e hb => ?_, ?_, ?_, na, os, ag, w⟩
            · obtain ⟨q1, q2⟩ := gG b o e
              exact (b1 b (by simp [q1])).trans (nb b o q2 hb)
            · refine Heap.UpToSlots.trans (fun b o e nf => ?_) up4
              obtain ⟨q1, q2⟩ := gG b o e
              obtain ⟨sl, q3⟩ := upH b o q2 nf
              exact ⟨sl, (sb b q1).trans q3⟩
            · rw [hstk]
              exact .inr (.inr hh4)
          first
            | exact wpAny_bind (wpAny_pure (wpAny_bind fin2))
            | exact wpAny_bind fin2
  exact codeAny_compStart_list loop (T.self X.A 0 _ _ _ st4 loop)
/-- name = [..], what the element lets out is let out -/
theorem ps_setLcX {E : L2.St → XK} {i : Nat} {y : Str} {py : Pos} {elt tg iter : Expr} {ifs : List Expr} {scope : Scope} {own : List (Str × Nat)} {pos spos : Pos} {wi : TI} {g : TG} {tt : TT} {te : XK → TE} (air : ∀ σ, Air X σ (E σ)) (hc : X.calm = true) (hN : X.N.Nodup) (hy : X.N[i]? = some y) (hyl : X.env.scope.names.lookup y = some .local)
    (hsw : swapsWith (.ListComp elt [⟨tg, iter, ifs, 0⟩] scope pos) (some (.Name y py)) spos.line X.env = pure true) (hi : PI X tg iter wi) (ok : BlkOk X.N X.env.scope scope own)
    (hg : ∀ (s : Shared) (H : Hp) (C : Addr) (cl : List (Str × Addr)) (fp : List Addr), PG (X.blk s H scope (compEnvC scope cl C X.env) fp) tg g) (ht : ∀ (s : Shared) (H : Hp) (C : Addr) (cl : List (Str × Addr)) (fp : List Addr), PTs (X.blk s H scope (compEnvC scope cl C X.env) fp) ifs tt)
    (he : ∀ (s : Shared) (H : Hp) (C : Addr) (cl : List (Str × Addr)) (fp : List Addr) (xe : Value → Shared → Prop) (E1 : XK), (∀ σ1, Air ((X.blk s H scope (compEnvC scope cl C X.env) fp).wish xe) σ1 E1) → PE ((X.blk s H scope (compEnvC scope cl C X.env) fp).wish xe) elt (te E1)) (hs : ∀ x, foldedSetIterable iter X.env x = pure x := by intro _; rfl) :
    PS X (.Assign [.Name y py] (.ListComp elt [⟨tg, iter, ifs, 0⟩] scope pos) spos) (tAsg (fun σ H Q => tLc wi g tt (te (E σ)) (own.map (·.2)) σ H Q) (gName i)) := by
  refine ⟨fun pins s σ H D I h => ?_⟩
  rw [exec_Assign_Name_used _ _ _ _ hsw]
  refine wpAny_bind (wpAny_standAt (wpAny_bind ?_))
  show wpAny _ X.A (do let _ ← comprehension (.ListComp elt [⟨tg, iter, ifs, 0⟩] scope pos) scope X.env (firstIterPos [⟨tg, iter, ifs, 0⟩] pos) (newList []) false (eval iter X.env) (some (assign (.Name y py) X.env))) _ _ s
  have h : tLc wi g tt (te (E σ)) (own.map (·.2)) σ H (fun x H1 => gName i x σ H1 D.nx) := h
  refine wpAny_bind (thn (lc_coreU (Qf := fun _ s' => SP X pins D .next s') hc hN I hi ok hg ht (air σ) he hs h fun L C s' m H' I' q hn f => ?_) fun _ s' hq => wpAny_pure (wpAny_pure hq))
  show wpAny _ _ (assign (.Name y py) X.env (.ref L)) _ _ _
  refine wpAny_assign_Name (store_ok2 (v := V.ref L) I' hN hy (.inl hyl) rfl (fun s2 I2 ⟨a, sb, ha⟩ => ?_) (.inr hyl))
  obtain ⟨f0, f1, f2, f3, f4, f5⟩ := f
  have haC : C ≠ a := by
    rcases ha with z | z
    · rw [z]; exact f1
    · exact fun e => f4 y a z e.symm
  refine ⟨m, hn.sameBut sb haC, fun h3 sb3 => ?_⟩
  exact ⟨_, H', I2.turned (t' := s2.toks) (fun b o hb e => (sb3.2 b hb).trans e) f0 f1 f3 f4 f5, q⟩
end
end Wx

namespace Wx
open PySem PySem.Spec PyProof.Rows L2 NdefX RZ StX
/-! a whole number + an instance, by the instance's __radd__ -/
section
variable {prog : Program} {w : World} {A : Around} {E : Value → Shared → Prop} {s : Shared} {K : PySem.W.Frag} {x C f g : Addr} {ox : Obj} {od : Option Obj} {h₀ : Heap} {L : Addr} {m : Str → Option Value}
open AutoSeq1 (wpAny_loadPart')
theorem int_add_inst {i : Int} {t : Tok} {Q : Value → Shared → Prop} {cls : Value} {dd : Option Addr} {sl : Array (Option Value)} (hx : s.heap.get? x = some { cls := cls, dict := dd, data := .plain, slots := sl }) (q : Q .notImplemented s) :
    wpAny (model prog w) A (call (.builtin "int.__add__") [.int i t, .ref x]) Q E s := by
  refine wpAny_call (codeAny_call_builtin PySem.F.slot_int_add.plain PySem.F.entry_int_add (PySem.F.slot_int_add.check _ _ _ _ _ _ _ _ (by exact typeIs_int _ _ _) (PySem.F.args_int_add_2 _ _) ?_))
  obtain ⟨hp, g, d, tk, os⟩ := s
  wp_walk using wpAny_loadPart' hx
  exact q
theorem binop_rev {i : Int} {t : Tok} {Q : Value → Shared → Prop} {dd : Option Addr} {sl : Array (Option Value)} {cls : Value} (hx : s.heap.get? x = some { cls := cls, dict := dd, data := .plain, slots := sl }) (FR : Fr h₀ L s.heap m) (X₀ : K.In h₀) (I : PySem.W.InstAt s.heap x ox C od) (hc : PySem.W.selfFirst K C = true)
    (hs : PySem.W.findIn K (.ref C) (PySem.dunder "add") = some (some (.ref g))) (hr : PySem.W.findIn K (.ref C) (PySem.dunderR "add") = some (some (.ref f))) (hf : PySem.W.isFn K (.ref f) = true) (hsub : PySem.W.subIn K (.ref C) (.type "int") = some false)
    (h : wpAny (model prog w) A (call (.ref f) [.ref x, .int i t]) (PySem.W.CmpBack Q) E s) : wpAny (model prog w) A (binaryOp .Add (.int i t) (.ref x)) Q E s := by
  have X := X₀.keeps FR.keep
  obtain ⟨cd, rest, hcd, hm⟩ := PySem.W.ksp_first hc
  have one := PySem.W.ksp_try X I hr hf h
  have dec : ∀ {Q' : Option Value → Shared → Prop}, Q' none s → wpAny (model prog w) A (tryMethod (.int i t) (PySem.dunder "add") (.ref x)) Q' E s := fun q =>
    wpAny_tryMethod_declines (typeIs_int _ _ _) PySem.F.slot_int_add (int_add_inst hx ⟨rfl, q⟩)
  obtain ⟨hh, g, d, tt, os⟩ := s
  have L1 : PySem.W.Looks (model prog w) hh (typeOf (.int i t)) (.type "int") := PySem.W.Looks.of_pure rfl
  have L2 : PySem.W.Looks (model prog w) hh (typeOf (.ref x)) (.ref C) := I.type
  have L3 : PySem.W.Looks (model prog w) hh (fillsNumberSlot (.type "int") "add") true := PySem.W.Looks.of_pure (fillsNumberSlot_of PySem.F.slot_int_add.lookup (by kernel_rfl) PySem.F.slot_int_radd.lookup)
  have L4 : PySem.W.Looks (model prog w) hh (fillsNumberSlot (.ref C) "add") true := PySem.W.fills_K X hcd hm hs
  have L5 : PySem.W.Looks (model prog w) hh (isSubtype (.ref C) (.type "int")) false := PySem.W.looks_subIn X hsub
  have L7 : PySem.W.Looks (model prog w) hh (numberSlotInPython (.type "int") "add") false := PySem.W.Looks.of_pure rfl
  have hne : (Value.type "int" == Value.ref C) = false := Bool.eq_false_iff.mpr fun q => by cases beq_iff_eq.mp q
  have hi : Operator.Add.info = ("+", "add") := rfl
  simp only [binaryOp, hi]
  refine wpAny_holding (wpAny_bind ?_)
  unfold binaryOp1
  refine wpAny_bind (L1.at (wpAny_bind (L2.at (wpAny_bind (L3.at ?_)))))
  simp only [hne, Bool.false_eq_true, if_false]
  refine wpAny_bind (L4.at ?_)
  simp only [Bool.and_self, if_true]
  refine wpAny_bind (L5.at ?_)
  simp only [Bool.false_eq_true, if_false, Bool.not_false, Bool.and_self, if_true]
  refine wpAny_bind (L7.at ?_)
  simp only [Bool.false_eq_true, if_false]
  refine wpAny_bind (dec ?_)
  dsimp only
  refine wpAny_bind (wpAny_mono one (fun r s' hr' => ?_) fun _ _ e => e)
  obtain ⟨v, rfl, hq⟩ := hr'
  exact wpAny_bind (wpAny_rule (wpAny_pure (wpAny_pure hq)))
end
/-- what the class at C says of n + x -/
structure RevC (K : PySem.W.Frag) (C f : Addr) : Prop where
  first : PySem.W.selfFirst K C = true
  own : ∃ g : Addr, PySem.W.findIn K (.ref C) "__add__" = some (some (.ref g))
  back : PySem.W.findIn K (.ref C) "__radd__" = some (some (.ref f))
  fn : PySem.W.isFn K (.ref f) = true
  isub : PySem.W.subIn K (.ref C) (.type "int") = some false
def tRevN (C : Addr) (sp : Sp) (E : L2.St → XK) (ta tb : TE) : TE := fun σ H Q => ta σ H fun x H1 => tb σ H1 fun y H2 => ∃ i a dx fs, x = .int i ∧ y = .ref a ∧ H2 a = some (.ins C dx fs) ∧ sp [y, x] H2 Q (E σ)
section
variable {X : Cx} {CX : CXT} {C f : Addr} {n : Nat} {fd : FuncData} {ps : List Str} {sp : Sp} {E : L2.St → XK} {a b : Expr} {ta tb : TE} {pos : Pos}
theorem pe_revN (F : FnOk X.prog X.w X.K X.mg X.base CX n f fd ps sp) (hr : Room n X.A) (O : RevC X.K C f) (hb : Binds X.K fd ps []) (hx : ∀ σ, PassesAt CX X σ (E σ)) (ha : PE X a ta) (hb' : PE X b tb) : PE X (.BinOp a .Add b pos) (tRevN C sp E ta tb) := by
  refine ⟨fun pins s σ H Q I h => ?_⟩
  refine wpAny_BinOp (binT ha hb' I h fun v u s2 x y H2 I2 rx ry q => ?_)
  obtain ⟨i, p, dx, fs, rfl, rfl, hp, q⟩ := q
  obtain ⟨t, rfl⟩ := id rx
  cases (show u = Value.ref p from ry)
  obtain ⟨mA, J, _⟩ := ins_get I2.hok hp
  obtain ⟨od, J, _⟩ := J.look
  obtain ⟨m, hF⟩ := I2.fr
  obtain ⟨g, hg⟩ := O.own
  refine binop_rev J.at_ hF I2.ok.mod.kin J O.first hg O.back O.fn O.isub ?_
  exact wpAny_mono (run_fnS (us := [.ref p, .int i t]) (vs := [.ref p, .int i]) F hr hb (hx σ) I2 (.cons rfl (.cons ⟨t, rfl⟩ .nil)) q) (fun w s' z => by
    obtain ⟨z', H', I', rz, qz⟩ := z
    exact back_rel rz ⟨z', H', I', rz, qz⟩) fun _ _ x => x
end
end Wx

/-! enumerate of a tuple -/
namespace PySem
open AutoSeq1 (wpAny_loadPart')
theorem meets_enumerate_newTup (l : Addr) (items : Array Value) (n : Nat) (dct : Option Addr) (sl : Array (Option Value)) :
    Meets (Builtin.«enumerate.__new__» ⟨[.type "enumerate", .ref l], []⟩) (fun _ R s => s.heap.get? l = some { cls := .type "tuple", dict := dct, data := .seq items n, slots := sl } ∧
      R (.ok (.ret (.ref (s.heap.push { cls := .type "tuple_iterator", data := .fields #[.ref l, .int 0 0] }).objs.size)))
        { s with heap := (s.heap.push { cls := .type "tuple_iterator", data := .fields #[.ref l, .int 0 0] }).push { cls := .type "enumerate", data := .fields #[.none, .bool false, .ref s.heap.objs.size, rawInt 0, .none, .none] } }) :=
  .of_wp fun prog w A R s h => by
    obtain ⟨hp, g, d, tk, os⟩ := s; obtain ⟨hl, h⟩ := h
    have hsub := sub_enumerate
    have hL : Heap.IsTuple (Shared.heap ⟨hp, g, d, tk, os⟩) l items := ⟨_, hl, rfl, n, rfl⟩
    wp_walk using wpAny_loadPart' hl
    refine wpAny_stack_any fun st => wpAny_pure ?_
    split
    · rename_i c _ _ _ _ _
      cases (c == Value.type "enumerate")
      · wp_walk using wpAny_loadPart' hl, wpAny_pyIter_tuple hL
        exact ⟨_, rfl, h⟩
      · wp_walk using wpAny_loadPart' hl, wpAny_pyIter_tuple hL
        exact ⟨_, rfl, h⟩
    · wp_walk using wpAny_loadPart' hl, wpAny_pyIter_tuple hL
      exact ⟨_, rfl, h⟩
section
variable {prog : Program} {w : World} {A : Around} {E : Value → Shared → Prop} {s : Shared}
theorem call_enumerate_tuple {l : Addr} {items : Array Value} {Q : Value → Shared → Prop} (hL : s.heap.IsTuple l items)
    (h : ∀ h', IsEnum h' (s.heap.objs.size + 1) s.heap.objs.size 0 .none → h'.IsTupleIter s.heap.objs.size l 0 → h'.objs.size = s.heap.objs.size + 2 →
      (∀ b o, s.heap.get? b = some o → h'.get? b = some o) → Q (.ref (s.heap.objs.size + 1)) { s with heap := h' }) :
    wpAny (model prog w) A (call (.type "enumerate") [.ref l]) Q E s := by
  obtain ⟨⟨c, dct, dt, sl⟩, hl, hc, n, hd⟩ := hL
  replace hc : c = .type "tuple" := hc
  replace hd : dt = .seq items n := hd
  subst hc hd
  refine callType_new F.called_enumerate (by decide) (F.typeCall_enumerate_1 _) (F.newCall_enumerate_1 _) (fun obj => F.args_object_init_2 obj _) F.entry_enumerate_new
    (meets_enumerate_newTup l items n dct sl) ⟨hl, ?_⟩
  have hz : (s.heap.push { cls := .type "tuple_iterator", data := .fields #[.ref l, .int 0 0] }).objs.size = s.heap.objs.size + 1 := Heap.size_push ..
  show _ ∧ _
  rw [hz]
  have he : IsEnum ((s.heap.push { cls := .type "tuple_iterator", data := .fields #[.ref l, .int 0 0] }).push
      { cls := .type "enumerate", data := .fields #[.none, .bool false, .ref s.heap.objs.size, rawInt 0, .none, .none] }) (s.heap.objs.size + 1) s.heap.objs.size 0 .none := by
    have := Heap.get?_push_size (s.heap.push { cls := .type "tuple_iterator", data := .fields #[.ref l, .int 0 0] })
      (o := { cls := .type "enumerate", data := .fields #[.none, .bool false, .ref s.heap.objs.size, rawInt 0, .none, .none] }) rfl
    rw [hz] at this; exact this
  refine ⟨⟨_, he, rfl⟩, h _ he ⟨_, Heap.get?_push_of_some _ (Heap.get?_push_size _ rfl), rfl, rfl⟩ (by rw [Heap.size_push, hz]) fun b o x => Heap.get?_push_of_some _ (Heap.get?_push_of_some _ x)⟩
theorem wpAny_pyNext_enum_endT {e it l : Addr} {i : Nat} {items : Array Value} {old : Value} {c : Int} {Q : Option Value → Shared → Prop} (hh : A.handled = none)
    (he : IsEnum s.heap e it c old) (hit : s.heap.IsTupleIter it l i) (hl : s.heap.IsTuple l items) (hx : items[i]? = none)
    (hQ : ∀ h', Heap.ExtBut it s.heap h' → Q none { s with heap := h' }) : wpAny (model prog w) A (pyNext (.ref e)) Q E s := by
  have hTy : s.TypeIs (.ref e) "enumerate" := ⟨_, he, rfl⟩
  unfold pyNext
  refine wpAny_bind (wpAny_attempt (wpAny_callSpecial?_slot (name := Str.ofString "__next__") hTy F.slot_enumerate_next
    (wpAny_call_entry F.slot_enumerate_next hTy F.entry_enumerate_next ?_ (F.args_enumerate_next_1 _))))
  show wpAny _ _ (field (.ref e) 2 >>= _) _ _ _
  refine wpAny_bind (wpAny_field he rfl (x := .ref it) rfl ?_)
  refine wpAny_bind (wpAny_nextOf_tuple_end hh hit hl hx fun h' x he' hx' => ?_)
  obtain ⟨o, ho, hc⟩ := hx'
  refine wpAny_bind (wpAny_isInstance (T := "StopIteration") (b := true) ⟨o, ho, hc⟩ isSubtype_stop ?_)
  exact wpAny_pure (hQ _ he')
end
end PySem
namespace Wx
open PySem PySem.Spec PyProof.Rows L2 NdefX RZ StX
/-- the tuple at a as it stands at each turn, each item in a new pair -/
def IteT (K : PySem.W.Frag) (a : Addr) : It :=
  ⟨fun i H => ∃ (xs : List V) (x : V), SqT K H a xs ∧ xs[i]? = some x, fun i H v H' => ∃ T x, v = .ref T ∧ H T = none ∧ H' = upd H T (.tup [.int (i : Nat), x]) ∧ ∀ xs, SqT K H a xs → xs[i]? = some x, fun i H => ∃ xs : List V, SqT K H a xs ∧ xs.length ≤ i⟩
theorem turn_enumT {P : Program} {w : World} {K : PySem.W.Frag} {elts : List Expr} {kk : Nat} {tpos : Pos} (a e it : Addr) (nai : a ≠ it) (nae : a ≠ e) :
    Turn P w K (.Tuple elts kk tpos) (IteT K a) [e, it] e (fun i h => (∃ old, IsEnum h e it ((i : Nat) : Int) old) ∧ h.IsTupleIter it a i ∧ e ≠ it) where
  mem := by simp
  obj := fun i h st b hb => by
    obtain ⟨⟨old, he⟩, ⟨o, ho, hc, hd⟩, _⟩ := st
    have e' : b = e ∨ b = it := by simpa using hb
    rcases e' with z | z
    · rw [z]; exact ⟨_, he, fun v q => nomatch q⟩
    · rw [z]; exact ⟨o, ho, fun v q => by rw [hd] at q; cases q⟩
  keep := fun i h h' st k => let ⟨⟨old, he⟩, hi, hne⟩ := st; ⟨⟨old, k e (by simp) _ he⟩, hi.at fun o q => k it (by simp) o q, hne⟩
  item := by
    intro X hP hw hK hc i pins s σ H E I hf st hg
    subst hP hw hK
    obtain ⟨⟨old, he⟩, hit, hne⟩ := st
    obtain ⟨xs, x, hq, hx⟩ := hg
    obtain ⟨its, rv, p, hz⟩ := I.tuple hq
    obtain ⟨u, hu, ru⟩ := rv.get hx
    have hel : e < s.heap.objs.size := Heap.lt_size he
    have hil : it < s.heap.objs.size := by obtain ⟨_, q, _⟩ := hit; exact Heap.lt_size q
    have hpt : s.heap.IsTuple a its.toArray := p
    have hlt : i < its.toArray.size := by
      have := (List.getElem?_eq_some_iff.mp hu).1
      simpa using this
    refine wpAny_pyNext_enum_itemD (Draws.tuple (A := X.A.in1) (show X.A.in1.handled = none from I.ok.hd hc) it a nai its.toArray) he ⟨hit, hpt⟩ hlt hne (by simp [hne, Ne.symm nae]) fun x' h' tk hx' ho hit' hT hsz hk => ?_
    have ex : x' = u := by
      have z : its.toArray[i]? = some u := by simpa using hu
      rw [z] at hx'
      exact (Option.some.inj hx').symm
    subst ex
    refine ⟨_, rfl, wpAny_letOwnedTupleGo_enum (s := { s with heap := h', toks := tk + 1 }) ho fun h'' he' sb => ?_⟩
    have hT2 : h''.get? s.heap.objs.size = some { cls := .type "tuple", data := .seq #[.int i tk, x'] } := (sb.2 _ (Nat.ne_of_gt hel)).trans hT
    have new : ObjOk X.prog X.w (upd H s.heap.objs.size (.tup [.int (i : Nat), x])) h'' s.heap.objs.size (.tup [.int (i : Nat), x]) :=
      ⟨by show 2 ≤ sizeLine; decide, [.int i tk, x'], .cons ⟨_, rfl⟩ (.cons ru .nil), ⟨_, hT2, rfl, _, rfl⟩⟩
    have I1 : Inv X pins σ (upd H s.heap.objs.size (.tup [.int (i : Nat), x])) { s with heap := h'', toks := tk + 1 } :=
      I.turnedNew (ch := [e, it]) (fun b ob hb q => (sb.2 b (fun z => hb (by simp [z]))).trans (hk b ob (fun z => hb (by simp [z])) (fun z => hb (by simp [z])) q)) hf (Nat.le_refl _) new
    refine ⟨.ref s.heap.objs.size, _, I1, rfl, ⟨_, x, rfl, I.hok.fresh (Nat.le_refl _), rfl, fun ys hy => by rw [I.tuple_inj hy hq]; exact hx⟩, ⟨⟨x', ?_⟩, hit'.1.at fun o q => (sb.2 it (Ne.symm hne)).trans q, hne⟩, fun b hb => ?_⟩
    · have e1 : ((i + 1 : Nat) : Int) = (i : Int) + 1 := by omega
      rw [e1]; exact he'
    · have hb' : b < s.heap.objs.size := by
        have e' : b = e ∨ b = it := by simpa using hb
        rcases e' with z | z
        · rw [z]; exact hel
        · rw [z]; exact hil
      rw [upd_ne (Nat.ne_of_lt hb')]
      exact (hf b hb).1
  done := by
    intro X hP hw hK hc i pins s σ H E I hf st hg
    subst hP hw hK
    obtain ⟨⟨old, he⟩, hit, hne⟩ := st
    obtain ⟨xs, hq, hx⟩ := hg
    obtain ⟨its, rv, p, hz⟩ := I.tuple hq
    obtain ⟨f0, f1, f2, f3, f4, f5⟩ := hf it (by simp)
    have hl := rv.length
    exact wpAny_pyNext_enum_endT (I.ok.hd hc) he hit (show s.heap.IsTuple a its.toArray from p) (by simp; omega) fun h' eb => ⟨rfl, I.turned (t' := s.toks) (fun b o hb q => eb b o hb q) f0 f1 f3 f4 f5⟩
  self := fun A i s Q E st h => let ⟨⟨_, he⟩, _⟩ := st; wpAny_pyIter_enum he h
def iEnumT (K : PySem.W.Frag) (ta : TA) : TI := fun σ H R => ta σ H fun vs H1 => ∃ a xs, vs = [.ref a] ∧ SqT K H1 a xs ∧ R (IteT K a) H1
theorem pi_enumT {X : Cx} {e : Expr} {ta : TA} {p pos tpos : Pos} {elts : List Expr} {kk : Nat} (hg : Gl X "enumerate") (hm : X.mg "enumerate" = none) (ha : PA X [e] ta) (hs : starEach [e] X.env = [(false, eval e X.env)] := by rfl) :
    PI X (.Tuple elts kk tpos) (.Call (.Name "enumerate" p) [e] [] pos) (iEnumT X.K ta) := by
  refine ⟨fun pins s σ H R I h => ?_⟩
  refine Call_ (ld_blt I hg hm boot_enumerate (PyProof.Rows.callWith_type1 (thn (ha.run pos pins s σ H _ I h) fun us s1 ⟨vs, H1, I1, r1, q1⟩ => ?_) hs rfl))
  obtain ⟨a, xs, ex, hq, q⟩ := q1
  subst ex
  cases r1 with
  | cons r rr =>
    cases rr
    cases r
    obtain ⟨its, rv, p', hz⟩ := I1.tuple hq
    have hat : a < s1.heap.objs.size := by obtain ⟨_, z, _⟩ := id p'; exact Heap.lt_size z
    refine call_enumerate_tuple (show s1.heap.IsTuple a its.toArray from p') fun h' he hit hsz hk => wpAny_pyIter_enum he ?_
    have I2 : Inv X pins σ H1 { s1 with heap := h' } := I1.kept (t' := s1.toks) hk
    refine ⟨s1.heap.objs.size + 1, [s1.heap.objs.size + 1, s1.heap.objs.size], _, _, H1, rfl, I2, turn_enumT a (s1.heap.objs.size + 1) s1.heap.objs.size (Nat.ne_of_lt hat) (Nat.ne_of_lt (Nat.lt_succ_of_lt hat)), ⟨⟨.none, he⟩, hit, Nat.succ_ne_self _⟩, fun b hb => ?_, q⟩
    have e' : b = s1.heap.objs.size + 1 ∨ b = s1.heap.objs.size := by simpa using hb
    have hle : s1.heap.objs.size ≤ b := by
      rcases e' with z | z
      · rw [z]; exact Nat.le_add_right _ _
      · rw [z]; exact Nat.le_refl _
    exact I1.fpOk hle (I1.hok.fresh hle)
theorem walk_enumT {K : PySem.W.Frag} {a : Addr} {xs : List V} : Walk (IteT K a) xs.length (fun H => SqT K H a xs) (YPair (fun i => some (.int (i : Nat))) (fun i => xs[i]?)) := by
  refine ⟨fun i _ hi q => ⟨xs, xs[i], q, by simp [hi]⟩, fun _ q => ⟨xs, q, Nat.le_refl _⟩, fun i H v H' _ q y => ?_⟩
  obtain ⟨T, x, h1, h2, h3, h4⟩ := y
  exact ⟨T, .int (i : Nat), x, h1, h2, h3, rfl, h4 xs q⟩
end Wx

namespace Wx
open PySem PySem.Spec PyProof.Rows L2 NdefX RZ StX
/-! C.m(..) and C.m(), m a staticmethod that may raise -/
/-- C.m is a staticmethod: its record at p, its def at g -/
structure SMet (K : PySem.W.Frag) (C : Addr) (mc : Value) (m : Str) (p g : Addr) : Prop where
  at_ : PySem.W.findCls K (.ref C) mc m = some (.get (.builtin "staticmethod.__get__") (.ref p) .none (.ref C))
  rc : ∃ rest, PySem.W.recIn K p "staticmethod" = some (.ref g :: rest)
  kp : PySem.W.keepIn K (.ref g) = true
def tSMeth (C : Addr) (sp : Sp) (E : L2.St → XK) (ta : TE) (t : TA) : TE := fun σ H Q => ta σ H fun x H1 => x = .ref C ∧ t σ H1 fun vs H2 => sp vs H2 Q (E σ)
section
variable {X : Cx} {CX : CXT} {k : Nat} {C p g : Addr} {mc : Value} {fd : FuncData} {ps : List Str} {sp : Sp} {E : L2.St → XK} {o e : Expr} {es : List Expr} {m : Str} {pos apos : Pos} {ta : TE} {t : TA} {pl : Sem Bool}
theorem getsmet_ok {pins : List (Addr × Obj)} {σ : L2.St} {H : Hp} {s : Shared} {A : Around} {Q : Value × List Value → Shared → Prop} {Ex : Value → Shared → Prop} (I : Inv X pins σ H s) (r : ClX.CRead X.K C mc) (c : SMet X.K C mc m p g)
    (h : ∀ s', Inv X pins σ H s' → Q (.ref g, []) s') : wpAny (model X.prog X.w) A (getMethod (.ref C) m pl) Q Ex s := by
  refine PySem.W.method_cls I.kIn r.ga ?_
  obtain ⟨rest, hp⟩ := c.rc
  refine PySem.W.cls_bind I.kIn r.rd c.at_ ?_
  refine wpAny_call (PySem.W.sm_get (s := { s with toks := s.toks + 1 }) I.kIn hp (PySem.W.handed_on rfl ?_))
  exact h _ (I.tok _)
theorem run_fnRS {pins : List (Addr × Obj)} {σ : L2.St} {H : Hp} {s : Shared} {Q : VK} {us : List Value} {vs : List V} {E : XK} (F : FnR X.prog X.w X.K X.mg X.base CX k g sp) (hr : Room k X.A) (hx : PassesAt CX X σ E)
    (I : Inv X pins σ H s) (r : Vals vs us) (h : sp vs H Q E) : wpAny (model X.prog X.w) X.A (call (.ref g) us) (EP X pins σ Q) X.xe s := by
  refine wpAny_call (codeAny_mono (F X.A X.stack s H us vs Q E hr I.env0 r h) fun r s' hq => ?_)
  cases r with
  | error e => exact hx pins H s e s' I hq
  | ok fl =>
    cases fl with
    | ret u => exact I.after hq
    | next => exact False.elim hq
    | brk => exact False.elim hq
    | cont => exact False.elim hq
/-- C.m(..), a def -/
theorem pe_smeth (he : PE X o ta) (r : ClX.CRead X.K C mc) (c : SMet X.K C mc m p g) (F : FnOk X.prog X.w X.K X.mg X.base CX k g fd ps sp) (hr : Room k X.A) (hb : Binds X.K fd ps []) (hx : ∀ σ, PassesAt CX X σ (E σ)) (ha : PA X (e :: es) t)
    (hst : starEach (e :: es) X.env = (false, eval e X.env) :: starEach es X.env := by rfl) (hpl : (backTo pos (starEach es X.env)).any (·.1) = false := by rfl)
    (ht : eval (.Call (.Attribute o m apos) (e :: es) [] pos) X.env = (do
      let ov ← eval o X.env
      standAt apos.atName
      let (f, first) ← holding [ov] (getMethod ov m pl)
      callWith pos f first (backTo pos (starEach (e :: es) X.env)) (backToKw pos (keywordEach [] X.env))) := by rfl) :
    PE X (.Call (.Attribute o m apos) (e :: es) [] pos) (tSMeth C sp E ta t) := by
  refine ⟨fun pins s σ H Q I h => ?_⟩
  refine PySem.W.methodCall_KW (pl := pl) (thn (he.run pins s σ H _ I h) fun u s1 ⟨x, H1, I1, rx, ex, q⟩ => ?_) ht
  subst ex
  obtain rfl : u = Value.ref C := rx
  refine getsmet_ok I1 r c fun s2 I2 => ?_
  refine PySem.W.callWith_K (first := []) (h₀ := X.base) I.ok.mod.kin c.kp (thn (ha.run pos pins s2 σ H1 _ I2 q) fun us s3 ⟨vs, H2, I3, rv, q2⟩ => ⟨I3.kIn, ?_⟩) hst hpl
  exact run_fnS F hr hb (hx σ) I3 rv q2
/-- .. a def with a starred parameter -/
theorem pe_smethR (he : PE X o ta) (r : ClX.CRead X.K C mc) (c : SMet X.K C mc m p g) (F : FnR X.prog X.w X.K X.mg X.base CX k g sp) (hr : Room k X.A) (hx : ∀ σ, PassesAt CX X σ (E σ)) (ha : PA X (e :: es) t)
    (hst : starEach (e :: es) X.env = (false, eval e X.env) :: starEach es X.env := by rfl) (hpl : (backTo pos (starEach es X.env)).any (·.1) = false := by rfl)
    (ht : eval (.Call (.Attribute o m apos) (e :: es) [] pos) X.env = (do
      let ov ← eval o X.env
      standAt apos.atName
      let (f, first) ← holding [ov] (getMethod ov m pl)
      callWith pos f first (backTo pos (starEach (e :: es) X.env)) (backToKw pos (keywordEach [] X.env))) := by rfl) :
    PE X (.Call (.Attribute o m apos) (e :: es) [] pos) (tSMeth C sp E ta t) := by
  refine ⟨fun pins s σ H Q I h => ?_⟩
  refine PySem.W.methodCall_KW (pl := pl) (thn (he.run pins s σ H _ I h) fun u s1 ⟨x, H1, I1, rx, ex, q⟩ => ?_) ht
  subst ex
  obtain rfl : u = Value.ref C := rx
  refine getsmet_ok I1 r c fun s2 I2 => ?_
  refine PySem.W.callWith_K (first := []) (h₀ := X.base) I.ok.mod.kin c.kp (thn (ha.run pos pins s2 σ H1 _ I2 q) fun us s3 ⟨vs, H2, I3, rv, q2⟩ => ⟨I3.kIn, ?_⟩) hst hpl
  exact run_fnRS F hr (hx σ) I3 rv q2
/-- .. without arguments -/
theorem pe_smethR0 (he : PE X o ta) (r : ClX.CRead X.K C mc) (c : SMet X.K C mc m p g) (F : FnR X.prog X.w X.K X.mg X.base CX k g sp) (hr : Room k X.A) (hx : ∀ σ, PassesAt CX X σ (E σ))
    (ht : eval (.Call (.Attribute o m apos) [] [] pos) X.env = (do
      let ov ← eval o X.env
      standAt apos.atName
      let (f, first) ← holding [ov] (getMethod ov m pl)
      callWith pos f first (backTo pos (starEach [] X.env)) (backToKw pos (keywordEach [] X.env))) := by rfl) :
    PE X (.Call (.Attribute o m apos) [] [] pos) (tSMeth C sp E ta (fun _ H Q => Q [] H)) := by
  refine ⟨fun pins s σ H Q I h => ?_⟩
  refine PySem.W.methodCall_KW (pl := pl) (thn (he.run pins s σ H _ I h) fun u s1 ⟨x, H1, I1, rx, ex, q⟩ => ?_) ht
  subst ex
  obtain rfl : u = Value.ref C := rx
  refine getsmet_ok I1 r c fun s2 I2 => ?_
  exact PySem.W.callWith_K0 (first := []) I2.kIn c.kp (run_fnRS (us := []) F hr (hx σ) I2 .nil q)
end
end Wx

namespace Wx
open PySem PySem.Spec PyProof.Rows L2
section
variable {X : Cx} {C : Addr} {bmB : List Value} {B newId initId : String}
/-- X(), X an own exception class without own __init__ -/
theorem pmk_own0 {x : Str} {p pos : Pos} (F : ExcBaseFacts B newId initId bmB) (q : PySem.W.excIn X.K C bmB newId = true) (gC : X.mg x = some (.ref C)) (kC : PySem.W.keepIn X.K (.ref C) = true) (r : Raises X (.ref C)) (hg : Gl X x)
    (hdb : (x == ("__debug__" : Str)) = false := by decide) : PMk X (.Call (.Name x p) [] [] pos) (fun _ H Q => Q (.ref C) none H) := by
  intro pins s σ H Q I h
  refine wpAny_Call_Name_kw (ld_glob I hg gC ?_ hdb)
  refine PySem.W.callWith_K0 I.kIn kC ?_
  obtain ⟨bm, N, nm, qn, bs, hdct, sn, sub, ab, col, dd, k0, k1, k2, k3, k5, mN, hC, hN, hni, T⟩ := exc_obj I.kIn q
  show wpAny _ _ (call (.ref C) []) _ _ _
  refine wpAny_call_exc_subT F T hC hN hni (fun h' e hm => ?_) (by show 0 ≤ sizeLine; exact Nat.zero_le _)
  exact mk_of I hm r h (I.hok.gone hm.new)
end
end Wx

namespace Wx
open PySem PySem.Spec PyProof.Rows L2
/-! in an except suite of a base class: e.f and isinstance(e, c), whatever own class e is of -/
def tXd (K : PySem.W.Frag) (a : Addr) (cls : Value) (d : Option Addr) (f : Str) (te : TE) : TE := fun σ H Q => te σ H fun x H1 => ∃ (C dd : Addr) (fs : List (Str × V)) (v : V), x = .ref a ∧ cls = .ref C ∧ d = some dd ∧ XfC K C ∧ PySem.W.findIn K (.ref C) f = some none ∧ H1 dd = some (.xd fs) ∧ fs.lookup f = some v ∧ Q v H1
theorem pe_xd {X : Cx} {a : Addr} {oe : Obj} {cls : Value} {d : Option Addr} {pn : List (Addr × Obj)} {e : Expr} {te : TE} {pos : Pos} {n : Str}
    (hz : Zc cls d oe) (hf : ∃ vs, oe.data = .fields vs) (he : PE (X.suite a ((a, oe) :: pn)) e te) (hb : attributeBase e n X.env (eval e X.env) = eval e X.env := by rfl) :
    PE (X.suite a ((a, oe) :: pn)) (.Attribute e n pos) (tXd X.K a cls d n te) := by
  refine ⟨fun pins s σ H Q I h => ?_⟩
  refine attr_of hb (thn (he.run pins s σ H _ I h) fun u s1 hh => ?_)
  obtain ⟨x, H1, I1, rx, C, dd, fs, v, ex, ec, ed, T, hno, ea, l, q⟩ := hh
  subst ex
  obtain rfl : u = Value.ref a := rx
  subst ec
  subst ed
  obtain ⟨ha, _⟩ := I1.pin (a, oe) (List.mem_append_left _ List.mem_cons_self)
  obtain ⟨vs, hd⟩ := hf
  have hx : ObjOk X.prog X.w H1 s1.heap dd (.xd fs) := I1.hok dd _ ea
  obtain ⟨mA, hns, hr⟩ := hx
  obtain ⟨od, ho, hl⟩ := lookIn_ns hns
  obtain ⟨u, hu, ru⟩ := RelO.some_of (v := v) (o := mA n) (by rw [← l]; exact hr n)
  have J : PySem.W.InstAt s1.heap a oe C (some od) := ⟨ha, hz.1, by unfold PySem.W.notCls; rw [hd] <;> rfl, by rw [hz.2]; exact ho⟩
  exact HandSPX.exc_get I1.kIn J T.ga T.gg T.exC (PySem.W.findObj_own T.hdC hno rfl (by rw [hl, hu])) (handed_of ru) ⟨v, H1, I1.tok _, ru, q⟩
def rIsD (K : PySem.W.Frag) (a : Addr) (cls : Value) (d : Option Addr) : List V → Hp → VK → Prop := fun xs H Q => ∃ (C : Addr) (c : V) (u : Value) (b : Bool), xs = [.ref a, c] ∧ cls = .ref C ∧ ClsV c u ∧ ExcC K C ∧ (∀ dd, d = some dd → ∃ fs, H dd = some (.xd fs)) ∧ PySem.W.kitOne K (.ref C) u = some b ∧ Q (.bl b) H
theorem call_isD {X : Cx} {a : Addr} {oe : Obj} {cls : Value} {d : Option Addr} {pn : List (Addr × Obj)} (hz : Zc cls d oe) (hf : ∃ vs, oe.data = .fields vs) : CallR (X.suite a ((a, oe) :: pn)) (.builtin "isinstance") (rIsD X.K a cls d) := by
  intro pins s σ H xs us Q I r h
  obtain ⟨C, c, u, b, rfl, ec, hc, T, hd, hk, q⟩ := h
  cases r with
  | cons r1 r2 =>
    cases r2 with
    | cons r3 r4 =>
      cases r4
      cases r1
      have eu := hc.eq r3
      subst eu
      subst ec
      obtain ⟨ga, _⟩ := I.pin (a, oe) (List.mem_append.mpr (.inl List.mem_cons_self))
      obtain ⟨vs, hv⟩ := hf
      have inst : ∃ od, PySem.W.InstAt s.heap a oe C od := by
        cases d with
        | none => exact ⟨none, ga, hz.1, by unfold PySem.W.notCls; rw [hv] <;> rfl, by rw [hz.2]; trivial⟩
        | some dd =>
          obtain ⟨fs, ed⟩ := hd dd rfl
          obtain ⟨mA, hns, _⟩ : ObjOk X.prog X.w H s.heap dd (.xd fs) := I.hok dd _ ed
          obtain ⟨od, ho, _⟩ := lookIn_ns hns
          exact ⟨some od, ga, hz.1, by unfold PySem.W.notCls; rw [hv] <;> rfl, by rw [hz.2]; exact ho⟩
      obtain ⟨od, inst⟩ := inst
      have hcl : (PySem.W.clsIn X.K C).isSome = true := by
        obtain ⟨cd, hcd, _⟩ := PySem.W.any_some T.hd
        rw [hcd]
        rfl
      exact PySem.W.kia_one (PySem.W.kitx_exc hcl T.hg T.hk T.hs T.ha T.hn T.ht T.hm) I.kIn inst hk (fun z => nomatch z) fun tk => ⟨.bl b, H, I.kept (t' := tk) fun _ _ z => z, rfl, q⟩
end Wx

/-! len(set(xs)), xs a list or a tuple of any texts (own work; the kit's rule is for one text) -/
namespace Wx
open PySem PySem.Spec PyProof.Rows
/-- is z one of the first i -/
def memB (xs : List Str) (i : Nat) (z : Str) : Bool := (xs.take i).any (· == z)
/-- how many different texts the first i hold -/
def diffs (xs : List Str) : Nat → Nat
  | 0 => 0
  | i + 1 => if memB xs i (xs.getD i Str.empty) = true then diffs xs i else diffs xs i + 1
theorem diffs_le (xs : List Str) : ∀ i, diffs xs i ≤ i
  | 0 => Nat.le_refl _
  | i + 1 => by
    have h := diffs_le xs i
    unfold diffs
    split <;> omega
theorem getD_at {xs : List Str} {i : Nat} (h : i < xs.length) : xs.getD i Str.empty = xs[i] := by
  rw [List.getD_eq_getElem?_getD, List.getElem?_eq_getElem h]
  rfl
theorem memB_iff {xs : List Str} {i : Nat} {z : Str} : memB xs i z = true ↔ z ∈ xs.take i := by
  unfold memB
  rw [List.any_eq_true]
  constructor
  · rintro ⟨y, hy, e⟩
    rw [← eq_of_beq e]
    exact hy
  · exact fun h => ⟨z, h, beq_self_eq_true z⟩
theorem memB_succ {xs : List Str} {i : Nat} (h : i < xs.length) (z : Str) : (memB xs i z || decide (z = xs.getD i Str.empty)) = memB xs (i + 1) z := by
  rw [getD_at h, Bool.eq_iff_iff, Bool.or_eq_true, memB_iff, memB_iff, List.take_add_one, List.getElem?_eq_getElem h, List.mem_append, decide_eq_true_eq]
  show _ ↔ _ ∨ z ∈ [xs[i]]
  rw [List.mem_singleton]
theorem diffs_full {xs : List Str} : diffs xs xs.length = xs.length ↔ xs.Nodup := by
  have key : ∀ i, i ≤ xs.length → (diffs xs i = i ↔ (xs.take i).Nodup) := by
    intro i
    induction i with
    | zero => exact fun _ => ⟨fun _ => by rw [List.take_zero]; exact List.nodup_nil, fun _ => rfl⟩
    | succ i ih =>
      intro hi
      have hlt : i < xs.length := hi
      have ih := ih (Nat.le_of_lt hlt)
      have le := diffs_le xs i
      have e2 : xs.take (i + 1) = xs.take i ++ [xs[i]] := by rw [List.take_add_one, List.getElem?_eq_getElem hlt]; rfl
      have un : diffs xs (i + 1) = if memB xs i (xs.getD i Str.empty) = true then diffs xs i else diffs xs i + 1 := rfl
      rw [un, e2, List.nodup_append, getD_at hlt]
      by_cases m : memB xs i xs[i] = true
      · rw [if_pos m]
        have m := memB_iff.mp m
        exact ⟨fun h => by omega, fun ⟨_, _, h⟩ => absurd rfl (h _ m _ (List.mem_singleton.mpr rfl))⟩
      · rw [if_neg m]
        have m : ¬ xs[i] ∈ xs.take i := fun h => m (memB_iff.mpr h)
        constructor
        · intro h
          refine ⟨ih.mp (by omega), by simp, fun a ha b hb e => m ?_⟩
          rw [← List.mem_singleton.mp hb, ← e]
          exact ha
        · rintro ⟨h, _, _⟩
          rw [ih.mpr h]
  have := key xs.length (Nat.le_refl _)
  rwa [List.take_length] at this
theorem diffs_lt {xs : List Str} : diffs xs xs.length < xs.length ↔ ¬ xs.Nodup := by
  rw [← diffs_full]
  have := diffs_le xs xs.length
  omega
section
variable {prog : Program} {w : World} {A : Around} {R : Result → Shared → Prop} {It : Addr} {fp wr : List Addr} {G : Array GenState → Array GenState → Prop} {n : Nat} {Pv : Nat → Value → Prop} {St : Nat → Shared → Prop}
theorem loop_texts (W : WalksS prog w A.in1 It fp wr G n Pv St) {S : Addr} (off : S ∉ fp) {xs : List Str} (hn : xs.length = n) (few : n + 1 < scanBound) (vals : ∀ i v, Pv i v → ∃ t, v = .str (xs.getD i Str.empty) t) (m : Nat) :
    ∀ (i : Nat) (s : Shared), i + m = n → St i s → s.heap.SetOf (PySem.strKind prog w) S (memB xs i) (diffs xs i) →
      (∀ s1, Moved (S :: wr) G s s1 → s1.heap.SetOf (PySem.strKind prog w) S (memB xs n) (diffs xs n) → R (.ok (.ret .none)) s1) → codeAny (model prog w) A (.builtin "set.update.loop" ⟨[.ref S, .ref It], []⟩) R s := by
  have offW : S ∉ wr := fun h => off (W.sub _ h)
  have up : ∀ b, b ∈ wr → b ∈ S :: wr := fun b h => .tail _ h
  have keep : ∀ {s1 s2 : Shared} {f : Str → Bool} {c : Nat}, Moved wr G s1 s2 → s1.heap.SetOf (PySem.strKind prog w) S f c → s2.heap.SetOf (PySem.strKind prog w) S f c := fun mv ⟨o, es, ep, t, ho, q⟩ => ⟨o, es, ep, t, mv.heap S _ offW ho, q⟩
  induction m with
  | zero =>
    intro i s e at_ hS kR
    obtain rfl : i = n := by omega
    refine codeAny_builtin PyProof.Rows.F.entry_set_update_loop ?_; rw [Around.under_plainId PyProof.Rows.F.plain_set_update_loop _]; show wpAny _ A.in1 (pyNext (.ref It) >>= _) _ _ s
    exact wpAny_bind (W.done s _ _ at_ fun s1 mv => wpAny_pure (kR s1 (mv.mono up) (keep mv hS)))
  | succ m ih =>
    intro i s e at_ hS kR
    have lt : i < n := by omega
    refine codeAny_builtin PyProof.Rows.F.entry_set_update_loop ?_; rw [Around.under_plainId PyProof.Rows.F.plain_set_update_loop _]; show wpAny _ A.in1 (pyNext (.ref It) >>= _) _ _ s
    refine wpAny_bind (W.item i s _ _ lt at_ fun v s1 pv at1 mv => ?_)
    obtain ⟨t, rfl⟩ := vals i v pv; have hS1 := keep mv hS
    show wpAny _ A.in1 (holding [Value.str (xs.getD i Str.empty) t] (setAdd S (.str (xs.getD i Str.empty) t)) >>= _) _ _ s1
    refine wpAny_bind (wpAny_holding ?_); unfold setAdd
    refine wpAny_holding (wpAny_bind ((PySem.strKind prog w).pyHash (k := xs.getD i Str.empty) (strKind_is _ _ _ _) ?_))
    have room : diffs xs i + 1 < scanBound := by have := diffs_le xs i; omega
    refine wpAny_setAddHashed_of (knd := PySem.strKind prog w) (s := { s1 with toks := s1.toks + 1 }) (strKind_is _ _ _ _) rfl hS1 room fun h2 sb hS2 => ?_
    have hS3 : h2.SetOf (PySem.strKind prog w) S (memB xs (i + 1)) (diffs xs (i + 1)) := PyProof.Rows.SetOf_congr hS2 (fun z => memB_succ (by omega) z) rfl
    have st : ∀ b, b ≠ S → h2.get? b = s1.heap.get? b := fun b nb => sb.2 b nb
    refine wpAny_pure ⟨plainId_quiet PyProof.Rows.F.plain_set_update_loop _, ih (i + 1) _ (by omega) (W.frame _ s1 _ _ at1 (Nat.le_succ _) fun b hb o eo => (st b fun q => off (q ▸ hb)).trans eo) hS3 fun s2 mv2 hS4 => ?_⟩
    exact kR s2 (Moved.trans W.gtrans ((mv.mono up).then_heap (Nat.le_succ _) fun b o hb eo => (st b fun q => hb (q ▸ List.mem_cons_self)).trans eo) mv2) hS4
end
end Wx

set_option maxHeartbeats 6400000
namespace Wx
open PySem PySem.Spec PyProof.Rows

/-- the heap with the new set behind it -/
abbrev setNew (h : Heap) (led : Bool) : Heap := h.push { cls := .type "set", dict := none, data := .set #[] 0 (.fresh 0 0 led) }
section
variable {prog : Program} {w : World} {A : Around} {E : Value → Shared → Prop} {s : Shared}

theorem texts_set_list {l : Addr} {items : Array Value} {xs : List Str} {Q : Value → Shared → Prop} (hh : A.handled = none) (src : s.heap.IsList l items) (hi : StrsAre items.toList xs) (few : xs.length + 1 < scanBound)
    (fin : ∀ (h2 : Heap) (tk : Nat), h2.SetOf (PySem.strKind prog w) s.heap.objs.size (memB xs xs.length) (diffs xs xs.length) → (∀ b o, b < s.heap.objs.size → s.heap.get? b = some o → h2.get? b = some o) →
      Q (.ref s.heap.objs.size) { s with heap := h2, toks := tk }) : wpAny (model prog w) A (call (.type "set") [.ref l]) Q E s := by
  obtain ⟨c, tl, mro⟩ := PySem.F.called_set.mro; have f1 := PySem.F.called_set.made; have f2 := PySem.F.called_set.sub
  refine wpAny_call (codeAny_of_tree ?_); show wpAny _ _ (callAny (.type "set") _) _ _ _
  refine wpAny_pure ⟨Code.quiet_builtin _ (by decide +kernel), codeAny_builtin PySem.F.entry_type_call ?_⟩; rw [Around.under_plain (weight_type_call_type "set" [.ref l] []) rfl]
  have f3 := PySem.F.called_set.notType; have f4 := PySem.F.called_set.canCreate; have f5 := PySem.F.typeCall_set_1 (.ref l)
  have n1 : xs.length = items.size := by rw [← StrsAre.len_eq hi]; exact Array.length_toList
  (repeat (any_goals (first | assumption | wp_step)))
  refine codeAny_mono (code_set_new_1 (.ref l) (E := E) (Q₁ := fun ob s2 => ∃ led : Bool, ob = .ref s.heap.objs.size ∧ s2 = { s with heap := setNew s.heap led }) fun led => ⟨led, rfl, rfl⟩) fun r s2 hr => ?_
  rcases r with e | fl
  · exact hr
  cases fl with
  | ret ob =>
    obtain ⟨led, rfl, rfl⟩ := hr
    have g0 : (setNew s.heap led).get? s.heap.objs.size = some { cls := .type "set", dict := none, data := .set #[] 0 (.fresh 0 0 led) } := Heap.get?_push_size _ rfl
    have t0 : Shared.TypeIs { s with heap := setNew s.heap led } (.ref s.heap.objs.size) "set" := ⟨_, g0, rfl⟩
    have f6 := PySem.F.called_set.init.lookup; have f7 := PySem.F.called_set.init.bind (.ref s.heap.objs.size)
    (repeat (any_goals (first | assumption | wp_step)))
    refine codeAny_mono (codeAny_call_builtin (R := wants (fun r s3 => r = .none ∧ ∃ h2 tk, s3 = { s with heap := h2, toks := tk } ∧ h2.SetOf (PySem.strKind prog w) s.heap.objs.size (memB xs xs.length) (diffs xs xs.length) ∧
      ∀ b o, b < s.heap.objs.size → s.heap.get? b = some o → h2.get? b = some o) E) PySem.F.called_set.init.plain PySem.F.entry_set_init (check_set_init_1 t0 ?_)) fun r3 s3 hr3 => ?_
    · obtain ⟨⟨ocls, odict, odata, oslots⟩, ho, hc, nl, hd⟩ := src; simp only at hc hd; subst hc; subst hd
      have lt := Heap.lt_size ho
      have ho2 : (setNew s.heap led).get? l = some { cls := .type "list", dict := odict, data := .seq items nl, slots := oslots } := Heap.get?_push_of_some _ ho
      have f8 := PySem.F.sub_list_set; have f9 := PySem.F.sub_list_frozenset
      have f10 : (Value.type "list" == Value.type "dict") = false := by decide
      have src2 : (setNew s.heap led).IsList l items := ⟨_, ho2, rfl, nl, rfl⟩
      unfold Builtin.«set.__init__» noKeywords Builtin.Frozenset.updateFrom; generalize hPI : pyIter = PI; wp_walk; subst hPI
      refine wpAny_pyIter_list src2 (wpAny_bind (wpAny_runValue ?_))
      have ln : l ≠ (setNew s.heap led).objs.size := by rw [Heap.size_push]; exact Nat.ne_of_lt (Nat.lt_succ_of_lt lt)
      have off : s.heap.objs.size ∉ [(setNew s.heap led).objs.size, l] := fun q => by
        rcases List.mem_cons.mp q with q | q
        · rw [Heap.size_push] at q
          exact absurd q (Nat.ne_of_lt (Nat.lt_succ_self _))
        · exact absurd (List.mem_singleton.mp q) (Nat.ne_of_gt lt)
      have vals : ∀ (i : Nat) (v : Value), items[i]? = some v → ∃ t, v = .str (xs.getD i Str.empty) t := fun i v hv => SS.strs_at hi i v (by rw [Array.getElem?_toList]; exact hv)
      refine loop_texts ((Walks.list (by simp [hh]) _ l ln items).toS) off n1 (by rw [← n1]; exact few) vals items.size 0 _ (by omega) ⟨⟨_, Heap.get?_push_size _ rfl, rfl, rfl⟩, (src2.push _)⟩ ?first ?last
      case first =>
        have g1 := Heap.get?_push_of_some { cls := .type "list_iterator", data := .fields #[.ref l, .int 0 0] } g0
        exact PyProof.Rows.SetOf_congr ((PyProof.Rows.setObjOf_fresh (knd := PySem.strKind prog w) led).setOf g1 (by unfold scanBound; omega)) (fun _ => rfl) rfl
      case last =>
        rintro ⟨h2, g2, d2, tk2, os2⟩ mv hS; have e1 : g2 = s.gens := mv.gens; have e2 : d2 = s.drawn := mv.drawn; have e3 : os2 = s.os := mv.os; subst e1 e2 e3
        show wpAny _ _ _ _ _ _; refine wpAny_pure ?_; show wpAny _ _ (ret Value.none) _ _ _
        rw [← n1] at hS
        refine wpAny_pure ⟨rfl, h2, tk2, rfl, hS, fun b o lb eb => mv.heap b o (fun q => ?_) (Heap.get?_push_of_some _ (Heap.get?_push_of_some _ eb))⟩
        rcases List.mem_cons.mp q with q | q
        · exact absurd q (Nat.ne_of_lt lb)
        · have q := List.mem_singleton.mp q
          rw [Heap.size_push] at q
          exact absurd q (Nat.ne_of_lt (Nat.lt_succ_of_lt lb))
    · rcases r3 with e | fl3
      · exact hr3
      cases fl3 with
      | ret r3 =>
        obtain ⟨rfl, h2, tk, rfl, hS, kp⟩ := hr3; (repeat (any_goals (first | assumption | wp_step)))
        exact fin _ _ hS kp
      | _ => exact hr3.elim
  | _ => exact hr.elim

theorem texts_set_tuple {l : Addr} {items : Array Value} {xs : List Str} {Q : Value → Shared → Prop} (hh : A.handled = none) (src : s.heap.IsTuple l items) (hi : StrsAre items.toList xs) (few : xs.length + 1 < scanBound)
    (fin : ∀ (h2 : Heap) (tk : Nat), h2.SetOf (PySem.strKind prog w) s.heap.objs.size (memB xs xs.length) (diffs xs xs.length) → (∀ b o, b < s.heap.objs.size → s.heap.get? b = some o → h2.get? b = some o) →
      Q (.ref s.heap.objs.size) { s with heap := h2, toks := tk }) : wpAny (model prog w) A (call (.type "set") [.ref l]) Q E s := by
  obtain ⟨c, tl, mro⟩ := PySem.F.called_set.mro; have f1 := PySem.F.called_set.made; have f2 := PySem.F.called_set.sub
  refine wpAny_call (codeAny_of_tree ?_); show wpAny _ _ (callAny (.type "set") _) _ _ _
  refine wpAny_pure ⟨Code.quiet_builtin _ (by decide +kernel), codeAny_builtin PySem.F.entry_type_call ?_⟩; rw [Around.under_plain (weight_type_call_type "set" [.ref l] []) rfl]
  have f3 := PySem.F.called_set.notType; have f4 := PySem.F.called_set.canCreate; have f5 := PySem.F.typeCall_set_1 (.ref l)
  have n1 : xs.length = items.size := by rw [← StrsAre.len_eq hi]; exact Array.length_toList
  (repeat (any_goals (first | assumption | wp_step)))
  refine codeAny_mono (code_set_new_1 (.ref l) (E := E) (Q₁ := fun ob s2 => ∃ led : Bool, ob = .ref s.heap.objs.size ∧ s2 = { s with heap := setNew s.heap led }) fun led => ⟨led, rfl, rfl⟩) fun r s2 hr => ?_
  rcases r with e | fl
  · exact hr
  cases fl with
  | ret ob =>
    obtain ⟨led, rfl, rfl⟩ := hr
    have g0 : (setNew s.heap led).get? s.heap.objs.size = some { cls := .type "set", dict := none, data := .set #[] 0 (.fresh 0 0 led) } := Heap.get?_push_size _ rfl
    have t0 : Shared.TypeIs { s with heap := setNew s.heap led } (.ref s.heap.objs.size) "set" := ⟨_, g0, rfl⟩
    have f6 := PySem.F.called_set.init.lookup; have f7 := PySem.F.called_set.init.bind (.ref s.heap.objs.size)
    (repeat (any_goals (first | assumption | wp_step)))
    refine codeAny_mono (codeAny_call_builtin (R := wants (fun r s3 => r = .none ∧ ∃ h2 tk, s3 = { s with heap := h2, toks := tk } ∧ h2.SetOf (PySem.strKind prog w) s.heap.objs.size (memB xs xs.length) (diffs xs xs.length) ∧
      ∀ b o, b < s.heap.objs.size → s.heap.get? b = some o → h2.get? b = some o) E) PySem.F.called_set.init.plain PySem.F.entry_set_init (check_set_init_1 t0 ?_)) fun r3 s3 hr3 => ?_
    · obtain ⟨⟨ocls, odict, odata, oslots⟩, ho, hc, nl, hd⟩ := src; simp only at hc hd; subst hc; subst hd
      have lt := Heap.lt_size ho
      have ho2 : (setNew s.heap led).get? l = some { cls := .type "tuple", dict := odict, data := .seq items nl, slots := oslots } := Heap.get?_push_of_some _ ho
      have f8 := PySem.F.sub_tuple_set; have f9 := PySem.F.sub_tuple_frozenset
      have f10 : (Value.type "tuple" == Value.type "dict") = false := by decide
      have src2 : (setNew s.heap led).IsTuple l items := ⟨_, ho2, rfl, nl, rfl⟩
      unfold Builtin.«set.__init__» noKeywords Builtin.Frozenset.updateFrom; generalize hPI : pyIter = PI; wp_walk; subst hPI
      refine wpAny_pyIter_tuple src2 (wpAny_bind (wpAny_runValue ?_))
      have ln : l ≠ (setNew s.heap led).objs.size := by rw [Heap.size_push]; exact Nat.ne_of_lt (Nat.lt_succ_of_lt lt)
      have off : s.heap.objs.size ∉ [(setNew s.heap led).objs.size, l] := fun q => by
        rcases List.mem_cons.mp q with q | q
        · rw [Heap.size_push] at q
          exact absurd q (Nat.ne_of_lt (Nat.lt_succ_self _))
        · exact absurd (List.mem_singleton.mp q) (Nat.ne_of_gt lt)
      have vals : ∀ (i : Nat) (v : Value), items[i]? = some v → ∃ t, v = .str (xs.getD i Str.empty) t := fun i v hv => SS.strs_at hi i v (by rw [Array.getElem?_toList]; exact hv)
      refine loop_texts ((Walks.tuple (by simp [hh]) _ l ln items).toS) off n1 (by rw [← n1]; exact few) vals items.size 0 _ (by omega) ⟨⟨_, Heap.get?_push_size _ rfl, rfl, rfl⟩, (src2.push _)⟩ ?first ?last
      case first =>
        have g1 := Heap.get?_push_of_some { cls := .type "tuple_iterator", data := .fields #[.ref l, .int 0 0] } g0
        exact PyProof.Rows.SetOf_congr ((PyProof.Rows.setObjOf_fresh (knd := PySem.strKind prog w) led).setOf g1 (by unfold scanBound; omega)) (fun _ => rfl) rfl
      case last =>
        rintro ⟨h2, g2, d2, tk2, os2⟩ mv hS; have e1 : g2 = s.gens := mv.gens; have e2 : d2 = s.drawn := mv.drawn; have e3 : os2 = s.os := mv.os; subst e1 e2 e3
        show wpAny _ _ _ _ _ _; refine wpAny_pure ?_; show wpAny _ _ (ret Value.none) _ _ _
        rw [← n1] at hS
        refine wpAny_pure ⟨rfl, h2, tk2, rfl, hS, fun b o lb eb => mv.heap b o (fun q => ?_) (Heap.get?_push_of_some _ (Heap.get?_push_of_some _ eb))⟩
        rcases List.mem_cons.mp q with q | q
        · exact absurd q (Nat.ne_of_lt lb)
        · have q := List.mem_singleton.mp q
          rw [Heap.size_push] at q
          exact absurd q (Nat.ne_of_lt (Nat.lt_succ_of_lt lb))
    · rcases r3 with e | fl3
      · exact hr3
      cases fl3 with
      | ret r3 =>
        obtain ⟨rfl, h2, tk, rfl, hS, kp⟩ := hr3; (repeat (any_goals (first | assumption | wp_step)))
        exact fin _ _ hS kp
      | _ => exact hr3.elim
  | _ => exact hr.elim
end
end Wx
namespace Wx
open PySem PySem.Spec PyProof.Rows L2
/-- len(set(xs)), xs a list or tuple of texts -/
def tDiffs (K : PySem.W.Frag) (ta : TE) : TE := fun σ H Q => ta σ H fun x H1 => ∃ (l : Addr) (xs : List Str), x = .ref l ∧ (SqL K H1 l (xs.map V.str) ∨ SqT K H1 l (xs.map V.str)) ∧ xs.length ≤ 1000 ∧ Q (.int (diffs xs xs.length : Nat)) H1
section
variable {X : Cx}
theorem pe_diffs {a : Expr} {ta : TE} {p p2 q pos : Pos} (hc : X.calm = true) (hg : Gl X "len") (hm : X.mg "len" = none) (hg2 : Gl X "set") (hm2 : X.mg "set" = none) (ha : PE X a ta)
    (one : starEach [a] X.env = (false, eval a X.env) :: starEach [] X.env := by rfl) : PE X (.Call (.Name "len" p) [.Call (.Name "set" p2) [a] [] q] [] pos) (tDiffs X.K ta) := by
  refine ⟨fun pins s σ H Q I h => Call_ (ld_blt I hg hm boot_len (PyProof.Rows.callWith_builtin1 (PyProof.Rows.args_cons ?_ rfl) rfl rfl))⟩
  refine Call_ (ld_blt I hg2 hm2 boot_set (PyProof.Rows.callWith_type1 (PyProof.Rows.args_cons (thn (ha.run pins s σ H _ I h) fun v s1 ⟨x, H1, I1, r1, l, xs, ex, hq, hl, k⟩ => PyProof.Rows.args_nil ?_) one) one rfl))
  subst ex; obtain rfl : v = Value.ref l := r1
  have le := diffs_le xs xs.length
  have fin : ∀ (h2 : Heap) (tk : Nat), h2.SetOf (PySem.strKind X.prog X.w) s1.heap.objs.size (memB xs xs.length) (diffs xs xs.length) → (∀ b o, b < s1.heap.objs.size → s1.heap.get? b = some o → h2.get? b = some o) →
      wpAny (model X.prog X.w) X.A (spliced (backTo pos (starEach [] X.env))) (fun vs s2 => wpAny (model X.prog X.w) X.A (call (.builtin "len") (Value.ref s1.heap.objs.size :: vs)) (EP X pins σ Q) X.xe s2) X.xe { s1 with heap := h2, toks := tk } := fun h2 tk ⟨o, es, ep, t, ho, hx, hd, _, _, _, hf, hn⟩ kp => by
    have I2 : Inv X pins σ H1 { s1 with heap := h2, toks := tk } := I1.kept fun b o e => kp b o (Heap.lt_size e) e
    exact PyProof.Rows.args_nil (call_len_set ho hx hd hf (by rw [hn] <;> omega) ⟨.int (diffs xs xs.length : Nat), H1, I2.tok _, ⟨_, by rw [hn]⟩, k⟩)
  have few : xs.length + 1 < scanBound := by unfold scanBound; omega
  rcases hq with hq | hq
  · obtain ⟨its, r, pl, _⟩ := I1.list hq
    exact texts_set_list (I1.ok.hd hc) pl.isList (by simpa using strsAre_of r) few fin
  · obtain ⟨its, r, pl, _⟩ := I1.tuple hq
    exact texts_set_tuple (I1.ok.hd hc) pl (by simpa using strsAre_of r) few fin
end
end Wx

/-! x in o by an own __contains__; comprehensions with two clauses (own work) -/
namespace Wx
open PySem PySem.Spec PyProof.Rows L2
/-- y in x, x an instance whose own __contains__ answers True or False -/
def rInO (C : Addr) (sp : Sp) (E : XK) : R2 := fun y x H Q => ∃ (a dx : Addr) (fs : List (Str × V)), x = .ref a ∧ H a = some (.ins C dx fs) ∧ sp [x, y] H (fun z H' => ∃ b, z = .bl b ∧ Q (.bl b) H') E
section
variable {X : Cx} {CX : CXT} {C f : Addr} {n : Nat} {fd : FuncData} {ps : List Str} {sp : Sp} {E : XK}
theorem op_inO (F : FnOk X.prog X.w X.K X.mg X.base CX n f fd ps sp) (hr : Room n X.A) (hs : PySem.W.findIn X.K (.ref C) "__contains__" = some (some (.ref f))) (hf : PySem.W.isFn X.K (.ref f) = true) (hb : Binds X.K fd ps []) (hx : Passes CX X E) : OpR X (compareOp .In) (rInO C sp E) := by
  intro pins s σ H y x v u Q I ry rx h
  obtain ⟨a, dx, fs, rfl, ha, q⟩ := h
  cases (show u = Value.ref a from rx)
  obtain ⟨mA, J, _⟩ := ins_get I.hok ha
  obtain ⟨od, J, _⟩ := J.look
  obtain ⟨m, hF⟩ := I.fr
  refine PySem.W.in_K hF I.ok.mod.kin J hs hf ?_
  refine wpAny_mono (run_two (us := [.ref a, v]) (vs := [.ref a, y]) F hr I.env0 hb hx I (.cons rfl (.cons ry .nil)) q) (fun w s' z => ?_) fun _ _ x => x
  obtain ⟨z', H', I', rz, k, ez, qz⟩ := z
  subst ez
  cases (show w = Value.bool k from rz)
  exact wpAny_truthy_bool ⟨.bl k, H', I', rfl, qz⟩
end
section
variable {J : It} {n : Nat} {G : Hp → Prop} {Y : Nat → Hp → V → Hp → Prop}
/-- the first clause of two -/
theorem lc2_it (w : Walk J n G Y) {g : TG} {tt : TT} {vs : List Nat} {σ : L2.St} {H1 : Hp} {D : Addr} {Qd : Hp → Prop} {F : (Hp → Prop) → L2.St → Hp → Prop} (Pv : Nat → Hp → Prop) (h0 : Pv 0 (upd H1 D (.lst []))) (hG : ∀ i H, i ≤ n → Pv i H → G H)
    (hs : ∀ i x H H', i < n → Pv i H → Y i H x H' → g x (wipe σ vs) H' fun σ2 H2 => wipe σ2 vs = wipe σ vs ∧ tt σ2 H2 fun b H3 => if b = true then F (Pv (i + 1)) σ2 H3 else Pv (i + 1) H3) (hd : ∀ H, Pv n H → Qd H) :
    ∃ W : Nat → Nat → Hp → Prop, (∃ m, W 0 m (upd H1 D (.lst []))) ∧ ∀ i m H, W i m H →
      (J.stop i H ∧ Qd H) ∨ (J.go i H ∧ ∃ Nx : Hp → Prop, (∀ H', Nx H' → ∃ m', m' < m ∧ W (i + 1) m' H') ∧ ∀ x H', J.yld i H x H' → g x (wipe σ vs) H' fun σ2 H2 => wipe σ2 vs = wipe σ vs ∧ tt σ2 H2 fun b H3 =>
        if b = true then F Nx σ2 H3 else Nx H3) := by
  refine ⟨fun i m H => m = n - i ∧ i ≤ n ∧ Pv i H, ⟨n, by simp, Nat.zero_le _, h0⟩, ?_⟩
  rintro i m H ⟨rfl, hi, p⟩
  have q := hG i H hi p
  by_cases hlt : i < n
  · exact .inr ⟨w.goes i H hlt q, Pv (i + 1), fun H' p' => ⟨n - (i + 1), by omega, rfl, hlt, p'⟩, fun x H' y => hs i x H H' hlt p (w.yields i H x H' hlt q y)⟩
  · have e : i = n := by omega
    subst e
    exact .inl ⟨w.stops H q, hd H p⟩
/-- the second clause of two -/
theorem lcIn_it (w : Walk J n G Y) {g1 : TG} {tt1 : TT} {te : TE} {vs1 : List Nat} {σ2 : L2.St} {H4 : Hp} {D : Addr} {Nx : Hp → Prop} (Pv : Nat → Hp → Prop) (h0 : Pv 0 H4) (hG : ∀ i H, i ≤ n → Pv i H → G H)
    (hs : ∀ j x H H', j < n → Pv j H → Y j H x H' → g1 x (wipe σ2 vs1) H' fun σ3 H5 => wipe σ3 vs1 = wipe σ2 vs1 ∧ tt1 σ3 H5 fun b H6 =>
      if b = true then te σ3 H6 fun y H7 => ∃ acc, H7 D = some (.lst acc) ∧ acc.length < sizeLine ∧ Pv (j + 1) (upd H7 D (.lst (acc ++ [y]))) else Pv (j + 1) H6) (hd : ∀ H, Pv n H → Nx H) :
    ∃ W1 : Nat → Nat → Hp → Prop, (∃ m, W1 0 m H4) ∧ ∀ j k H, W1 j k H →
      (J.stop j H ∧ Nx H) ∨ (J.go j H ∧ ∃ Nx1 : Hp → Prop, (∀ H', Nx1 H' → ∃ k', k' < k ∧ W1 (j + 1) k' H') ∧ ∀ x H', J.yld j H x H' → g1 x (wipe σ2 vs1) H' fun σ3 H5 => wipe σ3 vs1 = wipe σ2 vs1 ∧ tt1 σ3 H5 fun b H6 =>
        if b = true then te σ3 H6 fun y H7 => ∃ acc, H7 D = some (.lst acc) ∧ acc.length < sizeLine ∧ Nx1 (upd H7 D (.lst (acc ++ [y]))) else Nx1 H6) := by
  refine ⟨fun i m H => m = n - i ∧ i ≤ n ∧ Pv i H, ⟨n, by simp, Nat.zero_le _, h0⟩, ?_⟩
  rintro i m H ⟨rfl, hi, p⟩
  have q := hG i H hi p
  by_cases hlt : i < n
  · exact .inr ⟨w.goes i H hlt q, Pv (i + 1), fun H' p' => ⟨n - (i + 1), by omega, rfl, hlt, p'⟩, fun x H' y => hs i x H H' hlt p (w.yields i H x H' hlt q y)⟩
  · have e : i = n := by omega
    subst e
    exact .inl ⟨w.stops H q, hd H p⟩
end
end Wx

/-! mathematics of groups of names (own work): sorted texts, lines, what is outermost -/
namespace Gm
open PySem PySem.Spec PyProof.Rows
abbrev cds (z : Str) : List Nat := z.cps.toList
theorem str_ext {a b : Str} (h : cds a = cds b) : a = b := Str.ext' (Array.toList_inj.mp h)
theorem cds_len (z : Str) : (cds z).length = z.length := Array.length_toList
theorem lt_irr : ∀ a : List Nat, ltCps a a = false
  | [] => rfl
  | a :: r => by
    have h := lt_irr r
    show (decide (a < a) || (a == a && ltCps r r)) = false
    rw [h]
    simp
theorem lt_cons {a b : Nat} {r t : List Nat} : ltCps (a :: r) (b :: t) = true ↔ a < b ∨ (a = b ∧ ltCps r t = true) := by
  show (decide (a < b) || (a == b && ltCps r t)) = true ↔ _
  rw [Bool.or_eq_true, Bool.and_eq_true, decide_eq_true_eq, beq_iff_eq]
theorem lt_consF {a b : Nat} {r t : List Nat} : ltCps (a :: r) (b :: t) = false ↔ ¬ a < b ∧ (a = b → ltCps r t = false) := by
  rw [← Bool.not_eq_true, lt_cons]
  constructor
  · intro h
    refine ⟨fun q => h (.inl q), fun e => ?_⟩
    cases k : ltCps r t with
    | false => rfl
    | true => exact absurd (.inr ⟨e, k⟩) h
  · rintro ⟨h1, h2⟩ (h | ⟨h, k⟩)
    · exact h1 h
    · rw [h2 h] at k
      cases k
theorem lt_asym : ∀ a b : List Nat, ltCps a b = true → ltCps b a = false
  | [], [], h => by cases h
  | [], _ :: _, _ => rfl
  | _ :: _, [], h => by cases h
  | a :: r, b :: t, h => by
    rcases lt_cons.mp h with h | ⟨h, k⟩
    · exact lt_consF.mpr ⟨by omega, fun e => by omega⟩
    · exact lt_consF.mpr ⟨by omega, fun _ => lt_asym r t k⟩
theorem lt_anti : ∀ a b : List Nat, ltCps a b = false → ltCps b a = false → a = b
  | [], [], _, _ => rfl
  | [], _ :: _, h, _ => by cases h
  | _ :: _, [], _, h => by cases h
  | a :: r, b :: t, h, k => by
    obtain ⟨h1, h2⟩ := lt_consF.mp h
    obtain ⟨k1, k2⟩ := lt_consF.mp k
    have e : a = b := by omega
    subst e
    rw [lt_anti r t (h2 rfl) (k2 rfl)]
theorem lt_tr : ∀ a b c : List Nat, ltCps b a = false → ltCps c b = false → ltCps c a = false
  | [], _, [], _, _ => rfl
  | [], _, _ :: _, _, _ => rfl
  | _ :: _, [], _, h, _ => by cases h
  | _ :: _, _ :: _, [], _, h => by cases h
  | a :: r, b :: t, c :: u, h, k => by
    obtain ⟨h1, h2⟩ := lt_consF.mp h
    obtain ⟨k1, k2⟩ := lt_consF.mp k
    exact lt_consF.mpr ⟨by omega, fun e => lt_tr r t u (h2 (by omega)) (k2 (by omega))⟩
/-- a is not behind b -/
def leT (a b : Str) : Prop := ltCps (cds b) (cds a) = false
theorem leT_refl (a : Str) : leT a a := lt_irr _
theorem leT_tr {a b c : Str} (h : leT a b) (k : leT b c) : leT a c := lt_tr _ _ _ h k
theorem leT_anti {a b : Str} (h : leT a b) (k : leT b a) : a = b := str_ext (lt_anti _ _ k h)
theorem rising_pw : ∀ (l : List Str) (p : Str), risingS p l = true → (p :: l).Pairwise leT
  | [], p, _ => by simp
  | x :: r, p, h => by
    have h : (!ltCps (cds x) (cds p) && risingS x r) = true := h
    rw [Bool.and_eq_true, Bool.not_eq_true'] at h
    have ih := rising_pw r x h.2
    refine List.pairwise_cons.mpr ⟨fun y hy => ?_, ih⟩
    rcases List.mem_cons.mp hy with e | hy
    · rw [e]
      exact h.1
    · exact leT_tr h.1 ((List.pairwise_cons.mp ih).1 y hy)
theorem sorted_pw : ∀ {l : List Str}, sortedS l = true → l.Pairwise leT
  | [], _ => List.Pairwise.nil
  | x :: r, h => rising_pw r x h
theorem sort_eq : ∀ {xs ys : List Str}, xs.Perm ys → xs.Pairwise leT → ys.Pairwise leT → xs = ys
  | [], ys, p, _, _ => by rw [List.nil_perm.mp p]
  | x :: xs, [], p, _, _ => by
    have := p.length_eq
    simp at this
  | x :: xs, y :: ys, p, h, k => by
    obtain ⟨h1, h2⟩ := List.pairwise_cons.mp h
    obtain ⟨k1, k2⟩ := List.pairwise_cons.mp k
    have e : x = y := by
      have m1 : x ∈ y :: ys := p.subset List.mem_cons_self
      have m2 : y ∈ x :: xs := p.symm.subset List.mem_cons_self
      rcases List.mem_cons.mp m1 with e | m1
      · exact e
      · rcases List.mem_cons.mp m2 with e | m2
        · exact e.symm
        · exact leT_anti (h1 _ m2) (k1 _ m1)
    subst e
    rw [sort_eq (p.cons_inv) h2 k2]
def insS (x : Str) : List Str → List Str
  | [] => [x]
  | y :: r => if ltCps (cds y) (cds x) = true then y :: insS x r else x :: y :: r
def srt : List Str → List Str
  | [] => []
  | x :: r => insS x (srt r)
theorem insS_perm (x : Str) : ∀ l, (insS x l).Perm (x :: l)
  | [] => List.Perm.refl _
  | y :: r => by
    unfold insS
    split
    · exact ((insS_perm x r).cons y).trans (List.Perm.swap x y r)
    · exact List.Perm.refl _
theorem insS_pw {x : Str} : ∀ {l : List Str}, l.Pairwise leT → (insS x l).Pairwise leT
  | [], _ => by unfold insS; simp
  | y :: r, h => by
    obtain ⟨h1, h2⟩ := List.pairwise_cons.mp h
    unfold insS
    split
    · rename_i q
      refine List.pairwise_cons.mpr ⟨fun z hz => ?_, insS_pw h2⟩
      rcases List.mem_cons.mp ((insS_perm x r).subset hz) with e | m
      · rw [e]
        exact lt_asym _ _ q
      · exact h1 z m
    · rename_i q
      have q : leT x y := by
        cases k : ltCps (cds y) (cds x) with
        | false => exact k
        | true => exact absurd k q
      refine List.pairwise_cons.mpr ⟨fun z hz => ?_, h⟩
      rcases List.mem_cons.mp hz with e | m
      · rw [e]
        exact q
      · exact leT_tr q (h1 z m)
theorem srt_perm : ∀ l, (srt l).Perm l
  | [] => List.Perm.refl _
  | x :: r => (insS_perm x (srt r)).trans ((srt_perm r).cons x)
theorem srt_pw : ∀ l, (srt l).Pairwise leT
  | [] => List.Pairwise.nil
  | x :: r => insS_pw (srt_pw r)
theorem srt_uniq {xs ys : List Str} (p : ys.Perm xs) (h : sortedS ys = true) : ys = srt xs := sort_eq (p.trans (srt_perm xs).symm) (sorted_pw h) (srt_pw xs)
theorem srt_mem {l : List Str} {z : Str} : z ∈ srt l ↔ z ∈ l := (srt_perm l).mem_iff
theorem srt_len (l : List Str) : (srt l).length = l.length := (srt_perm l).length_eq
/-! ### lines -/
/-- one or more signs, no blank -/
def Word (z : Str) : Prop := 1 ≤ z.length ∧ z.length ≤ 8 ∧ ∀ c, c ∈ cds z → Unicode.isSpace c = false
abbrev lnk (ys : List Str) : Str := Txt.join " " ys
def lineOf (g : List Str) : Str := lnk (srt g)
theorem blank : cds (" " : Str) = [32] := by decide +kernel
theorem isSp : Unicode.isSpace 32 = true := by decide +kernel
theorem lnk_cds : ∀ ys : List Str, cds (lnk ys) = StrLaws.glueT [32] ys
  | [] => rfl
  | p :: r => by
    show (Builtin.Str.glued " " (p :: r)).cps.toList = _
    rw [StrLaws.glued_list, show (Str.ofString " ").cps.toList = [32] from blank]
theorem mk_push (run : Str) (c : Nat) (cs : List Nat) : (run ++ ⟨#[c]⟩ : Str) ++ ⟨cs.toArray⟩ = run ++ ⟨(c :: cs).toArray⟩ := by
  refine str_ext ?_
  show (((run ++ ⟨#[c]⟩ : Str) ++ ⟨cs.toArray⟩ : Str)).cps.toList = ((run ++ ⟨(c :: cs).toArray⟩ : Str)).cps.toList
  rw [Str.cps_append, Str.cps_append, Str.cps_append]
  simp
theorem fold_word : ∀ (cs : List Nat) (ws : List Str) (run : Str), (∀ c, c ∈ cs → Unicode.isSpace c = false) → cs.foldl KWd.step (ws, run) = (ws, run ++ ⟨cs.toArray⟩)
  | [], ws, run, _ => by
    have e : run ++ (⟨([] : List Nat).toArray⟩ : Str) = run := by
      refine str_ext ?_
      show ((run ++ (⟨([] : List Nat).toArray⟩ : Str) : Str)).cps.toList = _
      rw [Str.cps_append]
      simp
    rw [e]
    rfl
  | c :: cs, ws, run, h => by
    have e : KWd.step (ws, run) c = (ws, run ++ ⟨#[c]⟩) := by
      unfold KWd.step
      rw [if_neg (by rw [h c List.mem_cons_self]; exact Bool.false_ne_true)]
    rw [List.foldl_cons, e, fold_word cs ws _ (fun d hd => h d (List.mem_cons_of_mem _ hd)), mk_push]
theorem empty_app (z : Str) : Str.empty ++ (⟨(cds z).toArray⟩ : Str) = z := by
  refine str_ext ?_
  show ((Str.empty ++ (⟨(cds z).toArray⟩ : Str) : Str)).cps.toList = _
  rw [Str.cps_append]
  simp [Str.empty]
theorem fold_rest : ∀ (r : List Str) (ws : List Str) (run : Str), 1 ≤ run.length → (∀ z, z ∈ r → Word z) → KWd.fin ((StrLaws.glueL [32] r).foldl KWd.step (ws, run)) = ws ++ run :: r
  | [], ws, run, h, _ => by
    show KWd.fin (ws, run) = _
    unfold KWd.fin
    rw [if_neg (by show ¬ run.length = 0; omega)]
  | p :: r, ws, run, h, hv => by
    have hp := hv p List.mem_cons_self
    show KWd.fin (([32] ++ (p.cps.toList ++ StrLaws.glueL [32] r)).foldl KWd.step (ws, run)) = _
    have e : KWd.step (ws, run) 32 = (ws ++ [run], Str.empty) := by
      unfold KWd.step
      rw [if_pos isSp, if_neg (by show ¬ run.length = 0; omega)]
    rw [List.foldl_append, List.foldl_cons, List.foldl_nil, e, List.foldl_append, fold_word _ _ _ hp.2.2, empty_app, fold_rest r _ p hp.1 (fun z hz => hv z (List.mem_cons_of_mem _ hz))]
    simp
theorem words_lnk : ∀ {ys : List Str}, (∀ z, z ∈ ys → Word z) → Txt.words (lnk ys) = ys
  | [], _ => by
    rw [KWd.words_scan]
    rfl
  | p :: r, h => by
    have hp := h p List.mem_cons_self
    rw [KWd.words_scan]
    unfold KWd.scan
    rw [show (lnk (p :: r)).cps.toList = p.cps.toList ++ StrLaws.glueL [32] r from lnk_cds (p :: r), List.foldl_append, fold_word _ _ _ hp.2.2, empty_app, fold_rest r [] p hp.1 (fun z hz => h z (List.mem_cons_of_mem _ hz))]
    rfl
theorem glueL_len : ∀ (r : List Str), (∀ z, z ∈ r → z.length ≤ 8) → (StrLaws.glueL [32] r).length ≤ 9 * r.length
  | [], _ => Nat.zero_le _
  | p :: r, h => by
    have ih := glueL_len r fun z hz => h z (List.mem_cons_of_mem _ hz)
    have hp := h p List.mem_cons_self
    have e := cds_len p
    show ([32] ++ (p.cps.toList ++ StrLaws.glueL [32] r)).length ≤ _
    rw [List.length_append, List.length_append, List.length_cons, List.length_cons, List.length_nil]
    have e2 : p.cps.toList.length = p.length := cds_len p
    omega
theorem lnk_len {r : List Str} (h : ∀ z, z ∈ r → Word z) : (lnk r).length ≤ 9 * r.length := by
  rw [← cds_len, lnk_cds]
  cases r with
  | nil => exact Nat.zero_le _
  | cons p r =>
    have ih := glueL_len r fun z hz => (h z (List.mem_cons_of_mem _ hz)).2.1
    have hp := (h p List.mem_cons_self).2.1
    show (p.cps.toList ++ StrLaws.glueL [32] r).length ≤ _
    have e2 : p.cps.toList.length = p.length := cds_len p
    rw [List.length_append, List.length_cons]
    omega
theorem small_az {c : Nat} (h : 97 ≤ c ∧ c ≤ 122) : Unicode.isSpace c = false := by
  have key : ∀ k : Fin 26, Unicode.isSpace (97 + k.val) = false := by decide +kernel
  have := key ⟨c - 97, by omega⟩
  rwa [show 97 + (c - 97) = c by omega] at this
/-! ### what is outermost -/
def subB (r o : List Str) : Bool := r.all fun z => decide (z ∈ o)
theorem subB_iff {r o : List Str} : subB r o = true ↔ ∀ z, z ∈ r → z ∈ o := by
  unfold subB
  rw [List.all_eq_true]
  exact ⟨fun h z hz => of_decide_eq_true (h z hz), fun h z hz => decide_eq_true (h z hz)⟩
theorem subB_refl (r : List Str) : subB r r = true := subB_iff.mpr fun _ h => h
theorem subB_tr {a b c : List Str} (h : subB a b = true) (k : subB b c = true) : subB a c = true := subB_iff.mpr fun z hz => subB_iff.mp k z (subB_iff.mp h z hz)
theorem sub_len : ∀ {r o : List Str}, r.Nodup → (∀ z, z ∈ r → z ∈ o) → r.length ≤ o.length
  | [], _, _, _ => Nat.zero_le _
  | x :: r, o, n, h => by
    obtain ⟨n1, n2⟩ := List.nodup_cons.mp n
    have hx := h x List.mem_cons_self
    have ih := sub_len (r := r) (o := o.erase x) n2 fun z hz => (List.mem_erase_of_ne (fun e => n1 (by rw [← e]; exact hz))).mpr (h z (List.mem_cons_of_mem _ hz))
    have e := List.length_erase_of_mem hx
    have p := List.length_pos_of_mem hx
    rw [List.length_cons]
    omega
theorem sub_back : ∀ {r o : List Str}, r.Nodup → (∀ z, z ∈ r → z ∈ o) → o.length ≤ r.length → ∀ z, z ∈ o → z ∈ r
  | [], o, _, _, l => fun z hz => by
    have := List.length_pos_of_mem hz
    rw [List.length_nil] at l
    omega
  | x :: r, o, n, h, l => fun z hz => by
    obtain ⟨n1, n2⟩ := List.nodup_cons.mp n
    have hx := h x List.mem_cons_self
    by_cases e : z = x
    · rw [e]
      exact List.mem_cons_self
    · have el := List.length_erase_of_mem hx
      rw [List.length_cons] at l
      exact List.mem_cons_of_mem _ (sub_back (r := r) (o := o.erase x) n2 (fun y hy => (List.mem_erase_of_ne (fun e => n1 (by rw [← e]; exact hy))).mpr (h y (List.mem_cons_of_mem _ hy))) (by omega) z ((List.mem_erase_of_ne e).mpr hz))
def cov1 (i : Nat) (r : List Str) (n : Nat) (o : List Str) : Bool := decide (n ≠ i) && (subB r o && (decide (r.length < o.length) || decide (n < i)))
theorem cov1_iff {i : Nat} {r : List Str} {n : Nat} {o : List Str} : cov1 i r n o = true ↔ n ≠ i ∧ subB r o = true ∧ (r.length < o.length ∨ n < i) := by
  unfold cov1
  rw [Bool.and_eq_true, Bool.and_eq_true, Bool.or_eq_true, decide_eq_true_eq, decide_eq_true_eq, decide_eq_true_eq]
/-- the row at place i lies within another one that stands for it -/
def Cov (rows : List (List Str)) (i : Nat) (r : List Str) : Prop := ∃ n o, rows[n]? = some o ∧ cov1 i r n o = true
def Kept (rows : List (List Str)) (i : Nat) (r : List Str) : Prop := r ≠ [] ∧ ¬ Cov rows i r
open Classical in
noncomputable def out1 (rows : List (List Str)) (i : Nat) (r : List Str) : List (List Str) := if Kept rows i r then [r] else []
noncomputable def outs (rows : List (List Str)) : Nat → List (List Str)
  | 0 => []
  | n + 1 => outs rows n ++ (match rows[n]? with | some r => out1 rows n r | none => [])
theorem outs_snoc {rows : List (List Str)} {n : Nat} {r : List Str} (h : rows[n]? = some r) : outs rows (n + 1) = outs rows n ++ out1 rows n r := by
  show outs rows n ++ (match rows[n]? with | some r => out1 rows n r | none => []) = _
  rw [h]
theorem out1_pos {rows : List (List Str)} {n : Nat} {r : List Str} (h : Kept rows n r) : out1 rows n r = [r] := if_pos h
theorem out1_neg {rows : List (List Str)} {n : Nat} {r : List Str} (h : ¬ Kept rows n r) : out1 rows n r = [] := if_neg h
theorem outs_len (rows : List (List Str)) : ∀ n, (outs rows n).length ≤ n
  | 0 => Nat.le_refl _
  | n + 1 => by
    have ih := outs_len rows n
    cases h : rows[n]? with
    | none =>
      show (outs rows n ++ (match rows[n]? with | some r => out1 rows n r | none => [])).length ≤ _
      rw [h, List.append_nil]
      omega
    | some r =>
      rw [outs_snoc h, List.length_append]
      by_cases k : Kept rows n r
      · rw [out1_pos k]
        show _ + 1 ≤ _
        omega
      · rw [out1_neg k]
        show _ + 0 ≤ _
        omega
theorem mem_outs {rows : List (List Str)} {r : List Str} : ∀ {n : Nat}, r ∈ outs rows n ↔ ∃ i, i < n ∧ rows[i]? = some r ∧ Kept rows i r
  | 0 => by
    constructor
    · intro h
      cases h
    · rintro ⟨i, h, _⟩
      omega
  | n + 1 => by
    show r ∈ outs rows n ++ (match rows[n]? with | some r => out1 rows n r | none => []) ↔ _
    rw [List.mem_append, mem_outs]
    constructor
    · rintro (⟨i, h, e⟩ | h)
      · exact ⟨i, by omega, e⟩
      · cases e : rows[n]? with
        | none => rw [e] at h; cases h
        | some o =>
          rw [e] at h
          by_cases k : Kept rows n o
          · have h : r ∈ out1 rows n o := h
            rw [out1_pos k] at h
            have h := List.mem_singleton.mp h
            subst h
            exact ⟨n, by omega, e, k⟩
          · have h : r ∈ out1 rows n o := h
            rw [out1_neg k] at h
            cases h
    · rintro ⟨i, h, e, k⟩
      by_cases q : i = n
      · subst q
        right
        rw [e]
        show r ∈ out1 rows i r
        rw [out1_pos k]
        exact List.mem_singleton.mpr rfl
      · exact .inl ⟨i, by omega, e, k⟩
theorem outs_pw {rows : List (List Str)} {R : List Str → List Str → Prop} (h : ∀ i j r o, i < j → rows[i]? = some r → rows[j]? = some o → Kept rows i r → Kept rows j o → R r o) : ∀ n, (outs rows n).Pairwise R
  | 0 => List.Pairwise.nil
  | n + 1 => by
    have ih := outs_pw h n
    cases e : rows[n]? with
    | none =>
      show (outs rows n ++ (match rows[n]? with | some r => out1 rows n r | none => [])).Pairwise R
      rw [e, List.append_nil]
      exact ih
    | some o =>
      rw [outs_snoc e]
      by_cases k : Kept rows n o
      · rw [out1_pos k, List.pairwise_append]
        refine ⟨ih, by simp, fun a ha b hb => ?_⟩
        rw [List.mem_singleton.mp hb]
        obtain ⟨i, hi, ei, ki⟩ := mem_outs.mp ha
        exact h i n a o hi ei e ki k
      · rw [out1_neg k, List.append_nil]
        exact ih
/-- the groups of the lines, in their order -/
def rowsL (G : List (List Str)) : List (List Str) := (srt (G.map lineOf)).map Txt.words
noncomputable def outerG (G : List (List Str)) : List (List Str) := outs (rowsL G) (rowsL G).length
/-- groups of different words -/
def VG (G : List (List Str)) : Prop := ∀ g, g ∈ G → g.Nodup ∧ ∀ z, z ∈ g → Word z
theorem words_line {g : List Str} (h : ∀ z, z ∈ g → Word z) : Txt.words (lineOf g) = srt g := words_lnk fun z hz => h z (srt_mem.mp hz)
theorem rowsL_len (G : List (List Str)) : (rowsL G).length = G.length := by
  unfold rowsL
  rw [List.length_map, srt_len, List.length_map]
theorem rowsL_mem {G : List (List Str)} (h : VG G) {r : List Str} : r ∈ rowsL G ↔ ∃ g, g ∈ G ∧ r = srt g := by
  unfold rowsL
  rw [List.mem_map]
  constructor
  · rintro ⟨l, hl, rfl⟩
    obtain ⟨g, hg, rfl⟩ := List.mem_map.mp (srt_mem.mp hl)
    exact ⟨g, hg, words_line (h g hg).2⟩
  · rintro ⟨g, hg, rfl⟩
    exact ⟨lineOf g, srt_mem.mpr (List.mem_map.mpr ⟨g, hg, rfl⟩), words_line (h g hg).2⟩
def VRow (r : List Str) : Prop := r.Nodup ∧ r.Pairwise leT ∧ ∀ z, z ∈ r → Word z
theorem vrow_srt {g : List Str} (n : g.Nodup) (h : ∀ z, z ∈ g → Word z) : VRow (srt g) := ⟨(srt_perm g).symm.nodup n, srt_pw g, fun z hz => h z (srt_mem.mp hz)⟩
theorem rowsL_row {G : List (List Str)} (h : VG G) {r : List Str} (hr : r ∈ rowsL G) : VRow r := by
  obtain ⟨g, hg, rfl⟩ := (rowsL_mem h).mp hr
  exact vrow_srt (h g hg).1 (h g hg).2
theorem rowsL_lines {G : List (List Str)} (h : VG G) : (rowsL G).Pairwise fun a b => leT (lnk a) (lnk b) := by
  unfold rowsL
  rw [List.pairwise_map]
  refine (srt_pw (G.map lineOf)).imp_of_mem ?_
  intro a b ha hb hab
  obtain ⟨g, hg, rfl⟩ := List.mem_map.mp (srt_mem.mp ha)
  obtain ⟨o, ho, rfl⟩ := List.mem_map.mp (srt_mem.mp hb)
  rw [words_line (h g hg).2, words_line (h o ho).2]
  exact hab
/-- groups in their told form -/
def Canon (R : List (List Str)) : Prop := (∀ r, r ∈ R → r ≠ [] ∧ VRow r) ∧ (R.Pairwise fun a b => subB a b = false ∧ subB b a = false) ∧ R.Pairwise fun a b => leT (lnk a) (lnk b)
theorem outer_canon {G : List (List Str)} (h : VG G) : Canon (outerG G) := by
  refine ⟨fun r hr => ?_, outs_pw (fun i j r o hij hi hj ki kj => ?_) _, outs_pw (fun i j r o hij hi hj ki kj => ?_) _⟩
  · obtain ⟨i, _, hi, k⟩ := mem_outs.mp hr
    exact ⟨k.1, rowsL_row h (List.mem_of_getElem? hi)⟩
  · have nr := (rowsL_row h (List.mem_of_getElem? hi)).1
    have no := (rowsL_row h (List.mem_of_getElem? hj)).1
    constructor
    · cases e : subB r o with
      | false => rfl
      | true =>
        exfalso
        have l := sub_len nr (subB_iff.mp e)
        by_cases q : r.length < o.length
        · exact ki.2 ⟨j, o, hj, cov1_iff.mpr ⟨by omega, e, .inl q⟩⟩
        · exact kj.2 ⟨i, r, hi, cov1_iff.mpr ⟨by omega, subB_iff.mpr (sub_back nr (subB_iff.mp e) (by omega)), .inr hij⟩⟩
    · cases e : subB o r with
      | false => rfl
      | true => exact absurd ⟨i, r, hi, cov1_iff.mpr ⟨by omega, e, .inr hij⟩⟩ kj.2
  · have hlt := (List.getElem?_eq_some_iff.mp hi).1
    have hlt2 := (List.getElem?_eq_some_iff.mp hj).1
    have := List.pairwise_iff_getElem.mp (rowsL_lines h) i j hlt hlt2 hij
    rw [(List.getElem?_eq_some_iff.mp hi).2, (List.getElem?_eq_some_iff.mp hj).2] at this
    exact this
def dnB (R : List (List Str)) (t : List Str) : Bool := R.any fun r => subB t r
theorem dnB_iff {R : List (List Str)} {t : List Str} : dnB R t = true ↔ ∃ r, r ∈ R ∧ subB t r = true := by
  unfold dnB
  rw [List.any_eq_true]
theorem len_sum : ∀ {xs : List (List Str)} {r : List Str}, r ∈ xs → r.length ≤ (xs.map List.length).sum
  | [], _, h => by cases h
  | x :: xs, r, h => by
    rw [List.map_cons, List.sum_cons]
    rcases List.mem_cons.mp h with q | q
    · rw [q]; omega
    · have := len_sum q; omega
theorem climb {rows : List (List Str)} (hn : ∀ r, r ∈ rows → r.Nodup) {t : List Str} {L : Nat} (hL : ∀ r, r ∈ rows → r.length ≤ L) : ∀ (m : Nat) (i : Nat) (r : List Str), rows[i]? = some r → subB t r = true → (L - r.length) * rows.length + i ≤ m →
    ∃ j o, rows[j]? = some o ∧ subB t o = true ∧ ¬ Cov rows j o := by
  intro m
  induction m using Nat.strongRecOn with
  | _ m ih =>
    intro i r hi ht hm
    by_cases c : Cov rows i r
    · obtain ⟨j, o, hj, hc⟩ := c
      obtain ⟨c1, c2, c3⟩ := cov1_iff.mp hc
      have lr := hL r (List.mem_of_getElem? hi)
      have lo := hL o (List.mem_of_getElem? hj)
      have jl := (List.getElem?_eq_some_iff.mp hj).1
      have ll := sub_len (hn r (List.mem_of_getElem? hi)) (subB_iff.mp c2)
      have lt : (L - o.length) * rows.length + j < (L - r.length) * rows.length + i := by
        by_cases q : r.length < o.length
        · have : L - r.length = (L - o.length) + (o.length - r.length) := by omega
          rw [this, Nat.add_mul]
          have h1 : 1 * rows.length ≤ (o.length - r.length) * rows.length := Nat.mul_le_mul_right _ (by omega)
          rw [Nat.one_mul] at h1
          omega
        · have : L - o.length = L - r.length := by omega
          rw [this]
          omega
      exact ih _ (Nat.lt_of_lt_of_le lt hm) j o hj (subB_tr ht c2) (Nat.le_refl _)
    · exact ⟨i, r, hi, ht, c⟩
theorem outer_down {G : List (List Str)} (h : VG G) {t : List Str} (ht : t ≠ []) : dnB (outerG G) t = dnB G t := by
  rw [Bool.eq_iff_iff, dnB_iff, dnB_iff]
  constructor
  · rintro ⟨r, hr, e⟩
    obtain ⟨i, _, hi, k⟩ := mem_outs.mp hr
    obtain ⟨g, hg, rfl⟩ := (rowsL_mem h).mp (List.mem_of_getElem? hi)
    exact ⟨g, hg, subB_iff.mpr fun z hz => srt_mem.mp (subB_iff.mp e z hz)⟩
  · rintro ⟨g, hg, e⟩
    have hm : srt g ∈ rowsL G := (rowsL_mem h).mpr ⟨g, hg, rfl⟩
    obtain ⟨i, hi⟩ := List.getElem?_of_mem hm
    have e' : subB t (srt g) = true := subB_iff.mpr fun z hz => srt_mem.mpr (subB_iff.mp e z hz)
    have hL : ∃ L, ∀ r, r ∈ rowsL G → r.length ≤ L := ⟨_, fun r hr => len_sum hr⟩
    obtain ⟨L, hL⟩ := hL
    obtain ⟨j, o, hj, ho, hc⟩ := climb (fun r hr => (rowsL_row h hr).1) hL _ i (srt g) hi e' (Nat.le_refl _)
    refine ⟨o, mem_outs.mpr ⟨j, (List.getElem?_eq_some_iff.mp hj).1, hj, fun q => ?_, hc⟩, ho⟩
    cases t with
    | nil => exact ht rfl
    | cons z t =>
      have := subB_iff.mp ho z List.mem_cons_self
      rw [q] at this
      cases this
theorem vrow_eq {a b : List Str} (ha : VRow a) (hb : VRow b) (h : subB a b = true) (k : subB b a = true) : a = b := by
  refine sort_eq ?_ ha.2.1 hb.2.1
  exact (List.perm_ext_iff_of_nodup ha.1 hb.1).mpr fun z => ⟨subB_iff.mp h z, subB_iff.mp k z⟩
theorem pw_sub {R : List (List Str)} (h : R.Pairwise fun a b => subB a b = false ∧ subB b a = false) {a b : List Str} (ha : a ∈ R) (hb : b ∈ R) (e : subB a b = true) : a = b := by
  induction R with
  | nil => cases ha
  | cons x R ih =>
    obtain ⟨h1, h2⟩ := List.pairwise_cons.mp h
    rcases List.mem_cons.mp ha with q | q <;> rcases List.mem_cons.mp hb with p | p
    · rw [q, p]
    · subst q
      rw [(h1 b p).1] at e
      cases e
    · subst p
      rw [(h1 a q).2] at e
      cases e
    · exact ih h2 q p
theorem pw_nodup {R : List (List Str)} (h : R.Pairwise fun a b => subB a b = false ∧ subB b a = false) : R.Nodup := h.imp fun {a b} q e => by
  subst e
  rw [subB_refl] at q
  cases q.1
theorem lines_eq : ∀ {R S : List (List Str)}, R.Perm S → (∀ r, r ∈ R → VRow r) → (R.Pairwise fun a b => leT (lnk a) (lnk b)) → (S.Pairwise fun a b => leT (lnk a) (lnk b)) → R = S
  | [], S, p, _, _, _ => by rw [List.nil_perm.mp p]
  | x :: xs, [], p, _, _, _ => by
    have := p.length_eq
    simp at this
  | x :: xs, y :: ys, p, v, h, k => by
    obtain ⟨h1, h2⟩ := List.pairwise_cons.mp h
    obtain ⟨k1, k2⟩ := List.pairwise_cons.mp k
    have m1 : x ∈ y :: ys := p.subset List.mem_cons_self
    have m2 : y ∈ x :: xs := p.symm.subset List.mem_cons_self
    have e : x = y := by
      rcases List.mem_cons.mp m1 with e | n1
      · exact e
      · rcases List.mem_cons.mp m2 with e | n2
        · exact e.symm
        · have := leT_anti (h1 _ n2) (k1 _ n1)
          rw [← words_lnk (v x List.mem_cons_self).2.2, ← words_lnk (v y m2).2.2, this]
    subst e
    rw [lines_eq (p.cons_inv) (fun r hr => v r (List.mem_cons_of_mem _ hr)) h2 k2]
/-- the told form is told by the turns -/
theorem canon_eq {R S : List (List Str)} (hR : Canon R) (hS : Canon S) (h : ∀ r, r ∈ R → dnB S r = true) (k : ∀ s, s ∈ S → dnB R s = true) : R = S := by
  have one : ∀ {R S : List (List Str)}, Canon R → Canon S → (∀ r, r ∈ R → dnB S r = true) → (∀ s, s ∈ S → dnB R s = true) → ∀ r, r ∈ R → r ∈ S := by
    intro R S hR hS h k r hr
    obtain ⟨s, hs, e⟩ := dnB_iff.mp (h r hr)
    obtain ⟨r', hr', e'⟩ := dnB_iff.mp (k s hs)
    have := pw_sub hR.2.1 hr hr' (subB_tr e e')
    subst this
    rw [vrow_eq (hR.1 r hr).2 (hS.1 s hs).2 e e']
    exact hs
  refine lines_eq ?_ (fun r hr => (hR.1 r hr).2) hR.2.2 hS.2.2
  exact (List.perm_ext_iff_of_nodup (pw_nodup hR.2.1) (pw_nodup hS.2.1)).mpr fun r => ⟨one hR hS h k r, one hS hR k h r⟩
end Gm

/-! < of data (own work) -/
namespace Wx
open PySem PySem.Spec PyProof.Rows L2
def rLtD (K : PySem.W.Frag) : R2 := fun x y H Q => ∃ d e, Dp K H x d ∧ Dp K H y e ∧ PySem.W.alike d e = true ∧ d ≠ .none ∧ d.depth ≤ 64 ∧ Q (.bl (PySem.W.dataLt d e)) H
theorem op_ltD {X : Cx} (hu : X.A.units + 64 < cLine) : OpR X (compareOp .Lt) (rLtD X.K) := by
  intro pins s σ H x y v u Q I rx ry h
  obtain ⟨d, e, hd, he, al, nn, dd, q⟩ := h
  obtain ⟨as, r1⟩ := Dp.reads I d x v hd rx
  obtain ⟨bs, r2⟩ := Dp.reads I e y u he ry
  exact PySem.W.rcLt_alike d e _ s v u as bs r1 r2 al nn (by omega) X.prog X.w _ _ ⟨.bl _, H, I, rfl, q⟩
end Wx
namespace Gm
open PySem PySem.Spec PyProof.Rows
/-- every sign is behind the blank -/
def Let (z : Str) : Prop := 1 ≤ z.length ∧ ∀ c, c ∈ cds z → 32 < c
/-- the rest of a line: nothing, or what begins with the blank -/
def Tail (A : List Nat) : Prop := A = [] ∨ ∃ B, A = 32 :: B
theorem lt_words : ∀ (p q A B : List Nat), (∀ c, c ∈ p → 32 < c) → (∀ c, c ∈ q → 32 < c) → Tail A → Tail B → ltCps (p ++ A) (q ++ B) = if p = q then ltCps A B else ltCps p q
  | [], [], A, B, _, _, _, _ => by rw [if_pos rfl]; rfl
  | [], d :: q, A, B, _, hq, hA, _ => by
    rw [if_neg (by intro e; cases e)]
    have hd := hq d List.mem_cons_self
    rcases hA with rfl | ⟨A, rfl⟩
    · rfl
    · exact lt_cons.mpr (.inl hd)
  | c :: p, [], A, B, hp, _, _, hB => by
    rw [if_neg (by intro e; cases e)]
    have hc := hp c List.mem_cons_self
    rcases hB with rfl | ⟨B, rfl⟩
    · rfl
    · show ltCps (c :: (p ++ A)) (32 :: B) = false
      exact lt_consF.mpr ⟨by omega, fun e => by omega⟩
  | c :: p, d :: q, A, B, hp, hq, hA, hB => by
    have ih := lt_words p q A B (fun x hx => hp x (List.mem_cons_of_mem _ hx)) (fun x hx => hq x (List.mem_cons_of_mem _ hx)) hA hB
    show (decide (c < d) || (c == d && ltCps (p ++ A) (q ++ B))) = _
    rw [ih]
    by_cases e : c = d
    · subst e
      by_cases f : p = q
      · subst f
        rw [if_pos rfl, if_pos rfl]
        simp
      · rw [if_neg f, if_neg (fun g => f (List.cons.inj g).2)]
        rfl
    · rw [if_neg (fun g => e (List.cons.inj g).1)]
      show _ = (decide (c < d) || (c == d && ltCps p q))
      rw [beq_false_of_ne e, Bool.false_and, Bool.false_and]
theorem tail_glue (r : List Str) : Tail (StrLaws.glueL [32] r) := by
  cases r with
  | nil => exact .inl rfl
  | cons p r => exact .inr ⟨_, rfl⟩
theorem lt32 (A B : List Nat) : ltCps (32 :: A) (32 :: B) = ltCps A B := by
  show (decide (32 < 32) || (32 == 32 && ltCps A B)) = _
  simp
theorem lt_glue {p q : Str} {r t : List Str} (hp : Let p) (hq : Let q) : ltCps (cds p ++ StrLaws.glueL [32] r) (cds q ++ StrLaws.glueL [32] t) = if p = q then ltCps (StrLaws.glueL [32] r) (StrLaws.glueL [32] t) else ltCps (cds p) (cds q) := by
  rw [lt_words _ _ _ _ hp.2 hq.2 (tail_glue r) (tail_glue t)]
  by_cases e : p = q
  · rw [if_pos e, if_pos (by rw [e])]
  · rw [if_neg e, if_neg (fun f => e (str_ext f))]
def txD (g : List Str) : List PyData := g.map PyData.str
theorem strOf {x y : Str} : PyData.eqv (.str x) (.str y) = decide (x = y) := by
  show (x == y) = _
  rw [Bool.eq_iff_iff, beq_iff_eq, decide_eq_true_eq]
theorem toks_glue : ∀ (r t : List Str), (∀ z, z ∈ r → Let z) → (∀ z, z ∈ t → Let z) → PyProof.Rows.lexLt PyProof.Rows.itemOrd (PySem.W.keyToksAll (txD r)) (PySem.W.keyToksAll (txD t)) = ltCps (StrLaws.glueL [32] r) (StrLaws.glueL [32] t)
  | [], [], _, _ => by decide +kernel
  | [], q :: t, _, _ => by
    show PyProof.Rows.lexLt PyProof.Rows.itemOrd [.inl 0] (.inl 1 :: _) = true
    rw [lex_cons]
    rfl
  | p :: r, [], _, _ => by
    show PyProof.Rows.lexLt PyProof.Rows.itemOrd (.inl 1 :: _) [.inl 0] = false
    rw [lex_cons]
    rfl
  | p :: r, q :: t, hr, ht => by
    have ih := toks_glue r t (fun z hz => hr z (List.mem_cons_of_mem _ hz)) (fun z hz => ht z (List.mem_cons_of_mem _ hz))
    have hp := hr p List.mem_cons_self
    have hq := ht q List.mem_cons_self
    show _ = ltCps (32 :: (cds p ++ StrLaws.glueL [32] r)) (32 :: (cds q ++ StrLaws.glueL [32] t))
    rw [lt32, lt_glue hp hq]
    by_cases e : p = q
    · subst e
      rw [if_pos rfl, ← ih]
      exact PySem.W.dataLt_all_yes (x := .str p) (y := .str p) rfl (by rw [strOf]; exact decide_eq_true rfl)
    · rw [if_neg e]
      refine (PySem.W.dataLt_all_no (x := .str p) (y := .str q) rfl (by rw [strOf]; exact decide_eq_false e)).trans ?_
      rw [PySem.W.dataLt_str]
      exact (ltCps_eq _ _).symm
theorem lnk_glue (p q : Str) (r t : List Str) (hp : Let p) (hq : Let q) : ltCps (cds (lnk (p :: r))) (cds (lnk (q :: t))) = ltCps (StrLaws.glueL [32] (p :: r)) (StrLaws.glueL [32] (q :: t)) := by
  rw [lnk_cds, lnk_cds]
  show ltCps (cds p ++ StrLaws.glueL [32] r) (cds q ++ StrLaws.glueL [32] t) = ltCps (32 :: (cds p ++ StrLaws.glueL [32] r)) (32 :: (cds q ++ StrLaws.glueL [32] t))
  rw [lt32]
/-- tuples of words are ordered as their lines -/
theorem tup_lt {r t : List Str} (hr : ∀ z, z ∈ r → Let z) (ht : ∀ z, z ∈ t → Let z) (nr : r ≠ []) (nt : t ≠ []) : PySem.W.dataLt (.tuple (txD r)) (.tuple (txD t)) = ltCps (cds (lnk r)) (cds (lnk t)) := by
  rw [PySem.W.dataLt_tuple, toks_glue r t hr ht]
  cases r with
  | nil => exact absurd rfl nr
  | cons p r => cases t with
    | nil => exact absurd rfl nt
    | cons q t => exact (lnk_glue p q r t (hr p List.mem_cons_self) (ht q List.mem_cons_self)).symm
theorem alike_txD : ∀ r t : List Str, PySem.W.alikeAll (txD r) (txD t) = true
  | [], _ => by unfold PySem.W.alikeAll txD; rfl
  | _ :: _, [] => rfl
  | p :: r, q :: t => by
    show (PySem.W.alike (.str p) (.str q) && PySem.W.alikeAll (txD r) (txD t)) = true
    rw [alike_txD r t]
    rfl
end Gm

namespace Wx
open PySem PySem.Spec PyProof.Rows L2 NdefX
/-! xs[::-1] of a list -/
theorem fm_congr {α β : Type} {f g : α → Option β} : ∀ {l : List α}, (∀ x, x ∈ l → f x = g x) → l.filterMap f = l.filterMap g
  | [], _ => rfl
  | x :: l, h => by
    rw [List.filterMap_cons, List.filterMap_cons, h x List.mem_cons_self, fm_congr (l := l) fun y hy => h y (List.mem_cons_of_mem _ hy)]
theorem filterMap_rev {α : Type} : ∀ (n : Nat) (l : List α), l.length = n → (List.range n).filterMap (fun k => l[n - 1 - k]?) = l.reverse
  | 0, l, h => by
    rw [List.eq_nil_of_length_eq_zero h]
    rfl
  | n + 1, l, h => by
    obtain ⟨m, x, rfl⟩ : ∃ m x, l = m ++ [x] := by
      have hne : l ≠ [] := fun q => by rw [q] at h; cases h
      exact ⟨l.dropLast, l.getLast hne, (List.dropLast_concat_getLast hne).symm⟩
    have hm : m.length = n := by simpa using h
    rw [List.range_succ_eq_map, List.filterMap_cons, List.filterMap_map]
    have e0 : (m ++ [x])[n + 1 - 1 - 0]? = some x := by
      rw [List.getElem?_append_right (by omega)]
      have : n + 1 - 1 - 0 - m.length = 0 := by omega
      rw [this]
      rfl
    rw [e0]
    have ih := filterMap_rev n m hm
    have ec : (List.range n).filterMap ((fun k => (m ++ [x])[n + 1 - 1 - k]?) ∘ Nat.succ) = (List.range n).filterMap (fun k => m[n - 1 - k]?) := by
      refine fm_congr fun k hk => ?_
      have hk := List.mem_range.mp hk
      show (m ++ [x])[n + 1 - 1 - (k + 1)]? = _
      rw [List.getElem?_append_left (by omega)]
      congr 1
      omega
    rw [ec, ih, List.reverse_append]
    rfl
theorem slicePick_rev (its : List Value) : slicePick its.toArray none none (some (-1)) = its.reverse.toArray := by
  unfold slicePick
  congr 1
  rw [← filterMap_rev its.length its rfl]
  have eb : sliceBounds none none (some (-1)) its.toArray.size = ((its.length : Int) - 1, -1, -1) := by
    unfold sliceBounds
    simp
  rw [eb]
  show (sliceRange ((its.length : Int) - 1) (-1) (-1)).filterMap _ = _
  have ec : (if (-1 : Int) > 0 then (if ((its.length : Int) - 1) < -1 then ((-1) - ((its.length : Int) - 1) + (-1) - 1) / (-1) else 0) else (if ((its.length : Int) - 1) > -1 then (((its.length : Int) - 1) - (-1) - (-1) - 1) / (-(-1)) else 0)).toNat = its.length := by
    rw [if_neg (by decide)]
    split
    · have : (((its.length : Int) - 1) - (-1) - (-1) - 1) / (-(-1)) = its.length := by
        rw [show (-(-1) : Int) = 1 by decide, Int.ediv_one]
        omega
      rw [this]
      omega
    · omega
  show (((List.range (Int.toNat (if (-1 : Int) > 0 then (if ((its.length : Int) - 1) < -1 then ((-1) - ((its.length : Int) - 1) + (-1) - 1) / (-1) else 0) else (if ((its.length : Int) - 1) > -1 then (((its.length : Int) - 1) - (-1) - (-1) - 1) / (-(-1)) else 0)))).map fun (k : Nat) => (((its.length : Int) - 1) + (-1) * (k : Int)).toNat)).filterMap _ = _
  rw [ec, List.filterMap_map]
  refine fm_congr fun k hk => ?_
  have hk := List.mem_range.mp hk
  show its.toArray[(((its.length : Int) - 1) + (-1) * (k : Int)).toNat]? = _
  rw [show (((its.length : Int) - 1) + (-1) * (k : Int)).toNat = its.length - 1 - k by omega, List.getElem?_toArray]
section
variable {X : Cx} {e st : Expr} {te ts : TE} {pos p2 : Pos}
def tRev (K : PySem.W.Frag) (te ts : TE) : TE := fun σ H Q => te σ H fun x H1 => ts σ H1 fun y H2 => ∃ a xs, y = .int (-1) ∧ x = .ref a ∧ SqL K H2 a xs ∧ ∀ p, H2 p = none → Q (.ref p) (upd H2 p (.lst xs.reverse))
theorem pe_rev (he : PE X e te) (hs : PE X st ts) : PE X (.Subscript e (.Slice none none (some st) p2) pos) (tRev X.K te ts) := by
  refine ⟨fun pins s σ H Q I h => ?_⟩
  refine Subscript_ (thn (he.run pins s σ H _ I h) fun v s1 ⟨x, H1, I1, r1, q1⟩ => ?_)
  refine wpAny_Slice ?_
  rw [evalPart_none]
  refine wpAny_pure (wpAny_pure ?_)
  rw [evalPart_some]
  refine thn (hs.run pins s1 σ H1 _ I1 q1) fun u s2 ⟨y, H2, I2, r2, q2⟩ => ?_
  obtain ⟨a, xs, rfl, rfl, hx, q⟩ := q2
  obtain ⟨t, rfl⟩ := r2
  cases r1
  have I4 : Inv X pins σ H2 { s2 with heap := s2.heap.push { cls := .type "slice", data := .fields #[.none, .none, .int (-1) t] } } := I2.kept (t' := s2.toks) fun b ob q => Heap.get?_push_of_some _ q
  obtain ⟨its, r, ht, hz⟩ := I4.list hx
  have hsl : Heap.IsSliceOf (s2.heap.push { cls := .type "slice", data := .fields #[.none, .none, .int (-1) t] }) s2.heap.objs.size .none .none (.int (-1) t) := Heap.IsSliceOf.new ..
  show wpAny (model X.prog X.w) X.A (subscriptTail e (.Slice none none (some st) p2) (.ref a) (.ref s2.heap.objs.size)) (EP X pins σ Q) X.xe { s2 with heap := s2.heap.push { cls := .type "slice", data := .fields #[.none, .none, .int (-1) t] } }
  refine tail_any (ops := [.ref a, .ref s2.heap.objs.size]) (T := "list") ht.isList.typeIs slot_list_getitem.lookup ?_ (by with_unfolding_all rfl)
  refine wpAny_getItem_list_slice ht.isList hsl .none .none (.int (-1) t) (by simp) ?_ (by have := r.length; rw [List.size_toArray]; omega)
  rw [slicePick_rev]
  generalize hG : s2.heap.push { cls := .type "slice", data := .fields #[.none, .none, .int (-1) t] } = G at I4 ht ⊢
  refine ⟨.ref G.objs.size, _, I4.laid (t' := s2.toks) (o := .lst xs.reverse) (fun b ob q => Heap.get?_push_of_some _ q) (Nat.le_refl _) ?_, rfl, q _ (I4.hok.fresh (Nat.le_refl _))⟩
  exact ⟨by rw [List.length_reverse]; exact hz, _, 0, r.reverse, Heap.get?_push_size _ rfl⟩
theorem pe_revK {K : PySem.W.Frag} (hK : X.K = K) (he : PE X e te) (hs : PE X st ts) : PE X (.Subscript e (.Slice none none (some st) p2) pos) (tRev K te ts) := by
  subst hK
  exact pe_rev he hs
end
end Wx

namespace Wb
open PySem PySem.Spec PyProof.Rows L2 Wx NdefX
def top (i : Nat) : Stmt := PySem.Challenge.pw_waterbyturns_k06_grounds.main.body.getD i (.Pass ⟨0, 0, 0, 0⟩)
/-! ### a def that stands, by its name: what a caller needs -/
structure Cal (P : Program) (w : World) (K : PySem.W.Frag) (mg : Str → Option Value) (base : Heap) (name : Str) (ps : List Str) (k : Nat) (sp : Sp) : Prop where
  mk0 ::
  ex : ∃ (g : Addr) (gd : FuncData), FnOk P w K mg base CX0 k g gd ps sp ∧ mg name = some (.ref g) ∧ PySem.W.keepIn K (.ref g) = true ∧ Binds K gd ps []
/-! ### frames -/
/-- what is tracked outside xs stays -/
def Frm (xs : List Addr) (H H' : Hp) : Prop := ∀ b o, ¬ b ∈ xs → H b = some o → H' b = some o
theorem Frm.refl (xs : List Addr) (H : Hp) : Frm xs H H := fun _ _ _ h => h
theorem Frm.trans {xs : List Addr} {H H1 H2 : Hp} (a : Frm xs H H1) (b : Frm xs H1 H2) : Frm xs H H2 := fun c o n h => b c o n (a c o n h)
theorem Frm.of_same {xs : List Addr} {H H' : Hp} (a : Same H H') : Frm xs H H' := fun b o _ h => a b o h
theorem Frm.mono {xs ys : List Addr} {H H' : Hp} (a : Frm xs H H') (h : ∀ b, b ∈ xs → b ∈ ys) : Frm ys H H' := fun b o n e => a b o (fun m => n (h b m)) e
theorem Frm.put {xs : List Addr} {H : Hp} {a : Addr} {o : HO} (m : a ∈ xs) : Frm xs H (upd H a o) := fun b p n e => by
  rw [upd_ne (fun q => n (by rw [q]; exact m))]
  exact e
theorem Same.new {H : Hp} {a : Addr} {o : HO} (n : H a = none) : Same H (upd H a o) := fun b p e => by
  rw [upd_ne (ne_of_none e n)]
  exact e
theorem Frm.new {xs : List Addr} {H : Hp} {a : Addr} {o : HO} (n : H a = none) : Frm xs H (upd H a o) := Frm.of_same (Same.new n)
theorem Frm.same {H H' : Hp} (a : Frm [] H H') : Same H H' := fun b o e => a b o (by simp) e
/-- an address that was new and may change behind its making is no part of the frame of what was there before -/
theorem Frm.drop {x : Addr} {xs : List Addr} {H0 H1 H2 : Hp} (n : H0 x = none) (a : Frm xs H0 H1) (b : Frm (x :: xs) H1 H2) : Frm xs H0 H2 := fun c o nc e => by
  refine b c o ?_ (a c o nc e)
  intro m
  rcases List.mem_cons.mp m with q | q
  · rw [q] at e
    rw [n] at e
    cases e
  · exact nc q
theorem Frm.none {xs : List Addr} {H H' : Hp} (a : Frm xs H H') {l : Addr} (nl : ¬ l ∈ xs) (h : H' l = Option.none) : H l = Option.none := by
  cases q : H l with
  | none => rfl
  | some o =>
    have := a l o nl q
    rw [this] at h
    cases h
/-- the heap without xs -/
def hid (xs : List Addr) (H : Hp) : Hp := fun b => if b ∈ xs then none else H b
theorem hid_same (xs : List Addr) (H : Hp) : Same (hid xs H) H := fun b o e => by
  unfold hid at e
  split at e
  · cases e
  · exact e
theorem hid_frm {xs : List Addr} {H H' : Hp} (a : Frm xs H H') : Same (hid xs H) (hid xs H') := fun b o e => by
  unfold hid at e ⊢
  split at e
  · cases e
  · rename_i n
    rw [if_neg n]
    exact a b o n e
theorem hid_eq {xs : List Addr} {H : Hp} {b : Addr} (n : ¬ b ∈ xs) : hid xs H b = H b := if_neg n
theorem hid_mono {xs ys : List Addr} {H : Hp} (h : ∀ b, b ∈ xs → b ∈ ys) : Same (hid ys H) (hid xs H) := fun b o e => by
  unfold hid at e ⊢
  split at e
  · cases e
  · rename_i n
    rw [if_neg (fun m => n (h b m))]
    exact e
theorem hid_nil (H : Hp) : hid [] H = H := by
  funext b
  exact if_neg (by simp)
theorem rd_same {H H' : Hp} (s : Same H H') {a : Addr} {o : HO} (h : Rd H a o) : Rd H' a o := by
  rcases h with h | ⟨x, h⟩
  · exact .inl (s _ _ h)
  · exact .inr ⟨x, s _ _ h⟩
theorem seqT {K : PySem.W.Frag} {H H' : Hp} {a : Addr} {xs : List V} (s : Same H H') (h : SqT K H a xs) : SqT K H' a xs := h.imp (rd_same s) id
/-! data in the heap, seen from a larger heap -/
mutual
theorem dp_same {K : PySem.W.Frag} {H H' : Hp} (s : Same H H') : ∀ {v : V} {d : PyData}, Dp K H v d → Dp K H' v d
  | _, _, .non => .non
  | _, _, .bl b => .bl b
  | _, _, .int i => .int i
  | _, _, .str x => .str x
  | _, _, .lst h r => .lst (s.seq h) (dpAll_same s r)
  | _, _, .tup h r => .tup (seqT s h) (dpAll_same s r)
theorem dpAll_same {K : PySem.W.Frag} {H H' : Hp} (s : Same H H') : ∀ {v : List V} {d : List PyData}, DpAll K H v d → DpAll K H' v d
  | _, _, .nil => .nil
  | _, _, .cons a b => .cons (dp_same s a) (dpAll_same s b)
end
theorem dpAll_get {K : PySem.W.Frag} {H : Hp} : ∀ {vs : List V} {ds : List PyData}, DpAll K H vs ds → ∀ {i : Nat} {v : V}, vs[i]? = some v → ∃ d, ds[i]? = some d ∧ Dp K H v d
  | _, _, .nil, i, v, h => by simp at h
  | _, _, .cons a b, 0, v, h => by
    have e := Option.some.inj h
    subst e
    exact ⟨_, rfl, a⟩
  | _, _, .cons a b, i + 1, v, h => dpAll_get b (i := i) h
theorem dpAll_len {K : PySem.W.Frag} {H : Hp} : ∀ {vs : List V} {ds : List PyData}, DpAll K H vs ds → vs.length = ds.length
  | _, _, .nil => rfl
  | _, _, .cons _ b => congrArg (· + 1) (dpAll_len b)
theorem dpAll_snoc {K : PySem.W.Frag} {H : Hp} : ∀ {vs : List V} {ds : List PyData} {v : V} {d : PyData}, DpAll K H vs ds → Dp K H v d → DpAll K H (vs ++ [v]) (ds ++ [d])
  | _, _, _, _, .nil, h => .cons h .nil
  | _, _, _, _, .cons a b, h => .cons a (dpAll_snoc b h)
theorem dpAll_ints {K : PySem.W.Frag} {H : Hp} : ∀ (l : List Int), DpAll K H (l.map V.int) (l.map PyData.int)
  | [] => .nil
  | i :: l => .cons (.int i) (dpAll_ints l)
theorem dpAll_ints_eq {K : PySem.W.Frag} {H : Hp} : ∀ {l : List Int} {vs : List V}, DpAll K H vs (l.map PyData.int) → vs = l.map V.int
  | [], _, .nil => rfl
  | i :: l, _, .cons (.int _) b => congrArg (V.int i :: ·) (dpAll_ints_eq b)
/-- o[i] of a list, for o[i] += e -/
theorem get_list {X : Cx} : PGet X (fun o i H Q => ∃ p xs k z, o = .ref p ∧ i = .int k ∧ SqL X.K H p xs ∧ 0 ≤ k ∧ xs[k.toNat]? = some z ∧ Q z H) := by
  intro pins s σ H o i ov iv Q I ro ri h
  obtain ⟨p, xs, k, z, rfl, rfl, hq, h0, hz, q⟩ := h
  cases ro
  obtain ⟨t, rfl⟩ := ri
  obtain ⟨its, r, pl, hs⟩ := I.list hq
  obtain ⟨w, ew, rw'⟩ := r.get hz
  have hl := r.length
  have hn := line63
  have hlt : k.toNat < xs.length := (List.getElem?_eq_some_iff.mp hz).1
  exact wpAny_getItem_list pl.isList h0 (by omega) (by simpa using ew) ⟨z, H, I, rw', q⟩
def rListOf (K : PySem.W.Frag) : List V → Hp → VK → Prop := fun xs H Q => ∃ p ys, xs = [.ref p] ∧ (SqL K H p ys ∨ SqT K H p ys) ∧ ∀ l, H l = none → Q (.ref l) (upd H l (.lst ys))
def rLenSeq (K : PySem.W.Frag) : List V → Hp → VK → Prop := fun xs H Q => ∃ p ys, xs = [.ref p] ∧ (SqL K H p ys ∨ SqT K H p ys) ∧ Q (.int ys.length) H
theorem Cal.mk {P : Program} {w : World} {K : PySem.W.Frag} {mg : Str → Option Value} {base : Heap} {name : Str} {ps : List Str} {k : Nat} {sp : Sp} {g : Addr} {gd : FuncData} (G : FnOk P w K mg base CX0 k g gd ps sp) (m : mg name = some (.ref g)) (kp : PySem.W.keepIn K (.ref g) = true) (b : Binds K gd ps []) : Cal P w K mg base name ps k sp := .mk0 ⟨g, gd, G, m, kp, b⟩
abbrev s_shown : Stmt := top 2
abbrev N_shown : List Str := ["value"]
abbrev P_shown : List Str := ["value"]
theorem sc_shown : FnScope N_shown P_shown (defScope s_shown) := ⟨rfl, rfl, rfl, by decide +kernel, rfl, by decide +kernel, by decide +kernel⟩
abbrev sBadName___init__ : Stmt := inClass (top 4) 0
abbrev NBadName___init__ : List Str := ["self", "name", "__class__"]
abbrev PBadName___init__ : List Str := ["self", "name"]
theorem scBadName___init__ : NScope NBadName___init__ PBadName___init__ ["__class__"] (defScope sBadName___init__) := nscope_by (by decide +kernel)
abbrev sBadNumber___init__ : Stmt := inClass (top 5) 0
abbrev NBadNumber___init__ : List Str := ["self", "what", "value", "__class__"]
abbrev PBadNumber___init__ : List Str := ["self", "what", "value"]
theorem scBadNumber___init__ : NScope NBadNumber___init__ PBadNumber___init__ ["__class__"] (defScope sBadNumber___init__) := nscope_by (by decide +kernel)
abbrev sis_name : Stmt := top 11
abbrev Nis_name : List Str := ["text", "letter"]
abbrev Pis_name : List Str := ["text"]
theorem scis_name : FnScope Nis_name Pis_name (defScope sis_name) := ⟨rfl, rfl, rfl, by decide +kernel, rfl, by decide +kernel, by decide +kernel⟩
abbrev scheck_name : Stmt := top 12
abbrev Ncheck_name : List Str := ["text"]
abbrev Pcheck_name : List Str := ["text"]
theorem sccheck_name : FnScope Ncheck_name Pcheck_name (defScope scheck_name) := ⟨rfl, rfl, rfl, by decide +kernel, rfl, by decide +kernel, by decide +kernel⟩
abbrev scheck_number : Stmt := top 13
abbrev Ncheck_number : List Str := ["what", "value", "low", "high"]
abbrev Pcheck_number : List Str := ["what", "value", "low", "high"]
theorem sccheck_number : FnScope Ncheck_number Pcheck_number (defScope scheck_number) := ⟨rfl, rfl, rfl, by decide +kernel, rfl, by decide +kernel, by decide +kernel⟩
abbrev sPlot___init__ : Stmt := inClass (top 15) 0
abbrev NPlot___init__ : List Str := ["self", "name", "hold", "drink"]
abbrev PPlot___init__ : List Str := ["self", "name", "hold", "drink"]
theorem scPlot___init__ : FnScope NPlot___init__ PPlot___init__ (defScope sPlot___init__) := ⟨rfl, rfl, rfl, by decide +kernel, rfl, by decide +kernel, by decide +kernel⟩
abbrev sPlot___eq__ : Stmt := inClass (top 15) 1
abbrev NPlot___eq__ : List Str := ["self", "other"]
abbrev PPlot___eq__ : List Str := ["self", "other"]
theorem scPlot___eq__ : FnScope NPlot___eq__ PPlot___eq__ (defScope sPlot___eq__) := ⟨rfl, rfl, rfl, by decide +kernel, rfl, by decide +kernel, by decide +kernel⟩
abbrev sGates___init__ : Stmt := inClass (top 16) 0
abbrev NGates___init__ : List Str := ["self", "groups", "group"]
abbrev PGates___init__ : List Str := ["self", "groups"]
theorem scGates___init__ : FnScope NGates___init__ PGates___init__ (defScope sGates___init__) := ⟨rfl, rfl, rfl, by decide +kernel, rfl, by decide +kernel, by decide +kernel⟩
abbrev sGates___contains__ : Stmt := inClass (top 16) 1
abbrev NGates___contains__ : List Str := ["self", "x", "group"]
abbrev PGates___contains__ : List Str := ["self", "x"]
theorem scGates___contains__ : FnScope NGates___contains__ PGates___contains__ (defScope sGates___contains__) := ⟨rfl, rfl, rfl, by decide +kernel, rfl, by decide +kernel, by decide +kernel⟩
abbrev sGates___le__ : Stmt := inClass (top 16) 2
abbrev NGates___le__ : List Str := ["self", "other", "group"]
abbrev PGates___le__ : List Str := ["self", "other"]
theorem scGates___le__ : FnScope NGates___le__ PGates___le__ (defScope sGates___le__) := ⟨rfl, rfl, rfl, by decide +kernel, rfl, by decide +kernel, by decide +kernel⟩
abbrev sGates___eq__ : Stmt := inClass (top 16) 3
abbrev NGates___eq__ : List Str := ["self", "other"]
abbrev PGates___eq__ : List Str := ["self", "other"]
theorem scGates___eq__ : FnScope NGates___eq__ PGates___eq__ (defScope sGates___eq__) := ⟨rfl, rfl, rfl, by decide +kernel, rfl, by decide +kernel, by decide +kernel⟩
abbrev sGates___or__ : Stmt := inClass (top 16) 4
abbrev NGates___or__ : List Str := ["self", "other", "groups"]
abbrev PGates___or__ : List Str := ["self", "other"]
theorem scGates___or__ : FnScope NGates___or__ PGates___or__ (defScope sGates___or__) := ⟨rfl, rfl, rfl, by decide +kernel, rfl, by decide +kernel, by decide +kernel⟩
abbrev sGates___and__ : Stmt := inClass (top 16) 5
abbrev NGates___and__ : List Str := ["self", "other", "groups", "one", "two"]
abbrev PGates___and__ : List Str := ["self", "other"]
theorem scGates___and__ : FnScope NGates___and__ PGates___and__ (defScope sGates___and__) := ⟨rfl, rfl, rfl, by decide +kernel, rfl, by decide +kernel, by decide +kernel⟩
abbrev sGates___len__ : Stmt := inClass (top 16) 6
abbrev NGates___len__ : List Str := ["self"]
abbrev PGates___len__ : List Str := ["self"]
theorem scGates___len__ : FnScope NGates___len__ PGates___len__ (defScope sGates___len__) := ⟨rfl, rfl, rfl, by decide +kernel, rfl, by decide +kernel, by decide +kernel⟩
abbrev sGround___init__ : Stmt := inClass (top 17) 0
abbrev NGround___init__ : List Str := ["self", "plots", "gates", "tank", "names"]
abbrev PGround___init__ : List Str := ["self", "plots", "gates", "tank"]
theorem scGround___init__ : FnScope NGround___init__ PGround___init__ (defScope sGround___init__) := ⟨rfl, rfl, rfl, by decide +kernel, rfl, by decide +kernel, by decide +kernel⟩
abbrev sGround_capacity : Stmt := inClass (top 17) 1
abbrev NGround_capacity : List Str := ["self"]
abbrev PGround_capacity : List Str := ["self"]
theorem scGround_capacity : FnScope NGround_capacity PGround_capacity (defScope sGround_capacity) := ⟨rfl, rfl, rfl, by decide +kernel, rfl, by decide +kernel, by decide +kernel⟩
abbrev sGround___eq__ : Stmt := inClass (top 17) 3
abbrev NGround___eq__ : List Str := ["self", "other"]
abbrev PGround___eq__ : List Str := ["self", "other"]
theorem scGround___eq__ : FnScope NGround___eq__ PGround___eq__ (defScope sGround___eq__) := ⟨rfl, rfl, rfl, by decide +kernel, rfl, by decide +kernel, by decide +kernel⟩
abbrev scheck_group : Stmt := top 18
abbrev Ncheck_group : List Str := ["group", "name"]
abbrev Pcheck_group : List Str := ["group"]
theorem sccheck_group : FnScope Ncheck_group Pcheck_group (defScope scheck_group) := ⟨rfl, rfl, rfl, by decide +kernel, rfl, by decide +kernel, by decide +kernel⟩
abbrev s_is_within : Stmt := top 19
abbrev N_is_within : List Str := ["names", "group", "name"]
abbrev P_is_within : List Str := ["names", "group"]
theorem sc_is_within : FnScope N_is_within P_is_within (defScope s_is_within) := ⟨rfl, rfl, rfl, by decide +kernel, rfl, by decide +kernel, by decide +kernel⟩
abbrev s_shared : Stmt := top 20
abbrev N_shared : List Str := ["group", "other", "name"]
abbrev P_shared : List Str := ["group", "other"]
theorem sc_shared : FnScope N_shared P_shared (defScope s_shared) := ⟨rfl, rfl, rfl, by decide +kernel, rfl, by decide +kernel, by decide +kernel⟩
abbrev s_outer_groups : Stmt := top 21
abbrev N_outer_groups : List Str := ["groups", "lines", "rows", "group", "line", "place", "row"]
abbrev P_outer_groups : List Str := ["groups"]
theorem sc_outer_groups : FnScope N_outer_groups P_outer_groups (defScope s_outer_groups) := ⟨rfl, rfl, rfl, by decide +kernel, rfl, by decide +kernel, by decide +kernel⟩
abbrev s_line : Stmt := top 22
abbrev N_line : List Str := ["group", "name"]
abbrev P_line : List Str := ["group"]
theorem sc_line : FnScope N_line P_line (defScope s_line) := ⟨rfl, rfl, rfl, by decide +kernel, rfl, by decide +kernel, by decide +kernel⟩
abbrev s_is_covered : Stmt := top 23
abbrev N_is_covered : List Str := ["rows", "place", "row", "at", "other"]
abbrev P_is_covered : List Str := ["rows", "place"]
theorem sc_is_covered : FnScope N_is_covered P_is_covered (defScope s_is_covered) := ⟨rfl, rfl, rfl, by decide +kernel, rfl, by decide +kernel, by decide +kernel⟩
abbrev s_different_names : Stmt := top 24
abbrev N_different_names : List Str := ["plots", "names", "plot"]
abbrev P_different_names : List Str := ["plots"]
theorem sc_different_names : FnScope N_different_names P_different_names (defScope s_different_names) := ⟨rfl, rfl, rfl, by decide +kernel, rfl, by decide +kernel, by decide +kernel⟩
abbrev s_check_known : Stmt := top 25
abbrev N_check_known : List Str := ["gates", "names", "group", "name"]
abbrev P_check_known : List Str := ["gates", "names"]
theorem sc_check_known : FnScope N_check_known P_check_known (defScope s_check_known) := ⟨rfl, rfl, rfl, by decide +kernel, rfl, by decide +kernel, by decide +kernel⟩
abbrev s_allowed_turns : Stmt := top 26
abbrev N_allowed_turns : List Str := ["names", "gates", "turns", "number", "turn"]
abbrev P_allowed_turns : List Str := ["names", "gates"]
theorem sc_allowed_turns : FnScope N_allowed_turns P_allowed_turns (defScope s_allowed_turns) := ⟨rfl, rfl, rfl, by decide +kernel, rfl, by decide +kernel, by decide +kernel⟩
abbrev s_turn_at : Stmt := top 27
abbrev N_turn_at : List Str := ["names", "number", "place", "name"]
abbrev P_turn_at : List Str := ["names", "number"]
theorem sc_turn_at : FnScope N_turn_at P_turn_at (defScope s_turn_at) := ⟨rfl, rfl, rfl, by decide +kernel, rfl, by decide +kernel, by decide +kernel⟩
abbrev s_law_start : Stmt := top 29
abbrev N_law_start : List Str := ["script", "first"]
abbrev P_law_start : List Str := ["script"]
theorem sc_law_start : FnScope N_law_start P_law_start (defScope s_law_start) := ⟨rfl, rfl, rfl, by decide +kernel, rfl, by decide +kernel, by decide +kernel⟩
abbrev s_law_draw : Stmt := top 30
abbrev N_law_draw : List Str := ["script", "state", "limit", "number", "cell", "mixed"]
abbrev P_law_draw : List Str := ["script", "state", "limit"]
theorem sc_law_draw : FnScope N_law_draw P_law_draw (defScope s_law_draw) := ⟨rfl, rfl, rfl, by decide +kernel, rfl, by decide +kernel, by decide +kernel⟩
abbrev s_law_names : Stmt := top 31
abbrev N_law_names : List Str := ["script", "state", "many", "letters", "shift", "names", "k", "name", "j"]
abbrev P_law_names : List Str := ["script", "state", "many"]
theorem sc_law_names : FnScope N_law_names P_law_names (defScope s_law_names) := ⟨rfl, rfl, rfl, by decide +kernel, rfl, by decide +kernel, by decide +kernel⟩
abbrev s_law_refusal : Stmt := top 32
abbrev N_law_refusal : List Str := ["plots", "gates", "tank", "e"]
abbrev P_law_refusal : List Str := ["plots", "gates", "tank"]
theorem sc_law_refusal : FnScope N_law_refusal P_law_refusal (defScope s_law_refusal) := ⟨rfl, rfl, rfl, by decide +kernel, rfl, by decide +kernel, by decide +kernel⟩
abbrev s_law_refusals_hold : Stmt := top 33
abbrev N_law_refusals_hold : List Str := ["script", "state", "plots", "rows", "gates", "names", "strange", "far", "again", "double", "size", "five", "plot", "letter"]
abbrev P_law_refusals_hold : List Str := ["script", "state", "plots", "rows", "gates"]
theorem sc_law_refusals_hold : FnScope N_law_refusals_hold P_law_refusals_hold (defScope s_law_refusals_hold) := ⟨rfl, rfl, rfl, by decide +kernel, rfl, by decide +kernel, by decide +kernel⟩
abbrev slaw : Stmt := top 34
abbrev Nlaw : List Str := ["script", "state", "names", "plots", "name", "hold", "rows", "gates", "tank", "passed", "ground", "twin", "k"]
abbrev Plaw : List Str := ["script"]
theorem sclaw : FnScope Nlaw Plaw (defScope slaw) := ⟨rfl, rfl, rfl, by decide +kernel, rfl, by decide +kernel, by decide +kernel⟩
/-- what the top has written -/
structure Txt (K : PySem.W.Frag) (mg : Str → Option Value) : Prop where
  b_len : mg "len" = none
  b_abs : mg "abs" = none
  b_int : mg "int" = none
  b_bool : mg "bool" = none
  b_str : mg "str" = none
  b_range : mg "range" = none
  b_all : mg "all" = none
  b_any : mg "any" = none
  b_isinstance : mg "isinstance" = none
  b_tuple : mg "tuple" = none
  b_list : mg "list" = none
  b_enumerate : mg "enumerate" = none
  b_sorted : mg "sorted" = none
  b_set : mg "set" = none
  b_repr : mg "repr" = none
  b_super : mg "super" = none
  c__LONGEST_NAME : ∃ t, mg "_LONGEST_NAME" = some (.int 8 t)
  c_MOST_PLOTS : ∃ t, mg "MOST_PLOTS" = some (.int 4 t)
  c_MOST_UNITS : ∃ t, mg "MOST_UNITS" = some (.int 8 t)
end Wb

namespace Wb
open PySem PySem.Spec PyProof.Rows L2 Wx NdefX RZ StX PyProof.Rows.FinIter
section
variable {P : Program} {w : World} {K : PySem.W.Frag} {mg : Str → Option Value} {base : Heap}

/-- a state: four ints -/
def St4 (H : Hp) (a : Addr) : Prop := ∃ i j k l : Int, H a = some (.lst [.int i, .int j, .int k, .int l])
/-- the script at a and the state at s -/
def Scr (K : PySem.W.Frag) (H : Hp) (a s : Addr) : Prop := (∃ ns : List Int, SqL K (hid [s] H) a (ns.map V.int) ∧ ns.length ≤ 63) ∧ St4 H s
theorem Frm.put' {xs : List Addr} {H H1 : Hp} {a : Addr} {o : HO} (f : Frm xs H H1) (m : a ∈ xs) : Frm xs H (upd H1 a o) := f.trans (Frm.put m)
theorem Scr.frm {K : PySem.W.Frag} {H H' : Hp} {a s : Addr} (h : Scr K H a s) (f : Frm [s] H H') (q : St4 H' s) : Scr K H' a s := by
  obtain ⟨⟨ns, h1, h2⟩, _⟩ := h
  exact ⟨⟨ns, (hid_frm f).seq h1, h2⟩, q⟩
/-- what else is made or changed is not the state -/
theorem Scr.same {K : PySem.W.Frag} {H H' : Hp} {a s : Addr} (h : Scr K H a s) (f : Same H H') : Scr K H' a s := by
  obtain ⟨i, j, k, l, e⟩ := h.2
  exact h.frm (Frm.of_same f) ⟨i, j, k, l, f _ _ e⟩
theorem Scr.ne {K : PySem.W.Frag} {H : Hp} {a s p : Addr} (h : Scr K H a s) (n : H p = none) : ¬ p = s := by
  rintro rfl
  obtain ⟨_, _, _, _, e⟩ := h.2
  rw [n] at e
  cases e
theorem Scr.made {K : PySem.W.Frag} {H : Hp} {a p : Addr} {ns : List Int} (hS : SqL K H a (ns.map V.int)) (hl : ns.length ≤ 63) (n : H p = none) {i j k l : Int} : Scr K (upd H p (.lst [.int i, .int j, .int k, .int l])) a p := by
  refine ⟨⟨ns, Same.seq (H := H) (fun b o e => ?_) hS, hl⟩, i, j, k, l, upd_same⟩
  have nb : b ≠ p := ne_of_none e n
  rw [hid_eq (by simpa using nb), upd_ne nb]
  exact e
theorem ints_at {ns : List Int} {i : Int} (h0 : 0 ≤ i) (h1 : i < ns.length) : ∃ z : Int, atI (ns.map V.int) i = some (.int z) := by
  obtain ⟨j, rfl⟩ : ∃ j : Nat, i = (j : Int) := ⟨i.toNat, by omega⟩
  have hj : j < ns.length := by omega
  exact ⟨ns[j], atI_nat (by simp [hj])⟩
theorem fmod0 {a b : Int} (h : 0 < b) : 0 ≤ a.fmod b := by
  rw [Int.fmod_eq_emod_of_nonneg _ (by omega)]
  exact Int.emod_nonneg _ (by omega)
theorem fmod1 {a b : Int} (h : 0 < b) : a.fmod b < b := by
  rw [Int.fmod_eq_emod_of_nonneg _ (by omega)]
  exact Int.emod_lt_of_pos _ h
def sp_law_start (K : PySem.W.Frag) : Sp := fun vs H Q _ => ∃ (a : Addr) (ns : List Int), vs = [.ref a] ∧ SqL K H a (ns.map V.int) ∧ ns.length ≤ 63 ∧ ∀ p H', Same H H' → H p = none → Scr K H' a p → Q (.ref p) H'
def sp_law_draw (K : PySem.W.Frag) : Sp := fun vs H Q _ => ∃ (a s : Addr) (n : Int), vs = [.ref a, .ref s, .int n] ∧ Scr K H a s ∧ 0 < n ∧ n < 1152921504606846976 ∧ ∀ (r : Int) (H' : Hp), 0 ≤ r → r < n → Frm [s] H H' → Scr K H' a s → Q (.int r) H'

theorem ok_law_start {f : Addr} {fd : FuncData} (F : Fun K "_law_start" "_law_start" s_law_start f fd) (T : Txt K mg) : FnOk P w K mg base CX0 1 f fd P_law_start (sp_law_start K) := by
  refine F.ok sc_law_start (fun vs H Q E h => ?_) (fun cdv A outer s H vs Q E hr h => ?_)
  · obtain ⟨a, ns, rfl, hS, hlen, k⟩ := h
    rfl
  · obtain ⟨a, ns, rfl, hS, hlen, k⟩ := h
    refine ⟨_, (pss_cons (ps_set (i := 1) sc_law_start.nd rfl (by first | exact Or.inl rfl | exact Or.inr rfl) pe_int)
  (pss_cons (ps_if (pt_cmpR op_gt (pe_callB call_len_seq (by rfl) T.b_len PySem.boot_len (pa_cons (pv 0) pa_nil)) pe_int (nomark _))
  (pss_one (ps_set (i := 1) sc_law_start.nd rfl (by first | exact Or.inl rfl | exact Or.inr rfl) (pe_ix ix_list (pv 0) pe_int (fun _ _ => rfl))))
  pss_nil)
  (pss_one (ps_ret (pe_lst (pa_cons (pe_callB (id := "abs") call_abs (by rfl) T.b_abs (by decide +kernel) (pa_cons (pe_callTy (T := "int") call_int1 (by rfl) T.b_int (by decide +kernel) (pa_cons (pv 1) pa_nil)) pa_nil)) (pa_cons (pe_callTy (T := "int") call_int1 (by rfl) T.b_int (by decide +kernel) (pa_cons (pe_cmpR op_ge (pe_callB (id := "abs") call_abs (by rfl) T.b_abs (by decide +kernel) (pa_cons (pe_callTy (T := "int") call_int1 (by rfl) T.b_int (by decide +kernel) (pa_cons (pv 1) pa_nil)) pa_nil)) (pe_op op_pow pe_int pe_int) (nomark _)) pa_nil)) (pa_cons pe_int (pa_cons pe_int pa_nil))))))))), ?_⟩
    refine ⟨_, rfl, a, _, rfl, .inl hS, _, _, rfl, rfl, _, rfl, ?_⟩
    refine ite2 (fun c => ?_) (fun c => ?_)
    · have hp : (0 : Int) < ns.length := by simpa using of_decide_eq_true c
      obtain ⟨z, hz⟩ := ints_at (ns := ns) (i := 0) (by omega) hp
      refine ⟨_, rfl, a, _, _, _, rfl, rfl, hS, hz, ?_⟩
      refine ⟨_, rfl, .inl ⟨_, rfl, _, rfl, _, rfl, .inl ⟨_, rfl, _, rfl, _, _, rfl, rfl, ⟨by decide, by decide, by decide⟩, _, _, rfl, rfl, .inr ⟨_, rfl, (by show 4 ≤ sizeLine; decide), fun l hl => k _ _ (Same.new hl) hl (Scr.made hS hlen hl)⟩⟩⟩⟩
    · refine ⟨_, rfl, .inl ⟨_, rfl, _, rfl, _, rfl, .inl ⟨_, rfl, _, rfl, _, _, rfl, rfl, ⟨by decide, by decide, by decide⟩, _, _, rfl, rfl, .inr ⟨_, rfl, (by show 4 ≤ sizeLine; decide), fun l hl => k _ _ (Same.new hl) hl (Scr.made hS hlen hl)⟩⟩⟩⟩

theorem ok_law_draw {f : Addr} {fd : FuncData} (F : Fun K "_law_draw" "_law_draw" s_law_draw f fd) (T : Txt K mg) : FnOk P w K mg base CX0 1 f fd P_law_draw (sp_law_draw K) := by
  refine F.ok sc_law_draw (fun vs H Q E h => ?_) (fun cdv A outer s H vs Q E hr h => ?_)
  · obtain ⟨a, s0, n, rfl, hScr, n0, n1, k⟩ := h
    rfl
  · obtain ⟨a, s0, n, rfl, hScr, n0, n1, k⟩ := h
    refine ⟨_, (pss_cons (ps_asg (pe_op op_add (pe_ix ix_list (pv 1) pe_int (fun _ _ => rfl)) pe_int) (pg_sub (pv 1) pe_int set_list))
  (pss_cons (ps_if (PW.pt (pw_and (pt_cmpR op_eq (pe_ix ix_list (pv 1) pe_int (fun _ _ => rfl)) pe_int (nomark _)) (pw_and1 (pt_cmpR op_gt (pe_ix ix_list (pv 1) pe_int (fun _ _ => rfl)) pe_int (nomark _)))))
  (pss_cons (ps_set (i := 3) sc_law_draw.nd rfl (by first | exact Or.inl rfl | exact Or.inr rfl) (pe_op op_modN (pe_callTy (T := "int") call_int1 (by rfl) T.b_int (by decide +kernel) (pa_cons (pe_ix ix_list (pv 1) pe_int (fun _ _ => rfl)) pa_nil)) (pv 2)))
  (pss_cons (ps_asg (pe_op op_fdivW (pe_ix ix_list (pv 1) pe_int (fun _ _ => rfl)) (pv 2)) (pg_sub (pv 1) pe_int set_list))
  (pss_one (ps_ret (pv 3)))))
  pss_nil)
  (pss_cons (ps_asg pe_int (pg_sub (pv 1) pe_int set_list))
  (pss_cons (ps_set (i := 4) sc_law_draw.nd rfl (by first | exact Or.inl rfl | exact Or.inr rfl) pe_int)
  (pss_cons (ps_if (pt_cmpR op_gt (pe_callB call_len_seq (by rfl) T.b_len PySem.boot_len (pa_cons (pv 0) pa_nil)) pe_int (nomark _))
  (pss_one (ps_set (i := 4) sc_law_draw.nd rfl (by first | exact Or.inl rfl | exact Or.inr rfl) (pe_ix ix_list (pv 0) (pe_op op_modN (pe_callTy (T := "int") call_int1 (by rfl) T.b_int (by decide +kernel) (pa_cons (pe_ix ix_list (pv 1) pe_int (fun _ _ => rfl)) pa_nil)) (pe_callB call_len_seq (by rfl) T.b_len PySem.boot_len (pa_cons (pv 0) pa_nil))) (fun _ _ => rfl))))
  pss_nil)
  (pss_cons (ps_asg (pe_op op_add (pe_ix ix_list (pv 1) pe_int (fun _ _ => rfl)) pe_int) (pg_sub (pv 1) pe_int set_list))
  (pss_cons (ps_set (i := 5) sc_law_draw.nd rfl (by first | exact Or.inl rfl | exact Or.inr rfl) (pe_op op_mul (pe_op op_modN (pe_callTy (T := "int") call_int1 (by rfl) T.b_int (by decide +kernel) (pa_cons (pe_ix ix_list (pv 1) pe_int (fun _ _ => rfl)) pa_nil)) pe_int) pe_int))
  (pss_cons (ps_set (i := 5) sc_law_draw.nd rfl (by first | exact Or.inl rfl | exact Or.inr rfl) (pe_op op_add (pe_op op_add (pe_op op_add (pv 5) (pe_op op_modN (pe_callTy (T := "int") call_int1 (by rfl) T.b_int (by decide +kernel) (pa_cons (pv 4) pa_nil)) pe_int)) (pe_op op_mul pe_int (pe_ix ix_list (pv 1) pe_int (fun _ _ => rfl)))) pe_int))
  (pss_cons (ps_asg (pe_op op_modN (pe_callTy (T := "int") call_int1 (by rfl) T.b_int (by decide +kernel) (pa_cons (pv 5) pa_nil)) pe_int) (pg_sub (pv 1) pe_int set_list))
  (pss_cons (ps_set (i := 5) sc_law_draw.nd rfl (by first | exact Or.inl rfl | exact Or.inr rfl) (pe_op op_modN (pe_callTy (T := "int") call_int1 (by rfl) T.b_int (by decide +kernel) (pa_cons (pe_op op_add (pe_op op_mul (pe_ix ix_list (pv 1) pe_int (fun _ _ => rfl)) pe_int) (pe_ix ix_list (pv 1) pe_int (fun _ _ => rfl))) pa_nil)) pe_int))
  (pss_one (ps_ret (pe_op op_modN (pe_callTy (T := "int") call_int1 (by rfl) T.b_int (by decide +kernel) (pa_cons (pe_op op_fdivN (pv 5) pe_int) pa_nil)) (pv 2)))))))))))))), ?_⟩
    obtain ⟨⟨ns, hS, hl⟩, i0, i1, i2, i3, h4⟩ := id hScr
    have hA : ∀ H', Frm [s0] H H' → SqL K H' a (ns.map V.int) := fun H' fr => ((hid_frm fr).trans (hid_same _ _)).seq hS
    -- state[3] = state[3] + 1
    refine ⟨_, rfl, s0, _, _, _, rfl, rfl, SqL.of h4, rfl, _, _, rfl, rfl, _, rfl, s0, _, _, _, rfl, rfl, h4, rfl, ?_⟩
    refine ⟨_, rfl, s0, _, _, _, rfl, rfl, SqL.of upd_same, rfl, rfl, _, rfl, ?_⟩
    refine ite2 (fun c1 => ?_) (fun c1 => ?_)
    · refine ⟨_, rfl, s0, _, _, _, rfl, rfl, SqL.of upd_same, rfl, _, _, rfl, rfl, _, rfl, ?_⟩
      refine ite2 (fun c2 => ?_) (fun c2 => ?_)
      · refine ⟨_, rfl, s0, _, _, _, rfl, rfl, SqL.of upd_same, rfl, .inl ⟨_, rfl, _, rfl, _, _, rfl, rfl, (by show (_ : Int) ≠ 0; omega), ?_⟩⟩
        refine ⟨_, rfl, s0, _, _, _, rfl, rfl, SqL.of upd_same, rfl, _, rfl, _, _, rfl, rfl, ⟨by omega, Nat.lt_of_lt_of_le (PySem.Flt.log2_lt_of (k := 60) (by decide) (by omega)) (by decide)⟩, _, rfl, s0, _, _, _, rfl, rfl, upd_same, rfl, ?_⟩
        exact ⟨_, rfl, k _ _ (fmod0 n0) (fmod1 n0) (by repeat (first | exact Frm.refl _ _ | refine Frm.put' ?_ (by simp))) (hScr.frm (by repeat (first | exact Frm.refl _ _ | refine Frm.put' ?_ (by simp))) ⟨_, _, _, _, upd_same⟩)⟩
      · refine ⟨_, rfl, s0, _, _, _, rfl, rfl, upd_same, rfl, ?_⟩
        refine ⟨_, rfl, a, _, rfl, .inl (hA _ (by repeat (first | exact Frm.refl _ _ | refine Frm.put' ?_ (by simp)))), _, _, rfl, rfl, _, rfl, ?_⟩
        refine ite2 (fun c => ?_) (fun c => ?_)
        · have hp : (0 : Int) < ns.length := by simpa using of_decide_eq_true c
          obtain ⟨z, hz⟩ := ints_at (ns := ns) (i := i2.fmod ((ns.map V.int).length : Nat)) (fmod0 (by simpa using hp)) (by simpa using fmod1 (a := i2) hp)
          refine ⟨_, rfl, _, rfl, s0, _, _, _, rfl, rfl, SqL.of upd_same, rfl, .inl ⟨_, rfl, _, rfl, a, _, rfl, .inl (hA _ (by repeat (first | exact Frm.refl _ _ | refine Frm.put' ?_ (by simp)))), _, _, rfl, rfl, (by show (((ns.map V.int).length : Nat) : Int) ≠ 0; rw [List.length_map]; omega), a, _, _, _, rfl, rfl, hA _ (by repeat (first | exact Frm.refl _ _ | refine Frm.put' ?_ (by simp))), hz, ?_⟩⟩
          -- state[2] = state[2] + 1; mixed = ..
          refine ⟨_, rfl, s0, _, _, _, rfl, rfl, SqL.of upd_same, rfl, _, _, rfl, rfl, _, rfl, s0, _, _, _, rfl, rfl, upd_same, rfl, ?_⟩
          refine ⟨_, rfl, s0, _, _, _, rfl, rfl, SqL.of upd_same, rfl, .inl ⟨_, rfl, _, _, rfl, rfl, (by show (_ : Int) ≠ 0; decide), _, _, rfl, rfl, .inr ⟨by decide, by decide⟩, ?_⟩⟩
          refine ⟨_, rfl, _, rfl, .inl ⟨_, rfl, _, _, rfl, rfl, (by show (_ : Int) ≠ 0; decide), _, _, rfl, rfl, _, rfl, s0, _, _, _, rfl, rfl, SqL.of upd_same, rfl, _, _, rfl, rfl, .inl ⟨by decide, by decide⟩, _, _, rfl, rfl, _, _, rfl, rfl, ?_⟩⟩
          refine ⟨_, rfl, .inl ⟨_, rfl, _, _, rfl, rfl, (by show (_ : Int) ≠ 0; decide), _, rfl, s0, _, _, _, rfl, rfl, upd_same, rfl, ?_⟩⟩
          refine ⟨_, rfl, s0, _, _, _, rfl, rfl, SqL.of upd_same, rfl, _, _, rfl, rfl, .inr ⟨by decide, by decide⟩, _, rfl, s0, _, _, _, rfl, rfl, SqL.of upd_same, rfl, _, _, rfl, rfl, .inl ⟨_, rfl, _, _, rfl, rfl, (by show (_ : Int) ≠ 0; decide), ?_⟩⟩
          refine ⟨_, rfl, _, _, rfl, rfl, ⟨by decide, by decide⟩, .inl ⟨_, rfl, _, rfl, _, _, rfl, rfl, (by show (_ : Int) ≠ 0; omega), ?_⟩⟩
          exact k _ _ (fmod0 n0) (fmod1 n0) (by repeat (first | exact Frm.refl _ _ | refine Frm.put' ?_ (by simp))) (hScr.frm (by repeat (first | exact Frm.refl _ _ | refine Frm.put' ?_ (by simp))) ⟨_, _, _, _, upd_same⟩)
        · -- state[2] = state[2] + 1; mixed = ..
          refine ⟨_, rfl, s0, _, _, _, rfl, rfl, SqL.of upd_same, rfl, _, _, rfl, rfl, _, rfl, s0, _, _, _, rfl, rfl, upd_same, rfl, ?_⟩
          refine ⟨_, rfl, s0, _, _, _, rfl, rfl, SqL.of upd_same, rfl, .inl ⟨_, rfl, _, _, rfl, rfl, (by show (_ : Int) ≠ 0; decide), _, _, rfl, rfl, .inr ⟨by decide, by decide⟩, ?_⟩⟩
          refine ⟨_, rfl, _, rfl, .inl ⟨_, rfl, _, _, rfl, rfl, (by show (_ : Int) ≠ 0; decide), _, _, rfl, rfl, _, rfl, s0, _, _, _, rfl, rfl, SqL.of upd_same, rfl, _, _, rfl, rfl, .inl ⟨by decide, by decide⟩, _, _, rfl, rfl, _, _, rfl, rfl, ?_⟩⟩
          refine ⟨_, rfl, .inl ⟨_, rfl, _, _, rfl, rfl, (by show (_ : Int) ≠ 0; decide), _, rfl, s0, _, _, _, rfl, rfl, upd_same, rfl, ?_⟩⟩
          refine ⟨_, rfl, s0, _, _, _, rfl, rfl, SqL.of upd_same, rfl, _, _, rfl, rfl, .inr ⟨by decide, by decide⟩, _, rfl, s0, _, _, _, rfl, rfl, SqL.of upd_same, rfl, _, _, rfl, rfl, .inl ⟨_, rfl, _, _, rfl, rfl, (by show (_ : Int) ≠ 0; decide), ?_⟩⟩
          refine ⟨_, rfl, _, _, rfl, rfl, ⟨by decide, by decide⟩, .inl ⟨_, rfl, _, rfl, _, _, rfl, rfl, (by show (_ : Int) ≠ 0; omega), ?_⟩⟩
          exact k _ _ (fmod0 n0) (fmod1 n0) (by repeat (first | exact Frm.refl _ _ | refine Frm.put' ?_ (by simp))) (hScr.frm (by repeat (first | exact Frm.refl _ _ | refine Frm.put' ?_ (by simp))) ⟨_, _, _, _, upd_same⟩)
    · refine ⟨_, rfl, s0, _, _, _, rfl, rfl, upd_same, rfl, ?_⟩
      refine ⟨_, rfl, a, _, rfl, .inl (hA _ (by repeat (first | exact Frm.refl _ _ | refine Frm.put' ?_ (by simp)))), _, _, rfl, rfl, _, rfl, ?_⟩
      refine ite2 (fun c => ?_) (fun c => ?_)
      · have hp : (0 : Int) < ns.length := by simpa using of_decide_eq_true c
        obtain ⟨z, hz⟩ := ints_at (ns := ns) (i := i2.fmod ((ns.map V.int).length : Nat)) (fmod0 (by simpa using hp)) (by simpa using fmod1 (a := i2) hp)
        refine ⟨_, rfl, _, rfl, s0, _, _, _, rfl, rfl, SqL.of upd_same, rfl, .inl ⟨_, rfl, _, rfl, a, _, rfl, .inl (hA _ (by repeat (first | exact Frm.refl _ _ | refine Frm.put' ?_ (by simp)))), _, _, rfl, rfl, (by show (((ns.map V.int).length : Nat) : Int) ≠ 0; rw [List.length_map]; omega), a, _, _, _, rfl, rfl, hA _ (by repeat (first | exact Frm.refl _ _ | refine Frm.put' ?_ (by simp))), hz, ?_⟩⟩
        -- state[2] = state[2] + 1; mixed = ..
        refine ⟨_, rfl, s0, _, _, _, rfl, rfl, SqL.of upd_same, rfl, _, _, rfl, rfl, _, rfl, s0, _, _, _, rfl, rfl, upd_same, rfl, ?_⟩
        refine ⟨_, rfl, s0, _, _, _, rfl, rfl, SqL.of upd_same, rfl, .inl ⟨_, rfl, _, _, rfl, rfl, (by show (_ : Int) ≠ 0; decide), _, _, rfl, rfl, .inr ⟨by decide, by decide⟩, ?_⟩⟩
        refine ⟨_, rfl, _, rfl, .inl ⟨_, rfl, _, _, rfl, rfl, (by show (_ : Int) ≠ 0; decide), _, _, rfl, rfl, _, rfl, s0, _, _, _, rfl, rfl, SqL.of upd_same, rfl, _, _, rfl, rfl, .inl ⟨by decide, by decide⟩, _, _, rfl, rfl, _, _, rfl, rfl, ?_⟩⟩
        refine ⟨_, rfl, .inl ⟨_, rfl, _, _, rfl, rfl, (by show (_ : Int) ≠ 0; decide), _, rfl, s0, _, _, _, rfl, rfl, upd_same, rfl, ?_⟩⟩
        refine ⟨_, rfl, s0, _, _, _, rfl, rfl, SqL.of upd_same, rfl, _, _, rfl, rfl, .inr ⟨by decide, by decide⟩, _, rfl, s0, _, _, _, rfl, rfl, SqL.of upd_same, rfl, _, _, rfl, rfl, .inl ⟨_, rfl, _, _, rfl, rfl, (by show (_ : Int) ≠ 0; decide), ?_⟩⟩
        refine ⟨_, rfl, _, _, rfl, rfl, ⟨by decide, by decide⟩, .inl ⟨_, rfl, _, rfl, _, _, rfl, rfl, (by show (_ : Int) ≠ 0; omega), ?_⟩⟩
        exact k _ _ (fmod0 n0) (fmod1 n0) (by repeat (first | exact Frm.refl _ _ | refine Frm.put' ?_ (by simp))) (hScr.frm (by repeat (first | exact Frm.refl _ _ | refine Frm.put' ?_ (by simp))) ⟨_, _, _, _, upd_same⟩)
      · -- state[2] = state[2] + 1; mixed = ..
        refine ⟨_, rfl, s0, _, _, _, rfl, rfl, SqL.of upd_same, rfl, _, _, rfl, rfl, _, rfl, s0, _, _, _, rfl, rfl, upd_same, rfl, ?_⟩
        refine ⟨_, rfl, s0, _, _, _, rfl, rfl, SqL.of upd_same, rfl, .inl ⟨_, rfl, _, _, rfl, rfl, (by show (_ : Int) ≠ 0; decide), _, _, rfl, rfl, .inr ⟨by decide, by decide⟩, ?_⟩⟩
        refine ⟨_, rfl, _, rfl, .inl ⟨_, rfl, _, _, rfl, rfl, (by show (_ : Int) ≠ 0; decide), _, _, rfl, rfl, _, rfl, s0, _, _, _, rfl, rfl, SqL.of upd_same, rfl, _, _, rfl, rfl, .inl ⟨by decide, by decide⟩, _, _, rfl, rfl, _, _, rfl, rfl, ?_⟩⟩
        refine ⟨_, rfl, .inl ⟨_, rfl, _, _, rfl, rfl, (by show (_ : Int) ≠ 0; decide), _, rfl, s0, _, _, _, rfl, rfl, upd_same, rfl, ?_⟩⟩
        refine ⟨_, rfl, s0, _, _, _, rfl, rfl, SqL.of upd_same, rfl, _, _, rfl, rfl, .inr ⟨by decide, by decide⟩, _, rfl, s0, _, _, _, rfl, rfl, SqL.of upd_same, rfl, _, _, rfl, rfl, .inl ⟨_, rfl, _, _, rfl, rfl, (by show (_ : Int) ≠ 0; decide), ?_⟩⟩
        refine ⟨_, rfl, _, _, rfl, rfl, ⟨by decide, by decide⟩, .inl ⟨_, rfl, _, rfl, _, _, rfl, rfl, (by show (_ : Int) ≠ 0; omega), ?_⟩⟩
        exact k _ _ (fmod0 n0) (fmod1 n0) (by repeat (first | exact Frm.refl _ _ | refine Frm.put' ?_ (by simp))) (hScr.frm (by repeat (first | exact Frm.refl _ _ | refine Frm.put' ?_ (by simp))) ⟨_, _, _, _, upd_same⟩)
end
section
variable {P : Program} {w : World} {K : PySem.W.Frag} {mg : Str → Option Value} {base : Heap}

theorem ok_shown {f : Addr} {fd : FuncData} (F : Fun K "_shown" "_shown" s_shown f fd) (T : Txt K mg) : FnOk P w K mg base CX0 1 f fd P_shown sp_shown := by
  refine F.ok sc_shown (fun vs H Q E h => ?_) (fun cdv A outer s H vs Q E hr h => ?_)
  · obtain ⟨x, rfl, hx, k⟩ := h
    rfl
  · obtain ⟨x, rfl, hx, k⟩ := h
    refine ⟨_, (pss_cons (ps_if (pt_val (pe_callB (id := "isinstance") call_isi (by rfl) T.b_isinstance (by decide +kernel) (pa_cons (pv 0) (pa_cons (pe_bltn (v := .ty "str") (by rfl) T.b_str (by decide +kernel) rfl) pa_nil))))
  (pss_one (ps_ret (pe_callB (id := "repr") call_repr_str (by rfl) T.b_repr (by decide +kernel) (pa_cons (pv 0) pa_nil))))
  pss_nil)
  (pss_cons (ps_if (PW.pt (pw_and (pt_val (pe_callB (id := "isinstance") call_isi (by rfl) T.b_isinstance (by decide +kernel) (pa_cons (pv 0) (pa_cons (pe_bltn (v := .ty "int") (by rfl) T.b_int (by decide +kernel) rfl) pa_nil)))) (pw_and1 (pt_chain op_ltM op_ltM (pe_un un_neg pe_int) (pv 0) pe_int))))
  (pss_one (ps_ret (pe_callTy (T := "str") call_str_ib (by rfl) T.b_str (by decide +kernel) (pa_cons (pv 0) pa_nil))))
  pss_nil)
  (pss_one (ps_ret pe_str)))), ?_⟩
    rcases hx with ⟨z, rfl, hz⟩ | ⟨i, rfl⟩ | rfl | ⟨b, rfl⟩
    · refine ⟨_, rfl, _, _, _, _, true, rfl, .ty _, .base (.str _), kit_ty (by decide +kernel), true, rfl, iteT ?_⟩
      exact ⟨_, rfl, z, rfl, Nat.le_trans hz (by rw [sizeLine_eq]; decide), k _ hz⟩
    · refine ⟨_, rfl, _, _, _, _, false, rfl, .ty _, .base (.int _), kit_ty (by decide +kernel), false, rfl, iteF ?_⟩
      refine ⟨_, rfl, _, _, _, _, true, rfl, .ty _, .base (.int _), kit_ty (by decide +kernel), true, rfl, iteT ?_⟩
      refine ⟨_, rfl, _, rfl, _, _, rfl, rfl, _, rfl, ?_⟩
      refine ite2 (fun c1 => ?_) (fun c1 => ?_)
      · have c1 := of_decide_eq_true c1
        refine ⟨_, _, rfl, rfl, _, rfl, ?_⟩
        refine ite2 (fun c2 => ?_) (fun c2 => ?_)
        · have c2 := of_decide_eq_true c2
          have hn : i.natAbs < 10 ^ 4 := by
            have e : (10 : Nat) ^ 4 = 10000 := by decide
            rw [e]
            omega
          refine ⟨_, rfl, .inl ⟨_, rfl, ?_, k _ ?_⟩⟩
          · have h2 : i.natAbs < 2 ^ 1920 := Nat.lt_of_lt_of_le hn (by decide)
            by_cases h0 : i.natAbs = 0
            · rw [h0]
              decide
            · exact (Nat.log2_lt h0).mpr h2
          · have e := int_text_length_le10 (k := 4) (by decide) hn
            show (Str.ofString (toString i)).length ≤ _
            rw [PySem.ofString_length]
            omega
        · exact k _ (by decide +kernel)
      · refine ⟨_, rfl, ite2 (fun z => absurd z (by decide)) (fun _ => ?_)⟩
        exact k _ (by decide +kernel)
    · refine ⟨_, rfl, _, _, _, _, false, rfl, .ty _, .base .non, kit_ty (by decide +kernel), false, rfl, iteF ?_⟩
      refine ⟨_, rfl, _, _, _, _, false, rfl, .ty _, .base .non, kit_ty (by decide +kernel), false, rfl, iteF ?_⟩
      exact k _ (by decide +kernel)
    · refine ⟨_, rfl, _, _, _, _, false, rfl, .ty _, .base (.bl _), kit_ty (by decide +kernel), false, rfl, iteF ?_⟩
      refine ⟨_, rfl, _, _, _, _, true, rfl, .ty _, .base (.bl _), kit_ty (by decide +kernel), true, rfl, iteT ?_⟩
      refine ⟨_, rfl, _, rfl, _, _, rfl, rfl, _, rfl, ?_⟩
      refine ite2 (fun c1 => ?_) (fun c1 => absurd (decide_eq_true (by cases b <;> decide)) c1)
      refine ⟨_, _, rfl, rfl, _, rfl, ?_⟩
      refine ite2 (fun c2 => ?_) (fun c2 => absurd (decide_eq_true (by cases b <;> decide)) c2)
      exact ⟨_, rfl, .inr ⟨b, rfl, k _ (by cases b <;> decide +kernel)⟩⟩

theorem okBadNumber___init__ {f C cda cc : Addr} {oc dV kV doc pm ct : Value} {an od : Option Addr} {osl : Array (Option Value)} (lk : K.lookup f = some ⟨oc, od, .func (PySem.W.fnX "__init__" "BadNumber.__init__" (defArgs sBadNumber___init__) (defBody sBadNumber___init__) (defScope sBadNumber___init__) [("__class__", cc)] dV kV doc pm an (.ref cda) ct), osl⟩) (EC : ErrC P K mg "BadNumber" "BadNumber.__init__" C f cda cc) (T : Txt K mg)
    (C_shown : Cal P w K mg base "_shown" P_shown 1 sp_shown) : FnOk P w K mg base CX0 2 f (PySem.W.fnX "__init__" "BadNumber.__init__" (defArgs sBadNumber___init__) (defBody sBadNumber___init__) (defScope sBadNumber___init__) [("__class__", cc)] dV kV doc pm an (.ref cda) ct) PBadNumber___init__ (spBadNumber C) := by
  obtain ⟨g_shown, gd_shown, G_shown, m_shown, k_shown, b_shown⟩ := C_shown.ex
  refine fn_super (N := NBadNumber___init__) lk EC.sup scBadNumber___init__ rfl rfl rfl rfl (fun vs H Q E h => ?_) (fun A outer s H vs Q E hr h => ?_)
  · obtain ⟨a, z, v, rfl, ha, hz, hv, k⟩ := h
    rfl
  · obtain ⟨a, z, v, rfl, ha, hz, hv, k⟩ := h
    refine ⟨_, _, (pa_cons (pe_joined (.cons pe_str (.cons (pe_fmt (pv 1)) (.cons pe_str (.cons (pe_fmt (pe_call G_shown (hr.mono (by decide)) (by rfl) m_shown k_shown b_shown .nil pass0 (pa_cons (pv 2) pa_nil))) .nil))))) pa_nil), (pss_cons (ps_ost (pv 0) (pv 1)) (pss_one (ps_ost (pv 0) (pv 2)))), ?_⟩
    have h1 : (Str.empty ++ ("bad number for " : Str)).length ≤ 15 := by decide +kernel
    have h2 : (Str.empty ++ ("bad number for " : Str) ++ z).length ≤ 1015 := by rw [PySem.Str.length_append]; omega
    have h3 : (Str.empty ++ ("bad number for " : Str) ++ z ++ (": " : Str)).length ≤ 1017 := by rw [PySem.Str.length_append]; rw [show (": " : Str).length = 2 by decide +kernel]; omega
    refine ⟨a, _, rfl, ha, ?_⟩
    refine ⟨_, rfl, Nat.le_trans h1 (by rw [sizeLine_eq]; decide), ?_⟩
    refine ⟨_, rfl, .inl ⟨z, rfl, Nat.le_trans hz (by rw [sizeLine_eq]; decide), z, rfl, Nat.le_trans h2 (by rw [sizeLine_eq]; decide), ?_⟩⟩
    refine ⟨_, rfl, Nat.le_trans h3 (by rw [sizeLine_eq]; decide), ?_⟩
    refine ⟨_, rfl, v, rfl, hv, fun y hy => .inl ⟨y, rfl, Nat.le_trans hy (by rw [sizeLine_eq]; decide), y, rfl, ?_, ?_⟩⟩
    · rw [PySem.Str.length_append, sizeLine_eq]
      omega
    refine ⟨(by show 1 ≤ 1000; decide), ha, ?_⟩
    refine ⟨_, rfl, _, rfl, a, C, rfl, EC.sup.oex, EC.noWhat, .inl ⟨ha, fun dx nd ne => ?_⟩⟩
    refine ⟨_, rfl, _, rfl, a, C, rfl, EC.sup.oex, EC.noValue, .inr ⟨dx, _, upd_same, (by rw [upd_ne ne]; exact upd_same), (by show 1 ≤ 900; decide), ?_⟩⟩
    exact init_leaves2 ha k nd ne

theorem okBadName___init__ {f C cda cc : Addr} {oc dV kV doc pm ct : Value} {an od : Option Addr} {osl : Array (Option Value)} (lk : K.lookup f = some ⟨oc, od, .func (PySem.W.fnX "__init__" "BadName.__init__" (defArgs sBadName___init__) (defBody sBadName___init__) (defScope sBadName___init__) [("__class__", cc)] dV kV doc pm an (.ref cda) ct), osl⟩) (EC : ErrC P K mg "BadName" "BadName.__init__" C f cda cc) (T : Txt K mg)
    (C_shown : Cal P w K mg base "_shown" P_shown 1 sp_shown) : FnOk P w K mg base CX0 2 f (PySem.W.fnX "__init__" "BadName.__init__" (defArgs sBadName___init__) (defBody sBadName___init__) (defScope sBadName___init__) [("__class__", cc)] dV kV doc pm an (.ref cda) ct) PBadName___init__ (spBadName C) := by
  obtain ⟨g_shown, gd_shown, G_shown, m_shown, k_shown, b_shown⟩ := C_shown.ex
  refine fn_super (N := NBadName___init__) lk EC.sup scBadName___init__ rfl rfl rfl rfl (fun vs H Q E h => ?_) (fun A outer s H vs Q E hr h => ?_)
  · obtain ⟨a, v, rfl, ha, hv, k⟩ := h
    rfl
  · obtain ⟨a, v, rfl, ha, hv, k⟩ := h
    refine ⟨_, _, (pa_cons (pe_joined (.cons pe_str (.cons (pe_fmt (pe_call G_shown (hr.mono (by decide)) (by rfl) m_shown k_shown b_shown .nil pass0 (pa_cons (pv 1) pa_nil))) .nil))) pa_nil), (pss_one (ps_ost (pv 0) (pv 1))), ?_⟩
    have h1 : (Str.empty ++ ("bad name: " : Str)).length ≤ 10 := by decide +kernel
    refine ⟨a, _, rfl, ha, ?_⟩
    refine ⟨_, rfl, Nat.le_trans h1 (by rw [sizeLine_eq]; decide), ?_⟩
    refine ⟨_, rfl, v, rfl, hv, fun y hy => .inl ⟨y, rfl, Nat.le_trans hy (by rw [sizeLine_eq]; decide), y, rfl, ?_, ?_⟩⟩
    · rw [PySem.Str.length_append, sizeLine_eq]
      omega
    refine ⟨(by show 1 ≤ 1000; decide), ha, ?_⟩
    refine ⟨_, rfl, _, rfl, a, C, rfl, EC.sup.oex, EC.noName, .inl ⟨ha, fun dx nd ne => ?_⟩⟩
    exact init_leaves1 k nd ne
end
end Wb

namespace Wb
open PySem PySem.Spec PyProof.Rows L2 Wx StX NdefX RZ StX PyProof.Rows.FinIter
section
variable {P : Program} {w : World} {K : PySem.W.Frag} {mg : Str → Option Value} {base : Heap}

theorem take_snoc {α : Type} : ∀ {l : List α} {i : Nat} {x : α}, l[i]? = some x → l.take (i + 1) = l.take i ++ [x]
  | [], i, x, h => by simp at h
  | a :: l, 0, x, h => by
    have e : a = x := Option.some.inj h
    subst e
    rfl
  | a :: l, i + 1, x, h => by
    have ih := take_snoc (l := l) (i := i) (x := x) h
    show a :: l.take (i + 1) = a :: l.take i ++ [x]
    rw [ih]
    rfl
abbrev codes (z : Str) : List Nat := z.cps.toList
theorem codes_len (z : Str) : (codes z).length = z.length := Array.length_toList
theorem codes_app (x y : Str) : codes (x ++ y) = codes x ++ codes y := by
  show (x ++ y).cps.toList = _
  rw [PySem.Str.cps_append, Array.toList_append]
theorem bigN {n : Nat} (h : n ≤ 1000000) : n ≤ sizeLine := Nat.le_trans h (by rw [sizeLine_eq]; decide)
theorem lt1 {c d : Nat} : ([c] : List Nat) < [d] ↔ c < d := by
  rw [List.cons_lt_cons_iff]
  simp
theorem aS : ("a" : Str).cps.toList = [97] := by decide +kernel
theorem zS : ("z" : Str).cps.toList = [122] := by decide +kernel
def lowB (z : Str) : Bool := (codes z).all fun c => decide (97 ≤ c ∧ c ≤ 122)
def nameB : V → Bool
  | .str z => decide (1 ≤ z.length ∧ z.length ≤ 8) && lowB z
  | _ => false
def numB (v : V) (lo hi : Int) : Bool := match v with | .int i => decide (lo ≤ i ∧ i ≤ hi) | _ => false
/-- a value of one of the kinds that are asked -/
inductive OddV : V → Prop
  | str (z : Str) : z.length ≤ 1000 → (reprText z).length ≤ 20000 → OddV (.str z)
  | int (i : Int) : OddV (.int i)
  | non : OddV .non
  | bl (b : Bool) : OddV (.bl b)
theorem OddV.shows {x : V} (h : OddV x) : ShowOk x := by
  cases h with
  | str z h1 h2 => exact .inl ⟨z, rfl, h2⟩
  | int i => exact .inr (.inl ⟨i, rfl⟩)
  | non => exact .inr (.inr (.inl rfl))
  | bl b => exact .inr (.inr (.inr ⟨b, rfl⟩))
theorem OddV.self {x : V} (h : OddV x) : scal x x = true := by cases h <;> rfl
theorem OddV.text {x : V} (h : OddV x) (z : Str) : scal x (.str z) = true := by cases h <;> rfl
theorem OddV.tyOf {x : V} (h : OddV x) {K : PySem.W.Frag} {H : Hp} : ∃ T, TyOf K H x T ∧ True := by
  cases h with
  | str z h1 h2 => exact ⟨_, .str _, trivial⟩
  | int i => exact ⟨_, .int _, trivial⟩
  | non => exact ⟨_, .non, trivial⟩
  | bl b => exact ⟨_, .bl _, trivial⟩
def spis_name : Sp := fun vs H Q _ => ∃ x, vs = [x] ∧ OddV x ∧ ∀ H', Same H H' → Q (.bl (nameB x)) H'
def spcheck_name (C : Addr) : Sp := fun vs H Q E => ∃ x, vs = [x] ∧ OddV x ∧ (nameB x = true → ∀ H', Same H H' → Q x H') ∧
  (nameB x = false → ∀ (d : Addr) (H' : Hp), H d = none → Same H H' → H' d = some (.xd [("name", x)]) → E (.ref C) (some d) H')
def spcheck_number (C : Addr) : Sp := fun vs H Q E => ∃ (z : Str) (v : V) (lo hi : Int), vs = [.str z, v, .int lo, .int hi] ∧ z.length ≤ 1000 ∧ OddV v ∧ (numB v lo hi = true → Q v H) ∧
  (numB v lo hi = false → ∀ (d : Addr) (H' : Hp), H d = none → Same H H' → H' d = some (.xd [("value", v), ("what", .str z)]) → E (.ref C) (some d) H')
def sp_law_is_integer : Sp := fun vs H Q _ => ∃ i : Int, vs = [.int i] ∧ Q (.bl true) H
theorem look_val {v w : V} : ([("value", v), ("what", w)] : List (Str × V)).lookup ("value" : Str) = some v := by rw [lookup_put, if_pos rfl]
theorem look_what {v w : V} : ([("value", v), ("what", w)] : List (Str × V)).lookup ("what" : Str) = some w := by rw [lookup_put, if_neg (by decide +kernel), lookup_put, if_pos rfl]
theorem look_name {v : V} : ([("name", v)] : List (Str × V)).lookup ("name" : Str) = some v := by rw [lookup_put, if_pos rfl]
theorem ne_self {x : V} : ¬ (!decide (x = x)) = true := by rw [decide_eq_true rfl]; exact Bool.false_ne_true
theorem upd_upd {H : Hp} {a : Addr} {o o1 : HO} : upd (upd H a o) a o1 = upd H a o1 := by
  funext b
  by_cases h : b = a
  · rw [h, upd_same, upd_same]
  · rw [upd_ne h, upd_ne h, upd_ne h]
def TxtOk (n : Nat) (z : Str) : Prop := z.length ≤ n ∧ ∀ c, c ∈ codes z → c < 128
theorem TxtOk.repr {n : Nat} {z : Str} (h : TxtOk n z) (hn : n ≤ 1000) : (reprText z).length ≤ 20000 := by
  have := PySem.StrLaws.reprText_len z (fun c hc => Nat.lt_trans (h.2 c hc) (by decide))
  have := h.1
  omega
theorem TxtOk.mono {m n : Nat} {z : Str} (h : TxtOk m z) (hn : m ≤ n) : TxtOk n z := ⟨Nat.le_trans h.1 hn, h.2⟩
theorem TxtOk.app {m n : Nat} {x y : Str} (h1 : TxtOk m x) (h2 : TxtOk n y) : TxtOk (m + n) (x ++ y) := by
  refine ⟨by rw [PySem.Str.length_append]; have := h1.1; have := h2.1; omega, fun c hc => ?_⟩
  have e : codes (x ++ y) = codes x ++ codes y := by
    show (x ++ y).cps.toList = _
    rw [PySem.Str.cps_append, Array.toList_append]
  rw [e] at hc
  rcases List.mem_append.mp hc with q | q
  · exact h1.2 c q
  · exact h2.2 c q
theorem TxtOk.cut {n : Nat} {z : Str} {lo hi : Option Int} (h : TxtOk n z) : TxtOk n (cutS z lo hi) := by
  have e : codes (cutS z lo hi) = ((codes z).drop (HT.sIx z.length 0 lo)).take (HT.sIx z.length z.length hi - HT.sIx z.length 0 lo) := by
    unfold cutS codes
    simp
  refine ⟨?_, fun c hc => ?_⟩
  · rw [← codes_len, e, List.length_take, List.length_drop, codes_len]
    have := h.1
    omega
  · rw [e] at hc
    exact h.2 c (List.mem_of_mem_drop (List.mem_of_mem_take hc))
theorem TxtOk.one {c : Nat} (h : c < 128) : TxtOk 1 ⟨#[c]⟩ := ⟨Nat.le_refl _, fun d hd => by
  have : d = c := by simpa [codes] using hd
  omega⟩
theorem Str.odd {n : Nat} {z : Str} (h : TxtOk n z) (hn : n ≤ 1000) : OddV (.str z) := .str z (Nat.le_trans h.1 hn) (h.repr hn)
theorem scr_of {K : PySem.W.Frag} {H H' : Hp} {a s p : Addr} (h : Scr K H a s) (n : H p = none) (f : Frm [p, s] H H') (q : St4 H' s) : Scr K H' a s := by
  obtain ⟨⟨ns, h1, h2⟩, _⟩ := h
  refine ⟨⟨ns, Same.seq (fun b o e => ?_) h1, h2⟩, q⟩
  have nb : ¬ b ∈ [s] := fun y => by
    rw [show hid [s] H b = none from if_pos y] at e
    cases e
  rw [hid_eq nb] at e ⊢
  refine f b o (fun y => ?_) e
  rcases List.mem_cons.mp y with z | z
  · rw [z, n] at e
    cases e
  · exact nb z
theorem OddV.dp {x : V} (h : OddV x) (hs : ∀ z, x = .str z → PyData.strOk z = true) : ∃ d, (∀ K H, Dp K H x d) ∧ (∀ t : Str, PyData.strOk t = true → SeqAt.shaped (.tuple [.str t, d]) = true) := by
  cases h with
  | str z h1 h2 => exact ⟨_, fun _ _ => .str z, fun t ht => by simp [SeqAt.shaped, PyData.canLay0, PyData.canLayAll0, PyData.depth, PyData.depthAll, ht, hs z rfl]⟩
  | int i => exact ⟨_, fun _ _ => .int i, fun t ht => by simp [SeqAt.shaped, PyData.canLay0, PyData.canLayAll0, PyData.depth, PyData.depthAll, ht]⟩
  | non => exact ⟨_, fun _ _ => .non, fun t ht => by simp [SeqAt.shaped, PyData.canLay0, PyData.canLayAll0, PyData.depth, PyData.depthAll, ht]⟩
  | bl b => exact ⟨_, fun _ _ => .bl b, fun t ht => by simp [SeqAt.shaped, PyData.canLay0, PyData.canLayAll0, PyData.depth, PyData.depthAll, ht]⟩
theorem TxtOk.strOk {n : Nat} {z : Str} (h : TxtOk n z) : PyData.strOk z = true := by
  unfold PyData.strOk
  rw [Array.all_eq_true_iff_forall_mem]
  intro c hc
  exact decide_eq_true (Nat.lt_trans (h.2 c (by simpa [codes] using hc)) (by decide))
/-- the two told pairs are equal -/
theorem pair_eq {K : PySem.W.Frag} {H : Hp} {q r : Addr} {t : Str} {v : V} (ht : PyData.strOk t = true) (o : OddV v) (hs : ∀ z, v = .str z → PyData.strOk z = true) (h1 : H q = some (.tup [.str t, v])) (h2 : H r = some (.tup [.str t, v])) :
    ∃ d e, Dp K H (.ref q) d ∧ Dp K H (.ref r) e ∧ SeqAt.shaped d = true ∧ SeqAt.shaped e = true ∧ PyData.eqv d e = true := by
  obtain ⟨d, hd, sd⟩ := o.dp hs
  exact ⟨_, _, .tup (.inl (.inl h1)) (.cons (.str t) (.cons (hd K H) .nil)), .tup (.inl (.inl h2)) (.cons (.str t) (.cons (hd K H) .nil)), sd t ht, sd t ht, PySem.SeqAt.eqv_refl _ (PySem.SeqAt.canLay_of_shaped (sd t ht))⟩

/-- what is asked of a class with __init__ and __eq__ -/
structure DatC (K : PySem.W.Frag) (mg : Str → Option Value) (x : Str) (C fi fe : Addr) (fs : List Str) : Prop where
  g : mg x = some (.ref C)
  mkk : Mk K C fi
  cls : Cls K C
  no : ∀ f, f ∈ fs → NoAttr K C f
  eq : PySem.W.findIn K (.ref C) "__eq__" = some (some (.ref fe))
  fe : PySem.W.isFn K (.ref fe) = true
  ne : PySem.W.findIn K (.ref C) "__ne__" = some (some (.builtin "object.__ne__"))
  ob : PySem.W.subIn K (.ref C) (.type "object") = some true
  ha : PySem.W.findIn K (.ref C) "__class__" = some (some (.builtin "object.__class__"))
  hn : PySem.W.specialIn K (.builtin "object.__class__") "__get__" = some (some (.builtin "getset_descriptor.__get__"))
  htk : PySem.W.takesIn K (.builtin "object.__class__") = some true
  hm : PySem.W.mroIn K C (.type "object") = some true
  kit : PySem.W.kitOne K (.ref C) (.ref C) = some true
def splaw (K : PySem.W.Frag) : Sp := fun vs H Q _ => ∃ (a : Addr) (ns : List Int), vs = [.ref a] ∧ SqL K H a (ns.map V.int) ∧ ns.length ≤ 63 ∧ ∀ H', Q (.bl true) H'

theorem Same.seqT {K : PySem.W.Frag} {H H' : Hp} {a : Addr} {xs : List V} (e : Same H H') (h : SqT K H a xs) : SqT K H' a xs := by
  rcases h with h | h
  · exact .inl (h.imp (e a _) fun ⟨o, q⟩ => ⟨o, e a _ q⟩)
  · exact .inr h
/-- small letters, n of them or fewer, at least one -/
def NmOk (n : Nat) (z : Str) : Prop := 1 ≤ z.length ∧ z.length ≤ n ∧ ∀ c, c ∈ codes z → 97 ≤ c ∧ c ≤ 122
theorem NmOk.txt {n : Nat} {z : Str} (h : NmOk n z) : TxtOk n z := ⟨h.2.1, fun c hc => Nat.lt_of_le_of_lt (h.2.2 c hc).2 (by decide)⟩
theorem NmOk.mono {m n : Nat} {z : Str} (h : NmOk m z) (hn : m ≤ n) : NmOk n z := ⟨h.1, Nat.le_trans h.2.1 hn, h.2.2⟩
theorem NmOk.name {n : Nat} {z : Str} (h : NmOk n z) (hn : n ≤ 8) : nameB (.str z) = true := by
  show (decide (1 ≤ z.length ∧ z.length ≤ 8) && lowB z) = true
  rw [decide_eq_true ⟨h.1, Nat.le_trans h.2.1 hn⟩]
  exact List.all_eq_true.mpr fun c hc => decide_eq_true (h.2.2 c hc)
theorem NmOk.app {m n : Nat} {x y : Str} (h1 : NmOk m x) (h2 : NmOk n y) : NmOk (m + n) (x ++ y) := by
  refine ⟨by rw [PySem.Str.length_append]; have := h1.1; omega, by rw [PySem.Str.length_append]; have := h1.2.1; have := h2.2.1; omega, fun c hc => ?_⟩
  rw [codes_app] at hc
  rcases List.mem_append.mp hc with q | q
  · exact h1.2.2 c q
  · exact h2.2.2 c q
theorem pick (r : Int) (h0 : 0 ≤ r) (h1 : r < 26) : ∃ c, atI (codes ("abcdefghijklmnopqrstuvwxyz" : Str)) r = some c ∧ NmOk 1 ⟨#[c]⟩ := by
  obtain ⟨rn, rfl⟩ : ∃ rn : Nat, r = (rn : Int) := ⟨r.toNat, by omega⟩
  have ll : ("abcdefghijklmnopqrstuvwxyz" : Str).length = 26 := by decide +kernel
  have lc : ∀ c, c ∈ codes ("abcdefghijklmnopqrstuvwxyz" : Str) → 97 ≤ c ∧ c ≤ 122 := by decide +kernel
  have hcod : (codes ("abcdefghijklmnopqrstuvwxyz" : Str)).length = 26 := by rw [codes_len, ll]
  have hj : (codes ("abcdefghijklmnopqrstuvwxyz" : Str))[rn]? = some (codes ("abcdefghijklmnopqrstuvwxyz" : Str))[rn] := List.getElem?_eq_getElem (by omega)
  refine ⟨_, atI_nat hj, Nat.le_refl _, Nat.le_refl _, fun c hc => ?_⟩
  have : c = (codes ("abcdefghijklmnopqrstuvwxyz" : Str))[rn] := by simpa [codes] using hc
  rw [this]
  exact lc _ (List.mem_of_getElem? hj)
theorem lettersLen : ("abcdefghijklmnopqrstuvwxyz" : Str).length ≤ sizeLine := bigN (by decide +kernel)

/-- all but p and dx is kept -/
def Fr2 (p dx : Addr) (H H' : Hp) : Prop := ∀ b o, b ≠ p → b ≠ dx → H b = some o → H' b = some o
theorem Fr2.same {p dx : Addr} {H H' : Hp} {o1 o2 : HO} (np : H p = none) (nd : H dx = none) (fr : Fr2 p dx (upd (upd H dx o1) p o2) H') : Same H H' := fun b o e => by
  have b1 := ne_of_none e np
  have b2 := ne_of_none e nd
  exact fr b o b1 b2 (by rw [upd_ne b1, upd_ne b2]; exact e)

theorem strs_at {g : List Str} {i : Nat} {x : V} (h : (g.map V.str)[i]? = some x) : ∃ z, g[i]? = some z ∧ x = .str z := by
  rw [List.getElem?_map] at h
  cases e : g[i]? with
  | none => rw [e] at h; cases h
  | some z => rw [e] at h; exact ⟨z, rfl, (Option.some.inj h).symm⟩
theorem flat_strs {g : List Str} : (g.map V.str).all flatV = true := List.all_eq_true.mpr fun x hx => by
  obtain ⟨z, _, rfl⟩ := List.mem_map.mp hx
  rfl
theorem inV_str {z : Str} : ∀ {g : List Str}, inV (.str z) (g.map V.str) = decide (z ∈ g)
  | [] => by simp [inV]
  | y :: g => by
    have ih := inV_str (z := z) (g := g)
    unfold inV at ih ⊢
    rw [List.map_cons, List.any_cons, ih]
    show (y == z || decide (z ∈ g)) = _
    rw [Bool.eq_iff_iff, Bool.or_eq_true, decide_eq_true_eq, decide_eq_true_eq, beq_iff_eq, List.mem_cons]
    exact ⟨fun h => h.imp (fun e => e.symm) id, fun h => h.imp (fun e => e.symm) id⟩
theorem len_strs {g : List Str} : (g.map V.str).length = g.length := List.length_map _
/-- a tuple of texts -/
def repG : Rep (List Str) := fun x H g => ∃ p, x = .ref p ∧ H p = some (.tup (g.map V.str))
/-- a list or a tuple of texts -/
def repA : Rep (List Str) := fun x H g => ∃ p, x = .ref p ∧ (H p = some (.lst (g.map V.str)) ∨ H p = some (.tup (g.map V.str)))
theorem repG_mono : RMon repG := fun x H H' a e h => by
  obtain ⟨p, rfl, h⟩ := h
  exact ⟨p, rfl, e _ _ h⟩
theorem repA_mono : RMon repA := fun x H H' a e h => by
  obtain ⟨p, rfl, h⟩ := h
  exact ⟨p, rfl, h.imp (e _ _) (e _ _)⟩
theorem repG.a {x : V} {H : Hp} {g : List Str} (h : repG x H g) : repA x H g := by
  obtain ⟨p, rfl, h⟩ := h
  exact ⟨p, rfl, .inr h⟩
/-- texts at p, a list or a tuple -/
def TxA (K : PySem.W.Frag) (H : Hp) (p : Addr) (g : List Str) : Prop := SqL K H p (g.map V.str) ∨ SqT K H p (g.map V.str)
theorem TxA.same {K : PySem.W.Frag} {H H' : Hp} {p : Addr} {g : List Str} (s : Same H H') (h : TxA K H p g) : TxA K H' p g := Or.imp (Same.seq s) (Same.seqT s) h
theorem repA.tx {K : PySem.W.Frag} {x : V} {H : Hp} {g : List Str} (h : repA x H g) : ∃ p, x = .ref p ∧ TxA K H p g := by
  obtain ⟨p, rfl, h⟩ := h
  exact ⟨p, rfl, h.imp SqL.of SqT.of⟩
theorem repG.tx {K : PySem.W.Frag} {p : Addr} {H : Hp} {g : List Str} (h : H p = some (.tup (g.map V.str))) : TxA K H p g := .inr (SqT.of h)
/-- one more item of a comprehension, kept or not -/
theorem lc_yes {α : Type} {H H1 : Hp} {D : Addr} {l : List α} {p : α → Bool} {f : α → V} {i : Nat} {a : α} (hD : H D = none) (g1 : H1 D = some (.lst (((l.take i).filter p).map f))) (s1 : Same H H1) (hx : l[i]? = some a) (hl : l.length ≤ 1000) (hp : p a = true) :
    ∃ acc, H1 D = some (.lst acc) ∧ acc.length < sizeLine ∧ ((upd H1 D (.lst (acc ++ [f a]))) D = some (.lst (((l.take (i + 1)).filter p).map f)) ∧ Same H (upd H1 D (.lst (acc ++ [f a])))) := by
  refine ⟨_, g1, small1000 ?_, ?_, fun b o e => by rw [upd_ne (ne_of_none e hD)]; exact s1 _ _ e⟩
  · rw [List.length_map]
    have h1 := List.length_filter_le p (l.take i)
    rw [List.length_take] at h1
    omega
  · rw [upd_same, take_snoc hx, List.filter_append, List.filter_cons, if_pos hp, List.map_append]
    rfl
theorem lc_no {α : Type} {H H1 : Hp} {D : Addr} {l : List α} {p : α → Bool} {f : α → V} {i : Nat} {a : α} (g1 : H1 D = some (.lst (((l.take i).filter p).map f))) (s1 : Same H H1) (hx : l[i]? = some a) (hp : p a = false) :
    H1 D = some (.lst (((l.take (i + 1)).filter p).map f)) ∧ Same H H1 := by
  refine ⟨?_, s1⟩
  rw [g1, take_snoc hx, List.filter_append, List.filter_cons, if_neg (by rw [hp]; exact Bool.false_ne_true), List.filter_nil, List.append_nil]
theorem lc_all {α : Type} {H H1 : Hp} {D : Addr} {l : List α} {f : α → V} {i : Nat} {a : α} (hD : H D = none) (g1 : H1 D = some (.lst ((l.take i).map f))) (s1 : Same H H1) (hx : l[i]? = some a) (hl : l.length ≤ 1000) :
    ∃ acc, H1 D = some (.lst acc) ∧ acc.length < sizeLine ∧ ((upd H1 D (.lst (acc ++ [f a]))) D = some (.lst ((l.take (i + 1)).map f)) ∧ Same H (upd H1 D (.lst (acc ++ [f a])))) := by
  refine ⟨_, g1, small1000 ?_, ?_, fun b o e => by rw [upd_ne (ne_of_none e hD)]; exact s1 _ _ e⟩
  · rw [List.length_map, List.length_take]
    omega
  · rw [upd_same, take_snoc hx, List.map_append]
    rfl
theorem take_full {α : Type} {l : List α} {n : Nat} (h : n = l.length) : l.take n = l := by rw [h, List.take_length]
theorem nm_word {n : Nat} {z : Str} (h : NmOk n z) (hn : n ≤ 8) : Gm.Word z := ⟨h.1, Nat.le_trans h.2.1 hn, fun c hc => Gm.small_az (h.2.2 c hc)⟩
/-- groups that may be asked for -/
def NG (G : List (List Str)) : Prop := ∀ g, g ∈ G → g.Nodup ∧ ∀ z, z ∈ g → NmOk 8 z
theorem NG.vg {G : List (List Str)} (h : NG G) : Gm.VG G := fun g hg => ⟨(h g hg).1, fun z hz => nm_word ((h g hg).2 z hz) (Nat.le_refl _)⟩
/-- n groups or fewer, of 8 names or fewer -/
def Sm (n : Nat) (G : List (List Str)) : Prop := G.length ≤ n ∧ ∀ g, g ∈ G → g.length ≤ 8
theorem Sm.mono {m n : Nat} {G : List (List Str)} (h : Sm m G) (hn : m ≤ n) : Sm n G := ⟨Nat.le_trans h.1 hn, h.2⟩
def shr (r s : List Str) : List Str := r.filter fun z => decide (z ∈ s)
def spis_nameT : Sp := fun vs H Q _ => ∃ z, vs = [.str z] ∧ NmOk 8 z ∧ ∀ H', Same H H' → Q (.bl true) H'
def spcheck_nameT : Sp := fun vs H Q _ => ∃ z, vs = [.str z] ∧ NmOk 8 z ∧ ∀ H', Same H H' → Q (.str z) H'
def spcheck_groupT : Sp := fun vs H Q _ => ∃ (x : V) (g : List Str), vs = [x] ∧ repA x H g ∧ g.Nodup ∧ (∀ z, z ∈ g → NmOk 8 z) ∧ g.length ≤ 8 ∧ ∀ H', Same H H' → Q .non H'
def sp_is_within (K : PySem.W.Frag) : Sp := fun vs H Q _ => ∃ (a b : Addr) (r o : List Str), vs = [.ref a, .ref b] ∧ TxA K H a r ∧ TxA K H b o ∧ r.length ≤ 60 ∧ ∀ H', Same H H' → Q (.bl (Gm.subB r o)) H'
def sp_shared (K : PySem.W.Frag) : Sp := fun vs H Q _ => ∃ (a b : Addr) (r o : List Str), vs = [.ref a, .ref b] ∧ TxA K H a r ∧ TxA K H b o ∧ r.length ≤ 60 ∧ ∀ (l : Addr) H', H l = none → H' l = some (.lst ((shr r o).map V.str)) → Same H H' → Q (.ref l) H'
def sp_line (K : PySem.W.Frag) : Sp := fun vs H Q _ => ∃ (a : Addr) (g : List Str), vs = [.ref a] ∧ TxA K H a g ∧ g.length ≤ 60 ∧ (∀ z, z ∈ g → z.length ≤ 8) ∧ ∀ H', Same H H' → Q (.str (Gm.lineOf g)) H'
def sp_is_covered (K : PySem.W.Frag) : Sp := fun vs H Q _ => ∃ (t : Addr) (xs : List V) (rows : List (List Str)) (i : Nat) (r : List Str), vs = [.ref t, .int i] ∧ SqL K H t xs ∧ Reps repG H xs rows ∧ rows[i]? = some r ∧ Sm 60 rows ∧ ∀ (b : Bool) H', (b = true ↔ Gm.Cov rows i r) → Same H H' → Q (.bl b) H'
def sp_outer_groups (K : PySem.W.Frag) : Sp := fun vs H Q _ => ∃ (t : Addr) (xs : List V) (G : List (List Str)), vs = [.ref t] ∧ H t = some (.tup xs) ∧ Reps repA H xs G ∧ NG G ∧ Sm 60 G ∧ ∀ (q : Addr) H', repT repG (.ref q) H' (Gm.outerG G) → Same H H' → Q (.ref q) H'
theorem sum_len8 : ∀ {ys : List Str}, (∀ y, y ∈ ys → y.length ≤ 8) → (ys.map (·.length)).sum ≤ 8 * ys.length
  | [], _ => Nat.zero_le _
  | y :: ys, h => by
    have h1 := h y List.mem_cons_self
    have h2 := sum_len8 (ys := ys) fun z hz => h z (List.mem_cons_of_mem _ hz)
    simp only [List.map_cons, List.sum_cons, List.length_cons, Nat.mul_add, Nat.mul_one]
    omega

theorem okis_name {f : Addr} {fd : FuncData} (F : Fun K "is_name" "is_name" sis_name f fd) (T : Txt K mg) : FnOk P w K mg base CX0 1 f fd Pis_name spis_nameT := by
  obtain ⟨_, c__LONGEST_NAME⟩ := T.c__LONGEST_NAME
  refine F.ok scis_name (fun vs H Q E h => ?_) (fun cdv A outer s H vs Q E hr h => ?_)
  · obtain ⟨z, rfl, hnm, k0⟩ := h
    rfl
  · obtain ⟨z, rfl, hnm, k0⟩ := h
    refine ⟨_, (pss_cons (ps_if (PW.pt (pw_or (pt_not (pt_val (pe_callB (id := "isinstance") call_isi (by rfl) T.b_isinstance (by decide +kernel) (pa_cons (pv 0) (pa_cons (pe_bltn (v := .ty "str") (by rfl) T.b_str (by decide +kernel) rfl) pa_nil))))) (pw_or1 (pt_not (pt_chain op_le op_le pe_int (pe_callB call_len_str (by rfl) T.b_len PySem.boot_len (pa_cons (pv 0) pa_nil)) (pe_glob (v := .int 8) rfl c__LONGEST_NAME ⟨_, rfl⟩))))))
  (pss_one (ps_ret pe_bl))
  pss_nil)
  (pss_one (ps_ret (pe_callB (id := "all") (cr_all rfl) (by rfl) T.b_all (by decide +kernel) (pa_cons (pe_lc (own := [("letter", 1)]) rfl scis_name.nd (pi_str (pv 0)) (blkOk_by (own := [("letter", 1)]) (N := Nis_name) (sc := defScope sis_name) (by decide +kernel)) (fun _ _ _ _ _ => (pg_name (i := 1) scis_name.nd rfl (by first | exact Or.inl rfl | exact Or.inr rfl))) (fun _ _ _ _ _ => pts_nil) (fun _ _ _ _ _ => (pe_chain op_le_str op_le_str pe_str (pv 1) pe_str))) pa_nil))))), ?_⟩
    have hz : z.length ≤ 1000 := by have := hnm.2.1; omega
    have enm := hnm.name (Nat.le_refl _)
    have k : ∀ H', Same H H' → Q (.bl (nameB (.str z))) H' := fun H' s => by rw [enm]; exact k0 H' s
    have oth : ∀ y, nameB (.str z) = false → y = V.bl false → Q y H := fun y e q => by rw [q, ← e]; exact k H (Same.refl H)
    have hzl : z.length ≤ sizeLine := bigN (by omega)
    refine ⟨_, rfl, _, _, _, _, true, rfl, .ty _, .base (.str _), kit_ty (by decide +kernel), true, rfl, iteF ?_⟩
    have no : ¬ (1 ≤ z.length ∧ z.length ≤ 8) → nameB (.str z) = false := fun n => by show (decide (1 ≤ z.length ∧ z.length ≤ 8) && lowB z) = false; rw [decide_eq_false n]; rfl
    have kF : nameB (.str z) = false → Q (.bl false) H := fun e => oth _ e rfl
    refine ⟨_, rfl, z, rfl, hzl, _, _, rfl, rfl, _, rfl, ?_⟩
    refine ite2 (fun c1 => ?_) (fun c1 => ?_)
    · have c1 := of_decide_eq_true c1
      refine ⟨_, _, rfl, rfl, _, rfl, ?_⟩
      refine ite2 (fun c2 => ?_) (fun c2 => ?_)
      · have c2 : ¬ ((z.length : Nat) : Int) ≤ 8 := fun q => by
          rw [decide_eq_true q] at c2
          exact absurd c2 (by decide)
        exact kF (no (by omega))
      · have c2 : ((z.length : Nat) : Int) ≤ 8 := by
          by_cases q : ((z.length : Nat) : Int) ≤ 8
          · exact q
          · rw [decide_eq_false q] at c2
            exact absurd rfl c2
        have hl8 : 1 ≤ z.length ∧ z.length ≤ 8 := by omega
        refine ⟨_, rfl, _, rfl, fun D hD0 => ?_⟩
        refine lc_it walk_str (fun i H1 => H1 D = some (.lst ((((codes z).take i).map fun c => decide (97 ≤ c ∧ c ≤ 122)).map V.bl)) ∧ Same H H1) ⟨upd_same, Same.new hD0⟩ (fun _ _ _ _ => trivial) ?_ ?_
        · rintro i x H1o H1 hi ⟨e1, s1⟩ ⟨rfl, c, hc, rfl⟩
          have hc' : (codes z)[i]? = some c := by rw [Array.getElem?_toList]; exact hc
          have hi8 : i < 8 := Nat.lt_of_lt_of_le hi hl8.2
          have fin : ∀ b : Bool, b = decide (97 ≤ c ∧ c ≤ 122) → (∃ xs, H1 D = some (.lst xs) ∧ xs.length ≤ 1000 ∧ (upd H1 D (.lst (xs ++ [V.bl b]))) D = some (.lst ((((codes z).take (i + 1)).map fun c => decide (97 ≤ c ∧ c ≤ 122)).map V.bl)) ∧ Same H (upd H1 D (.lst (xs ++ [V.bl b])))) := fun b hb => by
            refine ⟨_, e1, by rw [List.length_map, List.length_map, List.length_take]; omega, ?_, fun b o e => by rw [upd_ne (ne_of_none e hD0)]; exact s1 _ _ e⟩
            rw [hb, take_snoc hc', List.map_append, List.map_append]
            exact upd_same
          refine ⟨rfl, ?_⟩
          refine ⟨_, rfl, _, _, rfl, rfl, _, rfl, ?_⟩
          refine ite2 (fun d1 => ?_) (fun d1 => ?_)
          · have d1 : 97 ≤ c := by
              by_cases q : c < 97
              · rw [aS, decide_eq_true (lt1.mpr q)] at d1
                cases d1
              · omega
            refine ⟨_, _, rfl, rfl, ?_⟩
            obtain ⟨xs, f1, f2, f3, f4⟩ := fin (!decide (("z" : Str).cps.toList < [c])) (by
              rw [zS]
              by_cases q : 122 < c
              · rw [decide_eq_true (lt1.mpr q), decide_eq_false (by omega)]
                rfl
              · rw [decide_eq_false (fun y => q (lt1.mp y)), decide_eq_true (by omega)]
                rfl)
            exact ⟨_, f1, small1000 f2, f3, f4⟩
          · have d1 : ¬ 97 ≤ c := fun q => d1 (by rw [aS, decide_eq_false (fun y => absurd (lt1.mp y) (by omega))]; rfl)
            obtain ⟨xs, f1, f2, f3, f4⟩ := fin false (by rw [decide_eq_false (by omega)])
            exact ⟨_, f1, small1000 f2, f3, f4⟩
        · rintro H1 ⟨e1, s1⟩
          have ht : (codes z).take z.cps.size = codes z := List.take_of_length_le (by rw [codes_len]; exact Nat.le_refl _)
          rw [ht] at e1
          refine ⟨D, _, rfl, SqL.of e1, ?_⟩
          have e : (((codes z).map fun c => decide (97 ≤ c ∧ c ≤ 122)).all id) = nameB (.str z) := by
            rw [List.all_map]
            show _ = (decide (1 ≤ z.length ∧ z.length ≤ 8) && lowB z)
            rw [decide_eq_true hl8]
            rfl
          rw [e]
          exact k H1 s1
    · refine ⟨_, rfl, ite2 (fun _ => ?_) (fun y => absurd rfl y)⟩
      have c1 : ¬ (1 : Int) ≤ ((z.length : Nat) : Int) := fun q => c1 (decide_eq_true q)
      exact kF (no (by omega))

theorem okcheck_name {f : Addr} {fd : FuncData} (F : Fun K "check_name" "check_name" scheck_name f fd) (T : Txt K mg) (Cis_name : Cal P w K mg base "is_name" Pis_name 1 spis_nameT) : FnOk P w K mg base CX0 2 f fd Pcheck_name spcheck_nameT := by
  obtain ⟨gis_name, gdis_name, Gis_name, mis_name, kis_name, bis_name⟩ := Cis_name.ex
  refine F.ok sccheck_name (fun vs H Q E h => ?_) (fun cdv A outer s H vs Q E hr h => ?_)
  · obtain ⟨z, rfl, hz, k⟩ := h
    rfl
  · obtain ⟨z, rfl, hz, k⟩ := h
    refine ⟨_, (pss_cons (ps_if (pt_not (pt_val (pe_call Gis_name (hr.mono (by decide)) (by rfl) mis_name kis_name bis_name .nil pass0 (pa_cons (pv 0) pa_nil))))
  (pss_one ps_never)
  pss_nil)
  (pss_one (ps_ret (pv 0)))), ?_⟩
    refine ⟨_, rfl, z, rfl, hz, fun H1 s1 => ⟨_, rfl, ?_⟩⟩
    refine iteF ?_
    exact ⟨_, rfl, k H1 s1⟩

theorem okcheck_group {f : Addr} {fd : FuncData} (F : Fun K "check_group" "check_group" scheck_group f fd) (T : Txt K mg) (Ccheck_name : Cal P w K mg base "check_name" Pcheck_name 2 spcheck_nameT) : FnOk P w K mg base CX0 3 f fd Pcheck_group spcheck_groupT := by
  obtain ⟨gcheck_name, gdcheck_name, Gcheck_name, mcheck_name, kcheck_name, bcheck_name⟩ := Ccheck_name.ex
  refine F.ok sccheck_group (fun vs H Q E h => ?_) (fun cdv A outer s H vs Q E hr h => ?_)
  · obtain ⟨x, g, rfl, hg, hd, hn, hl, k⟩ := h
    rfl
  · obtain ⟨x, g, rfl, hg, hd, hn, hl, k⟩ := h
    refine ⟨_, (pss_cons (ps_for PassesOwn.never rfl (pi_seq (pv 0)) (pg_name (i := 1) sccheck_group.nd rfl (by first | exact Or.inl rfl | exact Or.inr rfl))
  (pss_one (ps_expr (pe_call Gcheck_name (hr.mono (by decide)) (by rfl) mcheck_name kcheck_name bcheck_name .nil pass0 (pa_cons (pv 1) pa_nil)))))
  (pss_one (ps_if (pt_cmpR op_lt (pe_diffs rfl (by rfl) T.b_len (by rfl) T.b_set (pv 0)) (pe_callB call_len_seq (by rfl) T.b_len PySem.boot_len (pa_cons (pv 0) pa_nil)) (nomark _))
  (pss_one ps_never)
  pss_nil))), ?_⟩
    obtain ⟨a, rfl, ha⟩ := hg.tx (K := K)
    have stp : ∀ {D : Ends}, True := fun {_} => trivial
    refine ⟨_, rfl, a, g.map V.str, rfl, ?_⟩
    have fin : ∀ (H1 : Hp) (w : Option V), Same H H1 → (∃ x0 : V, x0 = .ref a ∧ ∃ (l : Addr) (xs : List Str), x0 = .ref l ∧ (SqL K H1 l (xs.map V.str) ∨ SqT K H1 l (xs.map V.str)) ∧ xs.length ≤ 1000) := fun H1 w s1 => ⟨_, rfl, a, g, rfl, ha.same s1, by omega⟩
    rcases ha with ha | ha
    · refine .inl ⟨ha, ?_⟩
      refine for_it walk_list (fun i σ H1 => ∃ w : Option V, σ = [some (.ref a), w] ∧ Same H H1) ⟨_, rfl, Same.refl _⟩ (fun i σ H1 _ ⟨_, _, s⟩ => Same.seq s ha) ?_ ?_
      · rintro i x σ H1o H1 hi ⟨w, rfl, s1⟩ ⟨rfl, hx⟩
        obtain ⟨z, hz, rfl⟩ := strs_at hx
        exact ⟨_, rfl, z, rfl, hn z (List.mem_of_getElem? hz), fun H2 s2 => ⟨_, rfl, s1.trans s2⟩⟩
      rintro σ H1 ⟨w, rfl, s1⟩
      refine ⟨_, rfl, a, g, rfl, (TxA.same s1 (.inl ha)), by omega, ?_⟩
      refine ⟨_, rfl, a, _, rfl, (TxA.same s1 (.inl ha)), _, _, rfl, rfl, _, rfl, ?_⟩
      refine ite2 (fun c => ?_) (fun c => ?_)
      · have c := of_decide_eq_true c
        rw [diffs_full.mpr hd, len_strs] at c
        omega
      · exact k H1 s1
    · refine .inr ⟨ha, ?_⟩
      refine for_it walk_tup (fun i σ H1 => ∃ w : Option V, σ = [some (.ref a), w] ∧ Same H H1) ⟨_, rfl, Same.refl _⟩ (fun i σ H1 _ ⟨_, _, s⟩ => Same.seqT s ha) ?_ ?_
      · rintro i x σ H1o H1 hi ⟨w, rfl, s1⟩ ⟨rfl, hx⟩
        obtain ⟨z, hz, rfl⟩ := strs_at hx
        exact ⟨_, rfl, z, rfl, hn z (List.mem_of_getElem? hz), fun H2 s2 => ⟨_, rfl, s1.trans s2⟩⟩
      rintro σ H1 ⟨w, rfl, s1⟩
      refine ⟨_, rfl, a, g, rfl, (TxA.same s1 (.inr ha)), by omega, ?_⟩
      refine ⟨_, rfl, a, _, rfl, (TxA.same s1 (.inr ha)), _, _, rfl, rfl, _, rfl, ?_⟩
      refine ite2 (fun c => ?_) (fun c => ?_)
      · have c := of_decide_eq_true c
        rw [diffs_full.mpr hd, len_strs] at c
        omega
      · exact k H1 s1

theorem ok_is_within {f : Addr} {fd : FuncData} (F : Fun K "_is_within" "_is_within" s_is_within f fd) (T : Txt K mg) : FnOk P w K mg base CX0 1 f fd P_is_within (sp_is_within K) := by
  refine F.ok sc_is_within (fun vs H Q E h => ?_) (fun cdv A outer s H vs Q E hr h => ?_)
  · obtain ⟨a, b, r, o, rfl, ha, hb, hl, k⟩ := h
    rfl
  · obtain ⟨a, b, r, o, rfl, ha, hb, hl, k⟩ := h
    refine ⟨_, (pss_one (ps_ret (pe_callB (id := "all") (cr_all rfl) (by rfl) T.b_all (by decide +kernel) (pa_cons (pe_lc (own := [("name", 2)]) rfl sc_is_within.nd (pi_seq (pv 0)) (blkOk_by (own := [("name", 2)]) (N := N_is_within) (sc := defScope s_is_within) (by decide +kernel)) (fun _ _ _ _ _ => (pg_name (i := 2) sc_is_within.nd rfl (by first | exact Or.inl rfl | exact Or.inr rfl))) (fun _ _ _ _ _ => pts_nil) (fun _ _ _ _ _ => (pe_cmpR (r := rIn K false) (by exact op_in_seq) (pv 2) (pv 1) (by rfl)))) pa_nil)))), ?_⟩
    refine ⟨_, rfl, a, r.map V.str, rfl, ?_⟩
    have e : ((r.take r.length).map fun (z : Str) => decide (z ∈ o)).all id = Gm.subB r o := by
      rw [List.take_length, List.all_map]
      rfl
    have fin : ∀ (D : Addr) (H1 : Hp), H1 D = some (.lst ((r.take (r.map V.str).length).map fun (z : Str) => V.bl (decide (z ∈ o)))) → Same H H1 → ∃ (a : Addr) (bs : List Bool), [V.ref D] = [.ref a] ∧ SqL K H1 a (bs.map V.bl) ∧ Q (.bl (bs.all id)) H1 := fun D H1 g1 s1 => by
      rw [len_strs] at g1
      refine ⟨D, (r.take r.length).map fun (z : Str) => decide (z ∈ o), rfl, SqL.of (by rw [g1, List.map_map]; rfl), ?_⟩
      rw [e]
      exact k H1 s1
    rcases ha with ha | ha
    · refine .inl ⟨ha, fun D hD => ?_⟩
      refine lc_it walk_list (fun i H1 => H1 D = some (.lst ((r.take i).map fun (z : Str) => V.bl (decide (z ∈ o)))) ∧ Same H H1) ⟨upd_same, Same.new hD⟩ (fun i H1 _ q => Same.seq q.2 ha) ?_ (fun H1 q => fin D H1 q.1 q.2)
      rintro i x H1o H1 hi ⟨g1, s1⟩ ⟨rfl, hx⟩
      obtain ⟨z, hz, rfl⟩ := strs_at hx
      refine ⟨rfl, ?_⟩
      refine ⟨_, rfl, _, rfl, b, o.map V.str, rfl, hb.same s1, rfl, flat_strs, ?_⟩
      rw [inV_str]
      exact lc_all (f := fun (z : Str) => V.bl (decide (z ∈ o))) hD g1 s1 hz (by omega)
    · refine .inr ⟨ha, fun D hD => ?_⟩
      refine lc_it walk_tup (fun i H1 => H1 D = some (.lst ((r.take i).map fun (z : Str) => V.bl (decide (z ∈ o)))) ∧ Same H H1) ⟨upd_same, Same.new hD⟩ (fun i H1 _ q => Same.seqT q.2 ha) ?_ (fun H1 q => fin D H1 q.1 q.2)
      rintro i x H1o H1 hi ⟨g1, s1⟩ ⟨rfl, hx⟩
      obtain ⟨z, hz, rfl⟩ := strs_at hx
      refine ⟨rfl, ?_⟩
      refine ⟨_, rfl, _, rfl, b, o.map V.str, rfl, hb.same s1, rfl, flat_strs, ?_⟩
      rw [inV_str]
      exact lc_all (f := fun (z : Str) => V.bl (decide (z ∈ o))) hD g1 s1 hz (by omega)

theorem ok_shared {f : Addr} {fd : FuncData} (F : Fun K "_shared" "_shared" s_shared f fd) (T : Txt K mg) : FnOk P w K mg base CX0 1 f fd P_shared (sp_shared K) := by
  refine F.ok sc_shared (fun vs H Q E h => ?_) (fun cdv A outer s H vs Q E hr h => ?_)
  · obtain ⟨a, b, r, o, rfl, ha, hb, hl, k⟩ := h
    rfl
  · obtain ⟨a, b, r, o, rfl, ha, hb, hl, k⟩ := h
    refine ⟨_, (pss_one (ps_ret (pe_lc (own := [("name", 2)]) rfl sc_shared.nd (pi_seq (pv 0)) (blkOk_by (own := [("name", 2)]) (N := N_shared) (sc := defScope s_shared) (by decide +kernel)) (fun _ _ _ _ _ => (pg_name (i := 2) sc_shared.nd rfl (by first | exact Or.inl rfl | exact Or.inr rfl))) (fun _ _ _ _ _ => (pts_one (pt_cmpR (r := rIn K false) (by exact op_in_seq) (pv 2) (pv 1) (by rfl)))) (fun _ _ _ _ _ => (pv 2))))), ?_⟩
    refine ⟨_, rfl, a, r.map V.str, rfl, ?_⟩
    rcases ha with ha | ha
    · refine .inl ⟨ha, fun D hD => ?_⟩
      refine lc_it walk_list (fun i H1 => H1 D = some (.lst (((r.take i).filter fun (z : Str) => decide (z ∈ o)).map V.str)) ∧ Same H H1) ⟨upd_same, Same.new hD⟩ (fun i H1 _ q => Same.seq q.2 ha) ?_ ?_
      · rintro i x H1o H1 hi ⟨g1, s1⟩ ⟨rfl, hx⟩
        obtain ⟨z, hz, rfl⟩ := strs_at hx
        refine ⟨rfl, ?_⟩
        refine ⟨_, rfl, _, rfl, b, o.map V.str, rfl, hb.same s1, rfl, flat_strs, ?_⟩
        rw [inV_str]
        refine ⟨_, rfl, ?_⟩
        refine ite2 (fun c => ?_) (fun c => ?_)
        · exact ⟨_, rfl, lc_yes (f := V.str) hD g1 s1 hz (by omega) c⟩
        · exact lc_no g1 s1 hz (Bool.eq_false_iff.mpr c)
      rintro H1 ⟨g1, s1⟩
      rw [len_strs, List.take_length] at g1
      exact k D H1 hD g1 s1
    · refine .inr ⟨ha, fun D hD => ?_⟩
      refine lc_it walk_tup (fun i H1 => H1 D = some (.lst (((r.take i).filter fun (z : Str) => decide (z ∈ o)).map V.str)) ∧ Same H H1) ⟨upd_same, Same.new hD⟩ (fun i H1 _ q => Same.seqT q.2 ha) ?_ ?_
      · rintro i x H1o H1 hi ⟨g1, s1⟩ ⟨rfl, hx⟩
        obtain ⟨z, hz, rfl⟩ := strs_at hx
        refine ⟨rfl, ?_⟩
        refine ⟨_, rfl, _, rfl, b, o.map V.str, rfl, hb.same s1, rfl, flat_strs, ?_⟩
        rw [inV_str]
        refine ⟨_, rfl, ?_⟩
        refine ite2 (fun c => ?_) (fun c => ?_)
        · exact ⟨_, rfl, lc_yes (f := V.str) hD g1 s1 hz (by omega) c⟩
        · exact lc_no g1 s1 hz (Bool.eq_false_iff.mpr c)
      rintro H1 ⟨g1, s1⟩
      rw [len_strs, List.take_length] at g1
      exact k D H1 hD g1 s1

theorem ok_line {f : Addr} {fd : FuncData} (F : Fun K "_line" "_line" s_line f fd) (T : Txt K mg) : FnOk P w K mg base CX0 1 f fd P_line (sp_line K) := by
  refine F.ok sc_line (fun vs H Q E h => ?_) (fun cdv A outer s H vs Q E hr h => ?_)
  · obtain ⟨a, g, rfl, ha, hl, h8, k⟩ := h
    rfl
  · obtain ⟨a, g, rfl, ha, hl, h8, k⟩ := h
    refine ⟨_, (pss_one (ps_ret (pe_join pe_str (pe_callB (id := "sorted") cr_sortedS (by rfl) T.b_sorted (by decide +kernel) (pa_cons (pe_lc (own := [("name", 1)]) rfl sc_line.nd (pi_seq (pv 0)) (blkOk_by (own := [("name", 1)]) (N := N_line) (sc := defScope s_line) (by decide +kernel)) (fun _ _ _ _ _ => (pg_name (i := 1) sc_line.nd rfl (by first | exact Or.inl rfl | exact Or.inr rfl))) (fun _ _ _ _ _ => pts_nil) (fun _ _ _ _ _ => (pe_callTy (T := "str") SkE.call_str_str (by rfl) T.b_str (by decide +kernel) (pa_cons (pv 1) pa_nil)))) pa_nil))))), ?_⟩
    refine ⟨⟨_, rfl⟩, _, rfl, a, g.map V.str, rfl, ?_⟩
    have fin : ∀ (D : Addr) (H1 : Hp), H1 D = some (.lst ((g.take (g.map V.str).length).map V.str)) → Same H H1 → SqL K H1 D (g.map V.str) := fun D H1 g1 s1 => by
      rw [len_strs, List.take_length] at g1
      exact SqL.of g1
    rcases ha with ha | ha
    · refine .inl ⟨ha, fun D hD => ?_⟩
      refine lc_it walk_list (fun i H1 => H1 D = some (.lst ((g.take i).map V.str)) ∧ Same H H1) ⟨upd_same, Same.new hD⟩ (fun i H1 _ q => Same.seq q.2 ha) ?_ ?_
      · rintro i x H1o H1 hi ⟨g1, s1⟩ ⟨rfl, hx⟩
        obtain ⟨z, hz, rfl⟩ := strs_at hx
        refine ⟨rfl, ?_⟩
        exact ⟨_, rfl, z, rfl, lc_all (f := V.str) hD g1 s1 hz (by omega)⟩
      rintro H1 ⟨g1, s1⟩
      refine ⟨D, g, rfl, fin D H1 g1 s1, by omega, fun ys p pm hs np => ?_⟩
      have el := pm.length_eq
      refine ⟨_, p, ys, rfl, rfl, .inl (SqL.of upd_same), ?_, ?_⟩
      · have l1 : (" " : Str).length = 1 := by decide +kernel
        have h8 := sum_len8 (ys := ys) fun y hy => h8 y (pm.subset hy)
        rw [l1]
        omega
      · have e : ys = Gm.srt g := Gm.srt_uniq pm hs
        have z := k (upd H1 p (.lst (ys.map V.str))) (s1.trans (Same.new np))
        unfold Gm.lineOf Gm.lnk at z
        rw [← e] at z
        exact z
    · refine .inr ⟨ha, fun D hD => ?_⟩
      refine lc_it walk_tup (fun i H1 => H1 D = some (.lst ((g.take i).map V.str)) ∧ Same H H1) ⟨upd_same, Same.new hD⟩ (fun i H1 _ q => Same.seqT q.2 ha) ?_ ?_
      · rintro i x H1o H1 hi ⟨g1, s1⟩ ⟨rfl, hx⟩
        obtain ⟨z, hz, rfl⟩ := strs_at hx
        refine ⟨rfl, ?_⟩
        exact ⟨_, rfl, z, rfl, lc_all (f := V.str) hD g1 s1 hz (by omega)⟩
      rintro H1 ⟨g1, s1⟩
      refine ⟨D, g, rfl, fin D H1 g1 s1, by omega, fun ys p pm hs np => ?_⟩
      have el := pm.length_eq
      refine ⟨_, p, ys, rfl, rfl, .inl (SqL.of upd_same), ?_, ?_⟩
      · have l1 : (" " : Str).length = 1 := by decide +kernel
        have h8 := sum_len8 (ys := ys) fun y hy => h8 y (pm.subset hy)
        rw [l1]
        omega
      · have e : ys = Gm.srt g := Gm.srt_uniq pm hs
        have z := k (upd H1 p (.lst (ys.map V.str))) (s1.trans (Same.new np))
        unfold Gm.lineOf Gm.lnk at z
        rw [← e] at z
        exact z

theorem okcheck_number {f : Addr} {fd : FuncData} (F : Fun K "check_number" "check_number" scheck_number f fd) (T : Txt K mg) {C_BadNumber f_BadNumber cda_BadNumber cc_BadNumber : Addr} {fd_BadNumber : FuncData} (E_BadNumber : ErrC P K mg "BadNumber" "BadNumber.__init__" C_BadNumber f_BadNumber cda_BadNumber cc_BadNumber) (G_BadNumber : FnOk P w K mg base CX0 2 f_BadNumber fd_BadNumber PBadNumber___init__ (spBadNumber C_BadNumber)) (b_BadNumber : Binds K fd_BadNumber PBadNumber___init__ []) : FnOk P w K mg base (L2.CX P w) 4 f fd Pcheck_number (spcheck_number C_BadNumber) := by
  refine F.okX sccheck_number (fun vs H Q E h => ?_) (fun cdv A outer s H vs Q E hr h => ?_)
  · obtain ⟨z, v, lo, hi, rfl, hz, hv, kT, kE⟩ := h
    rfl
  · obtain ⟨z, v, lo, hi, rfl, hz, hv, kT, kE⟩ := h
    refine ⟨_, (pss_cons (ps_if (PW.pt (pw_or (pt_val (pe_callB (id := "isinstance") call_isi (by rfl) T.b_isinstance (by decide +kernel) (pa_cons (pv 1) (pa_cons (pe_bltn (v := .ty "bool") (by rfl) T.b_bool (by decide +kernel) rfl) pa_nil)))) (pw_or1 (pt_not (pt_val (pe_callB (id := "isinstance") call_isi (by rfl) T.b_isinstance (by decide +kernel) (pa_cons (pv 1) (pa_cons (pe_bltn (v := .ty "int") (by rfl) T.b_int (by decide +kernel) rfl) pa_nil))))))))
  (pss_one (ps_raise rfl (takes_of rfl rfl rfl rfl) (pmk_oex E_BadNumber.sup.oex E_BadNumber.ini E_BadNumber.tyI G_BadNumber (hr.mono (by decide)) b_BadNumber .nil pass0 (by rfl) E_BadNumber.g (pa_cons (pv 0) (pa_cons (pv 1) pa_nil)))))
  pss_nil)
  (pss_cons (ps_if (PW.pt (pw_or (pt_cmpR op_lt (pv 1) (pv 2) (nomark _)) (pw_or1 (pt_cmpR op_gt (pv 1) (pv 3) (nomark _)))))
  (pss_one (ps_raise rfl (takes_of rfl rfl rfl rfl) (pmk_oex E_BadNumber.sup.oex E_BadNumber.ini E_BadNumber.tyI G_BadNumber (hr.mono (by decide)) b_BadNumber .nil pass0 (by rfl) E_BadNumber.g (pa_cons (pv 0) (pa_cons (pv 1) pa_nil)))))
  pss_nil)
  (pss_one (ps_ret (pv 1))))), ?_⟩
    have hv0 := hv
    cases hv with
    | int i =>
      refine ⟨_, rfl, _, _, _, _, false, rfl, .ty _, .base (.int _), kit_ty (by decide +kernel), false, rfl, iteF ?_⟩
      refine ⟨_, rfl, _, _, _, _, true, rfl, .ty _, .base (.int _), kit_ty (by decide +kernel), true, rfl, iteF ?_⟩
      refine ⟨_, rfl, _, rfl, _, _, rfl, rfl, _, rfl, ?_⟩
      refine ite2 (fun c1 => ?_) (fun c1 => ?_)
      · have c1 := of_decide_eq_true c1
        exact ⟨_, rfl, _, rfl, (by show 2 ≤ 1000; decide), fun a na => ⟨a, z, _, rfl, upd_same, hz, hv0.shows, made_of na fun d H' nd s' hd => kE (decide_eq_false (by omega)) d H' nd s' hd⟩⟩
      · have c1 : ¬ i < lo := fun q => c1 (decide_eq_true q)
        refine ⟨_, rfl, _, rfl, _, _, rfl, rfl, _, rfl, ?_⟩
        refine ite2 (fun c2 => ?_) (fun c2 => ?_)
        · have c2 := of_decide_eq_true c2
          exact ⟨_, rfl, _, rfl, (by show 2 ≤ 1000; decide), fun a na => ⟨a, z, _, rfl, upd_same, hz, hv0.shows, made_of na fun d H' nd s' hd => kE (decide_eq_false (by omega)) d H' nd s' hd⟩⟩
        · have c2 : ¬ hi < i := fun q => c2 (decide_eq_true q)
          exact ⟨_, rfl, kT (decide_eq_true (by omega))⟩
    | non =>
      refine ⟨_, rfl, _, _, _, _, false, rfl, .ty _, .base .non, kit_ty (by decide +kernel), false, rfl, iteF ?_⟩
      refine ⟨_, rfl, _, _, _, _, false, rfl, .ty _, .base .non, kit_ty (by decide +kernel), false, rfl, iteT ?_⟩
      exact ⟨_, rfl, _, rfl, (by show 2 ≤ 1000; decide), fun a na => ⟨a, z, _, rfl, upd_same, hz, hv0.shows, made_of na fun d H' nd s' hd => kE rfl d H' nd s' hd⟩⟩
    | bl b =>
      refine ⟨_, rfl, _, _, _, _, true, rfl, .ty _, .base (.bl _), kit_ty (by decide +kernel), true, rfl, iteT ?_⟩
      exact ⟨_, rfl, _, rfl, (by show 2 ≤ 1000; decide), fun a na => ⟨a, z, _, rfl, upd_same, hz, hv0.shows, made_of na fun d H' nd s' hd => kE rfl d H' nd s' hd⟩⟩
    | str y h1 h2 =>
      refine ⟨_, rfl, _, _, _, _, false, rfl, .ty _, .base (.str _), kit_ty (by decide +kernel), false, rfl, iteF ?_⟩
      refine ⟨_, rfl, _, _, _, _, false, rfl, .ty _, .base (.str _), kit_ty (by decide +kernel), false, rfl, iteT ?_⟩
      exact ⟨_, rfl, _, rfl, (by show 2 ≤ 1000; decide), fun a na => ⟨a, z, _, rfl, upd_same, hz, hv0.shows, made_of na fun d H' nd s' hd => kE rfl d H' nd s' hd⟩⟩
end
end Wb

namespace Wb
open PySem PySem.Spec PyProof.Rows L2 Wx StX NdefX RZ StX PyProof.Rows.FinIter
section
variable {P : Program} {w : World} {K : PySem.W.Frag} {mg : Str → Option Value} {base : Heap}

theorem ok_is_covered {f : Addr} {fd : FuncData} (F : Fun K "_is_covered" "_is_covered" s_is_covered f fd) (T : Txt K mg) (C_is_within : Cal P w K mg base "_is_within" P_is_within 1 (sp_is_within K)) : FnOk P w K mg base CX0 2 f fd P_is_covered (sp_is_covered K) := by
  obtain ⟨g_is_within, gd_is_within, G_is_within, m_is_within, k_is_within, b_is_within⟩ := C_is_within.ex
  refine F.ok sc_is_covered (fun vs H Q E h => ?_) (fun cdv A outer s H vs Q E hr h => ?_)
  · obtain ⟨t, xs, rows, i, r, rfl, ht, hrs, hi, hsm, k⟩ := h
    rfl
  · obtain ⟨t, xs, rows, i, r, rfl, ht, hrs, hi, hsm, k⟩ := h
    refine ⟨_, (pss_cons (ps_set (i := 2) sc_is_covered.nd rfl (by first | exact Or.inl rfl | exact Or.inr rfl) (pe_ix ix_list (pv 0) (pv 1) (fun _ _ => rfl)))
  (pss_cons (ps_for PassesOwn.never rfl (pi_enum (by rfl) T.b_enumerate (pa_cons (pv 0) pa_nil)) (pg_tup rfl (pgs_cons (pg_name (i := 3) sc_is_covered.nd rfl (by first | exact Or.inl rfl | exact Or.inr rfl)) (pgs_cons (pg_name (i := 4) sc_is_covered.nd rfl (by first | exact Or.inl rfl | exact Or.inr rfl)) pgs_nil)))
  (pss_one (ps_if (PW.pt (pw_and (pt_cmpR op_ne (pv 3) (pv 1) (nomark _)) (pw_and (pt_val (pe_call G_is_within (hr.mono (by decide)) (by rfl) m_is_within k_is_within b_is_within .nil pass0 (pa_cons (pv 2) (pa_cons (pv 4) pa_nil)))) (pw_and1 (PW.pt (pw_or (pt_cmpR op_gt (pe_callB call_len_seq (by rfl) T.b_len PySem.boot_len (pa_cons (pv 4) pa_nil)) (pe_callB call_len_seq (by rfl) T.b_len PySem.boot_len (pa_cons (pv 2) pa_nil)) (nomark _)) (pw_or1 (pt_cmpR op_lt (pv 3) (pv 1) (nomark _)))))))))
  (pss_one (ps_ret pe_bl))
  pss_nil)))
  (pss_one (ps_ret pe_bl)))), ?_⟩
    have hx : ∃ p, xs[i]? = some (.ref p) ∧ H p = some (.tup (r.map V.str)) := by
      obtain ⟨x, hx, p, rfl, hp⟩ := hrs.at' hi
      exact ⟨p, hx, hp⟩
    obtain ⟨p, hx, hp⟩ := hx
    have hlen := hrs.len
    have hr8 := hsm.2 r (List.mem_of_getElem? hi)
    refine ⟨_, rfl, _, rfl, t, _, _, _, rfl, rfl, ht, atI_nat hx, ?_⟩
    refine ⟨_, rfl, t, _, rfl, ht, ?_⟩
    refine for_it walk_enum (fun j σ H1 => ∃ w3 w4 : Option V, σ = [some (.ref t), some (.int i), some (.ref p), w3, w4] ∧ Same H H1 ∧ ∀ n o, n < j → rows[n]? = some o → Gm.cov1 i r n o = false)
      ⟨_, _, rfl, Same.refl _, fun n o h => by omega⟩ (fun j σ H1 _ ⟨_, _, _, s, _⟩ => Same.seq s ht) ?_ ?_
    · rintro j x σ H1o H1 hj ⟨w3, w4, rfl, s1, gg⟩ ⟨T, x, y, rfl, hT, rfl, hx1, hy⟩
      obtain rfl : x = V.int (j : Nat) := (Option.some.inj hx1).symm
      obtain ⟨o, ho, po, rfl, hpo⟩ := hrs.at hy
      have s2 : Same H (upd H1o T (.tup [V.int (j : Nat), V.ref po])) := s1.trans (Same.new hT)
      have nxt : ∀ {H3 : Hp}, Same H H3 → Gm.cov1 i r j o = false → Same H H3 ∧ ∀ n o', n < j + 1 → rows[n]? = some o' → Gm.cov1 i r n o' = false := fun {H3} s3 e => ⟨s3, fun n o' hn ho' => by
        by_cases q : n = j
        · subst q
          rw [ho] at ho'
          cases ho'
          exact e
        · exact gg n o' (by omega) ho'⟩
      refine ⟨T, _, rfl, SqT.of upd_same, rfl, _, _, rfl, _, _, rfl, rfl, ?_⟩
      refine ⟨_, rfl, _, rfl, rfl, _, rfl, ?_⟩
      refine ite2 (fun c1 => ?_) (fun c1 => ?_)
      · have c1 : ¬ j = i := fun q => by rw [q] at c1; exact ne_self c1
        refine ⟨_, rfl, _, rfl, p, po, r, o, rfl, repG.tx (s2 _ _ hp), repG.tx (s2 _ _ hpo), by omega, fun H2 s3 => ?_⟩
        have s4 := s2.trans s3
        refine ⟨_, rfl, ?_⟩
        refine ite2 (fun c2 => ?_) (fun c2 => ?_)
        · refine ⟨_, rfl, po, _, rfl, repG.tx (s4 _ _ hpo), _, rfl, p, _, rfl, repG.tx (s4 _ _ hp), _, _, rfl, rfl, _, rfl, ?_⟩
          refine ite2 (fun c3 => ?_) (fun c3 => ?_)
          · have c3 := of_decide_eq_true c3
            rw [len_strs, len_strs] at c3
            exact k true _ ⟨fun _ => ⟨j, o, ho, Gm.cov1_iff.mpr ⟨c1, c2, .inl (by omega)⟩⟩, fun _ => rfl⟩ s4
          · have c3 : ¬ r.length < o.length := fun q => c3 (decide_eq_true (by rw [len_strs, len_strs]; omega))
            refine ⟨_, rfl, _, rfl, _, _, rfl, rfl, _, rfl, ?_⟩
            refine ite2 (fun c4 => ?_) (fun c4 => ?_)
            · have c4 := of_decide_eq_true c4
              exact k true _ ⟨fun _ => ⟨j, o, ho, Gm.cov1_iff.mpr ⟨c1, c2, .inr (by omega)⟩⟩, fun _ => rfl⟩ s4
            · have c4 : ¬ j < i := fun q => c4 (decide_eq_true (by omega))
              exact ⟨_, _, rfl, nxt s4 (Bool.eq_false_iff.mpr fun q => by
                obtain ⟨_, _, q⟩ := Gm.cov1_iff.mp q
                omega)⟩
        · refine ⟨_, _, rfl, nxt s4 (Bool.eq_false_iff.mpr fun q => c2 (Gm.cov1_iff.mp q).2.1)⟩
      · have c1 : j = i := by
          by_cases q : j = i
          · exact q
          · exact absurd (by rw [decide_eq_false (fun y => q (by injection y with y; omega))]; rfl) c1
        exact ⟨_, _, rfl, nxt s2 (Bool.eq_false_iff.mpr fun q => (Gm.cov1_iff.mp q).1 c1)⟩
    rintro σ H1 ⟨w3, w4, rfl, s1, gg⟩
    refine k false _ ⟨(fun q => by cases q), ?_⟩ s1
    rintro ⟨n, o, ho, e⟩
    rw [gg n o (by rw [hlen]; exact (List.getElem?_eq_some_iff.mp ho).1) ho] at e
    cases e

theorem ok_outer_groups {f : Addr} {fd : FuncData} (F : Fun K "_outer_groups" "_outer_groups" s_outer_groups f fd) (T : Txt K mg) (C_line : Cal P w K mg base "_line" P_line 1 (sp_line K)) (C_is_covered : Cal P w K mg base "_is_covered" P_is_covered 2 (sp_is_covered K)) : FnOk P w K mg base CX0 3 f fd P_outer_groups (sp_outer_groups K) := by
  obtain ⟨g_line, gd_line, G_line, m_line, k_line, b_line⟩ := C_line.ex
  obtain ⟨g_is_covered, gd_is_covered, G_is_covered, m_is_covered, k_is_covered, b_is_covered⟩ := C_is_covered.ex
  refine F.ok sc_outer_groups (fun vs H Q E h => ?_) (fun cdv A outer s H vs Q E hr h => ?_)
  · obtain ⟨t, xs, G, rfl, ht, hrs, hng, hsm, k⟩ := h
    rfl
  · obtain ⟨t, xs, G, rfl, ht, hrs, hng, hsm, k⟩ := h
    refine ⟨_, (pss_cons (ps_set (i := 1) sc_outer_groups.nd rfl (by first | exact Or.inl rfl | exact Or.inr rfl) (pe_callB (id := "sorted") cr_sortedS (by rfl) T.b_sorted (by decide +kernel) (pa_cons (pe_lc (own := [("group", 3)]) rfl sc_outer_groups.nd (pi_tup (pv 0)) (blkOk_by (own := [("group", 3)]) (N := N_outer_groups) (sc := defScope s_outer_groups) (by decide +kernel)) (fun _ _ _ _ _ => (pg_name (i := 3) sc_outer_groups.nd rfl (by first | exact Or.inl rfl | exact Or.inr rfl))) (fun _ _ _ _ _ => pts_nil) (fun _ _ _ _ _ => (pe_callTy (T := "str") SkE.call_str_str (by rfl) T.b_str (by decide +kernel) (pa_cons (pe_call G_line (hr.mono (by decide)) (by rfl) m_line k_line b_line .nil pass0 (pa_cons (pv 3) pa_nil)) pa_nil)))) pa_nil)))
  (pss_cons (ps_set (i := 2) sc_outer_groups.nd rfl (by first | exact Or.inl rfl | exact Or.inr rfl) (pe_lc (own := [("line", 4)]) rfl sc_outer_groups.nd (pi_list (pv 1)) (blkOk_by (own := [("line", 4)]) (N := N_outer_groups) (sc := defScope s_outer_groups) (by decide +kernel)) (fun _ _ _ _ _ => (pg_name (i := 4) sc_outer_groups.nd rfl (by first | exact Or.inl rfl | exact Or.inr rfl))) (fun _ _ _ _ _ => pts_nil) (fun _ _ _ _ _ => (pe_callTy (T := "tuple") (r := rTupOf K) call_tuple_of (by rfl) T.b_tuple (by decide +kernel) (pa_cons (pe_words (pv 4)) pa_nil)))))
  (pss_one (ps_ret (pe_callTy (T := "tuple") call_tuple_of (by rfl) T.b_tuple (by decide +kernel) (pa_cons (pe_lc (g := gTup K 2 (gCons (gName 5) (gCons (gName 6) gNil))) (own := [("place", 5), ("row", 6)]) rfl sc_outer_groups.nd (pi_enum (by rfl) T.b_enumerate (pa_cons (pv 2) pa_nil)) (blkOk_by (own := [("place", 5), ("row", 6)]) (N := N_outer_groups) (sc := defScope s_outer_groups) (by decide +kernel)) (fun _ _ _ _ _ => (pg_tup rfl (pgs_cons (pg_name (i := 5) sc_outer_groups.nd rfl (by first | exact Or.inl rfl | exact Or.inr rfl)) (pgs_cons (pg_name (i := 6) sc_outer_groups.nd rfl (by first | exact Or.inl rfl | exact Or.inr rfl)) pgs_nil)))) (fun _ _ _ _ _ => (pts_one (PW.pt (pw_and (show PT _ _ (fun σ H Q => tVar 6 σ H fun x H1 => ∃ k, TruV K x H1 k ∧ Q k H1) from by exact pt_truth (pv 6) (by intro _; rfl)) (pw_and1 (pt_not (pt_val (pe_call G_is_covered (hr.mono (by decide)) (by rfl) m_is_covered k_is_covered b_is_covered .nil pass0 (pa_cons (pv 2) (pa_cons (pv 5) pa_nil)))))))))) (fun _ _ _ _ _ => (pv 6))) pa_nil)))))), ?_⟩
    have hlen := hrs.len
    refine ⟨_, rfl, t, rfl, ⟨_, SqT.of ht⟩, fun D hD => ?_⟩
    refine lc_it walk_tup (fun i H1 => H1 D = some (.lst ((G.take i).map fun g => V.str (Gm.lineOf g))) ∧ Same H H1) ⟨upd_same, Same.new hD⟩ (fun i H1 _ q => SqT.of (q.2 _ _ ht)) ?_ ?_
    · rintro i x H1o H1 hi ⟨g1, s1⟩ ⟨rfl, hx⟩
      obtain ⟨gr, hG, hq⟩ := hrs.at hx
      obtain ⟨a, rfl, ha⟩ := repA.tx (K := K) (repA_mono _ _ _ _ s1 hq)
      have hm := List.mem_of_getElem? hG
      refine ⟨rfl, ?_⟩
      refine ⟨_, rfl, a, gr, rfl, ha, by have := hsm.2 gr hm; omega, fun z hz => ((hng gr hm).2 z hz).2.1, fun H2 s2 => ⟨_, rfl, ?_⟩⟩
      exact lc_all (f := fun g => V.str (Gm.lineOf g)) hD (s2 _ _ g1) (s1.trans s2) hG (by have := hsm.1; omega)
    rintro H1 ⟨g1, s1⟩
    rw [take_full hlen] at g1
    refine ⟨D, G.map Gm.lineOf, rfl, SqL.of (by rw [g1, List.map_map]; rfl), by rw [List.length_map]; have := hsm.1; omega, fun ys p pm hs np => ?_⟩
    have ey : ys = Gm.srt (G.map Gm.lineOf) := Gm.srt_uniq pm hs
    have eR : Gm.rowsL G = ys.map Txt.words := by rw [ey]; rfl
    have lR := Gm.rowsL_len G
    have vR : ∀ r, r ∈ Gm.rowsL G → r.length ≤ 8 := fun r hr => by
      obtain ⟨g, hg, rfl⟩ := (Gm.rowsL_mem hng.vg).mp hr
      rw [Gm.srt_len]
      exact hsm.2 g hg
    have ll : ∀ z, z ∈ ys → z.length ≤ 1000 := fun z hz => by
      obtain ⟨g, hg, rfl⟩ := List.mem_map.mp (pm.subset hz)
      have h1 := Gm.lnk_len (r := Gm.srt g) fun y hy => nm_word ((hng g hg).2 y (Gm.srt_mem.mp hy)) (Nat.le_refl _)
      rw [Gm.srt_len] at h1
      have := hsm.2 g hg
      show (Gm.lnk (Gm.srt g)).length ≤ 1000
      omega
    have s2 : Same H (upd H1 p (.lst (ys.map V.str))) := s1.trans (Same.new np)
    generalize hH2 : upd H1 p (.lst (ys.map V.str)) = H2 at s2
    have ep : H2 p = some (.lst (ys.map V.str)) := by rw [← hH2]; exact upd_same
    have ly : ys.length = (Gm.rowsL G).length := by rw [eR, List.length_map]
    refine ⟨_, rfl, p, rfl, ⟨_, SqL.of ep⟩, fun D2 hD2 => ?_⟩
    refine lc_it walk_list (fun i H3 => ∃ qs : List V, H3 D2 = some (.lst qs) ∧ qs.length = i ∧ Reps repG H3 qs ((Gm.rowsL G).take i) ∧ Same H2 H3) ⟨[], upd_same, rfl, trivial, Same.new hD2⟩ (fun i H3 _ ⟨_, _, _, _, s⟩ => SqL.of (s _ _ ep)) ?_ ?_
    · rintro i x H3o H3 hi ⟨qs, g3, ql, rq, s3⟩ ⟨rfl, hx⟩
      obtain ⟨z, hz, rfl⟩ := strs_at hx
      have hr : (Gm.rowsL G)[i]? = some (Txt.words z) := by rw [eR, List.getElem?_map, hz]; rfl
      have hi2 := (List.getElem?_eq_some_iff.mp hz).1
      have ml : z.length + 2 ≤ sizeLine := bigN (by have := ll z (List.mem_of_getElem? hz); omega)
      refine ⟨rfl, ?_⟩
      refine ⟨_, rfl, ⟨_, rfl⟩, z, rfl, rfl, ml, fun q hq => ?_⟩
      refine ⟨q, _, rfl, .inl ⟨SqL.of upd_same, fun u hu => ?_⟩⟩
      generalize hH4 : upd (upd H3 q (.lst ((Txt.words z).map V.str))) u (.tup ((Txt.words z).map V.str)) = H4
      have s4 : Same H3 H4 := by rw [← hH4]; exact (Same.new hq).trans (Same.new hu)
      have eu : H4 u = some (.tup ((Txt.words z).map V.str)) := by rw [← hH4]; exact upd_same
      have g4 := s4 _ _ g3
      refine ⟨qs, g4, small1000 (by have := hsm.1; omega), qs ++ [V.ref u], upd_same, by rw [List.length_append, ql]; rfl, ?_, fun b o e => by rw [upd_ne (ne_of_none e hD2)]; exact s4 _ _ (s3 _ _ e)⟩
      rw [take_snoc hr]
      have kp : ∀ x g, repG x H4 g → repG x (upd H4 D2 (.lst (qs ++ [V.ref u]))) g := fun x g h => by
        obtain ⟨p, rfl, h⟩ := h
        exact ⟨p, rfl, by rw [upd_ne (fun e => by rw [e, g4] at h; cases h)]; exact h⟩
      exact Reps.app ((rq.mono repG_mono s4).imp kp) (Reps.one (kp _ _ ⟨u, rfl, eu⟩))
    rintro H3 ⟨qs, g3, ql, rq, s3⟩
    rw [len_strs] at rq ql
    rw [take_full ly] at rq
    have smR : Sm 60 (Gm.rowsL G) := ⟨by rw [lR]; exact hsm.1, vR⟩
    refine ⟨_, rfl, D2, _, rfl, SqL.of g3, fun D3 hD3 => ?_⟩
    refine lc_it walk_enum (fun i H4 => ∃ ws : List V, H4 D3 = some (.lst ws) ∧ Reps repG H4 ws (Gm.outs (Gm.rowsL G) i) ∧ Same H3 H4) ⟨[], upd_same, trivial, Same.new hD3⟩ (fun i H4 _ ⟨_, _, _, s⟩ => SqL.of (s _ _ g3)) ?_ ?_
    · rintro i x H4o H4 hi ⟨ws, g4, rw4, s4⟩ ⟨T, x, y, rfl, hT, rfl, hx1, hy⟩
      obtain rfl : x = V.int (i : Nat) := (Option.some.inj hx1).symm
      obtain ⟨r, hri, pr, rfl, hpr⟩ := rq.at hy
      have s5 : Same H3 (upd H4o T (.tup [V.int (i : Nat), V.ref pr])) := s4.trans (Same.new hT)
      have sT : Same H4o (upd H4o T (.tup [V.int (i : Nat), V.ref pr])) := Same.new hT
      refine ⟨T, _, rfl, SqT.of upd_same, rfl, _, _, rfl, _, _, rfl, rfl, rfl, ?_⟩
      generalize upd H4o T (.tup [V.int (i : Nat), V.ref pr]) = H5 at s5 sT
      have no : ¬ Gm.Kept (Gm.rowsL G) i r → ∀ H6, Same H5 H6 → ∃ ws : List V, H6 D3 = some (.lst ws) ∧ Reps repG H6 ws (Gm.outs (Gm.rowsL G) (i + 1)) ∧ Same H3 H6 := fun nk H6 s6 =>
        ⟨ws, s6 _ _ (sT _ _ g4), by rw [Gm.outs_snoc hri, Gm.out1_neg nk, List.append_nil]; exact rw4.mono repG_mono (sT.trans s6), s5.trans s6⟩
      refine ⟨_, rfl, _, .inr (.inl ⟨_, SqT.of (s5 _ _ hpr), rfl⟩), ?_⟩
      refine ite2 (fun c1 => ?_) (fun c1 => ?_)
      · have c1 : r ≠ [] := fun q => by rw [q] at c1; cases c1
        refine ⟨_, rfl, _, rfl, D2, _, _, i, r, rfl, SqL.of (s5 _ _ g3), rq.mono repG_mono s5, hri, smR, fun b H6 hb s6 => ⟨_, rfl, ?_⟩⟩
        cases b with
        | true => exact no (fun q => q.2 (hb.mp rfl)) H6 s6
        | false =>
          have kp : Gm.Kept (Gm.rowsL G) i r := ⟨c1, fun q => by have := hb.mpr q; cases this⟩
          have g6 := s6 _ _ (sT _ _ g4)
          have hl := Gm.outs_len (Gm.rowsL G) i
          have hi3 := (List.getElem?_eq_some_iff.mp hri).1
          refine ⟨_, rfl, ws, g6, small1000 (by have := rw4.len; have := hsm.1; omega), ws ++ [V.ref pr], upd_same, ?_, fun b o e => by rw [upd_ne (ne_of_none e hD3)]; exact s6 _ _ (s5 _ _ e)⟩
          rw [Gm.outs_snoc hri, Gm.out1_pos kp]
          have kq : ∀ x g, repG x H6 g → repG x (upd H6 D3 (.lst (ws ++ [V.ref pr]))) g := fun x g h => by
            obtain ⟨p, rfl, h⟩ := h
            exact ⟨p, rfl, by rw [upd_ne (fun e => by rw [e, g6] at h; cases h)]; exact h⟩
          exact Reps.app ((rw4.mono repG_mono (sT.trans s6)).imp kq) (Reps.one (kq _ _ ⟨pr, rfl, s6 _ _ (s5 _ _ hpr)⟩))
      · exact no (fun q => c1 (by cases r with | nil => exact absurd rfl q.1 | cons a b => rfl)) H5 (Same.refl _)
    rintro H4 ⟨ws, g4, rw4, s4⟩
    rw [ql, ly] at rw4
    refine ⟨D3, _, rfl, .inl ⟨SqL.of g4, fun q hq => ?_⟩⟩
    exact k q _ ⟨q, ws, rfl, upd_same, rw4.mono repG_mono (Same.new hq)⟩ (((s2.trans s3).trans s4).trans (Same.new hq))
end
end Wb

namespace Wb
open PySem PySem.Spec PyProof.Rows L2 Wx StX NdefX RZ StX PyProof.Rows.FinIter
section
variable {P : Program} {w : World} {K : PySem.W.Frag} {mg : Str → Option Value} {base : Heap}

/-- tuples stay -/
theorem repG_tup {H H' : Hp} (k : ∀ b xs, H b = some (.tup xs) → H' b = some (.tup xs)) : ∀ x g, repG x H g → repG x H' g := fun x g h => by
  obtain ⟨p, rfl, h⟩ := h
  exact ⟨p, rfl, k _ _ h⟩
theorem repTG_tup {H H' : Hp} (k : ∀ b xs, H b = some (.tup xs) → H' b = some (.tup xs)) {x : V} {R : List (List Str)} (h : repT repG x H R) : repT repG x H' R := by
  obtain ⟨p, xs, rfl, h, r⟩ := h
  exact ⟨p, xs, rfl, k _ _ h, r.imp (repG_tup k)⟩
/-- the groups R at p -/
def GatesAt (C : Addr) (H : Hp) (p : Addr) (R : List (List Str)) : Prop := ∃ dx q, H p = some (.ins C dx [("groups", .ref q)]) ∧ repT repG (.ref q) H R
theorem GatesAt.same {C : Addr} {H H' : Hp} {p : Addr} {R : List (List Str)} (x : GatesAt C H p R) (s : Same H H') : GatesAt C H' p R := by
  obtain ⟨dx, q, e1, e2⟩ := x
  exact ⟨dx, q, s _ _ e1, repT_mono repG_mono _ _ _ _ s e2⟩
def inG (R : List (List Str)) (t : List Str) : Bool := decide (t = []) || Gm.dnB R t
def leG (R S : List (List Str)) : Bool := R.all fun r => inG S r
def meet (R S : List (List Str)) : List (List Str) := R.flatMap fun r => S.map fun s => shr r s
def spGates_init (C : Addr) : Sp := fun vs H Q _ => ∃ (p dx t : Addr) (xs : List V) (G : List (List Str)), vs = [.ref p, .ref t] ∧ H p = some (.ins C dx []) ∧ H t = some (.tup xs) ∧ Reps repA H xs G ∧ NG G ∧ Sm 60 G ∧
  ∀ (q : Addr) (H' : Hp), Fr2 p dx H H' → repT repG (.ref q) H' (Gm.outerG G) → H' p = some (.ins C dx [("groups", .ref q)]) → Q .non H'
def spGates_contains (K : PySem.W.Frag) (C : Addr) : Sp := fun vs H Q _ => ∃ (p a : Addr) (R : List (List Str)) (t : List Str), vs = [.ref p, .ref a] ∧ GatesAt C H p R ∧ TxA K H a t ∧ Sm 60 R ∧ t.length ≤ 60 ∧ ∀ H', Same H H' → Q (.bl (inG R t)) H'
def spGates_le (C : Addr) : Sp := fun vs H Q _ => ∃ (p q : Addr) (R S : List (List Str)), vs = [.ref p, .ref q] ∧ GatesAt C H p R ∧ GatesAt C H q S ∧ Sm 60 R ∧ Sm 60 S ∧ ∀ H', Same H H' → Q (.bl (leG R S)) H'
def spGates_eq (C : Addr) : Sp := fun vs H Q _ => ∃ (p q : Addr) (R S : List (List Str)), vs = [.ref p, .ref q] ∧ GatesAt C H p R ∧ GatesAt C H q S ∧ NG R ∧ NG S ∧ Q (.bl (decide (R = S))) H
def spGates_or (C : Addr) : Sp := fun vs H Q _ => ∃ (p q : Addr) (R S : List (List Str)), vs = [.ref p, .ref q] ∧ GatesAt C H p R ∧ GatesAt C H q S ∧ NG R ∧ NG S ∧ Sm 30 R ∧ Sm 30 S ∧ ∀ (x : Addr) H', Same H H' → GatesAt C H' x (Gm.outerG (R ++ S)) → Q (.ref x) H'
def spGates_and (C : Addr) : Sp := fun vs H Q _ => ∃ (p q : Addr) (R S : List (List Str)), vs = [.ref p, .ref q] ∧ GatesAt C H p R ∧ GatesAt C H q S ∧ NG R ∧ NG S ∧ Sm 7 R ∧ Sm 7 S ∧ ∀ (x : Addr) H', Same H H' → GatesAt C H' x (Gm.outerG (meet R S)) → Q (.ref x) H'
def spGates_len (C : Addr) : Sp := fun vs H Q _ => ∃ (p : Addr) (R : List (List Str)), vs = [.ref p] ∧ GatesAt C H p R ∧ Q (.int (R.length : Nat)) H
theorem gates_make {C : Addr} {H : Hp} {xs : List V} {G : List (List Str)} {R : Hp → Prop} {E : XK} {x dx : Addr} (hx : Reps repA H xs G) (hv : NG G) (hs : Sm 60 G) (nx : H x = none) (nd : H dx = none) (k : ∀ H', Same H H' → GatesAt C H' x (Gm.outerG G) → R H') :
    spStar 1 (spGates_init C) (V.ref x :: xs) (upd (upd H dx (.own x)) x (.ins C dx [])) (fun v H2 => v = .non ∧ R H2) E := by
  have sm : Same H (upd (upd H dx (.own x)) x (.ins C dx [])) := fun b o e => by rw [upd_ne (ne_of_none e nx), upd_ne (ne_of_none e nd)]; exact e
  have hl := hx.len
  refine star1 (by rw [hl]; exact bigN (by have := hs.1; omega)) fun t nt => ?_
  have ntx : x ≠ t := fun e => by rw [← e, upd_same] at nt; cases nt
  refine ⟨x, dx, t, xs, G, rfl, by rw [upd_ne ntx]; exact upd_same, upd_same, (hx.mono repA_mono sm).mono repA_mono (Same.new nt), hv, hs, fun q H' fr hq ep => ⟨rfl, k H' (fun b o e => ?_) ⟨dx, q, ep, hq⟩⟩⟩
  have e2 := sm _ _ e
  exact fr b o (ne_of_none e nx) (ne_of_none e nd) (by rw [upd_ne (ne_of_none e2 nt)]; exact e2)
/-! what may be compared -/
theorem eqvAll_strs : ∀ (xs ys : List Str), PyData.eqvAll (xs.map PyData.str) (ys.map PyData.str) = decide (xs = ys)
  | [], [] => rfl
  | [], y :: ys => rfl
  | x :: xs, [] => rfl
  | x :: xs, y :: ys => by
    show (PyData.eqv (.str x) (.str y) && PyData.eqvAll (xs.map PyData.str) (ys.map PyData.str)) = _
    rw [eqvAll_strs xs ys]
    show ((x == y) && _) = _
    by_cases h : x = y
    · subst h
      by_cases h2 : xs = ys
      · subst h2
        simp
      · simp [h2]
    · have e : (x == y) = false := beq_eq_false_iff_ne.mpr h
      rw [e, Bool.false_and, decide_eq_false (fun q => h (by injection q))]
theorem str_lay {n : Nat} {z : Str} (h : NmOk n z) : PyData.canLay0 (.str z) = true := by
  show z.cps.all (fun c => decide (c < 0x110000)) = true
  rw [← Array.all_toList]
  exact List.all_eq_true.mpr fun c hc => decide_eq_true (by have := h.2.2 c hc; omega)
theorem lay_strs : ∀ {xs : List Str}, (∀ z, z ∈ xs → NmOk 8 z) → PyData.canLayAll0 (xs.map PyData.str) = true
  | [], _ => rfl
  | x :: xs, h => by
    show (PyData.canLay0 (.str x) && PyData.canLayAll0 (xs.map PyData.str)) = true
    rw [str_lay (h x List.mem_cons_self), lay_strs fun z hz => h z (List.mem_cons_of_mem _ hz)]
    rfl
theorem depth_strs : ∀ xs : List Str, PyData.depthAll (xs.map PyData.str) ≤ 1
  | [] => by decide
  | x :: xs => by
    have ih := depth_strs xs
    simp only [List.map_cons, PyData.depthAll, PyData.depth]
    omega
theorem dpAll_strs {K : PySem.W.Frag} {H : Hp} : ∀ xs : List Str, DpAll K H (xs.map V.str) (xs.map PyData.str)
  | [] => .nil
  | x :: xs => .cons (.str x) (dpAll_strs xs)
def grpD (g : List Str) : PyData := .tuple (g.map PyData.str)
def rowsD (R : List (List Str)) : PyData := .tuple (R.map grpD)
theorem dp_grp {K : PySem.W.Frag} {H : Hp} {p : Addr} {g : List Str} (h : H p = some (.tup (g.map V.str))) : Dp K H (.ref p) (grpD g) := .tup (SqT.of h) (dpAll_strs g)
theorem eqv_grp (g o : List Str) : PyData.eqv (grpD g) (grpD o) = decide (g = o) := eqvAll_strs g o
theorem shaped_grp {g : List Str} (hg : ∀ z, z ∈ g → NmOk 8 z) : SeqAt.shaped (grpD g) = true := by
  have h := depth_strs g
  show (PyData.canLay0 (.tuple (g.map PyData.str)) && decide ((PyData.tuple (g.map PyData.str)).depth ≤ 64)) = true
  rw [Bool.and_eq_true]
  refine ⟨by simp only [PyData.canLay0]; exact lay_strs hg, decide_eq_true ?_⟩
  simp only [PyData.depth]
  omega
theorem dpAll_grps {K : PySem.W.Frag} {H : Hp} : ∀ {xs : List V} {R : List (List Str)}, Reps repG H xs R → DpAll K H xs (R.map grpD)
  | [], [], _ => .nil
  | x :: xs, r :: R, h => by
    obtain ⟨⟨p, rfl, e⟩, h2⟩ := h
    exact .cons (dp_grp e) (dpAll_grps h2)
  | [], _ :: _, h => by cases h
  | _ :: _, [], h => by cases h
theorem dp_rows {K : PySem.W.Frag} {H : Hp} {x : V} {R : List (List Str)} (h : repT repG x H R) : Dp K H x (rowsD R) := by
  obtain ⟨p, xs, rfl, e, r⟩ := h
  exact .tup (SqT.of e) (dpAll_grps r)
theorem eqvAll_grps : ∀ (R S : List (List Str)), PyData.eqvAll (R.map grpD) (S.map grpD) = decide (R = S)
  | [], [] => rfl
  | [], y :: ys => rfl
  | x :: xs, [] => rfl
  | x :: xs, y :: ys => by
    show (PyData.eqv (grpD x) (grpD y) && PyData.eqvAll (xs.map grpD) (ys.map grpD)) = _
    rw [eqvAll_grps xs ys, eqv_grp]
    by_cases h : x = y
    · subst h
      by_cases h2 : xs = ys
      · subst h2
        simp
      · simp [h2]
    · rw [decide_eq_false h, Bool.false_and, decide_eq_false (fun q => h (by injection q))]
theorem eqv_rows (R S : List (List Str)) : PyData.eqv (rowsD R) (rowsD S) = decide (R = S) := eqvAll_grps R S
theorem lay_grps : ∀ {R : List (List Str)}, NG R → PyData.canLayAll0 (R.map grpD) = true
  | [], _ => rfl
  | x :: R, h => by
    show (PyData.canLay0 (grpD x) && PyData.canLayAll0 (R.map grpD)) = true
    rw [lay_grps fun g hg => h g (List.mem_cons_of_mem _ hg), Bool.and_true]
    show PyData.canLay0 (.tuple (x.map PyData.str)) = true
    simp only [PyData.canLay0]
    exact lay_strs (h x List.mem_cons_self).2
theorem depth_grps : ∀ R : List (List Str), PyData.depthAll (R.map grpD) ≤ 2
  | [] => by decide
  | x :: R => by
    have ih := depth_grps R
    have h := depth_strs x
    have h2 : (grpD x).depth ≤ 2 := by
      unfold grpD
      simp only [PyData.depth]
      omega
    simp only [List.map_cons, PyData.depthAll]
    omega
theorem lay_rows {R : List (List Str)} (h : NG R) : PyData.canLay0 (rowsD R) = true := by
  unfold rowsD
  simp only [PyData.canLay0]
  exact lay_grps h
theorem depth_rows (R : List (List Str)) : (rowsD R).depth ≤ 3 := by
  have h := depth_grps R
  unfold rowsD
  simp only [PyData.depth]
  omega
theorem shaped_rows {R : List (List Str)} (hR : NG R) : SeqAt.shaped (rowsD R) = true := by
  have h := depth_rows R
  show (PyData.canLay0 (rowsD R) && decide ((rowsD R).depth ≤ 64)) = true
  rw [lay_rows hR, decide_eq_true (by omega)]
  rfl

theorem pe_fldK {X : Cx} {K0 : PySem.W.Frag} {e : Expr} {f : Str} {pos : Pos} {ta : TE} (k : X.K = K0) (he : PE X e ta) (hb : attributeBase e f X.env (eval e X.env) = eval e X.env) : PE X (.Attribute e f pos) (tFld K0 ta f) := by
  subst k
  exact pe_fld he hb
theorem pi_tupK {X : Cx} {K0 : PySem.W.Frag} {tg l : Expr} {tl : TE} (e : X.K = K0) (hl : PE X l tl) : PI X tg l (iTup K0 tl) := by
  subst e
  exact pi_tup hl
/-- a list or a tuple of texts, elsewhere than at D -/
def repN (D : Addr) : Rep (List Str) := fun x H g => ∃ p, x = .ref p ∧ p ≠ D ∧ (H p = some (.lst (g.map V.str)) ∨ H p = some (.tup (g.map V.str)))
theorem repN_mono {D : Addr} : RMon (repN D) := fun x H H' a e h => by
  obtain ⟨p, rfl, n, h⟩ := h
  exact ⟨p, rfl, n, h.imp (e _ _) (e _ _)⟩
theorem repN.a {D : Addr} {x : V} {H : Hp} {g : List Str} (h : repN D x H g) : repA x H g := by
  obtain ⟨p, rfl, _, h⟩ := h
  exact ⟨p, rfl, h⟩
theorem repN.upd {D : Addr} {H : Hp} {o : HO} {x : V} {g : List Str} (h : repN D x H g) : repN D x (L2.upd H D o) g := by
  obtain ⟨p, rfl, n, h⟩ := h
  exact ⟨p, rfl, n, by rw [upd_ne n]; exact h⟩
theorem meet_snoc {R S : List (List Str)} {r : List Str} : meet (R ++ [r]) S = meet R S ++ S.map (shr r) := by
  unfold meet
  rw [List.flatMap_append, List.flatMap_cons, List.flatMap_nil, List.append_nil]
theorem meet_len : ∀ (R S : List (List Str)), (meet R S).length = R.length * S.length
  | [], S => by simp [meet]
  | r :: R, S => by
    have ih := meet_len R S
    unfold meet at ih ⊢
    rw [List.flatMap_cons, List.length_append, ih, List.length_map, List.length_cons, Nat.add_mul, Nat.one_mul, Nat.add_comm]
theorem mem_meet {R S : List (List Str)} {g : List Str} : g ∈ meet R S ↔ ∃ r s, r ∈ R ∧ s ∈ S ∧ g = shr r s := by
  unfold meet
  rw [List.mem_flatMap]
  constructor
  · rintro ⟨r, hr, h⟩
    obtain ⟨s, hs, rfl⟩ := List.mem_map.mp h
    exact ⟨r, s, hr, hs, rfl⟩
  · rintro ⟨r, s, hr, hs, rfl⟩
    exact ⟨r, hr, List.mem_map.mpr ⟨s, hs, rfl⟩⟩
theorem meet_ng {R S : List (List Str)} (h : NG R) : NG (meet R S) := fun g hg => by
  obtain ⟨r, s, hr, _, rfl⟩ := mem_meet.mp hg
  exact ⟨(h r hr).1.filter _, fun z hz => (h r hr).2 z (List.mem_filter.mp hz).1⟩
theorem meet_sm {m n : Nat} {R S : List (List Str)} (h : Sm m R) (k : Sm n S) : Sm (m * n) (meet R S) := ⟨by rw [meet_len]; exact Nat.mul_le_mul h.1 k.1, fun g hg => by
  obtain ⟨r, s, hr, _, rfl⟩ := mem_meet.mp hg
  exact Nat.le_trans (List.length_filter_le _ _) (h.2 r hr)⟩

theorem okGates___init__ {f : Addr} {fd : FuncData} (F : Fun K "__init__" "Gates.__init__" sGates___init__ f fd) (T : Txt K mg) {C_Gates fgi fge : Addr} (D_Gates : DatC K mg "Gates" C_Gates fgi fge ["groups"]) (Ccheck_group : Cal P w K mg base "check_group" Pcheck_group 3 spcheck_groupT) (C_outer_groups : Cal P w K mg base "_outer_groups" P_outer_groups 3 (sp_outer_groups K)) : FnR P w K mg base (L2.CX P w) 5 f (spStar 1 (spGates_init C_Gates)) := by
  obtain ⟨gcheck_group, gdcheck_group, Gcheck_group, mcheck_group, kcheck_group, bcheck_group⟩ := Ccheck_group.ex
  obtain ⟨g_outer_groups, gd_outer_groups, G_outer_groups, m_outer_groups, k_outer_groups, b_outer_groups⟩ := C_outer_groups.ex
  refine okStar (ps := ["self"]) (pv := "groups") F scGates___init__ (fun kV doc pm an cdv ct us rest hl => match us, rest, hl with | [_], [], _ => rfl | [_], _ :: _, _ => rfl) (fun cdv A outer s H vs Q E hr h => ?_)
  · obtain ⟨p, dx, t, xs, G, rfl, hp, ht, hrs, hng, hsm, k⟩ := h
    refine ⟨_, (pss_cons (ps_for (passes_of rfl) rfl (pi_tup (pv 1)) (pg_name (i := 2) scGates___init__.nd rfl (by first | exact Or.inl rfl | exact Or.inr rfl))
  (pss_one (ps_expr (pe_call Gcheck_group (hr.mono (by decide)) (by rfl) mcheck_group kcheck_group bcheck_group .nil pass0 (pa_cons (pv 2) pa_nil)))))
  (pss_one (ps_fld (pv 0) (pe_call G_outer_groups (hr.mono (by decide)) (by rfl) m_outer_groups k_outer_groups b_outer_groups .nil pass0 (pa_cons (pv 1) pa_nil)) rfl))), ?_⟩
    have hl := hrs.len
    refine ⟨_, rfl, t, rfl, ⟨_, SqT.of ht⟩, ?_⟩
    refine for_it walk_tup (fun i σ H1 => ∃ w : Option V, σ = [some (.ref p), some (.ref t), w] ∧ Same H H1) ⟨_, rfl, Same.refl _⟩ (fun i σ H1 _ ⟨_, _, s⟩ => SqT.of (s _ _ ht)) ?_ ?_
    · rintro i x σ H1o H1 hi ⟨w, rfl, s1⟩ ⟨rfl, hx⟩
      obtain ⟨gr, hG, hq⟩ := hrs.at hx
      have hm := List.mem_of_getElem? hG
      exact ⟨_, rfl, _, gr, rfl, repA_mono _ _ _ _ s1 hq, (hng gr hm).1, (hng gr hm).2, hsm.2 gr hm, fun H2 s2 => ⟨_, rfl, s1.trans s2⟩⟩
    rintro σ H1 ⟨w, rfl, s1⟩
    refine ⟨_, rfl, t, xs, G, rfl, s1 _ _ ht, hrs.mono repA_mono s1, hng, hsm, fun q H2 hq s2 => ?_⟩
    have s3 := s1.trans s2
    have p3 := s3 _ _ hp
    refine ⟨_, rfl, p, C_Gates, dx, [], rfl, p3, D_Gates.cls, D_Gates.no "groups" (by decide), (by decide), ?_⟩
    exact k q _ (fun b o nb _ e => by rw [upd_ne nb]; exact s3 _ _ e) (repTG_tup (fun b xs e => by rw [upd_ne (fun z => by rw [z, p3] at e; cases e)]; exact e) hq) upd_same

theorem okGates___contains__ {f : Addr} {fd : FuncData} (F : Fun K "__contains__" "Gates.__contains__" sGates___contains__ f fd) (T : Txt K mg) {C_Gates fgi fge : Addr} (D_Gates : DatC K mg "Gates" C_Gates fgi fge ["groups"]) (C_is_within : Cal P w K mg base "_is_within" P_is_within 1 (sp_is_within K)) : FnOk P w K mg base CX0 2 f fd PGates___contains__ (spGates_contains K C_Gates) := by
  obtain ⟨g_is_within, gd_is_within, G_is_within, m_is_within, k_is_within, b_is_within⟩ := C_is_within.ex
  refine F.ok scGates___contains__ (fun vs H Q E h => ?_) (fun cdv A outer s H vs Q E hr h => ?_)
  · obtain ⟨p, a, R, t, rfl, hp, ha, hsm, ht, k⟩ := h
    rfl
  · obtain ⟨p, a, R, t, rfl, hp, ha, hsm, ht, k⟩ := h
    refine ⟨_, (pss_one (ps_ret (pe_or (pe_cmpR op_eq (pe_callB call_len_seq (by rfl) T.b_len PySem.boot_len (pa_cons (pv 1) pa_nil)) pe_int (nomark _)) (pe_one (pe_callB (id := "any") (cr_any rfl) (by rfl) T.b_any (by decide +kernel) (pa_cons (pe_lc (own := [("group", 2)]) rfl scGates___contains__.nd (pi_tup (pe_fld (pv 0) rfl)) (blkOk_by (own := [("group", 2)]) (N := NGates___contains__) (sc := defScope sGates___contains__) (by decide +kernel)) (fun _ _ _ _ _ => (pg_name (i := 2) scGates___contains__.nd rfl (by first | exact Or.inl rfl | exact Or.inr rfl))) (fun _ _ _ _ _ => pts_nil) (fun _ _ _ _ _ => (pe_call G_is_within (hr.mono (by decide)) (by rfl) m_is_within k_is_within b_is_within .nil pass0 (pa_cons (pv 1) (pa_cons (pv 2) pa_nil))))) pa_nil)))))), ?_⟩
    obtain ⟨dx, qx, e1, q1, xs, ex, x1, r1⟩ := id hp
    cases ex
    have hl := r1.len
    refine ⟨_, rfl, a, _, rfl, ha, rfl, _, rfl, ?_⟩
    refine ite2 (fun c => ?_) (fun c => ?_)
    · have c : t = [] := by
        have c := of_decide_eq_true c
        rw [len_strs] at c
        injection c with c
        exact List.eq_nil_of_length_eq_zero (by omega)
      have e : inG R t = true := by unfold inG; rw [decide_eq_true c]; rfl
      rw [e] at k
      exact k _ (Same.refl _)
    have c : ¬ t = [] := fun q => c (by rw [q]; rfl)
    refine ⟨_, rfl, p, C_Gates, dx, _, _, rfl, e1, D_Gates.cls, D_Gates.no _ (by decide), rfl, qx, rfl, ⟨_, SqT.of x1⟩, fun D hD => ?_⟩
    refine lc_it walk_tup (fun i H1 => H1 D = some (.lst ((R.take i).map fun r => V.bl (Gm.subB t r))) ∧ Same H H1) ⟨upd_same, Same.new hD⟩ (fun i H1 _ q => SqT.of (q.2 _ _ x1)) ?_ ?_
    · rintro i x H1o H1 hi ⟨g1, s1⟩ ⟨rfl, hx⟩
      obtain ⟨r, hR, p', rfl, hp'⟩ := r1.at hx
      refine ⟨rfl, ?_⟩
      refine ⟨_, rfl, _, rfl, a, p', t, r, rfl, ha.same s1, repG.tx (s1 _ _ hp'), ht, fun H2 s2 => ?_⟩
      exact lc_all (f := fun r => V.bl (Gm.subB t r)) hD (s2 _ _ g1) (s1.trans s2) hR (by have := hsm.1; omega)
    rintro H1 ⟨g1, s1⟩
    rw [take_full hl] at g1
    refine ⟨D, R.map fun r => Gm.subB t r, rfl, SqL.of (by rw [g1, List.map_map]; rfl), ?_⟩
    have e : inG R t = (R.map fun r => Gm.subB t r).any id := by
      unfold inG Gm.dnB
      rw [decide_eq_false c, Bool.false_or, List.any_map]
      rfl
    rw [← e]
    exact k H1 s1

theorem okGates___le__ {f : Addr} {fd : FuncData} (F : Fun K "__le__" "Gates.__le__" sGates___le__ f fd) (T : Txt K mg) {C_Gates fgi fge : Addr} (D_Gates : DatC K mg "Gates" C_Gates fgi fge ["groups"]) {fgc : Addr} {fdgc : FuncData} (I_Gates : PySem.W.findIn K (.ref C_Gates) "__contains__" = some (some (.ref fgc)) ∧ PySem.W.isFn K (.ref fgc) = true) (GGates___contains__ : FnOk P w K mg base CX0 2 fgc fdgc PGates___contains__ (spGates_contains K C_Gates)) (bGates___contains__ : Binds K fdgc PGates___contains__ []) : FnOk P w K mg base CX0 4 f fd PGates___le__ (spGates_le C_Gates) := by
  refine F.ok scGates___le__ (fun vs H Q E h => ?_) (fun cdv A outer s H vs Q E hr h => ?_)
  · obtain ⟨p, q, R, S, rfl, hp, hq, hR2, hS, k⟩ := h
    rfl
  · obtain ⟨p, q, R, S, rfl, hp, hq, hR2, hS, k⟩ := h
    refine ⟨_, (pss_cons (ps_if (pt_not (pt_val (pe_callB (id := "isinstance") call_isi (by rfl) T.b_isinstance (by decide +kernel) (pa_cons (pv 1) (pa_cons (pe_glob (v := .ref C_Gates) rfl D_Gates.g rfl) pa_nil)))))
  (pss_one ps_never)
  pss_nil)
  (pss_one (ps_ret (pe_callB (id := "all") (cr_all rfl) (by rfl) T.b_all (by decide +kernel) (pa_cons (pe_lc (own := [("group", 2)]) rfl scGates___le__.nd (pi_tup (pe_fld (pv 0) rfl)) (blkOk_by (own := [("group", 2)]) (N := NGates___le__) (sc := defScope sGates___le__) (by decide +kernel)) (fun _ _ _ _ _ => (pg_name (i := 2) scGates___le__.nd rfl (by first | exact Or.inl rfl | exact Or.inr rfl))) (fun _ _ _ _ _ => pts_nil) (fun _ _ _ _ _ => (pe_cmpR (op_inO GGates___contains__ (hr.mono (by decide)) I_Gates.1 I_Gates.2 bGates___contains__ pass0) (pv 2) (pv 1) (by rfl)))) pa_nil))))), ?_⟩
    obtain ⟨dx, qx, e1, q1, xs, ex, x1, r1⟩ := id hp
    cases ex
    obtain ⟨dy, qy, e2, q2, ys, ey, x2, r2⟩ := id hq
    cases ey
    refine ⟨_, rfl, _, _, _, _, true, rfl, .own _, .base (.ins e2 D_Gates.cls D_Gates.ha D_Gates.hn D_Gates.htk D_Gates.hm), D_Gates.kit, true, rfl, iteF ?_⟩
    refine ⟨_, rfl, p, C_Gates, dx, _, _, rfl, e1, D_Gates.cls, D_Gates.no _ (by decide), rfl, qx, rfl, ⟨_, SqT.of x1⟩, fun D hD => ?_⟩
    have hl := r1.len
    refine lc_it walk_tup (fun i H1 => H1 D = some (.lst ((R.take i).map fun r => V.bl (inG S r))) ∧ Same H H1) ⟨upd_same, Same.new hD⟩ (fun i H1 _ q => SqT.of (q.2 _ _ x1)) ?_ ?_
    · rintro i x H1o H1 hi ⟨g1, s1⟩ ⟨rfl, hx⟩
      obtain ⟨r, hR, p', rfl, hp'⟩ := r1.at hx
      refine ⟨rfl, ?_⟩
      refine ⟨_, rfl, _, rfl, q, dy, _, rfl, s1 _ _ e2, q, p', S, r, rfl, hq.same s1, repG.tx (s1 _ _ hp'), hS, by have := hR2.2 r (List.mem_of_getElem? hR); omega, fun H2 s2 => ⟨_, rfl, ?_⟩⟩
      exact lc_all (f := fun r => V.bl (inG S r)) hD (s2 _ _ g1) (s1.trans s2) hR (by have := hR2.1; omega)
    rintro H1 ⟨g1, s1⟩
    rw [take_full hl] at g1
    refine ⟨D, R.map fun r => inG S r, rfl, SqL.of (by rw [g1, List.map_map]; rfl), ?_⟩
    have e : leG R S = (R.map fun r => inG S r).all id := by
      unfold leG
      rw [List.all_map]
      rfl
    rw [← e]
    exact k H1 s1

theorem okGates___eq__ {f : Addr} {fd : FuncData} (F : Fun K "__eq__" "Gates.__eq__" sGates___eq__ f fd) (T : Txt K mg) {C_Gates fgi fge : Addr} (D_Gates : DatC K mg "Gates" C_Gates fgi fge ["groups"]) : FnOk P w K mg base CX0 1 f fd PGates___eq__ (spGates_eq C_Gates) := by
  refine F.ok scGates___eq__ (fun vs H Q E h => ?_) (fun cdv A outer s H vs Q E hr h => ?_)
  · obtain ⟨p, q, R, S, rfl, hp, hq, hnR, hnS, k⟩ := h
    rfl
  · obtain ⟨p, q, R, S, rfl, hp, hq, hnR, hnS, k⟩ := h
    refine ⟨_, (pss_one (ps_ret (pe_and (pe_callB (id := "isinstance") call_isi (by rfl) T.b_isinstance (by decide +kernel) (pa_cons (pv 1) (pa_cons (pe_glob (v := .ref C_Gates) rfl D_Gates.g rfl) pa_nil))) (pe_one (pe_cmpR (op_eqD hr.units) (pe_fld (pv 0) rfl) (pe_fld (pv 1) rfl) (nomark _)))))), ?_⟩
    obtain ⟨dx, qx, e1, q1, xs, ex, x1, r1⟩ := id hp
    cases ex
    obtain ⟨dy, qy, e2, q2, ys, ey, x2, r2⟩ := id hq
    cases ey
    refine ⟨_, rfl, _, _, _, _, true, rfl, .own _, .base (.ins e2 D_Gates.cls D_Gates.ha D_Gates.hn D_Gates.htk D_Gates.hm), D_Gates.kit, true, rfl, iteT ?_⟩
    refine ⟨_, rfl, p, C_Gates, dx, _, _, rfl, e1, D_Gates.cls, D_Gates.no _ (by decide), rfl, _, rfl, q, C_Gates, dy, _, _, rfl, e2, D_Gates.cls, D_Gates.no _ (by decide), rfl, _, _, dp_rows ⟨_, _, rfl, x1, r1⟩, dp_rows ⟨_, _, rfl, x2, r2⟩, shaped_rows hnR, shaped_rows hnS, ?_⟩
    rw [eqv_rows]
    exact k

theorem okGates___or__ {f : Addr} {fd : FuncData} (F : Fun K "__or__" "Gates.__or__" sGates___or__ f fd) (T : Txt K mg) {C_Gates fgi fge : Addr} (D_Gates : DatC K mg "Gates" C_Gates fgi fge ["groups"]) (GGates___init__ : FnR P w K mg base (L2.CX P w) 5 fgi (spStar 1 (spGates_init C_Gates))) : FnOk P w K mg base CX0 7 f fd PGates___or__ (spGates_or C_Gates) := by
  refine F.ok scGates___or__ (fun vs H Q E h => ?_) (fun cdv A outer s H vs Q E hr h => ?_)
  · obtain ⟨p, q, R, S, rfl, hp, hq, hnR, hnS, hR2, hS2, k⟩ := h
    rfl
  · obtain ⟨p, q, R, S, rfl, hp, hq, hnR, hnS, hR2, hS2, k⟩ := h
    refine ⟨_, (pss_cons (ps_if (pt_not (pt_val (pe_callB (id := "isinstance") call_isi (by rfl) T.b_isinstance (by decide +kernel) (pa_cons (pv 1) (pa_cons (pe_glob (v := .ref C_Gates) rfl D_Gates.g rfl) pa_nil)))))
  (pss_one ps_never)
  pss_nil)
  (pss_cons (ps_set (i := 2) scGates___or__.nd rfl (by first | exact Or.inl rfl | exact Or.inr rfl) (pe_lst (pa_star (pe_fld (pv 0) rfl) (pa_star (pe_fld (pv 1) rfl) pa_nil))))
  (pss_one (ps_ret (pe_makeStar D_Gates.mkk GGates___init__ (hr.mono (by decide)) (by rfl) D_Gates.g (fun σ => passAt takes0 σ) (pv 2)))))), ?_⟩
    obtain ⟨dx, qx, e1, q1, xs, ex, x1, r1⟩ := id hp
    cases ex
    obtain ⟨dy, qy, e2, q2, ys, ey, x2, r2⟩ := id hq
    cases ey
    refine ⟨_, rfl, _, _, _, _, true, rfl, .own _, .base (.ins e2 D_Gates.cls D_Gates.ha D_Gates.hn D_Gates.htk D_Gates.hm), D_Gates.kit, true, rfl, iteF ?_⟩
    refine ⟨_, rfl, p, C_Gates, dx, _, _, rfl, e1, D_Gates.cls, D_Gates.no _ (by decide), rfl, qx, _, rfl, .inl (SqT.of x1), _, rfl, q, C_Gates, dy, _, _, rfl, e2, D_Gates.cls, D_Gates.no _ (by decide), rfl, qy, _, rfl, .inl (SqT.of x2), ?_⟩
    have l1 := r1.len
    have l2 := r2.len
    refine ⟨bigN (by simp only [List.length_append, List.length_nil]; have := hR2.1; have := hS2.1; omega), fun z hz => ?_⟩
    have sz : Same H (upd H z (.lst (xs ++ (ys ++ [])))) := Same.new hz
    refine ⟨_, rfl, z, _, rfl, .inr (SqL.of upd_same), fun x dx' nx nd ne => ?_⟩
    refine gates_make (G := R ++ S) ?_ ?_ ?_ nx nd fun H' s hg => k x H' (sz.trans s) hg
    · rw [List.append_nil]
      rw [List.append_nil] at sz
      exact Reps.app ((r1.mono repG_mono sz).imp fun _ _ h => h.a) ((r2.mono repG_mono sz).imp fun _ _ h => h.a)
    · intro g hg
      rcases List.mem_append.mp hg with h | h
      · exact hnR g h
      · exact hnS g h
    · refine ⟨by rw [List.length_append]; have := hR2.1; have := hS2.1; omega, fun g hg => ?_⟩
      rcases List.mem_append.mp hg with h | h
      · exact hR2.2 g h
      · exact hS2.2 g h

theorem okGates___and__ {f : Addr} {fd : FuncData} (F : Fun K "__and__" "Gates.__and__" sGates___and__ f fd) (T : Txt K mg) {C_Gates fgi fge : Addr} (D_Gates : DatC K mg "Gates" C_Gates fgi fge ["groups"]) (GGates___init__ : FnR P w K mg base (L2.CX P w) 5 fgi (spStar 1 (spGates_init C_Gates))) (C_shared : Cal P w K mg base "_shared" P_shared 1 (sp_shared K)) : FnOk P w K mg base CX0 7 f fd PGates___and__ (spGates_and C_Gates) := by
  obtain ⟨g_shared, gd_shared, G_shared, m_shared, k_shared, b_shared⟩ := C_shared.ex
  refine F.ok scGates___and__ (fun vs H Q E h => ?_) (fun cdv A outer s H vs Q E hr h => ?_)
  · obtain ⟨p, q, R, S, rfl, hp, hq, hnR, hnS, hR2, hS2, k⟩ := h
    rfl
  · obtain ⟨p, q, R, S, rfl, hp, hq, hnR, hnS, hR2, hS2, k⟩ := h
    refine ⟨_, (pss_cons (ps_if (pt_not (pt_val (pe_callB (id := "isinstance") call_isi (by rfl) T.b_isinstance (by decide +kernel) (pa_cons (pv 1) (pa_cons (pe_glob (v := .ref C_Gates) rfl D_Gates.g rfl) pa_nil)))))
  (pss_one ps_never)
  pss_nil)
  (pss_cons (ps_setLc2 (i := 2) (own := [("one", 3), ("two", 4)]) (vs1 := [4]) rfl scGates___and__.nd rfl rfl (sw_true rfl rfl rfl (by decide +kernel)) (pi_tup (pe_fld (pv 0) rfl)) (blkOk_by (own := [("one", 3), ("two", 4)]) (N := NGates___and__) (sc := defScope sGates___and__) (by decide +kernel)) (by decide) (fun _ _ _ _ _ => (pg_name (i := 3) scGates___and__.nd rfl (by first | exact Or.inl rfl | exact Or.inr rfl))) (fun _ _ _ _ _ => pts_nil) (fun _ _ _ _ _ => (pi_tupK (K0 := K) rfl (pe_fldK (K0 := K) rfl (pv 1) rfl))) (fun _ _ _ _ _ => (pg_name (i := 4) scGates___and__.nd rfl (by first | exact Or.inl rfl | exact Or.inr rfl))) (fun _ _ _ _ _ => pts_nil) (fun _ _ _ _ _ => (pe_call G_shared (hr.mono (by decide)) (by rfl) m_shared k_shared b_shared .nil pass0 (pa_cons (pv 3) (pa_cons (pv 4) pa_nil)))))
  (pss_one (ps_ret (pe_makeStar D_Gates.mkk GGates___init__ (hr.mono (by decide)) (by rfl) D_Gates.g (fun σ => passAt takes0 σ) (pv 2)))))), ?_⟩
    obtain ⟨dx, qx, e1, q1, xs, ex, x1, r1⟩ := id hp
    cases ex
    obtain ⟨dy, qy, e2, q2, ys, ey, x2, r2⟩ := id hq
    cases ey
    refine ⟨_, rfl, _, _, _, _, true, rfl, .own _, .base (.ins e2 D_Gates.cls D_Gates.ha D_Gates.hn D_Gates.htk D_Gates.hm), D_Gates.kit, true, rfl, iteF ?_⟩
    have l1 := r1.len
    have l2 := r2.len
    refine ⟨_, rfl, p, C_Gates, dx, _, _, rfl, e1, D_Gates.cls, D_Gates.no _ (by decide), rfl, qx, rfl, ⟨_, SqT.of x1⟩, fun D hD => ?_⟩
    refine lc2_it walk_tup (fun i H1 => ∃ qs : List V, H1 D = some (.lst qs) ∧ Reps (repN D) H1 qs (meet (R.take i) S) ∧ Same H H1) ⟨[], upd_same, trivial, Same.new hD⟩ (fun i H1 _ ⟨_, _, _, s⟩ => SqT.of (s _ _ x1)) ?_ ?_
    · rintro i x H1o H1 hi ⟨qs, g1, rq, s1⟩ ⟨rfl, hx⟩
      obtain ⟨r, hR, pr, rfl, hpr⟩ := r1.at hx
      refine ⟨rfl, ?_⟩
      refine ⟨_, rfl, q, C_Gates, dy, _, _, rfl, (s1 _ _ e2), D_Gates.cls, D_Gates.no _ (by decide), rfl, qy, rfl, ⟨_, SqT.of (s1 _ _ x2)⟩, ?_⟩
      refine lcIn_it walk_tup (fun j H2 => ∃ ws : List V, H2 D = some (.lst ws) ∧ Reps (repN D) H2 ws (meet (R.take i) S ++ (S.take j).map (shr r)) ∧ Same H H2) ⟨qs, g1, by rw [List.take_zero, List.map_nil, List.append_nil]; exact rq, s1⟩ (fun j H2 _ ⟨_, _, _, s⟩ => SqT.of (s _ _ x2)) ?_ ?_
      · rintro j y H2o H2 hj ⟨ws, g2, rw2, s2⟩ ⟨rfl, hy⟩
        obtain ⟨s, hS, ps, rfl, hps⟩ := r2.at hy
        refine ⟨rfl, ?_⟩
        refine ⟨_, rfl, _, rfl, pr, ps, r, s, rfl, repG.tx (s2 _ _ hpr), repG.tx (s2 _ _ hps), by have := hR2.2 r (List.mem_of_getElem? hR); omega, fun l H3 nl el s3 => ?_⟩
        have g3 := s3 _ _ g2
        have nlD : l ≠ D := fun e => by rw [e, g2] at nl; cases nl
        have lw := rw2.len
        have lm : (meet (R.take i) S ++ (S.take j).map (shr r)).length ≤ 100 := by
          rw [List.length_append, meet_len, List.length_map, List.length_take, List.length_take]
          have h1 : min i R.length * S.length ≤ 7 * 7 := Nat.mul_le_mul (by have := hR2.1; omega) hS2.1
          have := hS2.1
          omega
        refine ⟨ws, g3, small1000 (by omega), ws ++ [V.ref l], upd_same, ?_, fun b o e => by rw [upd_ne (ne_of_none e hD)]; exact s3 _ _ (s2 _ _ e)⟩
        rw [take_snoc hS, List.map_append, ← List.append_assoc]
        exact Reps.app ((rw2.mono repN_mono s3).imp fun _ _ h => h.upd) (Reps.one (repN.upd ⟨l, rfl, nlD, .inl el⟩))
      · rintro H2 ⟨ws, g2, rw2, s2⟩
        rw [take_full l2] at rw2
        exact ⟨ws, g2, by rw [take_snoc hR, meet_snoc]; exact rw2, s2⟩
    rintro H1 ⟨qs, g1, rq, s1⟩
    rw [take_full l1] at rq
    refine ⟨_, rfl, D, _, rfl, .inr (SqL.of g1), fun x dx' nx nd ne => ?_⟩
    exact gates_make (rq.imp fun _ _ h => h.a) (meet_ng hnR) ((meet_sm hR2 hS2).mono (by decide)) nx nd fun H' s hg => k x H' (s1.trans s) hg

theorem okGates___len__ {f : Addr} {fd : FuncData} (F : Fun K "__len__" "Gates.__len__" sGates___len__ f fd) (T : Txt K mg) {C_Gates fgi fge : Addr} (D_Gates : DatC K mg "Gates" C_Gates fgi fge ["groups"]) : FnOk P w K mg base CX0 1 f fd PGates___len__ (spGates_len C_Gates) := by
  refine F.ok scGates___len__ (fun vs H Q E h => ?_) (fun cdv A outer s H vs Q E hr h => ?_)
  · obtain ⟨p, R, rfl, hp, k⟩ := h
    rfl
  · obtain ⟨p, R, rfl, hp, k⟩ := h
    refine ⟨_, (pss_one (ps_ret (pe_callB call_len_seq (by rfl) T.b_len PySem.boot_len (pa_cons (pe_fld (pv 0) rfl) pa_nil)))), ?_⟩
    obtain ⟨dx, qx, e1, q1, xs, ex, x1, r1⟩ := id hp
    cases ex
    refine ⟨_, rfl, p, C_Gates, dx, _, _, rfl, e1, D_Gates.cls, D_Gates.no _ (by decide), rfl, qx, _, rfl, .inr (SqT.of x1), ?_⟩
    rw [r1.len]
    exact k
end
end Wb

namespace Wb
open PySem PySem.Spec PyProof.Rows L2 Wx StX NdefX RZ StX PyProof.Rows.FinIter
section
variable {P : Program} {w : World} {K : PySem.W.Frag} {mg : Str → Option Value} {base : Heap}

def tInt (ta : TE) : TT := fun σ H Q => ta σ H fun x H' => ∃ i : Int, x = .int i ∧ Q (i != 0) H'
theorem pt_int {X : Cx} {a : Expr} {ta : TE} (ha : PE X a ta) (he : ∀ whole, isTrue a X.env whole = (do let v ← whole; standAt a.pos; holding [v] (truthy v))) : PT X a (tInt ta) := by
  refine pt_truthR (r := fun x H Q => ∃ i : Int, x = .int i ∧ Q (i != 0) H) ha (fun pins s σ H x v Q I r h => ?_) he
  obtain ⟨i, rfl, q⟩ := h
  exact tru_ok pins s σ H (.int i) v Q I r ⟨(i != 0), rfl, q⟩
theorem pi_listK {X : Cx} {K0 : PySem.W.Frag} {tg l : Expr} {tl : TE} (e : X.K = K0) (hl : PE X l tl) : PI X tg l (iList K0 tl) := by
  subst e
  exact pi_list hl

/-- a plot at p -/
def PlotAt (C : Addr) (H : Hp) (p : Addr) (z : Str) (h d : Int) : Prop := ∃ dx, H p = some (.ins C dx [("name", .str z), ("hold", .int h), ("drink", .int d)])
theorem PlotAt.same {C : Addr} {H H' : Hp} {p : Addr} {z : Str} {h d : Int} (x : PlotAt C H p z h d) (s : Same H H') : PlotAt C H' p z h d := by
  obtain ⟨dx, e⟩ := x
  exact ⟨dx, s _ _ e⟩
abbrev PlotD := Str × Int × Int
def repPlot (C : Addr) : Rep PlotD := fun x H d => ∃ p, x = .ref p ∧ PlotAt C H p d.1 d.2.1 d.2.2
theorem repPlot_mono {C : Addr} : RMon (repPlot C) := fun x H H' a e h => by
  obtain ⟨p, rfl, h⟩ := h
  exact ⟨p, rfl, h.same e⟩
theorem repPlot_fn {C : Addr} : RFun (repPlot C) := fun x H a b h h' => by
  obtain ⟨p, rfl, dx, h⟩ := h
  obtain ⟨q, e, dy, h'⟩ := h'
  cases e
  rw [h] at h'
  injection h' with h'
  injection h' with _ _ h'
  obtain ⟨a1, a2, a3⟩ := a
  obtain ⟨b1, b2, b3⟩ := b
  simp only [List.cons.injEq, Prod.mk.injEq, true_and, and_true, V.str.injEq, V.int.injEq] at h'
  obtain ⟨h1, h2, h3⟩ := h'
  rw [h1, h2, h3]
def spPlot_initT (C : Addr) : Sp := fun vs H Q _ => ∃ (p dx : Addr) (z : Str) (h d : Int), vs = [.ref p, .str z, .int h, .int d] ∧ H p = some (.ins C dx []) ∧ NmOk 8 z ∧ 1 ≤ h ∧ h ≤ 8 ∧ 1 ≤ d ∧ d ≤ 8 ∧
  ∀ H', Fr2 p dx H H' → H' p = some (.ins C dx [("name", .str z), ("hold", .int h), ("drink", .int d)]) → Q .non H'
theorem plot_make {C : Addr} {H : Hp} {z : Str} {h d : Int} {R : Hp → Prop} {E : XK} (nz : NmOk 8 z) (h1 : 1 ≤ h) (h8 : h ≤ 8) (d1 : 1 ≤ d) (d8 : d ≤ 8) {x dx : Addr} (nx : H x = none) (nd : H dx = none) (k : ∀ H', Same H H' → PlotAt C H' x z h d → R H') :
    spPlot_initT C [.ref x, .str z, .int h, .int d] (upd (upd H dx (.own x)) x (.ins C dx [])) (fun v H2 => v = .non ∧ R H2) E :=
  ⟨x, dx, z, h, d, rfl, upd_same, nz, h1, h8, d1, d8, fun H' fr ep => ⟨rfl, k H' (fr.same nx nd) ⟨dx, ep⟩⟩⟩
def spPlot_eq (C : Addr) : Sp := fun vs H Q _ => ∃ (p q : Addr) (z1 z2 : Str) (h1 h2 d1 d2 : Int), vs = [.ref p, .ref q] ∧ PlotAt C H p z1 h1 d1 ∧ PlotAt C H q z2 h2 d2 ∧ Q (.bl (decide (z1 = z2 ∧ h1 = h2 ∧ d1 = d2))) H
theorem eqR_Plot {X : Cx} {C f : Addr} {fd : FuncData} {ps : List Str} (F : FnOk X.prog X.w X.K X.mg X.base CX0 1 f fd ps (spPlot_eq C))
    (hs : PySem.W.findIn X.K (.ref C) "__eq__" = some (some (.ref f))) (hf : PySem.W.isFn X.K (.ref f) = true) (hb : Binds X.K fd ps []) : EqR X 1 (repPlot C) :=
  eqR_ins F hs hf hb pass0 (fun x H a h => by
    obtain ⟨p, rfl, dx, e⟩ := h
    exact ⟨p, dx, _, rfl, e⟩) (fun p q H a b Q h1 h2 k => by
    obtain ⟨p', e1, h1⟩ := h1
    obtain ⟨q', e2, h2⟩ := h2
    cases e1
    cases e2
    refine ⟨p, q, _, _, _, _, _, _, rfl, h1, h2, ?_⟩
    have e : decide (a = b) = decide (a.1 = b.1 ∧ a.2.1 = b.2.1 ∧ a.2.2 = b.2.2) := by
      obtain ⟨a1, a2, a3⟩ := a
      obtain ⟨b1, b2, b3⟩ := b
      rw [Bool.eq_iff_iff]
      simp
    rw [← e]
    exact k H Ext.rfl') repPlot_fn

theorem okPlot___init__ {f : Addr} {fd : FuncData} (F : Fun K "__init__" "Plot.__init__" sPlot___init__ f fd) (T : Txt K mg) {C_Plot fpi fpe : Addr} (D_Plot : DatC K mg "Plot" C_Plot fpi fpe ["name", "hold", "drink"]) {C_BadNumber : Addr} (Ccheck_name : Cal P w K mg base "check_name" Pcheck_name 2 spcheck_nameT) (C_xcheck_number : ∃ (g : Addr) (gd : FuncData), FnOk P w K mg base (L2.CX P w) 4 g gd Pcheck_number (spcheck_number C_BadNumber) ∧ mg "check_number" = some (.ref g) ∧ PySem.W.keepIn K (.ref g) = true ∧ Binds K gd Pcheck_number []) : FnOk P w K mg base CX0 5 f fd PPlot___init__ (spPlot_initT C_Plot) := by
  obtain ⟨gcheck_name, gdcheck_name, Gcheck_name, mcheck_name, kcheck_name, bcheck_name⟩ := Ccheck_name.ex
  obtain ⟨_, c_MOST_UNITS⟩ := T.c_MOST_UNITS
  obtain ⟨gcheck_number, gdcheck_number, Gcheck_number, mcheck_number, kcheck_number, bcheck_number⟩ := C_xcheck_number
  refine F.ok scPlot___init__ (fun vs H Q E h => ?_) (fun cdv A outer s H vs Q E hr h => ?_)
  · obtain ⟨p, dx, z, h, d, rfl, hp, nz, hh1, hh8, hd1, hd8, k⟩ := h
    rfl
  · obtain ⟨p, dx, z, h, d, rfl, hp, nz, hh1, hh8, hd1, hd8, k⟩ := h
    refine ⟨_, (pss_cons (ps_fld (pv 0) (pe_call Gcheck_name (hr.mono (by decide)) (by rfl) mcheck_name kcheck_name bcheck_name .nil pass0 (pa_cons (pv 1) pa_nil)) rfl)
  (pss_cons (ps_fld (pv 0) (pe_callS Gcheck_number (hr.mono (by decide)) (by rfl) mcheck_number kcheck_number bcheck_number (fun σ => passAt takes0 σ) (pa_cons pe_str (pa_cons (pv 2) (pa_cons pe_int (pa_cons (pe_glob (v := .int 8) rfl c_MOST_UNITS ⟨_, rfl⟩) pa_nil))))) rfl)
  (pss_one (ps_fld (pv 0) (pe_callS Gcheck_number (hr.mono (by decide)) (by rfl) mcheck_number kcheck_number bcheck_number (fun σ => passAt takes0 σ) (pa_cons pe_str (pa_cons (pv 3) (pa_cons pe_int (pa_cons (pe_glob (v := .int 8) rfl c_MOST_UNITS ⟨_, rfl⟩) pa_nil))))) rfl)))), ?_⟩
    have no := fun f (h : f ∈ (["name", "hold", "drink"] : List Str)) => D_Plot.no f h
    refine ⟨_, rfl, z, rfl, nz, fun H1 s1 => ?_⟩
    refine ⟨_, rfl, p, C_Plot, dx, [], rfl, s1 _ _ hp, D_Plot.cls, D_Plot.no "name" (by decide), (by decide), ?_⟩
    refine ⟨_, rfl, "hold", .int h, 1, 8, rfl, (by decide +kernel), .int _, fun t2 => ?_, fun t2 d H2 nd s2 hd => absurd (decide_eq_true (⟨hh1, hh8⟩ : 1 ≤ h ∧ h ≤ 8)) (by rw [show decide (1 ≤ h ∧ h ≤ 8) = numB (.int h) 1 8 from rfl, t2]; exact Bool.false_ne_true)⟩
    refine ⟨_, rfl, p, C_Plot, dx, _, rfl, upd_same, D_Plot.cls, D_Plot.no "hold" (by decide), (by show 1 < 1000; decide), ?_⟩
    rw [upd_upd]
    refine ⟨_, rfl, "drink", .int d, 1, 8, rfl, (by decide +kernel), .int _, fun t3 => ?_, fun t3 d' H2 nd s2 hd => absurd (decide_eq_true (⟨hd1, hd8⟩ : 1 ≤ d ∧ d ≤ 8)) (by rw [show decide (1 ≤ d ∧ d ≤ 8) = numB (.int d) 1 8 from rfl, t3]; exact Bool.false_ne_true)⟩
    refine ⟨_, rfl, p, C_Plot, dx, _, rfl, upd_same, D_Plot.cls, D_Plot.no "drink" (by decide), (by show 2 < 1000; decide), ?_⟩
    refine k _ (fun b o nb _ e => ?_) upd_same
    rw [upd_upd, upd_ne nb]
    exact s1 b o e

theorem okPlot___eq__ {f : Addr} {fd : FuncData} (F : Fun K "__eq__" "Plot.__eq__" sPlot___eq__ f fd) (T : Txt K mg) {C_Plot fpi fpe : Addr} (D_Plot : DatC K mg "Plot" C_Plot fpi fpe ["name", "hold", "drink"]) : FnOk P w K mg base CX0 1 f fd PPlot___eq__ (spPlot_eq C_Plot) := by
  refine F.ok scPlot___eq__ (fun vs H Q E h => ?_) (fun cdv A outer s H vs Q E hr h => ?_)
  · obtain ⟨p, q, z1, z2, h1, h2, d1, d2, rfl, hp, hq, k⟩ := h
    rfl
  · obtain ⟨p, q, z1, z2, h1, h2, d1, d2, rfl, hp, hq, k⟩ := h
    refine ⟨_, (pss_one (ps_ret (pe_and (pe_callB (id := "isinstance") call_isi (by rfl) T.b_isinstance (by decide +kernel) (pa_cons (pv 1) (pa_cons (pe_glob (v := .ref C_Plot) rfl D_Plot.g rfl) pa_nil))) (pe_and (pe_cmpR op_eq (pe_fld (pv 0) rfl) (pe_fld (pv 1) rfl) (nomark _)) (pe_and (pe_cmpR op_eq (pe_fld (pv 0) rfl) (pe_fld (pv 1) rfl) (nomark _)) (pe_one (pe_cmpR op_eq (pe_fld (pv 0) rfl) (pe_fld (pv 1) rfl) (nomark _)))))))), ?_⟩
    obtain ⟨dx, e1⟩ := hp
    obtain ⟨dy, e2⟩ := hq
    refine ⟨_, rfl, _, _, _, _, true, rfl, .own _, .base (.ins e2 D_Plot.cls D_Plot.ha D_Plot.hn D_Plot.htk D_Plot.hm), D_Plot.kit, true, rfl, iteT ?_⟩
    have no := fun f (h : f ∈ (["name", "hold", "drink"] : List Str)) => D_Plot.no f h
    refine ⟨_, rfl, p, C_Plot, dx, _, _, rfl, e1, D_Plot.cls, no _ (by decide), rfl, _, rfl, q, C_Plot, dy, _, _, rfl, e2, D_Plot.cls, no _ (by decide), rfl, rfl, _, rfl, ?_⟩
    refine ite2 (fun c1 => ?_) (fun c1 => ?_)
    · have c1 : z1 = z2 := by injection of_decide_eq_true c1
      refine ⟨_, rfl, p, C_Plot, dx, _, _, rfl, e1, D_Plot.cls, no _ (by decide), rfl, _, rfl, q, C_Plot, dy, _, _, rfl, e2, D_Plot.cls, no _ (by decide), rfl, rfl, _, rfl, ?_⟩
      refine ite2 (fun c2 => ?_) (fun c2 => ?_)
      · have c2 : h1 = h2 := by injection of_decide_eq_true c2
        refine ⟨_, rfl, p, C_Plot, dx, _, _, rfl, e1, D_Plot.cls, no _ (by decide), rfl, _, rfl, q, C_Plot, dy, _, _, rfl, e2, D_Plot.cls, no _ (by decide), rfl, rfl, ?_⟩
        have e : decide (V.int d1 = V.int d2) = decide (z1 = z2 ∧ h1 = h2 ∧ d1 = d2) := by simp [c1, c2]
        show Q (.bl (decide (V.int d1 = V.int d2))) H
        rw [e]
        exact k
      · have c2 : ¬ h1 = h2 := fun q => c2 (decide_eq_true (by rw [q]))
        rw [decide_eq_false (fun q => c2 q.2.1)] at k
        exact k
    · have c1 : ¬ z1 = z2 := fun q => c1 (decide_eq_true (by rw [q]))
      rw [decide_eq_false (fun q => c1 q.1)] at k
      exact k
end
end Wb

namespace Wb
open PySem PySem.Spec PyProof.Rows L2 Wx StX NdefX RZ StX PyProof.Rows.FinIter
section
variable {P : Program} {w : World} {K : PySem.W.Frag} {mg : Str → Option Value} {base : Heap}
/-- a comprehension that keeps some of what it walks over -/
theorem flt_yes {R : Rep (List Str)} {H H1 : Hp} {D : Addr} {L : List (List Str)} {p : List Str → Bool} {j : Nat} {x : V} {g : List Str} {ws : List V} (hD : H D = none) (g1 : H1 D = some (.lst ws)) (rw1 : Reps R H ws ((L.take j).filter p)) (s1 : Same H H1) (hx : L[j]? = some g) (hr' : R x H g) (hl : L.length ≤ 1000) (hp : p g = true) :
    ∃ acc, H1 D = some (.lst acc) ∧ acc.length < sizeLine ∧ ∃ ws' : List V, (upd H1 D (.lst (acc ++ [x]))) D = some (.lst ws') ∧ Reps R H ws' ((L.take (j + 1)).filter p) ∧ Same H (upd H1 D (.lst (acc ++ [x]))) := by
  have h1 := List.length_filter_le p (L.take j)
  rw [List.length_take] at h1
  have h2 := rw1.len
  refine ⟨ws, g1, small1000 (by omega), ws ++ [x], upd_same, ?_, fun b o e => by rw [upd_ne (ne_of_none e hD)]; exact s1 _ _ e⟩
  rw [take_snoc hx, List.filter_append, List.filter_cons, if_pos hp]
  exact Reps.app rw1 (Reps.one hr')
theorem flt_no {R : Rep (List Str)} {H H1 : Hp} {D : Addr} {L : List (List Str)} {p : List Str → Bool} {j : Nat} {g : List Str} {ws : List V} (g1 : H1 D = some (.lst ws)) (rw1 : Reps R H ws ((L.take j).filter p)) (s1 : Same H H1) (hx : L[j]? = some g) (hp : p g = false) :
    ∃ ws' : List V, H1 D = some (.lst ws') ∧ Reps R H ws' ((L.take (j + 1)).filter p) ∧ Same H H1 := by
  refine ⟨ws, g1, ?_, s1⟩
  rw [take_snoc hx, List.filter_append, List.filter_cons, if_neg (by rw [hp]; exact Bool.false_ne_true), List.filter_nil, List.append_nil]
  exact rw1

/-- the first name that was there before -/
def dblA : List Str → List Str → Option Str
  | _, [] => none
  | seen, z :: r => if z ∈ seen then some z else dblA (seen ++ [z]) r
def dbl (zs : List Str) : Option Str := dblA [] zs
theorem dblA_nodup : ∀ (r seen : List Str), (seen ++ r).Nodup → dblA seen r = none
  | [], _, _ => rfl
  | z :: r, seen, h => by
    unfold dblA
    rw [if_neg (fun m => (List.nodup_append.mp h).2.2 z m z List.mem_cons_self rfl)]
    exact dblA_nodup r (seen ++ [z]) (by rw [List.append_assoc]; exact h)
theorem dbl_nodup {zs : List Str} (h : zs.Nodup) : dbl zs = none := dblA_nodup zs [] h
theorem dblA_last : ∀ (r seen : List Str) (z : Str), (seen ++ r).Nodup → z ∈ seen ++ r → dblA seen (r ++ [z]) = some z
  | [], seen, z, _, m => by
    show dblA seen [z] = _
    unfold dblA
    rw [if_pos (by rwa [List.append_nil] at m)]
  | y :: r, seen, z, h, m => by
    show dblA seen (y :: (r ++ [z])) = _
    unfold dblA
    rw [if_neg (fun m => (List.nodup_append.mp h).2.2 y m y List.mem_cons_self rfl)]
    exact dblA_last r (seen ++ [y]) z (by rw [List.append_assoc]; exact h) (by rw [List.append_assoc]; exact m)
/-- the first name of the groups that is no plot's -/
def unk (R : List (List Str)) (zs : List Str) : Option Str := R.findSome? fun r => r.find? fun z => !decide (z ∈ zs)
theorem unk_none {R : List (List Str)} {zs : List Str} (h : ∀ r, r ∈ R → ∀ z, z ∈ r → z ∈ zs) : unk R zs = none := List.findSome?_eq_none_iff.mpr fun r hr => List.find?_eq_none.mpr fun z hz => by
  rw [decide_eq_true (h r hr z hz)]
  exact Bool.false_ne_true
theorem unk_some {R : List (List Str)} {zs : List Str} {w : Str} (h : ∀ r, r ∈ R → ∀ z, z ∈ r → z = w ∨ z ∈ zs) (m : ∃ r, r ∈ R ∧ w ∈ r) (n : ¬ w ∈ zs) : unk R zs = some w := by
  cases e : unk R zs with
  | none =>
    exfalso
    obtain ⟨r, hr, hw⟩ := m
    have := List.find?_eq_none.mp (List.findSome?_eq_none_iff.mp e r hr) w hw
    rw [decide_eq_false n] at this
    exact this rfl
  | some z =>
    obtain ⟨r, hr, q⟩ := List.exists_of_findSome?_eq_some e
    have h1 := List.find?_some q
    have h2 := List.mem_of_find?_eq_some q
    rcases h r hr z h2 with y | y
    · rw [y]
    · rw [decide_eq_true y] at h1
      cases h1
def nmsOf (PL : List PlotD) : List Str := PL.map (·.1)
/-- the first wrong part of a ground: is it a name, its word, its value -/
def gRef (PL : List PlotD) (R : List (List Str)) (t : V) : Option (Str × V) :=
  if 1 ≤ PL.length ∧ PL.length ≤ 4 then
    match dbl (nmsOf PL) with
    | some z => some ("name", .str z)
    | none => match unk R (nmsOf PL) with
      | some z => some ("name", .str z)
      | none => if numB t 0 8 = true then none else some ("tank", t)
  else some ("plots", .int (PL.length : Nat))
section
variable {PL : List PlotD} {R : List (List Str)} {t : V} {z : Str}
theorem gR_plots (h : ¬ (1 ≤ PL.length ∧ PL.length ≤ 4)) : gRef PL R t = some (("plots" : Str), .int (PL.length : Nat)) := if_neg h
theorem gR_dbl (h : 1 ≤ PL.length ∧ PL.length ≤ 4) (h1 : dbl (nmsOf PL) = some z) : gRef PL R t = some (("name" : Str), .str z) := by unfold gRef; rw [if_pos h, h1]
theorem gR_unk (h : 1 ≤ PL.length ∧ PL.length ≤ 4) (h1 : dbl (nmsOf PL) = none) (h2 : unk R (nmsOf PL) = some z) : gRef PL R t = some (("name" : Str), .str z) := by unfold gRef; rw [if_pos h, h1, h2]
theorem gR_tank (h : 1 ≤ PL.length ∧ PL.length ≤ 4) (h1 : dbl (nmsOf PL) = none) (h2 : unk R (nmsOf PL) = none) (h3 : numB t 0 8 = false) : gRef PL R t = some (("tank" : Str), t) := by
  unfold gRef; rw [if_pos h, h1, h2]; show (if numB t 0 8 = true then _ else _) = _; rw [if_neg (by rw [h3]; exact Bool.false_ne_true)]
theorem gR_ok (h : 1 ≤ PL.length ∧ PL.length ≤ 4) (h1 : dbl (nmsOf PL) = none) (h2 : unk R (nmsOf PL) = none) (h3 : numB t 0 8 = true) : gRef PL R t = none := by
  unfold gRef; rw [if_pos h, h1, h2]; show (if numB t 0 8 = true then _ else _) = _; rw [if_pos h3]
end
theorem ne_word : ¬ (("plots" : Str) = ("name" : Str)) ∧ ¬ (("tank" : Str) = ("name" : Str)) := by decide +kernel
/-- the turn of a number -/
def tUp (zs : List Str) (k : Int) : Nat → List Str
  | 0 => []
  | i + 1 => tUp zs k i ++ (match zs[i]? with | some z => if (Builtin.bitAnd (k / 2 ^ i) 1 != 0) = true then [z] else [] | none => [])
theorem tUp_snoc {zs : List Str} {k : Int} {i : Nat} {z : Str} (h : zs[i]? = some z) : tUp zs k (i + 1) = tUp zs k i ++ if (Builtin.bitAnd (k / 2 ^ i) 1 != 0) = true then [z] else [] := by
  show tUp zs k i ++ (match zs[i]? with | some z => if (Builtin.bitAnd (k / 2 ^ i) 1 != 0) = true then [z] else [] | none => []) = _
  rw [h]
theorem tUp_len (zs : List Str) (k : Int) : ∀ i, (tUp zs k i).length ≤ i
  | 0 => Nat.le_refl _
  | i + 1 => by
    have ih := tUp_len zs k i
    cases h : zs[i]? with
    | none =>
      show (tUp zs k i ++ (match zs[i]? with | some z => if (Builtin.bitAnd (k / 2 ^ i) 1 != 0) = true then [z] else [] | none => [])).length ≤ _
      rw [h, List.append_nil]
      omega
    | some z =>
      rw [tUp_snoc h, List.length_append]
      split
      · show _ + 1 ≤ _
        omega
      · show _ + 0 ≤ _
        omega
def turnAt (zs : List Str) (k : Int) : List Str := tUp zs k zs.length
def allTurns (zs : List Str) : List (List Str) := (List.range (2 ^ zs.length)).map fun (k : Nat) => turnAt zs ((k : Nat) : Int)
def goodTurns (zs : List Str) (R : List (List Str)) : List (List Str) := (allTurns zs).filter fun t => inG R t
def sp_turn_at (K : PySem.W.Frag) : Sp := fun vs H Q _ => ∃ (a : Addr) (zs : List Str) (k : Int), vs = [.ref a, .int k] ∧ H a = some (.tup (zs.map V.str)) ∧ zs.length ≤ 4 ∧ ∀ (q : Addr) H', H q = none → Same H H' → H' q = some (.tup ((turnAt zs k).map V.str)) → Q (.ref q) H'
def sp_allowed_turns (K : PySem.W.Frag) (C : Addr) : Sp := fun vs H Q _ => ∃ (a p : Addr) (zs : List Str) (R : List (List Str)), vs = [.ref a, .ref p] ∧ H a = some (.tup (zs.map V.str)) ∧ zs.length ≤ 4 ∧ GatesAt C H p R ∧ Sm 60 R ∧ ∀ (q : Addr) H', Same H H' → repT repG (.ref q) H' (goodTurns zs R) → Q (.ref q) H'
def sp_different_names (K : PySem.W.Frag) (C CN : Addr) : Sp := fun vs H Q E => ∃ (a : Addr) (xs : List V) (PL : List PlotD), vs = [.ref a] ∧ (SqL K H a xs ∨ SqT K H a xs) ∧ Reps (repPlot C) H xs PL ∧ PL.length ≤ 100 ∧ (∀ d, d ∈ PL → NmOk 8 d.1) ∧
  (dbl (nmsOf PL) = none → ∀ (q : Addr) H', H q = none → Same H H' → H' q = some (.tup ((nmsOf PL).map V.str)) → Q (.ref q) H') ∧
  (∀ z, dbl (nmsOf PL) = some z → ∀ (d : Addr) (H' : Hp), H d = none → Same H H' → H' d = some (.xd [("name", .str z)]) → E (.ref CN) (some d) H')
def sp_check_known (C CN : Addr) : Sp := fun vs H Q E => ∃ (p a : Addr) (R : List (List Str)) (zs : List Str), vs = [.ref p, .ref a] ∧ GatesAt C H p R ∧ H a = some (.tup (zs.map V.str)) ∧ NG R ∧
  (unk R zs = none → ∀ H', Same H H' → Q .non H') ∧
  (∀ z, unk R zs = some z → ∀ (d : Addr) (H' : Hp), H d = none → Same H H' → H' d = some (.xd [("name", .str z)]) → E (.ref CN) (some d) H')
/-- a ground at p -/
def GroundAt (C CP CG : Addr) (H : Hp) (p : Addr) (PL : List PlotD) (R : List (List Str)) (t : Int) : Prop := ∃ dx q1 q2 gt q3, H p = some (.ins C dx [("_tank", .int t), ("plots", .ref q1), ("names", .ref q2), ("gates", .ref gt), ("_turns", .ref q3)]) ∧
  repT (repPlot CP) (.ref q1) H PL ∧ H q2 = some (.tup ((nmsOf PL).map V.str)) ∧ GatesAt CG H gt R ∧ repT repG (.ref q3) H (goodTurns (nmsOf PL) R)
theorem GroundAt.same {C CP CG : Addr} {H H' : Hp} {p : Addr} {PL : List PlotD} {R : List (List Str)} {t : Int} (x : GroundAt C CP CG H p PL R t) (s : Same H H') : GroundAt C CP CG H' p PL R t := by
  obtain ⟨dx, q1, q2, gt, q3, e, h1, h2, h3, h4⟩ := x
  exact ⟨dx, q1, q2, gt, q3, s _ _ e, repT_mono repPlot_mono _ _ _ _ s h1, s _ _ h2, h3.same s, repT_mono repG_mono _ _ _ _ s h4⟩
def spGround_init (K : PySem.W.Frag) (C CP CG CN CM : Addr) : Sp := fun vs H Q E => ∃ (p dx a gt : Addr) (xs : List V) (PL : List PlotD) (R : List (List Str)) (t : V), vs = [.ref p, .ref a, .ref gt, t] ∧ H p = some (.ins C dx []) ∧ H a = some (.lst xs) ∧ Reps (repPlot CP) H xs PL ∧ PL.length ≤ 100 ∧ (∀ d, d ∈ PL → NmOk 8 d.1) ∧
  GatesAt CG H gt R ∧ NG R ∧ Sm 60 R ∧ OddV t ∧
  (∀ i, t = .int i → gRef PL R t = none → ∀ H', Fr2 p dx H H' → GroundAt C CP CG H' p PL R i → Q .non H') ∧
  (∀ v, gRef PL R t = some (("name" : Str), v) → ∀ (d : Addr) (H' : Hp), H d = none → Fr2 p dx H H' → H' d = some (.xd [("name", v)]) → E (.ref CN) (some d) H') ∧
  (∀ tag v, gRef PL R t = some (tag, v) → ¬ tag = ("name" : Str) → ∀ (d : Addr) (H' : Hp), H d = none → Fr2 p dx H H' → H' d = some (.xd [("value", v), ("what", .str tag)]) → E (.ref CM) (some d) H')
def spGround_eq (C CP CG : Addr) : Sp := fun vs H Q _ => ∃ (p q : Addr) (PL1 PL2 : List PlotD) (R1 R2 : List (List Str)) (t1 t2 : Int), vs = [.ref p, .ref q] ∧ GroundAt C CP CG H p PL1 R1 t1 ∧ GroundAt C CP CG H q PL2 R2 t2 ∧ NG R1 ∧ NG R2 ∧ ∀ H', Same H H' → Q (.bl (decide (PL1 = PL2 ∧ R1 = R2 ∧ t1 = t2))) H'
def spGround_capacity (C CP CG : Addr) : Sp := fun vs H Q _ => ∃ (p : Addr) (PL : List PlotD) (R : List (List Str)) (t : Int), vs = [.ref p] ∧ GroundAt C CP CG H p PL R t ∧ Q (.int t) H
theorem findSome_at {α β : Type} {p : α → Option β} : ∀ {xs : List α} {i : Nat} {x : α} {b : β}, xs[i]? = some x → (xs.take i).findSome? p = none → p x = some b → xs.findSome? p = some b
  | [], i, x, b, h, _, _ => by simp at h
  | y :: ys, 0, x, b, h, _, q => by
    have e : y = x := Option.some.inj h
    subst e
    rw [List.findSome?_cons, q]
  | y :: ys, i + 1, x, b, h, k, q => by
    rw [List.take_succ_cons, List.findSome?_cons] at k
    rw [List.findSome?_cons]
    cases e : p y with
    | some z => rw [e] at k; cases k
    | none =>
      rw [e] at k
      exact findSome_at (xs := ys) (i := i) h k q
theorem findSome_snoc {α β : Type} {p : α → Option β} {xs : List α} {i : Nat} {x : α} (h : xs[i]? = some x) (k : (xs.take i).findSome? p = none) (q : p x = none) : (xs.take (i + 1)).findSome? p = none := by
  rw [take_snoc h, List.findSome?_append, k, List.findSome?_cons, q]
  rfl
theorem find_atS {α : Type} {p : α → Bool} : ∀ {xs : List α} {i : Nat} {x : α}, xs[i]? = some x → (∀ y, y ∈ xs.take i → p y = false) → p x = true → xs.find? p = some x
  | [], i, x, h, _, _ => by simp at h
  | y :: ys, 0, x, h, _, q => by
    have e : y = x := Option.some.inj h
    subst e
    rw [List.find?_cons, q]
  | y :: ys, i + 1, x, h, k, q => by
    rw [List.find?_cons, k y (by rw [List.take_succ_cons]; exact List.mem_cons_self)]
    exact find_atS (xs := ys) (i := i) h (fun z hz => k z (by rw [List.take_succ_cons]; exact List.mem_cons_of_mem _ hz)) q
theorem plots_at {C : Addr} {H : Hp} {xs : List V} {PL : List PlotD} (h : Reps (repPlot C) H xs PL) {i : Nat} {x : V} (hx : xs[i]? = some x) : ∃ d p dx, PL[i]? = some d ∧ x = .ref p ∧ H p = some (.ins C dx [("name", .str d.1), ("hold", .int d.2.1), ("drink", .int d.2.2)]) := by
  obtain ⟨d, hd, p, rfl, dx, e⟩ := h.at hx
  exact ⟨d, p, dx, hd, rfl, e⟩
theorem nms_at {PL : List PlotD} {i : Nat} {d : PlotD} (h : PL[i]? = some d) : (nmsOf PL)[i]? = some d.1 := by
  unfold nmsOf
  rw [List.getElem?_map, h]
  rfl
theorem drop_at {α : Type} {l : List α} {i : Nat} {x : α} (h : l[i]? = some x) : l.drop i = x :: l.drop (i + 1) := by
  obtain ⟨hi, e⟩ := List.getElem?_eq_some_iff.mp h
  rw [List.drop_eq_getElem_cons hi, e]
theorem dblA_step {seen r : List Str} {z : Str} (h : ¬ z ∈ seen) : dblA seen (z :: r) = dblA (seen ++ [z]) r := by
  show (if z ∈ seen then some z else dblA (seen ++ [z]) r) = _
  rw [if_neg h]

theorem ok_different_names {f : Addr} {fd : FuncData} (F : Fun K "_different_names" "_different_names" s_different_names f fd) (T : Txt K mg) {C_Plot fpi fpe : Addr} (D_Plot : DatC K mg "Plot" C_Plot fpi fpe ["name", "hold", "drink"]) {C_BadName f_BadName cda_BadName cc_BadName : Addr} {fd_BadName : FuncData} (E_BadName : ErrC P K mg "BadName" "BadName.__init__" C_BadName f_BadName cda_BadName cc_BadName) (G_BadName : FnOk P w K mg base CX0 2 f_BadName fd_BadName PBadName___init__ (spBadName C_BadName)) (b_BadName : Binds K fd_BadName PBadName___init__ []) : FnOk P w K mg base (L2.CX P w) 5 f fd P_different_names (sp_different_names K C_Plot C_BadName) := by
  refine F.okX sc_different_names (fun vs H Q E h => ?_) (fun cdv A outer s H vs Q E hr h => ?_)
  · obtain ⟨a, xs, PL, rfl, ha, hrs, hl, hnm, kT, kE⟩ := h
    rfl
  · obtain ⟨a, xs, PL, rfl, ha, hrs, hl, hnm, kT, kE⟩ := h
    refine ⟨_, (pss_cons (ps_set (i := 1) sc_different_names.nd rfl (by first | exact Or.inl rfl | exact Or.inr rfl) (pe_lst pa_nil))
  (pss_cons (ps_for (passes_of rfl) rfl (pi_seq (pv 0)) (pg_name (i := 2) sc_different_names.nd rfl (by first | exact Or.inl rfl | exact Or.inr rfl))
  (pss_cons (ps_if (pt_cmpR op_in_seq (pe_fld (pv 2) rfl) (pv 1) (by rfl))
  (pss_one (ps_raise rfl (takes_of rfl rfl rfl rfl) (pmk_oex E_BadName.sup.oex E_BadName.ini E_BadName.tyI G_BadName (hr.mono (by decide)) b_BadName .nil pass0 (by rfl) E_BadName.g (pa_cons (pe_fld (pv 2) rfl) pa_nil))))
  pss_nil)
  (pss_one (ps_expr (pe_bm PySem.F.plainAttrs_list PySem.F.slot_list_append PySem.F.type_list_append mt_append (pv 1) (pa_cons (pe_fld (pv 2) rfl) pa_nil))))))
  (pss_one (ps_ret (pe_callTy (T := "tuple") call_tuple_of (by rfl) T.b_tuple (by decide +kernel) (pa_cons (pv 1) pa_nil)))))), ?_⟩
    have hln : (nmsOf PL).length = PL.length := List.length_map _
    have hlen := hrs.len
    refine ⟨bigN (by show 0 ≤ _; exact Nat.zero_le _), fun p hp => ?_⟩
    have pa : ∀ {o}, H a = some o → a ≠ p := fun e y => by rw [y, hp] at e; cases e
    have s0 : Same H (upd H p (.lst [])) := Same.new hp
    have fin : ∀ H1, Same H H1 → H1 p = some (.lst ((nmsOf PL).map V.str)) → dbl (nmsOf PL) = none → ∃ (a : Addr) (xs : List V), V.ref p = .ref a ∧ SqL K H1 a xs := fun H1 s e _ => ⟨p, _, rfl, SqL.of e⟩
    refine ⟨_, rfl, a, xs, rfl, ?_⟩
    rcases ha with ha | ha
    · refine .inl ⟨Same.seq s0 ha, ?_⟩
      refine for_it walk_list (fun i σ H1 => ∃ w : Option V, σ = [some (.ref a), some (.ref p), w] ∧ H1 p = some (.lst (((nmsOf PL).take i).map V.str)) ∧ Same H H1 ∧ dbl (nmsOf PL) = dblA ((nmsOf PL).take i) ((nmsOf PL).drop i)) ⟨_, rfl, upd_same, s0, rfl⟩ (fun i σ H1 _ ⟨_, _, _, s, _⟩ => Same.seq s ha) ?_ ?_
      · rintro i x σ H1o H1 hi ⟨w, rfl, ep, s1, db⟩ ⟨rfl, hx⟩
        obtain ⟨d, q, dx, hd, rfl, eq⟩ := plots_at hrs hx
        have hz := nms_at hd
        have eq1 := s1 _ _ eq
        refine ⟨_, rfl, q, C_Plot, dx, _, _, rfl, eq1, D_Plot.cls, D_Plot.no _ (by decide), rfl, _, rfl, p, _, rfl, .inl (SqL.of ep), rfl, flat_strs, ?_⟩
        rw [inV_str]
        refine ⟨_, rfl, ?_⟩
        rw [drop_at hz] at db
        refine ite2 (fun c => ?_) (fun c => ?_)
        · have c : d.1 ∈ (nmsOf PL).take i := of_decide_eq_true c
          have e : dbl (nmsOf PL) = some d.1 := by
            rw [db]
            show (if d.1 ∈ (nmsOf PL).take i then some d.1 else _) = _
            rw [if_pos c]
          have nz := hnm d (List.mem_of_getElem? hd)
          refine ⟨_, rfl, q, C_Plot, dx, _, _, rfl, eq1, D_Plot.cls, D_Plot.no _ (by decide), rfl, (by show 1 ≤ 1000; decide), fun b nb => ⟨b, .str d.1, rfl, upd_same, (Str.odd (n := 8) nz.txt (by decide)).shows, made_of nb fun dd H' nd s' hdd => ?_⟩⟩
          exact kE d.1 e dd H' (s1.free nd) (s1.trans s') hdd
        · have c : ¬ d.1 ∈ (nmsOf PL).take i := fun q => c (decide_eq_true q)
          rw [dblA_step c] at db
          refine ⟨_, rfl, .inl ⟨rfl, _, SqL.of ep⟩, _, rfl, q, C_Plot, dx, _, _, rfl, eq1, D_Plot.cls, D_Plot.no _ (by decide), rfl, p, _, _, rfl, rfl, ep, small1000 (by rw [len_strs, List.length_take]; omega), ?_⟩
          exact ⟨_, rfl, by rw [upd_same, take_snoc hz, List.map_append]; rfl, fun b o e => by rw [upd_ne (ne_of_none e hp)]; exact s1 _ _ e, by rw [take_snoc hz]; exact db⟩
      rintro σ H1 ⟨w, rfl, ep, s1, db⟩
      rw [hlen, ← hln, List.take_length] at ep
      rw [hlen, ← hln, List.drop_length] at db
      refine ⟨_, rfl, p, _, rfl, .inl ⟨SqL.of ep, fun q hq => ?_⟩⟩
      exact kT db q _ (s1.free hq) (s1.trans (Same.new hq)) upd_same
    · refine .inr ⟨Same.seqT s0 ha, ?_⟩
      refine for_it walk_tup (fun i σ H1 => ∃ w : Option V, σ = [some (.ref a), some (.ref p), w] ∧ H1 p = some (.lst (((nmsOf PL).take i).map V.str)) ∧ Same H H1 ∧ dbl (nmsOf PL) = dblA ((nmsOf PL).take i) ((nmsOf PL).drop i)) ⟨_, rfl, upd_same, s0, rfl⟩ (fun i σ H1 _ ⟨_, _, _, s, _⟩ => Same.seqT s ha) ?_ ?_
      · rintro i x σ H1o H1 hi ⟨w, rfl, ep, s1, db⟩ ⟨rfl, hx⟩
        obtain ⟨d, q, dx, hd, rfl, eq⟩ := plots_at hrs hx
        have hz := nms_at hd
        have eq1 := s1 _ _ eq
        refine ⟨_, rfl, q, C_Plot, dx, _, _, rfl, eq1, D_Plot.cls, D_Plot.no _ (by decide), rfl, _, rfl, p, _, rfl, .inl (SqL.of ep), rfl, flat_strs, ?_⟩
        rw [inV_str]
        refine ⟨_, rfl, ?_⟩
        rw [drop_at hz] at db
        refine ite2 (fun c => ?_) (fun c => ?_)
        · have c : d.1 ∈ (nmsOf PL).take i := of_decide_eq_true c
          have e : dbl (nmsOf PL) = some d.1 := by
            rw [db]
            show (if d.1 ∈ (nmsOf PL).take i then some d.1 else _) = _
            rw [if_pos c]
          have nz := hnm d (List.mem_of_getElem? hd)
          refine ⟨_, rfl, q, C_Plot, dx, _, _, rfl, eq1, D_Plot.cls, D_Plot.no _ (by decide), rfl, (by show 1 ≤ 1000; decide), fun b nb => ⟨b, .str d.1, rfl, upd_same, (Str.odd (n := 8) nz.txt (by decide)).shows, made_of nb fun dd H' nd s' hdd => ?_⟩⟩
          exact kE d.1 e dd H' (s1.free nd) (s1.trans s') hdd
        · have c : ¬ d.1 ∈ (nmsOf PL).take i := fun q => c (decide_eq_true q)
          rw [dblA_step c] at db
          refine ⟨_, rfl, .inl ⟨rfl, _, SqL.of ep⟩, _, rfl, q, C_Plot, dx, _, _, rfl, eq1, D_Plot.cls, D_Plot.no _ (by decide), rfl, p, _, _, rfl, rfl, ep, small1000 (by rw [len_strs, List.length_take]; omega), ?_⟩
          exact ⟨_, rfl, by rw [upd_same, take_snoc hz, List.map_append]; rfl, fun b o e => by rw [upd_ne (ne_of_none e hp)]; exact s1 _ _ e, by rw [take_snoc hz]; exact db⟩
      rintro σ H1 ⟨w, rfl, ep, s1, db⟩
      rw [hlen, ← hln, List.take_length] at ep
      rw [hlen, ← hln, List.drop_length] at db
      refine ⟨_, rfl, p, _, rfl, .inl ⟨SqL.of ep, fun q hq => ?_⟩⟩
      exact kT db q _ (s1.free hq) (s1.trans (Same.new hq)) upd_same

theorem ok_check_known {f : Addr} {fd : FuncData} (F : Fun K "_check_known" "_check_known" s_check_known f fd) (T : Txt K mg) {C_Gates fgi fge : Addr} (D_Gates : DatC K mg "Gates" C_Gates fgi fge ["groups"]) {C_BadName f_BadName cda_BadName cc_BadName : Addr} {fd_BadName : FuncData} (E_BadName : ErrC P K mg "BadName" "BadName.__init__" C_BadName f_BadName cda_BadName cc_BadName) (G_BadName : FnOk P w K mg base CX0 2 f_BadName fd_BadName PBadName___init__ (spBadName C_BadName)) (b_BadName : Binds K fd_BadName PBadName___init__ []) : FnOk P w K mg base (L2.CX P w) 5 f fd P_check_known (sp_check_known C_Gates C_BadName) := by
  refine F.okX sc_check_known (fun vs H Q E h => ?_) (fun cdv A outer s H vs Q E hr h => ?_)
  · obtain ⟨p, a, R, zs, rfl, hp, ha, hng, kT, kE⟩ := h
    rfl
  · obtain ⟨p, a, R, zs, rfl, hp, ha, hng, kT, kE⟩ := h
    refine ⟨_, (pss_one (ps_for (passes_of rfl) rfl (pi_tup (pe_fld (pv 0) rfl)) (pg_name (i := 2) sc_check_known.nd rfl (by first | exact Or.inl rfl | exact Or.inr rfl))
  (pss_one (ps_for (passes_of rfl) rfl (pi_tup (pv 2)) (pg_name (i := 3) sc_check_known.nd rfl (by first | exact Or.inl rfl | exact Or.inr rfl))
  (pss_one (ps_if (pt_cmpR op_notIn_seq (pv 3) (pv 1) (by rfl))
  (pss_one (ps_raise rfl (takes_of rfl rfl rfl rfl) (pmk_oex E_BadName.sup.oex E_BadName.ini E_BadName.tyI G_BadName (hr.mono (by decide)) b_BadName .nil pass0 (by rfl) E_BadName.g (pa_cons (pv 3) pa_nil))))
  pss_nil)))))), ?_⟩
    obtain ⟨dx, q0, e0, q1, xs, eq, x1, r1⟩ := id hp
    cases eq
    have hl := r1.len
    refine ⟨_, rfl, p, C_Gates, dx, _, _, rfl, e0, D_Gates.cls, D_Gates.no _ (by decide), rfl, q0, rfl, ⟨_, SqT.of x1⟩, ?_⟩
    refine for_it walk_tup (fun i σ H1 => ∃ w1 w2 : Option V, σ = [some (.ref p), some (.ref a), w1, w2] ∧ Same H H1 ∧ (R.take i).findSome? (fun r => r.find? fun z => !decide (z ∈ zs)) = none) ⟨_, _, rfl, Same.refl _, rfl⟩ (fun i σ H1 _ ⟨_, _, _, s, _⟩ => SqT.of (s _ _ x1)) ?_ ?_
    · rintro i x σ H1o H1 hi ⟨w1, w2, rfl, s1, g1⟩ ⟨rfl, hx⟩
      obtain ⟨r, hR, pr, rfl, hpr⟩ := r1.at hx
      have hpr1 := s1 _ _ hpr
      refine ⟨_, rfl, pr, rfl, ⟨_, SqT.of hpr1⟩, ?_⟩
      refine for_it walk_tup (fun j σ H2 => ∃ w2 : Option V, σ = [some (.ref p), some (.ref a), some (.ref pr), w2] ∧ Same H1 H2 ∧ ∀ z, z ∈ r.take j → (!decide (z ∈ zs)) = false) ⟨_, rfl, Same.refl _, fun z hz => by cases hz⟩ (fun j σ H2 _ ⟨_, _, s, _⟩ => SqT.of (s _ _ hpr1)) ?_ ?_
      · rintro j y σ H2o H2 hj ⟨w2, rfl, s2, g2⟩ ⟨rfl, hy⟩
        obtain ⟨z, hz, rfl⟩ := strs_at hy
        have s12 := s1.trans s2
        refine ⟨_, rfl, _, rfl, a, _, rfl, .inr (SqT.of (s12 _ _ ha)), rfl, flat_strs, ?_⟩
        rw [inV_str]
        refine ⟨_, rfl, ?_⟩
        refine ite2 (fun c => ?_) (fun c => ?_)
        · have c : (!decide (z ∈ zs)) = true := c
          have e : unk R zs = some z := findSome_at hR g1 (find_atS hz g2 c)
          have nz := (hng r (List.mem_of_getElem? hR)).2 z (List.mem_of_getElem? hz)
          refine ⟨_, rfl, (by show 1 ≤ 1000; decide), fun b nb => ⟨b, .str z, rfl, upd_same, (Str.odd (n := 8) nz.txt (by decide)).shows, made_of nb fun dd H' nd s' hdd => ?_⟩⟩
          exact kE z e dd H' (s12.free nd) (s12.trans s') hdd
        · have c : (!decide (z ∈ zs)) = false := Bool.eq_false_iff.mpr c
          refine ⟨_, rfl, s2, fun y hy => ?_⟩
          rw [take_snoc hz] at hy
          rcases List.mem_append.mp hy with q | q
          · exact g2 y q
          · rw [List.mem_singleton.mp q]
            exact c
      rintro σ H2 ⟨w2, rfl, s2, g2⟩
      rw [len_strs, List.take_length] at g2
      exact ⟨_, _, rfl, s1.trans s2, findSome_snoc hR g1 (List.find?_eq_none.mpr fun z hz => by rw [g2 z hz]; exact Bool.false_ne_true)⟩
    rintro σ H1 ⟨w1, w2, rfl, s1, g1⟩
    rw [hl, List.take_length] at g1
    exact kT g1 H1 s1

theorem ok_turn_at {f : Addr} {fd : FuncData} (F : Fun K "_turn_at" "_turn_at" s_turn_at f fd) (T : Txt K mg) : FnOk P w K mg base CX0 1 f fd P_turn_at (sp_turn_at K) := by
  refine F.ok sc_turn_at (fun vs H Q E h => ?_) (fun cdv A outer s H vs Q E hr h => ?_)
  · obtain ⟨a, zs, n, rfl, ha, hl, k⟩ := h
    rfl
  · obtain ⟨a, zs, n, rfl, ha, hl, k⟩ := h
    refine ⟨_, (pss_one (ps_ret (pe_callTy (T := "tuple") call_tuple_of (by rfl) T.b_tuple (by decide +kernel) (pa_cons (pe_lc (g := gTup K 2 (gCons (gName 2) (gCons (gName 3) gNil))) (own := [("place", 2), ("name", 3)]) rfl sc_turn_at.nd (pi_enumT (by rfl) T.b_enumerate (pa_cons (pv 0) pa_nil)) (blkOk_by (own := [("place", 2), ("name", 3)]) (N := N_turn_at) (sc := defScope s_turn_at) (by decide +kernel)) (fun _ _ _ _ _ => (pg_tup rfl (pgs_cons (pg_name (i := 2) sc_turn_at.nd rfl (by first | exact Or.inl rfl | exact Or.inr rfl)) (pgs_cons (pg_name (i := 3) sc_turn_at.nd rfl (by first | exact Or.inl rfl | exact Or.inr rfl)) pgs_nil)))) (fun _ _ _ _ _ => (pts_one (pt_int (pe_op op_and (pe_op op_shr (pv 1) (pv 2)) pe_int) (by intro _; rfl)))) (fun _ _ _ _ _ => (pv 3))) pa_nil)))), ?_⟩
    refine ⟨_, rfl, a, _, rfl, SqT.of ha, fun D hD => ?_⟩
    refine lc_it walk_enumT (fun i H1 => H1 D = some (.lst ((tUp zs n i).map V.str)) ∧ Same H H1) ⟨upd_same, Same.new hD⟩ (fun i H1 _ q => SqT.of (q.2 _ _ ha)) ?_ ?_
    · rintro i x H1o H1 hi ⟨g1, s1⟩ ⟨T, x, y, rfl, hT, rfl, hx1, hy⟩
      obtain rfl : x = V.int (i : Nat) := (Option.some.inj hx1).symm
      obtain ⟨z, hz, rfl⟩ := strs_at hy
      have hi4 := (List.getElem?_eq_some_iff.mp hz).1
      have s2 : Same H (upd H1o T (.tup [V.int (i : Nat), V.str z])) := s1.trans (Same.new hT)
      have g2 := Same.new (o := .tup [V.int (i : Nat), V.str z]) hT _ _ g1
      refine ⟨T, _, rfl, SqT.of upd_same, rfl, _, _, rfl, _, _, rfl, rfl, rfl, ?_⟩
      generalize upd H1o T (.tup [V.int (i : Nat), V.str z]) = H2 at s2 g2
      have tl := tUp_len zs n i
      refine ⟨_, rfl, _, rfl, _, _, rfl, rfl, by show (0 : Int) ≤ (i : Nat); omega, _, _, rfl, rfl, _, rfl, ?_⟩
      rw [tUp_snoc hz]
      refine ite2 (fun c => ?_) (fun c => ?_)
      · have c : (Builtin.bitAnd (n / 2 ^ i) 1 != 0) = true := c
        rw [if_pos c]
        exact ⟨_, rfl, _, g2, small1000 (by rw [len_strs]; omega), by rw [upd_same, List.map_append]; rfl, fun b o e => by rw [upd_ne (ne_of_none e hD)]; exact s2 _ _ e⟩
      · have c : ¬ (Builtin.bitAnd (n / 2 ^ i) 1 != 0) = true := c
        rw [if_neg c, List.append_nil]
        exact ⟨g2, s2⟩
    rintro H1 ⟨g1, s1⟩
    rw [len_strs] at g1
    refine ⟨D, _, rfl, .inl ⟨SqL.of g1, fun q hq => ?_⟩⟩
    exact k q _ (s1.free hq) (s1.trans (Same.new hq)) upd_same

theorem ok_allowed_turns {f : Addr} {fd : FuncData} (F : Fun K "_allowed_turns" "_allowed_turns" s_allowed_turns f fd) (T : Txt K mg) {C_Gates fgi fge : Addr} (D_Gates : DatC K mg "Gates" C_Gates fgi fge ["groups"]) {fgc : Addr} {fdgc : FuncData} (I_Gates : PySem.W.findIn K (.ref C_Gates) "__contains__" = some (some (.ref fgc)) ∧ PySem.W.isFn K (.ref fgc) = true) (GGates___contains__ : FnOk P w K mg base CX0 2 fgc fdgc PGates___contains__ (spGates_contains K C_Gates)) (bGates___contains__ : Binds K fdgc PGates___contains__ []) (C_turn_at : Cal P w K mg base "_turn_at" P_turn_at 1 (sp_turn_at K)) : FnOk P w K mg base CX0 4 f fd P_allowed_turns (sp_allowed_turns K C_Gates) := by
  obtain ⟨g_turn_at, gd_turn_at, G_turn_at, m_turn_at, k_turn_at, b_turn_at⟩ := C_turn_at.ex
  refine F.ok sc_allowed_turns (fun vs H Q E h => ?_) (fun cdv A outer s H vs Q E hr h => ?_)
  · obtain ⟨a, p, zs, R, rfl, ha, hl, hp, hsm, k⟩ := h
    rfl
  · obtain ⟨a, p, zs, R, rfl, ha, hl, hp, hsm, k⟩ := h
    refine ⟨_, (pss_cons (ps_setLc (i := 2) (own := [("number", 3)]) rfl sc_allowed_turns.nd rfl rfl (sw_true rfl rfl rfl (by decide +kernel)) (pi_range1 rfl T.b_range (pa_cons (pe_op op_shl pe_int (pe_callB call_len_seq (by rfl) T.b_len PySem.boot_len (pa_cons (pv 0) pa_nil))) pa_nil)) (blkOk_by (own := [("number", 3)]) (N := N_allowed_turns) (sc := defScope s_allowed_turns) (by decide +kernel)) (fun _ _ _ _ _ => (pg_name (i := 3) sc_allowed_turns.nd rfl (by first | exact Or.inl rfl | exact Or.inr rfl))) (fun _ _ _ _ _ => pts_nil) (fun _ _ _ _ _ => (pe_call G_turn_at (hr.mono (by decide)) (by rfl) m_turn_at k_turn_at b_turn_at .nil pass0 (pa_cons (pv 0) (pa_cons (pv 3) pa_nil)))))
  (pss_one (ps_ret (pe_callTy (T := "tuple") call_tuple_of (by rfl) T.b_tuple (by decide +kernel) (pa_cons (pe_lc (own := [("turn", 4)]) rfl sc_allowed_turns.nd (pi_list (pv 2)) (blkOk_by (own := [("turn", 4)]) (N := N_allowed_turns) (sc := defScope s_allowed_turns) (by decide +kernel)) (fun _ _ _ _ _ => (pg_name (i := 4) sc_allowed_turns.nd rfl (by first | exact Or.inl rfl | exact Or.inr rfl))) (fun _ _ _ _ _ => (pts_one (pt_cmpR (op_inO GGates___contains__ (hr.mono (by decide)) I_Gates.1 I_Gates.2 bGates___contains__ pass0) (pv 4) (pv 1) (by rfl)))) (fun _ _ _ _ _ => (pv 4))) pa_nil))))), ?_⟩
    have hp2 : (1 : Int) * 2 ^ (((zs.map V.str).length : Nat) : Int).toNat = ((2 ^ zs.length : Nat) : Int) := by
      rw [len_strs]
      simp
    have h16 : 2 ^ zs.length ≤ 16 := Nat.le_trans (Nat.pow_le_pow_right (by decide) hl) (by decide)
    refine ⟨_, rfl, a, _, rfl, .inr (SqT.of ha), _, _, rfl, rfl, ⟨by omega, by rw [len_strs]; omega, by decide⟩, ?_⟩
    have hall : (allTurns zs).length = 2 ^ zs.length := by unfold allTurns; rw [List.length_map, List.length_range]
    have hrange : ∀ i : Nat, i < 2 ^ zs.length → (List.range (2 ^ zs.length))[i]? = some i := fun i hi => List.getElem?_range hi
    have hatA : ∀ i : Nat, i < 2 ^ zs.length → (allTurns zs)[i]? = some (turnAt zs ((i : Nat) : Int)) := fun i hi => by
      unfold allTurns
      rw [List.getElem?_map, hrange i hi]
      rfl
    generalize 2 ^ zs.length = N at hp2 h16 hall hatA hrange
    refine ⟨((N : Nat) : Int), congrArg (fun x => [V.int x]) hp2, by omega, by omega, fun D hD => ?_⟩
    refine lc_it walk_range (fun i H1 => ∃ qs : List V, H1 D = some (.lst qs) ∧ qs.length = i ∧ Reps repG H1 qs ((allTurns zs).take i) ∧ Same H H1) ⟨[], upd_same, rfl, trivial, Same.new hD⟩ (fun _ _ _ _ => trivial) ?_ ?_
    · rintro i x H1o H1 hi ⟨qs, g1, ql, rq, s1⟩ ⟨rfl, rfl⟩
      have hi2 : i < N := by omega
      have hat := hatA i hi2
      refine ⟨rfl, ?_⟩
      refine ⟨_, rfl, _, rfl, a, zs, _, rfl, s1 _ _ ha, hl, fun q H2 nq s2 eq => ?_⟩
      rw [Int.zero_add] at eq
      have g2 := s2 _ _ g1
      refine ⟨qs, g2, small1000 (by omega), qs ++ [V.ref q], upd_same, by rw [List.length_append, ql]; rfl, ?_, fun b o e => by rw [upd_ne (ne_of_none e hD)]; exact s2 _ _ (s1 _ _ e)⟩
      rw [take_snoc hat]
      have kp : ∀ x g, repG x H2 g → repG x (upd H2 D (.lst (qs ++ [V.ref q]))) g := fun x g h => by
        obtain ⟨p, rfl, h⟩ := h
        exact ⟨p, rfl, by rw [upd_ne (fun e => by rw [e, g2] at h; cases h)]; exact h⟩
      exact Reps.app ((rq.mono repG_mono s2).imp kp) (Reps.one (kp _ _ ⟨q, rfl, eq⟩))
    rintro H1 ⟨qs, g1, ql, rq, s1⟩
    rw [take_full (by rw [hall]; omega)] at rq
    have hql := rq.len
    obtain ⟨dx, q0, e0, q1, xs, eq, x1, r1⟩ := id hp
    have tl : ∀ t, t ∈ allTurns zs → t.length ≤ 4 := fun t ht => by
      obtain ⟨k, _, rfl⟩ := List.mem_map.mp ht
      exact Nat.le_trans (tUp_len _ _ _) hl
    refine ⟨_, rfl, D, rfl, ⟨_, SqL.of g1⟩, fun D2 hD2 => ?_⟩
    refine lc_it walk_list (fun j H2 => ∃ ws : List V, H2 D2 = some (.lst ws) ∧ Reps repG H1 ws (((allTurns zs).take j).filter fun t => inG R t) ∧ Same H1 H2) ⟨[], upd_same, trivial, Same.new hD2⟩ (fun j H2 _ ⟨_, _, _, s⟩ => SqL.of (s _ _ g1)) ?_ ?_
    · rintro j y H2o H2 hj ⟨ws, g2, rw2, s2⟩ ⟨rfl, hy⟩
      obtain ⟨t, ht, pt, rfl, hpt⟩ := rq.at hy
      have mt := tl t (List.mem_of_getElem? ht)
      have s12 := s1.trans s2
      refine ⟨rfl, ?_⟩
      refine ⟨_, rfl, _, rfl, p, dx, _, rfl, s12 _ _ e0, p, pt, R, t, rfl, hp.same s12, repG.tx (s2 _ _ hpt), hsm, by omega, fun H3 s3 => ⟨_, rfl, _, rfl, ?_⟩⟩
      refine ite2 (fun c => ?_) (fun c => ?_)
      · exact ⟨_, rfl, flt_yes hD2 (s3 _ _ g2) rw2 (s2.trans s3) ht ⟨pt, rfl, hpt⟩ (by omega) c⟩
      · exact flt_no (s3 _ _ g2) rw2 (s2.trans s3) ht (Bool.eq_false_iff.mpr c)
    rintro H2 ⟨ws, g2, rw2, s2⟩
    rw [hql, List.take_length] at rw2
    refine ⟨D2, _, rfl, .inl ⟨SqL.of g2, fun q hq => ?_⟩⟩
    exact k q _ ((s1.trans s2).trans (Same.new hq)) ⟨q, ws, rfl, upd_same, rw2.mono repG_mono (s2.trans (Same.new hq))⟩
end
end Wb

namespace Wb
open PySem PySem.Spec PyProof.Rows L2 Wx StX NdefX RZ StX PyProof.Rows.FinIter
section
variable {P : Program} {w : World} {K : PySem.W.Frag} {mg : Str → Option Value} {base : Heap}

theorem okGround___init__ {f : Addr} {fd : FuncData} (F : Fun K "__init__" "Ground.__init__" sGround___init__ f fd) (T : Txt K mg) {C_Ground fri fre : Addr} (D_Ground : DatC K mg "Ground" C_Ground fri fre ["_tank", "plots", "names", "gates", "_turns"]) {C_Plot C_Gates C_BadName C_BadNumber : Addr} (C_allowed_turns : Cal P w K mg base "_allowed_turns" P_allowed_turns 4 (sp_allowed_turns K C_Gates)) (C_xcheck_number : ∃ (g : Addr) (gd : FuncData), FnOk P w K mg base (L2.CX P w) 4 g gd Pcheck_number (spcheck_number C_BadNumber) ∧ mg "check_number" = some (.ref g) ∧ PySem.W.keepIn K (.ref g) = true ∧ Binds K gd Pcheck_number []) (C_x_different_names : ∃ (g : Addr) (gd : FuncData), FnOk P w K mg base (L2.CX P w) 5 g gd P_different_names (sp_different_names K C_Plot C_BadName) ∧ mg "_different_names" = some (.ref g) ∧ PySem.W.keepIn K (.ref g) = true ∧ Binds K gd P_different_names []) (C_x_check_known : ∃ (g : Addr) (gd : FuncData), FnOk P w K mg base (L2.CX P w) 5 g gd P_check_known (sp_check_known C_Gates C_BadName) ∧ mg "_check_known" = some (.ref g) ∧ PySem.W.keepIn K (.ref g) = true ∧ Binds K gd P_check_known []) : FnOk P w K mg base (L2.CX P w) 7 f fd PGround___init__ (spGround_init K C_Ground C_Plot C_Gates C_BadName C_BadNumber) := by
  obtain ⟨g_allowed_turns, gd_allowed_turns, G_allowed_turns, m_allowed_turns, k_allowed_turns, b_allowed_turns⟩ := C_allowed_turns.ex
  obtain ⟨_, c_MOST_PLOTS⟩ := T.c_MOST_PLOTS
  obtain ⟨_, c_MOST_UNITS⟩ := T.c_MOST_UNITS
  obtain ⟨gcheck_number, gdcheck_number, Gcheck_number, mcheck_number, kcheck_number, bcheck_number⟩ := C_xcheck_number
  obtain ⟨g_different_names, gd_different_names, G_different_names, m_different_names, k_different_names, b_different_names⟩ := C_x_different_names
  obtain ⟨g_check_known, gd_check_known, G_check_known, m_check_known, k_check_known, b_check_known⟩ := C_x_check_known
  refine F.okX scGround___init__ (fun vs H Q E h => ?_) (fun cdv A outer s H vs Q E hr h => ?_)
  · obtain ⟨p, dx, a, gt, xs, PL, R, t, rfl, hp, ha0, hrs, hl, hnm, hg, hng, hsm, ht, kOk, kN, kM⟩ := h
    rfl
  · obtain ⟨p, dx, a, gt, xs, PL, R, t, rfl, hp, ha0, hrs, hl, hnm, hg, hng, hsm, ht, kOk, kN, kM⟩ := h
    refine ⟨_, (pss_cons (ps_expr (pe_callS Gcheck_number (hr.mono (by decide)) (by rfl) mcheck_number kcheck_number bcheck_number (fun σ => passAt (takes_of rfl rfl rfl rfl) σ) (pa_cons pe_str (pa_cons (pe_callB call_len_seq (by rfl) T.b_len PySem.boot_len (pa_cons (pv 1) pa_nil)) (pa_cons pe_int (pa_cons (pe_glob (v := .int 4) rfl c_MOST_PLOTS ⟨_, rfl⟩) pa_nil))))))
  (pss_cons (ps_set (i := 4) scGround___init__.nd rfl (by first | exact Or.inl rfl | exact Or.inr rfl) (pe_callS G_different_names (hr.mono (by decide)) (by rfl) m_different_names k_different_names b_different_names (fun σ => passAt (takes_of rfl rfl rfl rfl) σ) (pa_cons (pv 1) pa_nil)))
  (pss_cons (ps_expr (pe_callS G_check_known (hr.mono (by decide)) (by rfl) m_check_known k_check_known b_check_known (fun σ => passAt (takes_of rfl rfl rfl rfl) σ) (pa_cons (pv 2) (pa_cons (pv 4) pa_nil))))
  (pss_cons (ps_fld (pv 0) (pe_callS Gcheck_number (hr.mono (by decide)) (by rfl) mcheck_number kcheck_number bcheck_number (fun σ => passAt (takes_of rfl rfl rfl rfl) σ) (pa_cons pe_str (pa_cons (pv 3) (pa_cons pe_int (pa_cons (pe_glob (v := .int 8) rfl c_MOST_UNITS ⟨_, rfl⟩) pa_nil))))) rfl)
  (pss_cons (ps_fld (pv 0) (pe_callTy (T := "tuple") call_tuple_of (by rfl) T.b_tuple (by decide +kernel) (pa_cons (pv 1) pa_nil)) rfl)
  (pss_cons (ps_fld (pv 0) (pv 4) rfl)
  (pss_cons (ps_fld (pv 0) (pv 2) rfl)
  (pss_one (ps_fld (pv 0) (pe_call G_allowed_turns (hr.mono (by decide)) (by rfl) m_allowed_turns k_allowed_turns b_allowed_turns .nil pass0 (pa_cons (pv 4) (pa_cons (pv 2) pa_nil))) rfl))))))))), ?_⟩
    have hlen := hrs.len
    have ha := ha0
    have frs : ∀ {H1 : Hp}, Same H H1 → Fr2 p dx H H1 := fun s1 b o _ _ e => s1 b o e
    have hnum : numB (.int (xs.length : Nat)) 1 4 = decide (1 ≤ PL.length ∧ PL.length ≤ 4) := by
      show decide ((1 : Int) ≤ (xs.length : Nat) ∧ ((xs.length : Nat) : Int) ≤ 4) = _
      rw [hlen, Bool.eq_iff_iff, decide_eq_true_eq, decide_eq_true_eq]
      omega
    have nw := ne_word
    refine ⟨_, rfl, a, _, rfl, .inl (SqL.of ha), "plots", .int (xs.length : Nat), 1, 4, rfl, (by decide +kernel), .int _, fun t0 => ?_, fun t0 d H1 nd s1 hd => ?_⟩
    case refine_2 =>
      rw [hnum] at t0
      exact kM "plots" _ (gR_plots (of_decide_eq_false t0)) nw.1 d H1 nd (frs s1) (by rw [← hlen]; exact hd)
    rw [hnum] at t0
    have t0 := of_decide_eq_true t0
    refine ⟨_, rfl, a, xs, PL, rfl, .inl (SqL.of ha), hrs, hl, hnm, fun d0 q2 H1 nq2 s1 eq2 => ?_, fun z d0 d H1 nd s1 hd => kN _ (gR_dbl t0 d0) d H1 nd (frs s1) hd⟩
    refine ⟨_, rfl, _, rfl, gt, q2, R, _, rfl, hg.same s1, eq2, hng, fun u0 H2 s2 => ?_, fun z u0 d H2 nd s2 hd => kN _ (gR_unk t0 d0 u0) d H2 (s1.free nd) (frs (s1.trans s2)) hd⟩
    have s12 := s1.trans s2
    refine ⟨_, rfl, "tank", t, 0, 8, rfl, (by decide +kernel), ht, fun t3 => ?_, fun t3 d H3 nd s3 hd => kM "tank" _ (gR_tank t0 d0 u0 t3) nw.2 d H3 (s12.free nd) (frs (s12.trans s3)) hd⟩
    obtain ⟨i, rfl⟩ : ∃ i, t = .int i := by
      cases ht with
      | int i => exact ⟨i, rfl⟩
      | non => cases t3
      | bl b => cases t3
      | str z _ _ => cases t3
    have p2 := s12 _ _ hp
    refine ⟨_, rfl, p, C_Ground, dx, [], rfl, p2, D_Ground.cls, D_Ground.no "_tank" (by decide), (by decide), ?_⟩
    -- what is not the new instance stays
    have np : ∀ {b : Addr} {o : HO}, H b = some o → (∀ C dx, o ≠ .ins C dx []) → b ≠ p := fun {b o} e n z => by
      rw [z, hp] at e
      cases e
      exact n _ _ rfl
    have nq2' : q2 ≠ p := fun z => by
      have e := s2 _ _ eq2
      rw [z, p2] at e
      cases e
    -- plots
    refine ⟨_, rfl, a, _, rfl, .inl ⟨SqL.of (by rw [upd_ne (np ha (fun _ _ z => by cases z))]; exact s12 _ _ ha), fun q1 hq1 => ?_⟩⟩
    have nq1 : q1 ≠ p := fun z => by rw [z, upd_same] at hq1; cases hq1
    have kA : ∀ {b : Addr} {o : HO}, b ≠ p → H2 b = some o → (upd (upd H2 p (.ins C_Ground dx [("_tank", .int i)])) q1 (.tup xs)) b = some o := fun {b o} nb e => by
      have e2 : (upd H2 p (.ins C_Ground dx [("_tank", .int i)])) b = some o := by rw [upd_ne nb]; exact e
      rw [upd_ne (ne_of_none e2 hq1)]
      exact e2
    have pA : (upd (upd H2 p (.ins C_Ground dx [("_tank", .int i)])) q1 (.tup xs)) p = some (.ins C_Ground dx [("_tank", .int i)]) := by
      rw [upd_ne (fun z => nq1 z.symm)]
      exact upd_same
    have qA : (upd (upd H2 p (.ins C_Ground dx [("_tank", .int i)])) q1 (.tup xs)) q1 = some (.tup xs) := upd_same
    show _
    refine ⟨_, rfl, p, C_Ground, dx, _, rfl, pA, D_Ground.cls, D_Ground.no "plots" (by decide), (by show 1 < 1000; decide), ?_⟩
    refine ⟨_, rfl, _, rfl, p, C_Ground, dx, _, rfl, upd_same, D_Ground.cls, D_Ground.no "names" (by decide), (by show 2 < 1000; decide), ?_⟩
    rw [upd_upd]
    refine ⟨_, rfl, _, rfl, p, C_Ground, dx, _, rfl, upd_same, D_Ground.cls, D_Ground.no "gates" (by decide), (by show 3 < 1000; decide), ?_⟩
    rw [upd_upd]
    have p5 : (upd (upd (upd H2 p (.ins C_Ground dx [("_tank", .int i)])) q1 (.tup xs)) p (.ins C_Ground dx [("_tank", .int i), ("plots", .ref q1), ("names", .ref q2), ("gates", .ref gt)])) p = some (.ins C_Ground dx [("_tank", .int i), ("plots", .ref q1), ("names", .ref q2), ("gates", .ref gt)]) := upd_same
    have k5 : ∀ {b : Addr} {o : HO}, b ≠ p → H2 b = some o → (upd (upd (upd H2 p (.ins C_Ground dx [("_tank", .int i)])) q1 (.tup xs)) p (.ins C_Ground dx [("_tank", .int i), ("plots", .ref q1), ("names", .ref q2), ("gates", .ref gt)])) b = some o := fun {b o} nb e => by rw [upd_ne nb]; exact kA nb e
    have q5 : (upd (upd (upd H2 p (.ins C_Ground dx [("_tank", .int i)])) q1 (.tup xs)) p (.ins C_Ground dx [("_tank", .int i), ("plots", .ref q1), ("names", .ref q2), ("gates", .ref gt)])) q1 = some (.tup xs) := by rw [upd_ne nq1]; exact qA
    have hg5 : GatesAt C_Gates (upd (upd (upd H2 p (.ins C_Ground dx [("_tank", .int i)])) q1 (.tup xs)) p (.ins C_Ground dx [("_tank", .int i), ("plots", .ref q1), ("names", .ref q2), ("gates", .ref gt)])) gt R := by
      obtain ⟨dg, qg, eg, rg⟩ := hg
      exact ⟨dg, qg, k5 (np eg (fun _ _ z => by cases z)) (s12 _ _ eg), repTG_tup (fun b xs e => k5 (np e (fun _ _ z => by cases z)) (s12 _ _ e)) rg⟩
    have eq5 : (upd (upd (upd H2 p (.ins C_Ground dx [("_tank", .int i)])) q1 (.tup xs)) p (.ins C_Ground dx [("_tank", .int i), ("plots", .ref q1), ("names", .ref q2), ("gates", .ref gt)])) q2 = some (.tup ((nmsOf PL).map V.str)) := k5 nq2' (s2 _ _ eq2)
    have l4 : (nmsOf PL).length ≤ 4 := by unfold nmsOf; rw [List.length_map]; exact t0.2
    refine ⟨_, rfl, _, rfl, q2, gt, _, R, rfl, eq5, l4, hg5, hsm, fun q3 H6 s6 hq3 => ?_⟩
    have p6 := s6 _ _ p5
    refine ⟨_, rfl, p, C_Ground, dx, _, rfl, p6, D_Ground.cls, D_Ground.no "_turns" (by decide), (by show 4 < 1000; decide), ?_⟩
    have k7 : ∀ {b : Addr} {o o2 : HO}, b ≠ p → H6 b = some o → (upd H6 p o2) b = some o := fun {b o o2} nb e => by rw [upd_ne nb]; exact e
    have nt6 : ∀ {b : Addr} {ys : List V}, H6 b = some (.tup ys) → b ≠ p := fun {b ys} e z => by rw [z, p6] at e; cases e
    refine kOk i rfl (gR_ok t0 d0 u0 t3) _ (fun b o nb _ e => k7 nb (s6 _ _ (k5 nb (s12 _ _ e)))) ⟨dx, q1, q2, gt, q3, upd_same, ⟨q1, xs, rfl, k7 nq1 (s6 _ _ q5), ?_⟩, k7 nq2' (s6 _ _ eq5), ?_, ?_⟩
    · exact hrs.imp fun x d h => by
        obtain ⟨b, rfl, dy, e⟩ := h
        have nb := np e (fun _ _ z => by cases z)
        exact ⟨b, rfl, dy, k7 nb (s6 _ _ (k5 nb (s12 _ _ e)))⟩
    · obtain ⟨dg, qg, eg, rg⟩ := hg
      have nb := np eg (fun _ _ z => by cases z)
      exact ⟨dg, qg, k7 nb (s6 _ _ (k5 nb (s12 _ _ eg))), repTG_tup (fun b xs e => by
        have nb := np e (fun _ _ z => by cases z)
        exact k7 nb (s6 _ _ (k5 nb (s12 _ _ e)))) rg⟩
    · exact repTG_tup (fun b xs e => k7 (nt6 e) e) hq3

theorem okGround___eq__ {f : Addr} {fd : FuncData} (F : Fun K "__eq__" "Ground.__eq__" sGround___eq__ f fd) (T : Txt K mg) {C_Ground fri fre : Addr} (D_Ground : DatC K mg "Ground" C_Ground fri fre ["_tank", "plots", "names", "gates", "_turns"]) {C_Gates fgi fge : Addr} (D_Gates : DatC K mg "Gates" C_Gates fgi fge ["groups"]) {fdge : FuncData} (GGates___eq__ : FnOk P w K mg base CX0 1 fge fdge PGates___eq__ (spGates_eq C_Gates)) (bGates___eq__ : Binds K fdge PGates___eq__ []) {C_Plot fpi fpe : Addr} (D_Plot : DatC K mg "Plot" C_Plot fpi fpe ["name", "hold", "drink"]) {fdpe : FuncData} (GPlot___eq__ : FnOk P w K mg base CX0 1 fpe fdpe PPlot___eq__ (spPlot_eq C_Plot)) (bPlot___eq__ : Binds K fdpe PPlot___eq__ []) : FnOk P w K mg base CX0 3 f fd PGround___eq__ (spGround_eq C_Ground C_Plot C_Gates) := by
  refine F.ok scGround___eq__ (fun vs H Q E h => ?_) (fun cdv A outer s H vs Q E hr h => ?_)
  · obtain ⟨p, q, PL1, PL2, R1, R2, t1, t2, rfl, hp, hq, hn1, hn2, k⟩ := h
    rfl
  · obtain ⟨p, q, PL1, PL2, R1, R2, t1, t2, rfl, hp, hq, hn1, hn2, k⟩ := h
    refine ⟨_, (pss_one (ps_ret (pe_and (pe_callB (id := "isinstance") call_isi (by rfl) T.b_isinstance (by decide +kernel) (pa_cons (pv 1) (pa_cons (pe_glob (v := .ref C_Ground) rfl D_Ground.g rfl) pa_nil))) (pe_and (pe_cmpR (op_eqR (rc_T (.inl ⟨rfl, rfl⟩) repPlot_mono (eqR_Plot GPlot___eq__ D_Plot.eq D_Plot.fe bPlot___eq__)) (hr.mono (by decide))) (pe_fld (pv 0) rfl) (pe_fld (pv 1) rfl) (nomark _)) (pe_and (pe_cmpR (op_eqI GGates___eq__ (hr.mono (by decide)) D_Gates.eq D_Gates.fe bGates___eq__ pass0) (pe_fld (pv 0) rfl) (pe_fld (pv 1) rfl) (nomark _)) (pe_one (pe_cmpR op_eq (pe_fld (pv 0) rfl) (pe_fld (pv 1) rfl) (nomark _)))))))), ?_⟩
    obtain ⟨dx, a1, a2, ag, a3, e1, h1, n1, g1, t1'⟩ := id hp
    obtain ⟨dy, b1, b2, bg, b3, e2, h2, n2, g2, t2'⟩ := id hq
    refine ⟨_, rfl, _, _, _, _, true, rfl, .own _, .base (.ins e2 D_Ground.cls D_Ground.ha D_Ground.hn D_Ground.htk D_Ground.hm), D_Ground.kit, true, rfl, iteT ?_⟩
    refine ⟨_, rfl, p, C_Ground, dx, _, _, rfl, e1, D_Ground.cls, D_Ground.no _ (by decide), rfl, _, rfl, q, C_Ground, dy, _, _, rfl, e2, D_Ground.cls, D_Ground.no _ (by decide), rfl, PL1, PL2, h1, h2, fun H1 s1 => ?_⟩
    refine ⟨_, rfl, ?_⟩
    have e1 := s1 _ _ e1
    have e2 := s1 _ _ e2
    refine ite2 (fun c1 => ?_) (fun c1 => ?_)
    · have c1 : PL1 = PL2 := of_decide_eq_true c1
      have g1 := g1.same s1
      have g2 := g2.same s1
      obtain ⟨dg, qg, eg, _⟩ := id g1
      obtain ⟨dh, qh, eh, _⟩ := id g2
      refine ⟨_, rfl, p, C_Ground, dx, _, _, rfl, e1, D_Ground.cls, D_Ground.no _ (by decide), rfl, _, rfl, q, C_Ground, dy, _, _, rfl, e2, D_Ground.cls, D_Ground.no _ (by decide), rfl, ag, dg, _, bg, dh, _, rfl, rfl, eg, eh, ag, bg, R1, R2, rfl, g1, g2, hn1, hn2, _, rfl, _, rfl, ?_⟩
      refine ite2 (fun c2 => ?_) (fun c2 => ?_)
      · have c2 : R1 = R2 := of_decide_eq_true c2
        refine ⟨_, rfl, p, C_Ground, dx, _, _, rfl, e1, D_Ground.cls, D_Ground.no _ (by decide), rfl, _, rfl, q, C_Ground, dy, _, _, rfl, e2, D_Ground.cls, D_Ground.no _ (by decide), rfl, rfl, ?_⟩
        have e : decide (V.int t1 = V.int t2) = decide (PL1 = PL2 ∧ R1 = R2 ∧ t1 = t2) := by simp [c1, c2]
        show Q (.bl (decide (V.int t1 = V.int t2))) _
        rw [e]
        exact k _ s1
      · have c2 : ¬ R1 = R2 := fun q => c2 (decide_eq_true q)
        rw [decide_eq_false (fun q => c2 q.2.1)] at k
        exact k _ s1
    · have c1 : ¬ PL1 = PL2 := fun q => c1 (decide_eq_true q)
      rw [decide_eq_false (fun q => c1 q.1)] at k
      exact k _ s1

theorem okGround_capacity {f : Addr} {fd : FuncData} (F : Fun K "capacity" "Ground.capacity" sGround_capacity f fd) (T : Txt K mg) {C_Ground fri fre : Addr} (D_Ground : DatC K mg "Ground" C_Ground fri fre ["_tank", "plots", "names", "gates", "_turns"]) {C_Plot C_Gates : Addr} : FnOk P w K mg base CX0 1 f fd PGround_capacity (spGround_capacity C_Ground C_Plot C_Gates) := by
  refine F.ok scGround_capacity (fun vs H Q E h => ?_) (fun cdv A outer s H vs Q E hr h => ?_)
  · obtain ⟨p, PL, R, t, rfl, hp, k⟩ := h
    rfl
  · obtain ⟨p, PL, R, t, rfl, hp, k⟩ := h
    refine ⟨_, (pss_one (ps_ret (pe_fld (pv 0) rfl))), ?_⟩
    obtain ⟨dx, a1, a2, ag, a3, e1, h1, n1, g1, t1'⟩ := hp
    exact ⟨_, rfl, p, C_Ground, dx, _, _, rfl, e1, D_Ground.cls, D_Ground.no _ (by decide), rfl, k⟩
end
end Wb

namespace Wb
open PySem PySem.Spec PyProof.Rows L2 Wx StX NdefX RZ StX PyProof.Rows.FinIter
section
variable {P : Program} {w : World} {K : PySem.W.Frag} {mg : Str → Option Value} {base : Heap}
theorem Fr2.free {p dx : Addr} {H : Hp} {o1 o2 : HO} {d : Addr} (e : upd (upd H dx o1) p o2 d = none) : H d = none := by
  have b1 : d ≠ p := fun q => by rw [q, upd_same] at e; cases e
  rw [upd_ne b1] at e
  have b2 : d ≠ dx := fun q => by rw [q, upd_same] at e; cases e
  rw [upd_ne b2] at e
  exact e
theorem two_le : (2 : Nat) ≤ sizeLine := by rw [sizeLine_eq]; show 2 ≤ 16777216; decide

def sp_law_refusal (K : PySem.W.Frag) (CP CG : Addr) : Sp := fun vs H Q _ => ∃ (a gt : Addr) (xs : List V) (PL : List PlotD) (R : List (List Str)) (t : V), vs = [.ref a, .ref gt, t] ∧ H a = some (.lst xs) ∧ Reps (repPlot CP) H xs PL ∧ PL.length ≤ 100 ∧ (∀ d, d ∈ PL → NmOk 8 d.1) ∧
  GatesAt CG H gt R ∧ NG R ∧ Sm 60 R ∧ OddV t ∧ ∀ (tag : Str) (v : V), (gRef PL R t).getD (("none" : Str), .int 0) = (tag, v) → ∀ (q : Addr) (H' : Hp), H q = none → H' q = some (.tup [.str tag, v]) → Same H H' → Q (.ref q) H'

theorem ok_law_refusal {f : Addr} {fd : FuncData} (F : Fun K "_law_refusal" "_law_refusal" s_law_refusal f fd) (T : Txt K mg) {C_BadName f_BadName cda_BadName cc_BadName : Addr} {fd_BadName : FuncData} (E_BadName : ErrC P K mg "BadName" "BadName.__init__" C_BadName f_BadName cda_BadName cc_BadName) (G_BadName : FnOk P w K mg base CX0 2 f_BadName fd_BadName PBadName___init__ (spBadName C_BadName)) (b_BadName : Binds K fd_BadName PBadName___init__ []) {C_BadNumber f_BadNumber cda_BadNumber cc_BadNumber : Addr} {fd_BadNumber : FuncData} (E_BadNumber : ErrC P K mg "BadNumber" "BadNumber.__init__" C_BadNumber f_BadNumber cda_BadNumber cc_BadNumber) (G_BadNumber : FnOk P w K mg base CX0 2 f_BadNumber fd_BadNumber PBadNumber___init__ (spBadNumber C_BadNumber)) (b_BadNumber : Binds K fd_BadNumber PBadNumber___init__ []) {C_Ground fri fre C_Plot C_Gates : Addr} {fdri : FuncData} (D_Ground : DatC K mg "Ground" C_Ground fri fre ["_tank", "plots", "names", "gates", "_turns"]) (GGround___init__ : FnOk P w K mg base (L2.CX P w) 7 fri fdri PGround___init__ (spGround_init K C_Ground C_Plot C_Gates C_BadName C_BadNumber)) (bGround___init__ : Binds K fdri PGround___init__ []) (kMN : PySem.W.exmOne K (.ref C_BadNumber) (.ref C_BadName) = some false) : FnOk P w K mg base CX0 9 f fd P_law_refusal (sp_law_refusal K C_Plot C_Gates) := by
  refine F.ok sc_law_refusal (fun vs H Q E h => ?_) (fun cdv A outer s H vs Q E hr h => ?_)
  · obtain ⟨a, gt, xs, PL, R, t, rfl, ha, hrs, hl, hnm, hg, hng, hsm, ht, k⟩ := h
    rfl
  · obtain ⟨a, gt, xs, PL, R, t, rfl, ha, hrs, hl, hnm, hg, hng, hsm, ht, k⟩ := h
    refine ⟨_, (pss_cons (ps_try_ass (i := 3) rfl rfl rfl sc_law_refusal.nd rfl rfl takes0 (fun W pn xe tk _ => (pss_one (ps_expr (pe_makeS D_Ground.mkk GGround___init__ (hr.mono (by decide)) (by rfl) D_Ground.g bGround___init__ (fun σ => passAt tk σ) (pa_cons (pv 0) (pa_cons (pv 1) (pa_cons (pv 2) pa_nil))))))) (by exact (.cons ⟨rfl, by decide, Or.inl E_BadName.g⟩ (fun a oe cls d pn hz hf => (pss_one (ps_ret (pe_tup (pa_cons pe_str (pa_cons (pe_xf E_BadName.xf E_BadName.noName hz hf (pv 3)) pa_nil)))))) (.cons ⟨rfl, by decide, Or.inl E_BadNumber.g⟩ (fun a oe cls d pn hz hf => (pss_one (ps_ret (pe_tup (pa_cons (pe_xf E_BadNumber.xf E_BadNumber.noWhat hz hf (pv 3)) (pa_cons (pe_xf E_BadNumber.xf E_BadNumber.noValue hz hf (pv 3)) pa_nil)))))) .nil))))
  (pss_one (ps_ret (pe_tup (pa_cons pe_str (pa_cons pe_int pa_nil)))))), ?_⟩
    refine ⟨_, rfl, _, rfl, _, rfl, fun p dx np nd ne => ?_⟩
    have sm : ∀ {o1 o2 : HO}, Same H (upd (upd H dx o1) p o2) := fun {o1 o2} b o e => by rw [upd_ne (ne_of_none e np), upd_ne (ne_of_none e nd)]; exact e
    refine ⟨p, dx, a, gt, xs, PL, R, t, rfl, upd_same, sm _ _ ha, hrs.mono repPlot_mono sm, hl, hnm, hg.same sm, hng, hsm, ht, fun i ei e H2 fr hgr => ⟨rfl, ?_⟩, fun v e d H2 nd2 fr hd => ⟨true, E_BadName.exm, fun _ b nb => ⟨_, rfl, ?_⟩, fun q => by cases q⟩, fun tag v e nt d H2 nd2 fr hd => ⟨false, kMN, (fun q => nomatch q), (fun _ => ⟨true, E_BadNumber.exm, fun _ b nb => ?_, fun q => by cases q⟩)⟩⟩
    · have s2 := fr.same np nd
      refine ⟨bigN (by show 2 ≤ 1000000; decide), fun q hq => ?_⟩
      exact k _ _ (by rw [e]; rfl) q _ (s2.free hq) upd_same (s2.trans (Same.new hq))
    · have s2 := fr.same np nd
      refine ⟨rfl, rfl, d, _, _, rfl, hd, look_name, bigN (by show 2 ≤ 1000000; decide), fun q hq => ?_⟩
      exact k _ _ (by rw [e]; rfl) q _ (s2.free hq) upd_same (s2.trans (Same.new hq))
    · have s2 := fr.same np nd
      refine ⟨_, rfl, rfl, rfl, d, _, _, rfl, hd, look_what, _, rfl, rfl, rfl, d, _, _, rfl, hd, look_val, bigN (by show 2 ≤ 1000000; decide), fun q hq => ?_⟩
      exact k _ _ (by rw [e]; rfl) q _ (s2.free hq) upd_same (s2.trans (Same.new hq))
def lastC (z : Str) : Option Nat := (codes z).getLast?
def lastAt (sh : Int) (j : Nat) : Option Nat := some (97 + ((sh + 7 * (j : Int)).fmod 26).toNat)
theorem pickL (r : Int) (h0 : 0 ≤ r) (h1 : r < 26) : ∃ c, atI (codes ("abcdefghijklmnopqrstuvwxyz" : Str)) r = some c ∧ NmOk 1 ⟨#[c]⟩ ∧ c = 97 + r.toNat := by
  obtain ⟨c, hc, nc⟩ := pick r h0 h1
  refine ⟨c, hc, nc, ?_⟩
  obtain ⟨rn, rfl⟩ : ∃ rn : Nat, r = (rn : Int) := ⟨r.toNat, by omega⟩
  have key : ∀ k : Fin 26, (codes ("abcdefghijklmnopqrstuvwxyz" : Str))[k.val]? = some (97 + k.val) := by decide +kernel
  have e := key ⟨rn, by omega⟩
  rw [atI_nat e] at hc
  cases hc
  rfl
theorem lastC_app {x z : Str} {o : Nat} (h : lastC z = some o) : lastC (x ++ z) = some o := by
  unfold lastC at h ⊢
  rw [codes_app, List.getLast?_append, h]
  rfl
theorem lastAt_inj {sh : Int} {i j : Nat} (hi : i < 5) (hj : j < 5) (h : lastAt sh i = lastAt sh j) : i = j := by
  unfold lastAt at h
  injection h with h
  rw [Int.fmod_eq_emod_of_nonneg _ (by decide), Int.fmod_eq_emod_of_nonneg _ (by decide)] at h
  omega
theorem names_nodup {sh : Int} {zs : List Str} {i : Nat} (h : zs.map lastC = (List.range i).map (lastAt sh)) (hi : i ≤ 5) : zs.Nodup := by
  have h1 : ((List.range i).map (lastAt sh)).Nodup := List.pairwise_map.mpr (List.nodup_range.imp_of_mem fun ha hb n e => n (lastAt_inj (by have := List.mem_range.mp ha; omega) (by have := List.mem_range.mp hb; omega) e))
  rw [← h] at h1
  exact (List.pairwise_map.mp h1).imp fun n e => n (by rw [e])
def sp_law_names (K : PySem.W.Frag) : Sp := fun vs H Q _ => ∃ (a s : Addr) (m : Int), vs = [.ref a, .ref s, .int m] ∧ Scr K H a s ∧ 0 ≤ m ∧ m ≤ 5 ∧
  ∀ (p : Addr) (H' : Hp) (zs : List Str), H p = none → H' p = some (.lst (zs.map V.str)) → (zs.length : Int) = m → (∀ z, z ∈ zs → NmOk 4 z) → zs.Nodup → Frm [s] H H' → Scr K H' a s → Q (.ref p) H'
theorem hid_upd {xs : List Addr} {H : Hp} {p : Addr} {o : HO} (n : ¬ p ∈ xs) : hid xs (upd H p o) = upd (hid xs H) p o := by
  funext b
  by_cases h : b = p
  · subst h
    rw [hid_eq n, upd_same, upd_same]
  · rw [upd_ne h]
    unfold hid
    split
    · rfl
    · rw [upd_ne h]
theorem st4_upd {H : Hp} {s p : Addr} {o : HO} (h : St4 H s) (n : ¬ p = s) : St4 (upd H p o) s := by
  obtain ⟨i, j, k, l, e⟩ := h
  exact ⟨i, j, k, l, by rw [upd_ne (fun q => n q.symm)]; exact e⟩

theorem ok_law_names {f : Addr} {fd : FuncData} (F : Fun K "_law_names" "_law_names" s_law_names f fd) (T : Txt K mg) (C_law_draw : Cal P w K mg base "_law_draw" P_law_draw 1 (sp_law_draw K)) : FnOk P w K mg base CX0 2 f fd P_law_names (sp_law_names K) := by
  obtain ⟨g_law_draw, gd_law_draw, G_law_draw, m_law_draw, k_law_draw, b_law_draw⟩ := C_law_draw.ex
  refine F.ok sc_law_names (fun vs H Q E h => ?_) (fun cdv A outer s H vs Q E hr h => ?_)
  · obtain ⟨a, s0, m, rfl, hS, m0, m1, k⟩ := h
    rfl
  · obtain ⟨a, s0, m, rfl, hS, m0, m1, k⟩ := h
    refine ⟨_, (pss_cons (ps_set (i := 3) sc_law_names.nd rfl (by first | exact Or.inl rfl | exact Or.inr rfl) pe_str)
  (pss_cons (ps_set (i := 4) sc_law_names.nd rfl (by first | exact Or.inl rfl | exact Or.inr rfl) (pe_call G_law_draw (hr.mono (by decide)) (by rfl) m_law_draw k_law_draw b_law_draw .nil pass0 (pa_cons (pv 0) (pa_cons (pv 1) (pa_cons pe_int pa_nil)))))
  (pss_cons (ps_set (i := 5) sc_law_names.nd rfl (by first | exact Or.inl rfl | exact Or.inr rfl) (pe_lst pa_nil))
  (pss_cons (ps_for PassesOwn.never rfl (pi_range1 rfl T.b_range (pa_cons (pv 2) pa_nil)) (pg_name (i := 6) sc_law_names.nd rfl (by first | exact Or.inl rfl | exact Or.inr rfl))
  (pss_cons (ps_set (i := 7) sc_law_names.nd rfl (by first | exact Or.inl rfl | exact Or.inr rfl) (pe_ix ix_str (pv 3) (pe_op op_modN (pe_callTy (T := "int") call_int1 (by rfl) T.b_int (by decide +kernel) (pa_cons (pe_op op_add (pv 4) (pe_op op_mul pe_int (pv 6))) pa_nil)) pe_int) (fun _ _ => rfl)))
  (pss_cons (ps_for PassesOwn.never rfl (pi_range1 rfl T.b_range (pa_cons (pe_call G_law_draw (hr.mono (by decide)) (by rfl) m_law_draw k_law_draw b_law_draw .nil pass0 (pa_cons (pv 0) (pa_cons (pv 1) (pa_cons pe_int pa_nil)))) pa_nil)) (pg_name (i := 8) sc_law_names.nd rfl (by first | exact Or.inl rfl | exact Or.inr rfl))
  (pss_one (ps_set (i := 7) sc_law_names.nd rfl (by first | exact Or.inl rfl | exact Or.inr rfl) (pe_op op_add_str (pe_ix ix_str (pv 3) (pe_call G_law_draw (hr.mono (by decide)) (by rfl) m_law_draw k_law_draw b_law_draw .nil pass0 (pa_cons (pv 0) (pa_cons (pv 1) (pa_cons pe_int pa_nil)))) (fun _ _ => rfl)) (pv 7)))))
  (pss_one (ps_expr (pe_bm PySem.F.plainAttrs_list PySem.F.slot_list_append PySem.F.type_list_append mt_append (pv 5) (pa_cons (pv 7) pa_nil)))))))
  (pss_one (ps_ret (pv 5))))))), ?_⟩
    refine ⟨_, rfl, _, rfl, a, s0, 26, rfl, hS, by decide, by decide, fun sh H1 h0 h1 f1 sc1 => ?_⟩
    refine ⟨(by rw [sizeLine_eq]; decide), fun p hp => ?_⟩
    have nps : ¬ p = s0 := sc1.ne hp
    have npm : ¬ p ∈ [s0] := fun y => nps (by simpa using y)
    have p0 : H p = none := f1.none npm hp
    refine ⟨_, rfl, _, rfl, by omega, by omega, ?_⟩
    refine for_it walk_range (fun i σ H2 => ∃ (w6 w7 w8 : Option V) (zs : List Str), σ = [some (.ref a), some (.ref s0), some (.int m), some (.str "abcdefghijklmnopqrstuvwxyz"), some (.int sh), some (.ref p), w6, w7, w8] ∧ H2 p = some (.lst (zs.map V.str)) ∧ zs.length = i ∧ (∀ z, z ∈ zs → NmOk 4 z) ∧ zs.map lastC = (List.range i).map (lastAt sh) ∧ Frm [p, s0] H1 H2 ∧ Scr K H2 a s0)
      ⟨_, _, _, [], rfl, upd_same, rfl, (fun z hz => by cases hz), rfl, Frm.put (List.mem_cons_self), sc1.same (Same.new hp)⟩ (fun _ _ _ _ _ => trivial) ?_ ?_
    · rintro i x σ H2o H2 hi ⟨w6, w7, w8, zs, rfl, ep, hzl, hzs, hls, f2, sc2⟩ ⟨rfl, rfl⟩
      obtain ⟨c, hc, nc, ec⟩ := pickL ((sh + 7 * (0 + (i : Int))).fmod 26) (fmod0 (by decide)) (fmod1 (by decide))
      refine ⟨_, rfl, _, rfl, _, rfl, _, _, rfl, rfl, .inl ⟨by decide, by decide⟩, _, _, rfl, rfl, .inl ⟨_, rfl, _, _, rfl, rfl, (by show (26 : Int) ≠ 0; decide), _, _, c, rfl, rfl, lettersLen, hc, ?_⟩⟩
      refine ⟨_, rfl, _, rfl, a, s0, 4, rfl, sc2, by decide, by decide, fun m2 H3 m20 m21 f3 sc3 => ⟨_, rfl, by omega, by omega, ?_⟩⟩
      refine for_it walk_range (fun j σ H4 => ∃ (w8 : Option V) (z : Str), σ = [some (.ref a), some (.ref s0), some (.int m), some (.str "abcdefghijklmnopqrstuvwxyz"), some (.int sh), some (.ref p), some (.int (0 + (i : Int))), some (.str z), w8] ∧ NmOk (1 + j) z ∧ lastC z = lastAt sh i ∧ Frm [s0] H2 H4 ∧ Scr K H4 a s0)
        ⟨_, _, rfl, nc, (by show some c = _; rw [ec, Int.zero_add]; rfl), f3, sc3⟩ (fun _ _ _ _ _ => trivial) ?_ ?_
      · rintro j x σ H4o H4 hj ⟨w8, z, rfl, hz, hlz, f4, sc4⟩ ⟨rfl, rfl⟩
        refine ⟨_, rfl, _, rfl, _, rfl, a, s0, 26, rfl, sc4, by decide, by decide, fun r H5 r0 r1 f5 sc5 => ?_⟩
        obtain ⟨c2, hc2, nc2⟩ := pick r r0 r1
        have l1 := hz.2.1
        have l2 := nc2.2.1
        refine ⟨_, _, c2, rfl, rfl, lettersLen, hc2, _, rfl, _, _, rfl, rfl, bigN (by omega), ?_⟩
        exact ⟨_, _, rfl, by have := nc2.app hz; rw [show 1 + (j + 1) = 1 + (1 + j) by omega]; exact this, lastC_app hlz, f4.trans f5, sc5⟩
      rintro σ H4 ⟨w8, z, rfl, hz, hlz, f4, sc4⟩
      have ep4 : H4 p = some (.lst (zs.map V.str)) := f4 p _ npm ep
      refine ⟨_, rfl, .inl ⟨rfl, _, SqL.of ep4⟩, _, rfl, p, _, _, rfl, rfl, ep4, (by rw [List.length_map, sizeLine_eq]; omega), ?_⟩
      refine ⟨_, _, _, zs ++ [z], rfl, by rw [upd_same, List.map_append]; rfl, by rw [List.length_append, hzl]; rfl, fun y hy => ?_, (by rw [List.map_append, hls, List.range_succ, List.map_append]; show _ ++ [lastC z] = _ ++ [lastAt sh i]; rw [hlz]), (f2.trans (f4.mono (fun b h => List.mem_cons_of_mem _ h))).put' List.mem_cons_self, ?_⟩
      · rcases List.mem_append.mp hy with q | q
        · exact hzs y q
        · rw [List.mem_singleton.mp q]
          exact hz.mono (by omega)
      · obtain ⟨i1, i2, i3, i4, e4⟩ := sc4.2
        have e0 : (upd H4 p (.lst (zs.map V.str ++ [V.str z]))) s0 = some (.lst [.int i1, .int i2, .int i3, .int i4]) := by rw [upd_ne (fun q => nps q.symm)]; exact e4
        exact scr_of sc1 hp ((f2.trans (f4.mono (fun b h => List.mem_cons_of_mem _ h))).put' List.mem_cons_self) ⟨i1, i2, i3, i4, e0⟩
    rintro σ H2 ⟨w6, w7, w8, zs, rfl, ep, hzl, hzs, hls, f2, sc2⟩
    exact ⟨_, rfl, k p H2 zs p0 ep (by omega) hzs (names_nodup hls (by omega)) (Frm.drop p0 f1 f2) sc2⟩
end
end Wb

namespace Wb
open PySem PySem.Spec PyProof.Rows L2 Wx StX NdefX RZ StX PyProof.Rows.FinIter
section
variable {P : Program} {w : World} {K : PySem.W.Frag} {mg : Str → Option Value} {base : Heap}
theorem outer_mem {G : List (List Str)} (h : Gm.VG G) {r : List Str} (hr : r ∈ Gm.outerG G) : ∃ g, g ∈ G ∧ r = Gm.srt g := by
  obtain ⟨i, _, hi, _⟩ := Gm.mem_outs.mp hr
  exact (Gm.rowsL_mem h).mp (List.mem_of_getElem? hi)
theorem outer_sm {n : Nat} {G : List (List Str)} (h : NG G) (k : Sm n G) : Sm n (Gm.outerG G) := by
  refine ⟨Nat.le_trans (Nat.le_trans (Gm.outs_len _ _) (Nat.le_of_eq (Gm.rowsL_len G))) k.1, fun r hr => ?_⟩
  obtain ⟨g, hg, rfl⟩ := outer_mem h.vg hr
  rw [Gm.srt_len]
  exact k.2 g hg
theorem outer_ng {G : List (List Str)} (h : NG G) : NG (Gm.outerG G) := fun r hr => by
  obtain ⟨g, hg, rfl⟩ := outer_mem h.vg hr
  exact ⟨(Gm.srt_perm g).symm.nodup (h g hg).1, fun z hz => (h g hg).2 z (Gm.srt_mem.mp hz)⟩
theorem in_outer {G : List (List Str)} (h : NG G) (t : List Str) : inG (Gm.outerG G) t = inG G t := by
  unfold inG
  by_cases e : t = []
  · rw [decide_eq_true e, Bool.true_or, Bool.true_or]
  · rw [Gm.outer_down h.vg e]
theorem inG_ne {R : List (List Str)} {t : List Str} (e : t ≠ []) : inG R t = Gm.dnB R t := by
  unfold inG
  rw [decide_eq_false e, Bool.false_or]
theorem inG_nil {R : List (List Str)} : inG R [] = true := rfl
theorem dn_self {R : List (List Str)} {r : List Str} (h : r ∈ R) : Gm.dnB R r = true := Gm.dnB_iff.mpr ⟨r, h, Gm.subB_refl r⟩
theorem outer_ext {G F : List (List Str)} (h : NG G) (k : NG F) (e : ∀ t, inG G t = inG F t) : Gm.outerG G = Gm.outerG F := by
  have one : ∀ {G F : List (List Str)}, NG G → NG F → (∀ t, inG G t = inG F t) → ∀ r, r ∈ Gm.outerG G → Gm.dnB (Gm.outerG F) r = true := fun {G F} h k e r hr => by
    have hn := ((Gm.outer_canon h.vg).1 r hr).1
    rw [← inG_ne hn, in_outer k, ← e, ← in_outer h, inG_ne hn]
    exact dn_self hr
  exact Gm.canon_eq (Gm.outer_canon h.vg) (Gm.outer_canon k.vg) (one h k e) (one k h fun t => (e t).symm)
/-- a list of texts -/
def repLs : Rep (List Str) := fun x H g => ∃ p, x = .ref p ∧ H p = some (.lst (g.map V.str))
theorem repLs_mono : RMon repLs := fun x H H' a e h => by
  obtain ⟨p, rfl, h⟩ := h
  exact ⟨p, rfl, e _ _ h⟩
theorem repLs.a {x : V} {H : Hp} {g : List Str} (h : repLs x H g) : repA x H g := by
  obtain ⟨p, rfl, h⟩ := h
  exact ⟨p, rfl, .inl h⟩
/-- a list of texts, elsewhere than at X -/
def repR (X : List Addr) : Rep (List Str) := fun x H g => ∃ p, x = .ref p ∧ ¬ p ∈ X ∧ H p = some (.lst (g.map V.str))
theorem repR_mono {X : List Addr} : RMon (repR X) := fun x H H' a e h => by
  obtain ⟨p, rfl, n, h⟩ := h
  exact ⟨p, rfl, n, e _ _ h⟩
theorem repR.l {X : List Addr} {x : V} {H : Hp} {g : List Str} (h : repR X x H g) : repLs x H g := by
  obtain ⟨p, rfl, _, h⟩ := h
  exact ⟨p, rfl, h⟩
theorem repR.upd {X : List Addr} {D : Addr} {H : Hp} {o : HO} {x : V} {g : List Str} (m : D ∈ X) (h : repR X x H g) : repR X x (L2.upd H D o) g := by
  obtain ⟨p, rfl, n, h⟩ := h
  exact ⟨p, rfl, n, by rw [upd_ne (fun e => n (by rw [e]; exact m))]; exact h⟩
theorem join_len {zs : List Str} (l0 : ("" : Str).length = 0) (h : (zs.map (·.length)).sum ≤ 8 * zs.length) (h5 : zs.length ≤ 5) : (Txt.join ("" : Str) zs).length ≤ 1000 := by
  have g0 : ∀ r : List Str, (StrLaws.glueL [] r).length = (r.map (·.length)).sum := fun r => by
    induction r with
    | nil => rfl
    | cons p r ih =>
      show (p.cps.toList ++ StrLaws.glueL [] r).length = _
      rw [List.length_append, ih, List.map_cons, List.sum_cons]
      rfl
  have e0 : ("" : Str).cps.toList = [] := by decide +kernel
  have key : (Builtin.Str.glued ("" : Str) zs).length = (zs.map (·.length)).sum := by
    cases zs with
    | nil => exact l0
    | cons p r =>
      rw [← codes_len]
      show (Builtin.Str.glued ("" : Str) (p :: r)).cps.toList.length = _
      rw [StrLaws.glued_list, e0]
      show (p.cps.toList ++ StrLaws.glueL [] r).length = _
      rw [List.length_append, g0, List.map_cons, List.sum_cons]
      rfl
  show (Builtin.Str.glued ("" : Str) zs).length ≤ 1000
  omega

/-- what is no list stays -/
def NL (H H' : Hp) : Prop := ∀ b o, H b = some o → (∀ l, o ≠ .lst l) → H' b = some o
theorem NL.same {H H' : Hp} (s : Same H H') : NL H H' := fun b o e _ => s b o e
theorem NL.trans {H H' H'' : Hp} (a : NL H H') (b : NL H' H'') : NL H H'' := fun c o e n => b c o (a c o e n) n
theorem NL.upd {H : Hp} {p : Addr} {l : List V} {o : HO} (e : H p = some (.lst l)) : NL H (L2.upd H p o) := fun b o' e' n => by
  rw [upd_ne (fun z => by rw [z, e] at e'; cases e'; exact n _ rfl)]
  exact e'
theorem NL.frm {H H' : Hp} {s : Addr} (f : Frm [s] H H') (q : St4 H s) : NL H H' := fun b o e n => by
  obtain ⟨i, j, k, l, e4⟩ := q
  exact f b o (fun m => by
    rw [show b = s by simpa using m, e4] at e
    cases e
    exact n _ rfl) e
theorem repPlot_nl {C : Addr} {H H' : Hp} (k : NL H H') : ∀ x d, repPlot C x H d → repPlot C x H' d := fun x d h => by
  obtain ⟨p, rfl, dx, e⟩ := h
  exact ⟨p, rfl, dx, k _ _ e (fun l z => by cases z)⟩
theorem GatesAt.nl {C : Addr} {H H' : Hp} {p : Addr} {R : List (List Str)} (h : GatesAt C H p R) (k : NL H H') : GatesAt C H' p R := by
  obtain ⟨dx, q, e1, e2⟩ := h
  exact ⟨dx, q, k _ _ e1 (fun l z => by cases z), repTG_tup (fun b xs e => k _ _ e (fun l z => by cases z)) e2⟩
theorem codes_cut {z : Str} {lo hi : Option Int} {c : Nat} (h : c ∈ codes (cutS z lo hi)) : c ∈ codes z := by
  have e : codes (cutS z lo hi) = ((codes z).drop (HT.sIx z.length 0 lo)).take (HT.sIx z.length z.length hi - HT.sIx z.length 0 lo) := by
    unfold cutS codes
    simp
  rw [e] at h
  exact List.mem_of_mem_drop (List.mem_of_mem_take h)
theorem cut3_len (z : Str) : (cutS z none (some 3)).length ≤ 3 := by
  have e : codes (cutS z none (some 3)) = ((codes z).drop (HT.sIx z.length 0 none)).take (HT.sIx z.length z.length (some 3) - HT.sIx z.length 0 none) := by
    unfold cutS codes
    simp
  rw [← codes_len, e, List.length_take]
  have : HT.sIx z.length z.length (some (3 : Int)) ≤ 3 := by
    show (if (3 : Int) < 0 then ((3 : Int) + (z.length : Int)).toNat else min (3 : Int).toNat z.length) ≤ 3
    rw [if_neg (by decide)]
    exact Nat.min_le_left _ _
  omega
theorem join_codes {zs : List Str} : ∀ c, c ∈ codes (Txt.join ("" : Str) zs) → ∃ z, z ∈ zs ∧ c ∈ codes z := by
  have g0 : ∀ (r : List Str) c, c ∈ StrLaws.glueL [] r → ∃ z, z ∈ r ∧ c ∈ codes z := fun r => by
    induction r with
    | nil => intro c h; cases h
    | cons p r ih =>
      intro c h
      have h : c ∈ p.cps.toList ++ StrLaws.glueL [] r := h
      rcases List.mem_append.mp h with q | q
      · exact ⟨p, List.mem_cons_self, q⟩
      · obtain ⟨z, hz, e⟩ := ih c q
        exact ⟨z, List.mem_cons_of_mem _ hz, e⟩
  have e0 : ("" : Str).cps.toList = [] := by decide +kernel
  intro c h
  cases zs with
  | nil =>
    have h : c ∈ codes ("" : Str) := h
    rw [show codes ("" : Str) = [] from e0] at h
    cases h
  | cons p r =>
    have h : c ∈ (Builtin.Str.glued ("" : Str) (p :: r)).cps.toList := h
    rw [StrLaws.glued_list, e0] at h
    have h : c ∈ p.cps.toList ++ StrLaws.glueL [] r := h
    rcases List.mem_append.mp h with q | q
    · exact ⟨p, List.mem_cons_self, q⟩
    · obtain ⟨z, hz, e⟩ := g0 r c q
      exact ⟨z, List.mem_cons_of_mem _ hz, e⟩
theorem odd_name {zs : List Str} (h : ∀ z, z ∈ zs → NmOk 4 z) : NmOk 8 (cutS (Txt.join ("" : Str) zs) none (some 3) ++ ("zzzzz" : Str)) := by
  have l5 : ("zzzzz" : Str).length = 5 := by decide +kernel
  have c5 : ∀ c, c ∈ codes ("zzzzz" : Str) → 97 ≤ c ∧ c ≤ 122 := by decide +kernel
  have l3 := cut3_len (Txt.join ("" : Str) zs)
  refine ⟨by rw [PySem.Str.length_append]; omega, by rw [PySem.Str.length_append]; omega, fun c hc => ?_⟩
  rw [codes_app] at hc
  rcases List.mem_append.mp hc with q | q
  · obtain ⟨z, hz, e⟩ := join_codes c (codes_cut q)
    exact (h z hz).2.2 c e
  · exact c5 c q
theorem cut_last4 (xs : List V) : cutV xs (some (-4)) none = xs.drop (xs.length - 4) := by
  unfold cutV
  have e : HT.sIx xs.length 0 (some (-4 : Int)) = xs.length - 4 := by
    show (if (-4 : Int) < 0 then ((-4 : Int) + (xs.length : Int)).toNat else min (-4 : Int).toNat xs.length) = _
    rw [if_pos (by decide)]
    omega
  rw [e, HT.sIx_none]
  exact List.take_of_length_le (by rw [List.length_drop]; omega)
theorem cut_but1 (xs : List V) : cutV xs none (some (-1)) = xs.take (xs.length - 1) := by
  unfold cutV
  have e : HT.sIx xs.length xs.length (some (-1 : Int)) = xs.length - 1 := by
    show (if (-1 : Int) < 0 then ((-1 : Int) + (xs.length : Int)).toNat else min (-1 : Int).toNat xs.length) = _
    rw [if_pos (by decide)]
    omega
  rw [e, HT.sIx_none, List.drop_zero]
  rfl
theorem cut_4 (xs : List V) : cutV xs none (some 4) = xs.take 4 := by
  unfold cutV
  have e : HT.sIx xs.length xs.length (some (4 : Int)) = min 4 xs.length := by
    show (if (4 : Int) < 0 then ((4 : Int) + (xs.length : Int)).toNat else min (4 : Int).toNat xs.length) = _
    rw [if_neg (by decide)]
    rfl
  rw [e, HT.sIx_none, List.drop_zero, Nat.sub_zero]
  rw [List.take_eq_take_iff]
  omega
theorem nms_nil : nmsOf [] = [] := rfl
theorem nms_len (PL : List PlotD) : (nmsOf PL).length = PL.length := List.length_map _
theorem ng_one {z : Str} (h : NmOk 8 z) : NG [[z]] := fun g hg => by
  rw [List.mem_singleton.mp hg]
  exact ⟨by simp, fun y hy => by rw [List.mem_singleton.mp hy]; exact h⟩
theorem sm_one {n : Nat} {z : Str} (h : 1 ≤ n) : Sm n [[z]] := ⟨h, fun g hg => by rw [List.mem_singleton.mp hg]; show 1 ≤ 8; decide⟩
def plot5 : List PlotD := (codes ("abcde" : Str)).map fun c => (⟨#[c]⟩, 1, 1)
theorem nms5 : nmsOf plot5 = [("a" : Str), "b", "c", "d", "e"] := by decide +kernel
theorem dbl5 : dbl (nmsOf (plot5.take 4)) = none := by decide +kernel
theorem len5 : plot5.length = 5 := by decide +kernel
theorem nil_canon : Gm.outerG [] = [] := by
  cases e : Gm.outerG [] with
  | nil => rfl
  | cons r l =>
    obtain ⟨g, hg, _⟩ := outer_mem (G := []) (fun g hg => by cases hg) (show r ∈ Gm.outerG [] by rw [e]; exact List.mem_cons_self)
    cases hg
def sp_law_refusals_hold (K : PySem.W.Frag) (CP CG : Addr) : Sp := fun vs H Q _ => ∃ (a s p D pg r0 r1 : Addr) (qs : List V) (PL : List PlotD) (zs g0 g1 : List Str) (R : List (List Str)), vs = [.ref a, .ref s, .ref p, .ref D, .ref pg] ∧ Scr K H a s ∧
  (hid [s] H) p = some (.lst qs) ∧ Reps (repPlot CP) H qs PL ∧ nmsOf PL = zs ∧ zs.Nodup ∧ (∀ z, z ∈ zs → NmOk 4 z) ∧ 1 ≤ zs.length ∧ zs.length ≤ 4 ∧ (hid [s] H) D = some (.lst [.ref r0, .ref r1]) ∧ (hid [s] H) r0 = some (.lst (g0.map V.str)) ∧ g0.Sublist zs ∧
  GatesAt CG H pg R ∧ NG R ∧ Sm 60 R ∧ (∀ r, r ∈ R → ∀ z, z ∈ r → z ∈ zs) ∧ ∀ H', Q (.bl true) H'

theorem ok_law_refusals_hold {f : Addr} {fd : FuncData} (F : Fun K "_law_refusals_hold" "_law_refusals_hold" s_law_refusals_hold f fd) (T : Txt K mg) {C_Plot fpi fpe : Addr} (D_Plot : DatC K mg "Plot" C_Plot fpi fpe ["name", "hold", "drink"]) {fdpi : FuncData} (GPlot___init__ : FnOk P w K mg base CX0 5 fpi fdpi PPlot___init__ (spPlot_initT C_Plot)) (bPlot___init__ : Binds K fdpi PPlot___init__ []) {C_Gates fgi fge : Addr} (D_Gates : DatC K mg "Gates" C_Gates fgi fge ["groups"]) (GGates___init__ : FnR P w K mg base (L2.CX P w) 5 fgi (spStar 1 (spGates_init C_Gates))) (C_law_draw : Cal P w K mg base "_law_draw" P_law_draw 1 (sp_law_draw K)) (C_law_refusal : Cal P w K mg base "_law_refusal" P_law_refusal 9 (sp_law_refusal K C_Plot C_Gates)) : FnOk P w K mg base CX0 10 f fd P_law_refusals_hold (sp_law_refusals_hold K C_Plot C_Gates) := by
  obtain ⟨g_law_draw, gd_law_draw, G_law_draw, m_law_draw, k_law_draw, b_law_draw⟩ := C_law_draw.ex
  obtain ⟨g_law_refusal, gd_law_refusal, G_law_refusal, m_law_refusal, k_law_refusal, b_law_refusal⟩ := C_law_refusal.ex
  refine F.ok sc_law_refusals_hold (fun vs H Q E h => ?_) (fun cdv A outer s H vs Q E hr h => ?_)
  · obtain ⟨a, s0, p, D, pg, r0, r1, qs, PL, zs, g0, g1, R, rfl, hS, hp, hrs, hzs, hzd, hzn, hz1, hz4, hD, hr0, hg0, hg, hng, hsm, hsub, k⟩ := h
    rfl
  · obtain ⟨a, s0, p, D, pg, r0, r1, qs, PL, zs, g0, g1, R, rfl, hS, hp, hrs, hzs, hzd, hzn, hz1, hz4, hD, hr0, hg0, hg, hng, hsm, hsub, k⟩ := h
    refine ⟨_, (pss_cons (ps_setLc (i := 5) (own := [("plot", 12)]) rfl sc_law_refusals_hold.nd rfl rfl (sw_true rfl rfl rfl (by decide +kernel)) (pi_list (pv 2)) (blkOk_by (own := [("plot", 12)]) (N := N_law_refusals_hold) (sc := defScope s_law_refusals_hold) (by decide +kernel)) (fun _ _ _ _ _ => (pg_name (i := 12) sc_law_refusals_hold.nd rfl (by first | exact Or.inl rfl | exact Or.inr rfl))) (fun _ _ _ _ _ => pts_nil) (fun _ _ _ _ _ => (pe_fldK (K0 := K) rfl (pv 12) rfl)))
  (pss_cons (ps_set (i := 6) sc_law_refusals_hold.nd rfl (by first | exact Or.inl rfl | exact Or.inr rfl) (pe_op op_add_str (pe_slice sl_str (pe_join pe_str (pv 5)) po_none (po_some pe_int)) pe_str))
  (pss_cons (ps_set (i := 7) sc_law_refusals_hold.nd rfl (by first | exact Or.inl rfl | exact Or.inr rfl) (pe_op op_add pe_int (pe_call G_law_draw (hr.mono (by decide)) (by rfl) m_law_draw k_law_draw b_law_draw .nil pass0 (pa_cons (pv 0) (pa_cons (pv 1) (pa_cons (pe_op op_pow pe_int pe_int) pa_nil))))))
  (pss_cons (ps_set (i := 8) sc_law_refusals_hold.nd rfl (by first | exact Or.inl rfl | exact Or.inr rfl) (pe_ix ix_list (pv 5) (pe_call G_law_draw (hr.mono (by decide)) (by rfl) m_law_draw k_law_draw b_law_draw .nil pass0 (pa_cons (pv 0) (pa_cons (pv 1) (pa_cons (pe_callB call_len_seq (by rfl) T.b_len PySem.boot_len (pa_cons (pv 5) pa_nil)) pa_nil)))) (fun _ _ => rfl)))
  (pss_cons (ps_set (i := 9) sc_law_refusals_hold.nd rfl (by first | exact Or.inl rfl | exact Or.inr rfl) (pe_slice sl_list (pe_op op_cat (pv 2) (pe_lst (pa_cons (pe_makeS (E := fun _ => E0) D_Plot.mkk GPlot___init__ (hr.mono (by decide)) (by rfl) D_Plot.g bPlot___init__ (fun _ _ _ _ _ _ _ c => c.elim) (pa_cons (pv 8) (pa_cons pe_int (pa_cons pe_int pa_nil)))) pa_nil))) (po_some (pe_un un_neg pe_int)) po_none))
  (pss_cons (ps_if (pt_cmpR (op_neD hr.units) (pe_call G_law_refusal (hr.mono (by decide)) (by rfl) m_law_refusal k_law_refusal b_law_refusal .nil pass0 (pa_cons (pe_lst pa_nil) (pa_cons (pv 4) (pa_cons (pv 7) pa_nil)))) (pe_tup (pa_cons pe_str (pa_cons pe_int pa_nil))) (nomark _))
  (pss_one (ps_ret pe_bl))
  pss_nil)
  (pss_cons (ps_for PassesOwn.never rfl (pi_list (pe_lst (pa_cons (pv 7) (pa_cons (pe_un un_neg pe_int) (pa_cons pe_bl pa_nil))))) (pg_name (i := 10) sc_law_refusals_hold.nd rfl (by first | exact Or.inl rfl | exact Or.inr rfl))
  (pss_one (ps_if (pt_cmpR (op_neD hr.units) (pe_call G_law_refusal (hr.mono (by decide)) (by rfl) m_law_refusal k_law_refusal b_law_refusal .nil pass0 (pa_cons (pv 2) (pa_cons (pv 4) (pa_cons (pv 10) pa_nil)))) (pe_tup (pa_cons pe_str (pa_cons (pv 10) pa_nil))) (nomark _))
  (pss_one (ps_ret pe_bl))
  pss_nil)))
  (pss_cons (ps_setLc (i := 11) (own := [("letter", 13)]) rfl sc_law_refusals_hold.nd rfl rfl (sw_true rfl rfl rfl (by decide +kernel)) (pi_str pe_str) (blkOk_by (own := [("letter", 13)]) (N := N_law_refusals_hold) (sc := defScope s_law_refusals_hold) (by decide +kernel)) (fun _ _ _ _ _ => (pg_name (i := 13) sc_law_refusals_hold.nd rfl (by first | exact Or.inl rfl | exact Or.inr rfl))) (fun _ _ _ _ _ => pts_nil) (fun _ _ _ _ _ => (pe_makeS (E := fun _ => E0) D_Plot.mkk GPlot___init__ (hr.mono (by decide)) (by rfl) D_Plot.g bPlot___init__ (fun _ _ _ _ _ _ _ c => c.elim) (pa_cons (pv 13) (pa_cons pe_int (pa_cons pe_int pa_nil))))))
  (pss_cons (ps_if (pt_cmpR (op_neD hr.units) (pe_call G_law_refusal (hr.mono (by decide)) (by rfl) m_law_refusal k_law_refusal b_law_refusal .nil pass0 (pa_cons (pv 11) (pa_cons (pe_makeRS0 D_Gates.mkk GGates___init__ (hr.mono (by decide)) (by rfl) D_Gates.g (fun σ => passAt takes0 σ)) (pa_cons pe_int pa_nil)))) (pe_tup (pa_cons pe_str (pa_cons pe_int pa_nil))) (nomark _))
  (pss_one (ps_ret pe_bl))
  pss_nil)
  (pss_cons (ps_if (pt_cmpR (op_neD hr.units) (pe_call G_law_refusal (hr.mono (by decide)) (by rfl) m_law_refusal k_law_refusal b_law_refusal .nil pass0 (pa_cons (pe_slice sl_list (pv 11) po_none (po_some pe_int)) (pa_cons (pe_makeRS0 D_Gates.mkk GGates___init__ (hr.mono (by decide)) (by rfl) D_Gates.g (fun σ => passAt takes0 σ)) (pa_cons pe_int pa_nil)))) (pe_tup (pa_cons pe_str (pa_cons pe_int pa_nil))) (nomark _))
  (pss_one (ps_ret pe_bl))
  pss_nil)
  (C8.pss_cut (ps_if (pt_cmpR op_in_seq (pv 8) (pe_lc (own := [("plot", 12)]) rfl sc_law_refusals_hold.nd (pi_list (pe_slice sl_list (pv 9) po_none (po_some (pe_un un_neg pe_int)))) (blkOk_by (own := [("plot", 12)]) (N := N_law_refusals_hold) (sc := defScope s_law_refusals_hold) (by decide +kernel)) (fun _ _ _ _ _ => (pg_name (i := 12) sc_law_refusals_hold.nd rfl (by first | exact Or.inl rfl | exact Or.inr rfl))) (fun _ _ _ _ _ => pts_nil) (fun _ _ _ _ _ => (pe_fldK (K0 := K) rfl (pv 12) rfl))) (by rfl))
  (pss_one (ps_if (pt_cmpR (op_neD hr.units) (pe_call G_law_refusal (hr.mono (by decide)) (by rfl) m_law_refusal k_law_refusal b_law_refusal .nil pass0 (pa_cons (pv 9) (pa_cons (pe_makeRS D_Gates.mkk GGates___init__ (hr.mono (by decide)) (by rfl) D_Gates.g (fun σ => passAt takes0 σ) (pa_cons (pe_lst (pa_cons (pv 6) pa_nil)) pa_nil)) (pa_cons (pv 7) pa_nil)))) (pe_tup (pa_cons pe_str (pa_cons (pv 8) pa_nil))) (nomark _))
  (pss_one (ps_ret pe_bl))
  pss_nil))
  pss_nil)
  (C8.pss_cut (ps_if (pt_cmpR op_notIn_seq (pv 6) (pv 5) (by rfl))
  (pss_one (ps_if (pt_cmpR (op_neD hr.units) (pe_call G_law_refusal (hr.mono (by decide)) (by rfl) m_law_refusal k_law_refusal b_law_refusal .nil pass0 (pa_cons (pv 2) (pa_cons (pe_makeRS D_Gates.mkk GGates___init__ (hr.mono (by decide)) (by rfl) D_Gates.g (fun σ => passAt takes0 σ) (pa_cons (pe_ix ix_list (pv 3) pe_int (fun _ _ => rfl)) (pa_cons (pe_lst (pa_cons (pv 6) (pa_cons (pe_ix ix_list (pv 5) pe_int (fun _ _ => rfl)) pa_nil))) pa_nil))) (pa_cons (pv 7) pa_nil)))) (pe_tup (pa_cons pe_str (pa_cons (pv 6) pa_nil))) (nomark _))
  (pss_one (ps_ret pe_bl))
  pss_nil))
  pss_nil)
  (pss_cons (ps_if (pt_cmpR (op_neD hr.units) (pe_call G_law_refusal (hr.mono (by decide)) (by rfl) m_law_refusal k_law_refusal b_law_refusal .nil pass0 (pa_cons (pv 2) (pa_cons (pv 4) (pa_cons pe_int pa_nil)))) (pe_tup (pa_cons pe_str (pa_cons pe_int pa_nil))) (nomark _))
  (pss_one (ps_ret pe_bl))
  pss_nil)
  (pss_one (ps_ret (pe_cmpR (op_eqD hr.units) (pe_call G_law_refusal (hr.mono (by decide)) (by rfl) m_law_refusal k_law_refusal b_law_refusal .nil pass0 (pa_cons (pv 2) (pa_cons (pv 4) (pa_cons pe_int pa_nil)))) (pe_tup (pa_cons pe_str (pa_cons pe_int pa_nil))) (nomark _))))))))))))))))), ?_⟩
    have hnl : PL.length = zs.length := by rw [← hzs, nms_len]
    have hlq := hrs.len
    have hnm : ∀ d, d ∈ PL → NmOk 8 d.1 := fun d hd => (hzn d.1 (by rw [← hzs]; exact List.mem_map.mpr ⟨d, hd, rfl⟩)).mono (by decide)
    have h14 : 1 ≤ PL.length ∧ PL.length ≤ 4 := by omega
    have hdb : dbl (nmsOf PL) = none := dbl_nodup (by rw [hzs]; exact hzd)
    have huk : unk R (nmsOf PL) = none := unk_none (by rw [hzs]; exact hsub)
    have sm0 := hid_same [s0] H
    have npm : ¬ p ∈ [s0] := fun y => by rw [show hid [s0] H p = none from if_pos y] at hp; cases hp
    -- names
    refine ⟨_, rfl, p, rfl, ⟨_, SqL.of (sm0 _ _ hp)⟩, fun D1 hD1 => ?_⟩
    refine lc_it walk_list (fun i H1 => H1 D1 = some (.lst ((PL.take i).map fun d => V.str d.1)) ∧ Same H H1) ⟨upd_same, Same.new hD1⟩ (fun i H1 _ q => SqL.of (q.2 _ _ (sm0 _ _ hp))) ?_ ?_
    · rintro i x H1o H1 hi ⟨g1', s1⟩ ⟨rfl, hx⟩
      obtain ⟨d, b, dx, hd, rfl, e⟩ := plots_at hrs hx
      have e1 := s1 _ _ e
      refine ⟨rfl, ?_⟩
      exact ⟨_, rfl, b, C_Plot, dx, _, _, rfl, e1, D_Plot.cls, D_Plot.no _ (by decide), rfl, lc_all (f := fun d : PlotD => V.str d.1) hD1 g1' s1 hd (by omega)⟩
    rintro H1 ⟨gD1, s1⟩
    rw [take_full hlq] at gD1
    have gD1 : H1 D1 = some (.lst (zs.map V.str)) := by
      rw [gD1, ← hzs]
      unfold nmsOf
      rw [List.map_map]
      rfl
    have sc1 := hS.same s1
    have nD1 : ¬ D1 ∈ [s0] := fun y => hS.ne hD1 (by simpa using y)
    -- strange
    have l0 : ("" : Str).length = 0 := by decide +kernel
    have l5 : ("zzzzz" : Str).length = 5 := by decide +kernel
    have sl := sum_len8 (ys := zs) fun y hy => by have := (hzn y hy).2.1; omega
    have jl : (Txt.join ("" : Str) zs).length ≤ 1000 := join_len l0 sl (by omega)
    have c3 := cut3_len (Txt.join ("" : Str) zs)
    refine ⟨⟨_, rfl⟩, _, rfl, _, D1, zs, rfl, rfl, .inl (SqL.of gD1), by rw [l0]; omega, _, rfl, _, rfl, bigN (by omega), _, _, rfl, rfl, bigN (by rw [l5]; omega), ?_⟩
    have nst := odd_name hzn
    generalize cutS (Txt.join ("" : Str) zs) none (some 3) ++ ("zzzzz" : Str) = st at nst
    -- far
    refine ⟨_, rfl, _, rfl, _, _, rfl, rfl, ⟨by decide, by decide, by decide⟩, a, s0, _, rfl, sc1, by decide, by decide, fun f0 H2 f00 f01 fr2 sc2 => ⟨_, _, rfl, rfl, ?_⟩⟩
    have hfar : (9 : Int) ≤ 9 + f0 := by omega
    -- again
    have F2 := hid_frm fr2
    have gD2 : (hid [s0] H2) D1 = some (.lst (zs.map V.str)) := F2 _ _ (by rw [hid_eq nD1]; exact gD1)
    refine ⟨_, rfl, _, rfl, _, rfl, _, rfl, D1, _, rfl, .inl (SqL.of (hid_same _ _ _ _ gD2)), a, s0, _, rfl, sc2, by rw [len_strs]; omega, by rw [len_strs]; omega, fun ai H3 a0 a1 fr3 sc3 => ?_⟩
    rw [len_strs] at a1
    have F3 := hid_frm fr3
    have sm3 := hid_same [s0] H3
    have gD3 := sm3 _ _ (F3 _ _ gD2)
    obtain ⟨an, rfl⟩ : ∃ an : Nat, ai = (an : Int) := ⟨ai.toNat, by omega⟩
    have hag : zs[an]? = some zs[an] := List.getElem?_eq_getElem (by omega)
    generalize zs[an]'(by omega) = ag at hag
    have mag := List.mem_of_getElem? hag
    have nag := (hzn ag mag).mono (n := 8) (by decide)
    refine ⟨D1, _, _, _, rfl, rfl, SqL.of gD3, atI_nat (by rw [List.getElem?_map, hag]; rfl), ?_⟩
    -- from here nothing is drawn
    have nl3 : NL H H3 := ((NL.same s1).trans (NL.frm fr2 sc1.2)).trans (NL.frm fr3 sc2.2)
    have S1 : Same (hid [s0] H) (hid [s0] H1) := hid_frm (Frm.of_same s1)
    have hp3 : H3 p = some (.lst qs) := sm3 _ _ (F3 _ _ (F2 _ _ (S1 _ _ hp)))
    have hD3 : H3 D = some (.lst [.ref r0, .ref r1]) := sm3 _ _ (F3 _ _ (F2 _ _ (S1 _ _ hD)))
    have hr3 : H3 r0 = some (.lst (g0.map V.str)) := sm3 _ _ (F3 _ _ (F2 _ _ (S1 _ _ hr0)))
    have hrs3 : Reps (repPlot C_Plot) H3 qs PL := hrs.imp (repPlot_nl nl3)
    have hg3 : GatesAt C_Gates H3 pg R := hg.nl nl3
    clear hS sc1 sc2 sc3 hp hD hr0 hrs hg gD1 gD2
    -- double
    refine ⟨_, rfl, _, rfl, fun x dx nx nd ne => ?_⟩
    refine plot_make nag (by decide) (by decide) (by decide) (by decide) nx nd fun H4 s4 hx4 => ?_
    refine ⟨bigN (by show 1 ≤ 1000000; decide), fun z4 hz4 => ?_⟩
    have s5 := s4.trans (Same.new (o := .lst [.ref x]) hz4)
    refine ⟨p, z4, _, _, rfl, rfl, s5 _ _ hp3, upd_same, bigN (by show qs.length + 1 ≤ 1000000; omega), fun c4 hc4 => ?_⟩
    have s6 := s5.trans (Same.new (o := .lst (qs ++ [.ref x])) hc4)
    have ec4 : (upd (upd H4 z4 (.lst [.ref x])) c4 (.lst (qs ++ [.ref x]))) c4 = some (.lst (qs ++ [.ref x])) := upd_same
    have hx6 : PlotAt C_Plot (upd (upd H4 z4 (.lst [.ref x])) c4 (.lst (qs ++ [.ref x]))) x ag 3 3 := (hx4.same (Same.new hz4)).same (Same.new hc4)
    generalize upd (upd H4 z4 (.lst [.ref x])) c4 (.lst (qs ++ [.ref x])) = H6 at s6 ec4 hx6
    refine ⟨_, rfl, _, rfl, c4, _, rfl, SqL.of ec4, fun dd hdd => ?_⟩
    rw [cut_last4]
    have r6 : Reps (repPlot C_Plot) H6 (qs ++ [.ref x]) (PL ++ [(ag, 3, 3)]) := Reps.app (hrs3.mono repPlot_mono s6) (Reps.one ⟨x, rfl, hx6⟩)
    have r6 := r6.drop ((qs ++ [V.ref x]).length - 4)
    have hlen6 : (qs ++ [V.ref x]).length = PL.length + 1 := by rw [List.length_append, hlq]; rfl
    obtain ⟨PD, hPD⟩ : ∃ PD, (PL ++ [(ag, 3, 3)]).drop ((qs ++ [V.ref x]).length - 4) = PD ++ [(ag, (3 : Int), (3 : Int))] ∧ PD = PL.drop (PL.length - 3) := ⟨_, by
      rw [hlen6, List.drop_append_of_le_length (by omega), show PL.length + 1 - 4 = PL.length - 3 by omega], rfl⟩
    obtain ⟨hPD, ePD⟩ := hPD
    rw [hPD] at r6
    generalize (qs ++ [V.ref x]).drop ((qs ++ [V.ref x]).length - 4) = qd at r6
    have lPD : PD.length + 1 ≤ 4 := by rw [ePD, List.length_drop]; omega
    have sPD : PD.Sublist PL := by rw [ePD]; exact List.drop_sublist _ _
    have hlqd : qd.length = PD.length + 1 := by rw [r6.len, List.length_append]; rfl
    have nPD : (nmsOf PD).Nodup := by
      have h : (nmsOf PD).Sublist (nmsOf PL) := sPD.map _
      rw [hzs] at h
      exact hzd.sublist h
    have s7 := s6.trans (Same.new (o := .lst qd) hdd)
    have ed7 : (upd H6 dd (.lst qd)) dd = some (.lst qd) := upd_same
    have rd7 : Reps (repPlot C_Plot) (upd H6 dd (.lst qd)) qd (PD ++ [(ag, 3, 3)]) := r6.mono repPlot_mono (Same.new hdd)
    generalize upd H6 dd (.lst qd) = H7 at s7 ed7 rd7
    have hnmD : ∀ d, d ∈ PD ++ [((ag, 3, 3) : PlotD)] → NmOk 8 d.1 := fun d hd => by
      rcases List.mem_append.mp hd with h | h
      · exact hnm d (sPD.subset h)
      · rw [List.mem_singleton.mp h]
        exact nag
    have hp7 := s7 _ _ hp3
    have hrs7 := hrs3.mono repPlot_mono s7
    have hg7 := hg3.same s7
    have gD7 := s7 _ _ gD3
    have hDD7 := s7 _ _ hD3
    have hrr7 := s7 _ _ hr3
    clear hp3 hrs3 hg3 gD3 hD3 hr3
    -- no plots
    refine ⟨bigN (by show 0 ≤ _; exact Nat.zero_le _), fun z8 hz8 => ?_⟩
    have s8 : Same H7 (upd H7 z8 (.lst [])) := Same.new (o := .lst []) hz8
    refine ⟨_, rfl, _, rfl, z8, pg, [], [], R, (.int (9 + f0)), rfl, upd_same, trivial, by show 0 ≤ 100; decide, (fun d hd => by cases hd), hg7.same s8, hng, hsm, .int _, fun tg vv ee q1 Hq1 nq1 eq1 sq1 => ?_⟩
    rw [gR_plots (by decide)] at ee
    cases ee
    refine ⟨bigN (by show 2 ≤ 1000000; decide), fun u1 hu1 => ?_⟩
    have st1 := (s8.trans sq1).trans (Same.new (o := .tup [.str ("plots" : Str), (.int 0)]) hu1)
    obtain ⟨d1, e1, hd1, he1, sd1, se1, ev1⟩ := pair_eq (K := K) (H := upd Hq1 u1 (.tup [.str ("plots" : Str), (.int 0)])) (t := ("plots" : Str)) (v := (.int 0)) (by decide +kernel) (.int 0) (fun z e => by cases e) (Same.new hu1 _ _ eq1) upd_same
    refine ⟨d1, e1, hd1, he1, sd1, se1, _, rfl, ?_⟩
    rw [ev1]
    refine iteF ?_
    generalize upd Hq1 u1 (.tup [.str ("plots" : Str), (V.int 0)]) = H9 at st1
    have s9 := st1
    -- three sizes
    refine ⟨_, rfl, _, rfl, bigN (by show 3 ≤ 1000000; decide), fun z9 hz9 => ?_⟩
    have s10 := s9.trans (Same.new (o := .lst [.int (9 + f0), .int (-1), .bl true]) hz9)
    have ez10 : (upd H9 z9 (.lst [.int (9 + f0), .int (-1), .bl true])) z9 = some (.lst [.int (9 + f0), .int (-1), .bl true]) := upd_same
    generalize upd H9 z9 (.lst [.int (9 + f0), .int (-1), .bl true]) = H10 at s10 ez10
    refine ⟨z9, rfl, ⟨_, SqL.of ez10⟩, ?_⟩
    refine for_it walk_list (fun i σ Hi => ∃ w10 : Option V, σ = [some (.ref a), some (.ref s0), some (.ref p), some (.ref D), some (.ref pg), some (.ref D1), some (.str st), some (.int (9 + f0)), some (.str ag), some (.ref dd), w10, none, none, none] ∧ Same H10 Hi) ⟨_, rfl, Same.refl _⟩ (fun i σ Hi _ ⟨_, _, s⟩ => SqL.of (s _ _ ez10)) ?_ ?_
    · rintro i y σ H11o H11 hi ⟨w10, rfl, s11⟩ ⟨rfl, hy⟩
      have hsz : OddV y ∧ numB y 0 8 = false ∧ ∀ z, y ≠ .str z := by
        have my := List.mem_of_getElem? hy
        simp only [List.mem_cons, List.not_mem_nil, or_false] at my
        rcases my with rfl | rfl | rfl
        · exact ⟨.int _, decide_eq_false (by omega), fun z e => by cases e⟩
        · exact ⟨.int _, by decide, fun z e => by cases e⟩
        · exact ⟨.bl _, rfl, fun z e => by cases e⟩
      obtain ⟨oy, ny, sy⟩ := hsz
      have sA := s10.trans s11
      refine ⟨_, rfl, _, rfl, _, rfl, p, pg, qs, PL, R, y, rfl, sA _ _ hp7, hrs7.mono repPlot_mono sA, by omega, hnm, hg7.same sA, hng, hsm, oy, fun tg vv ee q2 Hq2 nq2 eq2 sq2 => ?_⟩
      rw [gR_tank h14 hdb huk ny] at ee
      cases ee
      refine ⟨_, rfl, bigN (by show 2 ≤ 1000000; decide), fun u2 hu2 => ?_⟩
      have st2 := (s11.trans sq2).trans (Same.new (o := .tup [.str ("tank" : Str), y]) hu2)
      obtain ⟨d2, e2, hd2, he2, sd2, se2, ev2⟩ := pair_eq (K := K) (H := upd Hq2 u2 (.tup [.str ("tank" : Str), y])) (t := ("tank" : Str)) (v := y) (by decide +kernel) oy (fun z e => absurd e (sy z)) (Same.new hu2 _ _ eq2) upd_same
      refine ⟨d2, e2, hd2, he2, sd2, se2, _, rfl, ?_⟩
      rw [ev2]
      refine iteF ?_
      exact ⟨_, rfl, st2⟩
    rintro σ H11 ⟨w10, rfl, s11⟩
    have s12 := s10.trans s11
    -- five
    refine ⟨_, rfl, fun D5 hD5 => ?_⟩
    refine lc_it walk_str (fun i Hi => ∃ ws : List V, Hi D5 = some (.lst ws) ∧ Reps (repPlot C_Plot) Hi ws (plot5.take i) ∧ Same H11 Hi) ⟨[], upd_same, trivial, Same.new hD5⟩ (fun _ _ _ _ => trivial) ?_ ?_
    · rintro i y H13o H13 hi ⟨ws, e13, r13, s13⟩ ⟨rfl, cc, hcc, rfl⟩
      have hcc : (codes ("abcde" : Str))[i]? = some cc := by rw [Array.getElem?_toList]; exact hcc
      have h5 : plot5[i]? = some (⟨#[cc]⟩, 1, 1) := by unfold plot5; rw [List.getElem?_map, hcc]; rfl
      have c5 : ∀ c, c ∈ codes ("abcde" : Str) → 97 ≤ c ∧ c ≤ 122 := by decide +kernel
      have n5 : NmOk 8 ⟨#[cc]⟩ := ⟨by show 1 ≤ 1; decide, by show 1 ≤ 8; decide, fun c hc => by
        have : c = cc := by simpa [codes] using hc
        rw [this]
        exact c5 cc (List.mem_of_getElem? hcc)⟩
      refine ⟨rfl, ?_⟩
      refine ⟨_, rfl, fun x5 dx5 nx5 nd5 ne5 => ?_⟩
      refine plot_make n5 (by decide) (by decide) (by decide) (by decide) nx5 nd5 fun H14 s14 hx14 => ?_
      have lw := r13.len
      have e14 := s14 _ _ e13
      refine ⟨ws, e14, small1000 (by rw [lw, List.length_take]; have := len5; omega), ws ++ [.ref x5], upd_same, ?_, fun b o e => by rw [upd_ne (ne_of_none e hD5)]; exact s14 _ _ (s13 _ _ e)⟩
      rw [take_snoc h5]
      have nlu : NL H14 (upd H14 D5 (.lst (ws ++ [.ref x5]))) := NL.upd e14
      exact Reps.app ((r13.mono repPlot_mono s14).imp (repPlot_nl nlu)) (Reps.one (repPlot_nl nlu _ _ ⟨x5, rfl, hx14⟩))
    rintro H13 ⟨w5, e5, r5, s13⟩
    rw [take_full (show ("abcde" : Str).cps.size = plot5.length by rw [len5]; decide +kernel)] at r5
    have s14 := s12.trans s13
    have lw5 := r5.len
    rw [len5] at lw5
    have hnm5 : ∀ d, d ∈ plot5 → NmOk 8 d.1 := fun d hd => by
      obtain ⟨cc, hcc, rfl⟩ := List.mem_map.mp hd
      have c5 : ∀ c, c ∈ codes ("abcde" : Str) → 97 ≤ c ∧ c ≤ 122 := by decide +kernel
      exact ⟨by show 1 ≤ 1; decide, by show 1 ≤ 8; decide, fun c hc => by
        have : c = cc := by simpa [codes] using hc
        rw [this]
        exact c5 cc hcc⟩
    -- five plots are too many
    refine ⟨_, rfl, fun x15 dx15 nx15 nd15 ne15 => ?_⟩
    refine gates_make (G := []) (xs := []) trivial (fun g hg => by cases hg) ⟨by decide, fun g hg => by cases hg⟩ nx15 nd15 fun H15 s15 hg15 => ?_
    rw [nil_canon] at hg15
    refine ⟨D5, x15, w5, plot5, [], (.int 0), rfl, s15 _ _ e5, r5.mono repPlot_mono s15, by rw [len5]; decide, hnm5, hg15, (fun g hg => by cases hg), ⟨by decide, fun g hg => by cases hg⟩, .int _, fun tg vv ee q3 Hq3 nq3 eq3 sq3 => ?_⟩
    rw [(show gRef plot5 [] (.int 0) = some (("plots" : Str), .int 5) from by rw [gR_plots (by rw [len5]; decide), len5]; rfl)] at ee
    cases ee
    have e55 : (.int 5 : V) = .int (plot5.length : Nat) := by rw [len5]; rfl
    refine ⟨bigN (by show 2 ≤ 1000000; decide), fun u3 hu3 => ?_⟩
    have st3 := ((s14.trans s15).trans sq3).trans (Same.new (o := .tup [.str ("plots" : Str), (.int 5)]) hu3)
    have sv3 := (s15.trans sq3).trans (Same.new (o := .tup [.str ("plots" : Str), (.int 5)]) hu3)
    obtain ⟨d3, e3, hd3, he3, sd3, se3, ev3⟩ := pair_eq (K := K) (H := upd Hq3 u3 (.tup [.str ("plots" : Str), (.int 5)])) (t := ("plots" : Str)) (v := (.int 5)) (by decide +kernel) (.int _) (fun z e => by cases e) (Same.new hu3 _ _ eq3) upd_same
    refine ⟨d3, e3, hd3, he3, sd3, se3, _, rfl, ?_⟩
    rw [ev3]
    refine iteF ?_
    generalize upd Hq3 u3 (.tup [.str ("plots" : Str), .int 5]) = H16 at st3 sv3
    -- four are not
    refine ⟨_, rfl, _, rfl, D5, _, rfl, SqL.of (sv3 _ _ e5), fun D6 hD6 => ?_⟩
    rw [cut_4]
    have s17 := Same.new (o := .lst (w5.take 4)) hD6
    have e17 : (upd H16 D6 (.lst (w5.take 4))) D6 = some (.lst (w5.take 4)) := upd_same
    generalize upd H16 D6 (.lst (w5.take 4)) = H17 at s17 e17
    intro x18 dx18 nx18 nd18 ne18
    refine gates_make (G := []) (xs := []) trivial (fun g hg => by cases hg) ⟨by decide, fun g hg => by cases hg⟩ nx18 nd18 fun H18 s18 hg18 => ?_
    rw [nil_canon] at hg18
    have r18 : Reps (repPlot C_Plot) H18 (w5.take 4) (plot5.take 4) := (r5.take 4).mono repPlot_mono ((sv3.trans s17).trans s18)
    have ss18 := (st3.trans s17).trans s18
    refine ⟨D6, x18, _, plot5.take 4, [], (.int 0), rfl, s18 _ _ e17, r18, by rw [List.length_take, len5]; decide, (fun d hd => hnm5 d (List.mem_of_mem_take hd)), hg18, (fun g hg => by cases hg), ⟨by decide, fun g hg => by cases hg⟩, .int _, fun tg vv ee q4 Hq4 nq4 eq4 sq4 => ?_⟩
    rw [gR_ok (by rw [List.length_take, len5]; decide) dbl5 rfl rfl] at ee
    cases ee
    refine ⟨bigN (by show 2 ≤ 1000000; decide), fun u4 hu4 => ?_⟩
    have st4 := (ss18.trans sq4).trans (Same.new (o := .tup [.str ("none" : Str), (.int 0)]) hu4)
    obtain ⟨d4, e4, hd4, he4, sd4, se4, ev4⟩ := pair_eq (K := K) (H := upd Hq4 u4 (.tup [.str ("none" : Str), (.int 0)])) (t := ("none" : Str)) (v := (.int 0)) (by decide +kernel) (.int 0) (fun z e => by cases e) (Same.new hu4 _ _ eq4) upd_same
    refine ⟨d4, e4, hd4, he4, sd4, se4, _, rfl, ?_⟩
    rw [ev4]
    refine iteF ?_
    generalize upd Hq4 u4 (.tup [.str ("none" : Str), (V.int 0)]) = H19 at st4
    have s19 := st4
    -- a name twice
    refine ⟨fun σ Hh => σ = [some (.ref a), some (.ref s0), some (.ref p), some (.ref D), some (.ref pg), some (.ref D1), some (.str st), some (.int (9 + f0)), some (.str ag), some (.ref dd), w10, some (.ref D5), none, none] ∧ Same H19 Hh, ?_, ?_⟩
    · refine ⟨_, rfl, _, rfl, _, rfl, _, rfl, dd, _, rfl, SqL.of (s19 _ _ ed7), fun D7 hD7 => ?_⟩
      rw [cut_but1]
      have t20 : Same H19 (upd H19 D7 (.lst (qd.take (qd.length - 1)))) := Same.new hD7
      have e20 : (upd H19 D7 (.lst (qd.take (qd.length - 1)))) D7 = some (.lst (qd.take (qd.length - 1))) := upd_same
      generalize upd H19 D7 (.lst (qd.take (qd.length - 1))) = H20 at t20 e20
      have s20 := s19.trans t20
      have r20 : Reps (repPlot C_Plot) H20 (qd.take (qd.length - 1)) PD := by
        have h := (rd7.take (qd.length - 1)).mono repPlot_mono s20
        rw [hlqd, Nat.add_sub_cancel, List.take_left] at h
        rw [hlqd, Nat.add_sub_cancel]
        exact h
      have l20 := r20.len
      refine ⟨D7, rfl, ⟨_, SqL.of e20⟩, fun D8 hD8 => ?_⟩
      refine lc_it walk_list (fun i Hi => Hi D8 = some (.lst ((PD.take i).map fun d => V.str d.1)) ∧ Same H20 Hi) ⟨upd_same, Same.new hD8⟩ (fun i Hi _ q => SqL.of (q.2 _ _ e20)) ?_ ?_
      · rintro i y H21o H21 hi ⟨g21, s21⟩ ⟨rfl, hy⟩
        obtain ⟨d, b, dx, hd, rfl, e⟩ := plots_at r20 hy
        have e1 := s21 _ _ e
        refine ⟨rfl, ?_⟩
        exact ⟨_, rfl, b, C_Plot, dx, _, _, rfl, e1, D_Plot.cls, D_Plot.no _ (by decide), rfl, lc_all (f := fun d : PlotD => V.str d.1) hD8 g21 s21 hd (by omega)⟩
      rintro H21 ⟨g21, t21⟩
      rw [take_full l20] at g21
      have g21 : H21 D8 = some (.lst ((nmsOf PD).map V.str)) := by
        rw [g21]
        unfold nmsOf
        rw [List.map_map]
        rfl
      have s21 := s20.trans t21
      refine ⟨D8, _, rfl, .inl (SqL.of g21), rfl, flat_strs, ?_⟩
      rw [inV_str]
      refine ⟨_, rfl, ?_⟩
      refine ite2 (fun c => ?_) (fun c => ?_)
      · have c : ag ∈ nmsOf PD := of_decide_eq_true c
        have hdd' : dbl (nmsOf (PD ++ [((ag, 3, 3) : PlotD)])) = some ag := by
          unfold nmsOf
          rw [List.map_append]
          exact dblA_last (nmsOf PD) [] ag nPD c
        refine ⟨_, rfl, _, rfl, bigN (by show 1 ≤ 1000000; decide), fun z22 hz22 => ?_⟩
        have t22 : Same H21 (upd H21 z22 (.lst [.str st])) := Same.new hz22
        have e22 : (upd H21 z22 (.lst [.str st])) z22 = some (.lst [.str st]) := upd_same
        generalize upd H21 z22 (.lst [.str st]) = H22 at t22 e22
        intro x23 dx23 nx23 nd23 ne23
        refine gates_make (G := [[st]]) ⟨⟨z22, rfl, .inl e22⟩, trivial⟩ (ng_one nst) (sm_one (by decide)) nx23 nd23 fun H23 t23 hg23 => ?_
        have s23 := (s21.trans t22).trans t23
        have u23 := ((t20.trans t21).trans t22).trans t23
        have ng23 := outer_ng (ng_one nst)
        have sm23 : Sm 60 (Gm.outerG [[st]]) := outer_sm (ng_one nst) (sm_one (by decide))
        refine ⟨_, rfl, dd, x23, qd, PD ++ [(ag, 3, 3)], _, (.int (9 + f0)), rfl, s23 _ _ ed7, rd7.mono repPlot_mono s23, by rw [List.length_append]; show PD.length + 1 ≤ 100; omega, hnmD, hg23, ng23, sm23, .int _, fun tg vv ee q5 Hq5 nq5 eq5 sq5 => ?_⟩
        rw [gR_dbl (by rw [List.length_append]; show 1 ≤ PD.length + 1 ∧ PD.length + 1 ≤ 4; omega) hdd'] at ee
        cases ee
        refine ⟨_, rfl, bigN (by show 2 ≤ 1000000; decide), fun u5 hu5 => ?_⟩
        have st5 := (u23.trans sq5).trans (Same.new (o := .tup [.str ("name" : Str), (.str ag)]) hu5)
        obtain ⟨d5, e5, hd5, he5, sd5, se5, ev5⟩ := pair_eq (K := K) (H := upd Hq5 u5 (.tup [.str ("name" : Str), (.str ag)])) (t := ("name" : Str)) (v := (.str ag)) (by decide +kernel) (Str.odd (n := 8) nag.txt (by decide)) (fun z e => by cases e; exact nag.txt.strOk) (Same.new hu5 _ _ eq5) upd_same
        refine ⟨d5, e5, hd5, he5, sd5, se5, _, rfl, ?_⟩
        rw [ev5]
        refine iteF ?_
        exact ⟨rfl, st5⟩
      · exact ⟨rfl, t20.trans t21⟩
    rintro σ H24 ⟨rfl, t24⟩
    have s24 := s19.trans t24
    -- a name that is no plot's
    refine ⟨fun σ Hh => σ = [some (.ref a), some (.ref s0), some (.ref p), some (.ref D), some (.ref pg), some (.ref D1), some (.str st), some (.int (9 + f0)), some (.str ag), some (.ref dd), w10, some (.ref D5), none, none] ∧ Same H24 Hh, ?_, ?_⟩
    · refine ⟨_, rfl, _, rfl, D1, _, rfl, .inl (SqL.of (s24 _ _ gD7)), rfl, flat_strs, ?_⟩
      rw [inV_str]
      refine ⟨_, rfl, ?_⟩
      refine ite2 (fun c => ?_) (fun c => ?_)
      · have c : ¬ st ∈ zs := fun q => by
          have c : (!decide (st ∈ zs)) = true := c
          rw [decide_eq_true q] at c
          cases c
        have hz0 : zs[0]? = some zs[0] := List.getElem?_eq_getElem (by omega)
        generalize zs[0]'(by omega) = z0 at hz0
        have mz0 := List.mem_of_getElem? hz0
        have ngX : NG [g0, [st, z0]] := fun g hg => by
          simp only [List.mem_cons, List.not_mem_nil, or_false] at hg
          rcases hg with rfl | rfl
          · exact ⟨hzd.sublist hg0, fun z hz => (hzn z (hg0.subset hz)).mono (by decide)⟩
          · refine ⟨List.nodup_cons.mpr ⟨fun m => c (by rw [List.mem_singleton.mp m]; exact mz0), by simp⟩, fun z hz => ?_⟩
            simp only [List.mem_cons, List.not_mem_nil, or_false] at hz
            rcases hz with rfl | rfl
            · exact nst
            · exact (hzn _ mz0).mono (by decide)
        have smX : Sm 2 [g0, [st, z0]] := ⟨by show 2 ≤ 2; decide, fun g hg => by
          simp only [List.mem_cons, List.not_mem_nil, or_false] at hg
          rcases hg with rfl | rfl
          · have := hg0.length_le; omega
          · show 2 ≤ 8; decide⟩
        refine ⟨_, rfl, _, rfl, D, _, _, _, rfl, rfl, SqL.of (s24 _ _ hDD7), rfl, _, rfl, _, rfl, D1, _, _, _, rfl, rfl, SqL.of (s24 _ _ gD7), (by rw [show (0 : Int) = ((0 : Nat) : Int) from rfl]; exact atI_nat (by rw [List.getElem?_map, hz0]; rfl)), bigN (by show 2 ≤ 1000000; decide), fun z25 hz25 => ?_⟩
        have t25 : Same H24 (upd H24 z25 (.lst [.str st, .str z0])) := Same.new hz25
        have e25 : (upd H24 z25 (.lst [.str st, .str z0])) z25 = some (.lst [.str st, .str z0]) := upd_same
        generalize upd H24 z25 (.lst [.str st, .str z0]) = H25 at t25 e25
        intro x26 dx26 nx26 nd26 ne26
        refine gates_make (G := [g0, [st, z0]]) ⟨⟨r0, rfl, .inl (t25 _ _ (s24 _ _ hrr7))⟩, ⟨z25, rfl, .inl e25⟩, trivial⟩ ngX (smX.mono (by decide)) nx26 nd26 fun H26 t26 hg26 => ?_
        have s26 := (s24.trans t25).trans t26
        have u26 := t25.trans t26
        have ng26 := outer_ng ngX
        have sm26 : Sm 60 (Gm.outerG [g0, [st, z0]]) := (outer_sm ngX smX).mono (by decide)
        have hu : unk (Gm.outerG [g0, [st, z0]]) (nmsOf PL) = some st := by
          rw [hzs]
          refine unk_some (fun r hr' z hz => ?_) ?_ c
          · obtain ⟨g, hg, rfl⟩ := outer_mem ngX.vg hr'
            have hz := Gm.srt_mem.mp hz
            simp only [List.mem_cons, List.not_mem_nil, or_false] at hg
            rcases hg with rfl | rfl
            · exact .inr (hg0.subset hz)
            · simp only [List.mem_cons, List.not_mem_nil, or_false] at hz
              rcases hz with rfl | rfl
              · exact .inl rfl
              · exact .inr mz0
          · have e : Gm.dnB (Gm.outerG [g0, [st, z0]]) [st] = true := by
              rw [Gm.outer_down ngX.vg (by simp)]
              exact Gm.dnB_iff.mpr ⟨[st, z0], by simp, Gm.subB_iff.mpr fun z hz => by rw [List.mem_singleton.mp hz]; simp⟩
            obtain ⟨r, hr', q⟩ := Gm.dnB_iff.mp e
            exact ⟨r, hr', Gm.subB_iff.mp q st (by simp)⟩
        refine ⟨_, rfl, p, x26, qs, PL, _, (.int (9 + f0)), rfl, s26 _ _ hp7, hrs7.mono repPlot_mono s26, by omega, hnm, hg26, ng26, sm26, .int _, fun tg vv ee q6 Hq6 nq6 eq6 sq6 => ?_⟩
        rw [gR_unk h14 hdb hu] at ee
        cases ee
        refine ⟨_, rfl, bigN (by show 2 ≤ 1000000; decide), fun u6 hu6 => ?_⟩
        have st6 := (u26.trans sq6).trans (Same.new (o := .tup [.str ("name" : Str), (.str st)]) hu6)
        obtain ⟨d6, e6, hd6, he6, sd6, se6, ev6⟩ := pair_eq (K := K) (H := upd Hq6 u6 (.tup [.str ("name" : Str), (.str st)])) (t := ("name" : Str)) (v := (.str st)) (by decide +kernel) (Str.odd (n := 8) nst.txt (by decide)) (fun z e => by cases e; exact nst.txt.strOk) (Same.new hu6 _ _ eq6) upd_same
        refine ⟨d6, e6, hd6, he6, sd6, se6, _, rfl, ?_⟩
        rw [ev6]
        refine iteF ?_
        exact ⟨rfl, st6⟩
      · exact ⟨rfl, Same.refl _⟩
    rintro σ H27 ⟨rfl, t27⟩
    have s27 := s24.trans t27
    refine ⟨_, rfl, _, rfl, p, pg, qs, PL, R, (.int 0), rfl, s27 _ _ hp7, hrs7.mono repPlot_mono s27, by omega, hnm, hg7.same s27, hng, hsm, .int _, fun tg vv ee q7 Hq7 nq7 eq7 sq7 => ?_⟩
    rw [gR_ok h14 hdb huk rfl] at ee
    cases ee
    refine ⟨bigN (by show 2 ≤ 1000000; decide), fun u7 hu7 => ?_⟩
    have st7 := (s27.trans sq7).trans (Same.new (o := .tup [.str ("none" : Str), (.int 0)]) hu7)
    obtain ⟨d7, e7, hd7, he7, sd7, se7, ev7⟩ := pair_eq (K := K) (H := upd Hq7 u7 (.tup [.str ("none" : Str), (.int 0)])) (t := ("none" : Str)) (v := (.int 0)) (by decide +kernel) (.int 0) (fun z e => by cases e) (Same.new hu7 _ _ eq7) upd_same
    refine ⟨d7, e7, hd7, he7, sd7, se7, _, rfl, ?_⟩
    rw [ev7]
    refine iteF ?_
    generalize upd Hq7 u7 (.tup [.str ("none" : Str), (V.int 0)]) = H28 at st7
    have s28 := st7
    refine ⟨_, rfl, _, rfl, p, pg, qs, PL, R, (.int 8), rfl, s28 _ _ hp7, hrs7.mono repPlot_mono s28, by omega, hnm, hg7.same s28, hng, hsm, .int _, fun tg vv ee q8 Hq8 nq8 eq8 sq8 => ?_⟩
    rw [gR_ok h14 hdb huk rfl] at ee
    cases ee
    refine ⟨bigN (by show 2 ≤ 1000000; decide), fun u8 hu8 => ?_⟩
    have st8 := (s28.trans sq8).trans (Same.new (o := .tup [.str ("none" : Str), (.int 0)]) hu8)
    obtain ⟨d8, e8, hd8, he8, sd8, se8, ev8⟩ := pair_eq (K := K) (H := upd Hq8 u8 (.tup [.str ("none" : Str), (.int 0)])) (t := ("none" : Str)) (v := (.int 0)) (by decide +kernel) (.int 0) (fun z e => by cases e) (Same.new hu8 _ _ eq8) upd_same
    refine ⟨d8, e8, hd8, he8, sd8, se8, ?_⟩
    rw [ev8]
    exact k _
end
end Wb

namespace Wb
open PySem PySem.Spec PyProof.Rows L2 Wx StX NdefX RZ StX PyProof.Rows.FinIter
section
variable {P : Program} {w : World} {K : PySem.W.Frag} {mg : Str → Option Value} {base : Heap}

theorem GroundAt.nl {C CP CG : Addr} {H H' : Hp} {p : Addr} {PL : List PlotD} {R : List (List Str)} {t : Int} (x : GroundAt C CP CG H p PL R t) (k : NL H H') : GroundAt C CP CG H' p PL R t := by
  obtain ⟨dx, q1, q2, gt, q3, e, ⟨q1', xs, e1, h1, r1⟩, h2, h3, h4⟩ := x
  cases e1
  exact ⟨dx, q1, q2, gt, q3, k _ _ e (fun l z => by cases z), ⟨q1, xs, rfl, k _ _ h1 (fun l z => by cases z), r1.imp (repPlot_nl k)⟩, k _ _ h2 (fun l z => by cases z), h3.nl k, repTG_tup (fun b xs e => k _ _ e (fun l z => by cases z)) h4⟩
theorem reps_rev {α : Type} {R : Rep α} {H : Hp} : ∀ {xs : List V} {as : List α}, Reps R H xs as → Reps R H xs.reverse as.reverse
  | [], [], _ => trivial
  | x :: xs, a :: as, h => by
    rw [List.reverse_cons, List.reverse_cons]
    exact Reps.app (reps_rev h.2) (Reps.one h.1)
  | [], _ :: _, h => by cases h
  | _ :: _, [], h => by cases h

theorem ground_make {K : PySem.W.Frag} {C CP CG CN CM : Addr} {H : Hp} {a gt : Addr} {xs : List V} {PL : List PlotD} {R : List (List Str)} {i : Int} {Rr : Hp → Prop} {E : XK} (hr : gRef PL R (.int i) = none) (ha : H a = some (.lst xs)) (hs : Reps (repPlot CP) H xs PL) (hl : PL.length ≤ 100) (hn : ∀ d, d ∈ PL → NmOk 8 d.1) (hg : GatesAt CG H gt R) (hng : NG R) (hsm : Sm 60 R)
    {x dx : Addr} (nx : H x = none) (nd : H dx = none) (k : ∀ H', Same H H' → GroundAt C CP CG H' x PL R i → Rr H') : spGround_init K C CP CG CN CM [.ref x, .ref a, .ref gt, .int i] (upd (upd H dx (.own x)) x (.ins C dx [])) (fun v H2 => v = .non ∧ Rr H2) E := by
  have sm : Same H (upd (upd H dx (.own x)) x (.ins C dx [])) := fun b o e => by rw [upd_ne (ne_of_none e nx), upd_ne (ne_of_none e nd)]; exact e
  refine ⟨x, dx, a, gt, xs, PL, R, .int i, rfl, upd_same, sm _ _ ha, hs.mono repPlot_mono sm, hl, hn, hg.same sm, hng, hsm, .int _, fun j ej e H' fr hgr => ⟨rfl, k H' (fr.same nx nd) (by cases ej; exact hgr)⟩, fun v e => ?_, fun tag v e => ?_⟩
  · rw [hr] at e
    cases e
  · rw [hr] at e
    cases e
theorem two {H : Hp} {xs : List V} {G : List (List Str)} (h : Reps repLs H xs G) (l : G.length = 2) : ∃ q0 q1 g0 g1, xs = [.ref q0, .ref q1] ∧ G = [g0, g1] ∧ H q0 = some (.lst (g0.map V.str)) ∧ H q1 = some (.lst (g1.map V.str)) := by
  have hl := h.len
  match G, l with
  | [g0, g1], _ =>
    match xs, hl with
    | [x0, x1], _ =>
      obtain ⟨⟨q0, rfl, e0⟩, ⟨q1, rfl, e1⟩, _⟩ := h
      exact ⟨q0, q1, g0, g1, rfl, rfl, e0, e1⟩
theorem outer_swap {g0 g1 : List Str} (h : NG [g0, g1]) : Gm.outerG [g1, g0] = Gm.outerG [g0, g1] := by
  have k : NG [g1, g0] := fun g hg => h g (by
    simp only [List.mem_cons, List.not_mem_nil, or_false] at hg ⊢
    exact hg.symm)
  refine outer_ext k h fun t => ?_
  unfold inG Gm.dnB
  simp only [List.any_cons, List.any_nil, Bool.or_false]
  rw [Bool.or_comm (Gm.subB t g1)]
theorem rev_ne {PL : List PlotD} (h : (nmsOf PL).Nodup) (l : 2 ≤ PL.length) : ¬ PL = PL.reverse := fun e => by
  have h0 : PL[0]? = some PL[0] := List.getElem?_eq_getElem (by omega)
  have h1 : PL.reverse[0]? = PL[PL.length - 1]? := by rw [List.getElem?_reverse (by omega)]; congr 1
  rw [← e, h0] at h1
  have n0 := nms_at h0
  have n1 := nms_at h1.symm
  have i0 : 0 < (nmsOf PL).length := by rw [nms_len]; omega
  have := (List.getElem?_inj i0 h).mp (n0.trans n1.symm)
  omega

theorem oklaw {f : Addr} {fd : FuncData} (F : Fun K "law" "law" slaw f fd) (T : Txt K mg) {C_Plot fpi fpe : Addr} (D_Plot : DatC K mg "Plot" C_Plot fpi fpe ["name", "hold", "drink"]) {fdpi : FuncData} (GPlot___init__ : FnOk P w K mg base CX0 5 fpi fdpi PPlot___init__ (spPlot_initT C_Plot)) (bPlot___init__ : Binds K fdpi PPlot___init__ []) {fdpe : FuncData} (GPlot___eq__ : FnOk P w K mg base CX0 1 fpe fdpe PPlot___eq__ (spPlot_eq C_Plot)) (bPlot___eq__ : Binds K fdpe PPlot___eq__ []) {C_Gates fgi fge : Addr} (D_Gates : DatC K mg "Gates" C_Gates fgi fge ["groups"]) (GGates___init__ : FnR P w K mg base (L2.CX P w) 5 fgi (spStar 1 (spGates_init C_Gates))) {fdge : FuncData} (GGates___eq__ : FnOk P w K mg base CX0 1 fge fdge PGates___eq__ (spGates_eq C_Gates)) (bGates___eq__ : Binds K fdge PGates___eq__ []) {C_Ground fri fre : Addr} (D_Ground : DatC K mg "Ground" C_Ground fri fre ["_tank", "plots", "names", "gates", "_turns"]) {fdri fdre : FuncData} {C_BadName C_BadNumber : Addr} (GGround___init__ : FnOk P w K mg base (L2.CX P w) 7 fri fdri PGround___init__ (spGround_init K C_Ground C_Plot C_Gates C_BadName C_BadNumber)) (bGround___init__ : Binds K fdri PGround___init__ []) (GGround___eq__ : FnOk P w K mg base CX0 3 fre fdre PGround___eq__ (spGround_eq C_Ground C_Plot C_Gates)) (bGround___eq__ : Binds K fdre PGround___eq__ []) {prp fcap : Addr} {fdcap : FuncData} (PR_Ground_capacity : PropOf K C_Ground "capacity" prp fcap) (GGround_capacity : FnOk P w K mg base CX0 1 fcap fdcap PGround_capacity (spGround_capacity C_Ground C_Plot C_Gates)) (bGround_capacity : Binds K fdcap PGround_capacity []) (C_law_start : Cal P w K mg base "_law_start" P_law_start 1 (sp_law_start K)) (C_law_draw : Cal P w K mg base "_law_draw" P_law_draw 1 (sp_law_draw K)) (C_law_names : Cal P w K mg base "_law_names" P_law_names 2 (sp_law_names K)) (C_law_refusals_hold : Cal P w K mg base "_law_refusals_hold" P_law_refusals_hold 10 (sp_law_refusals_hold K C_Plot C_Gates)) : FnOk P w K mg base CX0 12 f fd Plaw (splaw K) := by
  obtain ⟨g_law_start, gd_law_start, G_law_start, m_law_start, k_law_start, b_law_start⟩ := C_law_start.ex
  obtain ⟨g_law_draw, gd_law_draw, G_law_draw, m_law_draw, k_law_draw, b_law_draw⟩ := C_law_draw.ex
  obtain ⟨g_law_names, gd_law_names, G_law_names, m_law_names, k_law_names, b_law_names⟩ := C_law_names.ex
  obtain ⟨g_law_refusals_hold, gd_law_refusals_hold, G_law_refusals_hold, m_law_refusals_hold, k_law_refusals_hold, b_law_refusals_hold⟩ := C_law_refusals_hold.ex
  refine F.ok sclaw (fun vs H Q E h => ?_) (fun cdv A outer s H vs Q E hr h => ?_)
  · obtain ⟨a, ns, rfl, hS, hlen, k⟩ := h
    rfl
  · obtain ⟨a, ns, rfl, hS, hlen, k⟩ := h
    refine ⟨_, (pss_cons (ps_set (i := 1) sclaw.nd rfl (by first | exact Or.inl rfl | exact Or.inr rfl) (pe_call G_law_start (hr.mono (by decide)) (by rfl) m_law_start k_law_start b_law_start .nil pass0 (pa_cons (pv 0) pa_nil)))
  (pss_cons (ps_set (i := 2) sclaw.nd rfl (by first | exact Or.inl rfl | exact Or.inr rfl) (pe_call G_law_names (hr.mono (by decide)) (by rfl) m_law_names k_law_names b_law_names .nil pass0 (pa_cons (pv 0) (pa_cons (pv 1) (pa_cons (pe_op op_add pe_int (pe_call G_law_draw (hr.mono (by decide)) (by rfl) m_law_draw k_law_draw b_law_draw .nil pass0 (pa_cons (pv 0) (pa_cons (pv 1) (pa_cons pe_int pa_nil))))) pa_nil)))))
  (pss_cons (ps_set (i := 3) sclaw.nd rfl (by first | exact Or.inl rfl | exact Or.inr rfl) (pe_lst pa_nil))
  (pss_cons (ps_for PassesOwn.never rfl (pi_list (pv 2)) (pg_name (i := 4) sclaw.nd rfl (by first | exact Or.inl rfl | exact Or.inr rfl))
  (pss_cons (ps_set (i := 5) sclaw.nd rfl (by first | exact Or.inl rfl | exact Or.inr rfl) (pe_op op_add pe_int (pe_call G_law_draw (hr.mono (by decide)) (by rfl) m_law_draw k_law_draw b_law_draw .nil pass0 (pa_cons (pv 0) (pa_cons (pv 1) (pa_cons pe_int pa_nil))))))
  (pss_one (ps_expr (pe_bm PySem.F.plainAttrs_list PySem.F.slot_list_append PySem.F.type_list_append mt_append (pv 3) (pa_cons (pe_makeS (E := fun _ => E0) D_Plot.mkk GPlot___init__ (hr.mono (by decide)) (by rfl) D_Plot.g bPlot___init__ (fun _ _ _ _ _ _ _ c => c.elim) (pa_cons (pv 4) (pa_cons (pv 5) (pa_cons (pe_op op_add pe_int (pe_call G_law_draw (hr.mono (by decide)) (by rfl) m_law_draw k_law_draw b_law_draw .nil pass0 (pa_cons (pv 0) (pa_cons (pv 1) (pa_cons pe_int pa_nil))))) pa_nil)))) pa_nil))))))
  (pss_cons (ps_setLc (i := 6) (own := [("k", 12)]) rfl sclaw.nd rfl rfl (sw_true rfl rfl rfl (by decide +kernel)) (pi_range1 rfl T.b_range (pa_cons pe_int pa_nil)) (blkOk_by (own := [("k", 12)]) (N := Nlaw) (sc := defScope slaw) (by decide +kernel)) (fun _ _ _ _ _ => (pg_name (i := 12) sclaw.nd rfl (by first | exact Or.inl rfl | exact Or.inr rfl))) (fun _ _ _ _ _ => pts_nil) (fun _ _ _ _ _ => (pe_lc (own := [("name", 4)]) rfl sclaw.nd (pi_listK (K0 := K) rfl (pv 2)) (blkOk_by (own := [("name", 4)]) (N := Nlaw) (sc := { kind := .function, names := [(".0", .local), ("k", .local), ("names", .cell), ("script", .cell), ("state", .cell)], isGenerator := false, isCoroutine := false }) (by decide +kernel)) (fun _ _ _ _ _ => (pg_name (i := 4) sclaw.nd rfl (by first | exact Or.inl rfl | exact Or.inr rfl))) (fun _ _ _ _ _ => (pts_one (pt_cmpR op_gt (pe_call G_law_draw (hr.mono (by decide)) (by rfl) m_law_draw k_law_draw b_law_draw .nil pass0 (pa_cons (pv 0) (pa_cons (pv 1) (pa_cons pe_int pa_nil)))) pe_int (nomark _)))) (fun _ _ _ _ _ => (pv 4)))))
  (pss_cons (ps_set (i := 7) sclaw.nd rfl (by first | exact Or.inl rfl | exact Or.inr rfl) (pe_makeRS D_Gates.mkk GGates___init__ (hr.mono (by decide)) (by rfl) D_Gates.g (fun σ => passAt takes0 σ) (pa_cons (pe_ix ix_list (pv 6) pe_int (fun _ _ => rfl)) (pa_cons (pe_ix ix_list (pv 6) pe_int (fun _ _ => rfl)) pa_nil))))
  (pss_cons (ps_set (i := 8) sclaw.nd rfl (by first | exact Or.inl rfl | exact Or.inr rfl) (pe_call G_law_draw (hr.mono (by decide)) (by rfl) m_law_draw k_law_draw b_law_draw .nil pass0 (pa_cons (pv 0) (pa_cons (pv 1) (pa_cons pe_int pa_nil)))))
  (pss_cons (ps_set (i := 9) sclaw.nd rfl (by first | exact Or.inl rfl | exact Or.inr rfl) (pe_callTy (T := "list") call_list_of (by rfl) T.b_list (by decide +kernel) (pa_cons (pv 3) pa_nil)))
  (pss_cons (ps_set (i := 10) sclaw.nd rfl (by first | exact Or.inl rfl | exact Or.inr rfl) (pe_makeS D_Ground.mkk GGround___init__ (hr.mono (by decide)) (by rfl) D_Ground.g bGround___init__ (fun σ => passAt takes0 σ) (pa_cons (pv 9) (pa_cons (pv 7) (pa_cons (pv 8) pa_nil)))))
  (pss_cons (ps_if (pt_cmpR (op_neR (rc_L (.inr ⟨rfl, rfl⟩) repPlot_mono (eqR_Plot GPlot___eq__ D_Plot.eq D_Plot.fe bPlot___eq__)) (hr.mono (by decide))) (pv 9) (pv 3) (nomark _))
  (pss_one (ps_ret pe_bl))
  pss_nil)
  (pss_cons (ps_expr (pe_bm PySem.F.plainAttrs_list PySem.F.slot_list_append PySem.F.type_list_append mt_append (pv 9) (pa_cons (pe_ix ix_list (pv 3) pe_int (fun _ _ => rfl)) pa_nil)))
  (pss_cons (ps_asg (pe_makeS (E := fun _ => E0) D_Plot.mkk GPlot___init__ (hr.mono (by decide)) (by rfl) D_Plot.g bPlot___init__ (fun _ _ _ _ _ _ _ c => c.elim) (pa_cons pe_str (pa_cons pe_int (pa_cons pe_int pa_nil)))) (pg_sub (pv 9) pe_int set_list))
  (pss_cons (ps_if (PW.pt (pw_or (pt_cmpR (op_neR (rc_T (.inr ⟨rfl, rfl⟩) repPlot_mono (eqR_Plot GPlot___eq__ D_Plot.eq D_Plot.fe bPlot___eq__)) (hr.mono (by decide))) (pe_fld (pv 10) rfl) (pe_callTy (T := "tuple") call_tuple_of (by rfl) T.b_tuple (by decide +kernel) (pa_cons (pv 3) pa_nil)) (nomark _)) (pw_or1 (pt_cmpR (op_neD hr.units) (pe_fld (pv 10) rfl) (pe_callTy (T := "tuple") call_tuple_of (by rfl) T.b_tuple (by decide +kernel) (pa_cons (pv 2) pa_nil)) (nomark _)))))
  (pss_one (ps_ret pe_bl))
  pss_nil)
  (pss_cons (ps_if (PW.pt (pw_or (pt_not (pt_cmpR (op_eqI GGates___eq__ (hr.mono (by decide)) D_Gates.eq D_Gates.fe bGates___eq__ pass0) (pe_fld (pv 10) rfl) (pv 7) (nomark _))) (pw_or1 (pt_cmpR op_ne (pe_prop (pv 10) D_Ground.cls PR_Ground_capacity GGround_capacity (hr.mono (by decide)) bGround_capacity .nil pass0 rfl) (pv 8) (nomark _)))))
  (pss_one (ps_ret pe_bl))
  pss_nil)
  (pss_cons (ps_set (i := 11) sclaw.nd rfl (by first | exact Or.inl rfl | exact Or.inr rfl) (pe_makeS D_Ground.mkk GGround___init__ (hr.mono (by decide)) (by rfl) D_Ground.g bGround___init__ (fun σ => passAt takes0 σ) (pa_cons (pe_callTy (T := "list") call_list_of (by rfl) T.b_list (by decide +kernel) (pa_cons (pv 3) pa_nil)) (pa_cons (pe_makeRS D_Gates.mkk GGates___init__ (hr.mono (by decide)) (by rfl) D_Gates.g (fun σ => passAt takes0 σ) (pa_cons (pe_ix ix_list (pv 6) pe_int (fun _ _ => rfl)) (pa_cons (pe_ix ix_list (pv 6) pe_int (fun _ _ => rfl)) pa_nil))) (pa_cons (pv 8) pa_nil)))))
  (pss_cons (ps_if (PW.pt (pw_or (pt_not (pt_cmpR (op_eqI GGround___eq__ (hr.mono (by decide)) D_Ground.eq D_Ground.fe bGround___eq__ pass0) (pv 10) (pv 11) (nomark _))) (pw_or1 (pt_cmpR (op_neI GGround___eq__ (hr.mono (by decide)) D_Ground.ne D_Ground.ob D_Ground.eq D_Ground.fe bGround___eq__ pass0) (pv 10) (pv 11) (nomark _)))))
  (pss_one (ps_ret pe_bl))
  pss_nil)
  (C8.pss_cut (ps_if (PW.pt (pw_and (pt_cmpR (op_eqI GGround___eq__ (hr.mono (by decide)) D_Ground.eq D_Ground.fe bGround___eq__ pass0) (pv 10) (pe_makeS D_Ground.mkk GGround___init__ (hr.mono (by decide)) (by rfl) D_Ground.g bGround___init__ (fun σ => passAt takes0 σ) (pa_cons (pe_callTy (T := "list") call_list_of (by rfl) T.b_list (by decide +kernel) (pa_cons (pv 3) pa_nil)) (pa_cons (pv 7) (pa_cons (pe_op op_sub pe_int (pv 8)) pa_nil)))) (nomark _)) (pw_and1 (pt_cmpR op_ne (pv 8) pe_int (nomark _)))))
  (pss_one (ps_ret pe_bl))
  pss_nil)
  (C8.pss_cut (ps_if (PW.pt (pw_and (pt_cmpR op_gt (pe_callB call_len_seq (by rfl) T.b_len PySem.boot_len (pa_cons (pv 2) pa_nil)) pe_int (nomark _)) (pw_and1 (pt_cmpR (op_eqI GGround___eq__ (hr.mono (by decide)) D_Ground.eq D_Ground.fe bGround___eq__ pass0) (pv 10) (pe_makeS D_Ground.mkk GGround___init__ (hr.mono (by decide)) (by rfl) D_Ground.g bGround___init__ (fun σ => passAt takes0 σ) (pa_cons (pe_rev (pv 3) (pe_un un_neg pe_int)) (pa_cons (pv 7) (pa_cons (pv 8) pa_nil)))) (nomark _)))))
  (pss_one (ps_ret pe_bl))
  pss_nil)
  (pss_one (ps_ret (pe_call G_law_refusals_hold (hr.mono (by decide)) (by rfl) m_law_refusals_hold k_law_refusals_hold b_law_refusals_hold .nil pass0 (pa_cons (pv 0) (pa_cons (pv 1) (pa_cons (pv 3) (pa_cons (pv 6) (pa_cons (pv 7) pa_nil)))))))))))))))))))))))))), ?_⟩
    refine ⟨_, rfl, a, ns, rfl, hS, hlen, fun s0 H1 s1 n1 sc1 => ?_⟩
    refine ⟨_, rfl, _, rfl, _, rfl, _, rfl, a, s0, 4, rfl, sc1, by decide, by decide, fun m H2 m0 m1 f2 sc2 => ⟨_, _, rfl, rfl, ?_⟩⟩
    refine ⟨a, s0, _, rfl, sc2, by omega, by omega, fun n H3 zs nn en hzl hzn hzd f3 sc3 => ?_⟩
    have nnm : ¬ n ∈ [s0] := fun y => sc2.ne nn (by simpa using y)
    have hz4 : zs.length ≤ 4 := by omega
    have hz1 : 1 ≤ zs.length := by omega
    have hn3 : (hid [s0] H3) n = some (.lst (zs.map V.str)) := by rw [hid_eq nnm]; exact en
    -- plots
    refine ⟨bigN (by show 0 ≤ _; exact Nat.zero_le _), fun p hp => ?_⟩
    have nps : ¬ p = s0 := sc3.ne hp
    have npm : ¬ p ∈ [s0] := fun y => nps (by simpa using y)
    have npn : p ≠ n := fun e => by rw [e, en] at hp; cases hp
    have s34 : Same H3 (upd H3 p (.lst [])) := Same.new hp
    have ep4 : (upd H3 p (.lst [])) p = some (.lst []) := upd_same
    generalize upd H3 p (.lst []) = H4 at s34 ep4
    have sc4 : Scr K H4 a s0 := sc3.same s34
    have en4 := s34 _ _ en
    refine ⟨_, rfl, n, rfl, ⟨_, SqL.of en4⟩, ?_⟩
    have nk : ∀ {Hi : Hp}, Frm [p, s0] H4 Hi → Hi n = some (.lst (zs.map V.str)) := fun {Hi} f => f _ _ (fun y => by
      rcases List.mem_cons.mp y with y | y
      · exact npn y.symm
      · exact nnm y) en4
    refine for_it walk_list (fun i σ Hi => ∃ (w4 w5 : Option V) (qs : List V) (PL : List PlotD), σ = [some (.ref a), some (.ref s0), some (.ref n), some (.ref p), w4, w5, none, none, none, none, none, none, none] ∧ Hi p = some (.lst qs) ∧ Reps (repPlot C_Plot) Hi qs PL ∧ nmsOf PL = zs.take i ∧ Frm [p, s0] H4 Hi ∧ Scr K Hi a s0)
      ⟨_, _, [], [], rfl, ep4, trivial, rfl, Frm.refl _ _, sc4⟩ (fun i σ Hi _ ⟨_, _, _, _, _, _, _, _, f, _⟩ => SqL.of (nk f)) ?_ ?_
    · rintro i x σ H5o H5 hi ⟨w4, w5, qs, PL, rfl, ep, rq, hPL, f5, sc⟩ ⟨rfl, hx⟩
      obtain ⟨z, hz, rfl⟩ := strs_at hx
      have hi4 := (List.getElem?_eq_some_iff.mp hz).1
      have lPL : PL.length = i := by rw [← nms_len, hPL, List.length_take]; omega
      have lq := rq.len
      refine ⟨_, rfl, _, rfl, a, s0, 8, rfl, sc, by decide, by decide, fun hd H6 h60 h61 f6 sc6 => ⟨_, _, rfl, rfl, ?_⟩⟩
      have ep6 := f6 _ _ npm ep
      refine ⟨_, rfl, .inl ⟨rfl, _, SqL.of ep6⟩, _, rfl, _, rfl, _, rfl, _, rfl, a, s0, 8, rfl, sc6, by decide, by decide, fun dr H7 h70 h71 f7 sc7 => ⟨_, _, rfl, rfl, ?_⟩⟩
      intro x dx nx nd ne
      refine plot_make ((hzn z (List.mem_of_getElem? hz)).mono (by decide)) (by omega) (by omega) (by omega) (by omega) nx nd fun H8 s8 hx8 => ?_
      have ep8 := s8 _ _ (f7 _ _ npm ep6)
      have nl8 : NL H5 H8 := ((NL.frm f6 sc.2).trans (NL.frm f7 sc6.2)).trans (NL.same s8)
      have sc8 := sc7.same s8
      refine ⟨p, _, _, rfl, rfl, ep8, small1000 (by omega), ?_⟩
      have nlu : NL H8 (upd H8 p (.lst (qs ++ [.ref x]))) := NL.upd ep8
      have fA : Frm [p, s0] H4 (upd H8 p (.lst (qs ++ [.ref x]))) := (((f5.trans (f6.mono (fun b h => List.mem_cons_of_mem _ h))).trans (f7.mono (fun b h => List.mem_cons_of_mem _ h))).trans (Frm.of_same s8)).put' List.mem_cons_self
      refine ⟨_, _, qs ++ [.ref x], PL ++ [(z, 1 + hd, 1 + dr)], rfl, upd_same, Reps.app ((rq.imp (repPlot_nl nl8)).imp (repPlot_nl nlu)) (Reps.one (repPlot_nl nlu _ _ ⟨x, rfl, hx8⟩)), ?_, fA, ?_⟩
      · unfold nmsOf at hPL ⊢
        rw [List.map_append, hPL, take_snoc hz]
        rfl
      · have f3A : Frm [p, s0] H3 (upd H8 p (.lst (qs ++ [.ref x]))) := (Frm.of_same s34).trans fA
        exact scr_of sc3 hp f3A (st4_upd sc8.2 nps)
    rintro σ H5 ⟨w4, w5, qs, PL, rfl, ep5, rq5, hzs, f5, sc5⟩
    rw [len_strs, List.take_length] at hzs
    have en5 := nk f5
    have hn5 : (hid [s0] H5) n = some (.lst (zs.map V.str)) := by rw [hid_eq nnm]; exact en5
    have hp5 : (hid [s0] H5) p = some (.lst qs) := by rw [hid_eq npm]; exact ep5
    have lPL : PL.length = zs.length := by rw [← nms_len, hzs]
    clear sc1 sc2 sc3 sc4 f5
    -- rows
    refine ⟨_, rfl, by decide, by decide, fun D hD => ?_⟩
    have nDs : ¬ D = s0 := sc5.ne hD
    have nDm : ¬ D ∈ [s0] := fun y => nDs (by simpa using y)
    refine lc_it walk_range (fun i Hi => ∃ (rs : List V) (G : List (List Str)), Hi D = some (.lst rs) ∧ Reps (repR [D]) (hid [s0] Hi) rs G ∧ G.length = i ∧ (∀ g, g ∈ G → g.Sublist zs) ∧ Frm [s0] H5 Hi ∧ Scr K Hi a s0) ⟨[], [], upd_same, trivial, rfl, (fun g hg => by cases hg), Frm.new hD, sc5.same (Same.new hD)⟩ (fun _ _ _ _ => trivial) ?_ ?_
    · rintro i x H6o H6 hi ⟨rs, G, e6, r6, hGl, hGs, f6, sc6⟩ ⟨rfl, rfl⟩
      have hn6 := hid_frm f6 _ _ hn5
      refine ⟨rfl, ?_⟩
      refine ⟨_, rfl, n, rfl, ⟨_, SqL.of (hid_same _ _ _ _ hn6)⟩, fun D2 hD2 => ?_⟩
      have n2s : ¬ D2 = s0 := sc6.ne hD2
      have n2m : ¬ D2 ∈ [s0] := fun y => n2s (by simpa using y)
      have n2D : ¬ D2 ∈ [D] := fun y => by rw [show D2 = D by simpa using y, e6] at hD2; cases hD2
      refine lc_it walk_list (fun j Hj => ∃ g : List Str, Hj D2 = some (.lst (g.map V.str)) ∧ g.Sublist (zs.take j) ∧ Frm [s0] H6 Hj ∧ Scr K Hj a s0) ⟨[], upd_same, List.Sublist.refl _, Frm.new hD2, sc6.same (Same.new hD2)⟩ (fun j Hj _ ⟨_, _, _, f, _⟩ => SqL.of (hid_same _ _ _ _ (hid_frm f _ _ hn6))) ?_ ?_
      · rintro j y H7o H7 hj ⟨g, e7, sg, f7, sc7⟩ ⟨rfl, hy⟩
        obtain ⟨z, hz, rfl⟩ := strs_at hy
        refine ⟨rfl, ?_⟩
        refine ⟨_, rfl, _, rfl, a, s0, 3, rfl, sc7, by decide, by decide, fun d H8 d0 d1 f8 sc8 => ?_⟩
        have e8 := f8 _ _ n2m e7
        refine ⟨_, _, rfl, rfl, _, rfl, ?_⟩
        refine ite2 (fun c => ?_) (fun c => ?_)
        · have lg := sg.length_le
          rw [List.length_take] at lg
          refine ⟨_, rfl, _, e8, small1000 (by rw [len_strs]; omega), g ++ [z], by rw [upd_same, List.map_append]; rfl, ?_, fun b o nb e => by rw [upd_ne (ne_of_none e hD2)]; exact f8 _ _ nb (f7 _ _ nb e), ?_⟩
          · rw [take_snoc hz]
            exact sg.append (List.Sublist.refl _)
          · exact scr_of sc6 hD2 (((f7.trans f8).mono (fun b h => List.mem_cons_of_mem _ h)).put' List.mem_cons_self) (st4_upd sc8.2 n2s)
        · refine ⟨g, e8, ?_, f7.trans f8, sc8⟩
          rw [take_snoc hz]
          exact sg.trans (List.sublist_append_left _ _)
      rintro H7 ⟨g, e7, sg, f7, sc7⟩
      rw [len_strs, List.take_length] at sg
      have e67 := f7 _ _ nDm e6
      have l6 := r6.len
      refine ⟨rs, e67, small1000 (by have : i < 2 := hi; omega), rs ++ [.ref D2], G ++ [g], upd_same, ?_, by rw [List.length_append, hGl]; rfl, fun g2 hg2 => ?_, fun b o nb e => by rw [upd_ne (ne_of_none e hD)]; exact f7 _ _ nb (f6 _ _ nb e), ?_⟩
      · rw [hid_upd nDm]
        exact Reps.app ((r6.mono repR_mono (hid_frm f7)).imp fun _ _ h => h.upd (by simp)) (Reps.one (repR.upd (by simp) ⟨D2, rfl, n2D, by rw [hid_eq n2m]; exact e7⟩))
      · rcases List.mem_append.mp hg2 with h | h
        · exact hGs g2 h
        · rw [List.mem_singleton.mp h]
          exact sg
      · exact scr_of sc5 hD (((f6.trans f7).mono (fun b h => List.mem_cons_of_mem _ h)).put' List.mem_cons_self) (st4_upd sc7.2 nDs)
    rintro H6 ⟨rs, G, e6, r6, hGl, hGs, f6, sc6⟩
    have nl6 : NL H5 H6 := NL.frm f6 sc5.2
    have rq6 := rq5.imp (repPlot_nl nl6)
    have hn6 := hid_frm f6 _ _ hn5
    have hp6 := hid_frm f6 _ _ hp5
    have hD6 : (hid [s0] H6) D = some (.lst rs) := by rw [hid_eq nDm]; exact e6
    obtain ⟨r0, r1, g0, g1, rfl, rfl, a0, a1⟩ := two (r6.imp fun _ _ h => h.l) hGl
    have sm6 := hid_same [s0] H6
    have sub0 := hGs g0 (by simp)
    have sub1 := hGs g1 (by simp)
    have ngG : NG [g0, g1] := fun g hg => ⟨hzd.sublist (hGs g hg), fun z hz => (hzn z ((hGs g hg).subset hz)).mono (by decide)⟩
    have smG : Sm 2 [g0, g1] := ⟨by show 2 ≤ 2; decide, fun g hg => by have := (hGs g hg).length_le; omega⟩
    have ngG2 : NG [g1, g0] := fun g hg => ngG g (by
      simp only [List.mem_cons, List.not_mem_nil, or_false] at hg ⊢
      exact hg.symm)
    have smG2 : Sm 2 [g1, g0] := ⟨by show 2 ≤ 2; decide, fun g hg => smG.2 g (by
      simp only [List.mem_cons, List.not_mem_nil, or_false] at hg ⊢
      exact hg.symm)⟩
    have hsw := outer_swap ngG
    -- gates
    refine ⟨_, rfl, D, _, _, _, rfl, rfl, SqL.of e6, rfl, _, rfl, D, _, _, _, rfl, rfl, SqL.of e6, rfl, ?_⟩
    intro pg dxg nxg ndg neg
    refine gates_make (G := [g0, g1]) ⟨⟨r0, rfl, .inl (sm6 _ _ a0)⟩, ⟨r1, rfl, .inl (sm6 _ _ a1)⟩, trivial⟩ ngG (smG.mono (by decide)) nxg ndg fun H7 s7 hg7 => ?_
    have ngR := outer_ng ngG
    have smR : Sm 60 (Gm.outerG [g0, g1]) := (outer_sm ngG smG).mono (by decide)
    have subR : ∀ r, r ∈ Gm.outerG [g0, g1] → ∀ z, z ∈ r → z ∈ zs := fun r hr' z hz => by
      obtain ⟨g, hg, rfl⟩ := outer_mem ngG.vg hr'
      exact (hGs g hg).subset (Gm.srt_mem.mp hz)
    generalize hRR : Gm.outerG [g0, g1] = R at hg7 ngR smR subR hsw
    have sc7 := sc6.same s7
    have S7 : Same (hid [s0] H6) (hid [s0] H7) := hid_frm (Frm.of_same s7)
    -- tank
    refine ⟨_, rfl, _, rfl, a, s0, 9, rfl, sc7, by decide, by decide, fun tk H8 tk0 tk1 f8 sc8 => ?_⟩
    have F8 := hid_frm f8
    have nl8 : NL H6 H8 := (NL.same s7).trans (NL.frm f8 sc7.2)
    have rq8 := rq6.imp (repPlot_nl nl8)
    have hg8 := hg7.nl (NL.frm f8 sc7.2)
    have hn8' := F8 _ _ (S7 _ _ hn6)
    have hp8' := F8 _ _ (S7 _ _ hp6)
    have hD8' := F8 _ _ (S7 _ _ hD6)
    have a0' := F8 _ _ (S7 _ _ a0)
    have a1' := F8 _ _ (S7 _ _ a1)
    have sm8 := hid_same [s0] H8
    have hn8 := sm8 _ _ hn8'
    have hp8 := sm8 _ _ hp8'
    have hD8 := sm8 _ _ hD8'
    have b0 := sm8 _ _ a0'
    have b1 := sm8 _ _ a1'
    clear a0 a1 hn6 hp6 hD6 e6 r6 sc5 sc6 sc7 rq6 rq5 hg7 hn5 hp5 en5 ep5 f6 f8
    have hlq := rq8.len
    have hnm : ∀ d, d ∈ PL → NmOk 8 d.1 := fun d hd => (hzn d.1 (by rw [← hzs]; exact List.mem_map.mpr ⟨d, hd, rfl⟩)).mono (by decide)
    have h14 : 1 ≤ PL.length ∧ PL.length ≤ 4 := by omega
    have hdb : dbl (nmsOf PL) = none := dbl_nodup (by rw [hzs]; exact hzd)
    have huk : unk R (nmsOf PL) = none := unk_none (by rw [hzs]; exact subR)
    have hok : ∀ i : Int, 0 ≤ i → i ≤ 8 → gRef PL R (.int i) = none := fun i h0 h8 => gR_ok h14 hdb huk (decide_eq_true ⟨h0, h8⟩)
    -- passed
    refine ⟨_, rfl, p, _, rfl, .inl (SqL.of hp8), fun pz hpz => ?_⟩
    have s9 : Same H8 (upd H8 pz (.lst qs)) := Same.new hpz
    have ez9 : (upd H8 pz (.lst qs)) pz = some (.lst qs) := upd_same
    generalize upd H8 pz (.lst qs) = H9 at s9 ez9
    have npz : ∀ {b : Addr} {o : HO}, H8 b = some o → b ≠ pz := fun e z => by rw [z, hpz] at e; cases e
    -- ground
    refine ⟨_, rfl, _, rfl, _, rfl, ?_⟩
    intro xg dxr nxr ndr ner
    refine ground_make (hok tk tk0 (by omega)) ez9 (rq8.mono repPlot_mono s9) (by omega) hnm (hg8.same s9) ngR smR nxr ndr fun H10 s10 hG10 => ?_
    have t10 := s9.trans s10
    refine ⟨_, rfl, _, rfl, PL, PL, ⟨pz, qs, rfl, s10 _ _ ez9, rq8.mono repPlot_mono t10⟩, ⟨p, qs, rfl, t10 _ _ hp8, rq8.mono repPlot_mono t10⟩, fun H11 s11 => ⟨_, rfl, ?_⟩⟩
    rw [decide_eq_true rfl]
    refine iteF ?_
    have t11 := t10.trans s11
    have hG11 := hG10.same s11
    have ez11 := s11 _ _ (s10 _ _ ez9)
    -- passed.append(plots[0])
    have hx0 : ∃ x0, qs[0]? = some x0 := ⟨_, List.getElem?_eq_getElem (by omega)⟩
    obtain ⟨x0, hx0⟩ := hx0
    refine ⟨_, rfl, .inl ⟨rfl, _, SqL.of ez11⟩, _, rfl, p, _, _, _, rfl, rfl, SqL.of (t11 _ _ hp8), atI_nat (j := 0) hx0, pz, _, _, rfl, rfl, ez11, small1000 (by omega), ?_⟩
    have nl12 : NL H11 (upd H11 pz (.lst (qs ++ [x0]))) := NL.upd ez11
    have e12 : (upd H11 pz (.lst (qs ++ [x0]))) pz = some (.lst (qs ++ [x0])) := upd_same
    have k12 : ∀ {b : Addr} {o : HO}, b ≠ pz → H11 b = some o → (upd H11 pz (.lst (qs ++ [x0]))) b = some o := fun nb e => by rw [upd_ne nb]; exact e
    generalize upd H11 pz (.lst (qs ++ [x0])) = H12 at nl12 e12 k12
    -- passed[0] = Plot(..)
    have nOther : NmOk 8 ("other" : Str) := by
      refine ⟨by decide +kernel, by decide +kernel, ?_⟩
      have : ∀ c, c ∈ codes ("other" : Str) → 97 ≤ c ∧ c ≤ 122 := by decide +kernel
      exact this
    intro xo dxo nxo ndo neo
    refine plot_make nOther (by decide) (by decide) (by decide) (by decide) nxo ndo fun H13 s13 hxo => ?_
    have e13 := s13 _ _ e12
    have hix : ixN (qs ++ [x0]).length 0 = some 0 := by
      unfold ixN
      rw [if_pos (by decide), if_pos (by rw [List.length_append]; show (0 : Int) < ((qs.length + 1 : Nat) : Int); omega)]
      rfl
    refine ⟨_, rfl, pz, _, _, 0, rfl, rfl, e13, hix, ?_⟩
    have nl14 : NL H13 (upd H13 pz (.lst ((qs ++ [x0]).set 0 (.ref xo)))) := NL.upd e13
    have s14 : Same H8 (upd H13 pz (.lst ((qs ++ [x0]).set 0 (.ref xo)))) := fun b o e => by
      rw [upd_ne (npz e)]
      exact s13 _ _ (k12 (npz e) (t11 _ _ e))
    generalize upd H13 pz (.lst ((qs ++ [x0]).set 0 (.ref xo))) = H14 at nl14 s14
    have hG14 : GroundAt C_Ground C_Plot C_Gates H14 xg PL R tk := hG11.nl ((nl12.trans (NL.same s13)).trans nl14)
    clear hG10 hG11 nl12 e12 k12 e13 ez11 ez9 t11 t10 nl14 hxo npz
    obtain ⟨dr, q1, q2, gt, q3, eG, h1, h2, h3, h4⟩ := id hG14
    rw [hzs] at h2
    -- ground.plots, ground.names
    refine ⟨_, rfl, xg, C_Ground, dr, _, _, rfl, eG, D_Ground.cls, D_Ground.no _ (by decide), rfl, _, rfl, p, _, rfl, .inl ⟨SqL.of (s14 _ _ hp8), fun q15 hq15 => ?_⟩⟩
    have s15 : Same H14 (upd H14 q15 (.tup qs)) := Same.new hq15
    have e15 : (upd H14 q15 (.tup qs)) q15 = some (.tup qs) := upd_same
    generalize upd H14 q15 (.tup qs) = H15 at s15 e15
    refine ⟨PL, PL, repT_mono repPlot_mono _ _ _ _ s15 h1, ⟨q15, qs, rfl, e15, rq8.mono repPlot_mono (s14.trans s15)⟩, fun H16 s16 => ⟨_, rfl, ?_⟩⟩
    rw [decide_eq_true rfl]
    refine iteF ?_
    have u16 := s15.trans s16
    have s816 := s14.trans u16
    refine ⟨_, rfl, xg, C_Ground, dr, _, _, rfl, (u16 _ _ eG), D_Ground.cls, D_Ground.no _ (by decide), rfl, _, rfl, n, _, rfl, .inl ⟨SqL.of (s816 _ _ hn8), fun q17 hq17 => ?_⟩⟩
    have u17 := u16.trans (Same.new (o := .tup (zs.map V.str)) hq17)
    have ngz : ∀ z, z ∈ zs → NmOk 8 z := fun z hz => (hzn z hz).mono (by decide)
    refine ⟨_, _, dp_grp (u17 _ _ h2), dp_grp upd_same, shaped_grp ngz, shaped_grp ngz, _, rfl, ?_⟩
    rw [eqv_grp, decide_eq_true rfl]
    refine iteF ?_
    generalize upd H16 q17 (.tup (zs.map V.str)) = H17 at u17
    have s817 := s14.trans u17
    -- ground.gates, ground.capacity
    have h317 := h3.same u17
    have hg17 := hg8.same s817
    obtain ⟨dg, qg, eg, _⟩ := id h317
    obtain ⟨dh, qh, eh, _⟩ := id hg17
    refine ⟨_, rfl, xg, C_Ground, dr, _, _, rfl, (u17 _ _ eG), D_Ground.cls, D_Ground.no _ (by decide), rfl, _, rfl, gt, dg, _, pg, dh, _, rfl, rfl, eg, eh, gt, pg, R, R, rfl, h317, hg17, ngR, ngR, _, rfl, _, rfl, ?_⟩
    rw [decide_eq_true rfl]
    refine iteF ?_
    refine ⟨_, rfl, xg, dr, _, rfl, u17 _ _ eG, xg, PL, R, tk, rfl, hG14.same u17, _, rfl, rfl, _, rfl, ?_⟩
    refine ite2 (fun y => absurd y ne_self) (fun _ => ?_)
    -- twin
    refine ⟨_, rfl, p, _, rfl, .inl (SqL.of (s817 _ _ hp8)), fun zl hzl => ?_⟩
    have u18 : Same H17 (upd H17 zl (.lst qs)) := Same.new hzl
    have e18 : (upd H17 zl (.lst qs)) zl = some (.lst qs) := upd_same
    generalize upd H17 zl (.lst qs) = H18 at u18 e18
    have s818 := s817.trans u18
    refine ⟨_, rfl, D, _, _, _, rfl, rfl, SqL.of (s818 _ _ hD8), rfl, _, rfl, D, _, _, _, rfl, rfl, SqL.of (s818 _ _ hD8), rfl, ?_⟩
    intro xq dxq nxq ndq neq
    refine gates_make (G := [g1, g0]) ⟨⟨r1, rfl, .inl (s818 _ _ b1)⟩, ⟨r0, rfl, .inl (s818 _ _ b0)⟩, trivial⟩ ngG2 (smG2.mono (by decide)) nxq ndq fun H19 u19 hq19 => ?_
    rw [hsw] at hq19
    have s819 := s818.trans u19
    refine ⟨_, rfl, ?_⟩
    intro xt dxt nxt ndt net
    refine ground_make (hok tk tk0 (by omega)) (u19 _ _ e18) (rq8.mono repPlot_mono s819) (by omega) hnm hq19 ngR smR nxt ndt fun H20 u20 hT20 => ?_
    have w20 := (u17.trans (u18.trans u19)).trans u20
    have s820 := s819.trans u20
    obtain ⟨dt, t1, t2, t3, t4, eT, _⟩ := id hT20
    refine ⟨_, rfl, _, rfl, xg, dr, _, xt, dt, _, rfl, rfl, w20 _ _ eG, eT, xg, xt, PL, PL, R, R, tk, tk, rfl, hG14.same w20, hT20, ngR, ngR, fun H21 u21 => ⟨_, rfl, _, rfl, ?_⟩⟩
    rw [decide_eq_true ⟨rfl, rfl, rfl⟩]
    refine iteF ?_
    have w21 := w20.trans u21
    refine ⟨_, rfl, _, rfl, xg, dr, _, xt, dt, _, rfl, rfl, w21 _ _ eG, u21 _ _ eT, xg, xt, PL, PL, R, R, tk, tk, rfl, hG14.same w21, hT20.same u21, ngR, ngR, fun H22 u22 => ⟨_, rfl, _, rfl, ?_⟩⟩
    rw [decide_eq_true ⟨rfl, rfl, rfl⟩]
    refine iteF ?_
    have w22 := w21.trans u22
    have s822 := s14.trans w22
    -- another tank
    refine ⟨fun σ Hh => σ = [some (.ref a), some (.ref s0), some (.ref n), some (.ref p), w4, w5, some (.ref D), some (.ref pg), some (.int tk), some (.ref pz), some (.ref xg), some (.ref xt), none] ∧ Same H22 Hh, ?_, ?_⟩
    · refine ⟨_, rfl, _, rfl, p, _, rfl, .inl (SqL.of (s822 _ _ hp8)), fun zk hzk => ?_⟩
      have u23 : Same H22 (upd H22 zk (.lst qs)) := Same.new hzk
      have e23 : (upd H22 zk (.lst qs)) zk = some (.lst qs) := upd_same
      generalize upd H22 zk (.lst qs) = H23 at u23 e23
      have s823 := s822.trans u23
      refine ⟨_, rfl, _, rfl, _, _, rfl, rfl, ?_⟩
      intro xu dxu nxu ndu neu
      refine ground_make (hok (8 - tk) (by omega) (by omega)) e23 (rq8.mono repPlot_mono s823) (by omega) hnm (hg8.same s823) ngR smR nxu ndu fun H24 u24 hU => ?_
      have w24 := (w22.trans u23).trans u24
      obtain ⟨du, v1, v2, v3, v4, eU, _⟩ := id hU
      refine ⟨xg, dr, _, xu, du, _, rfl, rfl, w24 _ _ eG, eU, xg, xu, PL, PL, R, R, tk, 8 - tk, rfl, hG14.same w24, hU, ngR, ngR, fun H25 u25 => ⟨_, rfl, _, rfl, ?_⟩⟩
      have v25 := (u23.trans u24).trans u25
      refine ite2 (fun c => ?_) (fun c => ?_)
      · have c : PL = PL ∧ R = R ∧ tk = 8 - tk := of_decide_eq_true c
        have c4 : tk = 4 := by have := c.2.2; omega
        refine ⟨_, rfl, rfl, _, rfl, ?_⟩
        refine ite2 (fun y => absurd y (by rw [c4]; exact ne_self)) (fun _ => ?_)
        exact ⟨rfl, v25⟩
      · exact ⟨rfl, v25⟩
    rintro σ H26 ⟨rfl, u26⟩
    have w26 := w22.trans u26
    have s826 := s14.trans w26
    -- another order
    refine ⟨fun σ Hh => σ = [some (.ref a), some (.ref s0), some (.ref n), some (.ref p), w4, w5, some (.ref D), some (.ref pg), some (.int tk), some (.ref pz), some (.ref xg), some (.ref xt), none] ∧ Same H26 Hh, ?_, ?_⟩
    · refine ⟨_, rfl, n, _, rfl, .inl (SqL.of (s826 _ _ hn8)), _, _, rfl, rfl, _, rfl, ?_⟩
      refine ite2 (fun c => ?_) (fun c => ?_)
      · have c := of_decide_eq_true c
        rw [len_strs] at c
        have hrv : dbl (nmsOf PL.reverse) = none := dbl_nodup (by
          unfold nmsOf
          rw [List.map_reverse]
          exact (List.reverse_perm _).symm.nodup (by rw [show PL.map (·.1) = zs from hzs]; exact hzd))
        have hrk : unk R (nmsOf PL.reverse) = none := unk_none fun r hr' z hz => by
          unfold nmsOf
          rw [List.map_reverse, List.mem_reverse]
          have := subR r hr' z hz
          rw [← hzs] at this
          exact this
        refine ⟨_, rfl, _, rfl, _, rfl, p, _, rfl, rfl, SqL.of (s826 _ _ hp8), fun zr hzr => ?_⟩
        have u27 : Same H26 (upd H26 zr (.lst qs.reverse)) := Same.new hzr
        have e27 : (upd H26 zr (.lst qs.reverse)) zr = some (.lst qs.reverse) := upd_same
        generalize upd H26 zr (.lst qs.reverse) = H27 at u27 e27
        have s827 := s826.trans u27
        refine ⟨_, rfl, _, rfl, ?_⟩
        intro xv dxv nxv ndv nev
        refine ground_make (PL := PL.reverse) (gR_ok (by rw [List.length_reverse]; exact h14) hrv hrk (decide_eq_true ⟨tk0, by omega⟩)) e27 ((reps_rev rq8).mono repPlot_mono s827) (by rw [List.length_reverse]; omega) (fun d hd => hnm d (List.mem_reverse.mp hd)) (hg8.same s827) ngR smR nxv ndv fun H28 u28 hV => ?_
        have w28 := (w26.trans u27).trans u28
        obtain ⟨dv, v1, v2, v3, v4, eV, _⟩ := id hV
        refine ⟨xg, dr, _, xv, dv, _, rfl, rfl, w28 _ _ eG, eV, xg, xv, PL, PL.reverse, R, R, tk, tk, rfl, hG14.same w28, hV, ngR, ngR, fun H29 u29 => ⟨_, rfl, _, rfl, ?_⟩⟩
        rw [decide_eq_false (fun y => rev_ne (by rw [hzs]; exact hzd) (by omega) y.1)]
        refine iteF ?_
        exact ⟨rfl, (u27.trans u28).trans u29⟩
      · exact ⟨rfl, Same.refl _⟩
    rintro σ H30 ⟨rfl, u30⟩
    have s830 := s826.trans u30
    have F30 : Same (hid [s0] H8) (hid [s0] H30) := hid_frm (Frm.of_same s830)
    exact ⟨_, rfl, _, rfl, _, rfl, _, rfl, _, rfl, a, s0, p, D, pg, r0, r1, qs, PL, zs, g0, g1, R, rfl, sc8.same s830, F30 _ _ hp8', rq8.mono repPlot_mono s830, hzs, hzd, hzn, hz1, hz4, F30 _ _ hD8', F30 _ _ a0', sub0, hg8.same s830, ngR, smR, subR, k⟩
end
end Wb

namespace Wb
open PySem PySem.Spec PyProof.Rows L2 Wx StX NdefX RZ StX PyProof.Rows.FinIter
section
theorem all_mk {l : PySem.W.OpenLaw} {w : World} {K : PySem.W.Frag} {h : Heap} {mg : Str → Option Value} {fa : Addr}
    {oc0 kV0 dc0 pm0 cd0 ct0 : Value} {od0 an0 : Option Addr} {sl0 : Array (Option Value)} {f0 : Addr}
    {oc1 kV1 dc1 pm1 cd1 ct1 : Value} {od1 an1 : Option Addr} {sl1 : Array (Option Value)} {f1 : Addr}
    {oc2 kV2 dc2 pm2 cd2 ct2 : Value} {od2 an2 : Option Addr} {sl2 : Array (Option Value)} {f2 : Addr}
    {oc3 kV3 dc3 pm3 cd3 ct3 : Value} {od3 an3 : Option Addr} {sl3 : Array (Option Value)} {f3 : Addr}
    {oc4 kV4 dc4 pm4 cd4 ct4 : Value} {od4 an4 : Option Addr} {sl4 : Array (Option Value)} {f4 : Addr}
    {oc5 kV5 dc5 pm5 cd5 ct5 : Value} {od5 an5 : Option Addr} {sl5 : Array (Option Value)} {f5 : Addr}
    {oc6 kV6 dc6 pm6 cd6 ct6 : Value} {od6 an6 : Option Addr} {sl6 : Array (Option Value)} {f6 : Addr}
    {oc7 kV7 dc7 pm7 cd7 ct7 : Value} {od7 an7 : Option Addr} {sl7 : Array (Option Value)} {f7 : Addr}
    {oc8 kV8 dc8 pm8 cd8 ct8 : Value} {od8 an8 : Option Addr} {sl8 : Array (Option Value)} {f8 : Addr}
    {oc9 kV9 dc9 pm9 cd9 ct9 : Value} {od9 an9 : Option Addr} {sl9 : Array (Option Value)} {f9 : Addr}
    {oc10 kV10 dc10 pm10 cd10 ct10 : Value} {od10 an10 : Option Addr} {sl10 : Array (Option Value)} {f10 : Addr}
    {oc11 kV11 dc11 pm11 cd11 ct11 : Value} {od11 an11 : Option Addr} {sl11 : Array (Option Value)} {f11 : Addr}
    {oc12 kV12 dc12 pm12 cd12 ct12 : Value} {od12 an12 : Option Addr} {sl12 : Array (Option Value)} {f12 : Addr}
    {oc13 kV13 dc13 pm13 cd13 ct13 : Value} {od13 an13 : Option Addr} {sl13 : Array (Option Value)} {f13 : Addr}
    {oc14 kV14 dc14 pm14 cd14 ct14 : Value} {od14 an14 : Option Addr} {sl14 : Array (Option Value)} {f14 : Addr}
    {oc15 kV15 dc15 pm15 cd15 ct15 : Value} {od15 an15 : Option Addr} {sl15 : Array (Option Value)} {f15 : Addr}
    {oc16 kV16 dc16 pm16 cd16 ct16 : Value} {od16 an16 : Option Addr} {sl16 : Array (Option Value)} {f16 : Addr}
    {oc17 kV17 dc17 pm17 cd17 ct17 : Value} {od17 an17 : Option Addr} {sl17 : Array (Option Value)} {f17 : Addr}
    {oc18 kV18 dc18 pm18 cd18 ct18 : Value} {od18 an18 : Option Addr} {sl18 : Array (Option Value)} {f18 : Addr}
    {t__LONGEST_NAME : Tok}
    {t_MOST_PLOTS : Tok}
    {t_MOST_UNITS : Tok}
    {nm_BadName qn_BadName fl_BadName : Str} {N_BadName C_BadName f_BadName cda_BadName cc_BadName : Addr} {bs_BadName sub_BadName bm_BadName : List Value} {sn_BadName : List Str} {ab_BadName : Bool} {col_BadName : Option Bool} {dd_BadName od_BadName an_BadName cdd_BadName cld_BadName : Option Addr} {m0_BadName m1_BadName m2_BadName m3_BadName m5_BadName : Option Value} {oc_BadName kV_BadName doc_BadName pm_BadName ct_BadName ccl_BadName clv_BadName : Value} {osl_BadName ccs_BadName csl_BadName : Array (Option Value)} {vs_BadName : Array Value} {tf_BadName : Tok}
    {nm_BadNumber qn_BadNumber fl_BadNumber : Str} {N_BadNumber C_BadNumber f_BadNumber cda_BadNumber cc_BadNumber : Addr} {bs_BadNumber sub_BadNumber bm_BadNumber : List Value} {sn_BadNumber : List Str} {ab_BadNumber : Bool} {col_BadNumber : Option Bool} {dd_BadNumber od_BadNumber an_BadNumber cdd_BadNumber cld_BadNumber : Option Addr} {m0_BadNumber m1_BadNumber m2_BadNumber m3_BadNumber m5_BadNumber : Option Value} {oc_BadNumber kV_BadNumber doc_BadNumber pm_BadNumber ct_BadNumber ccl_BadNumber clv_BadNumber : Value} {osl_BadNumber ccs_BadNumber csl_BadNumber : Array (Option Value)} {vs_BadNumber : Array Value} {tf_BadNumber : Tok}
    {C_Plot : Addr}
    {oc_Plot_init kV_Plot_init dc_Plot_init pm_Plot_init cd_Plot_init ct_Plot_init : Value} {od_Plot_init an_Plot_init : Option Addr} {sl_Plot_init : Array (Option Value)} {f_Plot_init : Addr}
    {oc_Plot_eq kV_Plot_eq dc_Plot_eq pm_Plot_eq cd_Plot_eq ct_Plot_eq : Value} {od_Plot_eq an_Plot_eq : Option Addr} {sl_Plot_eq : Array (Option Value)} {f_Plot_eq : Addr}
    {C_Gates : Addr}
    {oc_Gates_init kV_Gates_init dc_Gates_init pm_Gates_init cd_Gates_init ct_Gates_init : Value} {od_Gates_init an_Gates_init : Option Addr} {sl_Gates_init : Array (Option Value)} {f_Gates_init : Addr}
    {oc_Gates_eq kV_Gates_eq dc_Gates_eq pm_Gates_eq cd_Gates_eq ct_Gates_eq : Value} {od_Gates_eq an_Gates_eq : Option Addr} {sl_Gates_eq : Array (Option Value)} {f_Gates_eq : Addr}
    {oc_Gates_in kV_Gates_in dc_Gates_in pm_Gates_in cd_Gates_in ct_Gates_in : Value} {od_Gates_in an_Gates_in : Option Addr} {sl_Gates_in : Array (Option Value)} {f_Gates_in : Addr}
    {C_Ground : Addr}
    {oc_Ground_init kV_Ground_init dc_Ground_init pm_Ground_init cd_Ground_init ct_Ground_init : Value} {od_Ground_init an_Ground_init : Option Addr} {sl_Ground_init : Array (Option Value)} {f_Ground_init : Addr}
    {oc_Ground_eq kV_Ground_eq dc_Ground_eq pm_Ground_eq cd_Ground_eq ct_Ground_eq : Value} {od_Ground_eq an_Ground_eq : Option Addr} {sl_Ground_eq : Array (Option Value)} {f_Ground_eq : Addr}
    {oc_Ground_capacity kV_Ground_capacity dc_Ground_capacity pm_Ground_capacity cd_Ground_capacity ct_Ground_capacity : Value} {od_Ground_capacity an_Ground_capacity : Option Addr} {sl_Ground_capacity : Array (Option Value)} {p_Ground_capacity f_Ground_capacity : Addr} {re_Ground_capacity : List Value}
    (X : K.In h) (G : h.Ns mainGlobals mg) (hfa : mg "law" = some (.ref fa))
    (a0 : PySem.W.nsIn K mainGlobals "_shown" = some (some (.ref f0)))
    (l0 : K.lookup f0 = some ⟨oc0, od0, .func (PySem.W.fnOf "_shown" "_shown" (defArgs s_shown) (defBody s_shown) (defScope s_shown) .none kV0 dc0 pm0 an0 cd0 ct0), sl0⟩)
    (c0 : PySem.W.codeIn K cd0 "_shown" = true)
    (k0 : PySem.W.keepIn K (.ref f0) = true)
    (a1 : PySem.W.nsIn K mainGlobals "is_name" = some (some (.ref f1)))
    (l1 : K.lookup f1 = some ⟨oc1, od1, .func (PySem.W.fnOf "is_name" "is_name" (defArgs sis_name) (defBody sis_name) (defScope sis_name) .none kV1 dc1 pm1 an1 cd1 ct1), sl1⟩)
    (c1 : PySem.W.codeIn K cd1 "is_name" = true)
    (k1 : PySem.W.keepIn K (.ref f1) = true)
    (a2 : PySem.W.nsIn K mainGlobals "check_name" = some (some (.ref f2)))
    (l2 : K.lookup f2 = some ⟨oc2, od2, .func (PySem.W.fnOf "check_name" "check_name" (defArgs scheck_name) (defBody scheck_name) (defScope scheck_name) .none kV2 dc2 pm2 an2 cd2 ct2), sl2⟩)
    (c2 : PySem.W.codeIn K cd2 "check_name" = true)
    (k2 : PySem.W.keepIn K (.ref f2) = true)
    (a3 : PySem.W.nsIn K mainGlobals "check_number" = some (some (.ref f3)))
    (l3 : K.lookup f3 = some ⟨oc3, od3, .func (PySem.W.fnOf "check_number" "check_number" (defArgs scheck_number) (defBody scheck_number) (defScope scheck_number) .none kV3 dc3 pm3 an3 cd3 ct3), sl3⟩)
    (c3 : PySem.W.codeIn K cd3 "check_number" = true)
    (k3 : PySem.W.keepIn K (.ref f3) = true)
    (a4 : PySem.W.nsIn K mainGlobals "check_group" = some (some (.ref f4)))
    (l4 : K.lookup f4 = some ⟨oc4, od4, .func (PySem.W.fnOf "check_group" "check_group" (defArgs scheck_group) (defBody scheck_group) (defScope scheck_group) .none kV4 dc4 pm4 an4 cd4 ct4), sl4⟩)
    (c4 : PySem.W.codeIn K cd4 "check_group" = true)
    (k4 : PySem.W.keepIn K (.ref f4) = true)
    (a5 : PySem.W.nsIn K mainGlobals "_is_within" = some (some (.ref f5)))
    (l5 : K.lookup f5 = some ⟨oc5, od5, .func (PySem.W.fnOf "_is_within" "_is_within" (defArgs s_is_within) (defBody s_is_within) (defScope s_is_within) .none kV5 dc5 pm5 an5 cd5 ct5), sl5⟩)
    (c5 : PySem.W.codeIn K cd5 "_is_within" = true)
    (k5 : PySem.W.keepIn K (.ref f5) = true)
    (a6 : PySem.W.nsIn K mainGlobals "_line" = some (some (.ref f6)))
    (l6 : K.lookup f6 = some ⟨oc6, od6, .func (PySem.W.fnOf "_line" "_line" (defArgs s_line) (defBody s_line) (defScope s_line) .none kV6 dc6 pm6 an6 cd6 ct6), sl6⟩)
    (c6 : PySem.W.codeIn K cd6 "_line" = true)
    (k6 : PySem.W.keepIn K (.ref f6) = true)
    (a7 : PySem.W.nsIn K mainGlobals "_is_covered" = some (some (.ref f7)))
    (l7 : K.lookup f7 = some ⟨oc7, od7, .func (PySem.W.fnOf "_is_covered" "_is_covered" (defArgs s_is_covered) (defBody s_is_covered) (defScope s_is_covered) .none kV7 dc7 pm7 an7 cd7 ct7), sl7⟩)
    (c7 : PySem.W.codeIn K cd7 "_is_covered" = true)
    (k7 : PySem.W.keepIn K (.ref f7) = true)
    (a8 : PySem.W.nsIn K mainGlobals "_outer_groups" = some (some (.ref f8)))
    (l8 : K.lookup f8 = some ⟨oc8, od8, .func (PySem.W.fnOf "_outer_groups" "_outer_groups" (defArgs s_outer_groups) (defBody s_outer_groups) (defScope s_outer_groups) .none kV8 dc8 pm8 an8 cd8 ct8), sl8⟩)
    (c8 : PySem.W.codeIn K cd8 "_outer_groups" = true)
    (k8 : PySem.W.keepIn K (.ref f8) = true)
    (a9 : PySem.W.nsIn K mainGlobals "_different_names" = some (some (.ref f9)))
    (l9 : K.lookup f9 = some ⟨oc9, od9, .func (PySem.W.fnOf "_different_names" "_different_names" (defArgs s_different_names) (defBody s_different_names) (defScope s_different_names) .none kV9 dc9 pm9 an9 cd9 ct9), sl9⟩)
    (c9 : PySem.W.codeIn K cd9 "_different_names" = true)
    (k9 : PySem.W.keepIn K (.ref f9) = true)
    (a10 : PySem.W.nsIn K mainGlobals "_check_known" = some (some (.ref f10)))
    (l10 : K.lookup f10 = some ⟨oc10, od10, .func (PySem.W.fnOf "_check_known" "_check_known" (defArgs s_check_known) (defBody s_check_known) (defScope s_check_known) .none kV10 dc10 pm10 an10 cd10 ct10), sl10⟩)
    (c10 : PySem.W.codeIn K cd10 "_check_known" = true)
    (k10 : PySem.W.keepIn K (.ref f10) = true)
    (a11 : PySem.W.nsIn K mainGlobals "_turn_at" = some (some (.ref f11)))
    (l11 : K.lookup f11 = some ⟨oc11, od11, .func (PySem.W.fnOf "_turn_at" "_turn_at" (defArgs s_turn_at) (defBody s_turn_at) (defScope s_turn_at) .none kV11 dc11 pm11 an11 cd11 ct11), sl11⟩)
    (c11 : PySem.W.codeIn K cd11 "_turn_at" = true)
    (k11 : PySem.W.keepIn K (.ref f11) = true)
    (a12 : PySem.W.nsIn K mainGlobals "_allowed_turns" = some (some (.ref f12)))
    (l12 : K.lookup f12 = some ⟨oc12, od12, .func (PySem.W.fnOf "_allowed_turns" "_allowed_turns" (defArgs s_allowed_turns) (defBody s_allowed_turns) (defScope s_allowed_turns) .none kV12 dc12 pm12 an12 cd12 ct12), sl12⟩)
    (c12 : PySem.W.codeIn K cd12 "_allowed_turns" = true)
    (k12 : PySem.W.keepIn K (.ref f12) = true)
    (a13 : PySem.W.nsIn K mainGlobals "_law_start" = some (some (.ref f13)))
    (l13 : K.lookup f13 = some ⟨oc13, od13, .func (PySem.W.fnOf "_law_start" "_law_start" (defArgs s_law_start) (defBody s_law_start) (defScope s_law_start) .none kV13 dc13 pm13 an13 cd13 ct13), sl13⟩)
    (c13 : PySem.W.codeIn K cd13 "_law_start" = true)
    (k13 : PySem.W.keepIn K (.ref f13) = true)
    (a14 : PySem.W.nsIn K mainGlobals "_law_draw" = some (some (.ref f14)))
    (l14 : K.lookup f14 = some ⟨oc14, od14, .func (PySem.W.fnOf "_law_draw" "_law_draw" (defArgs s_law_draw) (defBody s_law_draw) (defScope s_law_draw) .none kV14 dc14 pm14 an14 cd14 ct14), sl14⟩)
    (c14 : PySem.W.codeIn K cd14 "_law_draw" = true)
    (k14 : PySem.W.keepIn K (.ref f14) = true)
    (a15 : PySem.W.nsIn K mainGlobals "_law_names" = some (some (.ref f15)))
    (l15 : K.lookup f15 = some ⟨oc15, od15, .func (PySem.W.fnOf "_law_names" "_law_names" (defArgs s_law_names) (defBody s_law_names) (defScope s_law_names) .none kV15 dc15 pm15 an15 cd15 ct15), sl15⟩)
    (c15 : PySem.W.codeIn K cd15 "_law_names" = true)
    (k15 : PySem.W.keepIn K (.ref f15) = true)
    (a16 : PySem.W.nsIn K mainGlobals "_law_refusal" = some (some (.ref f16)))
    (l16 : K.lookup f16 = some ⟨oc16, od16, .func (PySem.W.fnOf "_law_refusal" "_law_refusal" (defArgs s_law_refusal) (defBody s_law_refusal) (defScope s_law_refusal) .none kV16 dc16 pm16 an16 cd16 ct16), sl16⟩)
    (c16 : PySem.W.codeIn K cd16 "_law_refusal" = true)
    (k16 : PySem.W.keepIn K (.ref f16) = true)
    (a17 : PySem.W.nsIn K mainGlobals "_law_refusals_hold" = some (some (.ref f17)))
    (l17 : K.lookup f17 = some ⟨oc17, od17, .func (PySem.W.fnOf "_law_refusals_hold" "_law_refusals_hold" (defArgs s_law_refusals_hold) (defBody s_law_refusals_hold) (defScope s_law_refusals_hold) .none kV17 dc17 pm17 an17 cd17 ct17), sl17⟩)
    (c17 : PySem.W.codeIn K cd17 "_law_refusals_hold" = true)
    (k17 : PySem.W.keepIn K (.ref f17) = true)
    (a18 : PySem.W.nsIn K mainGlobals "law" = some (some (.ref f18)))
    (l18 : K.lookup f18 = some ⟨oc18, od18, .func (PySem.W.fnOf "law" "law" (defArgs slaw) (defBody slaw) (defScope slaw) .none kV18 dc18 pm18 an18 cd18 ct18), sl18⟩)
    (c18 : PySem.W.codeIn K cd18 "law" = true)
    (k18 : PySem.W.keepIn K (.ref f18) = true)
    (z_len : PySem.W.nsIn K mainGlobals "len" = some none)
    (z_abs : PySem.W.nsIn K mainGlobals "abs" = some none)
    (z_int : PySem.W.nsIn K mainGlobals "int" = some none)
    (z_bool : PySem.W.nsIn K mainGlobals "bool" = some none)
    (z_str : PySem.W.nsIn K mainGlobals "str" = some none)
    (z_range : PySem.W.nsIn K mainGlobals "range" = some none)
    (z_all : PySem.W.nsIn K mainGlobals "all" = some none)
    (z_any : PySem.W.nsIn K mainGlobals "any" = some none)
    (z_isinstance : PySem.W.nsIn K mainGlobals "isinstance" = some none)
    (z_tuple : PySem.W.nsIn K mainGlobals "tuple" = some none)
    (z_list : PySem.W.nsIn K mainGlobals "list" = some none)
    (z_enumerate : PySem.W.nsIn K mainGlobals "enumerate" = some none)
    (z_sorted : PySem.W.nsIn K mainGlobals "sorted" = some none)
    (z_set : PySem.W.nsIn K mainGlobals "set" = some none)
    (z_repr : PySem.W.nsIn K mainGlobals "repr" = some none)
    (z_super : PySem.W.nsIn K mainGlobals "super" = some none)
    (g__LONGEST_NAME : PySem.W.nsIn K mainGlobals "_LONGEST_NAME" = some (some (.int 8 t__LONGEST_NAME)))
    (g_MOST_PLOTS : PySem.W.nsIn K mainGlobals "MOST_PLOTS" = some (some (.int 4 t_MOST_PLOTS)))
    (g_MOST_UNITS : PySem.W.nsIn K mainGlobals "MOST_UNITS" = some (some (.int 8 t_MOST_UNITS)))
    (g_BadName : PySem.W.nsIn K mainGlobals "BadName" = some (some (.ref C_BadName)))
    (x_BadName : K.lookup C_BadName = some (excClassObj nm_BadName qn_BadName C_BadName N_BadName bs_BadName bm_BadName true sn_BadName sub_BadName ab_BadName col_BadName dd_BadName m0_BadName m1_BadName m2_BadName m3_BadName m5_BadName "ValueError.__new__"))
    (r_BadName : PySem.HandSPX.refsVE bm_BadName = true)
    (sa_BadName : PySem.W.findIn K (.ref C_BadName) "__setattr__" = some (some (.builtin "object.__setattr__")))
    (ex_BadName : PySem.W.subIn K (.ref C_BadName) (.type "BaseException") = some true)
    (ty_BadName : PySem.W.typeIn K (.ref C_BadName) = some (.type "type"))
    (kp_BadName : PySem.W.keepIn K (.ref C_BadName) = true)
    (i_BadName : PySem.W.findIn K (.ref C_BadName) "__init__" = some (some (.ref f_BadName)))
    (l_BadName : K.lookup f_BadName = some ⟨oc_BadName, od_BadName, .func (PySem.W.fnX "__init__" "BadName.__init__" (defArgs sBadName___init__) (defBody sBadName___init__) (defScope sBadName___init__) [("__class__", cc_BadName)] .none kV_BadName doc_BadName pm_BadName an_BadName (.ref cda_BadName) ct_BadName), osl_BadName⟩)
    (cd_BadName : PySem.W.codeIn K (.ref cda_BadName) "BadName.__init__" = true)
    (cf_BadName : K.lookup cda_BadName = some ⟨ccl_BadName, cdd_BadName, .fields vs_BadName, ccs_BadName⟩)
    (v2_BadName : vs_BadName[2]? = some (.str fl_BadName tf_BadName))
    (fi_BadName : ((l.prog.main.file : Str) == fl_BadName) = true)
    (cl_BadName : K.lookup cc_BadName = some ⟨clv_BadName, cld_BadName, .cell (some (.ref C_BadName)), csl_BadName⟩)
    (mr_BadName : PySem.W.mroIn K C_BadName (.ref C_BadName) = some true)
    (sb_BadName : PySem.W.subIn K (.ref C_BadName) (.type "ValueError") = some true)
    (su_BadName : PySem.W.ks_superIn K C_BadName C_BadName "__init__" = some (some (.builtin "ValueError.__init__")))
    (ti_BadName : PySem.W.typeIn K (.ref f_BadName) = some (.type "function"))
    (ga_BadName : PySem.W.findIn K (.ref C_BadName) "__getattribute__" = some (some (.builtin "BaseException.__getattribute__")))
    (gg_BadName : PySem.W.findIn K (.ref C_BadName) "__getattr__" = some none)
    (hd_BadName : PySem.W.hasDictIn K C_BadName = true)
    (ha_BadName : PySem.W.findIn K (.ref C_BadName) "__class__" = some (some (.builtin "object.__class__")))
    (mo_BadName : PySem.W.mroIn K C_BadName (.type "object") = some true)
    (em_BadName : PySem.W.subIn K (.ref C_BadName) (.ref C_BadName) = some true)
    (nw_BadName : PySem.W.findIn K (.ref C_BadName) "what" = some none)
    (nv_BadName : PySem.W.findIn K (.ref C_BadName) "value" = some none)
    (nn_BadName : PySem.W.findIn K (.ref C_BadName) "name" = some none)
    (nt_BadName : PySem.W.findIn K (.ref C_BadName) "turn" = some none)
    (g_BadNumber : PySem.W.nsIn K mainGlobals "BadNumber" = some (some (.ref C_BadNumber)))
    (x_BadNumber : K.lookup C_BadNumber = some (excClassObj nm_BadNumber qn_BadNumber C_BadNumber N_BadNumber bs_BadNumber bm_BadNumber true sn_BadNumber sub_BadNumber ab_BadNumber col_BadNumber dd_BadNumber m0_BadNumber m1_BadNumber m2_BadNumber m3_BadNumber m5_BadNumber "ValueError.__new__"))
    (r_BadNumber : PySem.HandSPX.refsVE bm_BadNumber = true)
    (sa_BadNumber : PySem.W.findIn K (.ref C_BadNumber) "__setattr__" = some (some (.builtin "object.__setattr__")))
    (ex_BadNumber : PySem.W.subIn K (.ref C_BadNumber) (.type "BaseException") = some true)
    (ty_BadNumber : PySem.W.typeIn K (.ref C_BadNumber) = some (.type "type"))
    (kp_BadNumber : PySem.W.keepIn K (.ref C_BadNumber) = true)
    (i_BadNumber : PySem.W.findIn K (.ref C_BadNumber) "__init__" = some (some (.ref f_BadNumber)))
    (l_BadNumber : K.lookup f_BadNumber = some ⟨oc_BadNumber, od_BadNumber, .func (PySem.W.fnX "__init__" "BadNumber.__init__" (defArgs sBadNumber___init__) (defBody sBadNumber___init__) (defScope sBadNumber___init__) [("__class__", cc_BadNumber)] .none kV_BadNumber doc_BadNumber pm_BadNumber an_BadNumber (.ref cda_BadNumber) ct_BadNumber), osl_BadNumber⟩)
    (cd_BadNumber : PySem.W.codeIn K (.ref cda_BadNumber) "BadNumber.__init__" = true)
    (cf_BadNumber : K.lookup cda_BadNumber = some ⟨ccl_BadNumber, cdd_BadNumber, .fields vs_BadNumber, ccs_BadNumber⟩)
    (v2_BadNumber : vs_BadNumber[2]? = some (.str fl_BadNumber tf_BadNumber))
    (fi_BadNumber : ((l.prog.main.file : Str) == fl_BadNumber) = true)
    (cl_BadNumber : K.lookup cc_BadNumber = some ⟨clv_BadNumber, cld_BadNumber, .cell (some (.ref C_BadNumber)), csl_BadNumber⟩)
    (mr_BadNumber : PySem.W.mroIn K C_BadNumber (.ref C_BadNumber) = some true)
    (sb_BadNumber : PySem.W.subIn K (.ref C_BadNumber) (.type "ValueError") = some true)
    (su_BadNumber : PySem.W.ks_superIn K C_BadNumber C_BadNumber "__init__" = some (some (.builtin "ValueError.__init__")))
    (ti_BadNumber : PySem.W.typeIn K (.ref f_BadNumber) = some (.type "function"))
    (ga_BadNumber : PySem.W.findIn K (.ref C_BadNumber) "__getattribute__" = some (some (.builtin "BaseException.__getattribute__")))
    (gg_BadNumber : PySem.W.findIn K (.ref C_BadNumber) "__getattr__" = some none)
    (hd_BadNumber : PySem.W.hasDictIn K C_BadNumber = true)
    (ha_BadNumber : PySem.W.findIn K (.ref C_BadNumber) "__class__" = some (some (.builtin "object.__class__")))
    (mo_BadNumber : PySem.W.mroIn K C_BadNumber (.type "object") = some true)
    (em_BadNumber : PySem.W.subIn K (.ref C_BadNumber) (.ref C_BadNumber) = some true)
    (nw_BadNumber : PySem.W.findIn K (.ref C_BadNumber) "what" = some none)
    (nv_BadNumber : PySem.W.findIn K (.ref C_BadNumber) "value" = some none)
    (nn_BadNumber : PySem.W.findIn K (.ref C_BadNumber) "name" = some none)
    (nt_BadNumber : PySem.W.findIn K (.ref C_BadNumber) "turn" = some none)
    (opq : PySem.W.nsIn K cStatics "thirdparty.any" = some none)
    (htop : (l.prog.main.scope.names.lookup ("super" : Str)).isSome = false)
    (spc : PySem.W.specialIn K (.builtin "object.__class__") "__get__" = some (some (.builtin "getset_descriptor.__get__")))
    (tks : PySem.W.takesIn K (.builtin "object.__class__") = some true)
    (g_Plot : PySem.W.nsIn K mainGlobals "Plot" = some (some (.ref C_Plot)))
    (mk_Plot : PySem.W.makesIn K C_Plot = true)
    (kp_Plot : PySem.W.keepIn K (.ref C_Plot) = true)
    (pg_Plot : PySem.W.plainGet K C_Plot Str.empty = true)
    (hd_Plot : PySem.W.hasDictIn K C_Plot = true)
    (po_Plot : PySem.W.plainOver K C_Plot = true)
    (sa_Plot : PySem.W.findIn K (.ref C_Plot) "__setattr__" = some (some (.builtin "object.__setattr__")))
    (ne_Plot : PySem.W.findIn K (.ref C_Plot) "__ne__" = some (some (.builtin "object.__ne__")))
    (ob_Plot : PySem.W.subIn K (.ref C_Plot) (.type "object") = some true)
    (ha_Plot : PySem.W.findIn K (.ref C_Plot) "__class__" = some (some (.builtin "object.__class__")))
    (hm_Plot : PySem.W.mroIn K C_Plot (.type "object") = some true)
    (kk_Plot : PySem.W.kitOne K (.ref C_Plot) (.ref C_Plot) = some true)
    (no_Plot_name : PySem.W.findIn K (.ref C_Plot) "name" = some none)
    (no_Plot_hold : PySem.W.findIn K (.ref C_Plot) "hold" = some none)
    (no_Plot_drink : PySem.W.findIn K (.ref C_Plot) "drink" = some none)
    (i_Plot_init : PySem.W.findIn K (.ref C_Plot) "__init__" = some (some (.ref f_Plot_init)))
    (fn_Plot_init : PySem.W.isFn K (.ref f_Plot_init) = true)
    (l_Plot_init : K.lookup f_Plot_init = some ⟨oc_Plot_init, od_Plot_init, .func (PySem.W.fnOf "__init__" "Plot.__init__" (defArgs sPlot___init__) (defBody sPlot___init__) (defScope sPlot___init__) .none kV_Plot_init dc_Plot_init pm_Plot_init an_Plot_init cd_Plot_init ct_Plot_init), sl_Plot_init⟩)
    (c_Plot_init : PySem.W.codeIn K cd_Plot_init "Plot.__init__" = true)
    (k_Plot_init : PySem.W.keepIn K (.ref f_Plot_init) = true)
    (i_Plot_eq : PySem.W.findIn K (.ref C_Plot) "__eq__" = some (some (.ref f_Plot_eq)))
    (fn_Plot_eq : PySem.W.isFn K (.ref f_Plot_eq) = true)
    (l_Plot_eq : K.lookup f_Plot_eq = some ⟨oc_Plot_eq, od_Plot_eq, .func (PySem.W.fnOf "__eq__" "Plot.__eq__" (defArgs sPlot___eq__) (defBody sPlot___eq__) (defScope sPlot___eq__) .none kV_Plot_eq dc_Plot_eq pm_Plot_eq an_Plot_eq cd_Plot_eq ct_Plot_eq), sl_Plot_eq⟩)
    (c_Plot_eq : PySem.W.codeIn K cd_Plot_eq "Plot.__eq__" = true)
    (k_Plot_eq : PySem.W.keepIn K (.ref f_Plot_eq) = true)
    (g_Gates : PySem.W.nsIn K mainGlobals "Gates" = some (some (.ref C_Gates)))
    (mk_Gates : PySem.W.makesIn K C_Gates = true)
    (kp_Gates : PySem.W.keepIn K (.ref C_Gates) = true)
    (pg_Gates : PySem.W.plainGet K C_Gates Str.empty = true)
    (hd_Gates : PySem.W.hasDictIn K C_Gates = true)
    (po_Gates : PySem.W.plainOver K C_Gates = true)
    (sa_Gates : PySem.W.findIn K (.ref C_Gates) "__setattr__" = some (some (.builtin "object.__setattr__")))
    (ne_Gates : PySem.W.findIn K (.ref C_Gates) "__ne__" = some (some (.builtin "object.__ne__")))
    (ob_Gates : PySem.W.subIn K (.ref C_Gates) (.type "object") = some true)
    (ha_Gates : PySem.W.findIn K (.ref C_Gates) "__class__" = some (some (.builtin "object.__class__")))
    (hm_Gates : PySem.W.mroIn K C_Gates (.type "object") = some true)
    (kk_Gates : PySem.W.kitOne K (.ref C_Gates) (.ref C_Gates) = some true)
    (no_Gates_groups : PySem.W.findIn K (.ref C_Gates) "groups" = some none)
    (i_Gates_init : PySem.W.findIn K (.ref C_Gates) "__init__" = some (some (.ref f_Gates_init)))
    (fn_Gates_init : PySem.W.isFn K (.ref f_Gates_init) = true)
    (l_Gates_init : K.lookup f_Gates_init = some ⟨oc_Gates_init, od_Gates_init, .func (PySem.W.fnOf "__init__" "Gates.__init__" (defArgs sGates___init__) (defBody sGates___init__) (defScope sGates___init__) .none kV_Gates_init dc_Gates_init pm_Gates_init an_Gates_init cd_Gates_init ct_Gates_init), sl_Gates_init⟩)
    (c_Gates_init : PySem.W.codeIn K cd_Gates_init "Gates.__init__" = true)
    (k_Gates_init : PySem.W.keepIn K (.ref f_Gates_init) = true)
    (i_Gates_eq : PySem.W.findIn K (.ref C_Gates) "__eq__" = some (some (.ref f_Gates_eq)))
    (fn_Gates_eq : PySem.W.isFn K (.ref f_Gates_eq) = true)
    (l_Gates_eq : K.lookup f_Gates_eq = some ⟨oc_Gates_eq, od_Gates_eq, .func (PySem.W.fnOf "__eq__" "Gates.__eq__" (defArgs sGates___eq__) (defBody sGates___eq__) (defScope sGates___eq__) .none kV_Gates_eq dc_Gates_eq pm_Gates_eq an_Gates_eq cd_Gates_eq ct_Gates_eq), sl_Gates_eq⟩)
    (c_Gates_eq : PySem.W.codeIn K cd_Gates_eq "Gates.__eq__" = true)
    (k_Gates_eq : PySem.W.keepIn K (.ref f_Gates_eq) = true)
    (i_Gates_in : PySem.W.findIn K (.ref C_Gates) "__contains__" = some (some (.ref f_Gates_in)))
    (fn_Gates_in : PySem.W.isFn K (.ref f_Gates_in) = true)
    (l_Gates_in : K.lookup f_Gates_in = some ⟨oc_Gates_in, od_Gates_in, .func (PySem.W.fnOf "__contains__" "Gates.__contains__" (defArgs sGates___contains__) (defBody sGates___contains__) (defScope sGates___contains__) .none kV_Gates_in dc_Gates_in pm_Gates_in an_Gates_in cd_Gates_in ct_Gates_in), sl_Gates_in⟩)
    (c_Gates_in : PySem.W.codeIn K cd_Gates_in "Gates.__contains__" = true)
    (k_Gates_in : PySem.W.keepIn K (.ref f_Gates_in) = true)
    (g_Ground : PySem.W.nsIn K mainGlobals "Ground" = some (some (.ref C_Ground)))
    (mk_Ground : PySem.W.makesIn K C_Ground = true)
    (kp_Ground : PySem.W.keepIn K (.ref C_Ground) = true)
    (pg_Ground : PySem.W.plainGet K C_Ground Str.empty = true)
    (hd_Ground : PySem.W.hasDictIn K C_Ground = true)
    (po_Ground : PySem.W.plainOver K C_Ground = true)
    (sa_Ground : PySem.W.findIn K (.ref C_Ground) "__setattr__" = some (some (.builtin "object.__setattr__")))
    (ne_Ground : PySem.W.findIn K (.ref C_Ground) "__ne__" = some (some (.builtin "object.__ne__")))
    (ob_Ground : PySem.W.subIn K (.ref C_Ground) (.type "object") = some true)
    (ha_Ground : PySem.W.findIn K (.ref C_Ground) "__class__" = some (some (.builtin "object.__class__")))
    (hm_Ground : PySem.W.mroIn K C_Ground (.type "object") = some true)
    (kk_Ground : PySem.W.kitOne K (.ref C_Ground) (.ref C_Ground) = some true)
    (no_Ground__tank : PySem.W.findIn K (.ref C_Ground) "_tank" = some none)
    (no_Ground_plots : PySem.W.findIn K (.ref C_Ground) "plots" = some none)
    (no_Ground_names : PySem.W.findIn K (.ref C_Ground) "names" = some none)
    (no_Ground_gates : PySem.W.findIn K (.ref C_Ground) "gates" = some none)
    (no_Ground__turns : PySem.W.findIn K (.ref C_Ground) "_turns" = some none)
    (i_Ground_init : PySem.W.findIn K (.ref C_Ground) "__init__" = some (some (.ref f_Ground_init)))
    (fn_Ground_init : PySem.W.isFn K (.ref f_Ground_init) = true)
    (l_Ground_init : K.lookup f_Ground_init = some ⟨oc_Ground_init, od_Ground_init, .func (PySem.W.fnOf "__init__" "Ground.__init__" (defArgs sGround___init__) (defBody sGround___init__) (defScope sGround___init__) .none kV_Ground_init dc_Ground_init pm_Ground_init an_Ground_init cd_Ground_init ct_Ground_init), sl_Ground_init⟩)
    (c_Ground_init : PySem.W.codeIn K cd_Ground_init "Ground.__init__" = true)
    (k_Ground_init : PySem.W.keepIn K (.ref f_Ground_init) = true)
    (i_Ground_eq : PySem.W.findIn K (.ref C_Ground) "__eq__" = some (some (.ref f_Ground_eq)))
    (fn_Ground_eq : PySem.W.isFn K (.ref f_Ground_eq) = true)
    (l_Ground_eq : K.lookup f_Ground_eq = some ⟨oc_Ground_eq, od_Ground_eq, .func (PySem.W.fnOf "__eq__" "Ground.__eq__" (defArgs sGround___eq__) (defBody sGround___eq__) (defScope sGround___eq__) .none kV_Ground_eq dc_Ground_eq pm_Ground_eq an_Ground_eq cd_Ground_eq ct_Ground_eq), sl_Ground_eq⟩)
    (c_Ground_eq : PySem.W.codeIn K cd_Ground_eq "Ground.__eq__" = true)
    (k_Ground_eq : PySem.W.keepIn K (.ref f_Ground_eq) = true)
    (pa_Ground_capacity : PySem.W.findIn K (.ref C_Ground) "capacity" = some (some (.ref p_Ground_capacity)))
    (pg_Ground_capacity : PySem.W.specialIn K (.ref p_Ground_capacity) "__get__" = some (some (.builtin "property.__get__")))
    (pt_Ground_capacity : PySem.W.takesIn K (.ref p_Ground_capacity) = some true)
    (pr_Ground_capacity : PySem.W.recIn K p_Ground_capacity "property" = some (.ref f_Ground_capacity :: re_Ground_capacity))
    (l_Ground_capacity : K.lookup f_Ground_capacity = some ⟨oc_Ground_capacity, od_Ground_capacity, .func (PySem.W.fnOf "capacity" "Ground.capacity" (defArgs sGround_capacity) (defBody sGround_capacity) (defScope sGround_capacity) .none kV_Ground_capacity dc_Ground_capacity pm_Ground_capacity an_Ground_capacity cd_Ground_capacity ct_Ground_capacity), sl_Ground_capacity⟩)
    (c_Ground_capacity : PySem.W.codeIn K cd_Ground_capacity "Ground.capacity" = true)
    (k_Ground_capacity : PySem.W.keepIn K (.ref f_Ground_capacity) = true)
    (sb_no : PySem.W.subIn K (.ref C_BadNumber) (.ref C_BadName) = some false) :
    ∃ fd : FuncData, (∀ (s : Shared) (v : Value), BindsTo s fd ⟨[v], []⟩ [("script", v)]) ∧ ∀ base : Heap, K.In base → base.Ns mainGlobals mg → FnOk l.prog w K mg base CX0 12 fa fd ["script"] (splaw K) := by
  have e := hfa.symm.trans (PySem.W.mg_of X G a18)
  cases e
  have T : Txt K mg := ⟨PySem.W.mg_none_of X G z_len, PySem.W.mg_none_of X G z_abs, PySem.W.mg_none_of X G z_int, PySem.W.mg_none_of X G z_bool, PySem.W.mg_none_of X G z_str, PySem.W.mg_none_of X G z_range, PySem.W.mg_none_of X G z_all, PySem.W.mg_none_of X G z_any, PySem.W.mg_none_of X G z_isinstance, PySem.W.mg_none_of X G z_tuple, PySem.W.mg_none_of X G z_list, PySem.W.mg_none_of X G z_enumerate, PySem.W.mg_none_of X G z_sorted, PySem.W.mg_none_of X G z_set, PySem.W.mg_none_of X G z_repr, PySem.W.mg_none_of X G z_super, ⟨_, PySem.W.mg_of X G g__LONGEST_NAME⟩, ⟨_, PySem.W.mg_of X G g_MOST_PLOTS⟩, ⟨_, PySem.W.mg_of X G g_MOST_UNITS⟩⟩
  have E_BadName : ErrC l.prog K mg "BadName" "BadName.__init__" C_BadName f_BadName cda_BadName cc_BadName := ⟨PySem.W.mg_of X G g_BadName, ⟨⟨⟨_, _, _, _, _, _, _, _, _, _, _, _, _, _, _, x_BadName, r_BadName⟩, sa_BadName, ex_BadName, ty_BadName, kp_BadName⟩, cd_BadName, ⟨_, _, _, _, _, _, cf_BadName, v2_BadName, fi_BadName⟩, ⟨_, _, _, cl_BadName⟩, T.b_super, htop, mr_BadName, sb_BadName, su_BadName, opq⟩, i_BadName, ti_BadName, ⟨ga_BadName, gg_BadName, ex_BadName, hd_BadName⟩, ⟨ga_BadName, gg_BadName, ex_BadName, hd_BadName, ha_BadName, spc, tks, mo_BadName⟩, PySem.W.exm_ref ex_BadName hd_BadName ty_BadName em_BadName, nw_BadName, nv_BadName, nn_BadName, nt_BadName⟩
  have E_BadNumber : ErrC l.prog K mg "BadNumber" "BadNumber.__init__" C_BadNumber f_BadNumber cda_BadNumber cc_BadNumber := ⟨PySem.W.mg_of X G g_BadNumber, ⟨⟨⟨_, _, _, _, _, _, _, _, _, _, _, _, _, _, _, x_BadNumber, r_BadNumber⟩, sa_BadNumber, ex_BadNumber, ty_BadNumber, kp_BadNumber⟩, cd_BadNumber, ⟨_, _, _, _, _, _, cf_BadNumber, v2_BadNumber, fi_BadNumber⟩, ⟨_, _, _, cl_BadNumber⟩, T.b_super, htop, mr_BadNumber, sb_BadNumber, su_BadNumber, opq⟩, i_BadNumber, ti_BadNumber, ⟨ga_BadNumber, gg_BadNumber, ex_BadNumber, hd_BadNumber⟩, ⟨ga_BadNumber, gg_BadNumber, ex_BadNumber, hd_BadNumber, ha_BadNumber, spc, tks, mo_BadNumber⟩, PySem.W.exm_ref ex_BadNumber hd_BadNumber ty_BadNumber em_BadNumber, nw_BadNumber, nv_BadNumber, nn_BadNumber, nt_BadNumber⟩
  have F_Plot_init := fun_mk (st := sPlot___init__) l_Plot_init c_Plot_init k_Plot_init
  have b_Plot_init := F_Plot_init.binds (ps := PPlot___init__) fun _ _ _ _ _ _ us hl => match us, hl with | [_, _, _, _], _ => rfl
  have F_Plot_eq := fun_mk (st := sPlot___eq__) l_Plot_eq c_Plot_eq k_Plot_eq
  have b_Plot_eq := F_Plot_eq.binds (ps := PPlot___eq__) fun _ _ _ _ _ _ us hl => match us, hl with | [_, _], _ => rfl
  have D_Plot : DatC K mg "Plot" C_Plot f_Plot_init f_Plot_eq ["name", "hold", "drink"] := ⟨PySem.W.mg_of X G g_Plot, ⟨mk_Plot, i_Plot_init, fn_Plot_init, kp_Plot⟩, ⟨pg_Plot, hd_Plot, po_Plot, sa_Plot⟩, (fun f hf => by
    simp only [List.mem_cons, List.not_mem_nil, or_false] at hf
    rcases hf with rfl | rfl | rfl
    · exact no_Plot_name
    · exact no_Plot_hold
    · exact no_Plot_drink), i_Plot_eq, fn_Plot_eq, ne_Plot, ob_Plot, ha_Plot, spc, tks, hm_Plot, kk_Plot⟩
  have F_Gates_init := fun_mk (st := sGates___init__) l_Gates_init c_Gates_init k_Gates_init
  have F_Gates_eq := fun_mk (st := sGates___eq__) l_Gates_eq c_Gates_eq k_Gates_eq
  have b_Gates_eq := F_Gates_eq.binds (ps := PGates___eq__) fun _ _ _ _ _ _ us hl => match us, hl with | [_, _], _ => rfl
  have F_Gates_in := fun_mk (st := sGates___contains__) l_Gates_in c_Gates_in k_Gates_in
  have b_Gates_in := F_Gates_in.binds (ps := PGates___contains__) fun _ _ _ _ _ _ us hl => match us, hl with | [_, _], _ => rfl
  have D_Gates : DatC K mg "Gates" C_Gates f_Gates_init f_Gates_eq ["groups"] := ⟨PySem.W.mg_of X G g_Gates, ⟨mk_Gates, i_Gates_init, fn_Gates_init, kp_Gates⟩, ⟨pg_Gates, hd_Gates, po_Gates, sa_Gates⟩, (fun f hf => by
    simp only [List.mem_cons, List.not_mem_nil, or_false] at hf
    rcases hf with rfl
    · exact no_Gates_groups), i_Gates_eq, fn_Gates_eq, ne_Gates, ob_Gates, ha_Gates, spc, tks, hm_Gates, kk_Gates⟩
  have F_Ground_init := fun_mk (st := sGround___init__) l_Ground_init c_Ground_init k_Ground_init
  have b_Ground_init := F_Ground_init.binds (ps := PGround___init__) fun _ _ _ _ _ _ us hl => match us, hl with | [_, _, _, _], _ => rfl
  have F_Ground_eq := fun_mk (st := sGround___eq__) l_Ground_eq c_Ground_eq k_Ground_eq
  have b_Ground_eq := F_Ground_eq.binds (ps := PGround___eq__) fun _ _ _ _ _ _ us hl => match us, hl with | [_, _], _ => rfl
  have D_Ground : DatC K mg "Ground" C_Ground f_Ground_init f_Ground_eq ["_tank", "plots", "names", "gates", "_turns"] := ⟨PySem.W.mg_of X G g_Ground, ⟨mk_Ground, i_Ground_init, fn_Ground_init, kp_Ground⟩, ⟨pg_Ground, hd_Ground, po_Ground, sa_Ground⟩, (fun f hf => by
    simp only [List.mem_cons, List.not_mem_nil, or_false] at hf
    rcases hf with rfl | rfl | rfl | rfl | rfl
    · exact no_Ground__tank
    · exact no_Ground_plots
    · exact no_Ground_names
    · exact no_Ground_gates
    · exact no_Ground__turns), i_Ground_eq, fn_Ground_eq, ne_Ground, ob_Ground, ha_Ground, spc, tks, hm_Ground, kk_Ground⟩
  have F_Ground_capacity := fun_mk (st := sGround_capacity) l_Ground_capacity c_Ground_capacity k_Ground_capacity
  have b_Ground_capacity := F_Ground_capacity.binds (ps := PGround_capacity) fun _ _ _ _ _ _ us hl => match us, hl with | [_], _ => rfl
  have PR_Ground_capacity : PropOf K C_Ground "capacity" p_Ground_capacity f_Ground_capacity := ⟨pa_Ground_capacity, pg_Ground_capacity, pt_Ground_capacity, _, pr_Ground_capacity⟩
  have F0 := fun_mk (st := s_shown) l0 c0 k0
  have b0 := F0.binds (ps := P_shown) fun _ _ _ _ _ _ us hl => match us, hl with | [_], _ => rfl
  have F1 := fun_mk (st := sis_name) l1 c1 k1
  have b1 := F1.binds (ps := Pis_name) fun _ _ _ _ _ _ us hl => match us, hl with | [_], _ => rfl
  have F2 := fun_mk (st := scheck_name) l2 c2 k2
  have b2 := F2.binds (ps := Pcheck_name) fun _ _ _ _ _ _ us hl => match us, hl with | [_], _ => rfl
  have F3 := fun_mk (st := scheck_number) l3 c3 k3
  have b3 := F3.binds (ps := Pcheck_number) fun _ _ _ _ _ _ us hl => match us, hl with | [_, _, _, _], _ => rfl
  have F4 := fun_mk (st := scheck_group) l4 c4 k4
  have b4 := F4.binds (ps := Pcheck_group) fun _ _ _ _ _ _ us hl => match us, hl with | [_], _ => rfl
  have F5 := fun_mk (st := s_is_within) l5 c5 k5
  have b5 := F5.binds (ps := P_is_within) fun _ _ _ _ _ _ us hl => match us, hl with | [_, _], _ => rfl
  have F6 := fun_mk (st := s_line) l6 c6 k6
  have b6 := F6.binds (ps := P_line) fun _ _ _ _ _ _ us hl => match us, hl with | [_], _ => rfl
  have F7 := fun_mk (st := s_is_covered) l7 c7 k7
  have b7 := F7.binds (ps := P_is_covered) fun _ _ _ _ _ _ us hl => match us, hl with | [_, _], _ => rfl
  have F8 := fun_mk (st := s_outer_groups) l8 c8 k8
  have b8 := F8.binds (ps := P_outer_groups) fun _ _ _ _ _ _ us hl => match us, hl with | [_], _ => rfl
  have F9 := fun_mk (st := s_different_names) l9 c9 k9
  have b9 := F9.binds (ps := P_different_names) fun _ _ _ _ _ _ us hl => match us, hl with | [_], _ => rfl
  have F10 := fun_mk (st := s_check_known) l10 c10 k10
  have b10 := F10.binds (ps := P_check_known) fun _ _ _ _ _ _ us hl => match us, hl with | [_, _], _ => rfl
  have F11 := fun_mk (st := s_turn_at) l11 c11 k11
  have b11 := F11.binds (ps := P_turn_at) fun _ _ _ _ _ _ us hl => match us, hl with | [_, _], _ => rfl
  have F12 := fun_mk (st := s_allowed_turns) l12 c12 k12
  have b12 := F12.binds (ps := P_allowed_turns) fun _ _ _ _ _ _ us hl => match us, hl with | [_, _], _ => rfl
  have F13 := fun_mk (st := s_law_start) l13 c13 k13
  have b13 := F13.binds (ps := P_law_start) fun _ _ _ _ _ _ us hl => match us, hl with | [_], _ => rfl
  have F14 := fun_mk (st := s_law_draw) l14 c14 k14
  have b14 := F14.binds (ps := P_law_draw) fun _ _ _ _ _ _ us hl => match us, hl with | [_, _, _], _ => rfl
  have F15 := fun_mk (st := s_law_names) l15 c15 k15
  have b15 := F15.binds (ps := P_law_names) fun _ _ _ _ _ _ us hl => match us, hl with | [_, _, _], _ => rfl
  have F16 := fun_mk (st := s_law_refusal) l16 c16 k16
  have b16 := F16.binds (ps := P_law_refusal) fun _ _ _ _ _ _ us hl => match us, hl with | [_, _, _], _ => rfl
  have F17 := fun_mk (st := s_law_refusals_hold) l17 c17 k17
  have b17 := F17.binds (ps := P_law_refusals_hold) fun _ _ _ _ _ _ us hl => match us, hl with | [_, _, _, _, _], _ => rfl
  have F18 := fun_mk (st := slaw) l18 c18 k18
  have bI_BadName : Binds K (PySem.W.fnX "__init__" "BadName.__init__" (defArgs sBadName___init__) (defBody sBadName___init__) (defScope sBadName___init__) [("__class__", cc_BadName)] .none kV_BadName doc_BadName pm_BadName an_BadName (.ref cda_BadName) ct_BadName) PBadName___init__ [] := .all fun us hl => match us, hl with | [_, _], _ => rfl
  have bI_BadNumber : Binds K (PySem.W.fnX "__init__" "BadNumber.__init__" (defArgs sBadNumber___init__) (defBody sBadNumber___init__) (defScope sBadNumber___init__) [("__class__", cc_BadNumber)] .none kV_BadNumber doc_BadNumber pm_BadNumber an_BadNumber (.ref cda_BadNumber) ct_BadNumber) PBadNumber___init__ [] := .all fun us hl => match us, hl with | [_, _, _], _ => rfl
  refine ⟨PySem.W.fnOf "law" "law" (defArgs slaw) (defBody slaw) (defScope slaw) .none kV18 dc18 pm18 an18 cd18 ct18, fun s v => .of_eq rfl, fun base _ _ => ?_⟩
  have C_shown := Cal.mk (ok_shown (P := l.prog) (w := w) (base := base) F0 T) (PySem.W.mg_of X G a0) k0 b0
  have G_BadName := okBadName___init__ (P := l.prog) (w := w) (base := base) l_BadName E_BadName T C_shown
  have G_BadNumber := okBadNumber___init__ (P := l.prog) (w := w) (base := base) l_BadNumber E_BadNumber T C_shown
  have C_is_name := Cal.mk (okis_name (P := l.prog) (w := w) (base := base) F1 T) (PySem.W.mg_of X G a1) k1 b1
  have C_check_name := Cal.mk (okcheck_name (P := l.prog) (w := w) (base := base) F2 T C_is_name) (PySem.W.mg_of X G a2) k2 b2
  have C_check_group := Cal.mk (okcheck_group (P := l.prog) (w := w) (base := base) F4 T C_check_name) (PySem.W.mg_of X G a4) k4 b4
  have C_is_within := Cal.mk (ok_is_within (P := l.prog) (w := w) (base := base) F5 T) (PySem.W.mg_of X G a5) k5 b5
  have C_line := Cal.mk (ok_line (P := l.prog) (w := w) (base := base) F6 T) (PySem.W.mg_of X G a6) k6 b6
  have C_is_covered := Cal.mk (ok_is_covered (P := l.prog) (w := w) (base := base) F7 T C_is_within) (PySem.W.mg_of X G a7) k7 b7
  have C_outer_groups := Cal.mk (ok_outer_groups (P := l.prog) (w := w) (base := base) F8 T C_line C_is_covered) (PySem.W.mg_of X G a8) k8 b8
  have Gcheck_number := okcheck_number (P := l.prog) (w := w) (base := base) F3 T E_BadNumber G_BadNumber bI_BadNumber
  have GGates___init__ := okGates___init__ (P := l.prog) (w := w) (base := base) F_Gates_init T D_Gates C_check_group C_outer_groups
  have GGates___contains__ := okGates___contains__ (P := l.prog) (w := w) (base := base) F_Gates_in T D_Gates C_is_within
  have GGates___eq__ := okGates___eq__ (P := l.prog) (w := w) (base := base) F_Gates_eq T D_Gates
  have GPlot___init__ := okPlot___init__ (P := l.prog) (w := w) (base := base) F_Plot_init T D_Plot C_check_name ⟨_, _, Gcheck_number, PySem.W.mg_of X G a3, k3, b3⟩
  have GPlot___eq__ := okPlot___eq__ (P := l.prog) (w := w) (base := base) F_Plot_eq T D_Plot
  have G_different_names := ok_different_names (P := l.prog) (w := w) (base := base) F9 T D_Plot E_BadName G_BadName bI_BadName
  have G_check_known := ok_check_known (P := l.prog) (w := w) (base := base) F10 T D_Gates E_BadName G_BadName bI_BadName
  have C_turn_at := Cal.mk (ok_turn_at (P := l.prog) (w := w) (base := base) F11 T) (PySem.W.mg_of X G a11) k11 b11
  have C_allowed_turns := Cal.mk (ok_allowed_turns (P := l.prog) (w := w) (base := base) F12 T D_Gates ⟨i_Gates_in, fn_Gates_in⟩ GGates___contains__ b_Gates_in C_turn_at) (PySem.W.mg_of X G a12) k12 b12
  have GGround___init__ := okGround___init__ (P := l.prog) (w := w) (base := base) F_Ground_init T D_Ground C_allowed_turns ⟨_, _, Gcheck_number, PySem.W.mg_of X G a3, k3, b3⟩ ⟨_, _, G_different_names, PySem.W.mg_of X G a9, k9, b9⟩ ⟨_, _, G_check_known, PySem.W.mg_of X G a10, k10, b10⟩
  have GGround___eq__ := okGround___eq__ (P := l.prog) (w := w) (base := base) F_Ground_eq T D_Ground D_Gates GGates___eq__ b_Gates_eq D_Plot GPlot___eq__ b_Plot_eq
  have GGround_capacity := okGround_capacity (P := l.prog) (w := w) (base := base) (C_Plot := C_Plot) (C_Gates := C_Gates) F_Ground_capacity T D_Ground
  have C_law_start := Cal.mk (ok_law_start (P := l.prog) (w := w) (base := base) F13 T) (PySem.W.mg_of X G a13) k13 b13
  have C_law_draw := Cal.mk (ok_law_draw (P := l.prog) (w := w) (base := base) F14 T) (PySem.W.mg_of X G a14) k14 b14
  have C_law_names := Cal.mk (ok_law_names (P := l.prog) (w := w) (base := base) F15 T C_law_draw) (PySem.W.mg_of X G a15) k15 b15
  have C_law_refusal := Cal.mk (ok_law_refusal (P := l.prog) (w := w) (base := base) F16 T E_BadName G_BadName bI_BadName E_BadNumber G_BadNumber bI_BadNumber D_Ground GGround___init__ b_Ground_init (PySem.W.exm_ref ex_BadName hd_BadName ty_BadName sb_no)) (PySem.W.mg_of X G a16) k16 b16
  have C_law_refusals_hold := Cal.mk (ok_law_refusals_hold (P := l.prog) (w := w) (base := base) F17 T D_Plot GPlot___init__ b_Plot_init D_Gates GGates___init__ C_law_draw C_law_refusal) (PySem.W.mg_of X G a17) k17 b17
  exact oklaw (P := l.prog) (w := w) (base := base) F18 T D_Plot GPlot___init__ b_Plot_init GPlot___eq__ b_Plot_eq D_Gates GGates___init__ GGates___eq__ b_Gates_eq D_Ground GGround___init__ b_Ground_init GGround___eq__ b_Ground_eq PR_Ground_capacity GGround_capacity b_Ground_capacity C_law_start C_law_draw C_law_names C_law_refusals_hold
theorem walk {l : PySem.W.OpenLaw} {q : Program} {loose : List Str} {XP : (Str → Option Value) → Heap → Prop} {YP : World → Heap → Prop} {d : DefRec} {K : Params → PySem.W.Frag} (hn : l.most = some 63) (hdf : d.params.defaults = [])
    (hY : ∀ (w : World) (h : Heap), YP w h → (K w.params).In h)
    (F : ∀ (w : World) (mg : Str → Option Value) (fa : Addr) (h : Heap), (K w.params).In h → h.Ns mainGlobals mg → mg d.name = some (.ref fa) →
      ∃ fd : FuncData, (∀ (s : Shared) (u : Value), BindsTo s fd ⟨[u], []⟩ [("script", u)]) ∧ ∀ base : Heap, (K w.params).In base → base.Ns mainGlobals mg → FnOk l.prog w (K w.params) mg base CX0 12 fa fd ["script"] (splaw (K w.params))) :
    PySem.W.WalkO q loose XP YP l.row.toRowW d [] (fun f vs => PySem.call f vs) :=
  L2.walk_of (n := 63) (k := 12) (x := "script") (CX := fun _ => CX0) (sp := fun w => splaw (K w.params)) hn (by decide) hdf ⟨rfl, by decide, by decide⟩ hY F (fun _ _ a ns hl _ hS => ⟨a, ns, rfl, hS, hl, fun _ => rfl⟩) fun _ _ _ _ _ z => z
end
end Wb
open PySem PySem.W PyProof.Rows in
set_option maxRecDepth 100000 in
set_option maxHeartbeats 0 in
theorem PySem.Challenge.cw_waterbyturns_k06_grounds_holds : PySem.Challenge.rw_waterbyturns_k06_grounds.Holds := by
  w_on; o_law; k_head; (case hw => w_witness2)
  k_fill
  refine Wb.walk (l := PySem.Challenge.rw_waterbyturns_k06_grounds) rfl rfl (fun w h Y => PySem.W.kIn_of Y) ?F
  case F =>
    intro w mg fa h KX G hmg
    refine' Wb.all_mk KX G hmg ?a0 ?l0 ?c0 ?k0 ?a1 ?l1 ?c1 ?k1 ?a2 ?l2 ?c2 ?k2 ?a3 ?l3 ?c3 ?k3 ?a4 ?l4 ?c4 ?k4 ?a5 ?l5 ?c5 ?k5 ?a6 ?l6 ?c6 ?k6 ?a7 ?l7 ?c7 ?k7 ?a8 ?l8 ?c8 ?k8 ?a9 ?l9 ?c9 ?k9 ?a10 ?l10 ?c10 ?k10 ?a11 ?l11 ?c11 ?k11 ?a12 ?l12 ?c12 ?k12 ?a13 ?l13 ?c13 ?k13 ?a14 ?l14 ?c14 ?k14 ?a15 ?l15 ?c15 ?k15 ?a16 ?l16 ?c16 ?k16 ?a17 ?l17 ?c17 ?k17 ?a18 ?l18 ?c18 ?k18 ?z_len ?z_abs ?z_int ?z_bool ?z_str ?z_range ?z_all ?z_any ?z_isinstance ?z_tuple ?z_list ?z_enumerate ?z_sorted ?z_set ?z_repr ?z_super ?g__LONGEST_NAME ?g_MOST_PLOTS ?g_MOST_UNITS ?g_BadName ?x_BadName ?r_BadName ?sa_BadName ?ex_BadName ?ty_BadName ?kp_BadName ?i_BadName ?l_BadName ?cd_BadName ?cf_BadName ?v2_BadName ?fi_BadName ?cl_BadName ?mr_BadName ?sb_BadName ?su_BadName ?ti_BadName ?ga_BadName ?gg_BadName ?hd_BadName ?ha_BadName ?mo_BadName ?em_BadName ?nw_BadName ?nv_BadName ?nn_BadName ?nt_BadName ?g_BadNumber ?x_BadNumber ?r_BadNumber ?sa_BadNumber ?ex_BadNumber ?ty_BadNumber ?kp_BadNumber ?i_BadNumber ?l_BadNumber ?cd_BadNumber ?cf_BadNumber ?v2_BadNumber ?fi_BadNumber ?cl_BadNumber ?mr_BadNumber ?sb_BadNumber ?su_BadNumber ?ti_BadNumber ?ga_BadNumber ?gg_BadNumber ?hd_BadNumber ?ha_BadNumber ?mo_BadNumber ?em_BadNumber ?nw_BadNumber ?nv_BadNumber ?nn_BadNumber ?nt_BadNumber ?opq ?htop ?spc ?tks ?g_Plot ?mk_Plot ?kp_Plot ?pg_Plot ?hd_Plot ?po_Plot ?sa_Plot ?ne_Plot ?ob_Plot ?ha_Plot ?hm_Plot ?kk_Plot ?no_Plot_name ?no_Plot_hold ?no_Plot_drink ?i_Plot_init ?fn_Plot_init ?l_Plot_init ?c_Plot_init ?k_Plot_init ?i_Plot_eq ?fn_Plot_eq ?l_Plot_eq ?c_Plot_eq ?k_Plot_eq ?g_Gates ?mk_Gates ?kp_Gates ?pg_Gates ?hd_Gates ?po_Gates ?sa_Gates ?ne_Gates ?ob_Gates ?ha_Gates ?hm_Gates ?kk_Gates ?no_Gates_groups ?i_Gates_init ?fn_Gates_init ?l_Gates_init ?c_Gates_init ?k_Gates_init ?i_Gates_eq ?fn_Gates_eq ?l_Gates_eq ?c_Gates_eq ?k_Gates_eq ?i_Gates_in ?fn_Gates_in ?l_Gates_in ?c_Gates_in ?k_Gates_in ?g_Ground ?mk_Ground ?kp_Ground ?pg_Ground ?hd_Ground ?po_Ground ?sa_Ground ?ne_Ground ?ob_Ground ?ha_Ground ?hm_Ground ?kk_Ground ?no_Ground__tank ?no_Ground_plots ?no_Ground_names ?no_Ground_gates ?no_Ground__turns ?i_Ground_init ?fn_Ground_init ?l_Ground_init ?c_Ground_init ?k_Ground_init ?i_Ground_eq ?fn_Ground_eq ?l_Ground_eq ?c_Ground_eq ?k_Ground_eq ?pa_Ground_capacity ?pg_Ground_capacity ?pt_Ground_capacity ?pr_Ground_capacity ?l_Ground_capacity ?c_Ground_capacity ?k_Ground_capacity ?sb_no
    (case a0 => k_is)
    (case l0 => k_is)
    (case c0 => k_is)
    (case k0 => k_is)
    (case a1 => k_is)
    (case l1 => k_is)
    (case c1 => k_is)
    (case k1 => k_is)
    (case a2 => k_is)
    (case l2 => k_is)
    (case c2 => k_is)
    (case k2 => k_is)
    (case a3 => k_is)
    (case l3 => k_is)
    (case c3 => k_is)
    (case k3 => k_is)
    (case a4 => k_is)
    (case l4 => k_is)
    (case c4 => k_is)
    (case k4 => k_is)
    (case a5 => k_is)
    (case l5 => k_is)
    (case c5 => k_is)
    (case k5 => k_is)
    (case a6 => k_is)
    (case l6 => k_is)
    (case c6 => k_is)
    (case k6 => k_is)
    (case a7 => k_is)
    (case l7 => k_is)
    (case c7 => k_is)
    (case k7 => k_is)
    (case a8 => k_is)
    (case l8 => k_is)
    (case c8 => k_is)
    (case k8 => k_is)
    (case a9 => k_is)
    (case l9 => k_is)
    (case c9 => k_is)
    (case k9 => k_is)
    (case a10 => k_is)
    (case l10 => k_is)
    (case c10 => k_is)
    (case k10 => k_is)
    (case a11 => k_is)
    (case l11 => k_is)
    (case c11 => k_is)
    (case k11 => k_is)
    (case a12 => k_is)
    (case l12 => k_is)
    (case c12 => k_is)
    (case k12 => k_is)
    (case a13 => k_is)
    (case l13 => k_is)
    (case c13 => k_is)
    (case k13 => k_is)
    (case a14 => k_is)
    (case l14 => k_is)
    (case c14 => k_is)
    (case k14 => k_is)
    (case a15 => k_is)
    (case l15 => k_is)
    (case c15 => k_is)
    (case k15 => k_is)
    (case a16 => k_is)
    (case l16 => k_is)
    (case c16 => k_is)
    (case k16 => k_is)
    (case a17 => k_is)
    (case l17 => k_is)
    (case c17 => k_is)
    (case k17 => k_is)
    (case a18 => k_is)
    (case l18 => k_is)
    (case c18 => k_is)
    (case k18 => k_is)
    (case z_len => k_is)
    (case z_abs => k_is)
    (case z_int => k_is)
    (case z_bool => k_is)
    (case z_str => k_is)
    (case z_range => k_is)
    (case z_all => k_is)
    (case z_any => k_is)
    (case z_isinstance => k_is)
    (case z_tuple => k_is)
    (case z_list => k_is)
    (case z_enumerate => k_is)
    (case z_sorted => k_is)
    (case z_set => k_is)
    (case z_repr => k_is)
    (case z_super => k_is)
    (case g__LONGEST_NAME => k_is)
    (case g_MOST_PLOTS => k_is)
    (case g_MOST_UNITS => k_is)
    (case g_BadName => k_is)
    (case x_BadName => k_is)
    (case r_BadName => first | rfl | decide +kernel)
    (case sa_BadName => k_is)
    (case ex_BadName => k_is)
    (case ty_BadName => k_is)
    (case kp_BadName => k_is)
    (case i_BadName => k_is)
    (case l_BadName => k_is)
    (case cd_BadName => k_is)
    (case cf_BadName => k_is)
    (case v2_BadName => first | rfl | decide +kernel)
    (case fi_BadName => first | rfl | decide +kernel)
    (case cl_BadName => k_is)
    (case mr_BadName => k_is)
    (case sb_BadName => k_is)
    (case su_BadName => ks_is)
    (case ti_BadName => k_is)
    (case ga_BadName => k_is)
    (case gg_BadName => k_is)
    (case hd_BadName => k_is)
    (case ha_BadName => k_is)
    (case mo_BadName => k_is)
    (case em_BadName => k_is)
    (case nw_BadName => k_is)
    (case nv_BadName => k_is)
    (case nn_BadName => k_is)
    (case nt_BadName => k_is)
    (case g_BadNumber => k_is)
    (case x_BadNumber => k_is)
    (case r_BadNumber => first | rfl | decide +kernel)
    (case sa_BadNumber => k_is)
    (case ex_BadNumber => k_is)
    (case ty_BadNumber => k_is)
    (case kp_BadNumber => k_is)
    (case i_BadNumber => k_is)
    (case l_BadNumber => k_is)
    (case cd_BadNumber => k_is)
    (case cf_BadNumber => k_is)
    (case v2_BadNumber => first | rfl | decide +kernel)
    (case fi_BadNumber => first | rfl | decide +kernel)
    (case cl_BadNumber => k_is)
    (case mr_BadNumber => k_is)
    (case sb_BadNumber => k_is)
    (case su_BadNumber => ks_is)
    (case ti_BadNumber => k_is)
    (case ga_BadNumber => k_is)
    (case gg_BadNumber => k_is)
    (case hd_BadNumber => k_is)
    (case ha_BadNumber => k_is)
    (case mo_BadNumber => k_is)
    (case em_BadNumber => k_is)
    (case nw_BadNumber => k_is)
    (case nv_BadNumber => k_is)
    (case nn_BadNumber => k_is)
    (case nt_BadNumber => k_is)
    (case opq => k_is)
    (case htop => first | rfl | decide +kernel)
    (case spc => k_is)
    (case tks => k_is)
    (case g_Plot => k_is)
    (case mk_Plot => k_is)
    (case kp_Plot => k_is)
    (case pg_Plot => k_is)
    (case hd_Plot => k_is)
    (case po_Plot => k_is)
    (case sa_Plot => k_is)
    (case ne_Plot => k_is)
    (case ob_Plot => k_is)
    (case ha_Plot => k_is)
    (case hm_Plot => k_is)
    (case kk_Plot => first | k_is | kit_is)
    (case no_Plot_name => k_is)
    (case no_Plot_hold => k_is)
    (case no_Plot_drink => k_is)
    (case i_Plot_init => k_is)
    (case fn_Plot_init => k_is)
    (case l_Plot_init => k_is)
    (case c_Plot_init => k_is)
    (case k_Plot_init => k_is)
    (case i_Plot_eq => k_is)
    (case fn_Plot_eq => k_is)
    (case l_Plot_eq => k_is)
    (case c_Plot_eq => k_is)
    (case k_Plot_eq => k_is)
    (case g_Gates => k_is)
    (case mk_Gates => k_is)
    (case kp_Gates => k_is)
    (case pg_Gates => k_is)
    (case hd_Gates => k_is)
    (case po_Gates => k_is)
    (case sa_Gates => k_is)
    (case ne_Gates => k_is)
    (case ob_Gates => k_is)
    (case ha_Gates => k_is)
    (case hm_Gates => k_is)
    (case kk_Gates => first | k_is | kit_is)
    (case no_Gates_groups => k_is)
    (case i_Gates_init => k_is)
    (case fn_Gates_init => k_is)
    (case l_Gates_init => k_is)
    (case c_Gates_init => k_is)
    (case k_Gates_init => k_is)
    (case i_Gates_eq => k_is)
    (case fn_Gates_eq => k_is)
    (case l_Gates_eq => k_is)
    (case c_Gates_eq => k_is)
    (case k_Gates_eq => k_is)
    (case i_Gates_in => k_is)
    (case fn_Gates_in => k_is)
    (case l_Gates_in => k_is)
    (case c_Gates_in => k_is)
    (case k_Gates_in => k_is)
    (case g_Ground => k_is)
    (case mk_Ground => k_is)
    (case kp_Ground => k_is)
    (case pg_Ground => k_is)
    (case hd_Ground => k_is)
    (case po_Ground => k_is)
    (case sa_Ground => k_is)
    (case ne_Ground => k_is)
    (case ob_Ground => k_is)
    (case ha_Ground => k_is)
    (case hm_Ground => k_is)
    (case kk_Ground => first | k_is | kit_is)
    (case no_Ground__tank => k_is)
    (case no_Ground_plots => k_is)
    (case no_Ground_names => k_is)
    (case no_Ground_gates => k_is)
    (case no_Ground__turns => k_is)
    (case i_Ground_init => k_is)
    (case fn_Ground_init => k_is)
    (case l_Ground_init => k_is)
    (case c_Ground_init => k_is)
    (case k_Ground_init => k_is)
    (case i_Ground_eq => k_is)
    (case fn_Ground_eq => k_is)
    (case l_Ground_eq => k_is)
    (case c_Ground_eq => k_is)
    (case k_Ground_eq => k_is)
    (case pa_Ground_capacity => k_is)
    (case pg_Ground_capacity => k_is)
    (case pt_Ground_capacity => k_is)
    (case pr_Ground_capacity => k_is)
    (case l_Ground_capacity => k_is)
    (case c_Ground_capacity => k_is)
    (case k_Ground_capacity => k_is)
    (case sb_no => k_is)

