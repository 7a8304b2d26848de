import PyProof.Rows.All
import Wide.All
import OpenK.AllK
import Wide.FinOn
import HandS.ForMost
import HandS.Exc
import HandS.ExcInit
import HandS.Nested
import HandS.WordsExc
import KE.KExcSuper
import HandS.ExcIs
import HandS.ExcField
import HandS.IsInst
import HandS.FStr
import HandS.RaiseMore
import KE.KExcIs
import PyProof.NeKinds
import PyProof.CallStr
import HandS.Text
import PyProof.InstNe
import HandS.SlotsOwn
import HandS.OwnEq
import KE.KCallOwn
import HandS.Zip
import HandS.Walk
import HandS.Star
import PyProof.Rows.FinIter
import KE.KOpsOwn
import OpenK.KMeth
import OpenK.KOps
import KE.IntTextLaws
import HandS.Codes
import PySem.Challenge.RW_waterbyturns_k10_weathers
set_option Elab.async false
set_option linter.all false
set_option maxRecDepth 100000
set_option maxHeartbeats 4000000
namespace Wx
open PySem PySem.Spec PyProof.Rows L2 NdefX
/-! super().__init__(..) in the __init__ of an own exception class whose line goes over own classes to ValueError -/
section
variable {prog : Program} {w : World} {A : Around} {E : Value → Shared → Prop} {hp : Heap} {g : Array GenState} {d : Drawn} {t : Nat} {os : OsState}
theorem mw_called {u x t0 : Addr} {us : List Value} {Q : Value → Shared → Prop} {C N : Addr} {nm q : Str} {bs bm : List Value} {hdct : Bool} {sn : List Str} {sub : List Value} {ab : Bool} {col : Option Bool} {dd : Option Addr} {k0 k1 k2 k3 k5 : Option Value}
    (cC : hp.get? C = some (excClassObj nm q C N bs bm hdct sn sub ab col dd k0 k1 k2 k3 k5 "ValueError.__new__")) (cx : hp.get? x = some (PySem.HandSPX.excO C t0)) (cu : hp.get? u = some (PySem.W.kxs_mw "ValueError.__init__" x)) (hl : us.length ≤ sizeLine)
    (fin : ∀ h' t1, (∀ b o, b ≠ x → hp.get? b = some o → h'.get? b = some o) → h'.get? x = some (PySem.HandSPX.excO C t1) → Q .none ⟨h', g, d, t, os⟩) : wpAny (model prog w) A (call (.ref u) us) Q E ⟨hp, g, d, t, os⟩ := by
  refine wpAny_call (codeAny_of_tree ?_)
  show wpAny _ A.in1 (callAny (Value.ref u) (Args.mk us [])) _ _ _
  unfold callAny
  dsimp only
  refine wpAny_bind (wpAny_load cu ?_)
  have mt : (Value.type "method-wrapper" == Value.type "method" || Value.type "method-wrapper" == Value.type "builtin_function_or_method" || Value.type "method-wrapper" == Value.type "method-wrapper") = true := by decide
  simp only [PySem.W.kxs_mw, mt, if_true]
  refine PySem.W.KFB.if_so (by decide) (wpAny_bind (PySem.W.check_bound_init F.excBase_ValueError.toExcCallFacts cC cx rfl (wpAny_bind (wpAny_pure (wpAny_pure ?_)))))
  refine And.intro (plainId_quiet F.excBase_ValueError.init.plain _) (codeAny_builtin F.excBase_ValueError.initEntry ?_)
  exact PySem.W.exc_init_tree (cls := Value.ref C) (t0 := t0) (dv := Option.none) (c2 := Value.none) (c3 := Value.none) (b4 := Value.bool false) cx hl fun h' k e _ => fin h' _ k e
end
/-- the first statement: super().__init__(e, ..) -/
abbrev stSuper (p0 p1 p2 p3 p4 : Pos) (e : Expr) (es : List Expr) : Stmt := .Expr (.Call (.Attribute (.Call (.Name "super" p0) [] [] p1) "__init__" p2) (e :: es) [] p3) p4
abbrev nfS (name qual : Str) (params : Arguments) (body : List Stmt) (scope : Scope) (cc cda : Addr) : NF := ⟨name, qual, params, body, scope, [("__class__", cc)], cda⟩
/-- what the written part says -/
structure SupTxt (P : Program) (K : PySem.W.Frag) (mg : Str → Option Value) (C cda cc : Addr) (qual : Str) : Prop where
  oex : OexC K C
  code : PySem.W.codeIn K (.ref cda) qual = true
  file : ∃ (ccl : Value) (cdd : Option Addr) (vs : Array Value) (ccs : Array (Option Value)) (fl : Str) (tf : Tok), K.lookup cda = some ⟨ccl, cdd, .fields vs, ccs⟩ ∧ vs[2]? = some (.str fl tf) ∧ ((P.main.file : Str) == fl) = true
  cell : ∃ (cl : Value) (cld : Option Addr) (csl : Array (Option Value)), K.lookup cc = some ⟨cl, cld, .cell (some (.ref C)), csl⟩
  sup : mg "super" = none
  top : (P.main.scope.names.lookup ("super" : Str)).isSome = false
  mro : PySem.W.mroIn K C (.ref C) = some true
  subB : PySem.W.subIn K (.ref C) (.type "ValueError") = some true
  ini : PySem.W.ks_superIn K C C "__init__" = some (some (.builtin "ValueError.__init__"))
  opq : PySem.W.nsIn K cStatics "thirdparty.any" = some none
theorem exo_upd {H : Hp} {a C : Addr} {d : Option Addr} (e : H a = some (exo a C d)) : upd H a (exo a C d) = H := by
  funext b
  by_cases hb : b = a
  · rw [hb, upd_same, e]
  · rw [upd_ne hb]
section
variable {CX : CXT} {P : Program} {w : World} {K : PySem.W.Frag} {mg : Str → Option Value} {base : Heap} {name qual : Str} {params : Arguments} {scope : Scope} {dV kV doc pm ct oc : Value} {an od : Option Addr} {osl : Array (Option Value)} {f cda cc C : Addr}
  {N ps : List Str} {k : Nat} {sp : Sp} {e : Expr} {es : List Expr} {rest : List Stmt} {p0 p1 p2 p3 p4 : Pos} {ar : Arg}
theorem fn_super (lk : K.lookup f = some ⟨oc, od, .func (PySem.W.fnX name qual params (stSuper p0 p1 p2 p3 p4 e es :: rest) scope [("__class__", cc)] dV kV doc pm an (.ref cda) ct), osl⟩)
    (T : SupTxt P K mg C cda cc qual) (S : NScope N ps ["__class__"] scope) (hp : (params.posonlyargs ++ params.args).head? = some ar) (har : N[0]? = some ar.arg) (hal : scope.names.lookup ar.arg = some .local) (hks : scope.names.lookup ("super" : Str) = some .globalImplicit)
    (len : ∀ vs H Q E, sp vs H Q E → vs.length = ps.length)
    (hbody : ∀ (A : Around) (outer : List Env) (s : Shared) (H : Hp) (vs : List V) (Q : VK) (E : XK), Room k (A.deeper (envF (nfS name qual params (stSuper p0 p1 p2 p3 p4 e es :: rest) scope cc cda) f s.heap.objs.size)) → sp vs H Q E →
      ∃ ta tr, PA (ncx CX P w K mg base N (nfS name qual params (stSuper p0 p1 p2 p3 p4 e es :: rest) scope cc cda) f A outer s H E) (e :: es) ta ∧ PSs (ncx CX P w K mg base N (nfS name qual params (stSuper p0 p1 p2 p3 p4 e es :: rest) scope cc cda) f A outer s H E) rest tr ∧ ∃ (a : Addr) (vr : List V), vs = .ref a :: vr ∧ H a = some (exo a C none) ∧
        ta (startF N vs [some (.ref C)]) H fun ws H1 => ws.length ≤ 1000 ∧ H1 a = some (exo a C none) ∧ tr { nx := fun _ H' => Q .non H', rt := Q } (startF N vs [some (.ref C)]) H1)
    (hi : ∀ L : Addr, interactive (envF (nfS name qual params (stSuper p0 p1 p2 p3 p4 e es :: rest) scope cc cda) f L) = false := by intros; rfl)
    (hs : ∀ L : Addr, swapsWith (.Call (.Attribute (.Call (.Name "super" p0) [] [] p1) "__init__" p2) (e :: es) [] p3) none p4.line (envF (nfS name qual params (stSuper p0 p1 p2 p3 p4 e es :: rest) scope cc cda) f L) = pure false := by intros; rfl)
    (he : ∀ L : Addr, starEach (e :: es) (envF (nfS name qual params (stSuper p0 p1 p2 p3 p4 e es :: rest) scope cc cda) f L) = (false, eval e (envF (nfS name qual params (stSuper p0 p1 p2 p3 p4 e es :: rest) scope cc cda) f L)) :: starEach es (envF (nfS name qual params (stSuper p0 p1 p2 p3 p4 e es :: rest) scope cc cda) f L) := by intros; rfl)
    (hpl : ∀ L : Addr, (backTo p3 (starEach es (envF (nfS name qual params (stSuper p0 p1 p2 p3 p4 e es :: rest) scope cc cda) f L))).any (·.1) = false := by intros; rfl)
    (hev : ∀ L : Addr, ∃ pl, eval (.Call (.Attribute (.Call (.Name "super" p0) [] [] p1) "__init__" p2) (e :: es) [] p3) (envF (nfS name qual params (stSuper p0 p1 p2 p3 p4 e es :: rest) scope cc cda) f L) = (do
      let ov ← attributeBase (.Call (.Name "super" p0) [] [] p1) "__init__" (envF (nfS name qual params (stSuper p0 p1 p2 p3 p4 e es :: rest) scope cc cda) f L) (eval (.Call (.Name "super" p0) [] [] p1) (envF (nfS name qual params (stSuper p0 p1 p2 p3 p4 e es :: rest) scope cc cda) f L))
      standAt p2.atName
      let r ← holding [ov] (getMethod ov "__init__" pl)
      callWith p3 r.1 r.2 (backTo p3 (starEach (e :: es) (envF (nfS name qual params (stSuper p0 p1 p2 p3 p4 e es :: rest) scope cc cda) f L))) []) := by intros; exact ⟨_, rfl⟩) :
    FnOk P w K mg base CX (k + 1) f (PySem.W.fnX name qual params (stSuper p0 p1 p2 p3 p4 e es :: rest) scope [("__class__", cc)] dV kV doc pm an (.ref cda) ct) ps sp := by
  obtain ⟨clv, cld, csl, hcell⟩ := T.cell
  obtain ⟨ccl, cdd, vsC, ccs, flC, tfC, hcode, hvsC, hfile⟩ := T.file
  refine ⟨len, fun A outer s H args us vs Q E hr e0 hbind r hsp => ?_⟩
  have hl := len _ _ _ _ hsp
  have KX : K.In s.heap := e0.mod.kin.keeps fun b o z => (e0.bs b o z).1
  have lim : s.heap.NoLimit := e0.mod.nolimit.keeps fun b o z => (e0.bs b o z).1
  let F : NF := (nfS name qual params (stSuper p0 p1 p2 p3 p4 e es :: rest) scope cc cda)
  have Hc : H cc = none := (e0.bs cc _ (e0.mod.kin _ _ hcell)).2
  have CA : CellsAt F.cl ["__class__"] [some (V.ref C)] s.heap H := by
    have key : ∀ y c, F.cl.lookup y = some c → y = "__class__" ∧ c = cc := fun y c z => by
      by_cases q : y = "__class__"
      · subst q
        have z : some cc = some c := by simpa [F, List.lookup] using z
        exact ⟨rfl, (Option.some.inj z).symm⟩
      · have : (y == ("__class__" : Str)) = false := by simpa using q
        simp [F, List.lookup, this] at z
    refine ⟨rfl, fun y c z => ?_, fun x y c z z' => ?_, fun i y z => ?_⟩
    · obtain ⟨_, rfl⟩ := key y c z
      exact ⟨Hc, _, _, KX _ _ hcell, rfl⟩
    · rw [(key x c z).1, (key y c z').1]
    · have hi : i = 0 ∧ y = "__class__" := by
        cases i with
        | zero => exact ⟨rfl, (Option.some.inj z).symm⟩
        | succ i => simp at z
      obtain ⟨rfl, rfl⟩ := hi
      refine ⟨cc, by simp [F, List.lookup], fun v hv => ?_⟩
      have hv : V.ref C = v := Option.some.inj (Option.some.inj hv)
      subst hv
      exact ⟨.ref C, rfl, _, KX _ _ hcell, rfl⟩
  refine PySem.ks_codeAny_call_defAt (fd := PySem.W.fnX name qual params (stSuper p0 p1 p2 p3 p4 e es :: rest) scope [("__class__", cc)] dV kV doc pm an (.ref cda) ct) (body := stSuper p0 p1 p2 p3 p4 e es :: rest) (binds := ps.zip us) hr.depth (KX _ _ lk) rfl lim
    (PySem.W.codeRec_of KX T.code) rfl hbind S.nocell (fun y hy => S.par y.1 (List.of_mem_zip hy).1) (fun h₁ hns kp => ?_) S.co S.gen S.kind
  show PySem.wpAt (model P w) (A.deeper (envF F f s.heap.objs.size)) (.func (stSuper p0 p1 p2 p3 p4 e es :: rest) (envF F f s.heap.objs.size)) (execs (stSuper p0 p1 p2 p3 p4 e es :: rest) (envF F f s.heap.objs.size)) _ _ _
  have I : Inv (ncx CX P w K mg base N F f A outer s H E) [] (startF N vs [some (.ref C)]) H { s with heap := h₁, toks := s.toks + (ps.zip us).length } := inv_startN (F := F) S hr.hd e0 hl r CA hns kp
  obtain ⟨ta, tr, hA, hR, a, vr, rfl, ea, hq⟩ := hbody A outer s H vs Q E (hr.deeper _) hsp
  obtain ⟨nm, qn, Nn, bs, bm, sn, sub, ab, col, dd, k0, k1, k2, k3, k5, hC, hbm⟩ := T.oex.cls
  have hcl : PySem.W.clsIn K C = some { name := nm, bases := bs, mro := .ref C :: bm, ns := Nn, qualname := qn, hasDict := true, slotNames := sn, subclasses := sub, abstract := ab, collection := col, hasDel := false } := by unfold PySem.W.clsIn; rw [hC] <;> rfl
  -- the local that holds the object
  have self : ∀ {s1 : Shared} {H1 : Hp} {pins : List (Addr × Obj)}, Inv (ncx CX P w K mg base N F f A outer s H E) pins (startF N (.ref a :: vr) [some (.ref C)]) H1 s1 → ∃ m, s1.heap.Ns (envF F f s.heap.objs.size).locals m ∧ m ar.arg = some (.ref a) := fun J => by
    obtain ⟨m, hm, hl⟩ := J.loc
    obtain ⟨u, ru, hk⟩ := hl 0 ar.arg (.ref a) har rfl (.inl hal)
    refine ⟨m, hm, ?_⟩
    rcases hk with ⟨_, hk⟩ | ⟨hk, _⟩
    · rw [hk]
      exact congrArg some ru
    · exfalso
      have hk : scope.names.lookup ar.arg = some .cell ∨ scope.names.lookup ar.arg = some .free := hk
      rw [hal] at hk
      rcases hk with z | z <;> cases z
  have fin : ∀ {fl : Flow} {s' : Shared}, SP (ncx CX P w K mg base N F f A outer s H E) [] { nx := fun _ H' => Q .non H', rt := Q } fl s' → CR CX outer P w H s Q E (.ok (.ret (match fl with | .ret v => v | _ => .none))) s' := fun {fl s'} hs' => by
    have out : ∀ {σ' : L2.St} {H' : Hp} {v : V} {u : Value}, Inv (ncx CX P w K mg base N F f A outer s H E) [] σ' H' s' → L2.RelV v u → Q v H' → CE outer P w H s Q u s' := fun {σ' H' v u} J rv q => ⟨v, H', J.os, J.bare, J.base, J.hok, rv, q⟩
    cases fl with
    | ret u =>
      obtain ⟨v, σ', H', J, rv, q⟩ := hs'
      exact out J rv q
    | next =>
      obtain ⟨σ', H', J, q⟩ := hs'
      exact out (v := V.non) (u := Value.none) J rfl q
    | brk =>
      obtain ⟨_, _, _, q⟩ := hs'
      exact q.elim
    | cont =>
      obtain ⟨_, _, _, q⟩ := hs'
      exact q.elim
  obtain ⟨pl, hev⟩ := hev s.heap.objs.size
  refine PySem.ks_wpAt_execs_cons (PySem.ks_wpAt_Expr_any (PySem.ks_wpAt_MethodCall (pl := pl) ?_ hev) (hi _) (hs _))
  · obtain ⟨m, hm, hma⟩ := self I
    obtain ⟨oD, hD1, hD2⟩ : ∃ oD, h₁.get? C = some oD ∧ oD.data = .cls { name := nm, bases := bs, mro := .ref C :: bm, ns := Nn, qualname := qn, hasDict := true, slotNames := sn, subclasses := sub, abstract := ab, collection := col, hasDel := false } := ⟨_, I.kIn _ _ hC, rfl⟩
    refine PySem.ks_wpAt_super_base (env := envF F f s.heap.objs.size) hks (S.frk _ (by simp)) rfl rfl (I.kIn _ _ lk) rfl hp rfl (I.kIn _ _ hcode) rfl hvsC hfile T.top ?_
    obtain ⟨mb, hb1, hb2⟩ := I.mod.blt
    refine PySem.W.ks_loadName_global S.kind hks (Calls.loadGlobal_builtin (I.mod.glob.keeps I.bk) T.sup (hb1.keeps I.bk) ((hb2 "super" (by decide)).trans (by decide +kernel : bootBuiltins "super" = some (.type "super"))) ⟨rfl, ?_⟩)
    refine wpAny_loadName_free S.kind (S.frk _ (by simp)) rfl ⟨_, I.kIn _ _ hcell, rfl⟩ ?_
    refine wpAny_loadName_local S.kind hal hm hma ?_
    refine PySem.ks_wpAny_isType_cls hD1 hD2 ⟨rfl, ?_⟩
    obtain ⟨t1, ho⟩ := exo_at I.hok ea
    have IA : PySem.W.InstAt h₁ a { cls := .ref C, dict := none, data := .fields #[.ref t1, .none, .none, .none, .bool false, .none] } C none := ⟨ho, rfl, rfl, trivial⟩
    refine PySem.ks_wpAny_call_super hD1 hD2 ho rfl (fun c z => by cases z) (PySem.W.looks_mroIn I.kIn T.mro) (fun h2 e2 k2 => ?_)
    have J2 : Inv (ncx CX P w K mg base N F f A outer s H E) [] (startF N (.ref a :: vr) [some (.ref C)]) H { s with heap := h2, toks := s.toks + (ps.zip us).length } := I.kept k2
    have ni : PySem.W.alongIn K "__init__" (((Value.ref C :: bm).dropWhile (· != .ref C)).drop 1) = some (some (.builtin "ValueError.__init__")) := by
      have z := T.ini
      unfold PySem.W.ks_superIn at z
      rw [hcl] at z
      exact z
    have ho2 := k2 _ _ ho
    have hI : PySem.W.Looks (model P w) h2 (isInstance (.ref a) (.type "ValueError")) true := (show PySem.W.InstAt h2 a _ C none from ⟨ho2, rfl, rfl, trivial⟩).type.andThen (PySem.W.looks_subIn J2.kIn T.subB)
    refine PySem.W.kxs_getMethod PySem.W.kxs_ValueError e2 (PySem.W.looks_opaque J2.kIn T.opq) ((PySem.W.looks_clsIn J2.kIn hcl).andThen .now) rfl J2.kIn ni hI (PySem.W.ks_ne I.kIn IA hcl) (by decide) ?_
    have J3 : Inv (ncx CX P w K mg base N F f A outer s H E) [] (startF N (.ref a :: vr) [some (.ref C)]) H { s with heap := h2.push (PySem.W.kxs_mw "ValueError.__init__" a), toks := s.toks + (ps.zip us).length + 1 } := J2.kept fun b o z => Heap.get?_push_of_some _ z
    have hmw : (h2.push (PySem.W.kxs_mw "ValueError.__init__" a)).get? h2.objs.size = some (PySem.W.kxs_mw "ValueError.__init__" a) := Heap.get?_push_at rfl rfl
    have J4 : Inv (ncx CX P w K mg base N F f A outer s H E) [(h2.objs.size, PySem.W.kxs_mw "ValueError.__init__" a)] (startF N (.ref a :: vr) [some (.ref C)]) H { s with heap := h2.push (PySem.W.kxs_mw "ValueError.__init__" a), toks := s.toks + (ps.zip us).length + 1 } := by
      refine ⟨J3.ok, J3.os, J3.bare, J3.base, J3.loc, J3.cell, J3.free, J3.freeC, fun p hp => ?_, J3.hok, J3.len⟩
      have hp : p = (h2.objs.size, PySem.W.kxs_mw "ValueError.__init__" a) := by
        have z : p ∈ ([] : List (Addr × Obj)) ++ [(h2.objs.size, PySem.W.kxs_mw "ValueError.__init__" a)] := hp
        simpa using z
      subst hp
      refine ⟨hmw, J2.hok.fresh (Nat.le_refl _), fun z => absurd J2.lt ?_, fun z => ?_, fun v z => by cases z⟩
      · rw [← z]
        exact Nat.lt_irrefl _
      · obtain ⟨_, o1, ho1, _⟩ := J2.ok.funs.mem z
        obtain ⟨o2, ho2'⟩ := J2.base.there _ _ ho1 (fun y => absurd (show _ ∈ ([] : List Addr) from y) (by simp))
        exact absurd (Heap.lt_size ho2') (Nat.lt_irrefl _)
    rw [he s.heap.objs.size]
    refine PySem.W.kxs_callWith (i := "ValueError.__init__") (x := a) (by show (false || (backTo p3 (starEach es (envF F f s.heap.objs.size))).any fun y => y.1) = false; rw [hpl s.heap.objs.size]; rfl) ?_
    refine Calls.evalArgs_plain ?_
    have run := hA.run p3 _ _ _ _ _ J4 hq
    rw [show starEach (e :: es) (ncx CX P w K mg base N F f A outer s H E).env = _ from he s.heap.objs.size] at run
    refine thn run fun us4 s4 hap => ?_
    obtain ⟨ws, H4, I4, r4, hw, ea4, tr4⟩ := hap
    obtain ⟨cu4, _⟩ := I4.pin _ (List.mem_append_right _ List.mem_cons_self)
    refine ⟨cu4, ?_⟩
    obtain ⟨t4, ho4⟩ := exo_at I4.hok ea4
    have hlen4 : us4.length ≤ sizeLine := by
      rw [← Paired.length r4]
      exact Nat.le_of_lt (small1000 hw)
    obtain ⟨h4, g4, d4, tk4, os4⟩ := s4
    refine mw_called (I4.kIn _ _ hC) ho4 cu4 hlen4 fun h5 t5 k5 e5 => ?_
    have I5 := I4.write (t' := tk4) (x := a) (e := a) (o := exo a C none) (by rw [ea4]; exact True.intro) (.inl rfl) k5 ⟨_, e5⟩ (exo_ok e5)
    rw [exo_upd ea4] at I5
    have I6 : Inv (ncx CX P w K mg base N F f A outer s H E) [] (startF N (.ref a :: vr) [some (.ref C)]) H4 ⟨h5, g4, d4, tk4, os4⟩ := ⟨I5.ok, I5.os, I5.bare, I5.base, I5.loc, I5.cell, I5.free, I5.freeC, fun p hp => absurd (show p ∈ ([] : List (Addr × Obj)) ++ [] from hp) (by simp), I5.hok, I5.len⟩
    exact wpAt_of_wpAny (wpAny_mono (hR.run [] _ _ _ _ I6 tr4) (fun fl s' z => fin z) fun _ _ z => z)
end
end Wx

namespace Wx
open PySem PySem.Spec PyProof.Rows L2
/-! a caught exception that is kept behind its except suite -/
/-- at a: an exception of the class cls, its dict d -/
def exv (cls : Value) (d : Option Addr) (a : Addr) : HO := .ext fun h => ∃ (oe : Obj) (vs : Array Value), h.get? a = some oe ∧ Zc cls d oe ∧ oe.data = .fields vs
theorem exv_ok {P : Program} {w : World} {H : Hp} {h : Heap} {a : Addr} {cls : Value} {d : Option Addr} {oe : Obj} {vs : Array Value} (e : h.get? a = some oe) (z : Zc cls d oe) (q : oe.data = .fields vs) : ObjOk P w H h a (exv cls d a) :=
  ⟨⟨oe, vs, e, z, q⟩, ⟨oe, e⟩, fun _ _ ⟨o, v, x, y⟩ k => ⟨o, v, k o x, y⟩⟩
theorem exv_at {P : Program} {w : World} {H : Hp} {h : Heap} {a : Addr} {cls : Value} {d : Option Addr} (x : HOk P w H h) (e : H a = some (exv cls d a)) : ∃ (oe : Obj) (vs : Array Value), h.get? a = some oe ∧ Zc cls d oe ∧ oe.data = .fields vs := by
  have y : ObjOk P w H h a (.ext fun h => ∃ (oe : Obj) (vs : Array Value), h.get? a = some oe ∧ Zc cls d oe ∧ oe.data = .fields vs) := x a _ e
  exact y.1
section
variable {X : Cx} {pins : List (Addr × Obj)} {σ : L2.St} {H : Hp} {s : Shared}
theorem tracked {a : Addr} {oe : Obj} {vs : Array Value} {cls : Value} {d : Option Addr} (J : Inv X ((a, oe) :: pins) σ H s) (n0 : X.s_0.heap.get? a = none) (np : ∀ p, p ∈ X.pn ++ pins → p.1 ≠ a) (hz : Zc cls d oe) (hd : oe.data = .fields vs) :
    Inv X pins σ (upd H a (exv cls d a)) s := by
  obtain ⟨ga, na, nL, nF, nc⟩ := J.pin (a, oe) (List.mem_append_right _ List.mem_cons_self)
  have ga : s.heap.get? a = some oe := ga
  have na : H a = none := na
  have neS : ∀ {b : Addr} {o : HO}, H b = some o → b ≠ a := fun e => ne_of_none e na
  have ne0 : ∀ {b : Addr} {o : Obj}, X.s_0.heap.get? b = some o → b ≠ a := fun {b o} e z => by
    rw [z, n0] at e
    cases e
  refine ⟨J.ok, J.os, J.bare, ⟨J.base.keep, J.base.slot, fun b o e n x => ?_, J.base.there, fun b xs e => ?_, fun b o u e => ?_, fun b ps e => ?_⟩, J.loc, J.cell, ?_, fun y c e => ?_, fun p hp => ?_, fun b u e => ?_, J.len⟩
  · rw [upd_ne (ne0 e)]
    exact J.base.free b o e n x
  · have q := J.base.tups b xs e
    rw [upd_ne (neS q)]
    exact q
  · have q := J.base.frzs b o u e
    rw [upd_ne (neS q)]
    exact q
  · obtain ⟨ms, q⟩ := J.base.tbls b ps e
    exact ⟨ms, by rw [upd_ne (neS q)]; exact q⟩
  · rw [upd_ne (fun z => nL z.symm)]
    exact J.free
  · have nca : c ≠ a := fun z => by
      obtain ⟨v, o, q1, q2⟩ := J.cell y c e
      rw [z, ga] at q1
      cases q1
      exact nc _ q2
    rw [upd_ne nca]
    exact J.freeC y c e
  · have hm : p ∈ X.pn ++ (a, oe) :: pins := by
      rcases List.mem_append.mp hp with z | z
      · exact List.mem_append_left _ z
      · exact List.mem_append_right _ (List.mem_cons_of_mem _ z)
    obtain ⟨q1, q2, q3, q4, q5⟩ := J.pin p hm
    exact ⟨q1, by rw [upd_ne (np p hp)]; exact q2, q3, q4, q5⟩
  · by_cases hb : b = a
    · subst hb
      rw [upd_same] at e
      cases e
      exact exv_ok ga hz hd
    · rw [upd_ne hb] at e
      exact (J.hok b u e).stay (fun _ _ _ q => q) (fun c q => by rw [upd_ne (neS q)]; exact q) fun c xs q => by rw [upd_ne (neS q)]; exact q
end
/-- what 'except x as n: ..' wishes, the exception kept: slot i is n's -/
def wKeep (K : PySem.W.Frag) (c : Value) (i : Nat) (ts : Addr → Value → Option Addr → TS) (Wout : WX) (D : Ends) : WX := fun cls d σ H =>
  ∃ b, PySem.W.exmOne K cls c = some b ∧ (b = true → ∀ a, H a = none → ts a cls d { nx := fun σ1 H1 => D.nx (σ1.set i none) (upd H1 a (exv cls d a)), rt := fun v H1 => D.rt v (upd H1 a (exv cls d a)), bk := fun σ1 H1 => D.bk (σ1.set i none) (upd H1 a (exv cls d a)), ct := fun σ1 H1 => D.ct (σ1.set i none) (upd H1 a (exv cls d a)) } (σ.set i (some (.ref a))) H) ∧
    (b = false → Wout cls d σ H)
section
variable {X : Cx} {x n : Str} {c : Value} {i : Nat} {body suite : List Stmt} {b₀ : Stmt} {np pos pos' : Pos} {tb : WX → TS} {ts : Addr → Value → Option Addr → TS} {Wout : WX}
theorem ps_try_keep (hex : X.ex = []) (stk : X.stack = X.env :: X.outer) (frm : X.env.frame = some X.env.locals) (nd : X.N.Nodup) (atI : X.N[i]? = some n) (lcl : X.env.kindOf n = some .local) (nms : Names X x c) (tko : Takes X Wout)
    (hbody : ∀ (W : WX) (pn : List (Addr × Obj)) (xe : Value → Shared → Prop), Takes (X.tr pn xe) W → PassesOwn (model X.prog X.w) X.A X.env xe → PSs (X.tr pn xe) body (tb W))
    (hsuite : ∀ (a : Addr) (oe : Obj) (cls : Value) (d : Option Addr) (pn : List (Addr × Obj)), Zc cls d oe → (∃ vs, oe.data = .fields vs) → PSs (X.suite a ((a, oe) :: pn)) (b₀ :: suite) (ts a cls d)) :
    PS X (.Try body [.ExceptHandler (some (.Name x np)) (some n) (b₀ :: suite) pos'] [] [] pos) (fun D σ H => tb (wKeep X.K c i ts Wout D) D σ H) := by
  refine ⟨fun pins s σ H D I0 rd => ?_⟩
  have okX := I0.ok
  have frA : X.A.frames = some (X.env :: X.outer) := okX.frames.trans (congrArg some stk)
  have locN : Loc X.env.scope n := Or.inl lcl
  refine wpAny_Try_except (wpAny_mono ((hbody (wKeep X.K c i ts Wout D) (X.pn ++ pins) (fun e s₁ => wpAny (model X.prog X.w) X.A (noteFrame e X.env) (fun _ s₂ => wpAny (model X.prog X.w) X.A (setFlight e none) (fun _ s₃ =>
      wpAny (model X.prog X.w) X.A (handleBy e X.env [.ExceptHandler (some (.Name x np)) (some n) (b₀ :: suite) pos']) (SP X pins D) X.xe s₃) X.xe s₂) X.xe s₁) (fun u s' caught => ?_) PassesOwn.looking).run [] s σ H D (I0.toTry _) rd) (fun fl s1 done => ?_) (fun _ _ z => z))
  · obtain ⟨a, B, sI, pinsT, σT, HT, cls, d, rfl, JT, nb, upT, skyT, naT, osT, agT, b, hcl, hyes, hno⟩ := caught
    have JX : Inv X pins σT HT sI := Inv.ofTry JT okX
    have skyX : Sky B (X.env :: X.outer) a (Zc cls d) X.env.locals s'.heap := stk ▸ skyT
    show wpAny _ X.A (noteFrame (Value.ref a) X.env) _ _ _
    refine Sky.land Zc.steady frA frm skyX (fun hq flq upq => ?_)
    have Jq : Inv X pins σT HT { s' with heap := hq } := JX.landed nb flq.1 (upT.trans upq) osT agT
    obtain ⟨oeq, vsq, heq, hzq, hdq⟩ := flq.there
    have nfr : a ∉ frs (X.env :: X.outer) := fun hm => by
      obtain ⟨_, o', e', nf'⟩ := flq.2.2.1.mem hm
      have z := heq.symm.trans e'
      cases z
      exact nf' _ hdq
    have nLoc : a ≠ X.env.locals := fun z => nfr (List.mem_filterMap.mpr ⟨X.env, List.mem_cons_self, frm.trans (congrArg some z.symm)⟩)
    have nOut : a ∉ X.fs := fun hm => by
      obtain ⟨ev, hev, qv⟩ := List.mem_filterMap.mp hm
      exact nfr (List.mem_filterMap.mpr ⟨ev, List.mem_cons_of_mem _ hev, qv⟩)
    -- the exception is younger than the frame
    have sInone : sI.heap.get? a = none := by
      cases z : sI.heap.get? a with
      | none => rfl
      | some o =>
        have Bn : B.get? a = none := by
          rcases skyX with ⟨_, q, _⟩ | q | q
          · exact q
          · exact q.2.1
          · exact q.2.1
        have y := nb a o z (fun hm => nfr (by rw [← stk]; exact hm))
        rw [Bn] at y
        cases y
    have s0none : X.s_0.heap.get? a = none := by
      cases z : X.s_0.heap.get? a with
      | none => rfl
      | some o =>
        obtain ⟨o2, y⟩ := JX.base.there a o z (by rw [hex]; simp)
        rw [sInone] at y
        cases y
    have pinNe : ∀ p, p ∈ X.pn ++ pins → p.1 ≠ a := fun p hp z => by
      have y := (JX.pin p hp).1
      rw [z, sInone] at y
      cases y
    have Sq := Jq.suite heq hdq naT nLoc nOut
    refine wpAny_handleBy_cons (codeAny_handlers_test ?_) (by rintro ⟨⟩)
    have LTy : PySem.W.Looks (model X.prog X.w) hq (typeOf (.ref a)) cls := fun A Q E s k q => wpAny_typeOf_ref (k _ _ heq) (hzq.1 ▸ q)
    have LEx := PySem.W.exm_one (M := model X.prog X.w) Jq.kIn LTy hcl
    have tst : ∀ {Q : Value → Shared → Prop} {E : Value → Shared → Prop}, Q c { s' with heap := hq } → wpAny (model X.prog X.w) (X.A.mark (some (.ref a))) (eval (.Name x np) X.env) Q E { s' with heap := hq } := fun {Q E} q => by
      obtain ⟨g1, g2, g3 | ⟨g3, g4, g5⟩⟩ := nms
      · exact ld_glob (X := X.suite a ((a, oeq) :: (X.pn ++ pins))) Sq g1 g3 q g2
      · exact ld_blt (X := X.suite a ((a, oeq) :: (X.pn ++ pins))) Sq g1 g3 g4 q g5 g2
    refine tst (LEx.here ?_)
    cases b with
    | true =>
      refine codeAny_handlers_suite_as (HandSPX.lands_againZ flq fun hr flr upr => ?_)
      have Jr : Inv X pins σT HT { s' with heap := hr } := JX.landed nb flr.1 ((upT.trans upq).trans upr) osT agT
      obtain ⟨oer, vsr, her, hzr, hdr⟩ := flr.there
      have Sr := Jr.suite her hdr naT nLoc nOut
      refine store_ok (X := X.suite a ((a, oer) :: (X.pn ++ pins))) (v := V.ref a) Sr nd atI locN rfl (fun s5 S5 => ?_) (Or.inr lcl)
      refine wpAny_mono ((hsuite a oer cls d (X.pn ++ pins) hzr ⟨_, hdr⟩).run [] s5 _ HT _ S5 (hyes rfl a naT)) (fun fl s6 out => ?_) (fun _ _ z => z.elim)
      have leave : ∀ {σ6 : L2.St} {H6 : Hp} {Q : Shared → Prop}, Inv (X.suite a ((a, oer) :: (X.pn ++ pins))) [] σ6 H6 s6 → (∀ s7, Inv X pins (σ6.set i none) (upd H6 a (exv cls d a)) s7 → Q s7) →
          wpAny (model X.prog X.w) X.A (do bindName X.env n .none; unbindBehindTheSuite X.env n pos') (fun _ s7 => Q s7) X.xe s6 := fun {σ6 H6 Q} S6 hQ => by
        have S7 : Inv X ((a, oer) :: pins) σ6 H6 s6 := ⟨okX, S6.os, S6.bare, S6.base, S6.loc, S6.cell, S6.free, S6.freeC, fun p hp => S6.pin p (by
          rw [List.append_nil]
          rcases List.mem_append.mp hp with z | z
          · exact List.mem_cons_of_mem _ (List.mem_append_left _ z)
          · rcases List.mem_cons.mp z with y | y
            · rw [y]
              exact List.mem_cons_self
            · exact List.mem_cons_of_mem _ (List.mem_append_right _ y)), S6.hok, S6.len⟩
        exact gone_ok S7 nd atI lcl fun s7 J7 => hQ s7 (tracked J7 s0none pinNe hzr hdr)
      cases fl with
      | next =>
        obtain ⟨σ6, H6, S6, q6⟩ := out
        exact leave S6 fun s7 J7 => ⟨_, _, J7, q6⟩
      | brk =>
        obtain ⟨σ6, H6, S6, q6⟩ := out
        exact leave S6 fun s7 J7 => ⟨_, _, J7, q6⟩
      | cont =>
        obtain ⟨σ6, H6, S6, q6⟩ := out
        exact leave S6 fun s7 J7 => ⟨_, _, J7, q6⟩
      | ret u =>
        obtain ⟨v6, σ6, H6, S6, r6, q6⟩ := out
        exact leave S6 fun s7 J7 => ⟨_, _, _, J7, r6, q6⟩
    | false =>
      show wpAny _ X.A (handleBy (Value.ref a) X.env []) _ _ _
      refine wpAny_handleBy_nil ?_
      obtain ⟨z1, z2, z3, oe, vs, T1, oT1, tsT, he, hz, hd, h1, hr1⟩ := id flq
      unfold PySem.passOn
      refine wpAny_bind (wpAny_field he hd h1 ?_)
      rw [if_neg (show ¬ ((Value.ref T1 == Value.none) = true) by simp)]
      have fin : wpAny (model X.prog X.w) X.A (setFlight (.ref a) X.env.frame) (fun _ s4 => wpAny (model X.prog X.w) X.A (throw (.ref a) : Sem Flow) (SP X pins D) X.xe s4) X.xe { s' with heap := hq } := by
        rw [frm]
        exact HandSPX.setFlight_upZ flq fun h4 hh4 up4 => wpAny_throw (tko _ _ ⟨a, B, sI, pins, σT, HT, cls, d, rfl, JX, nb, (upT.trans upq).trans up4, .inr (.inr (by rw [stk]; exact hh4)), naT, osT, agT, hno rfl⟩)
      first
        | exact wpAny_bind (wpAny_pure (wpAny_bind fin))
        | exact wpAny_bind fin
  · cases fl with
    | next =>
      obtain ⟨σ1, H1, J1, q1⟩ := done
      exact wpAny_execs_nil ⟨σ1, H1, J1.ofTry okX, q1⟩
    | brk =>
      obtain ⟨σ1, H1, J1, q1⟩ := done
      exact ⟨σ1, H1, J1.ofTry okX, q1⟩
    | cont =>
      obtain ⟨σ1, H1, J1, q1⟩ := done
      exact ⟨σ1, H1, J1.ofTry okX, q1⟩
    | ret u =>
      obtain ⟨v1, σ1, H1, J1, r1, q1⟩ := done
      exact ⟨v1, σ1, H1, J1.ofTry okX, r1, q1⟩
end
end Wx

namespace Wx
open PySem PySem.Spec PyProof.Rows L2 NdefX
section
variable {X : Cx}
/-- e.n, e a kept exception of an own class -/
def tEv (K : PySem.W.Frag) (n : Str) (te : TE) : TE := fun σ H Q => te σ H fun x H1 => ∃ (a C dd : Addr) (fs : List (Str × V)) (v : V), x = .ref a ∧ XfC K C ∧ PySem.W.findIn K (.ref C) n = some none ∧ H1 a = some (exv (.ref C) (some dd) a) ∧ H1 dd = some (.xd fs) ∧ fs.lookup n = some v ∧ Q v H1
theorem pe_ev {e : Expr} {te : TE} {pos : Pos} {n : Str} (he : PE X e te) (hb : attributeBase e n X.env (eval e X.env) = eval e X.env := by rfl) : PE X (.Attribute e n pos) (tEv X.K n te) := by
  refine ⟨fun pins s σ H Q I h => attr_of hb (thn (he.run pins s σ H _ I h) fun u s1 got => ?_)⟩
  obtain ⟨x, H1, I1, rx, a, C, dd, fs, v, ex, T, hno, ea, ed, hl, q⟩ := got
  subst ex
  obtain rfl : u = Value.ref a := rx
  obtain ⟨oe, vs, ga, hz, hd⟩ := exv_at I1.hok ea
  obtain ⟨mA, hns, hr⟩ : ObjOk X.prog X.w H1 s1.heap dd (.xd fs) := I1.hok dd _ ed
  obtain ⟨od, ho, hlk⟩ := lookIn_ns hns
  obtain ⟨u, hu, ru⟩ := RelO.some_of (v := v) (o := mA n) (by rw [← hl]; exact hr n)
  have inst : PySem.W.InstAt s1.heap a oe C (some od) := ⟨ga, hz.1, by unfold PySem.W.notCls; rw [hd] <;> rfl, by rw [hz.2]; exact ho⟩
  exact HandSPX.exc_get I1.kIn inst T.ga T.gg T.exC (PySem.W.findObj_own T.hdC hno rfl (by rw [hlk, hu])) (handed_of ru) ⟨v, H1, I1.tok _, ru, q⟩
/-- isinstance(e, c), e a kept exception of an own class -/
def rIsX (K : PySem.W.Frag) : List V → Hp → VK → Prop := fun xs H Q => ∃ (a C : Addr) (d : Option Addr) (c : V) (u : Value) (b : Bool), xs = [.ref a, c] ∧ ClsV c u ∧ ExcC K C ∧ H a = some (exv (.ref C) d a) ∧ (∀ dd, d = some dd → ∃ fs, H dd = some (.xd fs)) ∧ PySem.W.kitOne K (.ref C) u = some b ∧ Q (.bl b) H
theorem call_isX : CallR X (.builtin "isinstance") (rIsX X.K) := by
  intro pins s σ H xs us Q I r h
  obtain ⟨a, C, d, c, u, b, rfl, hc, T, ea, hd, hk, q⟩ := h
  cases r with
  | cons r1 r2 =>
    cases r2 with
    | cons r3 r4 =>
      cases r4
      cases r1
      have eu := hc.eq r3
      subst eu
      obtain ⟨oe, vs, ga, hz, hf⟩ := exv_at I.hok ea
      have inst : ∃ od, PySem.W.InstAt s.heap a oe C od := by
        cases d with
        | none => exact ⟨none, ga, hz.1, by unfold PySem.W.notCls; rw [hf] <;> rfl, by rw [hz.2]; trivial⟩
        | some dd =>
          obtain ⟨fs, ed⟩ := hd dd rfl
          obtain ⟨mA, hns, _⟩ : ObjOk X.prog X.w H s.heap dd (.xd fs) := I.hok dd _ ed
          obtain ⟨od, ho, _⟩ := lookIn_ns hns
          exact ⟨some od, ga, hz.1, by unfold PySem.W.notCls; rw [hf] <;> rfl, by rw [hz.2]; exact ho⟩
      obtain ⟨od, inst⟩ := inst
      have hcl : (PySem.W.clsIn X.K C).isSome = true := by
        obtain ⟨cd, hcd, _⟩ := PySem.W.any_some T.hd
        rw [hcd]
        rfl
      exact PySem.W.kia_one (PySem.W.kitx_exc hcl T.hg T.hk T.hs T.ha T.hn T.ht T.hm) I.kIn inst hk (fun z => nomatch z) fun tk => ⟨.bl b, H, I.kept (t' := tk) fun _ _ z => z, rfl, q⟩
theorem call_repr_str : CallR X (.builtin "repr") (fun xs H Q => ∃ z, xs = [.str z] ∧ (reprText z).length ≤ sizeLine ∧ Q (.str (reprText z)) H) := by
  intro pins s σ H xs us Q I r h
  obtain ⟨z, rfl, hz, q⟩ := h
  obtain ⟨u, rfl, t, rfl⟩ := vals1 r
  exact PySem.P.repr_of_str ⟨.str (reprText z), H, I.tok _, ⟨_, rfl⟩, q⟩ hz
end
/-! ### what the errors' modules promise -/
/-- a value that a message can show -/
def ShowOk (x : V) : Prop := (∃ z, x = .str z ∧ (reprText z).length ≤ 20000) ∨ (∃ i, x = .int i) ∨ x = .non ∨ ∃ b, x = .bl b
def sp_shown : Sp := fun vs H Q _ => ∃ x, vs = [x] ∧ ShowOk x ∧ ∀ y : Str, y.length ≤ 20000 → Q (.str y) H
/-- __init__ of an own error: the object at a gets a dict of these fields -/
def InitLeaves (H : Hp) (a C : Addr) (fs : List (Str × V)) (Q : VK) : Prop := ∀ (dx : Addr) (H' : Hp), H dx = none → (∀ b o, b ≠ a → H b = some o → H' b = some o) → H' a = some (exo a C (some dx)) → H' dx = some (exd dx fs) → Q .non H'
def spBadNumber (C : Addr) : Sp := fun vs H Q _ => ∃ (a : Addr) (z : Str) (v : V), vs = [.ref a, .str z, v] ∧ H a = some (exo a C none) ∧ z.length ≤ 1000 ∧ ShowOk v ∧ InitLeaves H a C [("value", v), ("what", .str z)] Q
def spBadName (C : Addr) : Sp := fun vs H Q _ => ∃ (a : Addr) (v : V), vs = [.ref a, v] ∧ H a = some (exo a C none) ∧ ShowOk v ∧ InitLeaves H a C [("name", v)] Q
/-- all that is asked of an own error class -/
structure ErrC (P : Program) (K : PySem.W.Frag) (mg : Str → Option Value) (x qual : Str) (C f cda cc : Addr) : Prop where
  g : mg x = some (.ref C)
  sup : SupTxt P K mg C cda cc qual
  ini : PySem.W.findIn K (.ref C) "__init__" = some (some (.ref f))
  tyI : PySem.W.typeIn K (.ref f) = some (.type "function")
  xf : XfC K C
  isx : ExcC K C
  exm : PySem.W.exmOne K (.ref C) (.ref C) = some true
  noWhat : PySem.W.findIn K (.ref C) "what" = some none
  noValue : PySem.W.findIn K (.ref C) "value" = some none
  noName : PySem.W.findIn K (.ref C) "name" = some none
  noTurn : PySem.W.findIn K (.ref C) "turn" = some none
theorem init_leaves2 {H : Hp} {a C : Addr} {f1 f2 : Str} {v1 v2 : V} {Q : VK} (ha : H a = some (exo a C none)) (k : InitLeaves H a C [(f2, v2), (f1, v1)] Q) {dx : Addr} (nd : H dx = none) (ne : dx ≠ a) :
    Q .non (upd (upd (upd H dx (exd dx [(f1, v1)])) a (exo a C (some dx))) dx (exd dx [(f2, v2), (f1, v1)])) := by
  refine k dx _ nd (fun b o nb e => ?_) ?_ upd_same
  · have nbd : b ≠ dx := ne_of_none e nd
    rw [upd_ne nbd, upd_ne nb, upd_ne nbd]
    exact e
  · rw [upd_ne (Ne.symm ne)]
    exact upd_same
theorem init_leaves1 {H : Hp} {a C : Addr} {f1 : Str} {v1 : V} {Q : VK} (k : InitLeaves H a C [(f1, v1)] Q) {dx : Addr} (nd : H dx = none) (ne : dx ≠ a) : Q .non (upd (upd H dx (exd dx [(f1, v1)])) a (exo a C (some dx))) := by
  refine k dx _ nd (fun b o nb e => ?_) upd_same ?_
  · rw [upd_ne nb, upd_ne (ne_of_none e nd)]
    exact e
  · rw [upd_ne ne]
    exact upd_same
/-- C(..) made: its promise by what __init__ leaves; the exception itself goes, its dict stays -/
theorem made_of {H1 : Hp} {a C : Addr} {fs : List (Str × V)} {Q : XK} (na : H1 a = none) (k : ∀ (d : Addr) (H' : Hp), H1 d = none → Same H1 H' → H' d = some (.xd fs) → Q (.ref C) (some d) H') :
    InitLeaves (upd H1 a (exo a C none)) a C fs (fun v H2 => v = .non ∧ ∃ (d : Addr) (gs : List (Str × V)), H2 a = some (exo a C (some d)) ∧ H2 d = some (exd d gs) ∧ H1 d = none ∧ Q (.ref C) (some d) (upd (del H2 a) d (.xd gs))) := fun dx H' nd keep ha hd => by
  have nda : dx ≠ a := fun z => by
    rw [z, upd_same] at nd
    cases nd
  have nd1 : H1 dx = none := by
    rw [upd_ne nda] at nd
    exact nd
  refine ⟨rfl, dx, fs, ha, hd, nd1, k dx _ nd1 (fun b o e => ?_) upd_same⟩
  have nba : b ≠ a := ne_of_none e na
  rw [upd_ne (ne_of_none e nd1), del_ne nba]
  exact keep b o nba (by rw [upd_ne nba]; exact e)
end Wx

namespace Wx
open PySem PySem.Spec PyProof.Rows L2 NdefX
theorem gives_lt_ib (p : Bool) (b : Int) (u : Tok) : Gives (Builtin.«int.__lt__» ⟨[.bool p, .int b u], []⟩) (.val (Value.bool (decide ((if p = true then (1 : Int) else 0) < b)))) :=
  .of_wp fun M A E s Q h => by obtain ⟨hp, g, d, tk, os⟩ := s; wp_walk; exact ⟨_, rfl, h⟩
theorem gives_gt_ib (p : Bool) (b : Int) (u : Tok) : Gives (Builtin.«int.__gt__» ⟨[.bool p, .int b u], []⟩) (.val (Value.bool (decide ((if p = true then (1 : Int) else 0) > b)))) :=
  .of_wp fun M A E s Q h => by obtain ⟨hp, g, d, tk, os⟩ := s; wp_walk; exact ⟨_, rfl, h⟩
section
variable {prog : Program} {w : World} {A : Around} {E : Value → Shared → Prop} {s : Shared}
theorem lt_bool_int {p : Bool} {b : Int} {u : Tok} {Q : Value → Shared → Prop} (h : Q (.bool (decide (PyProof.Rows.b2i p < b))) s) : wpAny (model prog w) A (compareOp .Lt (.bool p) (.int b u)) Q E s := by
  show wpAny _ A (richCompare .Lt _ _) Q E s
  exact PySem.SeqAt.rc_left_or rfl (typeIs_int s b u) (by decide) F.sub_int_bool F.slot_bool_lt
    (call_gives F.slot_bool_lt rfl F.entry_int_lt (F.args_int_lt_2 _ _) (gives_lt_ib p b u) ⟨nofun, h⟩) (.inl rfl)
theorem lt_int_bool {p : Bool} {a : Int} {t : Tok} {Q : Value → Shared → Prop} (h : Q (.bool (decide (a < PyProof.Rows.b2i p))) s) : wpAny (model prog w) A (compareOp .Lt (.int a t) (.bool p)) Q E s := by
  show wpAny _ A (richCompare .Lt _ _) Q E s
  exact PySem.SeqAt.rc_sub_first_or (typeIs_int s a t) rfl (by decide) F.sub_bool_int F.slot_bool_gt
    (call_gives F.slot_bool_gt rfl F.entry_int_gt (F.args_int_gt_2 _ _) (gives_gt_ib p a t) ⟨nofun, h⟩) (.inl rfl)
end
def nV : V → Option Int | .int i => some i | .bl b => some (if b = true then 1 else 0) | _ => none
section
variable {X : Cx}
theorem op_ltM : OpR X (compareOp .Lt) (fun x y H Q => ∃ i j, nV x = some i ∧ nV y = some j ∧ Q (.bl (decide (i < j))) H) := by
  intro pins s σ H x y v u Q I rx ry h
  obtain ⟨i, j, hx, hy, q⟩ := h
  cases x with
  | int a =>
    obtain rfl : a = i := Option.some.inj hx
    obtain ⟨t, rfl⟩ := rx
    cases y with
    | int b =>
      obtain rfl : b = j := Option.some.inj hy
      obtain ⟨t', rfl⟩ := ry
      exact PyProof.Rows.lt_int (fin_bl I q rfl)
    | bl b =>
      obtain rfl : (if b = true then 1 else 0) = j := Option.some.inj hy
      cases ry
      exact lt_int_bool (fin_bl I q rfl)
    | _ => cases hy
  | bl a =>
    obtain rfl : (if a = true then 1 else 0) = i := Option.some.inj hx
    cases rx
    cases y with
    | int b =>
      obtain rfl : b = j := Option.some.inj hy
      obtain ⟨t', rfl⟩ := ry
      exact lt_bool_int (fin_bl I q rfl)
    | bl b =>
      obtain rfl : (if b = true then 1 else 0) = j := Option.some.inj hy
      cases ry
      exact PyProof.Rows.lt_bool (fin_bl I q rfl)
    | _ => cases hy
  | _ => cases hx
theorem call_str_ib : CallR X (.type "str") (fun xs H Q => (∃ i, xs = [.int i] ∧ i.natAbs.log2 < 1920 ∧ Q (.str (toString i)) H) ∨ ∃ b, xs = [.bl b] ∧ Q (.str (if b = true then "True" else "False")) H) := by
  intro pins s σ H xs us Q I r h
  rcases h with ⟨i, rfl, hz, q⟩ | ⟨b, rfl, q⟩
  · obtain ⟨u, rfl, t, rfl⟩ := vals1 r
    exact PySem.P.str_of_int hz ⟨.str _, H, I.tok _, ⟨_, rfl⟩, q⟩
  · obtain ⟨u, rfl, hu⟩ := vals1 r
    obtain rfl : u = Value.bool b := hu
    exact PySem.P.str_of_bool ⟨.str _, H, I.tok _, ⟨_, by cases b <;> rfl⟩, q⟩
end
end Wx

namespace Wx
open PySem PySem.Spec PyProof.Rows L2 NdefX
/-! == and != by an own __eq__, any answer; C(..) inside a try -/
section
variable {prog : Program} {w : World} {A : Around} {E : Value → Shared → Prop} {K : PySem.W.Frag} {s : Shared} {x C f : Addr} {ox : Obj} {od : Option Obj}
theorem ifBound_B {M : Model} {name : Str} {id : String} {args : List Value} {Q : Option Value → Shared → Prop} (X : K.In s.heap) (I : PySem.W.InstAt s.heap x ox C od) (hs : PySem.W.findIn K (.ref C) name = some (some (.builtin id)))
    (hb : ∀ self, bindSpecial (.builtin id) self = pure (.builtin id, [self]))
    (h : wpAny M A (call (.builtin id) (.ref x :: args)) (fun v => Q (some v)) E s) : wpAny M A (callSpecialIfBound? (.ref x) name args) Q E s := by
  simp only [callSpecialIfBound?, bindSpecialIfBound?]
  refine wpAny_holding (wpAny_bind (wpAny_bind (wpAny_bind (I.type.here ((PySem.W.looks_findIn X hs).here ?_)))))
  refine wpAny_bind (wpAny_askSetting (wpAny_ite ?_))
  have fin : wpAny M A (call (.builtin id) ([.ref x] ++ args) >>= fun v => pure (some v)) Q E s := wpAny_bind (wpAny_mono h (fun v s' h' => wpAny_pure h') fun _ _ h' => h')
  simp only [hb]
  split
  · exact wpAny_bind (wpAny_pure (wpAny_pure (by exact fin)))
  · exact wpAny_tryCatch (wpAny_bind (wpAny_pure (wpAny_pure (by exact fin))))
theorem objNe_K {b : Value} {Q : Fin → Shared → Prop} (X : K.In s.heap) (I : PySem.W.InstAt s.heap x ox C od) (hs : PySem.W.findIn K (.ref C) "__eq__" = some (some (.ref f))) (hf : PySem.W.isFn K (.ref f) = true) (hu : A.units < cLine)
    (h : wpAny (model prog w) A (call (.ref f) [.ref x, b]) (fun v s' => ∃ k, v = .bool k ∧ Q (.done (.ret (.bool (!k)))) s') E s) : wpAny (model prog w) A (Builtin.«object.__ne__» ⟨[.ref x, b], []⟩) Q E s := by
  unfold Builtin.«object.__ne__»
  repeat (first
    | with_reducible refine wpAny_cRoomFor hu ?_
    | (refine wpAny_bind (m := callSpecialIfBound? (.ref x) (Str.ofString "__eq__") [b])
        (PySem.W.ifBound_K X I hs hf (wpAny_mono h (fun r s' hr => by
          obtain ⟨k, rfl, hq⟩ := hr
          repeat (first | exact hq | exact wpAny_pure hq | exact wpAny_truthy_bool hq | (refine wpAny_bind (m := truthy (.bool _)) (wpAny_truthy_bool ?_)) | wp_step)) fun _ _ e => e)))
    | wp_step)
/-- x != y by the class's own __eq__ -/
theorem ne_K {L : Addr} {h₀ : Heap} {m : Str → Option Value} {b tb : Value} {Q : Value → Shared → Prop} (hu : A.units + 1 < cLine) (FR : Fr h₀ L s.heap m) (X₀ : K.In h₀) (I : PySem.W.InstAt s.heap x ox C od) (hb : PySem.W.Looks (model prog w) s.heap (typeOf b) tb) (hn : PySem.W.notFirst K C tb = true)
    (hne : PySem.W.findIn K (.ref C) "__ne__" = some (some (.builtin "object.__ne__"))) (ho : PySem.W.subIn K (.ref C) (.type "object") = some true)
    (hs : PySem.W.findIn K (.ref C) "__eq__" = some (some (.ref f))) (hf : PySem.W.isFn K (.ref f) = true)
    (h : wpAny (model prog w) A.in1 (call (.ref f) [.ref x, b]) (fun v s' => ∃ k, v = .bool k ∧ Q (.bool (!k)) s') E s) : wpAny (model prog w) A (richCompare .NotEq (.ref x) b) Q E s := by
  have X := X₀.keeps FR.keep
  have one : wpAny (model prog w) A (tryCompare (.ref x) "__ne__" b) (fun r s' => ∃ v, r = some v ∧ Q v s') E s := by
    simp only [tryCompare]
    refine wpAny_bind (ifBound_B X I hne F.cmp_object.ne.bind (wpAny_call (codeAny_call_builtin F.cmp_object.ne.plain F.cmpEntry_ne
      (@PySem.W.check_slot (model prog w) _ _ s "object.__ne__" "object" "__ne__" (.ref x) [b] [] _ F.cmpKind_ne F.cmpSplit_ne (I.type.andThen (PySem.W.looks_subIn X ho)) (F.cmpArgs_ne _ _)
        (objNe_K (A := A.in1) X I hs hf hu (wpAny_mono h (fun v s' hv => ?_) fun _ _ e => e))))))
    obtain ⟨k, rfl, hq⟩ := hv
    first | exact ⟨k, rfl, wpAny_pure ⟨_, rfl, hq⟩⟩ | exact ⟨k, rfl, wpAny_pure (wpAny_pure ⟨_, rfl, hq⟩)⟩ | exact ⟨k, rfl, _, rfl, hq⟩
  unfold richCompare
  simp only [oneThing_ref]
  refine wpAny_holding (wpAny_bind (wpAny_cRoomFor (Nat.lt_of_succ_lt hu) ?_))
  rw [cmpInfo_NotEq]
  dsimp only
  refine wpAny_bind (I.type.here (wpAny_bind (hb.here ?_)))
  split
  · rename_i q
    have e : PySem.W.subIn K tb (.ref C) = some false := by
      rcases Bool.or_eq_true_iff.mp hn with e | e
      · rw [beq_iff_eq.mp e] at q; simp at q
      · exact beq_iff_eq.mp e
    refine wpAny_bind ((PySem.W.looks_subIn X e).here ?_)
    simp only [Bool.false_eq_true, if_false]
    refine wpAny_bind (wpAny_mono one (fun r s' z => ?_) fun _ _ e => e)
    obtain ⟨v, rfl, hq⟩ := z
    exact wpAny_pure hq
  · refine wpAny_bind (wpAny_pure ?_)
    simp only [Bool.false_eq_true, if_false]
    refine wpAny_bind (wpAny_mono one (fun r s' z => ?_) fun _ _ e => e)
    obtain ⟨v, rfl, hq⟩ := z
    exact wpAny_pure hq
end
/-- two instances of the class at C -/
def rOwnI (K : PySem.W.Frag) (C : Addr) (sp : Sp) (E : XK) (g : Bool → Bool) : R2 := fun x y H Q => ∃ a dx fs b dy gs, x = .ref a ∧ y = .ref b ∧ H a = some (.ins C dx fs) ∧ H b = some (.ins C dy gs) ∧ sp [x, y] H (fun z H' => ∃ k, z = .bl k ∧ Q (.bl (g k)) H') E
section
variable {X : Cx} {CX : CXT} {C f : Addr} {n : Nat} {fd : FuncData} {ps : List Str} {sp : Sp} {E : XK}
theorem run_two {A : Around} {pins : List (Addr × Obj)} {σ : L2.St} {H : Hp} {s : Shared} {us : List Value} {vs : List V} {Q : VK} (F : FnOk X.prog X.w X.K X.mg X.base CX n f fd ps sp) (hr : Room n A) (e0 : Env0 X.prog X.w X.K X.mg X.base A X.stack s H) (hb : Binds X.K fd ps []) (hx : Passes CX X E)
    (I : Inv X pins σ H s) (r : Vals vs us) (h : sp vs H Q E) : wpAny (model X.prog X.w) A (call (.ref f) us) (EP X pins σ Q) X.xe s := by
  have hl : us.length = ps.length := by rw [← r.length]; exact F.len _ _ _ _ h
  refine wpAny_call (codeAny_mono (F.run A X.stack s H ⟨us, []⟩ us vs Q E hr e0 (by
    have := hb s us I.kIn (by simpa using hl)
    simpa using this) r h) fun r s' hq => ?_)
  cases r with
  | error e => exact hx pins σ H s e s' I hq
  | ok fl =>
    cases fl with
    | ret w => exact I.after hq
    | next => exact False.elim hq
    | brk => exact False.elim hq
    | cont => exact False.elim hq
theorem op_eqI (F : FnOk X.prog X.w X.K X.mg X.base CX n f fd ps sp) (hr : Room n X.A) (hs : PySem.W.findIn X.K (.ref C) "__eq__" = some (some (.ref f))) (hf : PySem.W.isFn X.K (.ref f) = true) (hb : Binds X.K fd ps []) (hx : Passes CX X E) : OpR X (compareOp .Eq) (rOwnI X.K C sp E id) := by
  intro pins s σ H x y v u Q I rx ry h
  obtain ⟨a, dx, fs, b, dy, gs, rfl, rfl, ha, hb', q⟩ := h
  cases (show v = Value.ref a from rx)
  cases (show u = Value.ref b from ry)
  obtain ⟨mA, J, _⟩ := ins_get I.hok ha
  obtain ⟨mB, J', _⟩ := ins_get I.hok hb'
  obtain ⟨od, J, _⟩ := J.look
  obtain ⟨od', J', _⟩ := J'.look
  obtain ⟨m, hF⟩ := I.fr
  show wpAny (model X.prog X.w) X.A (richCompare .Eq _ _) (EP X pins σ Q) X.xe s
  refine PySem.W.cmp_K (op := .Eq) (tb := .ref C) hr.units0 hF I.ok.mod.kin J J'.type (by simp [PySem.W.notFirst]) hs hf ?_
  refine wpAny_mono (run_two (us := [.ref a, .ref b]) (vs := [.ref a, .ref b]) F hr I.env0 hb hx I (.cons rfl (.cons rfl .nil)) q) (fun w s' z => ?_) fun _ _ x => x
  obtain ⟨z', H', I', rz, k, ez, qz⟩ := z
  subst ez
  cases (show w = Value.bool k from rz)
  exact ⟨.bl k, H', I', rfl, qz⟩
theorem op_neI (F : FnOk X.prog X.w X.K X.mg X.base CX n f fd ps sp) (hr : Room (n + 1) X.A) (hne : PySem.W.findIn X.K (.ref C) "__ne__" = some (some (.builtin "object.__ne__"))) (ho : PySem.W.subIn X.K (.ref C) (.type "object") = some true)
    (hs : PySem.W.findIn X.K (.ref C) "__eq__" = some (some (.ref f))) (hf : PySem.W.isFn X.K (.ref f) = true) (hb : Binds X.K fd ps []) (hx : Passes CX X E) : OpR X (compareOp .NotEq) (rOwnI X.K C sp E not) := by
  intro pins s σ H x y v u Q I rx ry h
  obtain ⟨a, dx, fs, b, dy, gs, rfl, rfl, ha, hb', q⟩ := h
  cases (show v = Value.ref a from rx)
  cases (show u = Value.ref b from ry)
  obtain ⟨mA, J, _⟩ := ins_get I.hok ha
  obtain ⟨mB, J', _⟩ := ins_get I.hok hb'
  obtain ⟨od, J, _⟩ := J.look
  obtain ⟨od', J', _⟩ := J'.look
  obtain ⟨m, hF⟩ := I.fr
  show wpAny (model X.prog X.w) X.A (richCompare .NotEq _ _) (EP X pins σ Q) X.xe s
  have hr1 : Room n X.A.in1 := hr.in1
  refine ne_K (tb := .ref C) hr1.units0 hF I.ok.mod.kin J J'.type (by simp [PySem.W.notFirst]) hne ho hs hf ?_
  refine wpAny_mono (run_two (us := [.ref a, .ref b]) (vs := [.ref a, .ref b]) F hr1 I.env0.in1 hb hx I (.cons rfl (.cons rfl .nil)) q) (fun w s' z => ?_) fun _ _ x => x
  obtain ⟨z', H', I', rz, k, ez, qz⟩ := z
  subst ez
  cases (show w = Value.bool k from rz)
  exact ⟨k, rfl, .bl (!k), H', I', rfl, qz⟩
end
section
variable {X : Cx} {CX : CXT} {k : Nat} {f C : Addr} {fd : FuncData} {ps : List Str} {sp : Sp} {E : L2.St → XK} {x : Str} {p pos : Pos} {e : Expr} {es : List Expr} {t : TA}
/-- C(..) where what is raised is wished for at the caller's slots -/
def tMakeS (C : Addr) (sp : Sp) (E : L2.St → XK) (t : TA) : TE := fun σ H Q => t σ H fun vs H1 => ∀ x dx, H1 x = none → H1 dx = none → dx ≠ x → sp (.ref x :: vs) (upd (upd H1 dx (.own x)) x (.ins C dx [])) (fun v H2 => v = .non ∧ Q (.ref x) H2) (E σ)
theorem pe_makeS (M : Mk X.K C f) (F : FnOk X.prog X.w X.K X.mg X.base CX k f fd ps sp) (hr : Room (k + 1) X.A) (hg : Gl X x) (hm : X.mg x = some (.ref C)) (hb : Binds X.K fd ps []) (hx : ∀ σ, PassesAt CX X σ (E σ))
    (ha : PA X (e :: es) t) (hdb : (x == ("__debug__" : Str)) = false := by decide) (he : starEach (e :: es) X.env = (false, eval e X.env) :: starEach es X.env := by rfl) (hpl : (backTo pos (starEach es X.env)).any (·.1) = false := by rfl) :
    PE X (.Call (.Name x p) (e :: es) [] pos) (tMakeS C sp E t) := by
  refine ⟨fun pins s σ H Q I h => ?_⟩
  refine wpAny_Call_Name_kw (ld_glob I hg hm ?_ hdb)
  refine PySem.W.callWith_K (h₀ := X.base) I.ok.mod.kin M.kp (thn (ha.run pos pins s σ H _ I h) fun us s1 ⟨vs, H1, I1, r, q⟩ => ⟨I1.kIn, ?_⟩) he hpl
  have hq := q (s1.heap.objs.size + 1) s1.heap.objs.size (I1.hok.fresh (Nat.le_succ _)) (I1.hok.fresh (Nat.le_refl _)) (Nat.ne_of_lt (Nat.lt_succ_self _))
  have I2 := Inv.made (C := C) I1
  have r2 : Vals (V.ref (s1.heap.objs.size + 1) :: vs) (Value.ref (s1.heap.objs.size + 1) :: us) := .cons rfl r
  have hl : (Value.ref (s1.heap.objs.size + 1) :: us).length = ps.length := by
    have e := r2.length
    rw [F.len _ _ _ _ hq] at e
    exact e.symm
  refine wpAny_call (make_map (f := f) I1.kIn M.makes M.init (beq_iff_eq.mp M.fn) (codeAny_mono (F.run _ X.stack _ _ ⟨Value.ref (s1.heap.objs.size + 1) :: us, []⟩ (Value.ref (s1.heap.objs.size + 1) :: us) _ _ (E σ) (hr.make C us [])
    (I2.env0.make C us []) (by
      have := hb _ (Value.ref (s1.heap.objs.size + 1) :: us) I2.kIn (by simpa using hl)
      simpa using this) r2 hq) fun r s' hq' => ?_))
  cases r with
  | error e => exact hx σ pins _ _ e s' I2 hq'
  | ok fl =>
    cases fl with
    | ret u =>
      obtain ⟨v, H', I3, rv, ev, q3⟩ := I2.after hq'
      subst ev
      exact ⟨rv, ⟨V.ref (s1.heap.objs.size + 1), H', I3, rfl, q3⟩⟩
    | next => exact False.elim hq'
    | brk => exact False.elim hq'
    | cont => exact False.elim hq'
end
end Wx

namespace Wx
open PySem PySem.Spec PyProof.Rows L2 NdefX
def wKeeps (K : PySem.W.Frag) (i : Nat) (Wout : WX) (D : Ends) : List (Value × (Addr → Value → Option Addr → TS)) → WX
  | [] => Wout
  | (c, ts) :: r => fun cls d σ H =>
    ∃ b, PySem.W.exmOne K cls c = some b ∧ (b = true → ∀ a, H a = none → ts a cls d { nx := fun σ1 H1 => D.nx (σ1.set i none) (upd H1 a (exv cls d a)), rt := fun v H1 => D.rt v (upd H1 a (exv cls d a)), bk := fun σ1 H1 => D.bk (σ1.set i none) (upd H1 a (exv cls d a)), ct := fun σ1 H1 => D.ct (σ1.set i none) (upd H1 a (exv cls d a)) } (σ.set i (some (.ref a))) H) ∧
      (b = false → wKeeps K i Wout D r cls d σ H)
inductive HdsKeep (X : Cx) (n : Str) : List ExceptHandler → List (Value × (Addr → Value → Option Addr → TS)) → Prop
  | nil : HdsKeep X n [] []
  | cons {x : Str} {c : Value} {ts : Addr → Value → Option Addr → TS} {b₀ : Stmt} {suite : List Stmt} {np pos' : Pos} {hds : List ExceptHandler} {l : List (Value × (Addr → Value → Option Addr → TS))} (hc : Names X x c)
      (hsu : ∀ (a : Addr) (oe : Obj) (cls : Value) (d : Option Addr) (pn : List (Addr × Obj)), Zc cls d oe → (∃ vs, oe.data = .fields vs) → PSs (X.suite a ((a, oe) :: pn)) (b₀ :: suite) (ts a cls d)) (r : HdsKeep X n hds l) :
      HdsKeep X n (.ExceptHandler (some (.Name x np)) (some n) (b₀ :: suite) pos' :: hds) ((c, ts) :: l)
section
variable {X : Cx} {n : Str} {i : Nat} {body : List Stmt} {h₀ : ExceptHandler} {hds : List ExceptHandler} {l : List (Value × (Addr → Value → Option Addr → TS))} {pos : Pos} {tb : WX → TS} {Wout : WX}
/-- several clauses, each one keeping its exception under the same name -/
theorem ps_try_keeps (hex : X.ex = []) (stk : X.stack = X.env :: X.outer) (frm : X.env.frame = some X.env.locals) (nd : X.N.Nodup) (atI : X.N[i]? = some n) (lcl : X.env.kindOf n = some .local) (tko : Takes X Wout)
    (hbody : ∀ (W : WX) (pn : List (Addr × Obj)) (xe : Value → Shared → Prop), Takes (X.tr pn xe) W → PassesOwn (model X.prog X.w) X.A X.env xe → PSs (X.tr pn xe) body (tb W))
    (hh : HdsKeep X n (h₀ :: hds) l) :
    PS X (.Try body (h₀ :: hds) [] [] pos) (fun D σ H => tb (wKeeps X.K i Wout D l) D σ H) := by
  refine ⟨fun pins s σ H D I0 rd => ?_⟩
  have okX := I0.ok
  have frA : X.A.frames = some (X.env :: X.outer) := okX.frames.trans (congrArg some stk)
  have locN : Loc X.env.scope n := Or.inl lcl
  refine wpAny_Try_except (wpAny_mono ((hbody (wKeeps X.K i Wout D l) (X.pn ++ pins) (fun e s₁ => wpAny (model X.prog X.w) X.A (noteFrame e X.env) (fun _ s₂ => wpAny (model X.prog X.w) X.A (setFlight e none) (fun _ s₃ =>
      wpAny (model X.prog X.w) X.A (handleBy e X.env (h₀ :: hds)) (SP X pins D) X.xe s₃) X.xe s₂) X.xe s₁) (fun u s' caught => ?_) PassesOwn.looking).run [] s σ H D (I0.toTry _) rd) (fun fl s1 done => ?_) (fun _ _ z => z))
  · obtain ⟨a, B, sI, pinsT, σT, HT, cls, d, rfl, JT, nb, upT, skyT, naT, osT, agT, wl⟩ := caught
    have JX : Inv X pins σT HT sI := Inv.ofTry JT okX
    have skyX : Sky B (X.env :: X.outer) a (Zc cls d) X.env.locals s'.heap := stk ▸ skyT
    show wpAny _ X.A (noteFrame (Value.ref a) X.env) _ _ _
    refine Sky.land Zc.steady frA frm skyX (fun hq flq upq => ?_)
    have Jq : Inv X pins σT HT { s' with heap := hq } := JX.landed nb flq.1 (upT.trans upq) osT agT
    obtain ⟨oeq, vsq, heq, hzq, hdq⟩ := flq.there
    have nfr : a ∉ frs (X.env :: X.outer) := fun hm => by
      obtain ⟨_, o', e', nf'⟩ := flq.2.2.1.mem hm
      have z := heq.symm.trans e'
      cases z
      exact nf' _ hdq
    have nLoc : a ≠ X.env.locals := fun z => nfr (List.mem_filterMap.mpr ⟨X.env, List.mem_cons_self, frm.trans (congrArg some z.symm)⟩)
    have nOut : a ∉ X.fs := fun hm => by
      obtain ⟨ev, hev, qv⟩ := List.mem_filterMap.mp hm
      exact nfr (List.mem_filterMap.mpr ⟨ev, List.mem_cons_of_mem _ hev, qv⟩)
    -- the exception is younger than the frame
    have sInone : sI.heap.get? a = none := by
      cases z : sI.heap.get? a with
      | none => rfl
      | some o =>
        have Bn : B.get? a = none := by
          rcases skyX with ⟨_, q, _⟩ | q | q
          · exact q
          · exact q.2.1
          · exact q.2.1
        have y := nb a o z (fun hm => nfr (by rw [← stk]; exact hm))
        rw [Bn] at y
        cases y
    have s0none : X.s_0.heap.get? a = none := by
      cases z : X.s_0.heap.get? a with
      | none => rfl
      | some o =>
        obtain ⟨o2, y⟩ := JX.base.there a o z (by rw [hex]; simp)
        rw [sInone] at y
        cases y
    have pinNe : ∀ p, p ∈ X.pn ++ pins → p.1 ≠ a := fun p hp z => by
      have y := (JX.pin p hp).1
      rw [z, sInone] at y
      cases y
    have Sq := Jq.suite heq hdq naT nLoc nOut
    have LTy : PySem.W.Looks (model X.prog X.w) hq (typeOf (.ref a)) cls := fun A Q E s k q => wpAny_typeOf_ref (k _ _ heq) (hzq.1 ▸ q)
    have go : ∀ (hs : List ExceptHandler) (l : List (Value × (Addr → Value → Option Addr → TS))), HdsKeep X n hs l → wKeeps X.K i Wout D l cls d σT HT → wpAny (model X.prog X.w) X.A (handleBy (Value.ref a) X.env hs) (SP X pins D) X.xe { s' with heap := hq } := by
      intro hs l hk
      induction hk with
      | nil =>
        intro wout
        refine wpAny_handleBy_nil ?_
        obtain ⟨z1, z2, z3, oe, vs, T1, oT1, tsT, he, hz, hd, h1, hr1⟩ := id flq
        unfold PySem.passOn
        refine wpAny_bind (wpAny_field he hd h1 ?_)
        rw [if_neg (show ¬ ((Value.ref T1 == Value.none) = true) by simp)]
        have fin : wpAny (model X.prog X.w) X.A (setFlight (.ref a) X.env.frame) (fun _ s4 => wpAny (model X.prog X.w) X.A (throw (.ref a) : Sem Flow) (SP X pins D) X.xe s4) X.xe { s' with heap := hq } := by
          rw [frm]
          exact HandSPX.setFlight_upZ flq fun h4 hh4 up4 => wpAny_throw (tko _ _ ⟨a, B, sI, pins, σT, HT, cls, d, rfl, JX, nb, (upT.trans upq).trans up4, .inr (.inr (by rw [stk]; exact hh4)), naT, osT, agT, wout⟩)
        first
          | exact wpAny_bind (wpAny_pure (wpAny_bind fin))
          | exact wpAny_bind fin
      | @cons x c ts b₀ suite np pos' hs l nms hsuite hrest ih =>
        intro wl
        obtain ⟨b, hcl, hyes, hno⟩ := wl
        refine wpAny_handleBy_cons (codeAny_handlers_test ?_) (by rintro ⟨⟩)
        have LEx := PySem.W.exm_one (M := model X.prog X.w) Jq.kIn LTy hcl
        have tst : ∀ {Q : Value → Shared → Prop} {E : Value → Shared → Prop}, Q c { s' with heap := hq } → wpAny (model X.prog X.w) (X.A.mark (some (.ref a))) (eval (.Name x np) X.env) Q E { s' with heap := hq } := fun {Q E} q => by
          obtain ⟨g1, g2, g3 | ⟨g3, g4, g5⟩⟩ := nms
          · exact ld_glob (X := X.suite a ((a, oeq) :: (X.pn ++ pins))) Sq g1 g3 q g2
          · exact ld_blt (X := X.suite a ((a, oeq) :: (X.pn ++ pins))) Sq g1 g3 g4 q g5 g2
        refine tst (LEx.here ?_)
        cases b with
        | true =>
          refine codeAny_handlers_suite_as (HandSPX.lands_againZ flq fun hr flr upr => ?_)
          have Jr : Inv X pins σT HT { s' with heap := hr } := JX.landed nb flr.1 ((upT.trans upq).trans upr) osT agT
          obtain ⟨oer, vsr, her, hzr, hdr⟩ := flr.there
          have Sr := Jr.suite her hdr naT nLoc nOut
          refine store_ok (X := X.suite a ((a, oer) :: (X.pn ++ pins))) (v := V.ref a) Sr nd atI locN rfl (fun s5 S5 => ?_) (Or.inr lcl)
          refine wpAny_mono ((hsuite a oer cls d (X.pn ++ pins) hzr ⟨_, hdr⟩).run [] s5 _ HT _ S5 (hyes rfl a naT)) (fun fl s6 out => ?_) (fun _ _ z => z.elim)
          have leave : ∀ {σ6 : L2.St} {H6 : Hp} {Q : Shared → Prop}, Inv (X.suite a ((a, oer) :: (X.pn ++ pins))) [] σ6 H6 s6 → (∀ s7, Inv X pins (σ6.set i none) (upd H6 a (exv cls d a)) s7 → Q s7) →
              wpAny (model X.prog X.w) X.A (do bindName X.env n .none; unbindBehindTheSuite X.env n pos') (fun _ s7 => Q s7) X.xe s6 := fun {σ6 H6 Q} S6 hQ => by
            have S7 : Inv X ((a, oer) :: pins) σ6 H6 s6 := ⟨okX, S6.os, S6.bare, S6.base, S6.loc, S6.cell, S6.free, S6.freeC, fun p hp => S6.pin p (by
              rw [List.append_nil]
              rcases List.mem_append.mp hp with z | z
              · exact List.mem_cons_of_mem _ (List.mem_append_left _ z)
              · rcases List.mem_cons.mp z with y | y
                · rw [y]
                  exact List.mem_cons_self
                · exact List.mem_cons_of_mem _ (List.mem_append_right _ y)), S6.hok, S6.len⟩
            exact gone_ok S7 nd atI lcl fun s7 J7 => hQ s7 (tracked J7 s0none pinNe hzr hdr)
          cases fl with
          | next =>
            obtain ⟨σ6, H6, S6, q6⟩ := out
            exact leave S6 fun s7 J7 => ⟨_, _, J7, q6⟩
          | brk =>
            obtain ⟨σ6, H6, S6, q6⟩ := out
            exact leave S6 fun s7 J7 => ⟨_, _, J7, q6⟩
          | cont =>
            obtain ⟨σ6, H6, S6, q6⟩ := out
            exact leave S6 fun s7 J7 => ⟨_, _, J7, q6⟩
          | ret u =>
            obtain ⟨v6, σ6, H6, S6, r6, q6⟩ := out
            exact leave S6 fun s7 J7 => ⟨_, _, _, J7, r6, q6⟩
        | false => exact ih (hno rfl)
    exact go _ _ hh wl
  · cases fl with
    | next =>
      obtain ⟨σ1, H1, J1, q1⟩ := done
      exact wpAny_execs_nil ⟨σ1, H1, J1.ofTry okX, q1⟩
    | brk =>
      obtain ⟨σ1, H1, J1, q1⟩ := done
      exact ⟨σ1, H1, J1.ofTry okX, q1⟩
    | cont =>
      obtain ⟨σ1, H1, J1, q1⟩ := done
      exact ⟨σ1, H1, J1.ofTry okX, q1⟩
    | ret u =>
      obtain ⟨v1, σ1, H1, J1, r1, q1⟩ := done
      exact ⟨v1, σ1, H1, J1.ofTry okX, r1, q1⟩
end
end Wx

namespace Wx
open PySem PySem.Spec PyProof.Rows L2 NdefX
theorem dropPin {X : Cx} {pins : List (Addr × Obj)} {σ : L2.St} {H : Hp} {s : Shared} {p : Addr × Obj} (J : Inv X (p :: pins) σ H s) : Inv X pins σ H s :=
  ⟨J.ok, J.os, J.bare, J.base, J.loc, J.cell, J.free, J.freeC, fun q hq => J.pin q (by
    rcases List.mem_append.mp hq with z | z
    · exact List.mem_append_left _ z
    · exact List.mem_append_right _ (List.mem_cons_of_mem _ z)), J.hok, J.len⟩
def wAss (K : PySem.W.Frag) (i : Nat) (Wout : WX) (D : Ends) : List (Value × (Addr → Value → Option Addr → TS)) → WX
  | [] => Wout
  | (c, ts) :: r => fun cls d σ H =>
    ∃ b, PySem.W.exmOne K cls c = some b ∧ (b = true → ∀ a, H a = none → ts a cls d { nx := fun σ1 H1 => D.nx (σ1.set i none) H1, rt := D.rt, bk := fun σ1 H1 => D.bk (σ1.set i none) H1, ct := fun σ1 H1 => D.ct (σ1.set i none) H1 } (σ.set i (some (.ref a))) H) ∧
      (b = false → wAss K i Wout D r cls d σ H)
inductive HdsAs (X : Cx) (n : Str) : List ExceptHandler → List (Value × (Addr → Value → Option Addr → TS)) → Prop
  | nil : HdsAs X n [] []
  | cons {x : Str} {c : Value} {ts : Addr → Value → Option Addr → TS} {b₀ : Stmt} {suite : List Stmt} {np pos' : Pos} {hds : List ExceptHandler} {l : List (Value × (Addr → Value → Option Addr → TS))} (hc : Names X x c)
      (hsu : ∀ (a : Addr) (oe : Obj) (cls : Value) (d : Option Addr) (pn : List (Addr × Obj)), Zc cls d oe → (∃ vs, oe.data = .fields vs) → PSs (X.suite a ((a, oe) :: pn)) (b₀ :: suite) (ts a cls d)) (r : HdsAs X n hds l) :
      HdsAs X n (.ExceptHandler (some (.Name x np)) (some n) (b₀ :: suite) pos' :: hds) ((c, ts) :: l)
section
variable {X : Cx} {n : Str} {i : Nat} {body : List Stmt} {h₀ : ExceptHandler} {hds : List ExceptHandler} {l : List (Value × (Addr → Value → Option Addr → TS))} {pos : Pos} {tb : WX → TS} {Wout : WX}
/-- several clauses with the same name; the exception is let go behind the suite -/
theorem ps_try_ass (hex : X.ex = []) (stk : X.stack = X.env :: X.outer) (frm : X.env.frame = some X.env.locals) (nd : X.N.Nodup) (atI : X.N[i]? = some n) (lcl : X.env.kindOf n = some .local) (tko : Takes X Wout)
    (hbody : ∀ (W : WX) (pn : List (Addr × Obj)) (xe : Value → Shared → Prop), Takes (X.tr pn xe) W → PassesOwn (model X.prog X.w) X.A X.env xe → PSs (X.tr pn xe) body (tb W))
    (hh : HdsAs X n (h₀ :: hds) l) :
    PS X (.Try body (h₀ :: hds) [] [] pos) (fun D σ H => tb (wAss X.K i Wout D l) D σ H) := by
  refine ⟨fun pins s σ H D I0 rd => ?_⟩
  have okX := I0.ok
  have frA : X.A.frames = some (X.env :: X.outer) := okX.frames.trans (congrArg some stk)
  have locN : Loc X.env.scope n := Or.inl lcl
  refine wpAny_Try_except (wpAny_mono ((hbody (wAss X.K i Wout D l) (X.pn ++ pins) (fun e s₁ => wpAny (model X.prog X.w) X.A (noteFrame e X.env) (fun _ s₂ => wpAny (model X.prog X.w) X.A (setFlight e none) (fun _ s₃ =>
      wpAny (model X.prog X.w) X.A (handleBy e X.env (h₀ :: hds)) (SP X pins D) X.xe s₃) X.xe s₂) X.xe s₁) (fun u s' caught => ?_) PassesOwn.looking).run [] s σ H D (I0.toTry _) rd) (fun fl s1 done => ?_) (fun _ _ z => z))
  · obtain ⟨a, B, sI, pinsT, σT, HT, cls, d, rfl, JT, nb, upT, skyT, naT, osT, agT, wl⟩ := caught
    have JX : Inv X pins σT HT sI := Inv.ofTry JT okX
    have skyX : Sky B (X.env :: X.outer) a (Zc cls d) X.env.locals s'.heap := stk ▸ skyT
    show wpAny _ X.A (noteFrame (Value.ref a) X.env) _ _ _
    refine Sky.land Zc.steady frA frm skyX (fun hq flq upq => ?_)
    have Jq : Inv X pins σT HT { s' with heap := hq } := JX.landed nb flq.1 (upT.trans upq) osT agT
    obtain ⟨oeq, vsq, heq, hzq, hdq⟩ := flq.there
    have nfr : a ∉ frs (X.env :: X.outer) := fun hm => by
      obtain ⟨_, o', e', nf'⟩ := flq.2.2.1.mem hm
      have z := heq.symm.trans e'
      cases z
      exact nf' _ hdq
    have nLoc : a ≠ X.env.locals := fun z => nfr (List.mem_filterMap.mpr ⟨X.env, List.mem_cons_self, frm.trans (congrArg some z.symm)⟩)
    have nOut : a ∉ X.fs := fun hm => by
      obtain ⟨ev, hev, qv⟩ := List.mem_filterMap.mp hm
      exact nfr (List.mem_filterMap.mpr ⟨ev, List.mem_cons_of_mem _ hev, qv⟩)
    -- the exception is younger than the frame
    have sInone : sI.heap.get? a = none := by
      cases z : sI.heap.get? a with
      | none => rfl
      | some o =>
        have Bn : B.get? a = none := by
          rcases skyX with ⟨_, q, _⟩ | q | q
          · exact q
          · exact q.2.1
          · exact q.2.1
        have y := nb a o z (fun hm => nfr (by rw [← stk]; exact hm))
        rw [Bn] at y
        cases y
    have s0none : X.s_0.heap.get? a = none := by
      cases z : X.s_0.heap.get? a with
      | none => rfl
      | some o =>
        obtain ⟨o2, y⟩ := JX.base.there a o z (by rw [hex]; simp)
        rw [sInone] at y
        cases y
    have pinNe : ∀ p, p ∈ X.pn ++ pins → p.1 ≠ a := fun p hp z => by
      have y := (JX.pin p hp).1
      rw [z, sInone] at y
      cases y
    have Sq := Jq.suite heq hdq naT nLoc nOut
    have LTy : PySem.W.Looks (model X.prog X.w) hq (typeOf (.ref a)) cls := fun A Q E s k q => wpAny_typeOf_ref (k _ _ heq) (hzq.1 ▸ q)
    have go : ∀ (hs : List ExceptHandler) (l : List (Value × (Addr → Value → Option Addr → TS))), HdsAs X n hs l → wAss X.K i Wout D l cls d σT HT → wpAny (model X.prog X.w) X.A (handleBy (Value.ref a) X.env hs) (SP X pins D) X.xe { s' with heap := hq } := by
      intro hs l hk
      induction hk with
      | nil =>
        intro wout
        refine wpAny_handleBy_nil ?_
        obtain ⟨z1, z2, z3, oe, vs, T1, oT1, tsT, he, hz, hd, h1, hr1⟩ := id flq
        unfold PySem.passOn
        refine wpAny_bind (wpAny_field he hd h1 ?_)
        rw [if_neg (show ¬ ((Value.ref T1 == Value.none) = true) by simp)]
        have fin : wpAny (model X.prog X.w) X.A (setFlight (.ref a) X.env.frame) (fun _ s4 => wpAny (model X.prog X.w) X.A (throw (.ref a) : Sem Flow) (SP X pins D) X.xe s4) X.xe { s' with heap := hq } := by
          rw [frm]
          exact HandSPX.setFlight_upZ flq fun h4 hh4 up4 => wpAny_throw (tko _ _ ⟨a, B, sI, pins, σT, HT, cls, d, rfl, JX, nb, (upT.trans upq).trans up4, .inr (.inr (by rw [stk]; exact hh4)), naT, osT, agT, wout⟩)
        first
          | exact wpAny_bind (wpAny_pure (wpAny_bind fin))
          | exact wpAny_bind fin
      | @cons x c ts b₀ suite np pos' hs l nms hsuite hrest ih =>
        intro wl
        obtain ⟨b, hcl, hyes, hno⟩ := wl
        refine wpAny_handleBy_cons (codeAny_handlers_test ?_) (by rintro ⟨⟩)
        have LEx := PySem.W.exm_one (M := model X.prog X.w) Jq.kIn LTy hcl
        have tst : ∀ {Q : Value → Shared → Prop} {E : Value → Shared → Prop}, Q c { s' with heap := hq } → wpAny (model X.prog X.w) (X.A.mark (some (.ref a))) (eval (.Name x np) X.env) Q E { s' with heap := hq } := fun {Q E} q => by
          obtain ⟨g1, g2, g3 | ⟨g3, g4, g5⟩⟩ := nms
          · exact ld_glob (X := X.suite a ((a, oeq) :: (X.pn ++ pins))) Sq g1 g3 q g2
          · exact ld_blt (X := X.suite a ((a, oeq) :: (X.pn ++ pins))) Sq g1 g3 g4 q g5 g2
        refine tst (LEx.here ?_)
        cases b with
        | true =>
          refine codeAny_handlers_suite_as (HandSPX.lands_againZ flq fun hr flr upr => ?_)
          have Jr : Inv X pins σT HT { s' with heap := hr } := JX.landed nb flr.1 ((upT.trans upq).trans upr) osT agT
          obtain ⟨oer, vsr, her, hzr, hdr⟩ := flr.there
          have Sr := Jr.suite her hdr naT nLoc nOut
          refine store_ok (X := X.suite a ((a, oer) :: (X.pn ++ pins))) (v := V.ref a) Sr nd atI locN rfl (fun s5 S5 => ?_) (Or.inr lcl)
          refine wpAny_mono ((hsuite a oer cls d (X.pn ++ pins) hzr ⟨_, hdr⟩).run [] s5 _ HT _ S5 (hyes rfl a naT)) (fun fl s6 out => ?_) (fun _ _ z => z.elim)
          have leave : ∀ {σ6 : L2.St} {H6 : Hp} {Q : Shared → Prop}, Inv (X.suite a ((a, oer) :: (X.pn ++ pins))) [] σ6 H6 s6 → (∀ s7, Inv X pins (σ6.set i none) H6 s7 → Q s7) →
              wpAny (model X.prog X.w) X.A (do bindName X.env n .none; unbindBehindTheSuite X.env n pos') (fun _ s7 => Q s7) X.xe s6 := fun {σ6 H6 Q} S6 hQ => by
            have S7 : Inv X ((a, oer) :: pins) σ6 H6 s6 := ⟨okX, S6.os, S6.bare, S6.base, S6.loc, S6.cell, S6.free, S6.freeC, fun p hp => S6.pin p (by
              rw [List.append_nil]
              rcases List.mem_append.mp hp with z | z
              · exact List.mem_cons_of_mem _ (List.mem_append_left _ z)
              · rcases List.mem_cons.mp z with y | y
                · rw [y]
                  exact List.mem_cons_self
                · exact List.mem_cons_of_mem _ (List.mem_append_right _ y)), S6.hok, S6.len⟩
            exact gone_ok S7 nd atI lcl fun s7 J7 => hQ s7 (dropPin J7)
          cases fl with
          | next =>
            obtain ⟨σ6, H6, S6, q6⟩ := out
            exact leave S6 fun s7 J7 => ⟨_, _, J7, q6⟩
          | brk =>
            obtain ⟨σ6, H6, S6, q6⟩ := out
            exact leave S6 fun s7 J7 => ⟨_, _, J7, q6⟩
          | cont =>
            obtain ⟨σ6, H6, S6, q6⟩ := out
            exact leave S6 fun s7 J7 => ⟨_, _, J7, q6⟩
          | ret u =>
            obtain ⟨v6, σ6, H6, S6, r6, q6⟩ := out
            exact leave S6 fun s7 J7 => ⟨_, _, _, J7, r6, q6⟩
        | false => exact ih (hno rfl)
    exact go _ _ hh wl
  · cases fl with
    | next =>
      obtain ⟨σ1, H1, J1, q1⟩ := done
      exact wpAny_execs_nil ⟨σ1, H1, J1.ofTry okX, q1⟩
    | brk =>
      obtain ⟨σ1, H1, J1, q1⟩ := done
      exact ⟨σ1, H1, J1.ofTry okX, q1⟩
    | cont =>
      obtain ⟨σ1, H1, J1, q1⟩ := done
      exact ⟨σ1, H1, J1.ofTry okX, q1⟩
    | ret u =>
      obtain ⟨v1, σ1, H1, J1, r1, q1⟩ := done
      exact ⟨v1, σ1, H1, J1.ofTry okX, r1, q1⟩
end
end Wx

namespace Wx
open PySem PySem.Spec PyProof.Rows L2 NdefX
/-! a list comprehension from which an exception may leave -/
/-- in the air over the frames l, the frame L at work: sI is the state without it -/
def Aloft (stk : List Env) (L : Addr) (sI : Shared) (H : Hp) (E : XK) (u : Value) (s' : Shared) : Prop :=
  ∃ (a : Addr) (B : Heap) (cls : Value) (d : Option Addr), u = .ref a ∧ (∀ b o, sI.heap.get? b = some o → b ∉ frs stk → B.get? b = some o) ∧ sI.heap.UpToSlots s'.heap ∧
    Sky B stk a (Zc cls d) L s'.heap ∧ H a = none ∧ s'.os = sI.os ∧ AllBare s'.gens ∧ E cls d H
/-- what is let out at the slots σ is taken -/
structure Air (X : Cx) (σ : L2.St) (E : XK) : Prop where
  ex : ∃ (ev : Env) (outer : List Env) (L : Addr), X.stack = ev :: outer ∧ ev.frame = some L ∧ X.env.frame = some L ∧
    ∀ (pins : List (Addr × Obj)) (H : Hp) (sI : Shared) (u : Value) (s' : Shared), Inv X pins σ H sI → Aloft X.stack L sI H E u s' → X.xe u s'
section
variable {X : Cx} {pins : List (Addr × Obj)} {σ : L2.St} {H : Hp} {s s' : Shared} {E : XK} {W : WX}
theorem air_of {σ : L2.St} (tk : Takes X W) (hs : X.stack = X.env :: X.outer) (hf : X.env.frame = some X.env.locals) : Air X σ (WE W σ) :=
  ⟨X.env, X.outer, X.env.locals, hs, hf, hf, fun pins H sI u s' I ⟨a, B, cls, d, e, nb, up, sky, na, os, ag, w⟩ => tk u s' ⟨a, B, sI, pins, σ, H, cls, d, e, I, nb, up, sky, na, os, ag, w⟩⟩
theorem Air.pass (x : Air X σ E) : PassesAt (L2.CX X.prog X.w) X σ E := fun pins H s u s' I c => by
  obtain ⟨ev, outer, L, hs, hf, hg, k⟩ := x.ex
  obtain ⟨a, B, H', cls, d, rfl, fl, hok, ub, na, os, ag, hE⟩ := c
  obtain ⟨G, g1, g2⟩ := restrict s'.heap fun b => (B.get? b).isSome || decide (b ∈ frs X.stack)
  have st : B.StaysIn s'.heap := fl.1
  have gB : ∀ b o, B.get? b = some o → G.get? b = some o := fun b o e => by
    have q : ((B.get? b).isSome || decide (b ∈ frs X.stack)) = true := by rw [e]; rfl
    exact (g1 b q).trans (st b o e)
  have gF : ∀ b, b ∈ frs X.stack → G.get? b = s'.heap.get? b := fun b hb => g1 b (by rw [decide_eq_true hb, Bool.or_true])
  have back : ∀ b o, G.get? b = some o → s'.heap.get? b = some o ∧ ((B.get? b).isSome = true ∨ b ∈ frs X.stack) := fun b o e => by
    by_cases q : ((B.get? b).isSome || decide (b ∈ frs X.stack)) = true
    · rw [g1 b q] at e
      refine ⟨e, ?_⟩
      rcases Bool.or_eq_true_iff.mp q with y | y
      · exact .inl y
      · exact .inr (of_decide_eq_true y)
    · rw [g2 b (Bool.eq_false_iff.mpr q)] at e
      cases e
  have I1 : Inv X pins σ H' { s with heap := G, gens := s'.gens, drawn := s'.drawn, toks := s'.toks } := by
    refine I.call (ch := []) ⟨fun b o e n hb _ => gB b o (ub.keep b o e n hb), fun b o e n hb _ => ?_, fun b o e n _ => ub.free b o e n, fun b o e _ => ?_, ub.tups, ub.frzs, ub.tbls⟩ (hok.kept gB) ag (fun _ z => nomatch z)
    · obtain ⟨sl, q⟩ := ub.slot b o e hb
      exact ⟨sl, (gF b hb).trans q⟩
    · by_cases hb : b ∈ frs X.stack
      · obtain ⟨sl, q⟩ := ub.slot b o e hb
        exact ⟨_, (gF b hb).trans q⟩
      · obtain ⟨o', q⟩ := ub.there b o e hb
        exact ⟨o', gB b o' q⟩
  refine k pins H' _ _ _ I1 ⟨a, B, cls, d, rfl, fun b o e hb => ?_, Heap.UpToSlots.of_keeps fun b o e => (back b o e).1, .inr (.inl fl), na, os, ag, hE⟩
  obtain ⟨e1, e2 | e2⟩ := back b o e
  · obtain ⟨o', q⟩ := Option.isSome_iff_exists.mp e2
    have z := (st b o' q).symm.trans e1
    cases z
    exact q
  · exact absurd e2 hb
end
theorem passNo {X : Cx} (σ : L2.St) : PassesAt (L2.CX X.prog X.w) X σ ((fun _ _ _ _ => False : L2.St → XK) σ) := fun _ _ _ _ _ _ c => by
  obtain ⟨_, _, _, _, _, _, _, _, _, _, _, _, hE⟩ := c
  exact hE.elim
theorem funFrames_step {h h2 B B' : Heap} : ∀ {l : List Env}, h.FunFrames B l → (∀ b, B.get? b = none → B'.get? b = none) → (∀ b o, B.get? b = none → h.get? b = some o → h2.get? b = some o) → h2.FunFrames B' l
  | [], _, _, _ => trivial
  | env :: l, hl, k1, k2 => by
    obtain ⟨hk, ⟨L, o, hf, hn, ho, hd⟩, hr⟩ := hl
    exact ⟨hk, ⟨L, o, hf, k1 _ hn, k2 _ _ hn ho, hd⟩, funFrames_step hr k1 k2⟩
theorem note_same {e : Value} {e1 e2 : Env} (h : e1.frame = e2.frame) : noteFrame e e1 = noteFrame e e2 := by
  unfold noteFrame PySem.frameOf
  rw [h]
section
variable {M : Model} {A : Around} {E : Value → Shared → Prop} {s : Shared} {env : Env}
/-- behind a block: let go of its names; an exception goes on by the block's own environment -/
def postX (M : Model) (A : Around) (E : Value → Shared → Prop) (use : Option (Value → Sem Unit)) (Q : Value → Shared → Prop) (acc : Value) (cenv : Env) (r : Result) (s' : Shared) : Prop :=
  match r, use with
  | .ok _, none => ∃ m, s'.heap.Ns cenv.locals m ∧ ∀ h', Heap.SameBut cenv.locals s'.heap h' → Q acc { s' with heap := h' }
  | .ok _, some u => wpAny M A (u acc) (fun _ s'' => ∃ m, s''.heap.Ns cenv.locals m ∧ ∀ h', Heap.SameBut cenv.locals s''.heap h' → Q .none { s'' with heap := h' }) E s'
  | .error x, _ => ∃ m, s'.heap.Ns cenv.locals m ∧ ∀ h', Heap.SameBut cenv.locals s'.heap h' → wpAny M A (passOn "comprehension.variables-let-go" x cenv : Sem Value) (fun _ _ => False) E { s' with heap := h' }
theorem comprehension_freeX {e : Expr} {scope : Scope} {pos : Pos} {newAcc first : Sem Value} {g : Comprehension} {gs : List Comprehension} {cl : List (Str × Addr)} {use : Option (Value → Sem Unit)}
    {Q : Value → Shared → Prop}
    (hcl : clausesOf e = g :: gs) (hs : ∀ x, foldedSetIterable g.iter env x = pure x) (hclos : closureFor scope env = pure cl)
    (hkind : scope.kind = .function) (hnames : ∀ x ∈ scope.names, x.2 = .local → scope.names.lookup x.1 = some .local)
    (h : wpAny M A first (fun x s₁ => wpAny M A (pyIter x) (fun it s₂ => wpAny M A newAcc (fun acc s₃ =>
      wpAny M A (newFunctionEnv scope env.globals cl [] env.qual none .none (some env)) (fun cenv s₄ =>
        codeAny M A (.compStart e 0 it acc { cenv with scope := relabel scope env }) (postX M A E use Q acc { cenv with scope := relabel scope env }) s₄) E s₃) E s₂) E s₁) E s) :
    wpAny M A (comprehension e scope env pos newAcc false first use) Q E s := by
  unfold comprehension
  rw [hclos, hcl]
  refine wpAny_bind (wpAny_mono h (fun x s₁ h₁ => wpAny_bind (wpAny_standAt (wpAny_bind (wpAny_of_eq (hs x) (wpAny_bind (wpAny_holding (wpAny_mono h₁ (fun it s₂ h₂ =>
    wpAny_standIf (wpAny_bind (wpAny_mono h₂ (fun acc s₃ h₃ => wpAny_bind (wpAny_pure (wpAny_bind (wpAny_mono h₃ (fun cenv s₄ h₄ => ?_) fun _ _ h' => h')))) fun _ _ h' => h')))
      fun _ _ h' => h'))))))) fun _ _ h' => h')
  dsimp only
  have hv : ∀ x ∈ (scope.names.filter fun x => (x.2 == .local || x.2 == .cell) && x.1 != (".0" : Str)).reverse, x.2 = .local →
      Env.kindOf { cenv with scope := relabel scope env } x.1 = some .local := fun x hx hl => lookup_relabel_local (hnames x (List.mem_filter.mp (List.mem_reverse.mp hx)).1 hl)
  have hv' : ∀ x ∈ (scope.names.filter fun x => (x.2 == .local || x.2 == .cell) && x.1 != (".0" : Str)).reverse.drop 1 ++ (scope.names.filter fun x => (x.2 == .local || x.2 == .cell) && x.1 != (".0" : Str)).reverse.take 1,
      x.2 = .local → Env.kindOf { cenv with scope := relabel scope env } x.1 = some .local := fun x hx hl => by
    rcases List.mem_append.mp hx with h1 | h1
    · exact hv x (List.mem_of_mem_drop h1) hl
    · exact hv x (List.mem_of_mem_take h1) hl
  refine wpAny_holding (wpAny_bind (wpAny_attempt (wpAny_holding (wpAny_run (codeAny_mono h₄ fun r s' hr => ?_)))))
  cases r with
  | ok f =>
    cases use with
    | none =>
      obtain ⟨m, hn, hr⟩ := hr
      exact wpAny_bind (wpAny_holding (wpAny_comp_letGo (cenv := { cenv with scope := relabel scope env }) hkind _ s' m hv hn fun h' m' _ hs' => wpAny_pure (hr h' hs')))
    | some u =>
      refine wpAny_bind (wpAny_rule (wpAny_bind (wpAny_holding (wpAny_mono hr (fun _ s'' hr' => ?_) fun _ _ h' => h'))))
      obtain ⟨m, hn, hr'⟩ := hr'
      exact wpAny_bind (wpAny_comp_letGo (cenv := { cenv with scope := relabel scope env }) hkind _ s'' m hv' hn fun h' m' _ hs' => wpAny_pure (hr' h' hs'))
  | error x =>
    have hr' : ∃ m, s'.heap.Ns cenv.locals m ∧ ∀ h', Heap.SameBut cenv.locals s'.heap h' → wpAny M A (passOn "comprehension.variables-let-go" x { cenv with scope := relabel scope env } : Sem Value) (fun _ _ => False) E { s' with heap := h' } := by cases use <;> exact hr
    obtain ⟨m, hn, hr⟩ := hr'
    exact wpAny_bind (wpAny_holding (wpAny_comp_letGo (cenv := { cenv with scope := relabel scope env }) hkind _ s' m hv hn fun h' m' _ hs' => wpAny_mono (hr h' hs') (fun _ _ f => f.elim) fun _ _ y => y))
end
section
variable {X : Cx}
theorem lc_coreX {E : L2.St → XK} {pins : List (Addr × Obj)} {s : Shared} {σ : L2.St} {H : Hp} {Q : VK} {elt tg iter : Expr} {ifs : List Expr} {scope : Scope} {own : List (Str × Nat)} {pos pos' : Pos} {wi : TI} {g : TG} {tt : TT} {te : XK → TE} {Qf : Value → Shared → Prop}
    (hc : X.calm = true) (hN : X.N.Nodup) (I : Inv X pins σ H s) (hi : PI X tg iter wi) (ok : BlkOk X.N X.env.scope scope own)
    (hg : ∀ (s : Shared) (H : Hp) (C : Addr) (cl : List (Str × Addr)) (fp : List Addr), PG (X.blk s H scope (compEnvC scope cl C X.env) fp) tg g) (ht : ∀ (s : Shared) (H : Hp) (C : Addr) (cl : List (Str × Addr)) (fp : List Addr), PTs (X.blk s H scope (compEnvC scope cl C X.env) fp) ifs tt)
    (air : Air X σ (E σ)) (he : ∀ (s : Shared) (H : Hp) (C : Addr) (cl : List (Str × Addr)) (fp : List Addr) (xe : Value → Shared → Prop) (E1 : XK), (∀ σ1, Air ((X.blk s H scope (compEnvC scope cl C X.env) fp).wish xe) σ1 E1) → PE ((X.blk s H scope (compEnvC scope cl C X.env) fp).wish xe) elt (te E1)) (hs : ∀ x, foldedSetIterable iter X.env x = pure x)
    (h : tLc wi g tt (te (E σ)) (own.map (·.2)) σ H Q)
    (hRR : ∀ D C s' m H', Inv X pins σ H' s' → Q (.ref D) H' → s'.heap.Ns C m → FpOk X pins H' C → compPost (model X.prog X.w) X.A X.xe none Qf (.ref D) C (.ok .next) s') :
    wpAny (model X.prog X.w) X.A (comprehension (.ListComp elt [⟨tg, iter, ifs, 0⟩] scope pos) scope X.env pos' (newList []) false (eval iter X.env) none) Qf X.xe s := by
  have hfree : ∀ y ∈ scope.names, y.2 = .free → ∃ c, X.env.cells.lookup y.1 = some c := fun y hy e => by
    rcases ok.free y hy e with k | k
    · exact I.ok.has _ (.inl k)
    · exact I.ok.has _ (.inr k)
  refine comprehension_freeX (use := none) rfl hs (closure_ok hfree) ok.kind (fun y hy e => by rw [ok.uniq y hy, e])
    (thn (hi.run pins s σ H _ I h) fun xv s1 hx => thn hx fun itv s2 h2 => ?_)
  obtain ⟨it, fp, tn, J, H2, e, I2, T, st2, f2, q⟩ := h2
  subst e
  refine wpAny_newObj_type (newEnv_comp ?_) (by show 0 ≤ sizeLine; decide)
  generalize hD : s2.heap.objs.size = D
  have hDn : H2 D = none := I2.hok.fresh (Nat.le_of_eq hD)
  obtain ⟨W, ⟨m0, w0⟩, turn⟩ := q D hDn
  -- the new list
  generalize hs3 : ({ s2 with heap := s2.heap.push { cls := .type "list", data := .seq ([] : List Value).toArray } } : Shared) = s3
  have I3 : Inv X pins σ (upd H2 D (.lst [])) s3 := by
    rw [← hs3]
    refine I2.laid (t' := s2.toks) (fun b o e => Heap.get?_push_of_some _ e) (Nat.le_of_eq hD) ⟨Nat.zero_le _, [], 0, .nil, ?_⟩
    rw [← hD]
    exact Heap.get?_push_size _ rfl
  have h3 : s3.heap = s2.heap.push { cls := .type "list", data := .seq ([] : List Value).toArray } := by rw [← hs3]
  have sz : ∀ b ∈ fp, b < s2.heap.objs.size := fun b hb => by
    obtain ⟨o, e, _⟩ := T.obj _ _ st2 b hb
    exact Heap.lt_size e
  have f3 : ∀ b ∈ fp, FpOk X pins (upd H2 D (.lst [])) b ∧ b < s3.heap.objs.size := fun b hb => by
    have hlt := sz b hb
    refine ⟨⟨?_, (f2 b hb).2⟩, by rw [h3, Heap.size_push]; exact Nat.lt_succ_of_lt hlt⟩
    rw [upd_ne (by rw [← hD]; exact Nat.ne_of_lt hlt)]
    exact (f2 b hb).1
  have st3 : tn 0 s3.heap := T.keep _ _ _ st2 fun b _ o e => by rw [h3]; exact Heap.get?_push_of_some _ e
  have I4 := block_start I3 ok hN f3
  have pg := hg s3 (upd H2 D (.lst [])) s3.heap.objs.size (cellsFrom (s3.heap.objs.size + 1) scope.names (cloFrom X.env.cells scope.names [])) fp
  have pt := ht s3 (upd H2 D (.lst [])) s3.heap.objs.size (cellsFrom (s3.heap.objs.size + 1) scope.names (cloFrom X.env.cells scope.names [])) fp
  have pe := he s3 (upd H2 D (.lst [])) s3.heap.objs.size (cellsFrom (s3.heap.objs.size + 1) scope.names (cloFrom X.env.cells scope.names [])) fp
  have cF : (compEnvC scope (cellsFrom (s3.heap.objs.size + 1) scope.names (cloFrom X.env.cells scope.names [])) s3.heap.objs.size X.env).frame = X.env.frame := rfl
  show codeAny _ _ (.compStart (.ListComp elt [⟨tg, iter, ifs, 0⟩] scope pos) 0 (.ref it) (.ref D) (compEnvC scope (cellsFrom (s3.heap.objs.size + 1) scope.names (cloFrom X.env.cells scope.names [])) s3.heap.objs.size X.env)) (postX (model X.prog X.w) X.A X.xe none Qf (.ref D) (compEnvC scope (cellsFrom (s3.heap.objs.size + 1) scope.names (cloFrom X.env.cells scope.names [])) s3.heap.objs.size X.env)) { s3 with heap := pushCells (s3.heap.push { cls := .type "dict", data := .dict #[] }) scope.names }
  have nfp : ∀ b ∈ fp, (upd H2 D (.lst [])) b = none := fun b hb => (f3 b hb).1.1
  generalize hce : compEnvC scope (cellsFrom (s3.heap.objs.size + 1) scope.names (cloFrom X.env.cells scope.names [])) s3.heap.objs.size X.env = ce at I4 pg pt pe cF ⊢
  have cL : ce.locals = s3.heap.objs.size := by subst hce; rfl
  generalize hH3 : upd H2 D (.lst []) = H3 at I3 I4 pg pt pe w0 nfp f3
  generalize hs4 : ({ s3 with heap := pushCells (s3.heap.push { cls := .type "dict", data := .dict #[] }) scope.names } : Shared) = s4 at I4 ⊢
  have st4 : tn 0 s4.heap := T.keep _ _ _ st3 fun b _ o e => by rw [← hs4]; exact pushCells_keeps _ _ _ _ (Heap.get?_push_of_some _ e)
  have stat : ∀ {σ' : L2.St} {H' : Hp} {s' : Shared}, Inv (X.blk s3 H3 scope ce fp) [] σ' H' s' → (∀ b ∈ fp, H' b = none) → ∀ b ∈ fp, FpOk (X.blk s3 H3 scope ce fp) [] H' b := fun {σ' H' s'} I' hn b hb =>
    ⟨hn b hb, (I'.ok.exf b hb).1, I'.ok.exfs b hb, .inl hb, fun x c e => (I'.ok.exf b hb).2 x c e, fun p hp => absurd (show p ∈ ([] : List (Addr × Obj)) ++ [] from hp) (by simp)⟩
  have loop : codeAny (model X.prog X.w) X.A (.compLoop (.ListComp elt [⟨tg, iter, ifs, 0⟩] scope pos) 0 (.ref it) (.ref D) ce) (postX (model X.prog X.w) X.A X.xe none Qf (.ref D) ce) s4 := by
    refine compLoop_any (fun n s' => ∃ i H', Inv (X.blk s3 H3 scope ce fp) [] (wipe σ (own.map (·.2))) H' s' ∧ tn i s'.heap ∧ (∀ b ∈ fp, H' b = none) ∧ W i n H') ?_ m0 ⟨0, H3, I4, st4, nfp, w0⟩
    rintro n s5 ⟨i, H5, I5, st5, n5, w5⟩
    rcases turn i n H5 w5 with ⟨stop, qq⟩ | ⟨go, Nx, hNx, step⟩
    · have td := T.done (X.blk s3 H3 scope ce fp) rfl rfl rfl hc i [] s5 _ H5 (fun _ _ => False) I5 (stat I5 n5) st5 stop
      refine thnF td fun r s6 ⟨hr, I6⟩ => ?_
      subst hr
      -- back in the def's context
      have I7 : Inv X pins σ H5 s6 := I3.call' (ch := fp) I6.os I6.base I6.hok I6.bare fun b hb => ⟨(f3 b hb).1.2.2.2.1, (f3 b hb).1.2.1, (f3 b hb).1.2.2.2.2.1, (f3 b hb).1.2.2.2.2.2⟩
      have nC : H5 s3.heap.objs.size = none := by
        have z : H5 ce.locals = none := I6.free
        rw [cL] at z
        exact z
      obtain ⟨m, hn, _⟩ := I6.loc
      have hn : s6.heap.Ns ce.locals m := hn
      rw [cL] at hn
      have hR := hRR D s3.heap.objs.size s6 m H5 I7 qq hn (I3.fpOk (Nat.le_refl _) nC)
      rw [← cL] at hR
      exact hR
    · have ti := T.item (X.blk s3 H3 scope ce fp) rfl rfl rfl hc i [] s5 _ H5 (fun _ _ => False) I5 (stat I5 n5) st5 go
      refine thnF ti fun r s6 ⟨u, hr, h6⟩ => ?_
      subst hr
      refine thnF h6 fun _ s7 ⟨x, H7, I7, r7, y7, st7, n7⟩ => ?_
      have I7' := I7.pinned (stat I7 n7) (T.obj _ _ st7)
      refine thnF (pg.run _ s7 _ H7 x u _ I7' r7 (step x H7 y7)) fun _ s8 ⟨σ8, H8, I8, hw8, q8⟩ => ?_
      refine thnF (pt.run _ s8 σ8 H8 _ I8 q8) fun b s9 ⟨H9, I9, q9⟩ => ?_
      -- the turn's end
      have fin : ∀ {s' : Shared} {H' : Hp}, Inv (X.blk s3 H3 scope ce fp) ([] ++ pinsAt fp s7.heap) σ8 H' s' → Nx H' → ∃ m, m < n ∧ ∃ i H', Inv (X.blk s3 H3 scope ce fp) [] (wipe σ (own.map (·.2))) H' s' ∧ tn i s'.heap ∧ (∀ b ∈ fp, H' b = none) ∧ W i m H' := fun {s' H'} I' nx => by
        obtain ⟨m', hm, w'⟩ := hNx H' nx
        have pin' : ∀ b ∈ fp, ∀ o, s7.heap.get? b = some o → s'.heap.get? b = some o ∧ H' b = none := fun b hb o e =>
          let z := I'.pin (b, o) (List.mem_append_right _ (List.mem_append_right _ (mem_pinsAt hb e)))
          ⟨z.1, z.2.1⟩
        have hl : (wipe σ (own.map (·.2))).length = σ8.length := by rw [← hw8, wipe_length]
        refine ⟨m', hm, i + 1, H', (I'.unpinned (pins := [])).weak hl (fun j v e => ?_), T.keep _ _ _ st7 fun b hb o e => (pin' b hb o e).1, fun b hb => ?_, w'⟩
        · rw [← hw8] at e
          exact (wipe_some e).1
        · obtain ⟨o, e, _⟩ := T.obj _ _ st7 b hb
          exact (pin' b hb o e).2
      cases b with
      | false =>
        simp only [Bool.false_eq_true, if_false] at q9 ⊢
        exact fin I9 q9
      | true =>
        simp only [if_true] at q9 ⊢
        obtain ⟨ev, outer, L, hstk, hfr, hXf, kx⟩ := air.ex
        refine wpAny_mono ((pe (fun u s' => ∃ H' sI, Inv X pins σ H' sI ∧ (∃ m, sI.heap.Ns ce.locals m) ∧ H' ce.locals = none ∧ Aloft X.stack L sI H' (E σ) u s') (E σ) (fun σ1 => ⟨ev, outer, L, hstk, hfr, cF.trans hXf, fun pins1 H1 sI u s' I1 al => ?_⟩)).run _ s9 σ8 H9 _ (I9.wish _) q9) (fun z s10 ⟨yv, H10, I10, r10, acc, hD10, hz10, nx⟩ => ?_) (fun u s10 hx => ?_)
        · have I1' := I1.unwish
          obtain ⟨m, hn, _⟩ := I1'.loc
          exact ⟨H1, sI, I3.call' (ch := fp) I1'.os I1'.base I1'.hok I1'.bare fun b hb => ⟨(f3 b hb).1.2.2.2.1, (f3 b hb).1.2.1, (f3 b hb).1.2.2.2.2.1, (f3 b hb).1.2.2.2.2.2⟩, ⟨m, hn⟩, I1'.free, al⟩
        · exact app_ok (X := X.blk s3 H3 scope ce fp) I10.unwish hD10 hz10 r10 fun s11 I11 => fin I11 nx
        · obtain ⟨H', sI, JX, ⟨m, hn⟩, nC, a, B, cls, d, rfl, nb, up, sky, na, os, ag, w⟩ := hx
          have fpC : FpOk X pins H' ce.locals := I3.fpOk (by rw [cL]; exact Nat.le_refl _) nC
          obtain ⟨f0, f1, f2, f3', f4, f5⟩ := fpC
          have frA : X.A.frames = some (ev :: outer) := I3.ok.frames.trans (congrArg some hstk)
          have cNot : ce.locals ∉ frs X.stack := fun hm => by
            rcases List.mem_cons.mp (I3.stkSub _ hm) with z | z
            · exact f1 z
            · exact f2 z
          show wpAny _ X.A (noteFrame (Value.ref a) ce) _ _ _
          rw [note_same (e2 := ev) (by rw [cF, hXf, hfr])]
          -- noted by the frame
          have held : ∀ {Q : Unit → Shared → Prop} {E' : Value → Shared → Prop}, (∀ h1, HandSPX.HeldZ B (ev :: outer) a (Zc cls d) L h1 → s10.heap.UpToSlots h1 → Q () { s10 with heap := h1 }) → wpAny (model X.prog X.w) X.A (noteFrame (.ref a) ev) Q E' s10 := fun {Q E'} k => by
            rw [hstk] at sky
            rcases sky with ⟨hB, hn, hl, oe, vs, he, hz, hd, h1⟩ | fl | hh
            · exact HandSPX.look_newZ Zc.steady frA hl hfr he hB hn hd h1 hz k
            · exact HandSPX.looks_onZ Zc.steady frA hfr fl k
            · exact HandSPX.againZ hfr hh.2.2.2 (k s10.heap hh (Heap.UpToSlots.refl _))
          refine held fun h1 hh1 up1 => ?_
          have upH : sI.heap.UpToSlots h1 := up.trans up1
          refine ⟨m, upH.ns hn, fun h2 sb2 => ?_⟩
          -- the ground without the block's names
          obtain ⟨B', b1, b2⟩ := restrict B fun b => decide (b ≠ ce.locals)
          obtain ⟨G, g1, g2⟩ := restrict sI.heap fun b => decide (b ≠ ce.locals)
          have bB : ∀ b o, B'.get? b = some o → b ≠ ce.locals ∧ B.get? b = some o := fun b o e => by
            by_cases q : b = ce.locals
            · rw [b2 b (by simp [q])] at e
              cases e
            · exact ⟨q, by rw [b1 b (by simp [q])] at e; exact e⟩
          have gG : ∀ b o, G.get? b = some o → b ≠ ce.locals ∧ sI.heap.get? b = some o := fun b o e => by
            by_cases q : b = ce.locals
            · rw [g2 b (by simp [q])] at e
              cases e
            · exact ⟨q, by rw [g1 b (by simp [q])] at e; exact e⟩
          obtain ⟨k1, k2, k3, oe, vs, T1, oT1, ts, he1, hz1, hd1, hv1, hbT, hTa, hT1, hdT, hfl⟩ := hh1
          obtain ⟨oC, es, ep, hoC, hdC, _⟩ := hn
          have BC : B.get? ce.locals = some oC := nb _ _ hoC cNot
          have aC : a ≠ ce.locals := fun z => by rw [z] at k2; rw [k2] at BC; cases BC
          have TC : T1 ≠ ce.locals := fun z => by rw [z] at hbT; rw [hbT] at BC; cases BC
          have sb : ∀ b, b ≠ ce.locals → h2.get? b = h1.get? b := sb2.2
          have B'a : B'.get? a = none := by rw [b1 a (by simp [aC])]; exact k2
          have B'T : B'.get? T1 = none := by rw [b1 T1 (by simp [TC])]; exact hbT
          have fF : h2.FunFrames B' (ev :: outer) := funFrames_step k3 (fun b q => by
              cases z : B'.get? b with
              | none => rfl
              | some o =>
                rw [(bB b o z).2] at q
                cases q) fun b o q e => (sb b (fun z => by rw [z, BC] at q; cases q)).trans e
          have kB : B'.StaysIn h2 := fun b o e => (sb b (bB b o e).1).trans (k1 b o (bB b o e).2)
          have he2 : h2.get? a = some oe := (sb a aC).trans he1
          have hh2 : HandSPX.HeldZ B' (ev :: outer) a (Zc cls d) L h2 := ⟨kB, B'a, fF, oe, vs, T1, oT1, ts, he2, hz1, hd1, hv1, B'T, hTa, (sb T1 TC).trans hT1, hdT, hfl⟩
          unfold PySem.passOn
          refine wpAny_bind (wpAny_field he2 hd1 hv1 ?_)
          rw [if_neg (show ¬ ((Value.ref T1 == Value.none) = true) by simp)]
          have fin2 : wpAny (model X.prog X.w) X.A (setFlight (.ref a) ce.frame) (fun _ s4 => wpAny (model X.prog X.w) X.A (throw (.ref a) : Sem Value) (fun _ _ => False) X.xe s4) X.xe { s10 with heap := h2 } := by
            rw [cF, hXf]
            refine HandSPX.setFlight_onZ hh2 fun h4 hh4 up4 => wpAny_throw ?_
            refine kx pins H' { sI with heap := G } _ _ (JX.turned (t' := sI.toks) (fun b o hb e => (g1 b (by simp [hb])).trans e) f0 f1 f3' f4 f5) ⟨a, B', cls, d, rfl, fun b o e hb => ?_, ?_, ?_, na, os, ag, w⟩
            · obtain ⟨q1, q2⟩ := gG b o e
              exact (b1 b (by simp [q1])).trans (nb b o q2 hb)
            · refine Heap.UpToSlots.trans (fun b o e nf => ?_) up4
              obtain ⟨q1, q2⟩ := gG b o e
              obtain ⟨sl, q3⟩ := upH b o q2 nf
              exact ⟨sl, (sb b q1).trans q3⟩
            · rw [hstk]
              exact .inr (.inr hh4)
          first
            | exact wpAny_bind (wpAny_pure (wpAny_bind fin2))
            | exact wpAny_bind fin2
  exact codeAny_compStart_list loop (T.self X.A 0 _ _ _ st4 loop)
/-- [elt for target in iter if ..]; what elt lets out is let out -/
theorem pe_lcX {E : L2.St → XK} {elt tg iter : Expr} {ifs : List Expr} {scope : Scope} {own : List (Str × Nat)} {pos : Pos} {wi : TI} {g : TG} {tt : TT} {te : XK → TE} (air : ∀ σ, Air X σ (E σ)) (hc : X.calm = true) (hN : X.N.Nodup) (hi : PI X tg iter wi) (ok : BlkOk X.N X.env.scope scope own)
    (hg : ∀ (s : Shared) (H : Hp) (C : Addr) (cl : List (Str × Addr)) (fp : List Addr), PG (X.blk s H scope (compEnvC scope cl C X.env) fp) tg g) (ht : ∀ (s : Shared) (H : Hp) (C : Addr) (cl : List (Str × Addr)) (fp : List Addr), PTs (X.blk s H scope (compEnvC scope cl C X.env) fp) ifs tt)
    (he : ∀ (s : Shared) (H : Hp) (C : Addr) (cl : List (Str × Addr)) (fp : List Addr) (xe : Value → Shared → Prop) (E1 : XK), (∀ σ1, Air ((X.blk s H scope (compEnvC scope cl C X.env) fp).wish xe) σ1 E1) → PE ((X.blk s H scope (compEnvC scope cl C X.env) fp).wish xe) elt (te E1)) (hs : ∀ x, foldedSetIterable iter X.env x = pure x := by intro _; rfl) :
    PE X (.ListComp elt [⟨tg, iter, ifs, 0⟩] scope pos) (fun σ H Q => tLc wi g tt (te (E σ)) (own.map (·.2)) σ H Q) := by
  refine ⟨fun pins s σ H Q I h => ?_⟩
  rw [eval_ListComp]
  refine lc_coreX hc hN I hi ok hg ht (air σ) he hs h fun D C s' m H' I' q hn f => ⟨m, hn, fun h'' sb => ?_⟩
  obtain ⟨f0, f1, f2, f3, f4, f5⟩ := f
  exact ⟨.ref D, H', I'.turned (t' := s'.toks) (fun b o hb e => (sb.2 b hb).trans e) f0 f1 f3 f4 f5, rfl, q⟩
end
end Wx

namespace Wx
open PySem PySem.Spec PyProof.Rows L2 NdefX RZ
/-! walks over a list or a tuple; <= and str by own defs; tuples of ints compared -/
section
variable {X : Cx} {tg : Expr}
def iSeq (K : PySem.W.Frag) (tl : TE) : TI := fun σ H R => tl σ H fun x H1 => ∃ a xs, x = .ref a ∧ ((SqL K H1 a xs ∧ R (Itl K a) H1) ∨ (SqT K H1 a xs ∧ R (Itt K a) H1))
theorem pi_seq {l : Expr} {tl : TE} (hl : PE X l tl) : PI X tg l (iSeq X.K tl) := by
  refine ⟨fun pins s σ H R I h => ?_⟩
  refine thn (hl.run pins s σ H _ I h) fun v s1 ⟨x, H1, I1, r1, q1⟩ => ?_
  obtain ⟨a, xs, e, q⟩ := q1
  subst e
  cases r1
  have fresh : ∀ b ∈ [s1.heap.objs.size], FpOk X pins H1 b := fun b hb => by
    have e : b = s1.heap.objs.size := by simpa using hb
    subst e
    exact I1.fpOk (Nat.le_refl _) (I1.hok.fresh (Nat.le_refl _))
  rcases q with ⟨hq, q⟩ | ⟨hq, q⟩
  · obtain ⟨its, rv, p, hz⟩ := I1.list hq
    refine wpAny_pyIter_list p.isList ?_
    exact ⟨s1.heap.objs.size, [s1.heap.objs.size], _, _, H1, rfl, I1.kept (t' := s1.toks) fun b o e => Heap.get?_push_of_some _ e, turn_list a _, ⟨_, Heap.get?_push_size _ rfl, rfl, rfl⟩, fresh, q⟩
  · obtain ⟨its, rv, p, hz⟩ := I1.tuple hq
    refine wpAny_pyIter_tuple (show s1.heap.IsTuple a its.toArray from p) ?_
    exact ⟨s1.heap.objs.size, [s1.heap.objs.size], _, _, H1, rfl, I1.kept (t' := s1.toks) fun b o e => Heap.get?_push_of_some _ e, turn_tuple a _, ⟨_, Heap.get?_push_size _ rfl, rfl, rfl⟩, fresh, q⟩
end
section
variable {X : Cx} {CX : CXT} {C f : Addr} {n : Nat} {fd : FuncData} {ps : List Str} {sp : Sp} {E : XK}
theorem op_leI (F : FnOk X.prog X.w X.K X.mg X.base CX n f fd ps sp) (hr : Room n X.A) (hs : PySem.W.findIn X.K (.ref C) "__le__" = some (some (.ref f))) (hf : PySem.W.isFn X.K (.ref f) = true) (hb : Binds X.K fd ps []) (hx : Passes CX X E) : OpR X (compareOp .LtE) (rOwnI X.K C sp E id) := by
  intro pins s σ H x y v u Q I rx ry h
  obtain ⟨a, dx, fs, b, dy, gs, rfl, rfl, ha, hb', q⟩ := h
  cases (show v = Value.ref a from rx)
  cases (show u = Value.ref b from ry)
  obtain ⟨mA, J, _⟩ := ins_get I.hok ha
  obtain ⟨mB, J', _⟩ := ins_get I.hok hb'
  obtain ⟨od, J, _⟩ := J.look
  obtain ⟨od', J', _⟩ := J'.look
  obtain ⟨m, hF⟩ := I.fr
  show wpAny (model X.prog X.w) X.A (richCompare .LtE _ _) (EP X pins σ Q) X.xe s
  refine PySem.W.cmp_K (op := .LtE) (tb := .ref C) hr.units0 hF I.ok.mod.kin J J'.type (by simp [PySem.W.notFirst]) hs hf ?_
  refine wpAny_mono (run_two (us := [.ref a, .ref b]) (vs := [.ref a, .ref b]) F hr I.env0 hb hx I (.cons rfl (.cons rfl .nil)) q) (fun w s' z => ?_) fun _ _ x => x
  obtain ⟨z', H', I', rz, k, ez, qz⟩ := z
  subst ez
  cases (show w = Value.bool k from rz)
  exact ⟨.bl k, H', I', rfl, qz⟩
/-- str(x) by the class's own __str__ -/
theorem call_strOwn (F : FnOk X.prog X.w X.K X.mg X.base CX n f fd ps sp) (hr : Room (n + 2) X.A) (hs : PySem.W.findIn X.K (.ref C) "__str__" = some (some (.ref f))) (hf : PySem.W.isFn X.K (.ref f) = true) (hb : Binds X.K fd ps []) (hx : Passes CX X E) :
    CallR X (.type "str") (fun xs H Q => ∃ a dx fs, xs = [.ref a] ∧ H a = some (.ins C dx fs) ∧ sp xs H (fun z H' => ∃ t : Str, z = .str t ∧ Q z H') E) := by
  intro pins s σ H xs us Q I r h
  obtain ⟨a, dx, fs, rfl, ha, q⟩ := h
  obtain ⟨u, rfl, hu⟩ := vals1 r
  cases (show u = Value.ref a from hu)
  obtain ⟨mA, J, _⟩ := ins_get I.hok ha
  obtain ⟨od, J, _⟩ := J.look
  have hr1 : Room (n + 1) X.A.in1 := hr.in1
  have hr2 : Room n X.A.in1.in1 := hr1.in1
  refine PySem.W.kso_call hr2.units0 I.kIn J hs hf ?_
  refine wpAny_mono (run_two (us := [.ref a]) (vs := [.ref a]) F hr2 I.env0.in1.in1 hb hx I (.cons rfl .nil) q) (fun w s' z => ?_) fun _ _ x => x
  obtain ⟨z', H', I', rz, t, ez, qz⟩ := z
  subst ez
  obtain ⟨tk, rfl⟩ := rz
  exact ⟨.str t, H', I', ⟨_, rfl⟩, qz⟩
end
/-! ### data -/
theorem eqvAll_ints : ∀ (xs ys : List Int), PyData.eqvAll (xs.map PyData.int) (ys.map PyData.int) = decide (xs = ys)
  | [], [] => rfl
  | [], y :: ys => rfl
  | x :: xs, [] => rfl
  | x :: xs, y :: ys => by
    show (PyData.eqv (.int x) (.int y) && PyData.eqvAll (xs.map PyData.int) (ys.map PyData.int)) = _
    rw [eqvAll_ints xs ys]
    show ((x == y) && _) = _
    by_cases h : x = y
    · subst h
      by_cases h2 : xs = ys
      · subst h2
        simp
      · simp [h2]
    · have e : (x == y) = false := beq_eq_false_iff_ne.mpr h
      rw [e, Bool.false_and, decide_eq_false (fun q => h (by injection q))]
theorem eqv_intsT (xs ys : List Int) : PyData.eqv (.tuple (xs.map PyData.int)) (.tuple (ys.map PyData.int)) = decide (xs = ys) := eqvAll_ints xs ys
theorem eqv_intsL (xs ys : List Int) : PyData.eqv (.list (xs.map PyData.int)) (.list (ys.map PyData.int)) = decide (xs = ys) := eqvAll_ints xs ys
theorem lay_ints : ∀ xs : List Int, PyData.canLayAll0 (xs.map PyData.int) = true
  | [] => rfl
  | x :: xs => lay_ints xs
theorem depth_ints : ∀ xs : List Int, PyData.depthAll (xs.map PyData.int) ≤ 1
  | [] => by decide
  | x :: xs => by
    have ih := depth_ints xs
    simp only [List.map_cons, PyData.depthAll, PyData.depth]
    omega
theorem shaped_intsT (xs : List Int) : SeqAt.shaped (.tuple (xs.map PyData.int)) = true := by
  have h := depth_ints xs
  show (PyData.canLay0 (.tuple (xs.map PyData.int)) && decide ((PyData.tuple (xs.map PyData.int)).depth ≤ 64)) = true
  rw [Bool.and_eq_true]
  refine ⟨by simp only [PyData.canLay0]; exact lay_ints xs, decide_eq_true ?_⟩
  simp only [PyData.depth]
  omega
theorem shaped_intsL (xs : List Int) : SeqAt.shaped (.list (xs.map PyData.int)) = true := by
  have h := depth_ints xs
  show (PyData.canLay0 (.list (xs.map PyData.int)) && decide ((PyData.list (xs.map PyData.int)).depth ≤ 64)) = true
  rw [Bool.and_eq_true]
  refine ⟨by simp only [PyData.canLay0]; exact lay_ints xs, decide_eq_true ?_⟩
  simp only [PyData.depth]
  omega
theorem dpAll_ints {K : PySem.W.Frag} {H : Hp} : ∀ xs : List Int, DpAll K H (xs.map V.int) (xs.map PyData.int)
  | [] => .nil
  | x :: xs => .cons (.int x) (dpAll_ints xs)
theorem dp_intsT {K : PySem.W.Frag} {H : Hp} {a : Addr} {xs : List Int} (h : SqT K H a (xs.map V.int)) : Dp K H (.ref a) (.tuple (xs.map PyData.int)) := .tup h (dpAll_ints xs)
theorem dp_intsL {K : PySem.W.Frag} {H : Hp} {a : Addr} {xs : List Int} (h : SqL K H a (xs.map V.int)) : Dp K H (.ref a) (.list (xs.map PyData.int)) := .lst h (dpAll_ints xs)
theorem walk_zipT {K : PySem.W.Frag} {a b : Addr} {xs ys : List V} {n : Nat} (hn : n = min xs.length ys.length) : Walk (ItzT K a b) n (fun H => SqT K H a xs ∧ SqT K H b ys) (YPair (fun i => xs[i]?) (fun i => ys[i]?)) := by
  subst hn
  refine ⟨fun i _ hi q => ?_, fun _ q => ⟨xs, ys, q.1, q.2, by omega⟩, fun i H v H' _ q y => ?_⟩
  · have h1 : i < xs.length := by omega
    have h2 : i < ys.length := by omega
    exact ⟨xs, ys, xs[i], ys[i], q.1, q.2, by simp [h1], by simp [h2]⟩
  · obtain ⟨T, x, z, h1, h2, h3, h4, h5⟩ := y
    exact ⟨T, x, z, h1, h2, h3, h4 xs q.1, h5 ys q.2⟩
end Wx

namespace Wx
open PySem PySem.Spec PyProof.Rows L2 NdefX RZ
/-! own operators: an instance and a whole number, two instances of one class -/
theorem back_rel {Q : Value → Shared → Prop} {x : V} {v : Value} {s : Shared} (r : RelV x v) (h : Q v s) : PySem.W.CmpBack Q v s := by
  cases x with
  | non => cases (show v = Value.none from r); exact h
  | bl b => cases (show v = Value.bool b from r); exact h
  | int i => obtain ⟨t, rfl⟩ := r; exact h
  | str z => obtain ⟨t, rfl⟩ := r; exact h
  | byt b => obtain ⟨t, rfl⟩ := r; exact h
  | flt b => obtain ⟨t, rfl⟩ := r; exact h
  | ref a => cases (show v = Value.ref a from r); exact h
  | ty n => cases (show v = Value.type n from r); exact h
/-- what the class at C says of an own operator of the names nm, rn -/
structure OpC (K : PySem.W.Frag) (C f : Addr) (nm rn : Str) : Prop where
  first : PySem.W.selfFirst K C = true
  own : PySem.W.findIn K (.ref C) nm = some (some (.ref f))
  fn : PySem.W.isFn K (.ref f) = true
  back : ∃ rc, PySem.W.findIn K (.ref C) rn = some rc ∧ (rc = none ∨ ∃ g : Addr, rc = some (.ref g))
  i1 : ∃ fo, PySem.W.findIn K (.type "int") nm = some fo
  i2 : ∃ ro, PySem.W.findIn K (.type "int") rn = some ro
  isub : PySem.W.subIn K (.type "int") (.ref C) = some false
def tOwnN (C : Addr) (sp : Sp) (E : L2.St → XK) (ta tb : TE) : TE := fun σ H Q => ta σ H fun x H1 => tb σ H1 fun y H2 => ∃ a dx fs i, x = .ref a ∧ y = .int i ∧ H2 a = some (.ins C dx fs) ∧ sp [x, y] H2 Q (E σ)
def tOwnB (C : Addr) (sp : Sp) (E : L2.St → XK) (ta tb : TE) : TE := fun σ H Q => ta σ H fun x H1 => tb σ H1 fun y H2 => ∃ a dx fs b dy gs, x = .ref a ∧ y = .ref b ∧ H2 a = some (.ins C dx fs) ∧ H2 b = some (.ins C dy gs) ∧ sp [x, y] H2 Q (E σ)
section
variable {X : Cx} {CX : CXT} {C f : Addr} {n : Nat} {fd : FuncData} {ps : List Str} {sp : Sp} {E : L2.St → XK} {op : Operator} {a b : Expr} {ta tb : TE} {pos : Pos} {nm rn : Str}
theorem pe_ownN (F : FnOk X.prog X.w X.K X.mg X.base CX n f fd ps sp) (hr : Room n X.A) (O : OpC X.K C f nm rn) (hb : Binds X.K fd ps []) (hx : ∀ σ, PassesAt CX X σ (E σ)) (en : PySem.dunder op.info.2 = nm) (er : PySem.dunderR op.info.2 = rn) (ha : PE X a ta) (hb' : PE X b tb) : PE X (.BinOp a op b pos) (tOwnN C sp E ta tb) := by
  subst en er
  refine ⟨fun pins s σ H Q I h => ?_⟩
  refine wpAny_BinOp (binT ha hb' I h fun v u s2 x y H2 I2 rx ry q => ?_)
  obtain ⟨p, dx, fs, i, rfl, rfl, hp, q⟩ := q
  cases (show v = Value.ref p from rx)
  obtain ⟨t, rfl⟩ := id ry
  obtain ⟨mA, J, _⟩ := ins_get I2.hok hp
  obtain ⟨od, J, _⟩ := J.look
  obtain ⟨m, hF⟩ := I2.fr
  obtain ⟨rc, e1, e2⟩ := O.back
  obtain ⟨fo, e3⟩ := O.i1
  obtain ⟨ro, e4⟩ := O.i2
  refine PySem.W.ksp_binT (T := "int") hF I2.ok.mod.kin J rfl O.first O.own O.fn e1 e2 e3 e4 O.isub ?_
  exact wpAny_mono (run_fnS (us := [.ref p, .int i t]) (vs := [.ref p, .int i]) F hr hb (hx σ) I2 (.cons rfl (.cons ⟨t, rfl⟩ .nil)) q) (fun w s' z => by
    obtain ⟨z', H', I', rz, qz⟩ := z
    exact back_rel rz ⟨z', H', I', rz, qz⟩) fun _ _ x => x
theorem pe_ownB (F : FnOk X.prog X.w X.K X.mg X.base CX n f fd ps sp) (hr : Room n X.A) (O : OpC X.K C f nm rn) (hb : Binds X.K fd ps []) (hx : ∀ σ, PassesAt CX X σ (E σ)) (en : PySem.dunder op.info.2 = nm) (er : PySem.dunderR op.info.2 = rn) (ha : PE X a ta) (hb' : PE X b tb) : PE X (.BinOp a op b pos) (tOwnB C sp E ta tb) := by
  subst en er
  refine ⟨fun pins s σ H Q I h => ?_⟩
  refine wpAny_BinOp (binT ha hb' I h fun v u s2 x y H2 I2 rx ry q => ?_)
  obtain ⟨p, dx, fs, r, dy, gs, rfl, rfl, hp, hq, q⟩ := q
  cases (show v = Value.ref p from rx)
  cases (show u = Value.ref r from ry)
  obtain ⟨mA, J, _⟩ := ins_get I2.hok hp
  obtain ⟨mB, J', _⟩ := ins_get I2.hok hq
  obtain ⟨od, J, _⟩ := J.look
  obtain ⟨od', J', _⟩ := J'.look
  obtain ⟨m, hF⟩ := I2.fr
  refine PySem.W.binop_K hF I2.ok.mod.kin J J'.type O.first O.own O.fn ?_
  exact wpAny_mono (run_fnS (us := [.ref p, .ref r]) (vs := [.ref p, .ref r]) F hr hb (hx σ) I2 (.cons rfl (.cons rfl .nil)) q) (fun w s' z => by
    obtain ⟨z', H', I', rz, qz⟩ := z
    exact back_rel rz ⟨z', H', I', rz, qz⟩) fun _ _ x => x
end
end Wx

/-! == and != of lists and tuples whose items have an own ==, with either answer -/
namespace GB
open PySem PySem.SeqAt
open AutoSeq1 (wpAny_loadPart')
open MeetsSeq MeetsSeq2 MeetsSeq3 SeqRoads2
open GQ (FinOf call_here)
theorem all_take {e : Nat → Bool} {N i : Nat} (h : ((List.range N).take i).all e = true) (hi : i < N) (t : e i = true) : ((List.range N).take (i + 1)).all e = true := by
  have q : (List.range N).take (i + 1) = (List.range N).take i ++ [i] := by
    rw [List.take_add_one, List.getElem?_range hi]
    rfl
  rw [q, List.all_append, h]
  simp [t]
theorem all_no {e : Nat → Bool} {N i : Nat} (hi : i < N) (t : e i = false) : (List.range N).all e = false := by
  refine Bool.eq_false_iff.mpr fun h => ?_
  have := List.all_eq_true.mp h i (List.mem_range.mpr hi)
  rw [t] at this
  cases this
theorem all_end {e : Nat → Bool} {N i : Nat} (h : ((List.range N).take i).all e = true) (hi : N ≤ i) : (List.range N).all e = true := by
  rw [List.take_of_length_le (by simpa using hi)] at h
  exact h
section
variable {prog : Program} {w : World} {A : Around} {R : Result → Shared → Prop}
def ListB (prog : Program) (w : World) (A : Around) (E : Value → Shared → Prop) (l b : Addr) (N : Nat) (e : Nat → Bool) (I : Shared → Prop) : Prop :=
  ∀ s, I s → ∃ (items items2 : Array Value) (n n2 : Nat), s.heap.get? l = some { cls := .type "list", data := .seq items n } ∧ s.heap.get? b = some { cls := .type "list", data := .seq items2 n2 } ∧ items.size = N ∧ items2.size = N ∧
    ∀ i (h1 : i < items.size) (h2 : i < items2.size), wpAny (model prog w) A.in1 (eqBool items[i] items2[i]) (fun r s' => r = e i ∧ I s') E s

theorem eq_loopB (l b : Addr) (N : Nat) (e : Nat → Bool) (I : Shared → Prop) (hl : ListB prog w A (fun e s' => R (.error e) s') l b N e I)
    (fin : ∀ s, I s → R (.ok (.ret (.bool ((List.range N).all e)))) s) (k : Nat) :
    ∀ i : Nat, N - i = k → i ≤ N → ((List.range N).take i).all e = true → ∀ s, I s →
      wpAny (model prog w) A.in1 (Builtin.«list.__eq__.loop» ⟨[.ref l, .ref b, rawInt i, rawInt 2], []⟩) (FinOf prog w A R) (fun e s' => R (.error e) s') s := by
  induction k with
  | zero =>
    intro i hk hi ha s h
    obtain ⟨items, items2, n, n2, hl1, hb1, hs1, hs2, _⟩ := hl _ h
    have hi' : i = N := by omega
    have hR := fin s h
    rw [all_end ha (by omega)] at hR
    obtain ⟨hp, g, d, tk, os⟩ := s
    wp_walk using wpAny_loadPart' hl1, wpAny_loadPart' hb1
    have hi1 : items[((i : Nat) : Int).toNat]? = none := by simp; omega
    have hi2 : items2[((i : Nat) : Int).toNat]? = none := by simp; omega
    rw [hi1, hi2]
    wp_walk using wpAny_loadPart' hl1, wpAny_loadPart' hb1
    show R (.ok (.ret (.bool (items.size == items2.size)))) _
    rw [hs1, hs2]
    simpa using hR
  | succ k ih =>
    intro i hk hi ha s h
    obtain ⟨items, items2, n, n2, hl1, hb1, hs1, hs2, turn⟩ := hl _ h
    have hlt : i < items.size := by omega
    have hlt2 : i < items2.size := by omega
    have ht := turn i hlt hlt2
    obtain ⟨hp, g, d, tk, os⟩ := s
    wp_walk using wpAny_loadPart' hl1, wpAny_loadPart' hb1
    have hi1 : items[((i : Nat) : Int).toNat]? = some items[i] := by simp [hlt]
    have hi2 : items2[((i : Nat) : Int).toNat]? = some items2[i] := by simp [hlt2]
    have hc : ((i : Int) + 1) = ((i + 1 : Nat) : Int) := by omega
    rw [hi1, hi2]
    refine wpAny_bind (wpAny_mono ht (fun r s2 h2 => ?_) fun _ _ x => x)
    obtain ⟨hr, h2⟩ := h2
    subst hr
    cases hb' : e i with
    | true =>
      have hrec := ih (i + 1) (by omega) (by omega) (all_take ha (by omega) hb') s2 h2
      obtain ⟨hp2, g2, d2, tk2, os2⟩ := s2
      wp_walk
      rw [hc]
      exact ⟨plainId_quiet plain_eq_loop _, codeAny_builtin entry_eq_loop (by
        rw [Around.under_plainId plain_eq_loop _]
        exact hrec)⟩
    | false =>
      obtain ⟨items', items2', n', n2', hl1', hb1', hs1', hs2', _⟩ := hl _ h2
      have hR := fin s2 h2
      rw [all_no (by omega) hb'] at hR
      obtain ⟨hp2, g2, d2, tk2, os2⟩ := s2
      wp_walk using wpAny_loadPart' hl1', wpAny_loadPart' hb1'
      have hi1 : items'[((i : Nat) : Int).toNat]? = some (items'[i]'(by omega)) := by simp [show i < items'.size by omega]
      have hi2 : items2'[((i : Nat) : Int).toNat]? = some (items2'[i]'(by omega)) := by simp [show i < items2'.size by omega]
      rw [hi1, hi2]
      wp_walk
      simpa using hR
theorem list_eqB (l b : Addr) (N : Nat) (e : Nat → Bool) (I : Shared → Prop) (hl : ListB prog w A (fun e s' => R (.error e) s') l b N e I)
    (fin : ∀ s, I s → R (.ok (.ret (.bool ((List.range N).all e)))) s) {s : Shared} (h : I s) :
    wpAny (model prog w) A.in1 (Builtin.«list.__eq__» ⟨[.ref l, .ref b], []⟩) (FinOf prog w A R) (fun e s' => R (.error e) s') s := by
  obtain ⟨items, items2, n, n2, hl1, hb1, hs1, hs2, _⟩ := hl _ h
  have hrec := eq_loopB (A := A) (R := R) l b N e I hl fin _ 0 rfl (Nat.zero_le _) rfl s h
  obtain ⟨hp, g, d, tk, os⟩ := s
  have f3 := AutoSeq1.sub_list_list
  have hne : ¬ (items.size != items2.size) = true := by simp [hs1, hs2]
  wp_walk using wpAny_loadPart' hl1, wpAny_loadPart' hb1
  exact ⟨plainId_quiet plain_eq_loop _, codeAny_builtin entry_eq_loop (by
    rw [Around.under_plainId plain_eq_loop _]
    exact hrec)⟩
theorem list_eqD (l b : Addr) (items items2 : Array Value) (n n2 : Nat) (hc0 : (items.size != items2.size) = true) {s : Shared} (hl1 : s.heap.get? l = some { cls := .type "list", data := .seq items n }) (hb1 : s.heap.get? b = some { cls := .type "list", data := .seq items2 n2 })
    (fin : R (.ok (.ret (.bool false))) s) :
    wpAny (model prog w) A.in1 (Builtin.«list.__eq__» ⟨[.ref l, .ref b], []⟩) (FinOf prog w A R) (fun e s' => R (.error e) s') s := by
  obtain ⟨hp, g, d, tk, os⟩ := s
  have f3 := AutoSeq1.sub_list_list
  wp_walk using wpAny_loadPart' hl1, wpAny_loadPart' hb1
  exact fin
theorem tuple_eqB (l b : Addr) (items items2 : Array Value) (n n2 : Nat) (dd dd2 : Option Addr) (sl sl2 : Array (Option Value)) (e : Nat → Bool) (I : Shared → Prop)
    (turn : ∀ i (h1 : i < items.size) (h2 : i < items2.size) s, I s → wpAny (model prog w) A.in1 (eqBool items[i] items2[i]) (fun r s' => r = e i ∧ I s') (fun e s' => R (.error e) s') s)
    (fin : ∀ s, I s → R (.ok (.ret (.bool ((List.range (min items.size items2.size)).all e && items.size == items2.size)))) s) {s : Shared} (hl1 : s.heap.get? l = some { cls := .type "tuple", dict := dd, data := .seq items n, slots := sl }) (hb1 : s.heap.get? b = some { cls := .type "tuple", dict := dd2, data := .seq items2 n2, slots := sl2 }) (h : I s) :
    wpAny (model prog w) A.in1 (Builtin.«tuple.__eq__» ⟨[.ref l, .ref b], []⟩) (FinOf prog w A R) (fun e s' => R (.error e) s') s := by
  have f2 := AutoSeq1.sub_tuple_tuple
  have hZ : (items.toList.zip items2.toList).length = min items.size items2.size := by simp
  have h0 := h
  obtain ⟨hp, g, d, tk, os⟩ := s
  wp_walk using wpAny_loadPart' hl1, wpAny_loadPart' hb1, wpAny_forIn_list _ (fun rest b s' => b.1 = none ∧ ∃ i, rest = (items.toList.zip items2.toList).drop i ∧ ((List.range (min items.size items2.size)).take i).all e = true ∧ I s') _
  case turn =>
    rintro ⟨y, x⟩ rest b s' ⟨hb', i, hz, ha, hI⟩
    have hlt : i < (items.toList.zip items2.toList).length := by
      rcases Nat.lt_or_ge i (items.toList.zip items2.toList).length with h' | h'
      · exact h'
      · rw [List.drop_of_length_le h'] at hz; cases hz
    have hm : i < min items.size items2.size := hZ ▸ hlt
    have h1 : i < items.size := Nat.lt_of_lt_of_le hm (Nat.min_le_left _ _)
    have h2 : i < items2.size := Nat.lt_of_lt_of_le hm (Nat.min_le_right _ _)
    rw [List.drop_eq_getElem_cons hlt] at hz
    injection hz with hyx hrest
    have hy : y = items[i] := by have := congrArg Prod.fst hyx; simpa using this
    have hx : x = items2[i] := by have := congrArg Prod.snd hyx; simpa using this
    subst hy hx
    refine wpAny_bind (wpAny_mono (turn i h1 h2 s' hI) (fun r s2 q2 => ?_) fun _ _ x => x)
    obtain ⟨hr, q2⟩ := q2
    subst hr
    cases hy : e i with
    | true =>
      wp_walk
      exact ⟨rfl, i + 1, hrest, all_take ha hm hy, q2⟩
    | false =>
      have hR := fin s2 q2
      rw [all_no hm hy] at hR
      wp_walk
      simpa using hR
  case fin =>
    rintro ⟨b1, b2⟩ s' ⟨hb', i, hz, ha, hI⟩
    simp only at hb'
    subst hb'
    have hge : min items.size items2.size ≤ i := by
      rcases Nat.lt_or_ge i (items.toList.zip items2.toList).length with h' | h'
      · rw [List.drop_eq_getElem_cons h'] at hz; cases hz
      · exact hZ ▸ h'
    have hR := fin s' hI
    rw [all_end ha hge] at hR
    wp_walk
    simpa [Builtin.Tuple.tupleCompareSizes, bne] using hR
  case h =>
    exact ⟨rfl, 0, rfl, rfl, h0⟩
section
variable {E : Value → Shared → Prop} {s : Shared}
theorem rc_list_eq {l b : Addr} {N : Nat} {e : Nat → Bool} {Q : Value → Shared → Prop} (hu : A.units < cLine) (I : Shared → Prop) (hl : ListB prog w A E l b N e I)
    (fin : ∀ s, I s → Q (.bool ((List.range N).all e)) s) (h : I s) : wpAny (model prog w) A (richCompare .Eq (.ref l) (.ref b)) Q E s := by
  obtain ⟨items, items2, n, n2, hl1, hb1, _, _, _⟩ := hl _ h
  refine wpAny_richCompare_same_room (op := .Eq) ⟨_, hl1, rfl⟩ ⟨_, hb1, rfl⟩ F.slot_list_eq (call_here F.slot_list_eq ⟨_, hl1, rfl⟩ F.entry_list_eq (F.args_list_eq_2 _ _) ?_) hu
  exact list_eqB (R := wants (fun v s' => v ≠ .notImplemented ∧ Q v s') E) l b N e I hl (fun s' q => ⟨(fun x => nomatch x), fin s' q⟩) h
theorem rc_list_eqD {l b : Addr} {items items2 : Array Value} {n n2 : Nat} {Q : Value → Shared → Prop} (hu : A.units < cLine) (hc0 : (items.size != items2.size) = true) (hl1 : s.heap.get? l = some { cls := .type "list", data := .seq items n }) (hb1 : s.heap.get? b = some { cls := .type "list", data := .seq items2 n2 })
    (fin : Q (.bool false) s) : wpAny (model prog w) A (richCompare .Eq (.ref l) (.ref b)) Q E s := by
  refine wpAny_richCompare_same_room (op := .Eq) ⟨_, hl1, rfl⟩ ⟨_, hb1, rfl⟩ F.slot_list_eq (call_here F.slot_list_eq ⟨_, hl1, rfl⟩ F.entry_list_eq (F.args_list_eq_2 _ _) ?_) hu
  exact list_eqD (R := wants (fun v s' => v ≠ .notImplemented ∧ Q v s') E) l b items items2 n n2 hc0 hl1 hb1 ⟨(fun x => nomatch x), fin⟩
theorem rc_tup_eq {l b : Addr} {items items2 : Array Value} {e : Nat → Bool} {Q : Value → Shared → Prop} (hu : A.units < cLine) (I : Shared → Prop) (hl : s.heap.IsTuple l items) (hb : s.heap.IsTuple b items2)
    (turn : ∀ i (h1 : i < items.size) (h2 : i < items2.size) s, I s → wpAny (model prog w) A.in1 (eqBool items[i] items2[i]) (fun r s' => r = e i ∧ I s') E s)
    (fin : ∀ s, I s → Q (.bool ((List.range (min items.size items2.size)).all e && items.size == items2.size)) s) (h : I s) : wpAny (model prog w) A (richCompare .Eq (.ref l) (.ref b)) Q E s := by
  obtain ⟨⟨cls, dd, data, sl⟩, ho, hc, n, hd⟩ := id hl
  obtain ⟨⟨cls2, dd2, data2, sl2⟩, ho2, hc2, n2, hd2⟩ := id hb
  simp only at hc hd hc2 hd2
  subst hc hd hc2 hd2
  refine wpAny_richCompare_same_room (op := .Eq) ⟨_, ho, rfl⟩ ⟨_, ho2, rfl⟩ F.slot_tuple_eq (call_here F.slot_tuple_eq ⟨_, ho, rfl⟩ F.entry_tuple_eq (F.args_tuple_eq_2 _ _) ?_) hu
  exact tuple_eqB (R := wants (fun v s' => v ≠ .notImplemented ∧ Q v s') E) l b items items2 n n2 dd dd2 sl sl2 e I turn (fun s' q => ⟨(fun x => nomatch x), fin s' q⟩) ho ho2 h
end

theorem ne_loopB (l b : Addr) (N : Nat) (e : Nat → Bool) (I : Shared → Prop) (hl : ListB prog w A (fun e s' => R (.error e) s') l b N e I)
    (fin : ∀ s, I s → R (.ok (.ret (.bool (!(List.range N).all e)))) s) (k : Nat) :
    ∀ i : Nat, N - i = k → i ≤ N → ((List.range N).take i).all e = true → ∀ s, I s →
      wpAny (model prog w) A.in1 (Builtin.«list.__eq__.loop» ⟨[.ref l, .ref b, rawInt i, rawInt 3], []⟩) (FinOf prog w A R) (fun e s' => R (.error e) s') s := by
  induction k with
  | zero =>
    intro i hk hi ha s h
    obtain ⟨items, items2, n, n2, hl1, hb1, hs1, hs2, _⟩ := hl _ h
    have hi' : i = N := by omega
    have hR := fin s h
    rw [all_end ha (by omega)] at hR
    obtain ⟨hp, g, d, tk, os⟩ := s
    wp_walk using wpAny_loadPart' hl1, wpAny_loadPart' hb1
    have hi1 : items[((i : Nat) : Int).toNat]? = none := by simp; omega
    have hi2 : items2[((i : Nat) : Int).toNat]? = none := by simp; omega
    rw [hi1, hi2]
    wp_walk using wpAny_loadPart' hl1, wpAny_loadPart' hb1
    show R (.ok (.ret (.bool (items.size != items2.size)))) _
    rw [hs1, hs2]
    simpa using hR
  | succ k ih =>
    intro i hk hi ha s h
    obtain ⟨items, items2, n, n2, hl1, hb1, hs1, hs2, turn⟩ := hl _ h
    have hlt : i < items.size := by omega
    have hlt2 : i < items2.size := by omega
    have ht := turn i hlt hlt2
    obtain ⟨hp, g, d, tk, os⟩ := s
    wp_walk using wpAny_loadPart' hl1, wpAny_loadPart' hb1
    have hi1 : items[((i : Nat) : Int).toNat]? = some items[i] := by simp [hlt]
    have hi2 : items2[((i : Nat) : Int).toNat]? = some items2[i] := by simp [hlt2]
    have hc : ((i : Int) + 1) = ((i + 1 : Nat) : Int) := by omega
    rw [hi1, hi2]
    refine wpAny_bind (wpAny_mono ht (fun r s2 h2 => ?_) fun _ _ x => x)
    obtain ⟨hr, h2⟩ := h2
    subst hr
    cases hb' : e i with
    | true =>
      have hrec := ih (i + 1) (by omega) (by omega) (all_take ha (by omega) hb') s2 h2
      obtain ⟨hp2, g2, d2, tk2, os2⟩ := s2
      wp_walk
      rw [hc]
      exact ⟨plainId_quiet plain_eq_loop _, codeAny_builtin entry_eq_loop (by
        rw [Around.under_plainId plain_eq_loop _]
        exact hrec)⟩
    | false =>
      obtain ⟨items', items2', n', n2', hl1', hb1', hs1', hs2', _⟩ := hl _ h2
      have hR := fin s2 h2
      rw [all_no (by omega) hb'] at hR
      obtain ⟨hp2, g2, d2, tk2, os2⟩ := s2
      wp_walk using wpAny_loadPart' hl1', wpAny_loadPart' hb1'
      have hi1 : items'[((i : Nat) : Int).toNat]? = some (items'[i]'(by omega)) := by simp [show i < items'.size by omega]
      have hi2 : items2'[((i : Nat) : Int).toNat]? = some (items2'[i]'(by omega)) := by simp [show i < items2'.size by omega]
      rw [hi1, hi2]
      wp_walk
      simpa using hR
theorem list_neB (l b : Addr) (N : Nat) (e : Nat → Bool) (I : Shared → Prop) (hl : ListB prog w A (fun e s' => R (.error e) s') l b N e I)
    (fin : ∀ s, I s → R (.ok (.ret (.bool (!(List.range N).all e)))) s) {s : Shared} (h : I s) :
    wpAny (model prog w) A.in1 (Builtin.«list.__ne__» ⟨[.ref l, .ref b], []⟩) (FinOf prog w A R) (fun e s' => R (.error e) s') s := by
  obtain ⟨items, items2, n, n2, hl1, hb1, hs1, hs2, _⟩ := hl _ h
  have hrec := ne_loopB (A := A) (R := R) l b N e I hl fin _ 0 rfl (Nat.zero_le _) rfl s h
  obtain ⟨hp, g, d, tk, os⟩ := s
  have f3 := AutoSeq1.sub_list_list
  have hne : ¬ (items.size != items2.size) = true := by simp [hs1, hs2]
  wp_walk using wpAny_loadPart' hl1, wpAny_loadPart' hb1
  exact ⟨plainId_quiet plain_eq_loop _, codeAny_builtin entry_eq_loop (by
    rw [Around.under_plainId plain_eq_loop _]
    exact hrec)⟩
theorem list_neD (l b : Addr) (items items2 : Array Value) (n n2 : Nat) (hc0 : (items.size != items2.size) = true) {s : Shared} (hl1 : s.heap.get? l = some { cls := .type "list", data := .seq items n }) (hb1 : s.heap.get? b = some { cls := .type "list", data := .seq items2 n2 })
    (fin : R (.ok (.ret (.bool true))) s) :
    wpAny (model prog w) A.in1 (Builtin.«list.__ne__» ⟨[.ref l, .ref b], []⟩) (FinOf prog w A R) (fun e s' => R (.error e) s') s := by
  obtain ⟨hp, g, d, tk, os⟩ := s
  have f3 := AutoSeq1.sub_list_list
  wp_walk using wpAny_loadPart' hl1, wpAny_loadPart' hb1
  exact fin
theorem tuple_neB (l b : Addr) (items items2 : Array Value) (n n2 : Nat) (dd dd2 : Option Addr) (sl sl2 : Array (Option Value)) (e : Nat → Bool) (I : Shared → Prop)
    (turn : ∀ i (h1 : i < items.size) (h2 : i < items2.size) s, I s → wpAny (model prog w) A.in1 (eqBool items[i] items2[i]) (fun r s' => r = e i ∧ I s') (fun e s' => R (.error e) s') s)
    (fin : ∀ s, I s → R (.ok (.ret (.bool (!((List.range (min items.size items2.size)).all e && items.size == items2.size))))) s) {s : Shared} (hl1 : s.heap.get? l = some { cls := .type "tuple", dict := dd, data := .seq items n, slots := sl }) (hb1 : s.heap.get? b = some { cls := .type "tuple", dict := dd2, data := .seq items2 n2, slots := sl2 }) (h : I s) :
    wpAny (model prog w) A.in1 (Builtin.«tuple.__ne__» ⟨[.ref l, .ref b], []⟩) (FinOf prog w A R) (fun e s' => R (.error e) s') s := by
  have f2 := AutoSeq1.sub_tuple_tuple
  have hZ : (items.toList.zip items2.toList).length = min items.size items2.size := by simp
  have h0 := h
  obtain ⟨hp, g, d, tk, os⟩ := s
  wp_walk using wpAny_loadPart' hl1, wpAny_loadPart' hb1, wpAny_forIn_list _ (fun rest b s' => b.1 = none ∧ ∃ i, rest = (items.toList.zip items2.toList).drop i ∧ ((List.range (min items.size items2.size)).take i).all e = true ∧ I s') _
  case turn =>
    rintro ⟨y, x⟩ rest b s' ⟨hb', i, hz, ha, hI⟩
    have hlt : i < (items.toList.zip items2.toList).length := by
      rcases Nat.lt_or_ge i (items.toList.zip items2.toList).length with h' | h'
      · exact h'
      · rw [List.drop_of_length_le h'] at hz; cases hz
    have hm : i < min items.size items2.size := hZ ▸ hlt
    have h1 : i < items.size := Nat.lt_of_lt_of_le hm (Nat.min_le_left _ _)
    have h2 : i < items2.size := Nat.lt_of_lt_of_le hm (Nat.min_le_right _ _)
    rw [List.drop_eq_getElem_cons hlt] at hz
    injection hz with hyx hrest
    have hy : y = items[i] := by have := congrArg Prod.fst hyx; simpa using this
    have hx : x = items2[i] := by have := congrArg Prod.snd hyx; simpa using this
    subst hy hx
    refine wpAny_bind (wpAny_mono (turn i h1 h2 s' hI) (fun r s2 q2 => ?_) fun _ _ x => x)
    obtain ⟨hr, q2⟩ := q2
    subst hr
    cases hy : e i with
    | true =>
      wp_walk
      exact ⟨rfl, i + 1, hrest, all_take ha hm hy, q2⟩
    | false =>
      have hR := fin s2 q2
      rw [all_no hm hy] at hR
      wp_walk
      simpa using hR
  case fin =>
    rintro ⟨b1, b2⟩ s' ⟨hb', i, hz, ha, hI⟩
    simp only at hb'
    subst hb'
    have hge : min items.size items2.size ≤ i := by
      rcases Nat.lt_or_ge i (items.toList.zip items2.toList).length with h' | h'
      · rw [List.drop_eq_getElem_cons h'] at hz; cases hz
      · exact hZ ▸ h'
    have hR := fin s' hI
    rw [all_end ha hge] at hR
    wp_walk
    simpa [Builtin.Tuple.tupleCompareSizes, bne] using hR
  case h =>
    exact ⟨rfl, 0, rfl, rfl, h0⟩
section
variable {E : Value → Shared → Prop} {s : Shared}
theorem rc_list_ne {l b : Addr} {N : Nat} {e : Nat → Bool} {Q : Value → Shared → Prop} (hu : A.units < cLine) (I : Shared → Prop) (hl : ListB prog w A E l b N e I)
    (fin : ∀ s, I s → Q (.bool (!(List.range N).all e)) s) (h : I s) : wpAny (model prog w) A (richCompare .NotEq (.ref l) (.ref b)) Q E s := by
  obtain ⟨items, items2, n, n2, hl1, hb1, _, _, _⟩ := hl _ h
  refine wpAny_richCompare_same_room (op := .NotEq) ⟨_, hl1, rfl⟩ ⟨_, hb1, rfl⟩ F.slot_list_ne (call_here F.slot_list_ne ⟨_, hl1, rfl⟩ F.entry_list_ne (F.args_list_ne_2 _ _) ?_) hu
  exact list_neB (R := wants (fun v s' => v ≠ .notImplemented ∧ Q v s') E) l b N e I hl (fun s' q => ⟨(fun x => nomatch x), fin s' q⟩) h
theorem rc_list_neD {l b : Addr} {items items2 : Array Value} {n n2 : Nat} {Q : Value → Shared → Prop} (hu : A.units < cLine) (hc0 : (items.size != items2.size) = true) (hl1 : s.heap.get? l = some { cls := .type "list", data := .seq items n }) (hb1 : s.heap.get? b = some { cls := .type "list", data := .seq items2 n2 })
    (fin : Q (.bool true) s) : wpAny (model prog w) A (richCompare .NotEq (.ref l) (.ref b)) Q E s := by
  refine wpAny_richCompare_same_room (op := .NotEq) ⟨_, hl1, rfl⟩ ⟨_, hb1, rfl⟩ F.slot_list_ne (call_here F.slot_list_ne ⟨_, hl1, rfl⟩ F.entry_list_ne (F.args_list_ne_2 _ _) ?_) hu
  exact list_neD (R := wants (fun v s' => v ≠ .notImplemented ∧ Q v s') E) l b items items2 n n2 hc0 hl1 hb1 ⟨(fun x => nomatch x), fin⟩
theorem rc_tup_ne {l b : Addr} {items items2 : Array Value} {e : Nat → Bool} {Q : Value → Shared → Prop} (hu : A.units < cLine) (I : Shared → Prop) (hl : s.heap.IsTuple l items) (hb : s.heap.IsTuple b items2)
    (turn : ∀ i (h1 : i < items.size) (h2 : i < items2.size) s, I s → wpAny (model prog w) A.in1 (eqBool items[i] items2[i]) (fun r s' => r = e i ∧ I s') E s)
    (fin : ∀ s, I s → Q (.bool (!((List.range (min items.size items2.size)).all e && items.size == items2.size))) s) (h : I s) : wpAny (model prog w) A (richCompare .NotEq (.ref l) (.ref b)) Q E s := by
  obtain ⟨⟨cls, dd, data, sl⟩, ho, hc, n, hd⟩ := id hl
  obtain ⟨⟨cls2, dd2, data2, sl2⟩, ho2, hc2, n2, hd2⟩ := id hb
  simp only at hc hd hc2 hd2
  subst hc hd hc2 hd2
  refine wpAny_richCompare_same_room (op := .NotEq) ⟨_, ho, rfl⟩ ⟨_, ho2, rfl⟩ F.slot_tuple_ne (call_here F.slot_tuple_ne ⟨_, ho, rfl⟩ F.entry_tuple_ne (F.args_tuple_ne_2 _ _) ?_) hu
  exact tuple_neB (R := wants (fun v s' => v ≠ .notImplemented ∧ Q v s') E) l b items items2 n n2 dd dd2 sl sl2 e I turn (fun s' q => ⟨(fun x => nomatch x), fin s' q⟩) ho ho2 h
end
end
end GB
namespace Wx
open PySem PySem.Spec PyProof.Rows L2 NdefX RZ
/-! what a value stands for, and == by it -/
abbrev Rep (α : Type) := V → Hp → α → Prop
def RMon {α : Type} (R : Rep α) : Prop := ∀ x H H' a, Ext H H' → R x H a → R x H' a
def RFun {α : Type} (R : Rep α) : Prop := ∀ x H a a', R x H a → R x H a' → a = a'
def Reps {α : Type} (R : Rep α) (H : Hp) : List V → List α → Prop
  | [], [] => True
  | x :: xs, a :: as => R x H a ∧ Reps R H xs as
  | _, _ => False
section
variable {α : Type} {R : Rep α} {H H' : Hp}
theorem Reps.len : ∀ {xs : List V} {as : List α}, Reps R H xs as → xs.length = as.length
  | [], [], _ => rfl
  | _ :: xs, _ :: as, h => by rw [List.length_cons, List.length_cons, Reps.len h.2]
  | [], _ :: _, h => h.elim
  | _ :: _, [], h => h.elim
theorem Reps.mono (hR : RMon R) (e : Ext H H') : ∀ {xs : List V} {as : List α}, Reps R H xs as → Reps R H' xs as
  | [], [], _ => trivial
  | _ :: xs, _ :: as, h => ⟨hR _ _ _ _ e h.1, Reps.mono hR e h.2⟩
  | [], _ :: _, h => h.elim
  | _ :: _, [], h => h.elim
theorem Reps.imp {S : Rep α} (hR : ∀ x a, R x H a → S x H' a) : ∀ {xs : List V} {as : List α}, Reps R H xs as → Reps S H' xs as
  | [], [], _ => trivial
  | _ :: xs, _ :: as, h => ⟨hR _ _ h.1, Reps.imp hR h.2⟩
  | [], _ :: _, h => h.elim
  | _ :: _, [], h => h.elim
theorem Reps.fn (hR : RFun R) : ∀ {xs : List V} {as bs : List α}, Reps R H xs as → Reps R H xs bs → as = bs
  | [], [], [], _, _ => rfl
  | _ :: xs, _ :: as, _ :: bs, h, h' => by rw [hR _ _ _ _ h.1 h'.1, Reps.fn hR h.2 h'.2]
  | [], _ :: _, _, h, _ => h.elim
  | [], _, _ :: _, _, h => h.elim
  | _ :: _, [], _, h, _ => h.elim
  | _ :: _, _, [], _, h => h.elim
theorem Reps.get : ∀ {xs : List V} {as : List α} {i : Nat} {x : V} {a : α}, Reps R H xs as → xs[i]? = some x → as[i]? = some a → R x H a
  | _ :: xs, _ :: as, 0, x, a, h, h1, h2 => by
    have e1 := Option.some.inj h1
    have e2 := Option.some.inj h2
    subst e1 e2
    exact h.1
  | _ :: xs, _ :: as, i + 1, x, a, h, h1, h2 => Reps.get (i := i) h.2 h1 h2
  | [], _, _, _, _, _, h, _ => by simp at h
  | _ :: _, [], _, _, _, h, _, _ => h.elim
theorem Reps.at {xs : List V} {as : List α} {i : Nat} {x : V} (h : Reps R H xs as) (h1 : xs[i]? = some x) : ∃ a, as[i]? = some a ∧ R x H a := by
  have hi : i < as.length := by rw [← h.len]; exact (List.getElem?_eq_some_iff.mp h1).1
  exact ⟨_, List.getElem?_eq_getElem hi, h.get h1 (List.getElem?_eq_getElem hi)⟩
theorem Reps.at' {xs : List V} {as : List α} {i : Nat} {a : α} (h : Reps R H xs as) (h1 : as[i]? = some a) : ∃ x, xs[i]? = some x ∧ R x H a := by
  have hi : i < xs.length := by rw [h.len]; exact (List.getElem?_eq_some_iff.mp h1).1
  exact ⟨_, List.getElem?_eq_getElem hi, h.get (List.getElem?_eq_getElem hi) h1⟩
theorem Reps.app : ∀ {xs ys : List V} {as bs : List α}, Reps R H xs as → Reps R H ys bs → Reps R H (xs ++ ys) (as ++ bs)
  | [], _, [], _, _, h' => h'
  | _ :: xs, _, _ :: as, _, h, h' => ⟨h.1, Reps.app h.2 h'⟩
  | [], _, _ :: _, _, h, _ => h.elim
  | _ :: _, _, [], _, h, _ => h.elim
theorem Reps.one {x : V} {a : α} (h : R x H a) : Reps R H [x] [a] := ⟨h, trivial⟩
theorem Reps.rep {x : V} {a : α} (h : R x H a) : ∀ n, Reps R H (List.replicate n x) (List.replicate n a)
  | 0 => trivial
  | n + 1 => ⟨h, Reps.rep h n⟩
theorem Reps.take : ∀ {xs : List V} {as : List α} (n : Nat), Reps R H xs as → Reps R H (xs.take n) (as.take n)
  | _, _, 0, _ => by rw [List.take_zero, List.take_zero]; trivial
  | [], [], n + 1, _ => trivial
  | _ :: xs, _ :: as, n + 1, h => ⟨h.1, Reps.take n h.2⟩
  | [], _ :: _, _ + 1, h => h.elim
  | _ :: _, [], _ + 1, h => h.elim
theorem Reps.drop : ∀ {xs : List V} {as : List α} (n : Nat), Reps R H xs as → Reps R H (xs.drop n) (as.drop n)
  | _, _, 0, h => h
  | [], [], n + 1, _ => trivial
  | _ :: xs, _ :: as, n + 1, h => Reps.drop n h.2
  | [], _ :: _, _ + 1, h => h.elim
  | _ :: _, [], _ + 1, h => h.elim
theorem Reps.set : ∀ {xs : List V} {as : List α} (i : Nat) {x : V} {a : α}, Reps R H xs as → R x H a → Reps R H (xs.set i x) (as.set i a)
  | [], [], _, _, _, _, _ => trivial
  | _ :: xs, _ :: as, 0, _, _, h, h' => ⟨h', h.2⟩
  | _ :: xs, _ :: as, i + 1, _, _, h, h' => ⟨h.1, Reps.set i h.2 h'⟩
  | [], _ :: _, _, _, _, h, _ => h.elim
  | _ :: _, [], _, _, _, h, _ => h.elim
end
/-- a tuple, a list whose items stand for as -/
def repT {α : Type} (R : Rep α) : Rep (List α) := fun x H as => ∃ p xs, x = .ref p ∧ H p = some (.tup xs) ∧ Reps R H xs as
def repL {α : Type} (R : Rep α) : Rep (List α) := fun x H as => ∃ p xs, x = .ref p ∧ H p = some (.lst xs) ∧ Reps R H xs as
def repI : Rep Int := fun x _ i => x = .int i
section
variable {α : Type} {R : Rep α}
theorem repT_mono (hR : RMon R) : RMon (repT R) := fun x H H' a e h => by
  obtain ⟨p, xs, rfl, h1, h2⟩ := h
  exact ⟨p, xs, rfl, e _ _ h1, h2.mono hR e⟩
theorem repL_mono (hR : RMon R) : RMon (repL R) := fun x H H' a e h => by
  obtain ⟨p, xs, rfl, h1, h2⟩ := h
  exact ⟨p, xs, rfl, e _ _ h1, h2.mono hR e⟩
theorem repT_fn (hR : RFun R) : RFun (repT R) := fun x H a b h h' => by
  obtain ⟨p, xs, rfl, h1, h2⟩ := h
  obtain ⟨q, ys, e, h3, h4⟩ := h'
  cases e
  rw [h1] at h3
  cases h3
  exact h2.fn hR h4
theorem repL_fn (hR : RFun R) : RFun (repL R) := fun x H a b h h' => by
  obtain ⟨p, xs, rfl, h1, h2⟩ := h
  obtain ⟨q, ys, e, h3, h4⟩ := h'
  cases e
  rw [h1] at h3
  cases h3
  exact h2.fn hR h4
theorem repI_mono : RMon repI := fun _ _ _ _ _ h => h
theorem repI_fn : RFun repI := fun x H a b h h' => by rw [h] at h'; injection h'
end
theorem all_eqs {α : Type} [DecidableEq α] [Inhabited α] : ∀ (as bs : List α), ((List.range (min as.length bs.length)).all (fun i => decide (as[i]? = bs[i]?)) && as.length == bs.length) = decide (as = bs) := fun as bs => by
  rw [Bool.eq_iff_iff, Bool.and_eq_true, List.all_eq_true, decide_eq_true_iff, beq_iff_eq]
  constructor
  · rintro ⟨h, hl⟩
    apply List.ext_getElem?
    intro i
    by_cases hi : i < as.length
    · exact of_decide_eq_true (h i (List.mem_range.mpr (by omega)))
    · rw [List.getElem?_eq_none (by omega), List.getElem?_eq_none (by omega)]
  · rintro rfl
    exact ⟨fun i _ => decide_eq_true rfl, rfl⟩
def EqR {α : Type} [DecidableEq α] (X : Cx) (n : Nat) (R : Rep α) : Prop :=
  ∀ (A : Around) (pins : List (Addr × Obj)) (s : Shared) (σ : L2.St) (H : Hp) (x y : V) (u v : Value) (a b : α), Sub X n A → Inv X pins σ H s → RelV x u → RelV y v → R x H a → R y H b →
    wpAny (model X.prog X.w) A (eqBool u v) (fun r s' => r = decide (a = b) ∧ ∃ H', Inv X pins σ H' s' ∧ Ext H H') X.xe s
def RcR {α : Type} [DecidableEq α] (op : CmpOp) (g : Bool → Bool) (X : Cx) (n : Nat) (R : Rep α) : Prop :=
  ∀ (A : Around) (pins : List (Addr × Obj)) (s : Shared) (σ : L2.St) (H : Hp) (x y : V) (u v : Value) (a b : α), Sub X n A → Inv X pins σ H s → RelV x u → RelV y v → R x H a → R y H b →
    wpAny (model X.prog X.w) A (richCompare op u v) (fun r s' => r = .bool (g (decide (a = b))) ∧ ∃ H', Inv X pins σ H' s' ∧ Ext H H') X.xe s
section
variable {α : Type} [DecidableEq α] {R : Rep α} {X : Cx} {n m : Nat}
theorem EqR.mono (h : EqR X n R) (hn : n ≤ m) : EqR X m R := fun A pins s σ H x y u v a b sb => h A pins s σ H x y u v a b (sb.mono hn)
theorem eqR_int : EqR X 0 repI := by
  intro A pins s σ H x y u v a b sb I rx ry h1 h2
  cases h1
  cases h2
  have q := eqAt_V (A := A) (s := s) rx ry rfl rfl
  refine q X.prog X.w X.xe _ ⟨?_, H, I, Ext.rfl'⟩
  show eqV (.int a) (.int b) = decide (a = b)
  first | rfl | simp [eqV]
theorem RcR.eqR (h : RcR .Eq id X n R) (hr : ∀ x H a, R x H a → ∃ p, x = .ref p) (hf : RFun R) : EqR X n R := by
  intro A pins s σ H x y u v a b sb I rx ry h1 h2
  obtain ⟨p, rfl⟩ := hr _ _ _ h1
  obtain ⟨q, rfl⟩ := hr _ _ _ h2
  cases rx
  cases ry
  by_cases hab : p = q
  · subst hab
    have e := hf _ _ _ _ h1 h2
    subst e
    rw [decide_eq_true rfl]
    exact SeqAt.EqAt.same (A := A) (s := s) (.ref p) X.prog X.w X.xe _ ⟨rfl, H, I, Ext.rfl'⟩
  · refine GQ.eqBool_refG hab (wpAny_mono (h A pins s σ H (.ref p) (.ref q) _ _ a b sb I rfl rfl h1 h2) (fun r s' z => ?_) fun _ _ x => x)
    obtain ⟨hr', z⟩ := z
    exact ⟨_, hr', rfl, z⟩
theorem turnR (hM : RMon R) (h : EqR X n R) {A : Around} (sb : Sub X (n + 1) A) {pins : List (Addr × Obj)} {σ : L2.St} {H : Hp} {xs ys : List V} {as bs : List α} {its its2 : List Value} (p : Reps R H xs as) (q : Reps R H ys bs) (r : Vals xs its) (r2 : Vals ys its2)
    (i : Nat) (h1 : i < its.toArray.size) (h2 : i < its2.toArray.size) (s' : Shared) (l : LoopI X pins σ H s') :
    wpAny (model X.prog X.w) A.in1 (eqBool its.toArray[i] its2.toArray[i]) (fun r s2 => r = decide (as[i]? = bs[i]?) ∧ LoopI X pins σ H s2) X.xe s' := by
  obtain ⟨H1, I1, e1⟩ := l
  have g1 : its[i]? = some its.toArray[i] := by
    have h1' : i < its.length := by simpa using h1
    rw [List.getElem?_eq_getElem h1'] <;> simp
  have g2 : its2[i]? = some its2.toArray[i] := by
    have h2' : i < its2.length := by simpa using h2
    rw [List.getElem?_eq_getElem h2'] <;> simp
  have k1 : i < xs.length := by rw [r.length]; simpa using h1
  have k2 : i < ys.length := by rw [r2.length]; simpa using h2
  obtain ⟨u, hu, ru⟩ := r.get (List.getElem?_eq_getElem k1)
  obtain ⟨v, hv, rv⟩ := r2.get (List.getElem?_eq_getElem k2)
  rw [g1] at hu
  rw [g2] at hv
  rw [Option.some.inj hu, Option.some.inj hv]
  obtain ⟨a, ha, ra⟩ := p.at (List.getElem?_eq_getElem k1)
  obtain ⟨b, hb, rb⟩ := q.at (List.getElem?_eq_getElem k2)
  refine wpAny_mono (h A.in1 pins s' σ H1 _ _ u v a b sb.in1 I1 ru rv (hM _ _ _ _ e1 ra) (hM _ _ _ _ e1 rb)) (fun r s2 z => ?_) fun _ _ x => x
  obtain ⟨hr, H2, I2, e2⟩ := z
  refine ⟨?_, H2, I2, e1.trans e2⟩
  rw [hr, ha, hb]
  simp
theorem rc_T {op : CmpOp} {g : Bool → Bool} (hop : (op = .Eq ∧ g = id) ∨ (op = .NotEq ∧ g = not)) [Inhabited α] (hM : RMon R) (h : EqR X n R) : RcR op g X (n + 1) (repT R) := by
  intro A pins s σ H x y u v as bs sb I rx ry h1 h2
  obtain ⟨a, xs, rfl, ha, p⟩ := h1
  obtain ⟨b, ys, rfl, hb, q⟩ := h2
  cases rx
  cases ry
  obtain ⟨its, r, e, z⟩ := I.tuple (SqT.of (K := X.K) ha)
  obtain ⟨its2, r2, e2, z2⟩ := I.tuple (SqT.of (K := X.K) hb)
  have l1 : its.toArray.size = as.length := by rw [List.size_toArray, ← r.length]; exact p.len
  have l2 : its2.toArray.size = bs.length := by rw [List.size_toArray, ← r2.length]; exact q.len
  have ans : ((List.range (min its.toArray.size its2.toArray.size)).all (fun i => decide (as[i]? = bs[i]?)) && its.toArray.size == its2.toArray.size) = decide (as = bs) := by rw [l1, l2]; exact all_eqs as bs
  rcases hop with ⟨rfl, rfl⟩ | ⟨rfl, rfl⟩
  · exact GB.rc_tup_eq (e := fun i => decide (as[i]? = bs[i]?)) sb.room.units0 (fun s' => LoopI X pins σ H s') e e2 (fun i h1 h2 s' l => turnR hM h sb p q r r2 i h1 h2 s' l) (fun s' l => ⟨by rw [ans]; rfl, l⟩) ⟨H, I, Ext.rfl'⟩
  · exact GB.rc_tup_ne (e := fun i => decide (as[i]? = bs[i]?)) sb.room.units0 (fun s' => LoopI X pins σ H s') e e2 (fun i h1 h2 s' l => turnR hM h sb p q r r2 i h1 h2 s' l) (fun s' l => ⟨by rw [ans], l⟩) ⟨H, I, Ext.rfl'⟩
theorem rc_L {op : CmpOp} {g : Bool → Bool} (hop : (op = .Eq ∧ g = id) ∨ (op = .NotEq ∧ g = not)) [Inhabited α] (hM : RMon R) (h : EqR X n R) : RcR op g X (n + 1) (repL R) := by
  intro A pins s σ H x y u v as bs sb I rx ry h1 h2
  obtain ⟨a, xs, rfl, ha, p⟩ := h1
  obtain ⟨b, ys, rfl, hb, q⟩ := h2
  cases rx
  cases ry
  by_cases hl : as.length = bs.length
  · have ans : ((List.range xs.length).all (fun i => decide (as[i]? = bs[i]?))) = decide (as = bs) := by
      rw [← all_eqs as bs, p.len, hl]
      simp
    have LB : GB.ListB X.prog X.w A X.xe a b xs.length (fun i => decide (as[i]? = bs[i]?)) (fun s' => LoopI X pins σ H s') := fun s' l => by
      obtain ⟨H1, I1, e1⟩ := id l
      obtain ⟨z, its, k, r, e⟩ := I1.hok a _ (e1 _ _ ha)
      obtain ⟨z2, its2, k2, r2, e2⟩ := I1.hok b _ (e1 _ _ hb)
      refine ⟨its.toArray, its2.toArray, k, k2, e, e2, by rw [List.size_toArray, ← r.length], by rw [List.size_toArray, ← r2.length, q.len, p.len, hl], fun i h1 h2 => ?_⟩
      exact turnR hM h sb p q r r2 i h1 h2 s' l
    rcases hop with ⟨rfl, rfl⟩ | ⟨rfl, rfl⟩
    · exact GB.rc_list_eq sb.room.units0 _ LB (fun s' l => ⟨by rw [ans]; rfl, l⟩) ⟨H, I, Ext.rfl'⟩
    · exact GB.rc_list_ne sb.room.units0 _ LB (fun s' l => ⟨by rw [ans], l⟩) ⟨H, I, Ext.rfl'⟩
  · obtain ⟨z, its, k, r, e⟩ := I.hok a _ ha
    obtain ⟨z2, its2, k2, r2, e2⟩ := I.hok b _ hb
    have hc : (its.toArray.size != its2.toArray.size) = true := by
      rw [List.size_toArray, List.size_toArray, ← r.length, ← r2.length, p.len, q.len]
      simpa using hl
    have ans : decide (as = bs) = false := decide_eq_false (fun z => hl (by rw [z]))
    rcases hop with ⟨rfl, rfl⟩ | ⟨rfl, rfl⟩
    · exact GB.rc_list_eqD sb.room.units0 hc e e2 ⟨by rw [ans]; rfl, H, I, Ext.rfl'⟩
    · exact GB.rc_list_neD sb.room.units0 hc e e2 ⟨by rw [ans]; rfl, H, I, Ext.rfl'⟩
theorem eqR_T [Inhabited α] (hM : RMon R) (hF : RFun R) (h : EqR X n R) : EqR X (n + 1) (repT R) := (rc_T (.inl ⟨rfl, rfl⟩) hM h).eqR (fun _ _ _ d => let ⟨p, _, hx, _⟩ := d; ⟨p, hx⟩) (repT_fn hF)
theorem eqR_L [Inhabited α] (hM : RMon R) (hF : RFun R) (h : EqR X n R) : EqR X (n + 1) (repL R) := (rc_L (.inl ⟨rfl, rfl⟩) hM h).eqR (fun _ _ _ d => let ⟨p, _, hx, _⟩ := d; ⟨p, hx⟩) (repL_fn hF)
/-- x == y, x != y as expressions -/
def rEqR (R : Rep α) (g : Bool → Bool) : R2 := fun x y H Q => ∃ a b, R x H a ∧ R y H b ∧ ∀ H', Ext H H' → Q (.bl (g (decide (a = b)))) H'
theorem op_eqR {g : Bool → Bool} (h : RcR .Eq g X n R) (hr : Room n X.A) : OpR X (compareOp .Eq) (rEqR R g) := by
  intro pins s σ H x y v u Q I rx ry hq
  obtain ⟨a, b, ra, rb, q⟩ := hq
  show wpAny (model X.prog X.w) X.A (richCompare .Eq v u) (EP X pins σ Q) X.xe s
  refine wpAny_mono (h X.A pins s σ H x y v u a b ⟨hr, rfl⟩ I rx ry ra rb) (fun r s' z => ?_) fun _ _ x => x
  obtain ⟨hr', H', I', e⟩ := z
  subst hr'
  exact ⟨.bl _, H', I', rfl, q H' e⟩
theorem op_neR {g : Bool → Bool} (h : RcR .NotEq g X n R) (hr : Room n X.A) : OpR X (compareOp .NotEq) (rEqR R g) := by
  intro pins s σ H x y v u Q I rx ry hq
  obtain ⟨a, b, ra, rb, q⟩ := hq
  show wpAny (model X.prog X.w) X.A (richCompare .NotEq v u) (EP X pins σ Q) X.xe s
  refine wpAny_mono (h X.A pins s σ H x y v u a b ⟨hr, rfl⟩ I rx ry ra rb) (fun r s' z => ?_) fun _ _ x => x
  obtain ⟨hr', H', I', e⟩ := z
  subst hr'
  exact ⟨.bl _, H', I', rfl, q H' e⟩
/-- an own class: its __eq__ answers by what the instances stand for -/
theorem rcR_ins {CX : CXT} {C f : Addr} {fd : FuncData} {ps : List Str} {sp : Sp} {E : XK} (F : FnOk X.prog X.w X.K X.mg X.base CX n f fd ps sp)
    (hs : PySem.W.findIn X.K (.ref C) "__eq__" = some (some (.ref f))) (hf : PySem.W.isFn X.K (.ref f) = true) (hb : Binds X.K fd ps []) (hx : Passes CX X E)
    (hi : ∀ x H a, R x H a → ∃ p dx fs, x = .ref p ∧ H p = some (.ins C dx fs))
    (hsp : ∀ p q H a b (Q : VK), R (.ref p) H a → R (.ref q) H b → (∀ H', Ext H H' → Q (.bl (decide (a = b))) H') → sp [.ref p, .ref q] H Q E) : RcR .Eq id X n R := by
  intro A pins s σ H x y u v a b sb I rx ry h1 h2
  obtain ⟨p, dx, fs, rfl, ha⟩ := hi _ _ _ h1
  obtain ⟨q, dy, gs, rfl, hb'⟩ := hi _ _ _ h2
  cases rx
  cases ry
  obtain ⟨mA, J, _⟩ := ins_get I.hok ha
  obtain ⟨mB, J', _⟩ := ins_get I.hok hb'
  obtain ⟨od, J, _⟩ := J.look
  obtain ⟨od', J', _⟩ := J'.look
  obtain ⟨m, hF⟩ := I.fr
  refine PySem.W.cmp_K (op := .Eq) (tb := .ref C) sb.room.units0 hF I.ok.mod.kin J J'.type (by simp [PySem.W.notFirst]) hs hf ?_
  have h := hsp p q H a b (fun v H' => v = .bl (decide (a = b)) ∧ Ext H H') h1 h2 (fun H' e => ⟨rfl, e⟩)
  have e0 : Env0 X.prog X.w X.K X.mg X.base A X.stack s H := by
    have e := I.env0
    exact ⟨by rw [sb.fr]; exact e.frames, e.mod, e.bs, e.bsz, e.funs, e.frf, e.hok, e.bare⟩
  have hl := F.len _ _ _ _ h
  have r2 : Vals [V.ref p, V.ref q] [Value.ref p, Value.ref q] := .cons rfl (.cons rfl .nil)
  refine wpAny_call (codeAny_mono (F.run A X.stack s H ⟨[.ref p, .ref q], []⟩ [.ref p, .ref q] [.ref p, .ref q] _ E sb.room e0 (by
    have := hb s [.ref p, .ref q] I.kIn (by simpa using hl)
    simpa using this) r2 h) fun r s' hq => ?_)
  cases r with
  | error e => exact hx pins σ H s e s' I hq
  | ok fl =>
    cases fl with
    | ret w =>
      obtain ⟨z, H', I', rz, ez, ex⟩ := I.after hq
      subst ez
      cases rz
      exact ⟨rfl, H', I', ex⟩
    | next => exact False.elim hq
    | brk => exact False.elim hq
    | cont => exact False.elim hq
theorem eqR_ins {CX : CXT} {C f : Addr} {fd : FuncData} {ps : List Str} {sp : Sp} {E : XK} (F : FnOk X.prog X.w X.K X.mg X.base CX n f fd ps sp)
    (hs : PySem.W.findIn X.K (.ref C) "__eq__" = some (some (.ref f))) (hf : PySem.W.isFn X.K (.ref f) = true) (hb : Binds X.K fd ps []) (hx : Passes CX X E)
    (hi : ∀ x H a, R x H a → ∃ p dx fs, x = .ref p ∧ H p = some (.ins C dx fs))
    (hsp : ∀ p q H a b (Q : VK), R (.ref p) H a → R (.ref q) H b → (∀ H', Ext H H' → Q (.bl (decide (a = b))) H') → sp [.ref p, .ref q] H Q E) (hF : RFun R) : EqR X n R :=
  (rcR_ins F hs hf hb hx hi hsp).eqR (fun x H a h => let ⟨p, _, _, e, _⟩ := hi x H a h; ⟨p, e⟩) hF
end
end Wx

namespace Wx
open PySem PySem.Spec PyProof.Rows L2 NdefX RZ StX
/-! own [..] and len, a class made of a starred list, defs with a starred parameter that may raise -/
abbrev rTupOf (K : PySem.W.Frag) : List V → Hp → VK → Prop := fun xs H Q => ∃ p ys, xs = [.ref p] ∧ ((SqL K H p ys ∧ ∀ l, H l = none → Q (.ref l) (upd H l (.tup ys))) ∨ (SqT K H p ys ∧ Q (.ref p) H))
section
variable {X : Cx}
def rIxA (K : PySem.W.Frag) : R2 := fun x y H Q => ∃ p xs i v, x = .ref p ∧ y = .int i ∧ (SqL K H p xs ∨ SqT K H p xs) ∧ atI xs i = some v ∧ Q v H
theorem ix_lortu : IxR X (rIxA X.K) := by
  intro value slice pins s σ H x y v u Q I rx ry h hs
  obtain ⟨p, xs, i, z, hx, hy, hq, he, q⟩ := h
  rcases hq with hq | hq
  · exact ix_list value slice pins s σ H x y v u Q I rx ry ⟨p, xs, i, z, hx, hy, hq, he, q⟩ hs
  · exact ix_tup value slice pins s σ H x y v u Q I rx ry ⟨p, xs, i, z, hx, hy, hq, he, q⟩ hs
end
section
variable {X : Cx} {CX : CXT} {C f : Addr} {n k : Nat} {fd : FuncData} {ps : List Str} {sp : Sp} {E : L2.St → XK} {a b e : Expr} {es : List Expr} {ta tb te : TE} {t : TA} {x : Str} {pos p sp_ : Pos}
/-- a call in a deeper place, what is raised told at the slots -/
theorem run_inS {A : Around} {pins : List (Addr × Obj)} {σ : L2.St} {H : Hp} {s : Shared} {us : List Value} {vs : List V} {Q : VK} {E : XK} (F : FnOk X.prog X.w X.K X.mg X.base CX n f fd ps sp) (hr : Room n A) (e0 : Env0 X.prog X.w X.K X.mg X.base A X.stack s H) (hb : Binds X.K fd ps []) (hx : PassesAt CX X σ E)
    (I : Inv X pins σ H s) (r : Vals vs us) (h : sp vs H Q E) : wpAny (model X.prog X.w) A (call (.ref f) us) (EP X pins σ Q) X.xe s := by
  have hl : us.length = ps.length := by rw [← r.length]; exact F.len _ _ _ _ h
  refine wpAny_call (codeAny_mono (F.run A X.stack s H ⟨us, []⟩ us vs Q E hr e0 (by
    have := hb s us I.kIn (by simpa using hl)
    simpa using this) r h) fun r s' hq => ?_)
  cases r with
  | error e => exact hx pins H s e s' I hq
  | ok fl =>
    cases fl with
    | ret w => exact I.after hq
    | next => exact False.elim hq
    | brk => exact False.elim hq
    | cont => exact False.elim hq
theorem run_inR {A : Around} {pins : List (Addr × Obj)} {σ : L2.St} {H : Hp} {s : Shared} {us : List Value} {vs : List V} {Q : VK} {E : XK} (F : FnR X.prog X.w X.K X.mg X.base CX n f sp) (hr : Room n A) (e0 : Env0 X.prog X.w X.K X.mg X.base A X.stack s H) (hx : PassesAt CX X σ E)
    (I : Inv X pins σ H s) (r : Vals vs us) (h : sp vs H Q E) : codeAny (model X.prog X.w) A (.call (.ref f) ⟨us, []⟩) (fun r s' => match r with | .ok (.ret v) => EP X pins σ Q v s' | .ok _ => False | .error e => X.xe e s') s := by
  refine codeAny_mono (F A X.stack s H us vs Q E hr e0 r h) fun r s' hq => ?_
  cases r with
  | error e => exact hx pins H s e s' I hq
  | ok fl =>
    cases fl with
    | ret w => exact I.after hq
    | next => exact False.elim hq
    | brk => exact False.elim hq
    | cont => exact False.elim hq
def tIxOwn (C : Addr) (sp : Sp) (E : L2.St → XK) (ta tb : TE) : TE := fun σ H Q => ta σ H fun x H1 => tb σ H1 fun y H2 => ∃ a dx fs, x = .ref a ∧ H2 a = some (.ins C dx fs) ∧ sp [x, y] H2 Q (E σ)
/-- x[i] by an own __getitem__ -/
theorem pe_ixOwn (F : FnOk X.prog X.w X.K X.mg X.base CX n f fd ps sp) (hr : Room (n + 1) X.A) (hs : PySem.W.findIn X.K (.ref C) "__getitem__" = some (some (.ref f))) (hf : PySem.W.fnIn X.K f = true) (hfn : PySem.W.isFn X.K (.ref f) = true) (hb : Binds X.K fd ps []) (hx : ∀ σ, PassesAt CX X σ (E σ))
    (ha : PE X a ta) (hb' : PE X b tb) (hsl : ∀ v i, subscripted b true v i = runValue (.builtin "lifetime.subscript" ⟨[v, i], []⟩) := by intro _ _; with_unfolding_all rfl) : PE X (.Subscript a b pos) (tIxOwn C sp E ta tb) := by
  refine ⟨fun pins s σ H Q I h => ?_⟩
  refine Subscript_ (binT ha hb' I h fun v u s2 x y H2 I2 rx ry q => ?_)
  obtain ⟨p, dx, fs, rfl, hp, q⟩ := q
  cases (show v = Value.ref p from rx)
  obtain ⟨mA, J, _⟩ := ins_get I2.hok hp
  obtain ⟨od, J, _⟩ := J.look
  obtain ⟨m, hF⟩ := I2.fr
  refine PySem.W.sub_K hF I2.ok.mod.kin J hs hf hfn ?_ (hsl _ _)
  exact run_inS (us := [.ref p, u]) (vs := [.ref p, y]) F hr.in1 I2.env0.in1 hb (hx σ) I2 (.cons rfl (.cons ry .nil)) q
/-- len(x) by an own __len__ -/
theorem call_lenOwn {E : XK} (F : FnOk X.prog X.w X.K X.mg X.base CX n f fd ps sp) (hr : Room (n + 1) X.A) (hs : PySem.W.findIn X.K (.ref C) "__len__" = some (some (.ref f))) (hfn : PySem.W.isFn X.K (.ref f) = true) (hb : Binds X.K fd ps []) (hx : Passes CX X E) :
    CallR X (.builtin "len") (fun xs H Q => ∃ a dx fs, xs = [.ref a] ∧ H a = some (.ins C dx fs) ∧ sp xs H (fun z H' => ∃ n : Nat, z = .int n ∧ n ≤ 1000000 ∧ Q (.int n) H') E) := by
  intro pins s σ H xs us Q I r h
  obtain ⟨p, dx, fs, rfl, hp, q⟩ := h
  obtain ⟨u, rfl, rx⟩ := vals1 r
  cases (show u = Value.ref p from rx)
  obtain ⟨mA, J, _⟩ := ins_get I.hok hp
  obtain ⟨od, J, _⟩ := J.look
  obtain ⟨m, hF⟩ := I.fr
  refine PySem.W.len_K hF I.ok.mod.kin J hs hfn ?_
  refine wpAny_mono (run_inS (us := [.ref p]) (vs := [.ref p]) F hr.in1 I.env0.in1 hb (fun pins H s e s' I c => hx pins σ H s e s' I c) I (.cons rfl .nil) q) (fun w s' z => ?_) fun _ _ x => x
  obtain ⟨z', H', I', rz, k, ez, hk, qz⟩ := z
  subst ez
  obtain ⟨t, rfl⟩ := rz
  exact ⟨⟨by omega, by omega⟩, .int k, H', I'.tok _, ⟨_, rfl⟩, qz⟩
/-- the spec of a def with a starred last parameter, as it is called -/
def spStar (m : Nat) (sp : Sp) : Sp := fun vs H Q E => ∃ ws rest, vs = ws ++ rest ∧ ws.length = m ∧ rest.length ≤ sizeLine ∧ ∀ p, H p = Option.none → sp (ws ++ [V.ref p]) (upd H p (.tup rest)) Q E
theorem star1 {sp : Sp} {a : V} {rest : List V} {H : Hp} {Q : VK} {E : XK} (hl : rest.length ≤ sizeLine) (h : ∀ p, H p = Option.none → sp [a, .ref p] (upd H p (.tup rest)) Q E) : spStar 1 sp (a :: rest) H Q E := ⟨[a], rest, rfl, rfl, hl, h⟩
def tMakeRS (C : Addr) (sp : Sp) (E : L2.St → XK) (t : TA) : TE := fun σ H Q => t σ H fun vs H1 => ∀ x dx, H1 x = Option.none → H1 dx = Option.none → dx ≠ x →
  sp (V.ref x :: vs) (upd (upd H1 dx (.own x)) x (.ins C dx [])) (fun v H2 => v = .non ∧ Q (.ref x) H2) (E σ)
theorem run_makeRS {pins : List (Addr × Obj)} {σ : L2.St} {H : Hp} {s : Shared} {Q : VK} {us : List Value} {vs : List V} {E : XK} (M : Mk X.K C f) (F : FnR X.prog X.w X.K X.mg X.base CX k f sp) (hr : Room (k + 1) X.A) (hx : PassesAt CX X σ E) (I : Inv X pins σ H s) (r : Vals vs us)
    (h : ∀ x dx, H x = Option.none → H dx = Option.none → dx ≠ x → sp (V.ref x :: vs) (upd (upd H dx (.own x)) x (.ins C dx [])) (fun v H2 => v = .non ∧ Q (.ref x) H2) E) :
    wpAny (model X.prog X.w) X.A (call (.ref C) us) (EP X pins σ Q) X.xe s := by
  have hq := h (s.heap.objs.size + 1) s.heap.objs.size (I.hok.fresh (Nat.le_succ _)) (I.hok.fresh (Nat.le_refl _)) (Nat.ne_of_lt (Nat.lt_succ_self _))
  have I2 := Inv.made (C := C) I
  have r2 : Vals (V.ref (s.heap.objs.size + 1) :: vs) (Value.ref (s.heap.objs.size + 1) :: us) := .cons rfl r
  refine wpAny_call (make_map (f := f) I.kIn M.makes M.init (beq_iff_eq.mp M.fn) (codeAny_mono (F _ X.stack _ _ (Value.ref (s.heap.objs.size + 1) :: us) _ _ E (hr.make C us []) (I2.env0.make C us []) r2 hq) fun r s' hq' => ?_))
  cases r with
  | error e => exact hx pins _ _ e s' I2 hq'
  | ok fl =>
    cases fl with
    | ret u =>
      obtain ⟨v, H', I3, rv, ev, q3⟩ := I2.after hq'
      subst ev
      exact ⟨rv, ⟨V.ref (s.heap.objs.size + 1), H', I3, rfl, q3⟩⟩
    | next => exact False.elim hq'
    | brk => exact False.elim hq'
    | cont => exact False.elim hq'
/-- C(e, ..) -/
theorem pe_makeRS (M : Mk X.K C f) (F : FnR X.prog X.w X.K X.mg X.base CX k f sp) (hr : Room (k + 1) X.A) (hg : Gl X x) (hm : X.mg x = some (.ref C)) (hx : ∀ σ, PassesAt CX X σ (E σ)) (ha : PA X (e :: es) t) (hdb : (x == ("__debug__" : Str)) = false := by decide)
    (he : starEach (e :: es) X.env = (false, eval e X.env) :: starEach es X.env := by rfl) (hpl : (backTo pos (starEach es X.env)).any (·.1) = false := by rfl) : PE X (.Call (.Name x p) (e :: es) [] pos) (tMakeRS C sp E t) := by
  refine ⟨fun pins s σ H Q I h => ?_⟩
  refine wpAny_Call_Name_kw (ld_glob I hg hm ?_ hdb)
  refine PySem.W.callWith_K (h₀ := X.base) I.ok.mod.kin M.kp (thn (ha.run pos pins s σ H _ I h) fun us s1 ⟨vs, H1, I1, r, q⟩ => ⟨I1.kIn, ?_⟩) he hpl
  exact run_makeRS M F hr (hx σ) I1 r q
/-- C() -/
theorem pe_makeRS0 (M : Mk X.K C f) (F : FnR X.prog X.w X.K X.mg X.base CX k f sp) (hr : Room (k + 1) X.A) (hg : Gl X x) (hm : X.mg x = some (.ref C)) (hx : ∀ σ, PassesAt CX X σ (E σ)) (hdb : (x == ("__debug__" : Str)) = false := by decide) :
    PE X (.Call (.Name x p) [] [] pos) (tMakeRS C sp E (fun _ H Q => Q [] H)) := by
  refine ⟨fun pins s σ H Q I h => ?_⟩
  refine wpAny_Call_Name_kw (ld_glob I hg hm ?_ hdb)
  refine PySem.W.callWith_K0 I.kIn M.kp ?_
  exact run_makeRS (us := []) M F hr (hx σ) I .nil h
/-- C(*y) -/
def tMakeStar (K : PySem.W.Frag) (C : Addr) (sp : Sp) (E : L2.St → XK) (te : TE) : TE := fun σ H Q => te σ H fun y H1 => ∃ a xs, y = V.ref a ∧ (SqT K H1 a xs ∨ SqL K H1 a xs) ∧ ∀ x dx, H1 x = Option.none → H1 dx = Option.none → dx ≠ x →
  sp (V.ref x :: xs) (upd (upd H1 dx (.own x)) x (.ins C dx [])) (fun v H2 => v = .non ∧ Q (.ref x) H2) (E σ)
theorem pe_makeStar (M : Mk X.K C f) (F : FnR X.prog X.w X.K X.mg X.base CX k f sp) (hr : Room (k + 1) X.A) (hg : Gl X x) (hm : X.mg x = some (.ref C)) (hx : ∀ σ, PassesAt CX X σ (E σ)) (he : PE X e te) (hdb : (x == ("__debug__" : Str)) = false := by decide)
    (hst : starEach [.Starred e sp_] X.env = [(true, eval e X.env)] := by rfl) : PE X (.Call (.Name x p) [.Starred e sp_] [] pos) (tMakeStar X.K C sp E te) := by
  refine ⟨fun pins s σ H Q I h => ?_⟩
  refine wpAny_Call_Name_kw (ld_glob I hg hm ?_ hdb)
  refine PySem.W.callWith_S (h₀ := X.base) I.ok.mod.kin M.kp (thn (he.run pins s σ H _ I h) fun v s1 ⟨y, H1, I1, ry, a, xs, ey, hxs, q⟩ => ?_) hst
  subst ey
  obtain rfl : v = Value.ref a := ry
  exact star_any I1 hxs fun us s2 I2 rv => ⟨I2.kIn, run_makeRS M F hr (hx σ) I2 rv q⟩
end
section
variable {P : Program} {w : World} {K : PySem.W.Frag} {mg : Str → Option Value} {base : Heap}
/-- a def whose last parameter is starred -/
theorem okStar {x qual : Str} {st : Stmt} {f : Addr} {fd : FuncData} {N ps : List Str} {pv : Str} {k : Nat} {sp : Sp} (F : L2.Fun K x qual st f fd) (S : FnScope N (ps ++ [pv]) (defScope st))
    (hb : ∀ (kV doc pm : Value) (an : Option Addr) (cdv ct : Value) (us rest : List Value), us.length = ps.length → bindArgs (PySem.W.fnOf x qual (defArgs st) (defBody st) (defScope st) .none kV doc pm an cdv ct) ⟨us ++ rest, []⟩ = (newTuple rest >>= fun t => pure (ps.zip us ++ [(pv, t)])))
    (hbody : ∀ (cdv : Value) (A : Around) (outer : List Env) (s : Shared) (H : Hp) (vs : List V) (Q : VK) (E : XK), Room k (A.deeper (envOfC qual (defScope st) s.heap.objs.size f cdv)) → sp vs H Q E →
      ∃ t, PSs (cxOf (L2.CX P w) P w K mg base N qual (defScope st) f cdv A outer s H E) (defBody st) t ∧ t { nx := fun _ H' => Q .non H', rt := Q } (start N vs) H) : FnR P w K mg base (L2.CX P w) (k + 1) f (spStar ps.length sp) := by
  obtain ⟨oc, od, kV, doc, pm, an, cdv, ct, osl, rfl, lk, hcd⟩ := F.ex
  exact fn_star lk hcd S cxUp (hb kV doc pm an cdv ct) fun A outer s H vs Q E hr hsp => hbody cdv A outer s H vs Q E hr hsp
end
end Wx

namespace Wb
open PySem PySem.Spec PyProof.Rows L2 Wx NdefX
def top (i : Nat) : Stmt := PySem.Challenge.pw_waterbyturns_k10_weathers.main.body.getD i (.Pass ⟨0, 0, 0, 0⟩)
/-! ### a def that stands, by its name: what a caller needs -/
structure Cal (P : Program) (w : World) (K : PySem.W.Frag) (mg : Str → Option Value) (base : Heap) (name : Str) (ps : List Str) (k : Nat) (sp : Sp) : Prop where
  mk0 ::
  ex : ∃ (g : Addr) (gd : FuncData), FnOk P w K mg base CX0 k g gd ps sp ∧ mg name = some (.ref g) ∧ PySem.W.keepIn K (.ref g) = true ∧ Binds K gd ps []
/-! ### frames -/
/-- what is tracked outside xs stays -/
def Frm (xs : List Addr) (H H' : Hp) : Prop := ∀ b o, ¬ b ∈ xs → H b = some o → H' b = some o
theorem Frm.refl (xs : List Addr) (H : Hp) : Frm xs H H := fun _ _ _ h => h
theorem Frm.trans {xs : List Addr} {H H1 H2 : Hp} (a : Frm xs H H1) (b : Frm xs H1 H2) : Frm xs H H2 := fun c o n h => b c o n (a c o n h)
theorem Frm.of_same {xs : List Addr} {H H' : Hp} (a : Same H H') : Frm xs H H' := fun b o _ h => a b o h
theorem Frm.mono {xs ys : List Addr} {H H' : Hp} (a : Frm xs H H') (h : ∀ b, b ∈ xs → b ∈ ys) : Frm ys H H' := fun b o n e => a b o (fun m => n (h b m)) e
theorem Frm.put {xs : List Addr} {H : Hp} {a : Addr} {o : HO} (m : a ∈ xs) : Frm xs H (upd H a o) := fun b p n e => by
  rw [upd_ne (fun q => n (by rw [q]; exact m))]
  exact e
theorem Same.new {H : Hp} {a : Addr} {o : HO} (n : H a = none) : Same H (upd H a o) := fun b p e => by
  rw [upd_ne (ne_of_none e n)]
  exact e
theorem Frm.new {xs : List Addr} {H : Hp} {a : Addr} {o : HO} (n : H a = none) : Frm xs H (upd H a o) := Frm.of_same (Same.new n)
theorem Frm.same {H H' : Hp} (a : Frm [] H H') : Same H H' := fun b o e => a b o (by simp) e
/-- an address that was new and may change behind its making is no part of the frame of what was there before -/
theorem Frm.drop {x : Addr} {xs : List Addr} {H0 H1 H2 : Hp} (n : H0 x = none) (a : Frm xs H0 H1) (b : Frm (x :: xs) H1 H2) : Frm xs H0 H2 := fun c o nc e => by
  refine b c o ?_ (a c o nc e)
  intro m
  rcases List.mem_cons.mp m with q | q
  · rw [q] at e
    rw [n] at e
    cases e
  · exact nc q
theorem Frm.none {xs : List Addr} {H H' : Hp} (a : Frm xs H H') {l : Addr} (nl : ¬ l ∈ xs) (h : H' l = Option.none) : H l = Option.none := by
  cases q : H l with
  | none => rfl
  | some o =>
    have := a l o nl q
    rw [this] at h
    cases h
/-- the heap without xs -/
def hid (xs : List Addr) (H : Hp) : Hp := fun b => if b ∈ xs then none else H b
theorem hid_same (xs : List Addr) (H : Hp) : Same (hid xs H) H := fun b o e => by
  unfold hid at e
  split at e
  · cases e
  · exact e
theorem hid_frm {xs : List Addr} {H H' : Hp} (a : Frm xs H H') : Same (hid xs H) (hid xs H') := fun b o e => by
  unfold hid at e ⊢
  split at e
  · cases e
  · rename_i n
    rw [if_neg n]
    exact a b o n e
theorem hid_eq {xs : List Addr} {H : Hp} {b : Addr} (n : ¬ b ∈ xs) : hid xs H b = H b := if_neg n
theorem hid_mono {xs ys : List Addr} {H : Hp} (h : ∀ b, b ∈ xs → b ∈ ys) : Same (hid ys H) (hid xs H) := fun b o e => by
  unfold hid at e ⊢
  split at e
  · cases e
  · rename_i n
    rw [if_neg (fun m => n (h b m))]
    exact e
theorem hid_nil (H : Hp) : hid [] H = H := by
  funext b
  exact if_neg (by simp)
theorem rd_same {H H' : Hp} (s : Same H H') {a : Addr} {o : HO} (h : Rd H a o) : Rd H' a o := by
  rcases h with h | ⟨x, h⟩
  · exact .inl (s _ _ h)
  · exact .inr ⟨x, s _ _ h⟩
theorem seqT {K : PySem.W.Frag} {H H' : Hp} {a : Addr} {xs : List V} (s : Same H H') (h : SqT K H a xs) : SqT K H' a xs := h.imp (rd_same s) id
/-! data in the heap, seen from a larger heap -/
mutual
theorem dp_same {K : PySem.W.Frag} {H H' : Hp} (s : Same H H') : ∀ {v : V} {d : PyData}, Dp K H v d → Dp K H' v d
  | _, _, .non => .non
  | _, _, .bl b => .bl b
  | _, _, .int i => .int i
  | _, _, .str x => .str x
  | _, _, .lst h r => .lst (s.seq h) (dpAll_same s r)
  | _, _, .tup h r => .tup (seqT s h) (dpAll_same s r)
theorem dpAll_same {K : PySem.W.Frag} {H H' : Hp} (s : Same H H') : ∀ {v : List V} {d : List PyData}, DpAll K H v d → DpAll K H' v d
  | _, _, .nil => .nil
  | _, _, .cons a b => .cons (dp_same s a) (dpAll_same s b)
end
theorem dpAll_get {K : PySem.W.Frag} {H : Hp} : ∀ {vs : List V} {ds : List PyData}, DpAll K H vs ds → ∀ {i : Nat} {v : V}, vs[i]? = some v → ∃ d, ds[i]? = some d ∧ Dp K H v d
  | _, _, .nil, i, v, h => by simp at h
  | _, _, .cons a b, 0, v, h => by
    have e := Option.some.inj h
    subst e
    exact ⟨_, rfl, a⟩
  | _, _, .cons a b, i + 1, v, h => dpAll_get b (i := i) h
theorem dpAll_len {K : PySem.W.Frag} {H : Hp} : ∀ {vs : List V} {ds : List PyData}, DpAll K H vs ds → vs.length = ds.length
  | _, _, .nil => rfl
  | _, _, .cons _ b => congrArg (· + 1) (dpAll_len b)
theorem dpAll_snoc {K : PySem.W.Frag} {H : Hp} : ∀ {vs : List V} {ds : List PyData} {v : V} {d : PyData}, DpAll K H vs ds → Dp K H v d → DpAll K H (vs ++ [v]) (ds ++ [d])
  | _, _, _, _, .nil, h => .cons h .nil
  | _, _, _, _, .cons a b, h => .cons a (dpAll_snoc b h)
theorem dpAll_ints {K : PySem.W.Frag} {H : Hp} : ∀ (l : List Int), DpAll K H (l.map V.int) (l.map PyData.int)
  | [] => .nil
  | i :: l => .cons (.int i) (dpAll_ints l)
theorem dpAll_ints_eq {K : PySem.W.Frag} {H : Hp} : ∀ {l : List Int} {vs : List V}, DpAll K H vs (l.map PyData.int) → vs = l.map V.int
  | [], _, .nil => rfl
  | i :: l, _, .cons (.int _) b => congrArg (V.int i :: ·) (dpAll_ints_eq b)
/-- o[i] of a list, for o[i] += e -/
theorem get_list {X : Cx} : PGet X (fun o i H Q => ∃ p xs k z, o = .ref p ∧ i = .int k ∧ SqL X.K H p xs ∧ 0 ≤ k ∧ xs[k.toNat]? = some z ∧ Q z H) := by
  intro pins s σ H o i ov iv Q I ro ri h
  obtain ⟨p, xs, k, z, rfl, rfl, hq, h0, hz, q⟩ := h
  cases ro
  obtain ⟨t, rfl⟩ := ri
  obtain ⟨its, r, pl, hs⟩ := I.list hq
  obtain ⟨w, ew, rw'⟩ := r.get hz
  have hl := r.length
  have hn := line63
  have hlt : k.toNat < xs.length := (List.getElem?_eq_some_iff.mp hz).1
  exact wpAny_getItem_list pl.isList h0 (by omega) (by simpa using ew) ⟨z, H, I, rw', q⟩
def rListOf (K : PySem.W.Frag) : List V → Hp → VK → Prop := fun xs H Q => ∃ p ys, xs = [.ref p] ∧ (SqL K H p ys ∨ SqT K H p ys) ∧ ∀ l, H l = none → Q (.ref l) (upd H l (.lst ys))
def rLenSeq (K : PySem.W.Frag) : List V → Hp → VK → Prop := fun xs H Q => ∃ p ys, xs = [.ref p] ∧ (SqL K H p ys ∨ SqT K H p ys) ∧ Q (.int ys.length) H
theorem Cal.mk {P : Program} {w : World} {K : PySem.W.Frag} {mg : Str → Option Value} {base : Heap} {name : Str} {ps : List Str} {k : Nat} {sp : Sp} {g : Addr} {gd : FuncData} (G : FnOk P w K mg base CX0 k g gd ps sp) (m : mg name = some (.ref g)) (kp : PySem.W.keepIn K (.ref g) = true) (b : Binds K gd ps []) : Cal P w K mg base name ps k sp := .mk0 ⟨g, gd, G, m, kp, b⟩
abbrev s_wall : Stmt := top 0
abbrev N_wall : List Str := ["k"]
abbrev P_wall : List Str := ["k"]
theorem sc_wall : FnScope N_wall P_wall (defScope s_wall) := ⟨rfl, rfl, rfl, by decide +kernel, rfl, by decide +kernel, by decide +kernel⟩
abbrev s_shown : Stmt := top 2
abbrev N_shown : List Str := ["value"]
abbrev P_shown : List Str := ["value"]
theorem sc_shown : FnScope N_shown P_shown (defScope s_shown) := ⟨rfl, rfl, rfl, by decide +kernel, rfl, by decide +kernel, by decide +kernel⟩
abbrev sBadNumber___init__ : Stmt := inClass (top 4) 0
abbrev NBadNumber___init__ : List Str := ["self", "what", "value", "__class__"]
abbrev PBadNumber___init__ : List Str := ["self", "what", "value"]
theorem scBadNumber___init__ : NScope NBadNumber___init__ PBadNumber___init__ ["__class__"] (defScope sBadNumber___init__) := nscope_by (by decide +kernel)
abbrev scheck_number : Stmt := top 9
abbrev Ncheck_number : List Str := ["what", "value", "low", "high"]
abbrev Pcheck_number : List Str := ["what", "value", "low", "high"]
theorem sccheck_number : FnScope Ncheck_number Pcheck_number (defScope scheck_number) := ⟨rfl, rfl, rfl, by decide +kernel, rfl, by decide +kernel, by decide +kernel⟩
abbrev scheck_units : Stmt := top 10
abbrev Ncheck_units : List Str := ["what", "values", "value"]
abbrev Pcheck_units : List Str := ["what", "values"]
theorem sccheck_units : FnScope Ncheck_units Pcheck_units (defScope scheck_units) := ⟨rfl, rfl, rfl, by decide +kernel, rfl, by decide +kernel, by decide +kernel⟩
abbrev slesser : Stmt := top 11
abbrev Nlesser : List Str := ["one", "two"]
abbrev Plesser : List Str := ["one", "two"]
theorem sclesser : FnScope Nlesser Plesser (defScope slesser) := ⟨rfl, rfl, rfl, by decide +kernel, rfl, by decide +kernel, by decide +kernel⟩
abbrev sDay___init__ : Stmt := inClass (top 14) 0
abbrev NDay___init__ : List Str := ["self", "dry", "rain", "fill", "mood", "width"]
abbrev PDay___init__ : List Str := ["self", "dry", "rain", "fill", "mood"]
theorem scDay___init__ : FnScope NDay___init__ PDay___init__ (defScope sDay___init__) := ⟨rfl, rfl, rfl, by decide +kernel, rfl, by decide +kernel, by decide +kernel⟩
abbrev sDay___eq__ : Stmt := inClass (top 14) 1
abbrev NDay___eq__ : List Str := ["self", "other"]
abbrev PDay___eq__ : List Str := ["self", "other"]
theorem scDay___eq__ : FnScope NDay___eq__ PDay___eq__ (defScope sDay___eq__) := ⟨rfl, rfl, rfl, by decide +kernel, rfl, by decide +kernel, by decide +kernel⟩
abbrev sDay___le__ : Stmt := inClass (top 14) 2
abbrev NDay___le__ : List Str := ["self", "other", "drier", "mine", "its"]
abbrev PDay___le__ : List Str := ["self", "other"]
theorem scDay___le__ : FnScope NDay___le__ PDay___le__ (defScope sDay___le__) := ⟨rfl, rfl, rfl, by decide +kernel, rfl, by decide +kernel, by decide +kernel⟩
abbrev sDay___add__ : Stmt := inClass (top 14) 3
abbrev NDay___add__ : List Str := ["self", "other", "units", "rain", "wet"]
abbrev PDay___add__ : List Str := ["self", "other"]
theorem scDay___add__ : FnScope NDay___add__ PDay___add__ (defScope sDay___add__) := ⟨rfl, rfl, rfl, by decide +kernel, rfl, by decide +kernel, by decide +kernel⟩
abbrev sWeather___init__ : Stmt := inClass (top 15) 0
abbrev NWeather___init__ : List Str := ["self", "moods", "days"]
abbrev PWeather___init__ : List Str := ["self", "moods"]
theorem scWeather___init__ : FnScope NWeather___init__ PWeather___init__ (defScope sWeather___init__) := ⟨rfl, rfl, rfl, by decide +kernel, rfl, by decide +kernel, by decide +kernel⟩
abbrev sWeather___eq__ : Stmt := inClass (top 15) 1
abbrev NWeather___eq__ : List Str := ["self", "other"]
abbrev PWeather___eq__ : List Str := ["self", "other"]
theorem scWeather___eq__ : FnScope NWeather___eq__ PWeather___eq__ (defScope sWeather___eq__) := ⟨rfl, rfl, rfl, by decide +kernel, rfl, by decide +kernel, by decide +kernel⟩
abbrev sWeather___len__ : Stmt := inClass (top 15) 2
abbrev NWeather___len__ : List Str := ["self"]
abbrev PWeather___len__ : List Str := ["self"]
theorem scWeather___len__ : FnScope NWeather___len__ PWeather___len__ (defScope sWeather___len__) := ⟨rfl, rfl, rfl, by decide +kernel, rfl, by decide +kernel, by decide +kernel⟩
abbrev sWeather___getitem__ : Stmt := inClass (top 15) 3
abbrev NWeather___getitem__ : List Str := ["self", "at"]
abbrev PWeather___getitem__ : List Str := ["self", "at"]
theorem scWeather___getitem__ : FnScope NWeather___getitem__ PWeather___getitem__ (defScope sWeather___getitem__) := ⟨rfl, rfl, rfl, by decide +kernel, rfl, by decide +kernel, by decide +kernel⟩
abbrev sWeather___iter__ : Stmt := inClass (top 15) 4
abbrev NWeather___iter__ : List Str := ["self"]
abbrev PWeather___iter__ : List Str := ["self"]
theorem scWeather___iter__ : FnScope NWeather___iter__ PWeather___iter__ (defScope sWeather___iter__) := ⟨rfl, rfl, rfl, by decide +kernel, rfl, by decide +kernel, by decide +kernel⟩
abbrev sWeather___add__ : Stmt := inClass (top 15) 5
abbrev NWeather___add__ : List Str := ["self", "other", "moods", "days", "day"]
abbrev PWeather___add__ : List Str := ["self", "other"]
theorem scWeather___add__ : FnScope NWeather___add__ PWeather___add__ (defScope sWeather___add__) := ⟨rfl, rfl, rfl, by decide +kernel, rfl, by decide +kernel, by decide +kernel⟩
abbrev sWeather___radd__ : Stmt := inClass (top 15) 6
abbrev NWeather___radd__ : List Str := ["self", "other"]
abbrev PWeather___radd__ : List Str := ["self", "other"]
theorem scWeather___radd__ : FnScope NWeather___radd__ PWeather___radd__ (defScope sWeather___radd__) := ⟨rfl, rfl, rfl, by decide +kernel, rfl, by decide +kernel, by decide +kernel⟩
abbrev sWeather_lean : Stmt := inClass (top 15) 7
abbrev NWeather_lean : List Str := ["self"]
abbrev PWeather_lean : List Str := ["self"]
theorem scWeather_lean : FnScope NWeather_lean PWeather_lean (defScope sWeather_lean) := ⟨rfl, rfl, rfl, by decide +kernel, rfl, by decide +kernel, by decide +kernel⟩
abbrev sWeather_steady : Stmt := inClass (top 15) 8
abbrev NWeather_steady : List Str := ["dry", "rain", "fill"]
abbrev PWeather_steady : List Str := ["dry", "rain", "fill"]
theorem scWeather_steady : FnScope NWeather_steady PWeather_steady (defScope sWeather_steady) := ⟨rfl, rfl, rfl, by decide +kernel, rfl, by decide +kernel, by decide +kernel⟩
abbrev sWeather_seasons : Stmt := inClass (top 15) 9
abbrev NWeather_seasons : List Str := ["rows"]
abbrev PWeather_seasons : List Str := ["rows"]
theorem scWeather_seasons : FnScope NWeather_seasons PWeather_seasons (defScope sWeather_seasons) := ⟨rfl, rfl, rfl, by decide +kernel, rfl, by decide +kernel, by decide +kernel⟩
abbrev s_check_days : Stmt := top 16
abbrev N_check_days : List Str := ["moods", "days", "width", "day"]
abbrev P_check_days : List Str := ["moods"]
theorem sc_check_days : FnScope N_check_days P_check_days (defScope s_check_days) := ⟨rfl, rfl, rfl, by decide +kernel, rfl, by decide +kernel, by decide +kernel⟩
abbrev s_law_start : Stmt := top 18
abbrev N_law_start : List Str := ["script", "first"]
abbrev P_law_start : List Str := ["script"]
theorem sc_law_start : FnScope N_law_start P_law_start (defScope s_law_start) := ⟨rfl, rfl, rfl, by decide +kernel, rfl, by decide +kernel, by decide +kernel⟩
abbrev s_law_draw : Stmt := top 19
abbrev N_law_draw : List Str := ["script", "state", "limit", "number", "cell", "mixed"]
abbrev P_law_draw : List Str := ["script", "state", "limit"]
theorem sc_law_draw : FnScope N_law_draw P_law_draw (defScope s_law_draw) := ⟨rfl, rfl, rfl, by decide +kernel, rfl, by decide +kernel, by decide +kernel⟩
abbrev s_law_day : Stmt := top 20
abbrev N_law_day : List Str := ["script", "state", "many", "most", "moods", "dry", "rain", "k"]
abbrev P_law_day : List Str := ["script", "state", "many", "most", "moods"]
theorem sc_law_day : FnScope N_law_day P_law_day (defScope s_law_day) := ⟨rfl, rfl, rfl, by decide +kernel, rfl, by decide +kernel, by decide +kernel⟩
abbrev s_law_refusal : Stmt := top 21
abbrev N_law_refusal : List Str := ["rows", "e"]
abbrev P_law_refusal : List Str := ["rows"]
theorem sc_law_refusal : FnScope N_law_refusal P_law_refusal (defScope s_law_refusal) := ⟨rfl, rfl, rfl, by decide +kernel, rfl, by decide +kernel, by decide +kernel⟩
abbrev s_law_item : Stmt := top 22
abbrev N_law_item : List Str := ["weather", "at", "e"]
abbrev P_law_item : List Str := ["weather", "at"]
theorem sc_law_item : FnScope N_law_item P_law_item (defScope s_law_item) := ⟨rfl, rfl, rfl, by decide +kernel, rfl, by decide +kernel, by decide +kernel⟩
abbrev s_law_made : Stmt := top 23
abbrev N_law_made : List Str := ["rows"]
abbrev P_law_made : List Str := ["rows"]
theorem sc_law_made : FnScope N_law_made P_law_made (defScope s_law_made) := ⟨rfl, rfl, rfl, by decide +kernel, rfl, by decide +kernel, by decide +kernel⟩
abbrev s_law_refusals_hold : Stmt := top 24
abbrev N_law_refusals_hold : List Str := ["script", "state", "before", "at", "many", "moods", "wide", "lost", "place", "spoilt", "due", "days"]
abbrev P_law_refusals_hold : List Str := ["script", "state", "before", "at", "many"]
theorem sc_law_refusals_hold : FnScope N_law_refusals_hold P_law_refusals_hold (defScope s_law_refusals_hold) := ⟨rfl, rfl, rfl, by decide +kernel, rfl, by decide +kernel, by decide +kernel⟩
abbrev slaw : Stmt := top 25
abbrev Nlaw : List Str := ["script", "state", "many", "moods", "rows", "mood", "count", "before", "weather", "twin", "at", "k", "other", "last", "days", "units"]
abbrev Plaw : List Str := ["script"]
theorem sclaw : FnScope Nlaw Plaw (defScope slaw) := ⟨rfl, rfl, rfl, by decide +kernel, rfl, by decide +kernel, by decide +kernel⟩
/-- what the top has written -/
structure Txt (K : PySem.W.Frag) (mg : Str → Option Value) : Prop where
  b_len : mg "len" = none
  b_abs : mg "abs" = none
  b_int : mg "int" = none
  b_bool : mg "bool" = none
  b_str : mg "str" = none
  b_range : mg "range" = none
  b_all : mg "all" = none
  b_isinstance : mg "isinstance" = none
  b_repr : mg "repr" = none
  b_super : mg "super" = none
  b_tuple : mg "tuple" = none
  b_list : mg "list" = none
  b_zip : mg "zip" = none
  b_enumerate : mg "enumerate" = none
  b_max : mg "max" = none
  b_min : mg "min" = none
  c_MOST_PLOTS : ∃ t, mg "MOST_PLOTS" = some (.int 4 t)
  c_MOST_UNITS : ∃ t, mg "MOST_UNITS" = some (.int 8 t)
  c_MOST_MOODS : ∃ t, mg "MOST_MOODS" = some (.int 4 t)
  c__MOST_DAYS : ∃ t, mg "_MOST_DAYS" = some (.int 6 t)
end Wb

namespace Wb
open PySem PySem.Spec PyProof.Rows L2 Wx NdefX RZ StX PyProof.Rows.FinIter
section
variable {P : Program} {w : World} {K : PySem.W.Frag} {mg : Str → Option Value} {base : Heap}

/-- a state: four ints -/
def St4 (H : Hp) (a : Addr) : Prop := ∃ i j k l : Int, H a = some (.lst [.int i, .int j, .int k, .int l])
/-- the script at a and the state at s -/
def Scr (K : PySem.W.Frag) (H : Hp) (a s : Addr) : Prop := (∃ ns : List Int, SqL K (hid [s] H) a (ns.map V.int) ∧ ns.length ≤ 63) ∧ St4 H s
theorem Frm.put' {xs : List Addr} {H H1 : Hp} {a : Addr} {o : HO} (f : Frm xs H H1) (m : a ∈ xs) : Frm xs H (upd H1 a o) := f.trans (Frm.put m)
theorem Scr.frm {K : PySem.W.Frag} {H H' : Hp} {a s : Addr} (h : Scr K H a s) (f : Frm [s] H H') (q : St4 H' s) : Scr K H' a s := by
  obtain ⟨⟨ns, h1, h2⟩, _⟩ := h
  exact ⟨⟨ns, (hid_frm f).seq h1, h2⟩, q⟩
/-- what else is made or changed is not the state -/
theorem Scr.same {K : PySem.W.Frag} {H H' : Hp} {a s : Addr} (h : Scr K H a s) (f : Same H H') : Scr K H' a s := by
  obtain ⟨i, j, k, l, e⟩ := h.2
  exact h.frm (Frm.of_same f) ⟨i, j, k, l, f _ _ e⟩
theorem Scr.ne {K : PySem.W.Frag} {H : Hp} {a s p : Addr} (h : Scr K H a s) (n : H p = none) : ¬ p = s := by
  rintro rfl
  obtain ⟨_, _, _, _, e⟩ := h.2
  rw [n] at e
  cases e
theorem Scr.made {K : PySem.W.Frag} {H : Hp} {a p : Addr} {ns : List Int} (hS : SqL K H a (ns.map V.int)) (hl : ns.length ≤ 63) (n : H p = none) {i j k l : Int} : Scr K (upd H p (.lst [.int i, .int j, .int k, .int l])) a p := by
  refine ⟨⟨ns, Same.seq (H := H) (fun b o e => ?_) hS, hl⟩, i, j, k, l, upd_same⟩
  have nb : b ≠ p := ne_of_none e n
  rw [hid_eq (by simpa using nb), upd_ne nb]
  exact e
theorem ints_at {ns : List Int} {i : Int} (h0 : 0 ≤ i) (h1 : i < ns.length) : ∃ z : Int, atI (ns.map V.int) i = some (.int z) := by
  obtain ⟨j, rfl⟩ : ∃ j : Nat, i = (j : Int) := ⟨i.toNat, by omega⟩
  have hj : j < ns.length := by omega
  exact ⟨ns[j], atI_nat (by simp [hj])⟩
theorem fmod0 {a b : Int} (h : 0 < b) : 0 ≤ a.fmod b := by
  rw [Int.fmod_eq_emod_of_nonneg _ (by omega)]
  exact Int.emod_nonneg _ (by omega)
theorem fmod1 {a b : Int} (h : 0 < b) : a.fmod b < b := by
  rw [Int.fmod_eq_emod_of_nonneg _ (by omega)]
  exact Int.emod_lt_of_pos _ h
def sp_law_start (K : PySem.W.Frag) : Sp := fun vs H Q _ => ∃ (a : Addr) (ns : List Int), vs = [.ref a] ∧ SqL K H a (ns.map V.int) ∧ ns.length ≤ 63 ∧ ∀ p H', Same H H' → H p = none → Scr K H' a p → Q (.ref p) H'
def sp_law_draw (K : PySem.W.Frag) : Sp := fun vs H Q _ => ∃ (a s : Addr) (n : Int), vs = [.ref a, .ref s, .int n] ∧ Scr K H a s ∧ 0 < n ∧ n < 1073741824 ∧ ∀ (r : Int) (H' : Hp), 0 ≤ r → r < n → Frm [s] H H' → Scr K H' a s → Q (.int r) H'

theorem ok_law_start {f : Addr} {fd : FuncData} (F : Fun K "_law_start" "_law_start" s_law_start f fd) (T : Txt K mg) : FnOk P w K mg base CX0 1 f fd P_law_start (sp_law_start K) := by
  refine F.ok sc_law_start (fun vs H Q E h => ?_) (fun cdv A outer s H vs Q E hr h => ?_)
  · obtain ⟨a, ns, rfl, hS, hlen, k⟩ := h
    rfl
  · obtain ⟨a, ns, rfl, hS, hlen, k⟩ := h
    refine ⟨_, (pss_cons (ps_set (i := 1) sc_law_start.nd rfl (by first | exact Or.inl rfl | exact Or.inr rfl) pe_int)
  (pss_cons (ps_if (pt_cmpR op_gt (pe_callB call_len_seq (by rfl) T.b_len PySem.boot_len (pa_cons (pv 0) pa_nil)) pe_int (nomark _))
  (pss_one (ps_set (i := 1) sc_law_start.nd rfl (by first | exact Or.inl rfl | exact Or.inr rfl) (pe_ix ix_list (pv 0) pe_int (fun _ _ => rfl))))
  pss_nil)
  (pss_one (ps_ret (pe_lst (pa_cons (pe_callB (id := "abs") call_abs (by rfl) T.b_abs (by decide +kernel) (pa_cons (pe_callTy (T := "int") call_int1 (by rfl) T.b_int (by decide +kernel) (pa_cons (pv 1) pa_nil)) pa_nil)) (pa_cons (pe_callTy (T := "int") call_int1 (by rfl) T.b_int (by decide +kernel) (pa_cons (pe_cmpR op_ge (pe_callB (id := "abs") call_abs (by rfl) T.b_abs (by decide +kernel) (pa_cons (pe_callTy (T := "int") call_int1 (by rfl) T.b_int (by decide +kernel) (pa_cons (pv 1) pa_nil)) pa_nil)) (pe_op op_pow pe_int pe_int) (nomark _)) pa_nil)) (pa_cons pe_int (pa_cons pe_int pa_nil))))))))), ?_⟩
    refine ⟨_, rfl, a, _, rfl, .inl hS, _, _, rfl, rfl, _, rfl, ?_⟩
    refine ite2 (fun c => ?_) (fun c => ?_)
    · have hp : (0 : Int) < ns.length := by simpa using of_decide_eq_true c
      obtain ⟨z, hz⟩ := ints_at (ns := ns) (i := 0) (by omega) hp
      refine ⟨_, rfl, a, _, _, _, rfl, rfl, hS, hz, ?_⟩
      refine ⟨_, rfl, .inl ⟨_, rfl, _, rfl, _, rfl, .inl ⟨_, rfl, _, rfl, _, _, rfl, rfl, ⟨by decide, by decide, by decide⟩, _, _, rfl, rfl, .inr ⟨_, rfl, (by show 4 ≤ sizeLine; decide), fun l hl => k _ _ (Same.new hl) hl (Scr.made hS hlen hl)⟩⟩⟩⟩
    · refine ⟨_, rfl, .inl ⟨_, rfl, _, rfl, _, rfl, .inl ⟨_, rfl, _, rfl, _, _, rfl, rfl, ⟨by decide, by decide, by decide⟩, _, _, rfl, rfl, .inr ⟨_, rfl, (by show 4 ≤ sizeLine; decide), fun l hl => k _ _ (Same.new hl) hl (Scr.made hS hlen hl)⟩⟩⟩⟩

theorem ok_law_draw {f : Addr} {fd : FuncData} (F : Fun K "_law_draw" "_law_draw" s_law_draw f fd) (T : Txt K mg) : FnOk P w K mg base CX0 1 f fd P_law_draw (sp_law_draw K) := by
  refine F.ok sc_law_draw (fun vs H Q E h => ?_) (fun cdv A outer s H vs Q E hr h => ?_)
  · obtain ⟨a, s0, n, rfl, hScr, n0, n1, k⟩ := h
    rfl
  · obtain ⟨a, s0, n, rfl, hScr, n0, n1, k⟩ := h
    refine ⟨_, (pss_cons (ps_asg (pe_op op_add (pe_ix ix_list (pv 1) pe_int (fun _ _ => rfl)) pe_int) (pg_sub (pv 1) pe_int set_list))
  (pss_cons (ps_if (PW.pt (pw_and (pt_cmpR op_eq (pe_ix ix_list (pv 1) pe_int (fun _ _ => rfl)) pe_int (nomark _)) (pw_and1 (pt_cmpR op_gt (pe_ix ix_list (pv 1) pe_int (fun _ _ => rfl)) pe_int (nomark _)))))
  (pss_cons (ps_set (i := 3) sc_law_draw.nd rfl (by first | exact Or.inl rfl | exact Or.inr rfl) (pe_op op_modN (pe_callTy (T := "int") call_int1 (by rfl) T.b_int (by decide +kernel) (pa_cons (pe_ix ix_list (pv 1) pe_int (fun _ _ => rfl)) pa_nil)) (pv 2)))
  (pss_cons (ps_asg (pe_op op_fdivN (pe_ix ix_list (pv 1) pe_int (fun _ _ => rfl)) (pv 2)) (pg_sub (pv 1) pe_int set_list))
  (pss_one (ps_ret (pv 3)))))
  pss_nil)
  (pss_cons (ps_asg pe_int (pg_sub (pv 1) pe_int set_list))
  (pss_cons (ps_set (i := 4) sc_law_draw.nd rfl (by first | exact Or.inl rfl | exact Or.inr rfl) pe_int)
  (pss_cons (ps_if (pt_cmpR op_gt (pe_callB call_len_seq (by rfl) T.b_len PySem.boot_len (pa_cons (pv 0) pa_nil)) pe_int (nomark _))
  (pss_one (ps_set (i := 4) sc_law_draw.nd rfl (by first | exact Or.inl rfl | exact Or.inr rfl) (pe_ix ix_list (pv 0) (pe_op op_modN (pe_callTy (T := "int") call_int1 (by rfl) T.b_int (by decide +kernel) (pa_cons (pe_ix ix_list (pv 1) pe_int (fun _ _ => rfl)) pa_nil)) (pe_callB call_len_seq (by rfl) T.b_len PySem.boot_len (pa_cons (pv 0) pa_nil))) (fun _ _ => rfl))))
  pss_nil)
  (pss_cons (ps_asg (pe_op op_add (pe_ix ix_list (pv 1) pe_int (fun _ _ => rfl)) pe_int) (pg_sub (pv 1) pe_int set_list))
  (pss_cons (ps_set (i := 5) sc_law_draw.nd rfl (by first | exact Or.inl rfl | exact Or.inr rfl) (pe_op op_mul (pe_op op_modN (pe_callTy (T := "int") call_int1 (by rfl) T.b_int (by decide +kernel) (pa_cons (pe_ix ix_list (pv 1) pe_int (fun _ _ => rfl)) pa_nil)) pe_int) pe_int))
  (pss_cons (ps_set (i := 5) sc_law_draw.nd rfl (by first | exact Or.inl rfl | exact Or.inr rfl) (pe_op op_add (pe_op op_add (pe_op op_add (pv 5) (pe_op op_modN (pe_callTy (T := "int") call_int1 (by rfl) T.b_int (by decide +kernel) (pa_cons (pv 4) pa_nil)) pe_int)) (pe_op op_mul pe_int (pe_ix ix_list (pv 1) pe_int (fun _ _ => rfl)))) pe_int))
  (pss_cons (ps_asg (pe_op op_modN (pe_callTy (T := "int") call_int1 (by rfl) T.b_int (by decide +kernel) (pa_cons (pv 5) pa_nil)) pe_int) (pg_sub (pv 1) pe_int set_list))
  (pss_cons (ps_set (i := 5) sc_law_draw.nd rfl (by first | exact Or.inl rfl | exact Or.inr rfl) (pe_op op_modN (pe_callTy (T := "int") call_int1 (by rfl) T.b_int (by decide +kernel) (pa_cons (pe_op op_add (pe_op op_mul (pe_ix ix_list (pv 1) pe_int (fun _ _ => rfl)) pe_int) (pe_ix ix_list (pv 1) pe_int (fun _ _ => rfl))) pa_nil)) pe_int))
  (pss_one (ps_ret (pe_op op_modN (pe_callTy (T := "int") call_int1 (by rfl) T.b_int (by decide +kernel) (pa_cons (pe_op op_fdivN (pv 5) pe_int) pa_nil)) (pv 2)))))))))))))), ?_⟩
    obtain ⟨⟨ns, hS, hl⟩, i0, i1, i2, i3, h4⟩ := id hScr
    have hA : ∀ H', Frm [s0] H H' → SqL K H' a (ns.map V.int) := fun H' fr => ((hid_frm fr).trans (hid_same _ _)).seq hS
    -- state[3] = state[3] + 1
    refine ⟨_, rfl, s0, _, _, _, rfl, rfl, SqL.of h4, rfl, _, _, rfl, rfl, _, rfl, s0, _, _, _, rfl, rfl, h4, rfl, ?_⟩
    refine ⟨_, rfl, s0, _, _, _, rfl, rfl, SqL.of upd_same, rfl, rfl, _, rfl, ?_⟩
    refine ite2 (fun c1 => ?_) (fun c1 => ?_)
    · refine ⟨_, rfl, s0, _, _, _, rfl, rfl, SqL.of upd_same, rfl, _, _, rfl, rfl, _, rfl, ?_⟩
      refine ite2 (fun c2 => ?_) (fun c2 => ?_)
      · refine ⟨_, rfl, s0, _, _, _, rfl, rfl, SqL.of upd_same, rfl, .inl ⟨_, rfl, _, rfl, _, _, rfl, rfl, (by show (_ : Int) ≠ 0; omega), ?_⟩⟩
        refine ⟨_, rfl, s0, _, _, _, rfl, rfl, SqL.of upd_same, rfl, _, rfl, _, _, rfl, rfl, ⟨by omega, by omega⟩, _, rfl, s0, _, _, _, rfl, rfl, upd_same, rfl, ?_⟩
        exact ⟨_, rfl, k _ _ (fmod0 n0) (fmod1 n0) (by repeat (first | exact Frm.refl _ _ | refine Frm.put' ?_ (by simp))) (hScr.frm (by repeat (first | exact Frm.refl _ _ | refine Frm.put' ?_ (by simp))) ⟨_, _, _, _, upd_same⟩)⟩
      · refine ⟨_, rfl, s0, _, _, _, rfl, rfl, upd_same, rfl, ?_⟩
        refine ⟨_, rfl, a, _, rfl, .inl (hA _ (by repeat (first | exact Frm.refl _ _ | refine Frm.put' ?_ (by simp)))), _, _, rfl, rfl, _, rfl, ?_⟩
        refine ite2 (fun c => ?_) (fun c => ?_)
        · have hp : (0 : Int) < ns.length := by simpa using of_decide_eq_true c
          obtain ⟨z, hz⟩ := ints_at (ns := ns) (i := i2.fmod ((ns.map V.int).length : Nat)) (fmod0 (by simpa using hp)) (by simpa using fmod1 (a := i2) hp)
          refine ⟨_, rfl, _, rfl, s0, _, _, _, rfl, rfl, SqL.of upd_same, rfl, .inl ⟨_, rfl, _, rfl, a, _, rfl, .inl (hA _ (by repeat (first | exact Frm.refl _ _ | refine Frm.put' ?_ (by simp)))), _, _, rfl, rfl, (by show (((ns.map V.int).length : Nat) : Int) ≠ 0; rw [List.length_map]; omega), a, _, _, _, rfl, rfl, hA _ (by repeat (first | exact Frm.refl _ _ | refine Frm.put' ?_ (by simp))), hz, ?_⟩⟩
          -- state[2] = state[2] + 1; mixed = ..
          refine ⟨_, rfl, s0, _, _, _, rfl, rfl, SqL.of upd_same, rfl, _, _, rfl, rfl, _, rfl, s0, _, _, _, rfl, rfl, upd_same, rfl, ?_⟩
          refine ⟨_, rfl, s0, _, _, _, rfl, rfl, SqL.of upd_same, rfl, .inl ⟨_, rfl, _, _, rfl, rfl, (by show (_ : Int) ≠ 0; decide), _, _, rfl, rfl, .inr ⟨by decide, by decide⟩, ?_⟩⟩
          refine ⟨_, rfl, _, rfl, .inl ⟨_, rfl, _, _, rfl, rfl, (by show (_ : Int) ≠ 0; decide), _, _, rfl, rfl, _, rfl, s0, _, _, _, rfl, rfl, SqL.of upd_same, rfl, _, _, rfl, rfl, .inl ⟨by decide, by decide⟩, _, _, rfl, rfl, _, _, rfl, rfl, ?_⟩⟩
          refine ⟨_, rfl, .inl ⟨_, rfl, _, _, rfl, rfl, (by show (_ : Int) ≠ 0; decide), _, rfl, s0, _, _, _, rfl, rfl, upd_same, rfl, ?_⟩⟩
          refine ⟨_, rfl, s0, _, _, _, rfl, rfl, SqL.of upd_same, rfl, _, _, rfl, rfl, .inr ⟨by decide, by decide⟩, _, rfl, s0, _, _, _, rfl, rfl, SqL.of upd_same, rfl, _, _, rfl, rfl, .inl ⟨_, rfl, _, _, rfl, rfl, (by show (_ : Int) ≠ 0; decide), ?_⟩⟩
          refine ⟨_, rfl, _, _, rfl, rfl, ⟨by decide, by decide⟩, .inl ⟨_, rfl, _, rfl, _, _, rfl, rfl, (by show (_ : Int) ≠ 0; omega), ?_⟩⟩
          exact k _ _ (fmod0 n0) (fmod1 n0) (by repeat (first | exact Frm.refl _ _ | refine Frm.put' ?_ (by simp))) (hScr.frm (by repeat (first | exact Frm.refl _ _ | refine Frm.put' ?_ (by simp))) ⟨_, _, _, _, upd_same⟩)
        · -- state[2] = state[2] + 1; mixed = ..
          refine ⟨_, rfl, s0, _, _, _, rfl, rfl, SqL.of upd_same, rfl, _, _, rfl, rfl, _, rfl, s0, _, _, _, rfl, rfl, upd_same, rfl, ?_⟩
          refine ⟨_, rfl, s0, _, _, _, rfl, rfl, SqL.of upd_same, rfl, .inl ⟨_, rfl, _, _, rfl, rfl, (by show (_ : Int) ≠ 0; decide), _, _, rfl, rfl, .inr ⟨by decide, by decide⟩, ?_⟩⟩
          refine ⟨_, rfl, _, rfl, .inl ⟨_, rfl, _, _, rfl, rfl, (by show (_ : Int) ≠ 0; decide), _, _, rfl, rfl, _, rfl, s0, _, _, _, rfl, rfl, SqL.of upd_same, rfl, _, _, rfl, rfl, .inl ⟨by decide, by decide⟩, _, _, rfl, rfl, _, _, rfl, rfl, ?_⟩⟩
          refine ⟨_, rfl, .inl ⟨_, rfl, _, _, rfl, rfl, (by show (_ : Int) ≠ 0; decide), _, rfl, s0, _, _, _, rfl, rfl, upd_same, rfl, ?_⟩⟩
          refine ⟨_, rfl, s0, _, _, _, rfl, rfl, SqL.of upd_same, rfl, _, _, rfl, rfl, .inr ⟨by decide, by decide⟩, _, rfl, s0, _, _, _, rfl, rfl, SqL.of upd_same, rfl, _, _, rfl, rfl, .inl ⟨_, rfl, _, _, rfl, rfl, (by show (_ : Int) ≠ 0; decide), ?_⟩⟩
          refine ⟨_, rfl, _, _, rfl, rfl, ⟨by decide, by decide⟩, .inl ⟨_, rfl, _, rfl, _, _, rfl, rfl, (by show (_ : Int) ≠ 0; omega), ?_⟩⟩
          exact k _ _ (fmod0 n0) (fmod1 n0) (by repeat (first | exact Frm.refl _ _ | refine Frm.put' ?_ (by simp))) (hScr.frm (by repeat (first | exact Frm.refl _ _ | refine Frm.put' ?_ (by simp))) ⟨_, _, _, _, upd_same⟩)
    · refine ⟨_, rfl, s0, _, _, _, rfl, rfl, upd_same, rfl, ?_⟩
      refine ⟨_, rfl, a, _, rfl, .inl (hA _ (by repeat (first | exact Frm.refl _ _ | refine Frm.put' ?_ (by simp)))), _, _, rfl, rfl, _, rfl, ?_⟩
      refine ite2 (fun c => ?_) (fun c => ?_)
      · have hp : (0 : Int) < ns.length := by simpa using of_decide_eq_true c
        obtain ⟨z, hz⟩ := ints_at (ns := ns) (i := i2.fmod ((ns.map V.int).length : Nat)) (fmod0 (by simpa using hp)) (by simpa using fmod1 (a := i2) hp)
        refine ⟨_, rfl, _, rfl, s0, _, _, _, rfl, rfl, SqL.of upd_same, rfl, .inl ⟨_, rfl, _, rfl, a, _, rfl, .inl (hA _ (by repeat (first | exact Frm.refl _ _ | refine Frm.put' ?_ (by simp)))), _, _, rfl, rfl, (by show (((ns.map V.int).length : Nat) : Int) ≠ 0; rw [List.length_map]; omega), a, _, _, _, rfl, rfl, hA _ (by repeat (first | exact Frm.refl _ _ | refine Frm.put' ?_ (by simp))), hz, ?_⟩⟩
        -- state[2] = state[2] + 1; mixed = ..
        refine ⟨_, rfl, s0, _, _, _, rfl, rfl, SqL.of upd_same, rfl, _, _, rfl, rfl, _, rfl, s0, _, _, _, rfl, rfl, upd_same, rfl, ?_⟩
        refine ⟨_, rfl, s0, _, _, _, rfl, rfl, SqL.of upd_same, rfl, .inl ⟨_, rfl, _, _, rfl, rfl, (by show (_ : Int) ≠ 0; decide), _, _, rfl, rfl, .inr ⟨by decide, by decide⟩, ?_⟩⟩
        refine ⟨_, rfl, _, rfl, .inl ⟨_, rfl, _, _, rfl, rfl, (by show (_ : Int) ≠ 0; decide), _, _, rfl, rfl, _, rfl, s0, _, _, _, rfl, rfl, SqL.of upd_same, rfl, _, _, rfl, rfl, .inl ⟨by decide, by decide⟩, _, _, rfl, rfl, _, _, rfl, rfl, ?_⟩⟩
        refine ⟨_, rfl, .inl ⟨_, rfl, _, _, rfl, rfl, (by show (_ : Int) ≠ 0; decide), _, rfl, s0, _, _, _, rfl, rfl, upd_same, rfl, ?_⟩⟩
        refine ⟨_, rfl, s0, _, _, _, rfl, rfl, SqL.of upd_same, rfl, _, _, rfl, rfl, .inr ⟨by decide, by decide⟩, _, rfl, s0, _, _, _, rfl, rfl, SqL.of upd_same, rfl, _, _, rfl, rfl, .inl ⟨_, rfl, _, _, rfl, rfl, (by show (_ : Int) ≠ 0; decide), ?_⟩⟩
        refine ⟨_, rfl, _, _, rfl, rfl, ⟨by decide, by decide⟩, .inl ⟨_, rfl, _, rfl, _, _, rfl, rfl, (by show (_ : Int) ≠ 0; omega), ?_⟩⟩
        exact k _ _ (fmod0 n0) (fmod1 n0) (by repeat (first | exact Frm.refl _ _ | refine Frm.put' ?_ (by simp))) (hScr.frm (by repeat (first | exact Frm.refl _ _ | refine Frm.put' ?_ (by simp))) ⟨_, _, _, _, upd_same⟩)
      · -- state[2] = state[2] + 1; mixed = ..
        refine ⟨_, rfl, s0, _, _, _, rfl, rfl, SqL.of upd_same, rfl, _, _, rfl, rfl, _, rfl, s0, _, _, _, rfl, rfl, upd_same, rfl, ?_⟩
        refine ⟨_, rfl, s0, _, _, _, rfl, rfl, SqL.of upd_same, rfl, .inl ⟨_, rfl, _, _, rfl, rfl, (by show (_ : Int) ≠ 0; decide), _, _, rfl, rfl, .inr ⟨by decide, by decide⟩, ?_⟩⟩
        refine ⟨_, rfl, _, rfl, .inl ⟨_, rfl, _, _, rfl, rfl, (by show (_ : Int) ≠ 0; decide), _, _, rfl, rfl, _, rfl, s0, _, _, _, rfl, rfl, SqL.of upd_same, rfl, _, _, rfl, rfl, .inl ⟨by decide, by decide⟩, _, _, rfl, rfl, _, _, rfl, rfl, ?_⟩⟩
        refine ⟨_, rfl, .inl ⟨_, rfl, _, _, rfl, rfl, (by show (_ : Int) ≠ 0; decide), _, rfl, s0, _, _, _, rfl, rfl, upd_same, rfl, ?_⟩⟩
        refine ⟨_, rfl, s0, _, _, _, rfl, rfl, SqL.of upd_same, rfl, _, _, rfl, rfl, .inr ⟨by decide, by decide⟩, _, rfl, s0, _, _, _, rfl, rfl, SqL.of upd_same, rfl, _, _, rfl, rfl, .inl ⟨_, rfl, _, _, rfl, rfl, (by show (_ : Int) ≠ 0; decide), ?_⟩⟩
        refine ⟨_, rfl, _, _, rfl, rfl, ⟨by decide, by decide⟩, .inl ⟨_, rfl, _, rfl, _, _, rfl, rfl, (by show (_ : Int) ≠ 0; omega), ?_⟩⟩
        exact k _ _ (fmod0 n0) (fmod1 n0) (by repeat (first | exact Frm.refl _ _ | refine Frm.put' ?_ (by simp))) (hScr.frm (by repeat (first | exact Frm.refl _ _ | refine Frm.put' ?_ (by simp))) ⟨_, _, _, _, upd_same⟩)
end
section
variable {P : Program} {w : World} {K : PySem.W.Frag} {mg : Str → Option Value} {base : Heap}

theorem ok_shown {f : Addr} {fd : FuncData} (F : Fun K "_shown" "_shown" s_shown f fd) (T : Txt K mg) : FnOk P w K mg base CX0 1 f fd P_shown sp_shown := by
  refine F.ok sc_shown (fun vs H Q E h => ?_) (fun cdv A outer s H vs Q E hr h => ?_)
  · obtain ⟨x, rfl, hx, k⟩ := h
    rfl
  · obtain ⟨x, rfl, hx, k⟩ := h
    refine ⟨_, (pss_cons (ps_if (pt_val (pe_callB (id := "isinstance") call_isi (by rfl) T.b_isinstance (by decide +kernel) (pa_cons (pv 0) (pa_cons (pe_bltn (v := .ty "str") (by rfl) T.b_str (by decide +kernel) rfl) pa_nil))))
  (pss_one (ps_ret (pe_callB (id := "repr") call_repr_str (by rfl) T.b_repr (by decide +kernel) (pa_cons (pv 0) pa_nil))))
  pss_nil)
  (pss_cons (ps_if (PW.pt (pw_and (pt_val (pe_callB (id := "isinstance") call_isi (by rfl) T.b_isinstance (by decide +kernel) (pa_cons (pv 0) (pa_cons (pe_bltn (v := .ty "int") (by rfl) T.b_int (by decide +kernel) rfl) pa_nil)))) (pw_and1 (pt_chain op_ltM op_ltM (pe_un un_neg pe_int) (pv 0) pe_int))))
  (pss_one (ps_ret (pe_callTy (T := "str") call_str_ib (by rfl) T.b_str (by decide +kernel) (pa_cons (pv 0) pa_nil))))
  pss_nil)
  (pss_one (ps_ret pe_str)))), ?_⟩
    rcases hx with ⟨z, rfl, hz⟩ | ⟨i, rfl⟩ | rfl | ⟨b, rfl⟩
    · refine ⟨_, rfl, _, _, _, _, true, rfl, .ty _, .base (.str _), kit_ty (by decide +kernel), true, rfl, iteT ?_⟩
      exact ⟨_, rfl, z, rfl, Nat.le_trans hz (by rw [sizeLine_eq]; decide), k _ hz⟩
    · refine ⟨_, rfl, _, _, _, _, false, rfl, .ty _, .base (.int _), kit_ty (by decide +kernel), false, rfl, iteF ?_⟩
      refine ⟨_, rfl, _, _, _, _, true, rfl, .ty _, .base (.int _), kit_ty (by decide +kernel), true, rfl, iteT ?_⟩
      refine ⟨_, rfl, _, rfl, _, _, rfl, rfl, _, rfl, ?_⟩
      refine ite2 (fun c1 => ?_) (fun c1 => ?_)
      · have c1 := of_decide_eq_true c1
        refine ⟨_, _, rfl, rfl, _, rfl, ?_⟩
        refine ite2 (fun c2 => ?_) (fun c2 => ?_)
        · have c2 := of_decide_eq_true c2
          have hn : i.natAbs < 10 ^ 4 := by
            have e : (10 : Nat) ^ 4 = 10000 := by decide
            rw [e]
            omega
          refine ⟨_, rfl, .inl ⟨_, rfl, ?_, k _ ?_⟩⟩
          · have h2 : i.natAbs < 2 ^ 1920 := Nat.lt_of_lt_of_le hn (by decide)
            by_cases h0 : i.natAbs = 0
            · rw [h0]
              decide
            · exact (Nat.log2_lt h0).mpr h2
          · have e := int_text_length_le10 (k := 4) (by decide) hn
            show (Str.ofString (toString i)).length ≤ _
            rw [PySem.ofString_length]
            omega
        · exact k _ (by decide +kernel)
      · refine ⟨_, rfl, ite2 (fun z => absurd z (by decide)) (fun _ => ?_)⟩
        exact k _ (by decide +kernel)
    · refine ⟨_, rfl, _, _, _, _, false, rfl, .ty _, .base .non, kit_ty (by decide +kernel), false, rfl, iteF ?_⟩
      refine ⟨_, rfl, _, _, _, _, false, rfl, .ty _, .base .non, kit_ty (by decide +kernel), false, rfl, iteF ?_⟩
      exact k _ (by decide +kernel)
    · refine ⟨_, rfl, _, _, _, _, false, rfl, .ty _, .base (.bl _), kit_ty (by decide +kernel), false, rfl, iteF ?_⟩
      refine ⟨_, rfl, _, _, _, _, true, rfl, .ty _, .base (.bl _), kit_ty (by decide +kernel), true, rfl, iteT ?_⟩
      refine ⟨_, rfl, _, rfl, _, _, rfl, rfl, _, rfl, ?_⟩
      refine ite2 (fun c1 => ?_) (fun c1 => absurd (decide_eq_true (by cases b <;> decide)) c1)
      refine ⟨_, _, rfl, rfl, _, rfl, ?_⟩
      refine ite2 (fun c2 => ?_) (fun c2 => absurd (decide_eq_true (by cases b <;> decide)) c2)
      exact ⟨_, rfl, .inr ⟨b, rfl, k _ (by cases b <;> decide +kernel)⟩⟩

theorem okBadNumber___init__ {f C cda cc : Addr} {oc dV kV doc pm ct : Value} {an od : Option Addr} {osl : Array (Option Value)} (lk : K.lookup f = some ⟨oc, od, .func (PySem.W.fnX "__init__" "BadNumber.__init__" (defArgs sBadNumber___init__) (defBody sBadNumber___init__) (defScope sBadNumber___init__) [("__class__", cc)] dV kV doc pm an (.ref cda) ct), osl⟩) (EC : ErrC P K mg "BadNumber" "BadNumber.__init__" C f cda cc) (T : Txt K mg)
    (C_shown : Cal P w K mg base "_shown" P_shown 1 sp_shown) : FnOk P w K mg base CX0 2 f (PySem.W.fnX "__init__" "BadNumber.__init__" (defArgs sBadNumber___init__) (defBody sBadNumber___init__) (defScope sBadNumber___init__) [("__class__", cc)] dV kV doc pm an (.ref cda) ct) PBadNumber___init__ (spBadNumber C) := by
  obtain ⟨g_shown, gd_shown, G_shown, m_shown, k_shown, b_shown⟩ := C_shown.ex
  refine fn_super (N := NBadNumber___init__) lk EC.sup scBadNumber___init__ rfl rfl rfl rfl (fun vs H Q E h => ?_) (fun A outer s H vs Q E hr h => ?_)
  · obtain ⟨a, z, v, rfl, ha, hz, hv, k⟩ := h
    rfl
  · obtain ⟨a, z, v, rfl, ha, hz, hv, k⟩ := h
    refine ⟨_, _, (pa_cons (pe_joined (.cons pe_str (.cons (pe_fmt (pv 1)) (.cons pe_str (.cons (pe_fmt (pe_call G_shown (hr.mono (by decide)) (by rfl) m_shown k_shown b_shown .nil pass0 (pa_cons (pv 2) pa_nil))) .nil))))) pa_nil), (pss_cons (ps_ost (pv 0) (pv 1)) (pss_one (ps_ost (pv 0) (pv 2)))), ?_⟩
    have h1 : (Str.empty ++ ("bad number for " : Str)).length ≤ 15 := by decide +kernel
    have h2 : (Str.empty ++ ("bad number for " : Str) ++ z).length ≤ 1015 := by rw [PySem.Str.length_append]; omega
    have h3 : (Str.empty ++ ("bad number for " : Str) ++ z ++ (": " : Str)).length ≤ 1017 := by rw [PySem.Str.length_append]; rw [show (": " : Str).length = 2 by decide +kernel]; omega
    refine ⟨a, _, rfl, ha, ?_⟩
    refine ⟨_, rfl, Nat.le_trans h1 (by rw [sizeLine_eq]; decide), ?_⟩
    refine ⟨_, rfl, .inl ⟨z, rfl, Nat.le_trans hz (by rw [sizeLine_eq]; decide), z, rfl, Nat.le_trans h2 (by rw [sizeLine_eq]; decide), ?_⟩⟩
    refine ⟨_, rfl, Nat.le_trans h3 (by rw [sizeLine_eq]; decide), ?_⟩
    refine ⟨_, rfl, v, rfl, hv, fun y hy => .inl ⟨y, rfl, Nat.le_trans hy (by rw [sizeLine_eq]; decide), y, rfl, ?_, ?_⟩⟩
    · rw [PySem.Str.length_append, sizeLine_eq]
      omega
    refine ⟨(by show 1 ≤ 1000; decide), ha, ?_⟩
    refine ⟨_, rfl, _, rfl, a, C, rfl, EC.sup.oex, EC.noWhat, .inl ⟨ha, fun dx nd ne => ?_⟩⟩
    refine ⟨_, rfl, _, rfl, a, C, rfl, EC.sup.oex, EC.noValue, .inr ⟨dx, _, upd_same, (by rw [upd_ne ne]; exact upd_same), (by show 1 ≤ 900; decide), ?_⟩⟩
    exact init_leaves2 ha k nd ne
end
end Wb

namespace Wb
open PySem PySem.Spec PyProof.Rows L2 Wx NdefX RZ StX PyProof.Rows.FinIter
section
variable {P : Program} {w : World} {K : PySem.W.Frag} {mg : Str → Option Value} {base : Heap}

theorem take_snoc {α : Type} : ∀ {l : List α} {i : Nat} {x : α}, l[i]? = some x → l.take (i + 1) = l.take i ++ [x]
  | [], i, x, h => by simp at h
  | a :: l, 0, x, h => by
    have e : a = x := Option.some.inj h
    subst e
    rfl
  | a :: l, i + 1, x, h => by
    have ih := take_snoc (l := l) (i := i) (x := x) h
    show a :: l.take (i + 1) = a :: l.take i ++ [x]
    rw [ih]
    rfl
abbrev codes (z : Str) : List Nat := z.cps.toList
theorem codes_len (z : Str) : (codes z).length = z.length := Array.length_toList
theorem codes_app (x y : Str) : codes (x ++ y) = codes x ++ codes y := by
  show (x ++ y).cps.toList = _
  rw [PySem.Str.cps_append, Array.toList_append]
theorem bigN {n : Nat} (h : n ≤ 1000000) : n ≤ sizeLine := Nat.le_trans h (by rw [sizeLine_eq]; decide)
theorem lt1 {c d : Nat} : ([c] : List Nat) < [d] ↔ c < d := by
  rw [List.cons_lt_cons_iff]
  simp
theorem aS : ("a" : Str).cps.toList = [97] := by decide +kernel
theorem zS : ("z" : Str).cps.toList = [122] := by decide +kernel
def lowB (z : Str) : Bool := (codes z).all fun c => decide (97 ≤ c ∧ c ≤ 122)
def nameB : V → Bool
  | .str z => decide (1 ≤ z.length ∧ z.length ≤ 8) && lowB z
  | _ => false
def numB (v : V) (lo hi : Int) : Bool := match v with | .int i => decide (lo ≤ i ∧ i ≤ hi) | _ => false
/-- a value of one of the kinds that are asked -/
inductive OddV : V → Prop
  | str (z : Str) : z.length ≤ 1000 → (reprText z).length ≤ 20000 → OddV (.str z)
  | int (i : Int) : OddV (.int i)
  | non : OddV .non
  | bl (b : Bool) : OddV (.bl b)
theorem OddV.shows {x : V} (h : OddV x) : ShowOk x := by
  cases h with
  | str z h1 h2 => exact .inl ⟨z, rfl, h2⟩
  | int i => exact .inr (.inl ⟨i, rfl⟩)
  | non => exact .inr (.inr (.inl rfl))
  | bl b => exact .inr (.inr (.inr ⟨b, rfl⟩))
theorem OddV.self {x : V} (h : OddV x) : scal x x = true := by cases h <;> rfl
theorem OddV.text {x : V} (h : OddV x) (z : Str) : scal x (.str z) = true := by cases h <;> rfl
theorem OddV.tyOf {x : V} (h : OddV x) {K : PySem.W.Frag} {H : Hp} : ∃ T, TyOf K H x T ∧ True := by
  cases h with
  | str z h1 h2 => exact ⟨_, .str _, trivial⟩
  | int i => exact ⟨_, .int _, trivial⟩
  | non => exact ⟨_, .non, trivial⟩
  | bl b => exact ⟨_, .bl _, trivial⟩
def spis_name : Sp := fun vs H Q _ => ∃ x, vs = [x] ∧ OddV x ∧ ∀ H', Same H H' → Q (.bl (nameB x)) H'
def spcheck_name (C : Addr) : Sp := fun vs H Q E => ∃ x, vs = [x] ∧ OddV x ∧ (nameB x = true → ∀ H', Same H H' → Q x H') ∧
  (nameB x = false → ∀ (d : Addr) (H' : Hp), H d = none → Same H H' → H' d = some (.xd [("name", x)]) → E (.ref C) (some d) H')
def spcheck_number (C : Addr) : Sp := fun vs H Q E => ∃ (z : Str) (v : V) (lo hi : Int), vs = [.str z, v, .int lo, .int hi] ∧ z.length ≤ 1000 ∧ OddV v ∧ (numB v lo hi = true → Q v H) ∧
  (numB v lo hi = false → ∀ (d : Addr) (H' : Hp), H d = none → Same H H' → H' d = some (.xd [("value", v), ("what", .str z)]) → E (.ref C) (some d) H')
def sp_law_is_integer : Sp := fun vs H Q _ => ∃ i : Int, vs = [.int i] ∧ Q (.bl true) H
theorem look_val {v w : V} : ([("value", v), ("what", w)] : List (Str × V)).lookup ("value" : Str) = some v := by rw [lookup_put, if_pos rfl]
theorem look_what {v w : V} : ([("value", v), ("what", w)] : List (Str × V)).lookup ("what" : Str) = some w := by rw [lookup_put, if_neg (by decide +kernel), lookup_put, if_pos rfl]
theorem look_name {v : V} : ([("name", v)] : List (Str × V)).lookup ("name" : Str) = some v := by rw [lookup_put, if_pos rfl]
theorem ne_self {x : V} : ¬ (!decide (x = x)) = true := by rw [decide_eq_true rfl]; exact Bool.false_ne_true
theorem upd_upd {H : Hp} {a : Addr} {o o1 : HO} : upd (upd H a o) a o1 = upd H a o1 := by
  funext b
  by_cases h : b = a
  · rw [h, upd_same, upd_same]
  · rw [upd_ne h, upd_ne h, upd_ne h]
def TxtOk (n : Nat) (z : Str) : Prop := z.length ≤ n ∧ ∀ c, c ∈ codes z → c < 128
theorem TxtOk.repr {n : Nat} {z : Str} (h : TxtOk n z) (hn : n ≤ 1000) : (reprText z).length ≤ 20000 := by
  have := PySem.StrLaws.reprText_len z (fun c hc => Nat.lt_trans (h.2 c hc) (by decide))
  have := h.1
  omega
theorem TxtOk.mono {m n : Nat} {z : Str} (h : TxtOk m z) (hn : m ≤ n) : TxtOk n z := ⟨Nat.le_trans h.1 hn, h.2⟩
theorem TxtOk.app {m n : Nat} {x y : Str} (h1 : TxtOk m x) (h2 : TxtOk n y) : TxtOk (m + n) (x ++ y) := by
  refine ⟨by rw [PySem.Str.length_append]; have := h1.1; have := h2.1; omega, fun c hc => ?_⟩
  have e : codes (x ++ y) = codes x ++ codes y := by
    show (x ++ y).cps.toList = _
    rw [PySem.Str.cps_append, Array.toList_append]
  rw [e] at hc
  rcases List.mem_append.mp hc with q | q
  · exact h1.2 c q
  · exact h2.2 c q
theorem TxtOk.cut {n : Nat} {z : Str} {lo hi : Option Int} (h : TxtOk n z) : TxtOk n (cutS z lo hi) := by
  have e : codes (cutS z lo hi) = ((codes z).drop (HT.sIx z.length 0 lo)).take (HT.sIx z.length z.length hi - HT.sIx z.length 0 lo) := by
    unfold cutS codes
    simp
  refine ⟨?_, fun c hc => ?_⟩
  · rw [← codes_len, e, List.length_take, List.length_drop, codes_len]
    have := h.1
    omega
  · rw [e] at hc
    exact h.2 c (List.mem_of_mem_drop (List.mem_of_mem_take hc))
theorem TxtOk.one {c : Nat} (h : c < 128) : TxtOk 1 ⟨#[c]⟩ := ⟨Nat.le_refl _, fun d hd => by
  have : d = c := by simpa [codes] using hd
  omega⟩
theorem Str.odd {n : Nat} {z : Str} (h : TxtOk n z) (hn : n ≤ 1000) : OddV (.str z) := .str z (Nat.le_trans h.1 hn) (h.repr hn)
theorem scr_of {K : PySem.W.Frag} {H H' : Hp} {a s p : Addr} (h : Scr K H a s) (n : H p = none) (f : Frm [p, s] H H') (q : St4 H' s) : Scr K H' a s := by
  obtain ⟨⟨ns, h1, h2⟩, _⟩ := h
  refine ⟨⟨ns, Same.seq (fun b o e => ?_) h1, h2⟩, q⟩
  have nb : ¬ b ∈ [s] := fun y => by
    rw [show hid [s] H b = none from if_pos y] at e
    cases e
  rw [hid_eq nb] at e ⊢
  refine f b o (fun y => ?_) e
  rcases List.mem_cons.mp y with z | z
  · rw [z, n] at e
    cases e
  · exact nb z
theorem OddV.dp {x : V} (h : OddV x) (hs : ∀ z, x = .str z → PyData.strOk z = true) : ∃ d, (∀ K H, Dp K H x d) ∧ (∀ t : Str, PyData.strOk t = true → SeqAt.shaped (.tuple [.str t, d]) = true) := by
  cases h with
  | str z h1 h2 => exact ⟨_, fun _ _ => .str z, fun t ht => by simp [SeqAt.shaped, PyData.canLay0, PyData.canLayAll0, PyData.depth, PyData.depthAll, ht, hs z rfl]⟩
  | int i => exact ⟨_, fun _ _ => .int i, fun t ht => by simp [SeqAt.shaped, PyData.canLay0, PyData.canLayAll0, PyData.depth, PyData.depthAll, ht]⟩
  | non => exact ⟨_, fun _ _ => .non, fun t ht => by simp [SeqAt.shaped, PyData.canLay0, PyData.canLayAll0, PyData.depth, PyData.depthAll, ht]⟩
  | bl b => exact ⟨_, fun _ _ => .bl b, fun t ht => by simp [SeqAt.shaped, PyData.canLay0, PyData.canLayAll0, PyData.depth, PyData.depthAll, ht]⟩
theorem TxtOk.strOk {n : Nat} {z : Str} (h : TxtOk n z) : PyData.strOk z = true := by
  unfold PyData.strOk
  rw [Array.all_eq_true_iff_forall_mem]
  intro c hc
  exact decide_eq_true (Nat.lt_trans (h.2 c (by simpa [codes] using hc)) (by decide))
/-- the two told pairs are equal -/
theorem pair_eq {K : PySem.W.Frag} {H : Hp} {q r : Addr} {t : Str} {v : V} (ht : PyData.strOk t = true) (o : OddV v) (hs : ∀ z, v = .str z → PyData.strOk z = true) (h1 : H q = some (.tup [.str t, v])) (h2 : H r = some (.tup [.str t, v])) :
    ∃ d e, Dp K H (.ref q) d ∧ Dp K H (.ref r) e ∧ SeqAt.shaped d = true ∧ SeqAt.shaped e = true ∧ PyData.eqv d e = true := by
  obtain ⟨d, hd, sd⟩ := o.dp hs
  exact ⟨_, _, .tup (.inl (.inl h1)) (.cons (.str t) (.cons (hd K H) .nil)), .tup (.inl (.inl h2)) (.cons (.str t) (.cons (hd K H) .nil)), sd t ht, sd t ht, PySem.SeqAt.eqv_refl _ (PySem.SeqAt.canLay_of_shaped (sd t ht))⟩

/-- what is asked of a class with __init__ and __eq__ -/
structure DatC (K : PySem.W.Frag) (mg : Str → Option Value) (x : Str) (C fi fe : Addr) (fs : List Str) : Prop where
  g : mg x = some (.ref C)
  mkk : Mk K C fi
  cls : Cls K C
  no : ∀ f, f ∈ fs → NoAttr K C f
  eq : PySem.W.findIn K (.ref C) "__eq__" = some (some (.ref fe))
  fe : PySem.W.isFn K (.ref fe) = true
  ne : PySem.W.findIn K (.ref C) "__ne__" = some (some (.builtin "object.__ne__"))
  ob : PySem.W.subIn K (.ref C) (.type "object") = some true
  ha : PySem.W.findIn K (.ref C) "__class__" = some (some (.builtin "object.__class__"))
  hn : PySem.W.specialIn K (.builtin "object.__class__") "__get__" = some (some (.builtin "getset_descriptor.__get__"))
  htk : PySem.W.takesIn K (.builtin "object.__class__") = some true
  hm : PySem.W.mroIn K C (.type "object") = some true
  kit : PySem.W.kitOne K (.ref C) (.ref C) = some true
def splaw (K : PySem.W.Frag) : Sp := fun vs H Q _ => ∃ (a : Addr) (ns : List Int), vs = [.ref a] ∧ SqL K H a (ns.map V.int) ∧ ns.length ≤ 63 ∧ ∀ H', Q (.bl true) H'

theorem Same.seqT {K : PySem.W.Frag} {H H' : Hp} {a : Addr} {xs : List V} (e : Same H H') (h : SqT K H a xs) : SqT K H' a xs := by
  rcases h with h | h
  · exact .inl (h.imp (e a _) fun ⟨o, q⟩ => ⟨o, e a _ q⟩)
  · exact .inr h
def bad8 (x : V) : Bool := !numB x 0 8
theorem find_at {p : V → Bool} : ∀ {xs : List V} {i : Nat} {x : V}, xs[i]? = some x → (∀ y, y ∈ xs.take i → p y = false) → p x = true → xs.find? p = some x
  | [], i, x, h, _, _ => by simp at h
  | y :: ys, 0, x, h, _, q => by
    have e : y = x := Option.some.inj h
    subst e
    rw [List.find?_cons, q]
  | y :: ys, i + 1, x, h, k, q => by
    rw [List.find?_cons, k y (by rw [List.take_succ_cons]; exact List.mem_cons_self)]
    exact find_at (xs := ys) (i := i) h (fun z hz => k z (by rw [List.take_succ_cons]; exact List.mem_cons_of_mem _ hz)) q
theorem find_none {p : V → Bool} {xs : List V} (k : ∀ y, y ∈ xs → p y = false) : xs.find? p = none := List.find?_eq_none.mpr fun y hy => by rw [k y hy]; exact Bool.false_ne_true
def spcheck_units (K : PySem.W.Frag) (C : Addr) : Sp := fun vs H Q E => ∃ (z : Str) (a : Addr) (xs : List V), vs = [.str z, .ref a] ∧ z.length ≤ 1000 ∧ (SqL K H a xs ∨ SqT K H a xs) ∧ xs.length ≤ 1000 ∧ (∀ x, x ∈ xs → OddV x) ∧
  (xs.find? bad8 = none → ∀ (q : Addr) (H' : Hp), H q = none → H' q = some (.tup xs) → Same H H' → Q (.ref q) H') ∧
  (∀ x, xs.find? bad8 = some x → ∀ (d : Addr) (H' : Hp), H d = none → Same H H' → H' d = some (.xd [("value", x), ("what", .str z)]) → E (.ref C) (some d) H')

theorem okcheck_number {f : Addr} {fd : FuncData} (F : Fun K "check_number" "check_number" scheck_number f fd) (T : Txt K mg) {C_BadNumber f_BadNumber cda_BadNumber cc_BadNumber : Addr} {fd_BadNumber : FuncData} (E_BadNumber : ErrC P K mg "BadNumber" "BadNumber.__init__" C_BadNumber f_BadNumber cda_BadNumber cc_BadNumber) (G_BadNumber : FnOk P w K mg base CX0 2 f_BadNumber fd_BadNumber PBadNumber___init__ (spBadNumber C_BadNumber)) (b_BadNumber : Binds K fd_BadNumber PBadNumber___init__ []) : FnOk P w K mg base (L2.CX P w) 4 f fd Pcheck_number (spcheck_number C_BadNumber) := by
  refine F.okX sccheck_number (fun vs H Q E h => ?_) (fun cdv A outer s H vs Q E hr h => ?_)
  · obtain ⟨z, v, lo, hi, rfl, hz, hv, kT, kE⟩ := h
    rfl
  · obtain ⟨z, v, lo, hi, rfl, hz, hv, kT, kE⟩ := h
    refine ⟨_, (pss_cons (ps_if (PW.pt (pw_or (pt_val (pe_callB (id := "isinstance") call_isi (by rfl) T.b_isinstance (by decide +kernel) (pa_cons (pv 1) (pa_cons (pe_bltn (v := .ty "bool") (by rfl) T.b_bool (by decide +kernel) rfl) pa_nil)))) (pw_or1 (pt_not (pt_val (pe_callB (id := "isinstance") call_isi (by rfl) T.b_isinstance (by decide +kernel) (pa_cons (pv 1) (pa_cons (pe_bltn (v := .ty "int") (by rfl) T.b_int (by decide +kernel) rfl) pa_nil))))))))
  (pss_one (ps_raise rfl (takes_of rfl rfl rfl rfl) (pmk_oex E_BadNumber.sup.oex E_BadNumber.ini E_BadNumber.tyI G_BadNumber (hr.mono (by decide)) b_BadNumber .nil pass0 (by rfl) E_BadNumber.g (pa_cons (pv 0) (pa_cons (pv 1) pa_nil)))))
  pss_nil)
  (pss_cons (ps_if (PW.pt (pw_or (pt_cmpR op_lt (pv 1) (pv 2) (nomark _)) (pw_or1 (pt_cmpR op_gt (pv 1) (pv 3) (nomark _)))))
  (pss_one (ps_raise rfl (takes_of rfl rfl rfl rfl) (pmk_oex E_BadNumber.sup.oex E_BadNumber.ini E_BadNumber.tyI G_BadNumber (hr.mono (by decide)) b_BadNumber .nil pass0 (by rfl) E_BadNumber.g (pa_cons (pv 0) (pa_cons (pv 1) pa_nil)))))
  pss_nil)
  (pss_one (ps_ret (pv 1))))), ?_⟩
    have hv0 := hv
    cases hv with
    | int i =>
      refine ⟨_, rfl, _, _, _, _, false, rfl, .ty _, .base (.int _), kit_ty (by decide +kernel), false, rfl, iteF ?_⟩
      refine ⟨_, rfl, _, _, _, _, true, rfl, .ty _, .base (.int _), kit_ty (by decide +kernel), true, rfl, iteF ?_⟩
      refine ⟨_, rfl, _, rfl, _, _, rfl, rfl, _, rfl, ?_⟩
      refine ite2 (fun c1 => ?_) (fun c1 => ?_)
      · have c1 := of_decide_eq_true c1
        exact ⟨_, rfl, _, rfl, (by show 2 ≤ 1000; decide), fun a na => ⟨a, z, _, rfl, upd_same, hz, hv0.shows, made_of na fun d H' nd s' hd => kE (decide_eq_false (by omega)) d H' nd s' hd⟩⟩
      · have c1 : ¬ i < lo := fun q => c1 (decide_eq_true q)
        refine ⟨_, rfl, _, rfl, _, _, rfl, rfl, _, rfl, ?_⟩
        refine ite2 (fun c2 => ?_) (fun c2 => ?_)
        · have c2 := of_decide_eq_true c2
          exact ⟨_, rfl, _, rfl, (by show 2 ≤ 1000; decide), fun a na => ⟨a, z, _, rfl, upd_same, hz, hv0.shows, made_of na fun d H' nd s' hd => kE (decide_eq_false (by omega)) d H' nd s' hd⟩⟩
        · have c2 : ¬ hi < i := fun q => c2 (decide_eq_true q)
          exact ⟨_, rfl, kT (decide_eq_true (by omega))⟩
    | non =>
      refine ⟨_, rfl, _, _, _, _, false, rfl, .ty _, .base .non, kit_ty (by decide +kernel), false, rfl, iteF ?_⟩
      refine ⟨_, rfl, _, _, _, _, false, rfl, .ty _, .base .non, kit_ty (by decide +kernel), false, rfl, iteT ?_⟩
      exact ⟨_, rfl, _, rfl, (by show 2 ≤ 1000; decide), fun a na => ⟨a, z, _, rfl, upd_same, hz, hv0.shows, made_of na fun d H' nd s' hd => kE rfl d H' nd s' hd⟩⟩
    | bl b =>
      refine ⟨_, rfl, _, _, _, _, true, rfl, .ty _, .base (.bl _), kit_ty (by decide +kernel), true, rfl, iteT ?_⟩
      exact ⟨_, rfl, _, rfl, (by show 2 ≤ 1000; decide), fun a na => ⟨a, z, _, rfl, upd_same, hz, hv0.shows, made_of na fun d H' nd s' hd => kE rfl d H' nd s' hd⟩⟩
    | str y h1 h2 =>
      refine ⟨_, rfl, _, _, _, _, false, rfl, .ty _, .base (.str _), kit_ty (by decide +kernel), false, rfl, iteF ?_⟩
      refine ⟨_, rfl, _, _, _, _, false, rfl, .ty _, .base (.str _), kit_ty (by decide +kernel), false, rfl, iteT ?_⟩
      exact ⟨_, rfl, _, rfl, (by show 2 ≤ 1000; decide), fun a na => ⟨a, z, _, rfl, upd_same, hz, hv0.shows, made_of na fun d H' nd s' hd => kE rfl d H' nd s' hd⟩⟩

theorem okcheck_units {f : Addr} {fd : FuncData} (F : Fun K "check_units" "check_units" scheck_units f fd) (T : Txt K mg) {C_BadNumber : Addr} (C_xcheck_number : ∃ (g : Addr) (gd : FuncData), FnOk P w K mg base (L2.CX P w) 4 g gd Pcheck_number (spcheck_number C_BadNumber) ∧ mg "check_number" = some (.ref g) ∧ PySem.W.keepIn K (.ref g) = true ∧ Binds K gd Pcheck_number []) : FnOk P w K mg base (L2.CX P w) 5 f fd Pcheck_units (spcheck_units K C_BadNumber) := by
  obtain ⟨_, c_MOST_UNITS⟩ := T.c_MOST_UNITS
  obtain ⟨gcheck_number, gdcheck_number, Gcheck_number, mcheck_number, kcheck_number, bcheck_number⟩ := C_xcheck_number
  refine F.okX sccheck_units (fun vs H Q E h => ?_) (fun cdv A outer s H vs Q E hr h => ?_)
  · obtain ⟨z, a, xs, rfl, hz, hs, hl, ho, kT, kE⟩ := h
    rfl
  · obtain ⟨z, a, xs, rfl, hz, hs, hl, ho, kT, kE⟩ := h
    refine ⟨_, (pss_one (ps_ret (pe_callTy (T := "tuple") call_tuple_of (by rfl) T.b_tuple (by decide +kernel) (pa_cons (pe_lcX (own := [("value", 2)]) (fun σ => air_of (takes_of rfl rfl rfl rfl) rfl rfl) rfl sccheck_units.nd (pi_seq (pv 1)) (blkOk_by (own := [("value", 2)]) (N := Ncheck_units) (sc := defScope scheck_units) (by decide +kernel)) (fun _ _ _ _ _ => (pg_name (i := 2) sccheck_units.nd rfl (by first | exact Or.inl rfl | exact Or.inr rfl))) (fun _ _ _ _ _ => pts_nil) (fun _ _ _ _ _ _ _ air => (pe_callS Gcheck_number (hr.mono (by decide)) (by rfl) mcheck_number kcheck_number bcheck_number (fun σ => (air σ).pass) (pa_cons (pv 0) (pa_cons (pv 2) (pa_cons pe_int (pa_cons (pe_glob (v := .int 8) rfl c_MOST_UNITS ⟨_, rfl⟩) pa_nil))))))) pa_nil)))), ?_⟩
    refine ⟨_, rfl, a, xs, rfl, ?_⟩
    rcases hs with hs | hs
    · refine .inl ⟨hs, fun D hD => ?_⟩
      refine lc_it walk_list (fun i H1 => H1 D = some (.lst (xs.take i)) ∧ Same H H1 ∧ ∀ y, y ∈ xs.take i → bad8 y = false) ⟨upd_same, Same.new hD, fun y hy => by cases hy⟩ (fun i H1 _ q => Same.seq q.2.1 hs) ?_ ?_
      · rintro i x H1o H1 hi ⟨e1, s1, g1⟩ ⟨rfl, hx⟩
        refine ⟨rfl, ?_⟩
        refine ⟨_, rfl, _, rfl, z, x, 0, 8, rfl, hz, ho x (List.mem_of_getElem? hx), fun t => ?_, fun t d H' nd s' hd => ?_⟩
        · refine ⟨_, e1, small1000 (by rw [List.length_take]; omega), by rw [take_snoc hx]; exact upd_same, fun b o e => by rw [upd_ne (ne_of_none e hD)]; exact s1 _ _ e, fun y hy => ?_⟩
          rw [take_snoc hx] at hy
          rcases List.mem_append.mp hy with q | q
          · exact g1 y q
          · rw [List.mem_singleton.mp q]
            show (!numB x 0 8) = false
            rw [t]
            rfl
        · exact kE x (find_at hx g1 (by show (!numB x 0 8) = true; rw [t]; rfl)) d H' (s1.free nd) (s1.trans s') hd
      · rintro H1 ⟨e1, s1, g1⟩
        rw [List.take_length] at e1 g1
        refine ⟨D, _, rfl, .inl ⟨SqL.of e1, fun l hl => ?_⟩⟩
        exact kT (find_none g1) l _ (s1.free hl) upd_same (s1.trans (Same.new hl))
    · refine .inr ⟨hs, fun D hD => ?_⟩
      refine lc_it walk_tup (fun i H1 => H1 D = some (.lst (xs.take i)) ∧ Same H H1 ∧ ∀ y, y ∈ xs.take i → bad8 y = false) ⟨upd_same, Same.new hD, fun y hy => by cases hy⟩ (fun i H1 _ q => Same.seqT q.2.1 hs) ?_ ?_
      · rintro i x H1o H1 hi ⟨e1, s1, g1⟩ ⟨rfl, hx⟩
        refine ⟨rfl, ?_⟩
        refine ⟨_, rfl, _, rfl, z, x, 0, 8, rfl, hz, ho x (List.mem_of_getElem? hx), fun t => ?_, fun t d H' nd s' hd => ?_⟩
        · refine ⟨_, e1, small1000 (by rw [List.length_take]; omega), by rw [take_snoc hx]; exact upd_same, fun b o e => by rw [upd_ne (ne_of_none e hD)]; exact s1 _ _ e, fun y hy => ?_⟩
          rw [take_snoc hx] at hy
          rcases List.mem_append.mp hy with q | q
          · exact g1 y q
          · rw [List.mem_singleton.mp q]
            show (!numB x 0 8) = false
            rw [t]
            rfl
        · exact kE x (find_at hx g1 (by show (!numB x 0 8) = true; rw [t]; rfl)) d H' (s1.free nd) (s1.trans s') hd
      · rintro H1 ⟨e1, s1, g1⟩
        rw [List.take_length] at e1 g1
        refine ⟨D, _, rfl, .inl ⟨SqL.of e1, fun l hl => ?_⟩⟩
        exact kT (find_none g1) l _ (s1.free hl) upd_same (s1.trans (Same.new hl))
end
end Wb

namespace Wb
open PySem PySem.Spec PyProof.Rows L2 Wx NdefX RZ StX PyProof.Rows.FinIter
section
variable {P : Program} {w : World} {K : PySem.W.Frag} {mg : Str → Option Value} {base : Heap}

/-- all but p and dx is kept -/
def Fr2 (p dx : Addr) (H H' : Hp) : Prop := ∀ b o, b ≠ p → b ≠ dx → H b = some o → H' b = some o
theorem Fr2.same {p dx : Addr} {H H' : Hp} {o1 o2 : HO} (np : H p = none) (nd : H dx = none) (fr : Fr2 p dx (upd (upd H dx o1) p o2) H') : Same H H' := fun b o e => by
  have b1 := ne_of_none e np
  have b2 := ne_of_none e nd
  exact fr b o b1 b2 (by rw [upd_ne b1, upd_ne b2]; exact e)
theorem find_ints {ls : List Int} (h : ∀ x, x ∈ ls → 0 ≤ x ∧ x ≤ 8) : (ls.map V.int).find? bad8 = none := find_none fun y hy => by
  obtain ⟨x, hx, rfl⟩ := List.mem_map.mp hy
  show (!decide (0 ≤ x ∧ x ≤ 8)) = false
  rw [decide_eq_true (h x hx)]
  rfl
theorem odd_ints {ls : List Int} : ∀ x, x ∈ ls.map V.int → OddV x := fun x hx => by
  obtain ⟨i, _, rfl⟩ := List.mem_map.mp hx
  exact .int i
def leL : List Int → List Int → Bool
  | [], [] => true
  | a :: l, b :: m => decide (a ≤ b) && leL l m
  | _, _ => false
theorem leL_len : ∀ {l m : List Int}, l.length ≠ m.length → leL l m = false
  | [], [], h => absurd rfl h
  | [], _ :: _, _ => rfl
  | _ :: _, [], _ => rfl
  | a :: l, b :: m, h => by
    show (_ && leL l m) = false
    rw [leL_len (l := l) (m := m) (fun e => h (by simp [e])), Bool.and_false]
/-- the answers of the pairs, in order -/
def leBs : List Int → List Int → List Bool
  | a :: l, b :: m => decide (a ≤ b) :: leBs l m
  | _, _ => []
theorem leBs_all : ∀ {l m : List Int}, l.length = m.length → (leBs l m).all id = leL l m
  | [], [], _ => rfl
  | a :: l, b :: m, h => by
    show (decide (a ≤ b) && (leBs l m).all id) = (decide (a ≤ b) && leL l m)
    rw [leBs_all (l := l) (m := m) (by simpa using h)]
theorem leBs_len : ∀ {l m : List Int}, l.length = m.length → (leBs l m).length = l.length
  | [], [], _ => rfl
  | a :: l, b :: m, h => by
    show (leBs l m).length + 1 = l.length + 1
    rw [leBs_len (l := l) (m := m) (by simpa using h)]
theorem leBs_at : ∀ {l m : List Int} {i : Nat} {a b : Int}, l[i]? = some a → m[i]? = some b → (leBs l m)[i]? = some (decide (a ≤ b))
  | [], _, i, a, b, h, _ => by simp at h
  | _ :: _, [], i, a, b, _, h => by simp at h
  | x :: l, y :: m, 0, a, b, h1, h2 => by
    have e1 : x = a := Option.some.inj h1
    have e2 : y = b := Option.some.inj h2
    subst e1 e2
    rfl
  | x :: l, y :: m, i + 1, a, b, h1, h2 => leBs_at (l := l) (m := m) (i := i) h1 h2
theorem int_at {l : List Int} {i : Nat} {x : V} (h : (l.map V.int)[i]? = some x) : ∃ a, l[i]? = some a ∧ x = .int a := by
  rw [List.getElem?_map] at h
  cases q : l[i]? with
  | none => rw [q] at h; cases h
  | some a =>
    rw [q] at h
    exact ⟨a, rfl, (Option.some.inj h).symm⟩

theorem seqT_ins {K : PySem.W.Frag} {H : Hp} {p C dx a : Addr} {fs : List (Str × V)} {o2 : HO} {xs : List V} (h : H p = some (.ins C dx fs)) (q : SqT K H a xs) : SqT K (upd H p o2) a xs := by
  rcases q with q | q
  · refine .inl (q.imp (fun e => ?_) fun ⟨o, e⟩ => ⟨o, ?_⟩)
    · rw [upd_ne (fun z => by rw [z, h] at e; cases e)]; exact e
    · rw [upd_ne (fun z => by rw [z, h] at e; cases e)]; exact e
  · exact .inr q
theorem seqL_ins {K : PySem.W.Frag} {H : Hp} {p C dx a : Addr} {fs : List (Str × V)} {o2 : HO} {xs : List V} (h : H p = some (.ins C dx fs)) (q : SqL K H a xs) : SqL K (upd H p o2) a xs := by
  rcases q with q | q
  · refine .inl (q.imp (fun e => ?_) fun ⟨o, e⟩ => ⟨o, ?_⟩)
    · rw [upd_ne (fun z => by rw [z, h] at e; cases e)]; exact e
    · rw [upd_ne (fun z => by rw [z, h] at e; cases e)]; exact e
  · exact .inr q
/-- a list or a tuple -/
def SqA (K : PySem.W.Frag) (H : Hp) (a : Addr) (xs : List V) : Prop := SqL K H a xs ∨ SqT K H a xs
theorem SqA.same {K : PySem.W.Frag} {H H' : Hp} {a : Addr} {xs : List V} (s : Same H H') (h : SqA K H a xs) : SqA K H' a xs := Or.imp (Same.seq s) (Same.seqT s) h
theorem SqA.ins {K : PySem.W.Frag} {H : Hp} {p C dx a : Addr} {fs : List (Str × V)} {o2 : HO} {xs : List V} (h : H p = some (.ins C dx fs)) (q : SqA K H a xs) : SqA K (upd H p o2) a xs := Or.imp (seqL_ins h) (seqT_ins h) q
/-- the first wrong part of a day -/
def dayRef (xs ys : List V) (f m : V) : Option (Str × V) :=
  if numB (.int xs.length) 1 4 = true then
    match xs.find? bad8 with
    | some x => some ("dry", x)
    | none => if ys.length = xs.length then
        match ys.find? bad8 with
        | some y => some ("rain", y)
        | none => if numB f 0 8 = true then if numB m 0 3 = true then none else some ("mood", m) else some ("fill", f)
      else some ("plots", .int ys.length)
  else some ("plots", .int xs.length)
section
variable {xs ys : List V} {f m x y : V}
theorem dR_p1 (h : numB (.int xs.length) 1 4 = false) : dayRef xs ys f m = some (("plots" : Str), .int xs.length) := by
  unfold dayRef; rw [if_neg (by rw [h]; exact Bool.false_ne_true)]
theorem dR_dry (h : numB (.int xs.length) 1 4 = true) (h1 : xs.find? bad8 = some x) : dayRef xs ys f m = some (("dry" : Str), x) := by
  unfold dayRef; rw [if_pos h, h1]
theorem dR_p2 (h : numB (.int xs.length) 1 4 = true) (h1 : xs.find? bad8 = none) (h2 : ¬ ys.length = xs.length) : dayRef xs ys f m = some (("plots" : Str), .int ys.length) := by
  unfold dayRef; rw [if_pos h, h1]; show (if ys.length = xs.length then _ else _) = _; rw [if_neg h2]
theorem dR_rain (h : numB (.int xs.length) 1 4 = true) (h1 : xs.find? bad8 = none) (h2 : ys.length = xs.length) (h3 : ys.find? bad8 = some y) : dayRef xs ys f m = some (("rain" : Str), y) := by
  unfold dayRef; rw [if_pos h, h1]; show (if ys.length = xs.length then _ else _) = _; rw [if_pos h2, h3]
theorem dR_rest (h : numB (.int xs.length) 1 4 = true) (h1 : xs.find? bad8 = none) (h2 : ys.length = xs.length) (h3 : ys.find? bad8 = none) : dayRef xs ys f m = if numB f 0 8 = true then if numB m 0 3 = true then none else some (("mood" : Str), m) else some (("fill" : Str), f) := by
  unfold dayRef; rw [if_pos h, h1]; show (if ys.length = xs.length then _ else _) = _; rw [if_pos h2, h3]
theorem dR_fill (h : numB (.int xs.length) 1 4 = true) (h1 : xs.find? bad8 = none) (h2 : ys.length = xs.length) (h3 : ys.find? bad8 = none) (h4 : numB f 0 8 = false) : dayRef xs ys f m = some (("fill" : Str), f) := by
  rw [dR_rest h h1 h2 h3, if_neg (by rw [h4]; exact Bool.false_ne_true)]
theorem dR_mood (h : numB (.int xs.length) 1 4 = true) (h1 : xs.find? bad8 = none) (h2 : ys.length = xs.length) (h3 : ys.find? bad8 = none) (h4 : numB f 0 8 = true) (h5 : numB m 0 3 = false) : dayRef xs ys f m = some (("mood" : Str), m) := by
  rw [dR_rest h h1 h2 h3, if_pos h4, if_neg (by rw [h5]; exact Bool.false_ne_true)]
theorem dR_ok (h : numB (.int xs.length) 1 4 = true) (h1 : xs.find? bad8 = none) (h2 : ys.length = xs.length) (h3 : ys.find? bad8 = none) (h4 : numB f 0 8 = true) (h5 : numB m 0 3 = true) : dayRef xs ys f m = none := by
  rw [dR_rest h h1 h2 h3, if_pos h4, if_pos h5]
end
def spDay_init (K : PySem.W.Frag) (C CM : Addr) : Sp := fun vs H Q E => ∃ (p dx a b : Addr) (xs ys : List V) (f m : V), vs = [.ref p, .ref a, .ref b, f, m] ∧ H p = some (.ins C dx []) ∧ SqA K H a xs ∧ SqA K H b ys ∧ xs.length ≤ 1000 ∧ ys.length ≤ 1000 ∧ (∀ x, x ∈ xs → OddV x) ∧ (∀ y, y ∈ ys → OddV y) ∧ OddV f ∧ OddV m ∧
  (dayRef xs ys f m = none → ∀ (q r : Addr) (H' : Hp), Fr2 p dx H H' → H q = none → H r = none → H' q = some (.tup xs) → H' r = some (.tup ys) → H' p = some (.ins C dx [("dry", .ref q), ("rain", .ref r), ("fill", f), ("mood", m)]) → Q .non H') ∧
  (∀ tag v, dayRef xs ys f m = some (tag, v) → ∀ (d : Addr) (H' : Hp), H d = none → Fr2 p dx H H' → H' d = some (.xd [("value", v), ("what", .str tag)]) → E (.ref CM) (some d) H')
/-- a day at p -/
def DayAt (C : Addr) (H : Hp) (p : Addr) (ds rs : List Int) (f m : Int) : Prop := ∃ dx q r, H p = some (.ins C dx [("dry", .ref q), ("rain", .ref r), ("fill", .int f), ("mood", .int m)]) ∧ H q = some (.tup (ds.map V.int)) ∧ H r = some (.tup (rs.map V.int))
theorem DayAt.same {C : Addr} {H H' : Hp} {p : Addr} {ds rs : List Int} {f m : Int} (x : DayAt C H p ds rs f m) (s : Same H H') : DayAt C H' p ds rs f m := by
  obtain ⟨dx, q, r, e1, e2, e3⟩ := x
  exact ⟨dx, q, r, s _ _ e1, s _ _ e2, s _ _ e3⟩
theorem DayAt.frm {C s0 : Addr} {H H' : Hp} {p : Addr} {ds rs : List Int} {f m : Int} (x : DayAt C H p ds rs f m) (ns : ∀ u, H s0 = some u → ∃ xs, u = .lst xs) (fr : Frm [s0] H H') : DayAt C H' p ds rs f m := by
  obtain ⟨dx, q, r, e1, e2, e3⟩ := x
  have go : ∀ {b : Addr} {o : HO}, H b = some o → (∀ xs, o ≠ .lst xs) → H' b = some o := fun {b o} e h => fr _ _ (fun y => by
    have y : b = s0 := by simpa using y
    rw [y] at e
    obtain ⟨xs, z⟩ := ns _ e
    exact h xs z) e
  exact ⟨dx, q, r, go e1 (fun xs => by intro z; cases z), go e2 (fun xs => by intro z; cases z), go e3 (fun xs => by intro z; cases z)⟩
/-- the numbers of a day are in their bounds -/
def VDay (ds rs : List Int) (f m : Int) : Prop := 1 ≤ ds.length ∧ ds.length ≤ 4 ∧ rs.length = ds.length ∧ (∀ x, x ∈ ds → 0 ≤ x ∧ x ≤ 8) ∧ (∀ x, x ∈ rs → 0 ≤ x ∧ x ≤ 8) ∧ 0 ≤ f ∧ f ≤ 8 ∧ 0 ≤ m ∧ m ≤ 3
theorem VDay.n14 {ds rs : List Int} {f m : Int} (h : VDay ds rs f m) : numB (.int (ds.map V.int).length) 1 4 = true := by
  show decide _ = true
  rw [List.length_map]
  have := h.1
  have := h.2.1
  exact decide_eq_true (by omega)
theorem VDay.ref {ds rs : List Int} {f m : Int} (h : VDay ds rs f m) : dayRef (ds.map V.int) (rs.map V.int) (.int f) (.int m) = none := by
  have h0 := h.n14
  obtain ⟨h1, h2, h3, h4, h5, h6, h7, h8, h9⟩ := h
  exact dR_ok h0 (find_ints h4) (by rw [List.length_map, List.length_map]; exact h3) (find_ints h5) (decide_eq_true ⟨h6, h7⟩) (decide_eq_true ⟨h8, h9⟩)
theorem day_make {K : PySem.W.Frag} {C CM : Addr} {H : Hp} {ds rs : List Int} {f m : Int} {a b : Addr} {R : Hp → Prop} {E : XK} (hv : VDay ds rs f m) (ha : SqA K H a (ds.map V.int)) (hb : SqA K H b (rs.map V.int))
    {x dx : Addr} (nx : H x = none) (nd : H dx = none) (k : ∀ H', Same H H' → DayAt C H' x ds rs f m → R H') : spDay_init K C CM [.ref x, .ref a, .ref b, .int f, .int m] (upd (upd H dx (.own x)) x (.ins C dx [])) (fun v H2 => v = .non ∧ R H2) E := by
  have sm : Same H (upd (upd H dx (.own x)) x (.ins C dx [])) := fun b o e => by rw [upd_ne (ne_of_none e nx), upd_ne (ne_of_none e nd)]; exact e
  refine ⟨x, dx, a, b, _, _, _, _, rfl, upd_same, ha.same sm, hb.same sm, by rw [List.length_map]; have := hv.2.1; omega, by rw [List.length_map]; have := hv.2.1; have := hv.2.2.1; omega, odd_ints, odd_ints, .int _, .int _, fun _ q r H' fr nq nr eq er ep => ⟨rfl, k H' (fr.same nx nd) ⟨dx, q, r, ep, eq, er⟩⟩, fun tag v e => ?_⟩
  rw [hv.ref] at e
  cases e
def eqDy (d1 r1 : List Int) (f1 m1 : Int) (d2 r2 : List Int) (f2 m2 : Int) : Bool := decide (d1 = d2 ∧ r1 = r2 ∧ f1 = f2 ∧ m1 = m2)
theorem eqDy_self (d r : List Int) (f m : Int) : eqDy d r f m d r f m = true := decide_eq_true ⟨rfl, rfl, rfl, rfl⟩
def spDay_eq (C : Addr) : Sp := fun vs H Q _ => ∃ (p q : Addr) (d1 r1 d2 r2 : List Int) (f1 m1 f2 m2 : Int), vs = [.ref p, .ref q] ∧ DayAt C H p d1 r1 f1 m1 ∧ DayAt C H q d2 r2 f2 m2 ∧ Q (.bl (eqDy d1 r1 f1 m1 d2 r2 f2 m2)) H
/-- the first day is at least as harsh -/
def leDy (d1 r1 : List Int) (f1 m1 : Int) (d2 r2 : List Int) (f2 m2 : Int) : Bool := decide (d1.length = d2.length) && (decide (m1 = m2) && (decide (f1 ≤ f2) && (leL d2 d1 && leL r1 r2)))
def spDay_le (C : Addr) : Sp := fun vs H Q _ => ∃ (p q : Addr) (d1 r1 d2 r2 : List Int) (f1 m1 f2 m2 : Int), vs = [.ref p, .ref q] ∧ DayAt C H p d1 r1 f1 m1 ∧ DayAt C H q d2 r2 f2 m2 ∧ VDay d1 r1 f1 m1 ∧ VDay d2 r2 f2 m2 ∧ ∀ H', Same H H' → Q (.bl (leDy d1 r1 f1 m1 d2 r2 f2 m2)) H'
def moreR (u : Int) (rs : List Int) : List Int := rs.map fun r => if r + u < 8 then r + u else 8
theorem moreR_vday {ds rs : List Int} {f m u : Int} (h : VDay ds rs f m) (hu : 0 ≤ u) : VDay ds (moreR u rs) f m := by
  obtain ⟨h1, h2, h3, h4, h5, h6⟩ := h
  refine ⟨h1, h2, by unfold moreR; rw [List.length_map]; exact h3, h4, fun x hx => ?_, h6⟩
  obtain ⟨r, hr, rfl⟩ := List.mem_map.mp hx
  have := h5 r hr
  show 0 ≤ (if r + u < 8 then r + u else 8) ∧ (if r + u < 8 then r + u else 8) ≤ 8
  split <;> omega
def spDay_add (C CM : Addr) : Sp := fun vs H Q E => ∃ (p : Addr) (ds rs : List Int) (f m u : Int), vs = [.ref p, .int u] ∧ DayAt C H p ds rs f m ∧ VDay ds rs f m ∧
  (0 ≤ u → u ≤ 8 → ∀ (x : Addr) (H' : Hp), Same H H' → DayAt C H' x ds (moreR u rs) f m → Q (.ref x) H') ∧
  (¬ (0 ≤ u ∧ u ≤ 8) → ∀ (d : Addr) (H' : Hp), H d = none → Same H H' → H' d = some (.xd [("value", .int u), ("what", .str "units")]) → E (.ref CM) (some d) H')
def splesser : Sp := fun vs H Q _ => ∃ (i j : Int), vs = [.int i, .int j] ∧ Q (.int (if i < j then i else j)) H

theorem okDay___init__ {f : Addr} {fd : FuncData} (F : Fun K "__init__" "Day.__init__" sDay___init__ f fd) (T : Txt K mg) {C_BadNumber C_Day fi fe : Addr} (D_Day : DatC K mg "Day" C_Day fi fe ["dry", "rain", "fill", "mood"]) (C_xcheck_number : ∃ (g : Addr) (gd : FuncData), FnOk P w K mg base (L2.CX P w) 4 g gd Pcheck_number (spcheck_number C_BadNumber) ∧ mg "check_number" = some (.ref g) ∧ PySem.W.keepIn K (.ref g) = true ∧ Binds K gd Pcheck_number []) (C_xcheck_units : ∃ (g : Addr) (gd : FuncData), FnOk P w K mg base (L2.CX P w) 5 g gd Pcheck_units (spcheck_units K C_BadNumber) ∧ mg "check_units" = some (.ref g) ∧ PySem.W.keepIn K (.ref g) = true ∧ Binds K gd Pcheck_units []) : FnOk P w K mg base (L2.CX P w) 6 f fd PDay___init__ (spDay_init K C_Day C_BadNumber) := by
  obtain ⟨_, c_MOST_MOODS⟩ := T.c_MOST_MOODS
  obtain ⟨_, c_MOST_PLOTS⟩ := T.c_MOST_PLOTS
  obtain ⟨_, c_MOST_UNITS⟩ := T.c_MOST_UNITS
  obtain ⟨gcheck_number, gdcheck_number, Gcheck_number, mcheck_number, kcheck_number, bcheck_number⟩ := C_xcheck_number
  obtain ⟨gcheck_units, gdcheck_units, Gcheck_units, mcheck_units, kcheck_units, bcheck_units⟩ := C_xcheck_units
  refine F.okX scDay___init__ (fun vs H Q E h => ?_) (fun cdv A outer s H vs Q E hr h => ?_)
  · obtain ⟨p, dx, a, b, xs, ys, f, m, rfl, hp, ha, hb, hlx, hly, hox, hoy, hf, hm, kOk, kE⟩ := h
    rfl
  · obtain ⟨p, dx, a, b, xs, ys, f, m, rfl, hp, ha, hb, hlx, hly, hox, hoy, hf, hm, kOk, kE⟩ := h
    refine ⟨_, (pss_cons (ps_set (i := 5) scDay___init__.nd rfl (by first | exact Or.inl rfl | exact Or.inr rfl) (pe_callS Gcheck_number (hr.mono (by decide)) (by rfl) mcheck_number kcheck_number bcheck_number (fun σ => passAt (takes_of rfl rfl rfl rfl) σ) (pa_cons pe_str (pa_cons (pe_callB call_len_seq (by rfl) T.b_len PySem.boot_len (pa_cons (pv 1) pa_nil)) (pa_cons pe_int (pa_cons (pe_glob (v := .int 4) rfl c_MOST_PLOTS ⟨_, rfl⟩) pa_nil))))))
  (pss_cons (ps_fld (pv 0) (pe_callS Gcheck_units (hr.mono (by decide)) (by rfl) mcheck_units kcheck_units bcheck_units (fun σ => passAt (takes_of rfl rfl rfl rfl) σ) (pa_cons pe_str (pa_cons (pv 1) pa_nil))) rfl)
  (pss_cons (ps_expr (pe_callS Gcheck_number (hr.mono (by decide)) (by rfl) mcheck_number kcheck_number bcheck_number (fun σ => passAt (takes_of rfl rfl rfl rfl) σ) (pa_cons pe_str (pa_cons (pe_callB call_len_seq (by rfl) T.b_len PySem.boot_len (pa_cons (pv 2) pa_nil)) (pa_cons (pv 5) (pa_cons (pv 5) pa_nil))))))
  (pss_cons (ps_fld (pv 0) (pe_callS Gcheck_units (hr.mono (by decide)) (by rfl) mcheck_units kcheck_units bcheck_units (fun σ => passAt (takes_of rfl rfl rfl rfl) σ) (pa_cons pe_str (pa_cons (pv 2) pa_nil))) rfl)
  (pss_cons (ps_fld (pv 0) (pe_callS Gcheck_number (hr.mono (by decide)) (by rfl) mcheck_number kcheck_number bcheck_number (fun σ => passAt (takes_of rfl rfl rfl rfl) σ) (pa_cons pe_str (pa_cons (pv 3) (pa_cons pe_int (pa_cons (pe_glob (v := .int 8) rfl c_MOST_UNITS ⟨_, rfl⟩) pa_nil))))) rfl)
  (pss_one (ps_fld (pv 0) (pe_callS Gcheck_number (hr.mono (by decide)) (by rfl) mcheck_number kcheck_number bcheck_number (fun σ => passAt (takes_of rfl rfl rfl rfl) σ) (pa_cons pe_str (pa_cons (pv 4) (pa_cons pe_int (pa_cons (pe_op op_sub (pe_glob (v := .int 4) rfl c_MOST_MOODS ⟨_, rfl⟩) pe_int) pa_nil))))) rfl))))))), ?_⟩
    have frs : ∀ {H1 : Hp}, Same H H1 → Fr2 p dx H H1 := fun s1 b o _ _ e => s1 b o e
    refine ⟨_, rfl, a, _, rfl, ha, "plots", .int xs.length, 1, 4, rfl, (by decide +kernel), .int _, fun t0 => ?_, fun t0 d H1 nd s1 hd => ?_⟩
    case refine_2 =>
      exact kE "plots" _ (dR_p1 t0) d H1 nd (frs s1) hd
    refine ⟨_, rfl, "dry", a, xs, rfl, (by decide +kernel), ha, hlx, hox, fun t1 q H1 nq eq s1 => ?_, fun x t1 d H1 nd s1 hd => ?_⟩
    case refine_2 =>
      exact kE "dry" x (dR_dry t0 t1) d H1 nd (frs s1) hd
    have p1 := s1 _ _ hp
    have npq : q ≠ p := fun y => by rw [y, hp] at nq; cases nq
    refine ⟨_, rfl, p, C_Day, dx, [], rfl, p1, D_Day.cls, D_Day.no "dry" (by decide), (by decide), ?_⟩
    have free : ∀ {o : HO} {d : Addr}, upd H1 p o d = none → H d = none := fun {o d} e => by
      have ne : d ≠ p := fun q => by rw [q, upd_same] at e; cases e
      rw [upd_ne ne] at e
      exact s1.free e
    have fr1 : ∀ {o : HO} {H2 : Hp}, Same (upd H1 p o) H2 → Fr2 p dx H H2 := fun s2 b o nb _ e => s2 b o (by rw [upd_ne nb]; exact s1 b o e)
    have hb1 : ∀ {o : HO}, SqA K (upd H1 p o) b ys := fun {o} => (hb.same s1).ins p1
    refine ⟨_, rfl, b, _, rfl, hb1, _, rfl, _, rfl, "plots", .int ys.length, _, _, rfl, (by decide +kernel), .int _, fun t2 => ?_, fun t2 d H2 nd s2 hd => ?_⟩
    case refine_2 =>
      have t2 : ¬ ys.length = xs.length := fun z => by
        rw [z] at t2
        have : decide ((xs.length : Int) ≤ xs.length ∧ (xs.length : Int) ≤ xs.length) = false := t2
        simp at this
      exact kE "plots" _ (dR_p2 t0 t1 t2) d H2 (free nd) (fr1 s2) hd
    have t2 : ys.length = xs.length := by
      have : decide ((xs.length : Int) ≤ ys.length ∧ (ys.length : Int) ≤ xs.length) = true := t2
      have := of_decide_eq_true this
      omega
    refine ⟨_, rfl, "rain", b, ys, rfl, (by decide +kernel), hb1, hly, hoy, fun t3 r H2 nr er s2 => ?_, fun x t3 d H2 nd s2 hd => ?_⟩
    case refine_2 =>
      exact kE "rain" x (dR_rain t0 t1 t2 t3) d H2 (free nd) (fr1 s2) hd
    have p2 := s2 _ _ upd_same
    refine ⟨_, rfl, p, C_Day, dx, _, rfl, p2, D_Day.cls, D_Day.no "rain" (by decide), (by show 1 < 1000; decide), ?_⟩
    have free2 : ∀ {o : HO} {d : Addr}, upd H2 p o d = none → H d = none := fun {o d} e => by
      have ne : d ≠ p := fun q => by rw [q, upd_same] at e; cases e
      rw [upd_ne ne] at e
      exact free (s2.free e)
    have fr2 : ∀ {o : HO} {H3 : Hp}, Same (upd H2 p o) H3 → Fr2 p dx H H3 := fun s3 b o nb _ e => s3 b o (by rw [upd_ne nb]; exact s2 _ _ (by rw [upd_ne nb]; exact s1 b o e))
    refine ⟨_, rfl, "fill", f, 0, 8, rfl, (by decide +kernel), hf, fun t4 => ?_, fun t4 d H3 nd s3 hd => ?_⟩
    case refine_2 =>
      exact kE "fill" f (dR_fill t0 t1 t2 t3 t4) d H3 (free2 nd) (fr2 s3) hd
    refine ⟨_, rfl, p, C_Day, dx, _, rfl, upd_same, D_Day.cls, D_Day.no "fill" (by decide), (by show 2 < 1000; decide), ?_⟩
    rw [upd_upd]
    refine ⟨_, rfl, _, _, rfl, rfl, "mood", m, 0, 3, rfl, (by decide +kernel), hm, fun t5 => ?_, fun t5 d H3 nd s3 hd => ?_⟩
    case refine_2 =>
      exact kE "mood" m (dR_mood t0 t1 t2 t3 t4 t5) d H3 (free2 nd) (fr2 s3) hd
    refine ⟨_, rfl, p, C_Day, dx, _, rfl, upd_same, D_Day.cls, D_Day.no "mood" (by decide), (by show 3 < 1000; decide), ?_⟩
    rw [upd_upd]
    have nr0 := free nr
    have nrp : r ≠ p := fun y => by rw [y, hp] at nr0; cases nr0
    refine kOk (dR_ok t0 t1 t2 t3 t4 t5) q r _ (fun b o nb _ e => by rw [upd_ne nb]; exact s2 _ _ (by rw [upd_ne nb]; exact s1 b o e)) nq nr0 (by rw [upd_ne npq]; exact s2 _ _ (by rw [upd_ne npq]; exact eq)) (by rw [upd_ne nrp]; exact er) upd_same

theorem okDay___eq__ {f : Addr} {fd : FuncData} (F : Fun K "__eq__" "Day.__eq__" sDay___eq__ f fd) (T : Txt K mg) {C_BadNumber C_Day fi fe : Addr} (D_Day : DatC K mg "Day" C_Day fi fe ["dry", "rain", "fill", "mood"]) : FnOk P w K mg base CX0 1 f fd PDay___eq__ (spDay_eq C_Day) := by
  refine F.ok scDay___eq__ (fun vs H Q E h => ?_) (fun cdv A outer s H vs Q E hr h => ?_)
  · obtain ⟨p, q, d1, r1, d2, r2, f1, m1, f2, m2, rfl, hp, hq, k⟩ := h
    rfl
  · obtain ⟨p, q, d1, r1, d2, r2, f1, m1, f2, m2, rfl, hp, hq, k⟩ := h
    refine ⟨_, (pss_one (ps_ret (pe_and (pe_callB (id := "isinstance") call_isi (by rfl) T.b_isinstance (by decide +kernel) (pa_cons (pv 1) (pa_cons (pe_glob (v := .ref C_Day) rfl D_Day.g rfl) pa_nil))) (pe_and (pe_cmpR (op_eqD hr.units) (pe_fld (pv 0) rfl) (pe_fld (pv 1) rfl) (nomark _)) (pe_and (pe_cmpR (op_eqD hr.units) (pe_fld (pv 0) rfl) (pe_fld (pv 1) rfl) (nomark _)) (pe_and (pe_cmpR op_eq (pe_fld (pv 0) rfl) (pe_fld (pv 1) rfl) (nomark _)) (pe_one (pe_cmpR op_eq (pe_fld (pv 0) rfl) (pe_fld (pv 1) rfl) (nomark _))))))))), ?_⟩
    obtain ⟨dx, qx, rx, e1, x1, y1⟩ := hp
    obtain ⟨dy, qy, ry, e2, x2, y2⟩ := hq
    refine ⟨_, rfl, _, _, _, _, true, rfl, .own _, .base (.ins e2 D_Day.cls D_Day.ha D_Day.hn D_Day.htk D_Day.hm), D_Day.kit, true, rfl, iteT ?_⟩
    have no := fun f (h : f ∈ (["dry", "rain", "fill", "mood"] : List Str)) => D_Day.no f h
    have fin : ∀ b : Bool, b = eqDy d1 r1 f1 m1 d2 r2 f2 m2 → Q (.bl b) H := fun b e => by rw [e]; exact k
    refine ⟨_, rfl, p, C_Day, dx, _, _, rfl, e1, D_Day.cls, no _ (by decide), rfl, _, rfl, q, C_Day, dy, _, _, rfl, e2, D_Day.cls, no _ (by decide), rfl, _, _, dp_intsT (SqT.of x1), dp_intsT (SqT.of x2), shaped_intsT _, shaped_intsT _, _, rfl, ?_⟩
    rw [eqv_intsT]
    refine ite2 (fun c1 => ?_) (fun c1 => fin _ (by unfold eqDy; rw [decide_eq_false (p := d1 = d2 ∧ _) (fun q => c1 (decide_eq_true q.1))]))
    have c1 : d1 = d2 := of_decide_eq_true c1
    refine ⟨_, rfl, p, C_Day, dx, _, _, rfl, e1, D_Day.cls, no _ (by decide), rfl, _, rfl, q, C_Day, dy, _, _, rfl, e2, D_Day.cls, no _ (by decide), rfl, _, _, dp_intsT (SqT.of y1), dp_intsT (SqT.of y2), shaped_intsT _, shaped_intsT _, _, rfl, ?_⟩
    rw [eqv_intsT]
    refine ite2 (fun c2 => ?_) (fun c2 => fin _ (by unfold eqDy; rw [decide_eq_false (p := d1 = d2 ∧ _) (fun q => c2 (decide_eq_true q.2.1))]))
    have c2 : r1 = r2 := of_decide_eq_true c2
    refine ⟨_, rfl, p, C_Day, dx, _, _, rfl, e1, D_Day.cls, no _ (by decide), rfl, _, rfl, q, C_Day, dy, _, _, rfl, e2, D_Day.cls, no _ (by decide), rfl, rfl, _, rfl, ?_⟩
    refine ite2 (fun c3 => ?_) (fun c3 => fin _ (by unfold eqDy; rw [decide_eq_false (p := d1 = d2 ∧ _) (fun q => c3 (decide_eq_true (by rw [q.2.2.1])))]))
    have c3 : f1 = f2 := by injection of_decide_eq_true c3
    refine ⟨_, rfl, p, C_Day, dx, _, _, rfl, e1, D_Day.cls, no _ (by decide), rfl, _, rfl, q, C_Day, dy, _, _, rfl, e2, D_Day.cls, no _ (by decide), rfl, rfl, fin _ ?_⟩
    unfold eqDy
    simp [c1, c2, c3]

theorem okDay___le__ {f : Addr} {fd : FuncData} (F : Fun K "__le__" "Day.__le__" sDay___le__ f fd) (T : Txt K mg) {C_BadNumber C_Day fi fe : Addr} (D_Day : DatC K mg "Day" C_Day fi fe ["dry", "rain", "fill", "mood"]) : FnOk P w K mg base CX0 1 f fd PDay___le__ (spDay_le C_Day) := by
  refine F.ok scDay___le__ (fun vs H Q E h => ?_) (fun cdv A outer s H vs Q E hr h => ?_)
  · obtain ⟨p, q, d1, r1, d2, r2, f1, m1, f2, m2, rfl, hp, hq, hv1, hv2, k⟩ := h
    rfl
  · obtain ⟨p, q, d1, r1, d2, r2, f1, m1, f2, m2, rfl, hp, hq, hv1, hv2, k⟩ := h
    refine ⟨_, (pss_cons (ps_if (pt_not (pt_val (pe_callB (id := "isinstance") call_isi (by rfl) T.b_isinstance (by decide +kernel) (pa_cons (pv 1) (pa_cons (pe_glob (v := .ref C_Day) rfl D_Day.g rfl) pa_nil)))))
  (pss_one ps_never)
  pss_nil)
  (pss_cons (ps_if (PW.pt (pw_or (pt_cmpR op_ne (pe_callB call_len_seq (by rfl) T.b_len PySem.boot_len (pa_cons (pe_fld (pv 0) rfl) pa_nil)) (pe_callB call_len_seq (by rfl) T.b_len PySem.boot_len (pa_cons (pe_fld (pv 1) rfl) pa_nil)) (nomark _)) (pw_or (pt_cmpR op_ne (pe_fld (pv 0) rfl) (pe_fld (pv 1) rfl) (nomark _)) (pw_or1 (pt_cmpR op_gt (pe_fld (pv 0) rfl) (pe_fld (pv 1) rfl) (nomark _))))))
  (pss_one (ps_ret pe_bl))
  pss_nil)
  (pss_cons (ps_set (i := 2) scDay___le__.nd rfl (by first | exact Or.inl rfl | exact Or.inr rfl) (pe_callB (id := "all") (cr_all rfl) (by rfl) T.b_all (by decide +kernel) (pa_cons (pe_lc (g := gTup K 2 (gCons (gName 3) (gCons (gName 4) gNil))) (own := [("mine", 3), ("its", 4)]) rfl scDay___le__.nd (pi_zipA (by rfl) T.b_zip (pa_cons (pe_fld (pv 0) rfl) (pa_cons (pe_fld (pv 1) rfl) pa_nil))) (blkOk_by (own := [("mine", 3), ("its", 4)]) (N := NDay___le__) (sc := defScope sDay___le__) (by decide +kernel)) (fun _ _ _ _ _ => (pg_tup rfl (pgs_cons (pg_name (i := 3) scDay___le__.nd rfl (by first | exact Or.inl rfl | exact Or.inr rfl)) (pgs_cons (pg_name (i := 4) scDay___le__.nd rfl (by first | exact Or.inl rfl | exact Or.inr rfl)) pgs_nil)))) (fun _ _ _ _ _ => pts_nil) (fun _ _ _ _ _ => (pe_cmpR op_ge (pv 3) (pv 4) (nomark _)))) pa_nil)))
  (pss_one (ps_ret (pe_and (pv 2) (pe_one (pe_callB (id := "all") (cr_all rfl) (by rfl) T.b_all (by decide +kernel) (pa_cons (pe_lc (g := gTup K 2 (gCons (gName 3) (gCons (gName 4) gNil))) (own := [("mine", 3), ("its", 4)]) rfl scDay___le__.nd (pi_zipA (by rfl) T.b_zip (pa_cons (pe_fld (pv 0) rfl) (pa_cons (pe_fld (pv 1) rfl) pa_nil))) (blkOk_by (own := [("mine", 3), ("its", 4)]) (N := NDay___le__) (sc := defScope sDay___le__) (by decide +kernel)) (fun _ _ _ _ _ => (pg_tup rfl (pgs_cons (pg_name (i := 3) scDay___le__.nd rfl (by first | exact Or.inl rfl | exact Or.inr rfl)) (pgs_cons (pg_name (i := 4) scDay___le__.nd rfl (by first | exact Or.inl rfl | exact Or.inr rfl)) pgs_nil)))) (fun _ _ _ _ _ => pts_nil) (fun _ _ _ _ _ => (pe_cmpR op_le (pv 3) (pv 4) (nomark _)))) pa_nil))))))))), ?_⟩
    obtain ⟨dx, qx, rx, e1, x1, y1⟩ := hp
    obtain ⟨dy, qy, ry, e2, x2, y2⟩ := hq
    obtain ⟨u1, u2, u3, _⟩ := hv1
    obtain ⟨w1, w2, w3, _⟩ := hv2
    refine ⟨_, rfl, _, _, _, _, true, rfl, .own _, .base (.ins e2 D_Day.cls D_Day.ha D_Day.hn D_Day.htk D_Day.hm), D_Day.kit, true, rfl, iteF ?_⟩
    have no := fun f (h : f ∈ (["dry", "rain", "fill", "mood"] : List Str)) => D_Day.no f h
    refine ⟨_, rfl, p, C_Day, dx, _, _, rfl, e1, D_Day.cls, no _ (by decide), rfl, _, _, rfl, .inr (SqT.of x1), _, rfl, q, C_Day, dy, _, _, rfl, e2, D_Day.cls, no _ (by decide), rfl, _, _, rfl, .inr (SqT.of x2), rfl, _, rfl, ?_⟩
    refine ite2 (fun c2 => ?_) (fun c2 => ?_)
    · have e : leDy d1 r1 f1 m1 d2 r2 f2 m2 = false := by
        unfold leDy
        rw [decide_eq_false (p := d1.length = d2.length) (fun q => by rw [List.length_map, List.length_map, q] at c2; exact ne_self c2), Bool.false_and]
      rw [e] at k
      exact k _ (Same.refl _)
    have c2 : d1.length = d2.length := by
      by_cases q : d1.length = d2.length
      · exact q
      · exact absurd (by rw [List.length_map, List.length_map, decide_eq_false (fun y => q (by injection y with y; omega))]; rfl) c2
    refine ⟨_, rfl, p, C_Day, dx, _, _, rfl, e1, D_Day.cls, no _ (by decide), rfl, _, rfl, q, C_Day, dy, _, _, rfl, e2, D_Day.cls, no _ (by decide), rfl, rfl, _, rfl, ?_⟩
    refine ite2 (fun c1 => ?_) (fun c1 => ?_)
    · have c1 : ¬ m1 = m2 := fun q => by rw [q] at c1; exact ne_self c1
      have e : leDy d1 r1 f1 m1 d2 r2 f2 m2 = false := by unfold leDy; rw [decide_eq_false c1, Bool.false_and, Bool.and_false]
      rw [e] at k
      exact k _ (Same.refl _)
    have c1 : m1 = m2 := by
      by_cases q : m1 = m2
      · exact q
      · exact absurd (by rw [decide_eq_false (fun y => q (by injection y))]; rfl) c1
    refine ⟨_, rfl, p, C_Day, dx, _, _, rfl, e1, D_Day.cls, no _ (by decide), rfl, _, rfl, q, C_Day, dy, _, _, rfl, e2, D_Day.cls, no _ (by decide), rfl, _, _, rfl, rfl, _, rfl, ?_⟩
    refine ite2 (fun c3 => ?_) (fun c3 => ?_)
    · have c3 := of_decide_eq_true c3
      have e : leDy d1 r1 f1 m1 d2 r2 f2 m2 = false := by unfold leDy; rw [decide_eq_false (p := f1 ≤ f2) (by omega), Bool.false_and, Bool.and_false, Bool.and_false]
      rw [e] at k
      exact k _ (Same.refl _)
    have c3 : f1 ≤ f2 := by
      by_cases q : f1 ≤ f2
      · exact q
      · exact absurd (decide_eq_true (by omega)) c3
    have eAll : leDy d1 r1 f1 m1 d2 r2 f2 m2 = (leL d2 d1 && leL r1 r2) := by
      unfold leDy
      rw [decide_eq_true c2, decide_eq_true c1, decide_eq_true c3, Bool.true_and, Bool.true_and, Bool.true_and]
    rw [eAll] at k
    refine ⟨_, rfl, p, C_Day, dx, _, _, rfl, e1, D_Day.cls, no _ (by decide), rfl, _, rfl, q, C_Day, dy, _, _, rfl, e2, D_Day.cls, no _ (by decide), rfl, qx, qy, _, _, rfl, .inr ⟨SqT.of x1, SqT.of x2, fun D hD => ?_⟩⟩
    refine lc_it (walk_zipT rfl) (fun i H1 => H1 D = some (.lst (((leBs d2 d1).take i).map V.bl)) ∧ Same H H1) ⟨upd_same, Same.new hD⟩ (fun i H1 _ q => ⟨SqT.of (q.2 _ _ x1), SqT.of (q.2 _ _ x2)⟩) ?_ ?_
    · rintro i x H1o H1 hi ⟨g1, s1⟩ ⟨T, x, y, rfl, hT, rfl, hx, hy⟩
      obtain ⟨a, ha, rfl⟩ := int_at hx
      obtain ⟨b, hb, rfl⟩ := int_at hy
      refine ⟨T, _, rfl, SqT.of upd_same, rfl, _, _, rfl, _, _, rfl, rfl, rfl, ?_⟩
      refine ⟨_, rfl, _, rfl, _, _, rfl, rfl, ?_⟩
      have nTD : D ≠ T := ne_of_none g1 hT
      refine ⟨_, by rw [upd_ne nTD]; exact g1, small1000 (by rw [List.length_map, List.length_take]; have := leBs_len c2.symm; omega), ?_, fun z o e => ?_⟩
      · rw [upd_same, take_snoc (leBs_at hb ha), List.map_append]
        rfl
      · have n1 : z ≠ D := ne_of_none e hD
        rw [upd_ne n1, upd_ne (ne_of_none (s1 _ _ e) hT)]
        exact s1 _ _ e
    rintro H1 ⟨g1, s1⟩
    rw [List.take_of_length_le (by rw [leBs_len c2.symm]; simp only [List.length_map]; omega)] at g1
    refine ⟨D, _, rfl, SqL.of g1, ?_⟩
    rw [leBs_all c2.symm]
    refine ⟨_, rfl, _, rfl, ?_⟩
    cases hA : leL d2 d1 with
    | false =>
      refine iteF ?_
      rw [hA, Bool.false_and] at k
      exact k _ s1
    | true =>
      refine iteT ?_
      rw [hA, Bool.true_and] at k
      have c4 : r1.length = r2.length := by omega
      have e1 := s1 _ _ e1
      have e2 := s1 _ _ e2
      refine ⟨_, rfl, p, C_Day, dx, _, _, rfl, e1, D_Day.cls, no _ (by decide), rfl, _, rfl, q, C_Day, dy, _, _, rfl, e2, D_Day.cls, no _ (by decide), rfl, rx, ry, _, _, rfl, .inr ⟨SqT.of (s1 _ _ y1), SqT.of (s1 _ _ y2), fun D2 hD2 => ?_⟩⟩
      have z1 := s1 _ _ y1
      have z2 := s1 _ _ y2
      have s0 := s1
      clear s1 g1 hD
      refine lc_it (walk_zipT rfl) (fun i H2 => H2 D2 = some (.lst (((leBs r1 r2).take i).map V.bl)) ∧ Same H1 H2) ⟨upd_same, Same.new hD2⟩ (fun i H2 _ q => ⟨SqT.of (q.2 _ _ z1), SqT.of (q.2 _ _ z2)⟩) ?_ ?_
      · rintro i x H2o H2 hi ⟨g1, s1⟩ ⟨T, x, y, rfl, hT, rfl, hx, hy⟩
        obtain ⟨a, ha, rfl⟩ := int_at hx
        obtain ⟨b, hb, rfl⟩ := int_at hy
        refine ⟨T, _, rfl, SqT.of upd_same, rfl, _, _, rfl, _, _, rfl, rfl, rfl, ?_⟩
        refine ⟨_, rfl, _, rfl, _, _, rfl, rfl, ?_⟩
        have nTD : D2 ≠ T := ne_of_none g1 hT
        refine ⟨_, by rw [upd_ne nTD]; exact g1, small1000 (by rw [List.length_map, List.length_take]; have := leBs_len c4; omega), ?_, fun z o e => ?_⟩
        · rw [upd_same, take_snoc (leBs_at ha hb), List.map_append]
          rfl
        · have n1 : z ≠ D2 := ne_of_none e hD2
          rw [upd_ne n1, upd_ne (ne_of_none (s1 _ _ e) hT)]
          exact s1 _ _ e
      rintro H2 ⟨g1, s1⟩
      rw [List.take_of_length_le (by rw [leBs_len c4]; simp only [List.length_map]; omega)] at g1
      refine ⟨D2, _, rfl, SqL.of g1, ?_⟩
      rw [leBs_all c4]
      exact k _ (s0.trans s1)

theorem oklesser {f : Addr} {fd : FuncData} (F : Fun K "lesser" "lesser" slesser f fd) (T : Txt K mg) : FnOk P w K mg base CX0 1 f fd Plesser splesser := by
  refine F.ok sclesser (fun vs H Q E h => ?_) (fun cdv A outer s H vs Q E hr h => ?_)
  · obtain ⟨i, j, rfl, k⟩ := h
    rfl
  · obtain ⟨i, j, rfl, k⟩ := h
    refine ⟨_, (pss_one (ps_ret (pe_ifExp (pt_cmpR op_lt (pv 0) (pv 1) (nomark _)) (pv 0) (pv 1)))), ?_⟩
    refine ⟨_, rfl, _, rfl, _, _, rfl, rfl, ?_⟩
    refine ⟨_, rfl, ite2 (fun h => ?_) (fun h => ?_)⟩
    · rw [if_pos (of_decide_eq_true h)] at k
      exact ⟨_, rfl, k⟩
    · rw [if_neg (fun z => h (decide_eq_true z))] at k
      exact ⟨_, rfl, k⟩

theorem okDay___add__ {f : Addr} {fd : FuncData} (F : Fun K "__add__" "Day.__add__" sDay___add__ f fd) (T : Txt K mg) {C_BadNumber C_Day fi fe : Addr} (D_Day : DatC K mg "Day" C_Day fi fe ["dry", "rain", "fill", "mood"]) (Clesser : Cal P w K mg base "lesser" Plesser 1 splesser) (C_xcheck_number : ∃ (g : Addr) (gd : FuncData), FnOk P w K mg base (L2.CX P w) 4 g gd Pcheck_number (spcheck_number C_BadNumber) ∧ mg "check_number" = some (.ref g) ∧ PySem.W.keepIn K (.ref g) = true ∧ Binds K gd Pcheck_number []) {fdi : FuncData} (GDay___init__ : FnOk P w K mg base (L2.CX P w) 6 fi fdi PDay___init__ (spDay_init K C_Day C_BadNumber)) (bDay___init__ : Binds K fdi PDay___init__ []) : FnOk P w K mg base (L2.CX P w) 8 f fd PDay___add__ (spDay_add C_Day C_BadNumber) := by
  obtain ⟨glesser, gdlesser, Glesser, mlesser, klesser, blesser⟩ := Clesser.ex
  obtain ⟨_, c_MOST_UNITS⟩ := T.c_MOST_UNITS
  obtain ⟨gcheck_number, gdcheck_number, Gcheck_number, mcheck_number, kcheck_number, bcheck_number⟩ := C_xcheck_number
  refine F.okX scDay___add__ (fun vs H Q E h => ?_) (fun cdv A outer s H vs Q E hr h => ?_)
  · obtain ⟨p, ds, rs, f, m, u, rfl, hp, hv, kT, kE⟩ := h
    rfl
  · obtain ⟨p, ds, rs, f, m, u, rfl, hp, hv, kT, kE⟩ := h
    refine ⟨_, (pss_cons (ps_set (i := 2) scDay___add__.nd rfl (by first | exact Or.inl rfl | exact Or.inr rfl) (pe_callS Gcheck_number (hr.mono (by decide)) (by rfl) mcheck_number kcheck_number bcheck_number (fun σ => passAt (takes_of rfl rfl rfl rfl) σ) (pa_cons pe_str (pa_cons (pv 1) (pa_cons pe_int (pa_cons (pe_glob (v := .int 8) rfl c_MOST_UNITS ⟨_, rfl⟩) pa_nil))))))
  (pss_cons (ps_setLc (i := 3) (own := [("wet", 4)]) rfl scDay___add__.nd rfl rfl (sw_true rfl rfl rfl (by decide +kernel)) (pi_tup (pe_fld (pv 0) rfl)) (blkOk_by (own := [("wet", 4)]) (N := NDay___add__) (sc := defScope sDay___add__) (by decide +kernel)) (fun _ _ _ _ _ => (pg_name (i := 4) scDay___add__.nd rfl (by first | exact Or.inl rfl | exact Or.inr rfl))) (fun _ _ _ _ _ => pts_nil) (fun _ _ _ _ _ => (pe_call Glesser (hr.mono (by decide)) (by rfl) mlesser klesser blesser .nil pass0 (pa_cons (pe_op op_add (pv 4) (pv 2)) (pa_cons (pe_glob (v := .int 8) rfl c_MOST_UNITS ⟨_, rfl⟩) pa_nil)))))
  (pss_one (ps_ret (pe_makeS D_Day.mkk GDay___init__ (hr.mono (by decide)) (by rfl) D_Day.g bDay___init__ (fun σ => passAt (takes_of rfl rfl rfl rfl) σ) (pa_cons (pe_fld (pv 0) rfl) (pa_cons (pv 3) (pa_cons (pe_fld (pv 0) rfl) (pa_cons (pe_fld (pv 0) rfl) pa_nil))))))))), ?_⟩
    refine ⟨_, rfl, "units", .int u, 0, 8, rfl, (by decide +kernel), .int _, fun t0 => ?_, fun t0 d H1 nd s1 hd => ?_⟩
    case refine_2 =>
      exact kE (of_decide_eq_false t0) d H1 nd s1 hd
    have hu := of_decide_eq_true (show decide (0 ≤ u ∧ u ≤ 8) = true from t0)
    obtain ⟨dx, qx, rx, e1, x1, y1⟩ := id hp
    obtain ⟨v1, v2, v3, _⟩ := id hv
    have no := fun f (h : f ∈ (["dry", "rain", "fill", "mood"] : List Str)) => D_Day.no f h
    refine ⟨_, rfl, p, C_Day, dx, _, _, rfl, e1, D_Day.cls, no _ (by decide), rfl, rx, rfl, ⟨_, SqT.of y1⟩, fun D hD => ?_⟩
    refine lc_it walk_tup (fun i H1 => H1 D = some (.lst ((moreR u (rs.take i)).map V.int)) ∧ Same H H1) ⟨upd_same, Same.new hD⟩ (fun i H1 _ q => SqT.of (q.2 _ _ y1)) ?_ ?_
    · rintro i x H1o H1 hi ⟨g1, s1⟩ ⟨rfl, hx⟩
      obtain ⟨a, ha, rfl⟩ := int_at hx
      refine ⟨rfl, ?_⟩
      refine ⟨_, rfl, _, rfl, _, _, rfl, rfl, a + u, 8, rfl, ?_⟩
      refine ⟨_, g1, small1000 (by unfold moreR; simp only [List.length_map, List.length_take]; omega), ?_, fun z o e => by rw [upd_ne (ne_of_none e hD)]; exact s1 _ _ e⟩
      rw [upd_same, take_snoc ha]
      unfold moreR
      rw [List.map_append, List.map_append]
      rfl
    rintro H1 ⟨g1, s1⟩
    rw [List.take_of_length_le (by simp only [List.length_map]; exact Nat.le_refl _)] at g1
    have e1 := s1 _ _ e1
    refine ⟨_, rfl, p, C_Day, dx, _, _, rfl, e1, D_Day.cls, no _ (by decide), rfl, _, rfl, _, rfl, p, C_Day, dx, _, _, rfl, e1, D_Day.cls, no _ (by decide), rfl, _, rfl, p, C_Day, dx, _, _, rfl, e1, D_Day.cls, no _ (by decide), rfl, fun y dy ny nd _ => ?_⟩
    refine day_make (moreR_vday hv hu.1) (.inr (SqT.of (s1 _ _ x1))) (.inl (SqL.of g1)) ny nd fun H5 s5 st => ?_
    exact kT hu.1 hu.2 y _ (s1.trans s5) st
end
end Wb

namespace Wb
open PySem PySem.Spec PyProof.Rows L2 Wx StX NdefX RZ StX PyProof.Rows.FinIter
section
variable {P : Program} {w : World} {K : PySem.W.Frag} {mg : Str → Option Value} {base : Heap}
theorem at0 {xs : List V} {v : V} (h : xs[0]? = some v) : atI xs 0 = some v := atI_nat (j := 0) h

abbrev DayD := List Int × List Int × Int × Int
/-- a day that stands for its four parts -/
def repDay (C : Addr) : Rep DayD := fun x H d => ∃ p, x = .ref p ∧ DayAt C H p d.1 d.2.1 d.2.2.1 d.2.2.2
theorem repDay_mono {C : Addr} : RMon (repDay C) := fun x H H' a e h => by
  obtain ⟨p, rfl, h⟩ := h
  exact ⟨p, rfl, h.same e⟩
theorem ints_inj {xs ys : List Int} (h : xs.map V.int = ys.map V.int) : xs = ys := by
  induction xs generalizing ys with
  | nil => cases ys with
    | nil => rfl
    | cons y ys => cases h
  | cons x xs ih => cases ys with
    | nil => cases h
    | cons y ys =>
      simp only [List.map_cons, List.cons.injEq] at h
      obtain ⟨h1, h2⟩ := h
      injection h1 with h1
      rw [h1, ih h2]
theorem DayAt.fn {C : Addr} {H : Hp} {p : Addr} {d1 r1 d2 r2 : List Int} {f1 m1 f2 m2 : Int} (h : DayAt C H p d1 r1 f1 m1) (h' : DayAt C H p d2 r2 f2 m2) : d1 = d2 ∧ r1 = r2 ∧ f1 = f2 ∧ m1 = m2 := by
  obtain ⟨dx, q, r, e1, e2, e3⟩ := h
  obtain ⟨dx', q', r', e1', e2', e3'⟩ := h'
  rw [e1] at e1'
  cases e1'
  rw [e2] at e2'
  rw [e3] at e3'
  injection e2' with e2'
  injection e3' with e3'
  injection e2' with e2'
  injection e3' with e3'
  exact ⟨ints_inj e2', ints_inj e3', rfl, rfl⟩
theorem repDay_fn {C : Addr} : RFun (repDay C) := fun x H a b h h' => by
  obtain ⟨p, rfl, h⟩ := h
  obtain ⟨q, e, h'⟩ := h'
  cases e
  obtain ⟨a1, a2, a3, a4⟩ := a
  obtain ⟨b1, b2, b3, b4⟩ := b
  obtain ⟨e1, e2, e3, e4⟩ := h.fn h'
  simp only at e1 e2 e3 e4
  rw [e1, e2, e3, e4]
theorem eqR_Day {X : Cx} {C f : Addr} {fd : FuncData} {ps : List Str} (F : FnOk X.prog X.w X.K X.mg X.base CX0 1 f fd ps (spDay_eq C))
    (hs : PySem.W.findIn X.K (.ref C) "__eq__" = some (some (.ref f))) (hf : PySem.W.isFn X.K (.ref f) = true) (hb : Binds X.K fd ps []) : EqR X 1 (repDay C) :=
  eqR_ins F hs hf hb pass0 (fun x H a h => by
    obtain ⟨p, rfl, dx, q, r, e, _⟩ := h
    exact ⟨p, dx, _, rfl, e⟩) (fun p q H a b Q h1 h2 k => by
    obtain ⟨p', e1, h1⟩ := h1
    obtain ⟨q', e2, h2⟩ := h2
    cases e1
    cases e2
    refine ⟨p, q, _, _, _, _, _, _, _, _, rfl, h1, h2, ?_⟩
    have e : decide (a = b) = eqDy a.1 a.2.1 a.2.2.1 a.2.2.2 b.1 b.2.1 b.2.2.1 b.2.2.2 := by
      obtain ⟨a1, a2, a3, a4⟩ := a
      obtain ⟨b1, b2, b3, b4⟩ := b
      unfold eqDy
      rw [Bool.eq_iff_iff]
      simp
    rw [← e]
    exact k H Ext.rfl') repDay_fn
/-- a list or a tuple -/
def repQ {α : Type} (R : Rep α) : Rep (List α) := fun x H as => repL R x H as ∨ repT R x H as
theorem repQ_mono {α : Type} {R : Rep α} (hR : RMon R) : RMon (repQ R) := fun x H H' a e h => h.imp (repL_mono hR _ _ _ _ e) (repT_mono hR _ _ _ _ e)
theorem repQ_seq {α : Type} {R : Rep α} {K : PySem.W.Frag} {x : V} {H : Hp} {as : List α} (h : repQ R x H as) : ∃ p xs, x = .ref p ∧ (SqL K H p xs ∨ SqT K H p xs) ∧ Reps R H xs as := by
  rcases h with ⟨p, xs, rfl, e, r⟩ | ⟨p, xs, rfl, e, r⟩
  · exact ⟨p, xs, rfl, .inl (SqL.of e), r⟩
  · exact ⟨p, xs, rfl, .inr (SqT.of e), r⟩
def dayBad (w k : Int) (d : DayD) : Option (Str × Int) := if (d.1.length : Int) = w then if 0 ≤ d.2.2.2 ∧ d.2.2.2 < k then none else some ("mood", d.2.2.2) else some ("plots", d.1.length)
def rowBad (w k : Int) (r : List DayD) : Option (Str × Int) := if 1 ≤ r.length ∧ r.length ≤ 6 then r.findSome? (dayBad w k) else some ("days", r.length)
def wid (M : List (List DayD)) : Int := (((M.headD []).headD ([], [], 0, 0)).1.length : Nat)
def daysBad (M : List (List DayD)) : Option (Str × Int) := M.findSome? (rowBad (wid M) M.length)
/-- the first wrong part of a weather -/
def wRef (M : List (List DayD)) : Option (Str × Int) := if 1 ≤ M.length ∧ M.length ≤ 4 then daysBad M else some ("moods", M.length)
def Small (M : List (List DayD)) : Prop := M.length ≤ 1000 ∧ ∀ r, r ∈ M → r.length ≤ 1000 ∧ ∀ d : DayD, d ∈ r → d.1.length ≤ 1000
theorem findSome_at {α β : Type} {p : α → Option β} : ∀ {xs : List α} {i : Nat} {x : α} {b : β}, xs[i]? = some x → (xs.take i).findSome? p = none → p x = some b → xs.findSome? p = some b
  | [], i, x, b, h, _, _ => by simp at h
  | y :: ys, 0, x, b, h, _, q => by
    have e : y = x := Option.some.inj h
    subst e
    rw [List.findSome?_cons, q]
  | y :: ys, i + 1, x, b, h, k, q => by
    rw [List.take_succ_cons, List.findSome?_cons] at k
    rw [List.findSome?_cons]
    cases e : p y with
    | some z => rw [e] at k; cases k
    | none =>
      rw [e] at k
      exact findSome_at (xs := ys) (i := i) h k q
theorem findSome_snoc {α β : Type} {p : α → Option β} {xs : List α} {i : Nat} {x : α} (h : xs[i]? = some x) (k : (xs.take i).findSome? p = none) (q : p x = none) : (xs.take (i + 1)).findSome? p = none := by
  rw [take_snoc h, List.findSome?_append, k, List.findSome?_cons, q]
  rfl
def sp_check_days (K : PySem.W.Frag) (CD CM : Addr) : Sp := fun vs H Q E => ∃ (t : Addr) (rows : List V) (M : List (List DayD)), vs = [.ref t] ∧ H t = some (.tup rows) ∧ Reps (repQ (repDay CD)) H rows M ∧ Small M ∧
  (daysBad M = none → ∀ H', Same H H' → Q .non H') ∧
  (∀ tag v, daysBad M = some (tag, v) → ∀ (d : Addr) (H' : Hp), H d = none → Same H H' → H' d = some (.xd [("value", .int v), ("what", .str tag)]) → E (.ref CM) (some d) H')
def spWeather_init (K : PySem.W.Frag) (CW CD CM : Addr) : Sp := fun vs H Q E => ∃ (p dx t : Addr) (rows : List V) (M : List (List DayD)), vs = [.ref p, .ref t] ∧ H p = some (.ins CW dx []) ∧ H t = some (.tup rows) ∧ Reps (repQ (repDay CD)) H rows M ∧ Small M ∧
  (wRef M = none → ∀ (q : Addr) (H' : Hp), Fr2 p dx H H' → repT (repT (repDay CD)) (.ref q) H' M → H' p = some (.ins CW dx [("moods", .ref q), ("width", .int (wid M))]) → Q .non H') ∧
  (∀ tag v, wRef M = some (tag, v) → ∀ (d : Addr) (H' : Hp), H d = none → Fr2 p dx H H' → H' d = some (.xd [("value", .int v), ("what", .str tag)]) → E (.ref CM) (some d) H')
/-- a weather at p -/
def WAt (CW CD : Addr) (H : Hp) (p : Addr) (M : List (List DayD)) : Prop := ∃ dx q, H p = some (.ins CW dx [("moods", .ref q), ("width", .int (wid M))]) ∧ repT (repT (repDay CD)) (.ref q) H M
theorem WAt.same {CW CD : Addr} {H H' : Hp} {p : Addr} {M : List (List DayD)} (x : WAt CW CD H p M) (s : Same H H') : WAt CW CD H' p M := by
  obtain ⟨dx, q, e1, e2⟩ := x
  exact ⟨dx, q, s _ _ e1, repT_mono (repT_mono repDay_mono) _ _ _ _ s e2⟩
def spWeather_eq (CW CD : Addr) : Sp := fun vs H Q _ => ∃ (p q : Addr) (M N : List (List DayD)), vs = [.ref p, .ref q] ∧ WAt CW CD H p M ∧ WAt CW CD H q N ∧ ∀ H', Ext H H' → Q (.bl (decide (M = N))) H'
def spWeather_len (CW CD : Addr) : Sp := fun vs H Q _ => ∃ (p : Addr) (M : List (List DayD)), vs = [.ref p] ∧ WAt CW CD H p M ∧ Q (.int (M.length : Nat)) H
def spWeather_get (CW CD CM : Addr) : Sp := fun vs H Q E => ∃ (p : Addr) (M : List (List DayD)) (k : Int), vs = [.ref p, .int k] ∧ WAt CW CD H p M ∧
  (∀ (n : Nat) (r : List DayD), k = n → M[n]? = some r → ∀ x, ∀ H', Same H H' → repT (repDay CD) x H' r → Q x H') ∧
  (¬ (0 ≤ k ∧ k < M.length) → ∀ (d : Addr) (H' : Hp), H d = none → Same H H' → H' d = some (.xd [("value", .int k), ("what", .str "mood")]) → E (.ref CM) (some d) H')
theorem Reps.frl {α : Type} {R : Rep α} {H H' : Hp} (h : ∀ x a, R x H a → R x H' a) {xs : List V} {as : List α} (r : Reps R H xs as) : Reps R H' xs as := r.imp h
/-- a day stays where lists or a new instance change -/
theorem DayAt.keep {C : Addr} {H H' : Hp} {p : Addr} {ds rs : List Int} {f m : Int} (x : DayAt C H p ds rs f m) (k : ∀ b o, H b = some o → (∀ xs, o ≠ .lst xs) → (∀ C dx, o ≠ .ins C dx []) → H' b = some o) : DayAt C H' p ds rs f m := by
  obtain ⟨dx, q, r, e1, e2, e3⟩ := x
  exact ⟨dx, q, r, k _ _ e1 (fun xs z => by cases z) (fun C dx z => by cases z), k _ _ e2 (fun xs z => by cases z) (fun C dx z => by cases z), k _ _ e3 (fun xs z => by cases z) (fun C dx z => by cases z)⟩
theorem repDay_keep {C : Addr} {H H' : Hp} (k : ∀ b o, H b = some o → (∀ xs, o ≠ .lst xs) → (∀ C dx, o ≠ .ins C dx []) → H' b = some o) : ∀ x a, repDay C x H a → repDay C x H' a := fun x a h => by
  obtain ⟨p, rfl, h⟩ := h
  exact ⟨p, rfl, h.keep k⟩
theorem repT_keep {C : Addr} {H H' : Hp} (k : ∀ b o, H b = some o → (∀ xs, o ≠ .lst xs) → (∀ C dx, o ≠ .ins C dx []) → H' b = some o) : ∀ x a, repT (repDay C) x H a → repT (repDay C) x H' a := fun x a h => by
  obtain ⟨p, xs, rfl, h, r⟩ := h
  exact ⟨p, xs, rfl, k _ _ h (fun xs z => by cases z) (fun C dx z => by cases z), r.imp (repDay_keep k)⟩
theorem repTT_keep {C : Addr} {H H' : Hp} (k : ∀ b o, H b = some o → (∀ xs, o ≠ .lst xs) → (∀ C dx, o ≠ .ins C dx []) → H' b = some o) : ∀ x a, repT (repT (repDay C)) x H a → repT (repT (repDay C)) x H' a := fun x a h => by
  obtain ⟨p, xs, rfl, h, r⟩ := h
  exact ⟨p, xs, rfl, k _ _ h (fun xs z => by cases z) (fun C dx z => by cases z), r.imp (repT_keep k)⟩
/-- one instance that has no fields yet gets fields -/
theorem keep_ins {H : Hp} {p C dx : Addr} {o2 : HO} (h : H p = some (.ins C dx [])) : ∀ b o, H b = some o → (∀ xs, o ≠ .lst xs) → (∀ C dx, o ≠ .ins C dx []) → (upd H p o2) b = some o := fun b o e _ n => by
  rw [upd_ne (fun z => by rw [z, h] at e; cases e; exact n _ _ rfl)]
  exact e
theorem keep_lst {H : Hp} {p : Addr} {xs : List V} {o2 : HO} (h : H p = some (.lst xs)) : ∀ b o, H b = some o → (∀ xs, o ≠ .lst xs) → (∀ C dx, o ≠ .ins C dx []) → (upd H p o2) b = some o := fun b o e n _ => by
  rw [upd_ne (fun z => by rw [z, h] at e; cases e; exact n _ rfl)]
  exact e
theorem wid_pos {M : List (List DayD)} {r : List DayD} {d : DayD} (h : M[0]? = some r) (h' : r[0]? = some d) : wid M = (d.1.length : Nat) := by
  cases M with
  | nil => simp at h
  | cons a M =>
    have e : a = r := Option.some.inj h
    subst e
    cases a with
    | nil => simp at h'
    | cons b a =>
      have e : b = d := Option.some.inj h'
      subst e
      rfl

theorem ok_check_days {f : Addr} {fd : FuncData} (F : Fun K "_check_days" "_check_days" s_check_days f fd) (T : Txt K mg) {C_BadNumber C_Day C_Weather fi fe fwi fwe : Addr} (D_Day : DatC K mg "Day" C_Day fi fe ["dry", "rain", "fill", "mood"]) (D_Weather : DatC K mg "Weather" C_Weather fwi fwe ["moods", "width"]) (C_xcheck_number : ∃ (g : Addr) (gd : FuncData), FnOk P w K mg base (L2.CX P w) 4 g gd Pcheck_number (spcheck_number C_BadNumber) ∧ mg "check_number" = some (.ref g) ∧ PySem.W.keepIn K (.ref g) = true ∧ Binds K gd Pcheck_number []) : FnOk P w K mg base (L2.CX P w) 5 f fd P_check_days (sp_check_days K C_Day C_BadNumber) := by
  obtain ⟨_, c__MOST_DAYS⟩ := T.c__MOST_DAYS
  obtain ⟨gcheck_number, gdcheck_number, Gcheck_number, mcheck_number, kcheck_number, bcheck_number⟩ := C_xcheck_number
  refine F.okX sc_check_days (fun vs H Q E h => ?_) (fun cdv A outer s H vs Q E hr h => ?_)
  · obtain ⟨t, rows, M, rfl, ht, hrs, hsm, kOk, kE⟩ := h
    rfl
  · obtain ⟨t, rows, M, rfl, ht, hrs, hsm, kOk, kE⟩ := h
    refine ⟨_, (pss_one (ps_for (passes_of rfl) rfl (pi_tup (pv 0)) (pg_name (i := 1) sc_check_days.nd rfl (by first | exact Or.inl rfl | exact Or.inr rfl))
  (pss_cons (ps_expr (pe_callS Gcheck_number (hr.mono (by decide)) (by rfl) mcheck_number kcheck_number bcheck_number (fun σ => passAt (takes_of rfl rfl rfl rfl) σ) (pa_cons pe_str (pa_cons (pe_callB call_len_seq (by rfl) T.b_len PySem.boot_len (pa_cons (pv 1) pa_nil)) (pa_cons pe_int (pa_cons (pe_glob (v := .int 6) rfl c__MOST_DAYS ⟨_, rfl⟩) pa_nil))))))
  (pss_cons (ps_set (i := 2) sc_check_days.nd rfl (by first | exact Or.inl rfl | exact Or.inr rfl) (pe_callB call_len_seq (by rfl) T.b_len PySem.boot_len (pa_cons (pe_fld (pe_ix ix_lortu (pe_ix ix_tup (pv 0) pe_int (fun _ _ => rfl)) pe_int (fun _ _ => rfl)) rfl) pa_nil)))
  (pss_one (ps_for (passes_of rfl) rfl (pi_seq (pv 1)) (pg_name (i := 3) sc_check_days.nd rfl (by first | exact Or.inl rfl | exact Or.inr rfl))
  (pss_cons (ps_expr (pe_callS Gcheck_number (hr.mono (by decide)) (by rfl) mcheck_number kcheck_number bcheck_number (fun σ => passAt (takes_of rfl rfl rfl rfl) σ) (pa_cons pe_str (pa_cons (pe_callB call_len_seq (by rfl) T.b_len PySem.boot_len (pa_cons (pe_fld (pv 3) rfl) pa_nil)) (pa_cons (pv 2) (pa_cons (pv 2) pa_nil))))))
  (pss_one (ps_expr (pe_callS Gcheck_number (hr.mono (by decide)) (by rfl) mcheck_number kcheck_number bcheck_number (fun σ => passAt (takes_of rfl rfl rfl rfl) σ) (pa_cons pe_str (pa_cons (pe_fld (pv 3) rfl) (pa_cons pe_int (pa_cons (pe_op op_sub (pe_callB call_len_seq (by rfl) T.b_len PySem.boot_len (pa_cons (pv 0) pa_nil)) pe_int) pa_nil)))))))))))))), ?_⟩
    have hlM : rows.length = M.length := hrs.len
    refine ⟨_, rfl, t, rfl, ⟨_, SqT.of ht⟩, ?_⟩
    refine for_it walk_tup (fun i σ H1 => ∃ (w1 w2 w3 : Option V), σ = [some (.ref t), w1, w2, w3] ∧ Same H H1 ∧ (M.take i).findSome? (rowBad (wid M) M.length) = none) ⟨_, _, _, rfl, Same.refl _, rfl⟩ (fun i σ H1 _ ⟨_, _, _, _, s, _⟩ => SqT.of (s _ _ ht)) ?_ ?_
    · rintro i x σ H1o H1 hi ⟨w1, w2, w3, rfl, s1, g1⟩ ⟨rfl, hx⟩
      obtain ⟨r, hM, hq⟩ := hrs.at hx
      obtain ⟨a, xs, rfl, hs, hrd⟩ := repQ_seq (K := K) (repQ_mono repDay_mono _ _ _ _ s1 hq)
      have hxl := hrd.len
      have hrl := (hsm.2 r (List.mem_of_getElem? hM)).1
      refine ⟨_, rfl, a, _, rfl, hs, "days", .int (xs.length : Nat), 1, 6, rfl, (by decide +kernel), .int _, fun t1 => ?_, fun t1 d H2 nd s2 hd => ?_⟩
      case refine_2 =>
        refine kE "days" (r.length : Nat) (findSome_at hM g1 ?_) d H2 (s1.free nd) (s1.trans s2) (by rw [← hxl]; exact hd)
        unfold rowBad
        rw [if_neg]
        intro z
        have : decide ((1 : Int) ≤ (xs.length : Nat) ∧ ((xs.length : Nat) : Int) ≤ 6) = false := t1
        have := of_decide_eq_false this
        omega
      have hr16 : 1 ≤ r.length ∧ r.length ≤ 6 := by
        have : decide ((1 : Int) ≤ (xs.length : Nat) ∧ ((xs.length : Nat) : Int) ≤ 6) = true := t1
        have := of_decide_eq_true this
        omega
      -- width
      have hM0 : M[0]? = some M[0] := List.getElem?_eq_getElem (by have := (List.getElem?_eq_some_iff.mp hM).1; omega)
      generalize hr0 : M[0]'(by have := (List.getElem?_eq_some_iff.mp hM).1; omega) = r0 at hM0
      have hr01 : 1 ≤ r0.length := by
        by_cases h0 : i = 0
        · subst h0
          rw [hM0] at hM
          cases hM
          exact hr16.1
        · have : (M.take i)[0]? = some r0 := by rw [List.getElem?_take_of_lt (by omega)]; exact hM0
          have := List.findSome?_eq_none_iff.mp g1 r0 (List.mem_of_getElem? this)
          unfold rowBad at this
          split at this
          · rename_i z
            exact z.1
          · cases this
      have hd0 : r0[0]? = some r0[0] := List.getElem?_eq_getElem (by omega)
      generalize r0[0]'(by omega) = d0 at hd0
      obtain ⟨x0, hx0, hq0⟩ := hrs.at' hM0
      obtain ⟨a0, xs0, rfl, hs0, hrd0⟩ := repQ_seq (K := K) (repQ_mono repDay_mono _ _ _ _ s1 hq0)
      obtain ⟨y0, hy0, p0, rfl, hp0⟩ := hrd0.at' hd0
      obtain ⟨dz, qz, rz, e0, z0, _⟩ := id hp0
      refine ⟨_, rfl, t, _, _, _, rfl, rfl, SqT.of (s1 _ _ ht), at0 hx0, a0, _, _, _, rfl, rfl, hs0, at0 hy0, p0, C_Day, dz, _, _, rfl, e0, D_Day.cls, D_Day.no _ (by decide), rfl, qz, _, rfl, .inr (SqT.of z0), ?_⟩
      have hw := wid_pos hM0 hd0
      have ew : (((d0.1.map V.int).length : Nat) : Int) = wid M := by rw [List.length_map, hw]
      rw [ew]
      rcases hs with hs | hs
      · refine ⟨_, rfl, a, xs, rfl, .inl ⟨hs, ?_⟩⟩
        refine for_it walk_list (fun j σ H2 => ∃ w3 : Option V, σ = [some (.ref t), some (.ref a), some (.int (wid M)), w3] ∧ Same H1 H2 ∧ (r.take j).findSome? (dayBad (wid M) M.length) = none) ⟨_, rfl, Same.refl _, rfl⟩ (fun j σ H2 _ ⟨_, _, s, _⟩ => Same.seq s hs) ?_ ?_
        · rintro j x σ H2o H2 hj ⟨w3, rfl, s2, g2⟩ ⟨rfl, hx⟩
          obtain ⟨d, hd, p, rfl, hp⟩ := hrd.at hx
          have hp2 := hp.same s2
          obtain ⟨dx, qx, rx, e1, x1, y1⟩ := id hp2
          have hlen := (hsm.2 r (List.mem_of_getElem? hM)).2 d (List.mem_of_getElem? hd)
          refine ⟨_, rfl, p, C_Day, dx, _, _, rfl, e1, D_Day.cls, D_Day.no _ (by decide), rfl, qx, _, rfl, .inr (SqT.of x1), _, rfl, _, rfl, "plots", .int ((d.1.map V.int).length : Nat), wid M, wid M, rfl, (by decide +kernel), .int _, fun t1 => ?_, fun t1 dd H3 nd s3 hd3 => ?_⟩
          case refine_2 =>
            have t2 : ¬ (d.1.length : Int) = wid M := fun z => by
              rw [List.length_map, z] at t1
              have : decide (wid M ≤ wid M ∧ wid M ≤ wid M) = false := t1
              simp at this
            refine kE "plots" (d.1.length : Nat) (findSome_at hM g1 ?_) dd H3 ((s1.trans s2).free nd) ((s1.trans s2).trans s3) (by rw [List.length_map] at hd3; exact hd3)
            unfold rowBad
            rw [if_pos hr16]
            exact findSome_at hd g2 (by unfold dayBad; rw [if_neg t2])
          have t2 : (d.1.length : Int) = wid M := by
            rw [List.length_map] at t1
            have : decide (wid M ≤ (d.1.length : Int) ∧ (d.1.length : Int) ≤ wid M) = true := t1
            have := of_decide_eq_true this
            omega
          refine ⟨_, rfl, p, C_Day, dx, _, _, rfl, e1, D_Day.cls, D_Day.no _ (by decide), rfl, _, rfl, t, _, rfl, .inr (SqT.of ((s1.trans s2) _ _ ht)), _, _, rfl, rfl, "mood", .int d.2.2.2, 0, _, rfl, (by decide +kernel), .int _, fun t3 => ?_, fun t3 dd H3 nd s3 hd3 => ?_⟩
          case refine_2 =>
            refine kE "mood" d.2.2.2 (findSome_at hM g1 ?_) dd H3 ((s1.trans s2).free nd) ((s1.trans s2).trans s3) hd3
            unfold rowBad
            rw [if_pos hr16]
            refine findSome_at hd g2 ?_
            unfold dayBad
            rw [if_pos t2, if_neg]
            intro z
            have : decide (0 ≤ d.2.2.2 ∧ d.2.2.2 ≤ (rows.length : Nat) - 1) = false := t3
            have := of_decide_eq_false this
            omega
          have t4 : 0 ≤ d.2.2.2 ∧ d.2.2.2 < M.length := by
            have : decide (0 ≤ d.2.2.2 ∧ d.2.2.2 ≤ (rows.length : Nat) - 1) = true := t3
            have := of_decide_eq_true this
            omega
          exact ⟨_, rfl, s2, findSome_snoc hd g2 (by unfold dayBad; rw [if_pos t2, if_pos t4])⟩
        rintro σ H2 ⟨w3, rfl, s2, g2⟩
        rw [hrd.len, List.take_length] at g2
        exact ⟨_, _, _, rfl, s1.trans s2, findSome_snoc hM g1 (by unfold rowBad; rw [if_pos hr16]; exact g2)⟩
      · refine ⟨_, rfl, a, xs, rfl, .inr ⟨hs, ?_⟩⟩
        refine for_it walk_tup (fun j σ H2 => ∃ w3 : Option V, σ = [some (.ref t), some (.ref a), some (.int (wid M)), w3] ∧ Same H1 H2 ∧ (r.take j).findSome? (dayBad (wid M) M.length) = none) ⟨_, rfl, Same.refl _, rfl⟩ (fun j σ H2 _ ⟨_, _, s, _⟩ => Same.seqT s hs) ?_ ?_
        · rintro j x σ H2o H2 hj ⟨w3, rfl, s2, g2⟩ ⟨rfl, hx⟩
          obtain ⟨d, hd, p, rfl, hp⟩ := hrd.at hx
          have hp2 := hp.same s2
          obtain ⟨dx, qx, rx, e1, x1, y1⟩ := id hp2
          have hlen := (hsm.2 r (List.mem_of_getElem? hM)).2 d (List.mem_of_getElem? hd)
          refine ⟨_, rfl, p, C_Day, dx, _, _, rfl, e1, D_Day.cls, D_Day.no _ (by decide), rfl, qx, _, rfl, .inr (SqT.of x1), _, rfl, _, rfl, "plots", .int ((d.1.map V.int).length : Nat), wid M, wid M, rfl, (by decide +kernel), .int _, fun t1 => ?_, fun t1 dd H3 nd s3 hd3 => ?_⟩
          case refine_2 =>
            have t2 : ¬ (d.1.length : Int) = wid M := fun z => by
              rw [List.length_map, z] at t1
              have : decide (wid M ≤ wid M ∧ wid M ≤ wid M) = false := t1
              simp at this
            refine kE "plots" (d.1.length : Nat) (findSome_at hM g1 ?_) dd H3 ((s1.trans s2).free nd) ((s1.trans s2).trans s3) (by rw [List.length_map] at hd3; exact hd3)
            unfold rowBad
            rw [if_pos hr16]
            exact findSome_at hd g2 (by unfold dayBad; rw [if_neg t2])
          have t2 : (d.1.length : Int) = wid M := by
            rw [List.length_map] at t1
            have : decide (wid M ≤ (d.1.length : Int) ∧ (d.1.length : Int) ≤ wid M) = true := t1
            have := of_decide_eq_true this
            omega
          refine ⟨_, rfl, p, C_Day, dx, _, _, rfl, e1, D_Day.cls, D_Day.no _ (by decide), rfl, _, rfl, t, _, rfl, .inr (SqT.of ((s1.trans s2) _ _ ht)), _, _, rfl, rfl, "mood", .int d.2.2.2, 0, _, rfl, (by decide +kernel), .int _, fun t3 => ?_, fun t3 dd H3 nd s3 hd3 => ?_⟩
          case refine_2 =>
            refine kE "mood" d.2.2.2 (findSome_at hM g1 ?_) dd H3 ((s1.trans s2).free nd) ((s1.trans s2).trans s3) hd3
            unfold rowBad
            rw [if_pos hr16]
            refine findSome_at hd g2 ?_
            unfold dayBad
            rw [if_pos t2, if_neg]
            intro z
            have : decide (0 ≤ d.2.2.2 ∧ d.2.2.2 ≤ (rows.length : Nat) - 1) = false := t3
            have := of_decide_eq_false this
            omega
          have t4 : 0 ≤ d.2.2.2 ∧ d.2.2.2 < M.length := by
            have : decide (0 ≤ d.2.2.2 ∧ d.2.2.2 ≤ (rows.length : Nat) - 1) = true := t3
            have := of_decide_eq_true this
            omega
          exact ⟨_, rfl, s2, findSome_snoc hd g2 (by unfold dayBad; rw [if_pos t2, if_pos t4])⟩
        rintro σ H2 ⟨w3, rfl, s2, g2⟩
        rw [hrd.len, List.take_length] at g2
        exact ⟨_, _, _, rfl, s1.trans s2, findSome_snoc hM g1 (by unfold rowBad; rw [if_pos hr16]; exact g2)⟩
    rintro σ H1 ⟨w1, w2, w3, rfl, s1, g1⟩
    rw [hlM, List.take_length] at g1
    exact kOk g1 H1 s1

theorem okWeather___init__ {f : Addr} {fd : FuncData} (F : Fun K "__init__" "Weather.__init__" sWeather___init__ f fd) (T : Txt K mg) {C_BadNumber C_Day C_Weather fi fe fwi fwe : Addr} (D_Day : DatC K mg "Day" C_Day fi fe ["dry", "rain", "fill", "mood"]) (D_Weather : DatC K mg "Weather" C_Weather fwi fwe ["moods", "width"]) (C_xcheck_number : ∃ (g : Addr) (gd : FuncData), FnOk P w K mg base (L2.CX P w) 4 g gd Pcheck_number (spcheck_number C_BadNumber) ∧ mg "check_number" = some (.ref g) ∧ PySem.W.keepIn K (.ref g) = true ∧ Binds K gd Pcheck_number []) (C_x_check_days : ∃ (g : Addr) (gd : FuncData), FnOk P w K mg base (L2.CX P w) 5 g gd P_check_days (sp_check_days K C_Day C_BadNumber) ∧ mg "_check_days" = some (.ref g) ∧ PySem.W.keepIn K (.ref g) = true ∧ Binds K gd P_check_days []) : FnR P w K mg base (L2.CX P w) 7 f (spStar 1 (spWeather_init K C_Weather C_Day C_BadNumber)) := by
  obtain ⟨gcheck_number, gdcheck_number, Gcheck_number, mcheck_number, kcheck_number, bcheck_number⟩ := C_xcheck_number
  obtain ⟨g_check_days, gd_check_days, G_check_days, m_check_days, k_check_days, b_check_days⟩ := C_x_check_days
  obtain ⟨_, c_MOST_MOODS⟩ := T.c_MOST_MOODS
  refine okStar (ps := ["self"]) (pv := "moods") F scWeather___init__ (fun kV doc pm an cdv ct us rest hl => match us, rest, hl with | [_], [], _ => rfl | [_], _ :: _, _ => rfl) (fun cdv A outer s H vs Q E hr h => ?_)
  · obtain ⟨p, dx, t, rows, M, rfl, hp, ht, hrs, hsm, kOk, kE⟩ := h
    refine ⟨_, (pss_cons (ps_expr (pe_callS Gcheck_number (hr.mono (by decide)) (by rfl) mcheck_number kcheck_number bcheck_number (fun σ => passAt (takes_of rfl rfl rfl rfl) σ) (pa_cons pe_str (pa_cons (pe_callB call_len_seq (by rfl) T.b_len PySem.boot_len (pa_cons (pv 1) pa_nil)) (pa_cons pe_int (pa_cons (pe_glob (v := .int 4) rfl c_MOST_MOODS ⟨_, rfl⟩) pa_nil))))))
  (pss_cons (ps_expr (pe_callS G_check_days (hr.mono (by decide)) (by rfl) m_check_days k_check_days b_check_days (fun σ => passAt (takes_of rfl rfl rfl rfl) σ) (pa_cons (pv 1) pa_nil)))
  (pss_cons (ps_fld (pv 0) (pe_callTy (T := "tuple") call_tuple_of (by rfl) T.b_tuple (by decide +kernel) (pa_cons (pe_lc (own := [("days", 2)]) rfl scWeather___init__.nd (pi_tup (pv 1)) (blkOk_by (own := [("days", 2)]) (N := NWeather___init__) (sc := defScope sWeather___init__) (by decide +kernel)) (fun _ _ _ _ _ => (pg_name (i := 2) scWeather___init__.nd rfl (by first | exact Or.inl rfl | exact Or.inr rfl))) (fun _ _ _ _ _ => pts_nil) (fun _ _ _ _ _ => (pe_callTy (T := "tuple") (r := rTupOf K) call_tuple_of (by rfl) T.b_tuple (by decide +kernel) (pa_cons (pv 2) pa_nil)))) pa_nil)) rfl)
  (pss_one (ps_fld (pv 0) (pe_callB call_len_seq (by rfl) T.b_len PySem.boot_len (pa_cons (pe_fld (pe_ix ix_tup (pe_ix ix_tup (pe_fld (pv 0) rfl) pe_int (fun _ _ => rfl)) pe_int (fun _ _ => rfl)) rfl) pa_nil)) rfl))))), ?_⟩
    have hlM : rows.length = M.length := hrs.len
    have frs : ∀ {H1 : Hp}, Same H H1 → Fr2 p dx H H1 := fun s1 b o _ _ e => s1 b o e
    refine ⟨_, rfl, t, _, rfl, .inr (SqT.of ht), "moods", .int (rows.length : Nat), 1, 4, rfl, (by decide +kernel), .int _, fun t0 => ?_, fun t0 d H1 nd s1 hd => ?_⟩
    case refine_2 =>
      refine kE "moods" (M.length : Nat) ?_ d H1 nd (frs s1) (by rw [← hlM]; exact hd)
      unfold wRef
      rw [if_neg]
      intro z
      have : decide ((1 : Int) ≤ (rows.length : Nat) ∧ ((rows.length : Nat) : Int) ≤ 4) = false := t0
      have := of_decide_eq_false this
      omega
    have t0 : 1 ≤ M.length ∧ M.length ≤ 4 := by
      have : decide ((1 : Int) ≤ (rows.length : Nat) ∧ ((rows.length : Nat) : Int) ≤ 4) = true := t0
      have := of_decide_eq_true this
      omega
    have eR : wRef M = daysBad M := by unfold wRef; rw [if_pos t0]
    refine ⟨_, rfl, t, rows, M, rfl, ht, hrs, hsm, fun g0 H1 s1 => ?_, fun tag v g0 d H1 nd s1 hd => ?_⟩
    case refine_2 => exact kE tag v (by rw [eR]; exact g0) d H1 nd (frs s1) hd
    refine ⟨_, rfl, t, rfl, ⟨_, SqT.of (s1 _ _ ht)⟩, fun D hD => ?_⟩
    refine lc_it walk_tup (fun i H2 => ∃ qs : List V, H2 D = some (.lst qs) ∧ qs.length = i ∧ Reps (repT (repDay C_Day)) H2 qs (M.take i) ∧ Same H1 H2) ⟨[], upd_same, rfl, trivial, Same.new hD⟩ (fun i H2 _ ⟨_, _, _, _, s⟩ => SqT.of (s _ _ (s1 _ _ ht))) ?_ ?_
    · rintro i x H2o H2 hi ⟨qs, g1, ql, gq, s2⟩ ⟨rfl, hx⟩
      obtain ⟨r, hM, hq⟩ := hrs.at hx
      have hi4 : i < M.length := by rw [← hlM]; exact hi
      refine ⟨rfl, ?_⟩
      have hq2 := repQ_mono repDay_mono _ _ _ _ (s1.trans s2) hq
      have fin : ∀ (y : V) (H3 : Hp), Same H2 H3 → repT (repDay C_Day) y H3 r → ∃ acc, H3 D = some (.lst acc) ∧ acc.length < sizeLine ∧ ∃ qs : List V, (upd H3 D (.lst (acc ++ [y]))) D = some (.lst qs) ∧ qs.length = i + 1 ∧ Reps (repT (repDay C_Day)) (upd H3 D (.lst (acc ++ [y]))) qs (M.take (i + 1)) ∧ Same H1 (upd H3 D (.lst (acc ++ [y]))) := fun y H3 s3 hy => by
        have gD := s3 _ _ g1
        refine ⟨qs, gD, small1000 (by omega), qs ++ [y], upd_same, by rw [List.length_append, ql]; rfl, ?_, fun b o e => by rw [upd_ne (ne_of_none e hD)]; exact s3 _ _ (s2 _ _ e)⟩
        rw [take_snoc hM]
        exact Reps.app ((gq.mono (repT_mono repDay_mono) s3).imp (repT_keep (keep_lst gD))) (Reps.one (repT_keep (keep_lst gD) _ _ hy))
      rcases hq2 with ⟨a, xs, rfl, e, hrd⟩ | ⟨a, xs, rfl, e, hrd⟩
      · refine ⟨_, rfl, a, _, rfl, .inl ⟨SqL.of e, fun z hz => ?_⟩⟩
        exact fin (.ref z) _ (Same.new hz) ⟨z, xs, rfl, upd_same, hrd.mono repDay_mono (Same.new hz)⟩
      · exact ⟨_, rfl, a, _, rfl, .inr ⟨SqT.of e, fin (.ref a) _ (Same.refl _) ⟨a, xs, rfl, e, hrd⟩⟩⟩
    rintro H2 ⟨qs, g1, ql, gq, s2⟩
    rw [hlM, List.take_length] at gq
    refine ⟨D, _, rfl, .inl ⟨SqL.of g1, fun q hq => ?_⟩⟩
    have s3 : Same H (upd H2 q (.tup qs)) := (s1.trans s2).trans (Same.new hq)
    have gq3 : Reps (repT (repDay C_Day)) (upd H2 q (.tup qs)) qs M := gq.mono (repT_mono repDay_mono) (Same.new hq)
    have p3 := s3 _ _ hp
    have npq : q ≠ p := fun y => by rw [y] at hq; have := (s1.trans s2) _ _ hp; rw [hq] at this; cases this
    refine ⟨_, rfl, p, C_Weather, dx, [], rfl, p3, D_Weather.cls, D_Weather.no "moods" (by decide), (by decide), ?_⟩
    have gq4 : Reps (repT (repDay C_Day)) (upd (upd H2 q (.tup qs)) p (.ins C_Weather dx [("moods", .ref q)])) qs M := gq3.imp (repT_keep (keep_ins p3))
    have eq4 : (upd (upd H2 q (.tup qs)) p (.ins C_Weather dx [("moods", .ref q)])) q = some (.tup qs) := by rw [upd_ne npq]; exact upd_same
    have hM0 : M[0]? = some M[0] := List.getElem?_eq_getElem (by omega)
    generalize M[0]'(by omega) = r0 at hM0
    have hr01 : 1 ≤ r0.length := by
      have := List.findSome?_eq_none_iff.mp g0 r0 (List.mem_of_getElem? hM0)
      unfold rowBad at this
      split at this
      · rename_i z
        exact z.1
      · cases this
    have hd0 : r0[0]? = some r0[0] := List.getElem?_eq_getElem (by omega)
    generalize r0[0]'(by omega) = d0 at hd0
    obtain ⟨x0, hx0, a0, xs0, rfl, hs0, hrd0⟩ := gq4.at' hM0
    obtain ⟨y0, hy0, p0, rfl, hp0⟩ := hrd0.at' hd0
    obtain ⟨dz, qz, rz, e0, z0, _⟩ := id hp0
    refine ⟨_, rfl, p, C_Weather, dx, _, _, rfl, upd_same, D_Weather.cls, D_Weather.no _ (by decide), rfl, q, _, _, _, rfl, rfl, SqT.of eq4, at0 hx0, a0, _, _, _, rfl, rfl, SqT.of hs0, at0 hy0, p0, C_Day, dz, _, _, rfl, e0, D_Day.cls, D_Day.no _ (by decide), rfl, qz, _, rfl, .inr (SqT.of z0), ?_⟩
    have ew : (((d0.1.map V.int).length : Nat) : Int) = wid M := by rw [List.length_map, wid_pos hM0 hd0]
    rw [ew]
    refine ⟨_, rfl, p, C_Weather, dx, _, rfl, upd_same, D_Weather.cls, D_Weather.no "width" (by decide), (by show 1 < 1000; decide), ?_⟩
    rw [upd_upd]
    refine kOk (by rw [eR]; exact g0) q _ (fun b o nb _ e => by rw [upd_ne nb]; exact s3 _ _ e) ⟨q, qs, rfl, by rw [upd_ne npq]; exact upd_same, gq3.imp (repT_keep (keep_ins p3))⟩ upd_same

theorem okWeather___eq__ {f : Addr} {fd : FuncData} (F : Fun K "__eq__" "Weather.__eq__" sWeather___eq__ f fd) (T : Txt K mg) {C_BadNumber C_Day C_Weather fi fe fwi fwe : Addr} (D_Day : DatC K mg "Day" C_Day fi fe ["dry", "rain", "fill", "mood"]) (D_Weather : DatC K mg "Weather" C_Weather fwi fwe ["moods", "width"]) {fde : FuncData} (GDay___eq__ : FnOk P w K mg base CX0 1 fe fde PDay___eq__ (spDay_eq C_Day)) (bDay___eq__ : Binds K fde PDay___eq__ []) : FnOk P w K mg base CX0 4 f fd PWeather___eq__ (spWeather_eq C_Weather C_Day) := by
  refine F.ok scWeather___eq__ (fun vs H Q E h => ?_) (fun cdv A outer s H vs Q E hr h => ?_)
  · obtain ⟨p, q, M, N, rfl, hp, hq, k⟩ := h
    rfl
  · obtain ⟨p, q, M, N, rfl, hp, hq, k⟩ := h
    refine ⟨_, (pss_one (ps_ret (pe_and (pe_callB (id := "isinstance") call_isi (by rfl) T.b_isinstance (by decide +kernel) (pa_cons (pv 1) (pa_cons (pe_glob (v := .ref C_Weather) rfl D_Weather.g rfl) pa_nil))) (pe_one (pe_cmpR (op_eqR (rc_T (.inl ⟨rfl, rfl⟩) (repT_mono repDay_mono) (eqR_T repDay_mono repDay_fn (eqR_Day GDay___eq__ D_Day.eq D_Day.fe bDay___eq__))) (hr.mono (by decide))) (pe_fld (pv 0) rfl) (pe_fld (pv 1) rfl) (nomark _)))))), ?_⟩
    obtain ⟨dx, qx, e1, x1⟩ := hp
    obtain ⟨dy, qy, e2, x2⟩ := hq
    refine ⟨_, rfl, _, _, _, _, true, rfl, .own _, .base (.ins e2 D_Weather.cls D_Weather.ha D_Weather.hn D_Weather.htk D_Weather.hm), D_Weather.kit, true, rfl, iteT ?_⟩
    exact ⟨_, rfl, p, C_Weather, dx, _, _, rfl, e1, D_Weather.cls, D_Weather.no _ (by decide), rfl, _, rfl, q, C_Weather, dy, _, _, rfl, e2, D_Weather.cls, D_Weather.no _ (by decide), rfl, M, N, x1, x2, k⟩

theorem okWeather___len__ {f : Addr} {fd : FuncData} (F : Fun K "__len__" "Weather.__len__" sWeather___len__ f fd) (T : Txt K mg) {C_BadNumber C_Day C_Weather fi fe fwi fwe : Addr} (D_Day : DatC K mg "Day" C_Day fi fe ["dry", "rain", "fill", "mood"]) (D_Weather : DatC K mg "Weather" C_Weather fwi fwe ["moods", "width"]) : FnOk P w K mg base CX0 1 f fd PWeather___len__ (spWeather_len C_Weather C_Day) := by
  refine F.ok scWeather___len__ (fun vs H Q E h => ?_) (fun cdv A outer s H vs Q E hr h => ?_)
  · obtain ⟨p, M, rfl, hp, k⟩ := h
    rfl
  · obtain ⟨p, M, rfl, hp, k⟩ := h
    refine ⟨_, (pss_one (ps_ret (pe_callB call_len_seq (by rfl) T.b_len PySem.boot_len (pa_cons (pe_fld (pv 0) rfl) pa_nil)))), ?_⟩
    obtain ⟨dx, qx, e1, q, xs, e, x1, hr1⟩ := hp
    cases e
    refine ⟨_, rfl, p, C_Weather, dx, _, _, rfl, e1, D_Weather.cls, D_Weather.no _ (by decide), rfl, qx, _, rfl, .inr (SqT.of x1), ?_⟩
    rw [hr1.len]
    exact k

theorem okWeather___getitem__ {f : Addr} {fd : FuncData} (F : Fun K "__getitem__" "Weather.__getitem__" sWeather___getitem__ f fd) (T : Txt K mg) {C_BadNumber C_Day C_Weather fi fe fwi fwe : Addr} (D_Day : DatC K mg "Day" C_Day fi fe ["dry", "rain", "fill", "mood"]) (D_Weather : DatC K mg "Weather" C_Weather fwi fwe ["moods", "width"]) (C_xcheck_number : ∃ (g : Addr) (gd : FuncData), FnOk P w K mg base (L2.CX P w) 4 g gd Pcheck_number (spcheck_number C_BadNumber) ∧ mg "check_number" = some (.ref g) ∧ PySem.W.keepIn K (.ref g) = true ∧ Binds K gd Pcheck_number []) : FnOk P w K mg base (L2.CX P w) 5 f fd PWeather___getitem__ (spWeather_get C_Weather C_Day C_BadNumber) := by
  obtain ⟨gcheck_number, gdcheck_number, Gcheck_number, mcheck_number, kcheck_number, bcheck_number⟩ := C_xcheck_number
  refine F.okX scWeather___getitem__ (fun vs H Q E h => ?_) (fun cdv A outer s H vs Q E hr h => ?_)
  · obtain ⟨p, M, k, rfl, hp, kT, kE⟩ := h
    rfl
  · obtain ⟨p, M, k, rfl, hp, kT, kE⟩ := h
    refine ⟨_, (pss_one (ps_ret (pe_ix ix_tup (pe_fld (pv 0) rfl) (pe_callS Gcheck_number (hr.mono (by decide)) (by rfl) mcheck_number kcheck_number bcheck_number (fun σ => passAt (takes_of rfl rfl rfl rfl) σ) (pa_cons pe_str (pa_cons (pv 1) (pa_cons pe_int (pa_cons (pe_op op_sub (pe_callB call_len_seq (by rfl) T.b_len PySem.boot_len (pa_cons (pe_fld (pv 0) rfl) pa_nil)) pe_int) pa_nil))))) (fun _ _ => rfl)))), ?_⟩
    obtain ⟨dx, qx, e1, q, xs, e, x1, hr1⟩ := hp
    cases e
    refine ⟨_, rfl, p, C_Weather, dx, _, _, rfl, e1, D_Weather.cls, D_Weather.no _ (by decide), rfl, _, rfl, _, rfl, p, C_Weather, dx, _, _, rfl, e1, D_Weather.cls, D_Weather.no _ (by decide), rfl, qx, _, rfl, .inr (SqT.of x1), _, _, rfl, rfl, "mood", .int k, 0, _, rfl, (by decide +kernel), .int _, fun t0 => ?_, fun t0 d H1 nd s1 hd => ?_⟩
    case refine_2 =>
      refine kE (fun z => ?_) d H1 nd s1 hd
      have : decide (0 ≤ k ∧ k ≤ (xs.length : Nat) - 1) = false := t0
      have := of_decide_eq_false this
      have := hr1.len
      omega
    have t0 : 0 ≤ k ∧ k < xs.length := by
      have : decide (0 ≤ k ∧ k ≤ (xs.length : Nat) - 1) = true := t0
      have := of_decide_eq_true this
      omega
    obtain ⟨n, rfl⟩ : ∃ n : Nat, k = (n : Int) := ⟨k.toNat, by omega⟩
    have hx : xs[n]? = some xs[n] := List.getElem?_eq_getElem (by omega)
    generalize xs[n]'(by omega) = y at hx
    obtain ⟨r, hM, hy⟩ := hr1.at hx
    exact ⟨qx, _, _, _, rfl, rfl, SqT.of x1, atI_nat hx, kT n r rfl hM y H (Same.refl _) hy⟩
end
end Wb

namespace Wb
open PySem PySem.Spec PyProof.Rows L2 Wx StX NdefX RZ StX PyProof.Rows.FinIter
section
variable {P : Program} {w : World} {K : PySem.W.Frag} {mg : Str → Option Value} {base : Heap}

theorem scr_ofL {K : PySem.W.Frag} {H H' : Hp} {a s : Addr} {L : List Addr} (h : Scr K H a s) (n : ∀ p, p ∈ L → H p = none) (f : Frm (s :: L) H H') (q : St4 H' s) : Scr K H' a s := by
  obtain ⟨⟨ns, h1, h2⟩, _⟩ := h
  refine ⟨⟨ns, Same.seq (fun b o e => ?_) h1, h2⟩, q⟩
  have nb : ¬ b ∈ [s] := fun y => by
    rw [show hid [s] H b = none from if_pos y] at e
    cases e
  rw [hid_eq nb] at e ⊢
  refine f b o (fun y => ?_) e
  rcases List.mem_cons.mp y with z | z
  · exact nb (by rw [z]; exact List.mem_cons_self)
  · rw [n b z] at e
    cases e
theorem Frm.dropL {s : Addr} {L : List Addr} {H H' : Hp} (n : ∀ p, p ∈ L → H p = Option.none) (f : Frm (s :: L) H H') : Frm [s] H H' := fun b o nb e => f b o (fun y => by
  rcases List.mem_cons.mp y with z | z
  · exact nb (by rw [z]; exact List.mem_cons_self)
  · rw [n b z] at e
    cases e) e
theorem two_le : (2 : Nat) ≤ sizeLine := by rw [sizeLine_eq]; show 2 ≤ 16777216; decide

theorem cmul_small {i j : Int} (h : 0 ≤ i ∧ i ≤ 100) : CMul i j := by
  have e : (2 : Int) ^ 64 = 18446744073709551616 := by decide
  refine .inl ⟨?_, ?_⟩
  · rw [e]; omega
  · rw [e]; omega
/-- a day of width w whose next mood is below k -/
def OkD (w k : Int) (d : DayD) : Prop := VDay d.1 d.2.1 d.2.2.1 d.2.2.2 ∧ (d.1.length : Int) = w ∧ d.2.2.2 < k
theorem OkD.none {w k : Int} {d : DayD} (h : OkD w k d) : dayBad w k d = Option.none := by
  obtain ⟨⟨h1, h2, h3, h4, h5, h6, h7, h8, h9⟩, h10, h11⟩ := h
  unfold dayBad
  rw [if_pos h10, if_pos ⟨h8, h11⟩]
theorem OkD.more {w k k' : Int} {d : DayD} (h : OkD w k d) (hk : k ≤ k') : OkD w k' d := ⟨h.1, h.2.1, Int.lt_of_lt_of_le h.2.2 hk⟩
/-- rows of such days, 1 to n each -/
def OkR (w k : Int) (n : Nat) (r : List DayD) : Prop := 1 ≤ r.length ∧ r.length ≤ n ∧ ∀ d, d ∈ r → OkD w k d
theorem OkR.none {w k : Int} {n : Nat} {r : List DayD} (h : OkR w k n r) (hn : n ≤ 6) : rowBad w k r = Option.none := by
  unfold rowBad
  rw [if_pos ⟨h.1, Nat.le_trans h.2.1 hn⟩]
  exact List.findSome?_eq_none_iff.mpr fun d hd => (h.2.2 d hd).none
def OkM (w k : Int) (n : Nat) (M : List (List DayD)) : Prop := ∀ r, r ∈ M → OkR w k n r
theorem OkM.wid {w k : Int} {n : Nat} {M : List (List DayD)} (h : OkM w k n M) (h1 : 1 ≤ M.length) : Wb.wid M = w := by
  obtain ⟨r, hM⟩ : ∃ r, M[0]? = some r := ⟨_, List.getElem?_eq_getElem (by omega)⟩
  have hr := h r (List.mem_of_getElem? hM)
  obtain ⟨d, hd⟩ : ∃ d, r[0]? = some d := ⟨_, List.getElem?_eq_getElem (by have := hr.1; omega)⟩
  rw [wid_pos hM hd]
  exact (hr.2.2 _ (List.mem_of_getElem? hd)).2.1
theorem OkM.small {w k : Int} {n : Nat} {M : List (List DayD)} (h : OkM w k n M) (hn : n ≤ 1000) (hl : M.length ≤ 1000) : Small M :=
  ⟨hl, fun r hr => ⟨Nat.le_trans (h r hr).2.1 hn, fun d hd => by
    obtain ⟨v, _⟩ := (h r hr).2.2 d hd
    have := v.2.1
    omega⟩⟩
theorem OkM.ref {w : Int} {n : Nat} {M : List (List DayD)} (h : OkM w M.length n M) (hn : n ≤ 6) (h1 : 1 ≤ M.length) (h4 : M.length ≤ 4) : wRef M = Option.none := by
  unfold wRef daysBad
  rw [if_pos ⟨h1, h4⟩, h.wid h1]
  exact List.findSome?_eq_none_iff.mpr fun r hr => (h r hr).none hn
theorem Reps.q {α : Type} {R : Rep α} {H : Hp} {xs : List V} {as : List (List α)} (h : Reps (repL R) H xs as) : Reps (repQ R) H xs as := h.imp fun _ _ z => .inl z
theorem Reps.qT {α : Type} {R : Rep α} {H : Hp} {xs : List V} {as : List (List α)} (h : Reps (repT R) H xs as) : Reps (repQ R) H xs as := h.imp fun _ _ z => .inr z
theorem w_call {K : PySem.W.Frag} {CW CD CM : Addr} {H : Hp} {xs : List V} {M : List (List DayD)} {x dx : Addr} {R : Hp → Prop} {E : XK} (hr : Reps (repQ (repDay CD)) H xs M) (hs : Small M) (nx : H x = none) (nd : H dx = none)
    (kT : wRef M = none → ∀ H', Same H H' → WAt CW CD H' x M → R H') (kE : ∀ tag v, wRef M = some (tag, v) → ∀ (d : Addr) (H' : Hp), H d = none → Same H H' → H' d = some (.xd [("value", .int v), ("what", .str tag)]) → E (.ref CM) (some d) H') :
    spStar 1 (spWeather_init K CW CD CM) (V.ref x :: xs) (upd (upd H dx (.own x)) x (.ins CW dx [])) (fun v H2 => v = .non ∧ R H2) E := by
  have sm : Same H (upd (upd H dx (.own x)) x (.ins CW dx [])) := fun b o e => by rw [upd_ne (ne_of_none e nx), upd_ne (ne_of_none e nd)]; exact e
  refine star1 (bigN (by rw [hr.len]; have := hs.1; omega)) fun p hp => ?_
  have npx : x ≠ p := ne_of_none upd_same hp
  have sp := sm.trans (Same.new (o := .tup xs) hp)
  have back : ∀ {H' : Hp}, Fr2 x dx (upd (upd (upd H dx (.own x)) x (.ins CW dx [])) p (.tup xs)) H' → Same H H' := fun fr b o e => fr b o (ne_of_none e nx) (ne_of_none e nd) (sp _ _ e)
  refine ⟨x, dx, p, xs, M, rfl, by rw [upd_ne npx]; exact upd_same, upd_same, hr.mono (repQ_mono repDay_mono) sp, hs, fun e q H' fr rq ep => ⟨rfl, kT e H' (back fr) ⟨dx, q, ep, rq⟩⟩, fun tag v e d H' nd' fr hd => kE tag v e d H' (sp.free nd') (back fr) hd⟩
def sp_law_day (K : PySem.W.Frag) (CD : Addr) : Sp := fun vs H Q _ => ∃ (a s : Addr) (many most moods : Int), vs = [.ref a, .ref s, .int many, .int most, .int moods] ∧ Scr K H a s ∧ 1 ≤ many ∧ many ≤ 4 ∧ 0 ≤ most ∧ most ≤ 7 ∧ 1 ≤ moods ∧ moods ≤ 4 ∧
  ∀ (x : V) (H' : Hp) (d : DayD), repDay CD x H' d → OkD many moods d → (∀ i, i ∈ d.1 → i ≤ most) → Frm [s] H H' → Scr K H' a s → Q x H'
def sp_law_refusalW (K : PySem.W.Frag) (CD : Addr) : Sp := fun vs H Q _ => ∃ (R : Addr) (rs : List V) (M : List (List DayD)), vs = [.ref R] ∧ H R = some (.lst rs) ∧ Reps (repL (repDay CD)) H rs M ∧ Small M ∧ M.length ≤ 5 ∧
  ∀ (tag : Str) (v : Int), (wRef M).getD ("none", 0) = (tag, v) → ∀ (q : Addr) (H' : Hp), H q = none → H' q = some (.tup [.str tag, .int v]) → Same H H' → Q (.ref q) H'
def sp_law_item (CW CD : Addr) : Sp := fun vs H Q _ => ∃ (p : Addr) (M : List (List DayD)) (k : Int), vs = [.ref p, .int k] ∧ WAt CW CD H p M ∧
  (∀ (n : Nat) (r : List DayD), k = n → M[n]? = some r → ∀ x, ∀ H', Same H H' → repT (repDay CD) x H' r → Q x H') ∧
  (¬ (0 ≤ k ∧ k < M.length) → ∀ (q : Addr) (H' : Hp), H q = none → H' q = some (.tup [.str "mood", .int k]) → Same H H' → Q (.ref q) H')
def sp_law_made (CW CD : Addr) : Sp := fun vs H Q _ => ∃ (R : Addr) (rs : List V) (M : List (List DayD)), vs = [.ref R] ∧ H R = some (.lst rs) ∧ Reps (repQ (repDay CD)) H rs M ∧ Small M ∧ wRef M = none ∧ M.length ≤ 3 ∧ ∀ (x : Addr) (H' : Hp), Same H H' → WAt CW CD H' x M → Q (.ref x) H'

theorem ok_law_day {f : Addr} {fd : FuncData} (F : Fun K "_law_day" "_law_day" s_law_day f fd) (T : Txt K mg) {C_BadNumber C_Day C_Weather fi fe fwi fwe : Addr} (D_Day : DatC K mg "Day" C_Day fi fe ["dry", "rain", "fill", "mood"]) (D_Weather : DatC K mg "Weather" C_Weather fwi fwe ["moods", "width"]) {fdi : FuncData} (GDay___init__ : FnOk P w K mg base (L2.CX P w) 6 fi fdi PDay___init__ (spDay_init K C_Day C_BadNumber)) (bDay___init__ : Binds K fdi PDay___init__ []) (C_law_draw : Cal P w K mg base "_law_draw" P_law_draw 1 (sp_law_draw K)) : FnOk P w K mg base CX0 9 f fd P_law_day (sp_law_day K C_Day) := by
  obtain ⟨g_law_draw, gd_law_draw, G_law_draw, m_law_draw, k_law_draw, b_law_draw⟩ := C_law_draw.ex
  refine F.ok sc_law_day (fun vs H Q E h => ?_) (fun cdv A outer s H vs Q E hr h => ?_)
  · obtain ⟨a, s0, many, most, moods, rfl, hS, hm1, hm4, hp0, hp7, ho1, ho4, k⟩ := h
    rfl
  · obtain ⟨a, s0, many, most, moods, rfl, hS, hm1, hm4, hp0, hp7, ho1, ho4, k⟩ := h
    refine ⟨_, (pss_cons (ps_setLc (i := 5) (own := [("k", 7)]) rfl sc_law_day.nd rfl rfl (sw_true rfl rfl rfl (by decide +kernel)) (pi_range1 rfl T.b_range (pa_cons (pv 2) pa_nil)) (blkOk_by (own := [("k", 7)]) (N := N_law_day) (sc := defScope s_law_day) (by decide +kernel)) (fun _ _ _ _ _ => (pg_name (i := 7) sc_law_day.nd rfl (by first | exact Or.inl rfl | exact Or.inr rfl))) (fun _ _ _ _ _ => pts_nil) (fun _ _ _ _ _ => (pe_call G_law_draw (hr.mono (by decide)) (by rfl) m_law_draw k_law_draw b_law_draw .nil pass0 (pa_cons (pv 0) (pa_cons (pv 1) (pa_cons (pe_op op_add (pv 3) pe_int) pa_nil))))))
  (pss_cons (ps_setLc (i := 6) (own := [("k", 7)]) rfl sc_law_day.nd rfl rfl (sw_true rfl rfl rfl (by decide +kernel)) (pi_range1 rfl T.b_range (pa_cons (pv 2) pa_nil)) (blkOk_by (own := [("k", 7)]) (N := N_law_day) (sc := defScope s_law_day) (by decide +kernel)) (fun _ _ _ _ _ => (pg_name (i := 7) sc_law_day.nd rfl (by first | exact Or.inl rfl | exact Or.inr rfl))) (fun _ _ _ _ _ => pts_nil) (fun _ _ _ _ _ => (pe_op op_mul (pe_callTy (T := "int") call_int1 (by rfl) T.b_int (by decide +kernel) (pa_cons (pe_call G_law_draw (hr.mono (by decide)) (by rfl) m_law_draw k_law_draw b_law_draw .nil pass0 (pa_cons (pv 0) (pa_cons (pv 1) (pa_cons pe_int pa_nil)))) pa_nil)) (pe_call G_law_draw (hr.mono (by decide)) (by rfl) m_law_draw k_law_draw b_law_draw .nil pass0 (pa_cons (pv 0) (pa_cons (pv 1) (pa_cons (pe_op op_add (pv 3) pe_int) pa_nil)))))))
  (pss_one (ps_ret (pe_makeS D_Day.mkk GDay___init__ (hr.mono (by decide)) (by rfl) D_Day.g bDay___init__ (fun σ => passAt takes0 σ) (pa_cons (pv 5) (pa_cons (pv 6) (pa_cons (pe_call G_law_draw (hr.mono (by decide)) (by rfl) m_law_draw k_law_draw b_law_draw .nil pass0 (pa_cons (pv 0) (pa_cons (pv 1) (pa_cons (pe_op op_add (pv 3) pe_int) pa_nil)))) (pa_cons (pe_call G_law_draw (hr.mono (by decide)) (by rfl) m_law_draw k_law_draw b_law_draw .nil pass0 (pa_cons (pv 0) (pa_cons (pv 1) (pa_cons (pv 4) pa_nil)))) pa_nil))))))))), ?_⟩
    refine ⟨_, rfl, _, rfl, by omega, by omega, fun D hD => ?_⟩
    have nDs : ¬ D = s0 := hS.ne hD
    have nD : ¬ D ∈ [s0] := fun y => nDs (by simpa using y)
    refine lc_it walk_range (fun i H3 => ∃ ks : List Int, H3 D = some (.lst (ks.map V.int)) ∧ ks.length = i ∧ (∀ x, x ∈ ks → 0 ≤ x ∧ x ≤ most) ∧ Frm [D, s0] H H3 ∧ Scr K H3 a s0) ⟨[], upd_same, rfl, (fun x h => by cases h), (Frm.put List.mem_cons_self), hS.same (Same.new hD)⟩ (fun _ _ _ _ => trivial) ?_ ?_
    · rintro i x H3o H3 hi ⟨ks, g3, hk, hb, f3, sc3⟩ ⟨rfl, rfl⟩
      refine ⟨rfl, ?_⟩
      refine ⟨_, rfl, _, rfl, _, rfl, _, _, rfl, rfl, a, s0, most + 1, rfl, sc3, by omega, by omega, fun d H4 d0 d1 f4 sc4 => ?_⟩
      have g4 := f4 _ _ nD g3
      have fr := (f3.trans (f4.mono (fun b h => List.mem_cons_of_mem _ h))).put' (o := .lst (ks.map V.int ++ [.int d])) (List.mem_cons_self (a := D) (l := [s0]))
      refine ⟨_, g4, small1000 (by rw [List.length_map, hk]; omega), ks ++ [d], by rw [upd_same, List.map_append]; rfl, by rw [List.length_append, hk]; rfl, fun x hx => ?_, fr, ?_⟩
      · rcases List.mem_append.mp hx with q | q
        · exact hb x q
        · rw [List.mem_singleton.mp q]
          omega
      · obtain ⟨i1, i2, i3, i4, e4⟩ := sc4.2
        exact scr_of hS hD fr ⟨i1, i2, i3, i4, by rw [upd_ne (fun q => nDs q.symm)]; exact e4⟩
    rintro H3 ⟨ds, g3, hk3, hb3, f3, sc3⟩
    refine ⟨_, rfl, _, rfl, by omega, by omega, fun R hR => ?_⟩
    have nRs : ¬ R = s0 := sc3.ne hR
    have nR : ¬ R ∈ [s0] := fun y => nRs (by simpa using y)
    have nRD : D ≠ R := ne_of_none g3 hR
    refine lc_it walk_range (fun i H5 => ∃ ks : List Int, H5 R = some (.lst (ks.map V.int)) ∧ ks.length = i ∧ (∀ x, x ∈ ks → 0 ≤ x ∧ x ≤ most) ∧ Frm [R, s0] H3 H5 ∧ Scr K H5 a s0) ⟨[], upd_same, rfl, (fun x h => by cases h), (Frm.put List.mem_cons_self), sc3.same (Same.new hR)⟩ (fun _ _ _ _ => trivial) ?_ ?_
    · rintro i x H5o H5 hi ⟨ks, g5, hk, hb, f5, sc5⟩ ⟨rfl, rfl⟩
      refine ⟨rfl, ?_⟩
      refine ⟨_, rfl, _, rfl, a, s0, 2, rfl, sc5, by decide, by decide, fun c H6 c0 c1 f6 sc6 => .inl ⟨_, rfl, ?_⟩⟩
      refine ⟨_, rfl, _, rfl, _, rfl, _, _, rfl, rfl, a, s0, most + 1, rfl, sc6, by omega, by omega, fun d H4 d0 d1 f4 sc4 => ⟨_, _, rfl, rfl, cmul_small ⟨c0, by omega⟩, ?_⟩⟩
      have hcd : 0 ≤ c * d ∧ c * d ≤ most := by
        have : c = 0 ∨ c = 1 := by omega
        rcases this with rfl | rfl
        · rw [Int.zero_mul]; omega
        · rw [Int.one_mul]; omega
      have g4 := f4 _ _ nR (f6 _ _ nR g5)
      have fr := (f5.trans ((f6.trans f4).mono (fun b h => List.mem_cons_of_mem _ h))).put' (o := .lst (ks.map V.int ++ [.int (c * d)])) (List.mem_cons_self (a := R) (l := [s0]))
      refine ⟨_, g4, small1000 (by rw [List.length_map, hk]; omega), ks ++ [c * d], by rw [upd_same, List.map_append]; rfl, by rw [List.length_append, hk]; rfl, fun x hx => ?_, fr, ?_⟩
      · rcases List.mem_append.mp hx with q | q
        · exact hb x q
        · rw [List.mem_singleton.mp q]
          exact hcd
      · obtain ⟨i1, i2, i3, i4, e4⟩ := sc4.2
        exact scr_of sc3 hR fr ⟨i1, i2, i3, i4, by rw [upd_ne (fun q => nRs q.symm)]; exact e4⟩
    rintro H5 ⟨rs, g5, hk5, hb5, f5, sc5⟩
    refine ⟨_, rfl, _, rfl, _, rfl, _, rfl, _, rfl, _, _, rfl, rfl, a, s0, most + 2, rfl, sc5, by omega, by omega, fun fl H6 f0 f1 f6 sc6 => ⟨_, rfl, _, rfl, _, rfl, a, s0, moods, rfl, sc6, by omega, by omega, fun mo H7 m0 m1 f7 sc7 => ?_⟩⟩
    have g57 := f7 _ _ nR (f6 _ _ nR g5)
    have g37 := f7 _ _ nD (f6 _ _ nD (f5 _ _ (by simp [nRD, nDs]) g3))
    have fA : Frm [s0] H H7 := ((Frm.drop hD (Frm.refl _ _) f3).trans (Frm.drop hR (Frm.refl _ _) f5)).trans (f6.trans f7)
    have hv : VDay ds rs fl mo := ⟨by omega, by omega, by omega, fun x hx => by have := hb3 x hx; omega, fun x hx => by have := hb5 x hx; omega, by omega, by omega, by omega, by omega⟩
    refine fun x dx nx nd _ => day_make hv (.inl (SqL.of g37)) (.inl (SqL.of g57)) nx nd fun H8 s8 st => ?_
    exact k (.ref x) H8 (ds, rs, fl, mo) ⟨x, rfl, st⟩ ⟨hv, by show (ds.length : Int) = many; omega, by show mo < moods; omega⟩ (fun i hi => (hb3 i hi).2) (fA.trans (Frm.of_same s8)) (sc7.same s8)

theorem ok_law_refusal {f : Addr} {fd : FuncData} (F : Fun K "_law_refusal" "_law_refusal" s_law_refusal f fd) (T : Txt K mg) {C_BadNumber f_BadNumber cda_BadNumber cc_BadNumber : Addr} {fd_BadNumber : FuncData} (E_BadNumber : ErrC P K mg "BadNumber" "BadNumber.__init__" C_BadNumber f_BadNumber cda_BadNumber cc_BadNumber) (G_BadNumber : FnOk P w K mg base CX0 2 f_BadNumber fd_BadNumber PBadNumber___init__ (spBadNumber C_BadNumber)) (b_BadNumber : Binds K fd_BadNumber PBadNumber___init__ []) {C_Day C_Weather fi fe fwi fwe : Addr} (D_Day : DatC K mg "Day" C_Day fi fe ["dry", "rain", "fill", "mood"]) (D_Weather : DatC K mg "Weather" C_Weather fwi fwe ["moods", "width"]) (GWeather___init__ : FnR P w K mg base (L2.CX P w) 7 fwi (spStar 1 (spWeather_init K C_Weather C_Day C_BadNumber))) : FnOk P w K mg base CX0 9 f fd P_law_refusal (sp_law_refusalW K C_Day) := by
  refine F.ok sc_law_refusal (fun vs H Q E h => ?_) (fun cdv A outer s H vs Q E hr h => ?_)
  · obtain ⟨R, rs, M, rfl, eR, hrs, hsm, hl5, k⟩ := h
    rfl
  · obtain ⟨R, rs, M, rfl, eR, hrs, hsm, hl5, k⟩ := h
    refine ⟨_, (pss_cons (ps_try_ass (i := 1) rfl rfl rfl sc_law_refusal.nd rfl rfl takes0 (fun W pn xe tk _ => (pss_one (ps_if (pt_cmpR op_eq (pe_callB (r := rLenSeq K) call_len_seq (by rfl) T.b_len PySem.boot_len (pa_cons (pv 0) pa_nil)) pe_int (nomark _))
  (pss_one (ps_expr (pe_makeRS0 D_Weather.mkk GWeather___init__ (hr.mono (by decide)) (by rfl) D_Weather.g (fun σ => passAt tk σ))))
  (pss_one (ps_if (pt_cmpR op_eq (pe_callB (r := rLenSeq K) call_len_seq (by rfl) T.b_len PySem.boot_len (pa_cons (pv 0) pa_nil)) pe_int (nomark _))
  (pss_one (ps_expr (pe_makeRS D_Weather.mkk GWeather___init__ (hr.mono (by decide)) (by rfl) D_Weather.g (fun σ => passAt tk σ) (pa_cons (pe_ix (r := rIxL K) ix_list (pv 0) pe_int (fun _ _ => rfl)) pa_nil))))
  (pss_one (ps_if (pt_cmpR op_eq (pe_callB (r := rLenSeq K) call_len_seq (by rfl) T.b_len PySem.boot_len (pa_cons (pv 0) pa_nil)) pe_int (nomark _))
  (pss_one (ps_expr (pe_makeRS D_Weather.mkk GWeather___init__ (hr.mono (by decide)) (by rfl) D_Weather.g (fun σ => passAt tk σ) (pa_cons (pe_ix (r := rIxL K) ix_list (pv 0) pe_int (fun _ _ => rfl)) (pa_cons (pe_ix (r := rIxL K) ix_list (pv 0) pe_int (fun _ _ => rfl)) pa_nil)))))
  (pss_one (ps_if (pt_cmpR op_eq (pe_callB (r := rLenSeq K) call_len_seq (by rfl) T.b_len PySem.boot_len (pa_cons (pv 0) pa_nil)) pe_int (nomark _))
  (pss_one (ps_expr (pe_makeRS D_Weather.mkk GWeather___init__ (hr.mono (by decide)) (by rfl) D_Weather.g (fun σ => passAt tk σ) (pa_cons (pe_ix (r := rIxL K) ix_list (pv 0) pe_int (fun _ _ => rfl)) (pa_cons (pe_ix (r := rIxL K) ix_list (pv 0) pe_int (fun _ _ => rfl)) (pa_cons (pe_ix (r := rIxL K) ix_list (pv 0) pe_int (fun _ _ => rfl)) pa_nil))))))
  (pss_one (ps_if (pt_cmpR op_eq (pe_callB (r := rLenSeq K) call_len_seq (by rfl) T.b_len PySem.boot_len (pa_cons (pv 0) pa_nil)) pe_int (nomark _))
  (pss_one (ps_expr (pe_makeRS D_Weather.mkk GWeather___init__ (hr.mono (by decide)) (by rfl) D_Weather.g (fun σ => passAt tk σ) (pa_cons (pe_ix (r := rIxL K) ix_list (pv 0) pe_int (fun _ _ => rfl)) (pa_cons (pe_ix (r := rIxL K) ix_list (pv 0) pe_int (fun _ _ => rfl)) (pa_cons (pe_ix (r := rIxL K) ix_list (pv 0) pe_int (fun _ _ => rfl)) (pa_cons (pe_ix (r := rIxL K) ix_list (pv 0) pe_int (fun _ _ => rfl)) pa_nil)))))))
  (pss_one (ps_expr (pe_makeRS D_Weather.mkk GWeather___init__ (hr.mono (by decide)) (by rfl) D_Weather.g (fun σ => passAt tk σ) (pa_cons (pe_ix (r := rIxL K) ix_list (pv 0) pe_int (fun _ _ => rfl)) (pa_cons (pe_ix (r := rIxL K) ix_list (pv 0) pe_int (fun _ _ => rfl)) (pa_cons (pe_ix (r := rIxL K) ix_list (pv 0) pe_int (fun _ _ => rfl)) (pa_cons (pe_ix (r := rIxL K) ix_list (pv 0) pe_int (fun _ _ => rfl)) (pa_cons (pe_ix (r := rIxL K) ix_list (pv 0) pe_int (fun _ _ => rfl)) pa_nil))))))))))))))))))) (by exact (.cons ⟨rfl, by decide, Or.inl E_BadNumber.g⟩ (fun a oe cls d pn hz hf => (pss_one (ps_ret (pe_tup (pa_cons (pe_xf E_BadNumber.xf E_BadNumber.noWhat hz hf (pv 1)) (pa_cons (pe_xf E_BadNumber.xf E_BadNumber.noValue hz hf (pv 1)) pa_nil)))))) .nil)))
  (pss_one (ps_ret (pe_tup (pa_cons pe_str (pa_cons pe_int pa_nil)))))), ?_⟩
    have hl := hrs.len
    rcases rs with _ | ⟨v0, _ | ⟨v1, _ | ⟨v2, _ | ⟨v3, _ | ⟨v4, _ | ⟨v5, rest⟩⟩⟩⟩⟩⟩
    · have eR := eR
      refine ⟨_, rfl, R, _, rfl, .inl (SqL.of eR), rfl, _, rfl, ite2 (fun _ => ?_) (fun z => absurd (by simp) z)⟩
      refine fun x dx nx nd _ => w_call (Reps.q hrs) hsm nx nd (fun e H2 s2 _ => ?_) (fun tag v e d H2 nd2 s2 hd => ⟨true, E_BadNumber.exm, fun _ a na => ?_, fun q => by cases q⟩)
      · refine ⟨two_le, fun q hq => ?_⟩
        exact k _ _ (by rw [e]; rfl) q _ (s2.free hq) upd_same (s2.trans (Same.new hq))
      · refine ⟨_, rfl, rfl, rfl, d, _, _, rfl, hd, look_what, _, rfl, rfl, rfl, d, _, _, rfl, hd, look_val, two_le, fun q hq => ?_⟩
        exact k _ _ (by rw [e]; rfl) q _ (s2.free hq) upd_same (s2.trans (Same.new hq))
    · have eR := eR
      refine ⟨_, rfl, R, _, rfl, .inl (SqL.of eR), rfl, _, rfl, ite2 (fun z => absurd z (by simp)) (fun _ => ?_)⟩
      refine ⟨_, rfl, R, _, rfl, .inl (SqL.of eR), rfl, _, rfl, ite2 (fun _ => ?_) (fun z => absurd (by simp) z)⟩
      refine ⟨_, rfl, R, _, _, _, rfl, rfl, SqL.of eR, rfl, fun x dx nx nd _ => w_call (Reps.q hrs) hsm nx nd (fun e H2 s2 _ => ?_) (fun tag v e d H2 nd2 s2 hd => ⟨true, E_BadNumber.exm, fun _ a na => ?_, fun q => by cases q⟩)⟩
      · refine ⟨two_le, fun q hq => ?_⟩
        exact k _ _ (by rw [e]; rfl) q _ (s2.free hq) upd_same (s2.trans (Same.new hq))
      · refine ⟨_, rfl, rfl, rfl, d, _, _, rfl, hd, look_what, _, rfl, rfl, rfl, d, _, _, rfl, hd, look_val, two_le, fun q hq => ?_⟩
        exact k _ _ (by rw [e]; rfl) q _ (s2.free hq) upd_same (s2.trans (Same.new hq))
    · have eR := eR
      refine ⟨_, rfl, R, _, rfl, .inl (SqL.of eR), rfl, _, rfl, ite2 (fun z => absurd z (by simp)) (fun _ => ?_)⟩
      refine ⟨_, rfl, R, _, rfl, .inl (SqL.of eR), rfl, _, rfl, ite2 (fun z => absurd z (by simp)) (fun _ => ?_)⟩
      refine ⟨_, rfl, R, _, rfl, .inl (SqL.of eR), rfl, _, rfl, ite2 (fun _ => ?_) (fun z => absurd (by simp) z)⟩
      refine ⟨_, rfl, R, _, _, _, rfl, rfl, SqL.of eR, rfl, _, rfl, R, _, _, _, rfl, rfl, SqL.of eR, rfl, fun x dx nx nd _ => w_call (Reps.q hrs) hsm nx nd (fun e H2 s2 _ => ?_) (fun tag v e d H2 nd2 s2 hd => ⟨true, E_BadNumber.exm, fun _ a na => ?_, fun q => by cases q⟩)⟩
      · refine ⟨two_le, fun q hq => ?_⟩
        exact k _ _ (by rw [e]; rfl) q _ (s2.free hq) upd_same (s2.trans (Same.new hq))
      · refine ⟨_, rfl, rfl, rfl, d, _, _, rfl, hd, look_what, _, rfl, rfl, rfl, d, _, _, rfl, hd, look_val, two_le, fun q hq => ?_⟩
        exact k _ _ (by rw [e]; rfl) q _ (s2.free hq) upd_same (s2.trans (Same.new hq))
    · have eR := eR
      refine ⟨_, rfl, R, _, rfl, .inl (SqL.of eR), rfl, _, rfl, ite2 (fun z => absurd z (by simp)) (fun _ => ?_)⟩
      refine ⟨_, rfl, R, _, rfl, .inl (SqL.of eR), rfl, _, rfl, ite2 (fun z => absurd z (by simp)) (fun _ => ?_)⟩
      refine ⟨_, rfl, R, _, rfl, .inl (SqL.of eR), rfl, _, rfl, ite2 (fun z => absurd z (by simp)) (fun _ => ?_)⟩
      refine ⟨_, rfl, R, _, rfl, .inl (SqL.of eR), rfl, _, rfl, ite2 (fun _ => ?_) (fun z => absurd (by simp) z)⟩
      refine ⟨_, rfl, R, _, _, _, rfl, rfl, SqL.of eR, rfl, _, rfl, R, _, _, _, rfl, rfl, SqL.of eR, rfl, _, rfl, R, _, _, _, rfl, rfl, SqL.of eR, rfl, fun x dx nx nd _ => w_call (Reps.q hrs) hsm nx nd (fun e H2 s2 _ => ?_) (fun tag v e d H2 nd2 s2 hd => ⟨true, E_BadNumber.exm, fun _ a na => ?_, fun q => by cases q⟩)⟩
      · refine ⟨two_le, fun q hq => ?_⟩
        exact k _ _ (by rw [e]; rfl) q _ (s2.free hq) upd_same (s2.trans (Same.new hq))
      · refine ⟨_, rfl, rfl, rfl, d, _, _, rfl, hd, look_what, _, rfl, rfl, rfl, d, _, _, rfl, hd, look_val, two_le, fun q hq => ?_⟩
        exact k _ _ (by rw [e]; rfl) q _ (s2.free hq) upd_same (s2.trans (Same.new hq))
    · have eR := eR
      refine ⟨_, rfl, R, _, rfl, .inl (SqL.of eR), rfl, _, rfl, ite2 (fun z => absurd z (by simp)) (fun _ => ?_)⟩
      refine ⟨_, rfl, R, _, rfl, .inl (SqL.of eR), rfl, _, rfl, ite2 (fun z => absurd z (by simp)) (fun _ => ?_)⟩
      refine ⟨_, rfl, R, _, rfl, .inl (SqL.of eR), rfl, _, rfl, ite2 (fun z => absurd z (by simp)) (fun _ => ?_)⟩
      refine ⟨_, rfl, R, _, rfl, .inl (SqL.of eR), rfl, _, rfl, ite2 (fun z => absurd z (by simp)) (fun _ => ?_)⟩
      refine ⟨_, rfl, R, _, rfl, .inl (SqL.of eR), rfl, _, rfl, ite2 (fun _ => ?_) (fun z => absurd (by simp) z)⟩
      refine ⟨_, rfl, R, _, _, _, rfl, rfl, SqL.of eR, rfl, _, rfl, R, _, _, _, rfl, rfl, SqL.of eR, rfl, _, rfl, R, _, _, _, rfl, rfl, SqL.of eR, rfl, _, rfl, R, _, _, _, rfl, rfl, SqL.of eR, rfl, fun x dx nx nd _ => w_call (Reps.q hrs) hsm nx nd (fun e H2 s2 _ => ?_) (fun tag v e d H2 nd2 s2 hd => ⟨true, E_BadNumber.exm, fun _ a na => ?_, fun q => by cases q⟩)⟩
      · refine ⟨two_le, fun q hq => ?_⟩
        exact k _ _ (by rw [e]; rfl) q _ (s2.free hq) upd_same (s2.trans (Same.new hq))
      · refine ⟨_, rfl, rfl, rfl, d, _, _, rfl, hd, look_what, _, rfl, rfl, rfl, d, _, _, rfl, hd, look_val, two_le, fun q hq => ?_⟩
        exact k _ _ (by rw [e]; rfl) q _ (s2.free hq) upd_same (s2.trans (Same.new hq))
    · have eR := eR
      refine ⟨_, rfl, R, _, rfl, .inl (SqL.of eR), rfl, _, rfl, ite2 (fun z => absurd z (by simp)) (fun _ => ?_)⟩
      refine ⟨_, rfl, R, _, rfl, .inl (SqL.of eR), rfl, _, rfl, ite2 (fun z => absurd z (by simp)) (fun _ => ?_)⟩
      refine ⟨_, rfl, R, _, rfl, .inl (SqL.of eR), rfl, _, rfl, ite2 (fun z => absurd z (by simp)) (fun _ => ?_)⟩
      refine ⟨_, rfl, R, _, rfl, .inl (SqL.of eR), rfl, _, rfl, ite2 (fun z => absurd z (by simp)) (fun _ => ?_)⟩
      refine ⟨_, rfl, R, _, rfl, .inl (SqL.of eR), rfl, _, rfl, ite2 (fun z => absurd z (by simp)) (fun _ => ?_)⟩
      refine ⟨_, rfl, R, _, _, _, rfl, rfl, SqL.of eR, rfl, _, rfl, R, _, _, _, rfl, rfl, SqL.of eR, rfl, _, rfl, R, _, _, _, rfl, rfl, SqL.of eR, rfl, _, rfl, R, _, _, _, rfl, rfl, SqL.of eR, rfl, _, rfl, R, _, _, _, rfl, rfl, SqL.of eR, rfl, fun x dx nx nd _ => w_call (Reps.q hrs) hsm nx nd (fun e H2 s2 _ => ?_) (fun tag v e d H2 nd2 s2 hd => ⟨true, E_BadNumber.exm, fun _ a na => ?_, fun q => by cases q⟩)⟩
      · refine ⟨two_le, fun q hq => ?_⟩
        exact k _ _ (by rw [e]; rfl) q _ (s2.free hq) upd_same (s2.trans (Same.new hq))
      · refine ⟨_, rfl, rfl, rfl, d, _, _, rfl, hd, look_what, _, rfl, rfl, rfl, d, _, _, rfl, hd, look_val, two_le, fun q hq => ?_⟩
        exact k _ _ (by rw [e]; rfl) q _ (s2.free hq) upd_same (s2.trans (Same.new hq))
    · exact absurd hl (by simp only [List.length_cons]; omega)

theorem ok_law_item {f : Addr} {fd : FuncData} (F : Fun K "_law_item" "_law_item" s_law_item f fd) (T : Txt K mg) {C_BadNumber f_BadNumber cda_BadNumber cc_BadNumber : Addr} {fd_BadNumber : FuncData} (E_BadNumber : ErrC P K mg "BadNumber" "BadNumber.__init__" C_BadNumber f_BadNumber cda_BadNumber cc_BadNumber) (G_BadNumber : FnOk P w K mg base CX0 2 f_BadNumber fd_BadNumber PBadNumber___init__ (spBadNumber C_BadNumber)) (b_BadNumber : Binds K fd_BadNumber PBadNumber___init__ []) {C_Day C_Weather fg : Addr} {fdg : FuncData} (I_Weather : PySem.W.findIn K (.ref C_Weather) "__getitem__" = some (some (.ref fg)) ∧ PySem.W.fnIn K fg = true ∧ PySem.W.isFn K (.ref fg) = true) (GWeather___getitem__ : FnOk P w K mg base (L2.CX P w) 5 fg fdg PWeather___getitem__ (spWeather_get C_Weather C_Day C_BadNumber)) (bWeather___getitem__ : Binds K fdg PWeather___getitem__ []) : FnOk P w K mg base CX0 9 f fd P_law_item (sp_law_item C_Weather C_Day) := by
  refine F.ok sc_law_item (fun vs H Q E h => ?_) (fun cdv A outer s H vs Q E hr h => ?_)
  · obtain ⟨p, M, k, rfl, hp, kT, kE⟩ := h
    rfl
  · obtain ⟨p, M, k, rfl, hp, kT, kE⟩ := h
    refine ⟨_, (pss_one (ps_try_ass (i := 2) rfl rfl rfl sc_law_item.nd rfl rfl takes0 (fun W pn xe tk _ => (pss_one (ps_ret (pe_ixOwn GWeather___getitem__ (hr.mono (by decide)) I_Weather.1 I_Weather.2.1 I_Weather.2.2 bWeather___getitem__ (fun σ => passAt tk σ) (pv 0) (pv 1))))) (by exact (.cons ⟨rfl, by decide, Or.inl E_BadNumber.g⟩ (fun a oe cls d pn hz hf => (pss_one (ps_ret (pe_tup (pa_cons (pe_xf E_BadNumber.xf E_BadNumber.noWhat hz hf (pv 2)) (pa_cons (pe_xf E_BadNumber.xf E_BadNumber.noValue hz hf (pv 2)) pa_nil)))))) .nil)))), ?_⟩
    obtain ⟨dx, qx, e1, _⟩ := id hp
    refine ⟨_, rfl, _, rfl, p, dx, _, rfl, e1, p, M, k, rfl, hp, fun n r hn hr x H' s hx => ?_, fun nk d H' nd s hd => ⟨true, E_BadNumber.exm, fun _ a na => ?_, fun q => by cases q⟩⟩
    · exact kT n r hn hr x H' s hx
    · refine ⟨_, rfl, rfl, rfl, d, _, _, rfl, hd, look_what, _, rfl, rfl, rfl, d, _, _, rfl, hd, look_val, two_le, fun q hq => ?_⟩
      exact kE nk q _ (s.free hq) upd_same (s.trans (Same.new hq))

theorem ok_law_made {f : Addr} {fd : FuncData} (F : Fun K "_law_made" "_law_made" s_law_made f fd) (T : Txt K mg) {C_BadNumber C_Day C_Weather fi fe fwi fwe : Addr} (D_Day : DatC K mg "Day" C_Day fi fe ["dry", "rain", "fill", "mood"]) (D_Weather : DatC K mg "Weather" C_Weather fwi fwe ["moods", "width"]) (GWeather___init__ : FnR P w K mg base (L2.CX P w) 7 fwi (spStar 1 (spWeather_init K C_Weather C_Day C_BadNumber))) : FnOk P w K mg base CX0 9 f fd P_law_made (sp_law_made C_Weather C_Day) := by
  refine F.ok sc_law_made (fun vs H Q E h => ?_) (fun cdv A outer s H vs Q E hr h => ?_)
  · obtain ⟨R, rs, M, rfl, eR, hrs, hsm, hok, hl3, k⟩ := h
    rfl
  · obtain ⟨R, rs, M, rfl, eR, hrs, hsm, hok, hl3, k⟩ := h
    refine ⟨_, (pss_cons (ps_if (pt_cmpR op_eq (pe_callB call_len_seq (by rfl) T.b_len PySem.boot_len (pa_cons (pv 0) pa_nil)) pe_int (nomark _))
  (pss_one (ps_ret (pe_makeRS D_Weather.mkk GWeather___init__ (hr.mono (by decide)) (by rfl) D_Weather.g (fun σ => passAt takes0 σ) (pa_cons (pe_ix ix_list (pv 0) pe_int (fun _ _ => rfl)) pa_nil))))
  pss_nil)
  (pss_cons (ps_if (pt_cmpR op_eq (pe_callB call_len_seq (by rfl) T.b_len PySem.boot_len (pa_cons (pv 0) pa_nil)) pe_int (nomark _))
  (pss_one (ps_ret (pe_makeRS D_Weather.mkk GWeather___init__ (hr.mono (by decide)) (by rfl) D_Weather.g (fun σ => passAt takes0 σ) (pa_cons (pe_ix ix_list (pv 0) pe_int (fun _ _ => rfl)) (pa_cons (pe_ix ix_list (pv 0) pe_int (fun _ _ => rfl)) pa_nil)))))
  pss_nil)
  (pss_one (ps_ret (pe_makeRS D_Weather.mkk GWeather___init__ (hr.mono (by decide)) (by rfl) D_Weather.g (fun σ => passAt takes0 σ) (pa_cons (pe_ix ix_list (pv 0) pe_int (fun _ _ => rfl)) (pa_cons (pe_ix ix_list (pv 0) pe_int (fun _ _ => rfl)) (pa_cons (pe_ix ix_list (pv 0) pe_int (fun _ _ => rfl)) pa_nil)))))))), ?_⟩
    have hl := hrs.len
    have h1 : 1 ≤ M.length := by
      rcases Nat.lt_or_ge 0 M.length with h | h
      · exact h
      · unfold wRef at hok
        rw [if_neg (by omega)] at hok
        cases hok
    rcases rs with _ | ⟨v0, _ | ⟨v1, _ | ⟨v2, _ | ⟨v3, rest⟩⟩⟩⟩
    · exact absurd hl (by simp only [List.length_nil]; omega)
    · refine ⟨_, rfl, R, _, rfl, .inl (SqL.of eR), rfl, _, rfl, ite2 (fun _ => ?_) (fun z => absurd (by simp) z)⟩
      exact ⟨_, rfl, R, _, _, _, rfl, rfl, SqL.of eR, rfl, fun x dx nx nd _ => w_call hrs hsm nx nd (fun e H2 s2 hw => k x H2 s2 hw) (fun tag v e => by rw [hok] at e; cases e)⟩
    · refine ⟨_, rfl, R, _, rfl, .inl (SqL.of eR), rfl, _, rfl, ite2 (fun z => absurd z (by simp)) (fun _ => ?_)⟩
      refine ⟨_, rfl, R, _, rfl, .inl (SqL.of eR), rfl, _, rfl, ite2 (fun _ => ?_) (fun z => absurd (by simp) z)⟩
      exact ⟨_, rfl, R, _, _, _, rfl, rfl, SqL.of eR, rfl, _, rfl, R, _, _, _, rfl, rfl, SqL.of eR, rfl, fun x dx nx nd _ => w_call hrs hsm nx nd (fun e H2 s2 hw => k x H2 s2 hw) (fun tag v e => by rw [hok] at e; cases e)⟩
    · refine ⟨_, rfl, R, _, rfl, .inl (SqL.of eR), rfl, _, rfl, ite2 (fun z => absurd z (by simp)) (fun _ => ?_)⟩
      refine ⟨_, rfl, R, _, rfl, .inl (SqL.of eR), rfl, _, rfl, ite2 (fun z => absurd z (by simp)) (fun _ => ?_)⟩
      exact ⟨_, rfl, R, _, _, _, rfl, rfl, SqL.of eR, rfl, _, rfl, R, _, _, _, rfl, rfl, SqL.of eR, rfl, _, rfl, R, _, _, _, rfl, rfl, SqL.of eR, rfl, fun x dx nx nd _ => w_call hrs hsm nx nd (fun e H2 s2 hw => k x H2 s2 hw) (fun tag v e => by rw [hok] at e; cases e)⟩
    · exact absurd hl (by simp only [List.length_cons]; omega)
end
end Wb

namespace Wb
open PySem PySem.Spec PyProof.Rows L2 Wx StX NdefX RZ StX PyProof.Rows.FinIter

theorem Reps.of {α : Type} {R : Rep α} {H : Hp} : ∀ {xs : List V} {as : List α}, xs.length = as.length → (∀ (i : Nat) x a, xs[i]? = some x → as[i]? = some a → R x H a) → Reps R H xs as
  | [], [], _, _ => trivial
  | x :: xs, a :: as, e, h => ⟨h 0 x a rfl rfl, Reps.of (by simpa using e) fun i y b h1 h2 => h (i + 1) y b h1 h2⟩
  | [], _ :: _, e, _ => by simp at e
  | _ :: _, [], e, _ => by simp at e
theorem map_at {α β : Type} {f : α → β} {l : List α} {i : Nat} {y : β} (h : (l.map f)[i]? = some y) : ∃ x, l[i]? = some x ∧ y = f x := by
  rw [List.getElem?_map] at h
  cases e : l[i]? with
  | none => rw [e] at h; cases h
  | some x => rw [e] at h; exact ⟨x, rfl, (Option.some.inj h).symm⟩
/-- a list at O of lists at oa, one for each row -/
def Rows (C : Addr) (H : Hp) (O : Addr) (oa : List Addr) (M : List (List DayD)) : Prop := H O = some (.lst (oa.map V.ref)) ∧ oa.length = M.length ∧ oa.Nodup ∧ ¬ O ∈ oa ∧ ∀ (i : Nat) a r, oa[i]? = some a → M[i]? = some r → ∃ xs, H a = some (.lst xs) ∧ Reps (repDay C) H xs r
theorem Rows.reps {C : Addr} {H : Hp} {O : Addr} {oa : List Addr} {M : List (List DayD)} (h : Rows C H O oa M) : Reps (repL (repDay C)) H (oa.map V.ref) M := by
  obtain ⟨h1, h2, h3, h4, h5⟩ := h
  refine Reps.of (by rw [List.length_map]; exact h2) fun i x r hx hr => ?_
  obtain ⟨a, ha, rfl⟩ := map_at hx
  obtain ⟨xs, e, hd⟩ := h5 i a r ha hr
  exact ⟨a, xs, rfl, e, hd⟩
theorem Rows.frm {C : Addr} {H H' : Hp} {O : Addr} {oa X : List Addr} {M : List (List DayD)} (h : Rows C H O oa M) (f : Frm X H H') (nO : ∀ b, b ∈ O :: oa → ¬ b ∈ X) (nX : ∀ b, b ∈ X → ∀ o, H b = some o → ∃ l, o = .lst l) : Rows C H' O oa M := by
  obtain ⟨h1, h2, h3, h4, h5⟩ := h
  refine ⟨f _ _ (nO O List.mem_cons_self) h1, h2, h3, h4, fun i a r ha hr => ?_⟩
  obtain ⟨xs, e, hd⟩ := h5 i a r ha hr
  refine ⟨xs, f _ _ (nO a (List.mem_cons_of_mem _ (List.mem_of_getElem? ha))) e, hd.imp (repDay_keep fun b o e' n _ => f b o (fun m => ?_) e')⟩
  obtain ⟨l, z⟩ := nX b m o e'
  exact n l z
theorem Rows.same {C : Addr} {H H' : Hp} {O : Addr} {oa : List Addr} {M : List (List DayD)} (h : Rows C H O oa M) (f : Same H H') : Rows C H' O oa M := h.frm (X := []) (Frm.of_same f) (fun b _ m => by cases m) (fun b m => by cases m)
theorem nodup_at {oa : List Addr} (h : oa.Nodup) {i j : Nat} {a b : Addr} (ha : oa[i]? = some a) (hb : oa[j]? = some b) (n : j ≠ i) : b ≠ a := fun e => by
  subst e
  have hi := (List.getElem?_eq_some_iff.mp ha).1
  exact n ((List.getElem?_inj hi h).mp (ha.trans hb.symm)).symm
theorem Rows.upd {C : Addr} {H : Hp} {O a : Addr} {oa : List Addr} {M : List (List DayD)} {i : Nat} {ys : List V} {r' : List DayD} (h : Rows C H O oa M) (ha : oa[i]? = some a) (hy : Reps (repDay C) H ys r') : Rows C (L2.upd H a (.lst ys)) O oa (M.set i r') := by
  obtain ⟨h1, h2, h3, h4, h5⟩ := h
  have hi : i < M.length := by rw [← h2]; exact (List.getElem?_eq_some_iff.mp ha).1
  obtain ⟨xs0, e0, _⟩ := h5 i a _ ha (List.getElem?_eq_getElem hi)
  have kp := keep_lst e0 (o2 := .lst ys)
  refine ⟨by rw [upd_ne (fun z => h4 (by rw [z]; exact List.mem_of_getElem? ha))]; exact h1, by rw [List.length_set]; exact h2, h3, h4, fun j b r hb hr => ?_⟩
  by_cases e : j = i
  · subst e
    rw [List.getElem?_set_self hi] at hr
    rw [ha] at hb
    cases hb
    cases hr
    exact ⟨ys, upd_same, hy.imp (repDay_keep kp)⟩
  · rw [List.getElem?_set_ne (fun z => e z.symm)] at hr
    obtain ⟨xs, e', hd⟩ := h5 j b r hb hr
    exact ⟨xs, by rw [upd_ne (nodup_at h3 ha hb e)]; exact e', hd.imp (repDay_keep kp)⟩
theorem Rows.row {C : Addr} {H : Hp} {O : Addr} {oa : List Addr} {M : List (List DayD)} {i : Nat} {r : List DayD} (h : Rows C H O oa M) (hr : M[i]? = some r) : ∃ a xs, oa[i]? = some a ∧ H a = some (.lst xs) ∧ Reps (repDay C) H xs r := by
  obtain ⟨h1, h2, h3, h4, h5⟩ := h
  have hi : i < oa.length := by rw [h2]; exact (List.getElem?_eq_some_iff.mp hr).1
  obtain ⟨xs, e, hd⟩ := h5 i _ r (List.getElem?_eq_getElem hi) hr
  exact ⟨_, xs, List.getElem?_eq_getElem hi, e, hd⟩
theorem rep_flat (n : Nat) : (List.replicate n [V.int 0]).flatten = (List.replicate n (0 : Int)).map V.int := by
  induction n with
  | zero => rfl
  | succ n ih => rw [List.replicate_succ, List.flatten_cons, ih]; rfl
theorem rep_flatV (n : Nat) (x : V) : (List.replicate n [x]).flatten = List.replicate n x := by
  induction n with
  | zero => rfl
  | succ n ih => rw [List.replicate_succ, List.flatten_cons, ih]; rfl
def zeroD (n : Nat) (m : Int) : DayD := (List.replicate n 0, List.replicate n 0, 0, m)
theorem zero_vday {n : Nat} {m : Int} (h1 : 1 ≤ n) (h4 : n ≤ 4) (m0 : 0 ≤ m) (m3 : m ≤ 3) : VDay (List.replicate n 0) (List.replicate n 0) 0 m := by
  have hz : ∀ x : Int, x ∈ List.replicate n 0 → 0 ≤ x ∧ x ≤ 8 := fun x hx => by rw [(List.mem_replicate.mp hx).2]; decide
  exact ⟨by rw [List.length_replicate]; exact h1, by rw [List.length_replicate]; exact h4, by rw [List.length_replicate], hz, hz, by decide, by decide, m0, m3⟩
theorem lst_small {M : List (List DayD)} (h : ∀ r, r ∈ M → r.length ≤ 10 ∧ ∀ d : DayD, d ∈ r → d.1.length ≤ 4) (hl : M.length ≤ 10) : Small M := ⟨by omega, fun r hr => ⟨by have := (h r hr).1; omega, fun d hd => by have := (h r hr).2 d hd; omega⟩⟩

def sp_law_refusals_hold (K : PySem.W.Frag) (CD : Addr) : Sp := fun vs H Q _ => ∃ (a s B : Addr) (at_ many : Int) (bs : List V) (M : List (List DayD)), vs = [.ref a, .ref s, .ref B, .int at_, .int many] ∧ Scr K H a s ∧ (hid [s] H) B = some (.lst bs) ∧ Reps (repL (repDay CD)) (hid [s] H) bs M ∧
  OkM many M.length 4 M ∧ 1 ≤ M.length ∧ M.length ≤ 3 ∧ 1 ≤ many ∧ many ≤ 3 ∧ 0 ≤ at_ ∧ at_ < M.length ∧ ∀ H', Q (.bl true) H'
theorem set_at {α : Type} {M : List α} {i : Nat} {x : α} (h : i < M.length) : (M.set i x)[i]? = some x := by rw [List.getElem?_set_self h]
theorem take_set {α : Type} {M : List α} {i : Nat} {x : α} : (M.set i x).take i = M.take i := by
  rw [List.take_set, List.set_eq_of_length_le (by rw [List.length_take]; omega)]
/-- the first bad row is at i -/
theorem ref_row {w : Int} {M : List (List DayD)} {i : Nat} {r : List DayD} {b : Str × Int} (h1 : 1 ≤ M.length) (h4 : M.length ≤ 4) (hw : wid M = w) (hi : M[i]? = some r) (g : ∀ q, q ∈ M.take i → rowBad w M.length q = none) (hb : rowBad w M.length r = some b) : wRef M = some b := by
  unfold wRef daysBad
  rw [if_pos ⟨h1, h4⟩, hw]
  exact findSome_at hi (List.findSome?_eq_none_iff.mpr g) hb
theorem row_day {w k : Int} {r : List DayD} {i : Nat} {d : DayD} {b : Str × Int} (h1 : 1 ≤ r.length) (h6 : r.length ≤ 6) (hi : r[i]? = some d) (g : ∀ q, q ∈ r.take i → dayBad w k q = none) (hb : dayBad w k d = some b) : rowBad w k r = some b := by
  unfold rowBad
  rw [if_pos ⟨h1, h6⟩]
  exact findSome_at hi (List.findSome?_eq_none_iff.mpr g) hb

theorem Scr.lstS {K : PySem.W.Frag} {H : Hp} {a s : Addr} (h : Scr K H a s) : ∀ u, H s = some u → ∃ xs, u = .lst xs := fun u e => by
  obtain ⟨i1, i2, i3, i4, e4⟩ := h.2
  rw [e4] at e
  exact ⟨_, (Option.some.inj e).symm⟩

theorem rep_ok {k : Int} (h : 0 ≤ k ∧ k ≤ 1000) : -(2 ^ 63) ≤ k ∧ k < 2 ^ 63 := by
  have e : (2 : Int) ^ 63 = 9223372036854775808 := by decide
  rw [e]
  omega
theorem hid_grow {X Y : List Addr} {H H' : Hp} (n : ∀ q, q ∈ Y → H q = none) (s : Same H H') : Same (hid X H) (hid (X ++ Y) H') := fun b o e => by
  by_cases h : b ∈ X
  · rw [show hid X H b = none from if_pos h] at e
    cases e
  · rw [hid_eq h] at e
    rw [hid_eq (fun m => (List.mem_append.mp m).elim h fun y => by rw [n b y] at e; cases e)]
    exact s _ _ e
theorem hid_keep {X : List Addr} {H : Hp} (h : ∀ b, b ∈ X → ∀ o, H b = some o → ∃ l, o = .lst l) : ∀ b o, H b = some o → (∀ xs, o ≠ .lst xs) → (∀ C dx, o ≠ .ins C dx []) → hid X H b = some o := fun b o e n _ => by
  rw [hid_eq (fun m => by obtain ⟨l, z⟩ := h b m o e; exact n l z)]
  exact e
theorem wid_set {w k : Int} {n : Nat} {M : List (List DayD)} {i : Nat} {r : List DayD} (h : OkM w k n M) (hi : i < M.length) (h0 : i = 0 → ∃ d : DayD, r[0]? = some d ∧ (d.1.length : Int) = w) : wid (M.set i r) = w := by
  by_cases e : i = 0
  · subst e
    obtain ⟨d, hd, hw⟩ := h0 rfl
    rw [wid_pos (set_at hi) hd]
    exact hw
  · obtain ⟨q, hM⟩ : ∃ q, M[0]? = some q := ⟨_, List.getElem?_eq_getElem (by omega)⟩
    have hr := h q (List.mem_of_getElem? hM)
    obtain ⟨d, hd⟩ : ∃ d, q[0]? = some d := ⟨_, List.getElem?_eq_getElem (by have := hr.1; omega)⟩
    rw [wid_pos (M := M.set i r) (by rw [List.getElem?_set_ne e]; exact hM) hd]
    exact (hr.2.2 _ (List.mem_of_getElem? hd)).2.1
theorem ref_ins {w : Int} {M : List (List DayD)} {i : Nat} {pre tail : List DayD} {x : DayD} {b : Str × Int} (h1 : 1 ≤ M.length) (h4 : M.length ≤ 4) (hi : i < M.length) (g : ∀ q, q ∈ M.take i → rowBad w M.length q = none) (hp : ∀ q, q ∈ pre → dayBad w M.length q = none) (hx : dayBad w M.length x = some b)
    (h6 : (pre ++ x :: tail).length ≤ 6) (hw : wid (M.set i (pre ++ x :: tail)) = w) : wRef (M.set i (pre ++ x :: tail)) = some b := by
  have hl : (M.set i (pre ++ x :: tail)).length = M.length := List.length_set
  refine ref_row (w := w) (i := i) (r := pre ++ x :: tail) (by rw [hl]; exact h1) (by rw [hl]; exact h4) hw (set_at hi) (fun q hq => ?_) ?_
  · rw [take_set] at hq
    rw [hl]
    exact g q hq
  · rw [hl]
    refine row_day (i := pre.length) (d := x) (by rw [List.length_append, List.length_cons]; omega) h6 (by rw [List.getElem?_append_right (Nat.le_refl _), Nat.sub_self]; rfl) (fun q hq => ?_) hx
    rw [List.take_append_of_le_length (Nat.le_refl _), List.take_length] at hq
    exact hp q hq
theorem OkM.take {w k : Int} {n i : Nat} {M : List (List DayD)} (h : OkM w k n M) (hn : n ≤ 6) : ∀ q, q ∈ M.take i → rowBad w k q = Option.none := fun q hq => (h q (List.mem_of_mem_take hq)).none hn
/-- what is kept beside the lists that change -/
def FB (C : Addr) (Hh : Hp) (B : Addr) (bs : List V) (M : List (List DayD)) (xw xl : Addr) (dW dL : DayD) : Prop := Hh B = some (.lst bs) ∧ Reps (repL (repDay C)) Hh bs M ∧ repDay C (.ref xw) Hh dW ∧ repDay C (.ref xl) Hh dL
theorem FB.same {C : Addr} {Hh Hh' : Hp} {B : Addr} {bs : List V} {M : List (List DayD)} {xw xl : Addr} {dW dL : DayD} (h : FB C Hh B bs M xw xl dW dL) (s : Same Hh Hh') : FB C Hh' B bs M xw xl dW dL :=
  ⟨s _ _ h.1, h.2.1.mono (repL_mono repDay_mono) s, repDay_mono _ _ _ _ s h.2.2.1, repDay_mono _ _ _ _ s h.2.2.2⟩
theorem FB.frm {C : Addr} {H H' : Hp} {X : List Addr} {B : Addr} {bs : List V} {M : List (List DayD)} {xw xl : Addr} {dW dL : DayD} (h : FB C (hid X H) B bs M xw xl dW dL) (f : Frm X H H') : FB C (hid X H') B bs M xw xl dW dL := h.same (hid_frm f)
theorem FB.out {C : Addr} {H : Hp} {X : List Addr} {B : Addr} {bs : List V} {M : List (List DayD)} {xw xl : Addr} {dW dL : DayD} (h : FB C (hid X H) B bs M xw xl dW dL) : FB C H B bs M xw xl dW dL := h.same (hid_same X H)
theorem ins_take {r : List DayD} {p : Nat} {x : DayD} {l : List DayD} (hp : p ≤ r.length) : (r.take p ++ x :: l).take p = r.take p := by
  rw [List.take_append_of_le_length (by rw [List.length_take]; omega), List.take_take, Nat.min_self]
theorem ins_drop {r : List DayD} {p : Nat} {l : List DayD} (hp : p ≤ r.length) : (r.take p ++ l).drop p = l := by
  rw [List.drop_append_of_le_length (by rw [List.length_take]; omega), List.drop_of_length_le (by rw [List.length_take]; omega)]
  rfl
theorem Reps.ins {α : Type} {R : Rep α} {H : Hp} {xs : List V} {as : List α} {x : V} {a : α} (p : Nat) (h : Reps R H xs as) (hx : R x H a) : Reps R H (xs.take p ++ [x] ++ xs.drop p) (as.take p ++ a :: as.drop p) := by
  have e : as.take p ++ a :: as.drop p = as.take p ++ [a] ++ as.drop p := by simp
  rw [e]
  exact Reps.app (Reps.app (Reps.take p h) (Reps.one hx)) (Reps.drop p h)
theorem Reps.keep {C : Addr} {H : Hp} {p : Addr} {xs ys : List V} {o2 : HO} {as : List DayD} (h : H p = some (.lst xs)) (r : Reps (repDay C) H ys as) : Reps (repDay C) (L2.upd H p o2) ys as := r.imp (repDay_keep (keep_lst h))

theorem Rows.repsO {C : Addr} {H : Hp} {O : Addr} {oa : List Addr} {M : List (List DayD)} (h : Rows C H O oa M) : Reps (repL (repDay C)) (hid [O] H) (oa.map V.ref) M := by
  obtain ⟨h1, h2, h3, h4, h5⟩ := h
  refine Reps.of (by rw [List.length_map]; exact h2) fun i x r hx hr => ?_
  obtain ⟨a, ha, rfl⟩ := map_at hx
  obtain ⟨xs, e, hd⟩ := h5 i a r ha hr
  have na : ¬ a ∈ [O] := fun m => h4 (by rw [← List.mem_singleton.mp m]; exact List.mem_of_getElem? ha)
  exact ⟨a, xs, rfl, by rw [hid_eq na]; exact e, hd.imp (repDay_keep (hid_keep fun b hb o e' => by rw [List.mem_singleton.mp hb, h1] at e'; exact ⟨_, (Option.some.inj e').symm⟩))⟩
theorem Reps.repF {α : Type} {R : Rep α} {H : Hp} {x : V} {a : α} (h : R x H a) {n m : Nat} (e : n = m) : Reps R H (List.replicate n [x]).flatten (List.replicate m a) := by
  rw [rep_flatV, e]
  exact Reps.rep h m
theorem zero_len (n : Nat) (m : Int) : (zeroD n m).1.length = n := List.length_replicate
theorem bad_plots {w k : Int} {d : DayD} (h : ¬ (d.1.length : Int) = w) : dayBad w k d = some (("plots" : Str), ((d.1.length : Nat) : Int)) := by unfold dayBad; rw [if_neg h]
theorem bad_mood {w k : Int} {d : DayD} (h : (d.1.length : Int) = w) (h2 : ¬ (0 ≤ d.2.2.2 ∧ d.2.2.2 < k)) : dayBad w k d = some (("mood" : Str), d.2.2.2) := by unfold dayBad; rw [if_pos h, if_neg h2]
theorem ref_many {M : List (List DayD)} (h : ¬ (1 ≤ M.length ∧ M.length ≤ 4)) : wRef M = some (("moods" : Str), ((M.length : Nat) : Int)) := by unfold wRef; rw [if_neg h]
theorem bad_len {w k : Int} {r : List DayD} (h : ¬ (1 ≤ r.length ∧ r.length ≤ 6)) : rowBad w k r = some (("days" : Str), ((r.length : Nat) : Int)) := by unfold rowBad; rw [if_neg h]
theorem OkM.mono {w k k' : Int} {n : Nat} {M : List (List DayD)} (h : OkM w k n M) (hk : k ≤ k') : OkM w k' n M := fun r hr => ⟨(h r hr).1, (h r hr).2.1, fun d hd => ((h r hr).2.2 d hd).more hk⟩
end Wb

namespace Wb
open PySem PySem.Spec PyProof.Rows L2 Wx StX NdefX RZ StX PyProof.Rows.FinIter
section
variable {P : Program} {w : World} {K : PySem.W.Frag} {mg : Str → Option Value} {base : Heap}

theorem ok_law_refusals_hold {f : Addr} {fd : FuncData} (F : Fun K "_law_refusals_hold" "_law_refusals_hold" s_law_refusals_hold f fd) (T : Txt K mg) {C_BadNumber C_Day C_Weather fi fe fwi fwe : Addr} (D_Day : DatC K mg "Day" C_Day fi fe ["dry", "rain", "fill", "mood"]) (D_Weather : DatC K mg "Weather" C_Weather fwi fwe ["moods", "width"]) {fdi : FuncData} (GDay___init__ : FnOk P w K mg base (L2.CX P w) 6 fi fdi PDay___init__ (spDay_init K C_Day C_BadNumber)) (bDay___init__ : Binds K fdi PDay___init__ []) {fa : Addr} {fda : FuncData} (O_Day___add__ : OpC K C_Day fa "__add__" "__radd__") (GDay___add__ : FnOk P w K mg base (L2.CX P w) 8 fa fda PDay___add__ (spDay_add C_Day C_BadNumber)) (bDay___add__ : Binds K fda PDay___add__ []) (C_law_draw : Cal P w K mg base "_law_draw" P_law_draw 1 (sp_law_draw K)) (C_law_refusal : Cal P w K mg base "_law_refusal" P_law_refusal 9 (sp_law_refusalW K C_Day)) : FnOk P w K mg base CX0 10 f fd P_law_refusals_hold (sp_law_refusals_hold K C_Day) := by
  obtain ⟨g_law_draw, gd_law_draw, G_law_draw, m_law_draw, k_law_draw, b_law_draw⟩ := C_law_draw.ex
  obtain ⟨g_law_refusal, gd_law_refusal, G_law_refusal, m_law_refusal, k_law_refusal, b_law_refusal⟩ := C_law_refusal.ex
  refine F.ok sc_law_refusals_hold (fun vs H Q E h => ?_) (fun cdv A outer s H vs Q E hr h => ?_)
  · obtain ⟨a, s0, B, at_, many, bs, M, rfl, hS, eBh, hbs, hok, hM1, hM3, hm1, hm3, ha0, haM, k⟩ := h
    rfl
  · obtain ⟨a, s0, B, at_, many, bs, M, rfl, hS, eBh, hbs, hok, hM1, hM3, hm1, hm3, ha0, haM, k⟩ := h
    refine ⟨_, (pss_cons (ps_set (i := 5) sc_law_refusals_hold.nd rfl (by first | exact Or.inl rfl | exact Or.inr rfl) (pe_callB call_len_seq (by rfl) T.b_len PySem.boot_len (pa_cons (pv 2) pa_nil)))
  (pss_cons (ps_set (i := 6) sc_law_refusals_hold.nd rfl (by first | exact Or.inl rfl | exact Or.inr rfl) (pe_makeS D_Day.mkk GDay___init__ (hr.mono (by decide)) (by rfl) D_Day.g bDay___init__ (fun σ => passAt takes0 σ) (pa_cons (pe_op op_rep (pe_lst (pa_cons pe_int pa_nil)) (pe_op op_add (pv 4) pe_int)) (pa_cons (pe_op op_rep (pe_lst (pa_cons pe_int pa_nil)) (pe_op op_add (pv 4) pe_int)) (pa_cons pe_int (pa_cons pe_int pa_nil))))))
  (pss_cons (ps_set (i := 7) sc_law_refusals_hold.nd rfl (by first | exact Or.inl rfl | exact Or.inr rfl) (pe_makeS D_Day.mkk GDay___init__ (hr.mono (by decide)) (by rfl) D_Day.g bDay___init__ (fun σ => passAt takes0 σ) (pa_cons (pe_op op_rep (pe_lst (pa_cons pe_int pa_nil)) (pv 4)) (pa_cons (pe_op op_rep (pe_lst (pa_cons pe_int pa_nil)) (pv 4)) (pa_cons pe_int (pa_cons (pv 5) pa_nil))))))
  (pss_cons (ps_set (i := 8) sc_law_refusals_hold.nd rfl (by first | exact Or.inl rfl | exact Or.inr rfl) (pe_call G_law_draw (hr.mono (by decide)) (by rfl) m_law_draw k_law_draw b_law_draw .nil pass0 (pa_cons (pv 0) (pa_cons (pv 1) (pa_cons (pe_op op_add (pe_callB call_len_seq (by rfl) T.b_len PySem.boot_len (pa_cons (pe_ix ix_list (pv 2) (pv 3) (fun _ _ => rfl)) pa_nil)) pe_int) pa_nil)))))
  (pss_cons (ps_setLc (i := 9) (own := [("days", 11)]) rfl sc_law_refusals_hold.nd rfl rfl (sw_true rfl rfl rfl (by decide +kernel)) (pi_list (pv 2)) (blkOk_by (own := [("days", 11)]) (N := N_law_refusals_hold) (sc := defScope s_law_refusals_hold) (by decide +kernel)) (fun _ _ _ _ _ => (pg_name (i := 11) sc_law_refusals_hold.nd rfl (by first | exact Or.inl rfl | exact Or.inr rfl))) (fun _ _ _ _ _ => pts_nil) (fun _ _ _ _ _ => (pe_callTy (T := "list") (r := rListOf K) call_list_of (by rfl) T.b_list (by decide +kernel) (pa_cons (pv 11) pa_nil))))
  (C8.pss_cut (ps_if (pt_cmpR op_eq (pe_call G_law_draw (hr.mono (by decide)) (by rfl) m_law_draw k_law_draw b_law_draw .nil pass0 (pa_cons (pv 0) (pa_cons (pv 1) (pa_cons pe_int pa_nil)))) pe_int (nomark _))
  (pss_cons (ps_expr (pe_bm PySem.F.plainAttrs_list PySem.F.slot_list_insert PySem.F.type_list_insert mt_insert (pe_ix ix_list (pv 9) (pv 3) (fun _ _ => rfl)) (pa_cons (pv 8) (pa_cons (pv 7) pa_nil))))
  (pss_cons (ps_if (pt_cmpR (op_neD hr.units) (pe_call G_law_refusal (hr.mono (by decide)) (by rfl) m_law_refusal k_law_refusal b_law_refusal .nil pass0 (pa_cons (pv 9) pa_nil)) (pe_tup (pa_cons pe_str (pa_cons (pv 5) pa_nil))) (nomark _))
  (pss_one (ps_ret pe_bl))
  pss_nil)
  (pss_one (ps_expr (pe_bm PySem.F.plainAttrs_list PySem.F.slot_list_insert PySem.F.type_list_insert mt_insert (pe_ix ix_list (pv 9) (pv 3) (fun _ _ => rfl)) (pa_cons (pv 8) (pa_cons (pv 6) pa_nil)))))))
  (pss_one (ps_expr (pe_bm PySem.F.plainAttrs_list PySem.F.slot_list_insert PySem.F.type_list_insert mt_insert (pe_ix ix_list (pv 9) (pv 3) (fun _ _ => rfl)) (pa_cons (pv 8) (pa_cons (pv 6) pa_nil))))))
  (pss_cons (ps_set (i := 10) sc_law_refusals_hold.nd rfl (by first | exact Or.inl rfl | exact Or.inr rfl) (pe_tup (pa_cons pe_str (pa_cons (pe_op op_add (pv 4) pe_int) pa_nil))))
  (C8.pss_cut (ps_if (PW.pt (pw_and (pt_cmpR op_eq (pv 3) pe_int (nomark _)) (pw_and1 (pt_cmpR op_eq (pv 8) pe_int (nomark _)))))
  (pss_one (ps_set (i := 10) sc_law_refusals_hold.nd rfl (by first | exact Or.inl rfl | exact Or.inr rfl) (pe_tup (pa_cons pe_str (pa_cons pe_int pa_nil)))))
  pss_nil)
  (pss_cons (ps_if (PW.pt (pw_or (pt_cmpR (op_neD hr.units) (pe_call G_law_refusal (hr.mono (by decide)) (by rfl) m_law_refusal k_law_refusal b_law_refusal .nil pass0 (pa_cons (pv 9) pa_nil)) (pv 10) (nomark _)) (pw_or1 (pt_cmpR (op_neD hr.units) (pe_call G_law_refusal (hr.mono (by decide)) (by rfl) m_law_refusal k_law_refusal b_law_refusal .nil pass0 (pa_cons (pe_op op_cat (pv 9) (pe_op op_rep (pe_lst (pa_cons (pe_lst pa_nil) pa_nil)) (pe_op op_sub pe_int (pv 5)))) pa_nil)) (pe_tup (pa_cons pe_str (pa_cons pe_int pa_nil))) (nomark _)))))
  (pss_one (ps_ret pe_bl))
  pss_nil)
  (pss_cons (ps_asg (pe_op op_rep (pe_lst (pa_cons (pe_ix ix_list (pe_ix ix_list (pv 2) (pv 3) (fun _ _ => rfl)) pe_int (fun _ _ => rfl)) pa_nil)) pe_int) (pg_sub (pv 9) (pv 3) set_list))
  (pss_cons (ps_if (PW.pt (pw_or (pt_cmpR (op_neD hr.units) (pe_call G_law_refusal (hr.mono (by decide)) (by rfl) m_law_refusal k_law_refusal b_law_refusal .nil pass0 (pa_cons (pv 9) pa_nil)) (pe_tup (pa_cons pe_str (pa_cons pe_int pa_nil))) (nomark _)) (pw_or1 (pt_cmpR (op_neD hr.units) (pe_call G_law_refusal (hr.mono (by decide)) (by rfl) m_law_refusal k_law_refusal b_law_refusal .nil pass0 (pa_cons (pe_op op_cat (pv 2) (pe_lst (pa_cons (pe_lst pa_nil) pa_nil))) pa_nil)) (pe_tup (pa_cons pe_str (pa_cons pe_int pa_nil))) (nomark _)))))
  (pss_one (ps_ret pe_bl))
  pss_nil)
  (pss_one (ps_ret (pe_and (pe_cmpR (op_eqD hr.units) (pe_call G_law_refusal (hr.mono (by decide)) (by rfl) m_law_refusal k_law_refusal b_law_refusal .nil pass0 (pa_cons (pe_lst pa_nil) pa_nil)) (pe_tup (pa_cons pe_str (pa_cons pe_int pa_nil))) (nomark _)) (pe_one (pe_cmpR op_eq (pe_ix ix_tup (pe_call G_law_refusal (hr.mono (by decide)) (by rfl) m_law_refusal k_law_refusal b_law_refusal .nil pass0 (pa_cons (pe_op op_rep (pe_lst (pa_cons (pe_lst (pa_cons (pe_ownN GDay___add__ (hr.mono (by decide)) O_Day___add__ bDay___add__ (fun σ => passAt takes0 σ) (by decide +kernel) (by decide +kernel) (pe_ix ix_list (pe_ix ix_list (pv 2) pe_int (fun _ _ => rfl)) pe_int (fun _ _ => rfl)) pe_int) pa_nil)) pa_nil)) pe_int) pa_nil)) pe_int (fun _ _ => rfl)) pe_str (nomark _))))))))))))))))), ?_⟩
    have hM4 : M.length ≤ 10 := by omega
    obtain ⟨an, rfl⟩ : ∃ an : Nat, at_ = (an : Int) := ⟨at_.toNat, by omega⟩
    obtain ⟨mn, rfl⟩ : ∃ mn : Nat, many = (mn : Int) := ⟨many.toNat, by omega⟩
    obtain ⟨r0, hr0⟩ : ∃ r0, M[an]? = some r0 := ⟨_, List.getElem?_eq_getElem (by omega)⟩
    have hok0 := hok r0 (List.mem_of_getElem? hr0)
    have eB := hid_same [s0] H _ _ eBh
    have hbl := hbs.len
    refine ⟨_, rfl, B, _, rfl, .inl (SqL.of eB), ?_⟩
    refine ⟨bigN (by show 1 ≤ _; decide), fun z1 hz1 => ⟨_, rfl, _, _, rfl, rfl, z1, _, _, rfl, rfl, upd_same, (rep_ok (by omega)).1, (rep_ok (by omega)).2, bigN (by show 1 * _ ≤ _; omega), fun y1 hy1 => ?_⟩⟩
    have t1 := (Same.new (o := .lst [.int 0]) hz1).trans (Same.new (o := .lst (List.replicate ((mn : Int) + 1 : Int).toNat [V.int 0]).flatten) hy1)
    have g1 : (upd (upd H z1 (.lst [.int 0])) y1 (.lst (List.replicate ((mn : Int) + 1 : Int).toNat [V.int 0]).flatten)) y1 = some (.lst ((List.replicate ((mn : Int) + 1 : Int).toNat (0 : Int)).map V.int)) := by rw [upd_same, rep_flat]
    generalize (upd (upd H z1 (.lst [.int 0])) y1 (.lst (List.replicate ((mn : Int) + 1 : Int).toNat [V.int 0]).flatten)) = H1 at t1 g1 ⊢
    refine ⟨bigN (by show 1 ≤ _; decide), fun z2 hz2 => ⟨_, rfl, _, _, rfl, rfl, z2, _, _, rfl, rfl, upd_same, (rep_ok (by omega)).1, (rep_ok (by omega)).2, bigN (by show 1 * _ ≤ _; omega), fun y2 hy2 => ?_⟩⟩
    have t2 := (Same.new (o := .lst [.int 0]) hz2).trans (Same.new (o := .lst (List.replicate ((mn : Int) + 1 : Int).toNat [V.int 0]).flatten) hy2)
    have g2 : (upd (upd H1 z2 (.lst [.int 0])) y2 (.lst (List.replicate ((mn : Int) + 1 : Int).toNat [V.int 0]).flatten)) y2 = some (.lst ((List.replicate ((mn : Int) + 1 : Int).toNat (0 : Int)).map V.int)) := by rw [upd_same, rep_flat]
    generalize (upd (upd H1 z2 (.lst [.int 0])) y2 (.lst (List.replicate ((mn : Int) + 1 : Int).toNat [V.int 0]).flatten)) = H2 at t2 g2 ⊢
    have ez1 : ((mn : Int) + 1).toNat = mn + 1 := by omega
    rw [ez1] at g1 g2
    refine fun xw dxw nxw ndw _ => day_make (zero_vday (m := 3) (by omega) (by omega) (by decide) (by decide)) (.inl (SqL.of (t2 _ _ g1))) (.inl (SqL.of g2)) nxw ndw fun H3 s3 stW => ?_
    have s03 : Same H H3 := (t1.trans t2).trans s3
    refine ⟨bigN (by show 1 ≤ _; decide), fun z4 hz4 => ⟨_, rfl, z4, _, _, rfl, rfl, upd_same, (rep_ok (by omega)).1, (rep_ok (by omega)).2, bigN (by show 1 * _ ≤ _; omega), fun y4 hy4 => ?_⟩⟩
    have t4 := (Same.new (o := .lst [.int 0]) hz4).trans (Same.new (o := .lst (List.replicate ((mn : Int) : Int).toNat [V.int 0]).flatten) hy4)
    have g4 : (upd (upd H3 z4 (.lst [.int 0])) y4 (.lst (List.replicate ((mn : Int) : Int).toNat [V.int 0]).flatten)) y4 = some (.lst ((List.replicate ((mn : Int) : Int).toNat (0 : Int)).map V.int)) := by rw [upd_same, rep_flat]
    generalize (upd (upd H3 z4 (.lst [.int 0])) y4 (.lst (List.replicate ((mn : Int) : Int).toNat [V.int 0]).flatten)) = H4 at t4 g4 ⊢
    refine ⟨bigN (by show 1 ≤ _; decide), fun z5 hz5 => ⟨_, rfl, z5, _, _, rfl, rfl, upd_same, (rep_ok (by omega)).1, (rep_ok (by omega)).2, bigN (by show 1 * _ ≤ _; omega), fun y5 hy5 => ?_⟩⟩
    have t5 := (Same.new (o := .lst [.int 0]) hz5).trans (Same.new (o := .lst (List.replicate ((mn : Int) : Int).toNat [V.int 0]).flatten) hy5)
    have g5 : (upd (upd H4 z5 (.lst [.int 0])) y5 (.lst (List.replicate ((mn : Int) : Int).toNat [V.int 0]).flatten)) y5 = some (.lst ((List.replicate ((mn : Int) : Int).toNat (0 : Int)).map V.int)) := by rw [upd_same, rep_flat]
    generalize (upd (upd H4 z5 (.lst [.int 0])) y5 (.lst (List.replicate ((mn : Int) : Int).toNat [V.int 0]).flatten)) = H5 at t5 g5 ⊢
    have ez2 : (mn : Int).toNat = mn := by omega
    rw [ez2] at g4 g5
    refine ⟨_, rfl, fun xl dxl nxl ndl _ => day_make (zero_vday (m := (bs.length : Nat)) (by omega) (by omega) (by omega) (by omega)) (.inl (SqL.of (t5 _ _ g4))) (.inl (SqL.of g5)) nxl ndl fun H6 s6 stL => ?_⟩
    have s06 : Same H H6 := (s03.trans (t4.trans t5)).trans s6
    have stW := stW.same ((t4.trans t5).trans s6)
    clear t1 t2 t4 t5 g1 g2 g4 g5 s3 s6 s03 nxw ndw nxl ndl
    obtain ⟨x0, hx0, p0, xs0, rfl, e0h, hd0⟩ := hbs.at' hr0
    have e0 := hid_same [s0] H _ _ e0h
    have hxl := hd0.len
    refine ⟨_, rfl, _, rfl, _, rfl, _, rfl, B, _, _, _, rfl, rfl, SqL.of (s06 _ _ eB), atI_nat hx0, p0, _, rfl, .inl (SqL.of (s06 _ _ e0)), _, _, rfl, rfl, a, s0, _, rfl, hS.same s06, by omega, by have := hok0.2.1; omega, fun pl H7 pl0 pl1 f7 sc7 => ?_⟩
    obtain ⟨pn, rfl⟩ : ∃ pn : Nat, pl = (pn : Int) := ⟨pl.toNat, by omega⟩
    have hpn : pn ≤ r0.length := by omega
    have f07 : Frm [s0] H H7 := (Frm.of_same s06).trans f7
    have eB7h := hid_frm f07 _ _ eBh
    have hbs7 := hbs.mono (repL_mono repDay_mono) (hid_frm f07)
    have eB7 := hid_same [s0] H7 _ _ eB7h
    have hsrc : Reps (repQ (repDay C_Day)) H7 bs M := Reps.q (hbs7.mono (repL_mono repDay_mono) (hid_same [s0] H7))
    have stW7 := stW.frm (hS.same s06).lstS f7
    have stL7 := stL.frm (hS.same s06).lstS f7
    refine ⟨_, rfl, B, rfl, ⟨_, SqL.of eB7⟩, fun O hO => ?_⟩
    refine lc_it walk_list (fun i H8 => ∃ qs : List Addr, H8 O = some (.lst (qs.map V.ref)) ∧ qs.length = i ∧ qs.Nodup ∧ (∀ q, q ∈ qs → H7 q = none ∧ q ≠ O) ∧ (∀ (j : Nat) a r, qs[j]? = some a → M[j]? = some r → ∃ xs, H8 a = some (.lst xs) ∧ Reps (repDay C_Day) H8 xs r) ∧ Same H7 H8)
      ⟨[], upd_same, rfl, List.nodup_nil, (fun q h => by cases h), (fun j a r h => by simp at h), Same.new hO⟩ (fun i _ _ ⟨_, _, _, _, _, _, s⟩ => SqL.of (s _ _ eB7)) ?_ ?_
    · rintro i x HQo HQ hi ⟨qs, g1, hq, nd, fq, hr, s2⟩ ⟨rfl, hx⟩
      obtain ⟨r, hM, hrr⟩ := hsrc.at hx
      obtain ⟨a', xs, rfl, hs, hrd⟩ := repQ_seq (K := K) (repQ_mono repDay_mono _ _ _ _ s2 hrr)
      refine ⟨rfl, ?_⟩
      refine ⟨_, rfl, a', _, rfl, hs, fun z hz => ?_⟩
      have sz : Same HQ (upd HQ z (.lst xs)) := Same.new hz
      have g1z := sz _ _ g1
      have nzD : z ≠ O := fun e => by rw [e, g1] at hz; cases hz
      have hlM := hsrc.len
      refine ⟨_, g1z, small1000 (by rw [List.length_map, hq]; have := hM4; omega), qs ++ [z], by rw [upd_same, List.map_append]; rfl, by rw [List.length_append, hq]; rfl, ?_, fun q hq' => ?_, fun j b r' hb hr' => ?_, fun b o e => by rw [upd_ne (ne_of_none e hO)]; exact sz _ _ (s2 _ _ e)⟩
      · rw [List.nodup_append]
        refine ⟨nd, by simp, fun b hb c hc e => ?_⟩
        rw [List.mem_singleton.mp hc] at e
        obtain ⟨j, hj⟩ := List.getElem?_of_mem hb
        have hj' : j < i := by rw [← hq]; exact (List.getElem?_eq_some_iff.mp hj).1
        obtain ⟨ys, ey, _⟩ := hr j b _ hj (List.getElem?_eq_getElem (by rw [← hlM]; omega))
        rw [e, hz] at ey
        cases ey
      · rcases List.mem_append.mp hq' with y | y
        · exact fq q y
        · rw [List.mem_singleton.mp y]
          exact ⟨s2.free hz, nzD⟩
      · have kp := keep_lst g1z (o2 := .lst (qs.map V.ref ++ [V.ref z]))
        by_cases hj : j < i
        · rw [List.getElem?_append_left (by omega)] at hb
          obtain ⟨ys, ey, hy⟩ := hr j b r' hb hr'
          exact ⟨ys, by rw [upd_ne (fq b (List.mem_of_getElem? hb)).2]; exact sz _ _ ey, (hy.mono repDay_mono sz).imp (repDay_keep kp)⟩
        · rw [List.getElem?_append_right (by omega)] at hb
          have ej : j - qs.length = 0 := by
            cases e : j - qs.length with
            | zero => rfl
            | succ n => rw [e] at hb; simp at hb
          rw [ej] at hb
          cases hb
          have ej2 : j = i := by omega
          subst ej2
          rw [hM] at hr'
          cases hr'
          exact ⟨xs, by rw [upd_ne nzD]; exact upd_same, (hrd.mono repDay_mono sz).imp (repDay_keep kp)⟩
    rintro H8 ⟨qs, gO, hq, ndq, fq, hrq, s8⟩
    have hq : qs.length = M.length := by rw [hq, hbl]
    have rows8 : Rows C_Day H8 O qs M := ⟨gO, hq, ndq, fun m => (fq O m).2 rfl, hrq⟩
    have sc8 := sc7.same s8
    have nOs : ¬ O = s0 := sc7.ne hO
    have nqs : ∀ q, q ∈ qs → ¬ q = s0 := fun q h => sc7.ne (fq q h).1
    have nX : ∀ b, b ∈ O :: qs → ¬ b ∈ [s0] := fun b hb m => by
      have m := List.mem_singleton.mp m
      rcases List.mem_cons.mp hb with z | z
      · exact nOs (z.symm.trans m)
      · exact nqs b z m
    have rowl : ∀ {Hx : Hp} {Mx : List (List DayD)}, Rows C_Day Hx O qs Mx → Scr K Hx a s0 → ∀ b, b ∈ s0 :: O :: qs → ∀ o, Hx b = some o → ∃ l, o = .lst l := fun {Hx Mx} rw sc b hb o e => by
      rcases List.mem_cons.mp hb with z | z
      · rw [z] at e; exact sc.lstS _ e
      · rcases List.mem_cons.mp z with z | z
        · rw [z, rw.1] at e; exact ⟨_, (Option.some.inj e).symm⟩
        · obtain ⟨j, hj⟩ := List.getElem?_of_mem z
          obtain ⟨ys, ey, _⟩ := rw.2.2.2.2 j b _ hj (List.getElem?_eq_getElem (by rw [← rw.2.1]; exact (List.getElem?_eq_some_iff.mp hj).1))
          rw [ey] at e; exact ⟨_, (Option.some.inj e).symm⟩
    have gro : Same (hid [s0] H7) (hid (s0 :: O :: qs) H8) := hid_grow (X := [s0]) (Y := O :: qs) (fun q h => by
      rcases List.mem_cons.mp h with z | z
      · rw [z]; exact hO
      · exact (fq q z).1) s8
    generalize hdW : zeroD (mn + 1) 3 = dW
    generalize hdL : zeroD mn (bs.length : Nat) = dL
    have hk8 := hid_keep (rowl rows8 sc8)
    have fb8 : FB C_Day (hid (s0 :: O :: qs) H8) B bs M xw xl dW dL := ⟨gro _ _ eB7h, hbs7.mono (repL_mono repDay_mono) gro, repDay_keep hk8 _ _ ⟨xw, rfl, by rw [← hdW]; exact stW7.same s8⟩, repDay_keep hk8 _ _ ⟨xl, rfl, by rw [← hdL]; exact stL7.same s8⟩⟩
    clear stW7 stL7 stW stL hk8 gro hbs7 eB7h hsrc
    have hqa : ∃ q, qs[an]? = some q := ⟨_, List.getElem?_eq_getElem (by rw [hq]; omega)⟩
    obtain ⟨q, hqa⟩ := hqa
    have qX : q ∈ s0 :: O :: qs := List.mem_cons_of_mem _ (List.mem_cons_of_mem _ (List.mem_of_getElem? hqa))
    have gd : ∀ d, d ∈ r0 → dayBad (mn : Int) M.length d = none := fun d hd => (hok0.2.2 d hd).none
    have gd2 : ∀ d, d ∈ r0.take pn → dayBad (mn : Int) M.length d = none := fun d hd => gd d (List.mem_of_mem_take hd)
    have han : an < M.length := by omega
    have memS : ∀ (rr : List DayD), rr.length ≤ 10 → (∀ d : DayD, d ∈ rr → d.1.length ≤ 4) → ∀ r, r ∈ M.set an rr → r.length ≤ 10 ∧ ∀ d : DayD, d ∈ r → d.1.length ≤ 4 := fun rr h1 h2 r hr => by
      rcases List.mem_or_eq_of_mem_set hr with z | z
      · exact ⟨by have := (hok r z).2.1; omega, fun d hd => ((hok r z).2.2 d hd).1.2.1⟩
      · rw [z]; exact ⟨h1, h2⟩
    have smS : ∀ (rr : List DayD), rr.length ≤ 10 → (∀ d : DayD, d ∈ rr → d.1.length ≤ 4) → Small (M.set an rr) := fun rr h1 h2 => lst_small (memS rr h1 h2) (by rw [List.length_set]; omega)
    have lenS : ∀ (rr : List DayD), (M.set an rr).length ≤ 5 := fun rr => by rw [List.length_set]; omega
    obtain ⟨d0, hd00⟩ : ∃ d0, r0[0]? = some d0 := ⟨_, List.getElem?_eq_getElem (by have := hok0.1; omega)⟩
    have okd0 := hok0.2.2 d0 (List.mem_of_getElem? hd00)
    have wfirst : ∀ (x : DayD) (l : List DayD), pn ≠ 0 ∨ (x.1.length : Int) = mn → ∃ d : DayD, (r0.take pn ++ x :: l)[0]? = some d ∧ (d.1.length : Int) = mn := fun x l hx => by
      by_cases z : pn = 0
      · refine ⟨x, by rw [z]; rfl, hx.resolve_left (fun y => y z)⟩
      · refine ⟨d0, ?_, okd0.2.1⟩
        rw [List.getElem?_append_left (by rw [List.length_take]; have := hok0.1; omega), List.getElem?_take_of_lt (by omega)]
        exact hd00
    have lW : dW.1.length = mn + 1 := by rw [← hdW]; exact zero_len _ _
    have lL : dL.1.length = mn := by rw [← hdL]; exact zero_len _ _
    have mW : dW.2.2.2 = 3 := by rw [← hdW]; rfl
    have mL : dL.2.2.2 = (bs.length : Nat) := by rw [← hdL]; rfl
    have hM1' : 1 ≤ M.length := hM1
    have hM4' : M.length ≤ 4 := by omega
    have dW4 : dW.1.length ≤ 4 := by omega
    have dL4 : dL.1.length ≤ 4 := by omega
    have r04 : ∀ d : DayD, d ∈ r0.drop pn → d.1.length ≤ 4 := fun d hd => (hok0.2.2 d (List.mem_of_mem_drop hd)).1.2.1
    have r04t : ∀ d : DayD, d ∈ r0.take pn → d.1.length ≤ 4 := fun d hd => (hok0.2.2 d (List.mem_of_mem_take hd)).1.2.1
    have all4 : ∀ (x : DayD) (l : List DayD), x.1.length ≤ 4 → (∀ d : DayD, d ∈ l → d.1.length ≤ 4) → ∀ d : DayD, d ∈ r0.take pn ++ x :: l → d.1.length ≤ 4 := fun x l hx hl d hd => by
      rcases List.mem_append.mp hd with z | z
      · exact r04t d z
      · rcases List.mem_cons.mp z with z | z
        · rw [z]; exact hx
        · exact hl d z
    have lt : (r0.take pn).length = pn := by rw [List.length_take]; omega
    have ld : (r0.drop pn).length = r0.length - pn := List.length_drop
    have hr4 := hok0.2.1
    -- the insertions
    refine ⟨fun σ H9 => ∃ (tail : List DayD) (w10 w11 : Option V), σ = [some (.ref a), some (.ref s0), some (.ref B), some (.int an), some (.int mn), some (.int (bs.length : Nat)), some (.ref xw), some (.ref xl), some (.int pn), some (.ref O), w10, w11] ∧ Rows C_Day H9 O qs (M.set an (r0.take pn ++ dW :: tail)) ∧ (r0.take pn ++ dW :: tail).length ≤ 6 ∧ (∀ d : DayD, d ∈ tail → d.1.length ≤ 4) ∧ FB C_Day (hid (s0 :: O :: qs) H9) B bs M xw xl dW dL, ?_, ?_⟩
    · refine ⟨_, rfl, _, rfl, a, s0, 2, rfl, sc8, by decide, by decide, fun c H9 c0 c1 f9 sc9 => ⟨rfl, _, rfl, ?_⟩⟩
      have rows9 := rows8.frm f9 nX (fun b hb o e => by rw [List.mem_singleton.mp hb] at e; exact sc8.lstS _ e)
      have fb9 := fb8.frm (f9.mono fun b hb => by rw [List.mem_singleton.mp hb]; exact List.mem_cons_self)
      obtain ⟨q', xs, hq', eR, hrd⟩ := rows9.row hr0
      rw [hqa] at hq'
      cases hq'
      have hxl9 := hrd.len
      have fO := fb9.out
      have aO : atI (qs.map V.ref) (an : Int) = some (.ref q) := atI_nat (by rw [List.getElem?_map, hqa]; rfl)
      refine ite2 (fun _ => ?_) (fun _ => ?_)
      · refine ⟨_, rfl, _, rfl, O, _, _, _, rfl, rfl, SqL.of rows9.1, aO, .inl ⟨rfl, _, SqL.of eR⟩, _, rfl, _, rfl, q, _, _, _, rfl, rfl, eR, small1000 (by have := hok0.2.1; omega), by omega, (rep_ok (by have := hok0.2.1; omega)).2, ?_⟩
        have ry : Reps (repDay C_Day) H9 (xs.take pn ++ [.ref xl] ++ xs.drop pn) (r0.take pn ++ dL :: r0.drop pn) := Reps.ins pn hrd fO.2.2.2
        have rows10 := rows9.upd hqa (Reps.keep (o2 := .lst (xs.take pn ++ [.ref xl] ++ xs.drop pn)) eR ry |> fun z => ry)
        have fb10 := fb9.frm (Frm.put (o := .lst (xs.take pn ++ [.ref xl] ++ xs.drop pn)) qX)
        have eR10 : (upd H9 q (.lst (xs.take pn ++ [.ref xl] ++ xs.drop pn))) q = some (.lst (xs.take pn ++ [.ref xl] ++ xs.drop pn)) := upd_same
        show tSeq _ _ _ _ (upd H9 q (.lst (xs.take pn ++ [.ref xl] ++ xs.drop pn)))
        generalize (upd H9 q (.lst (xs.take pn ++ [.ref xl] ++ xs.drop pn))) = H10 at rows10 fb10 eR10 ⊢
        refine ⟨_, rfl, O, _, M.set an (r0.take pn ++ dL :: r0.drop pn), rfl, rows10.1, rows10.reps, smS _ (by rw [List.length_append, List.length_cons]; omega) (all4 _ _ dL4 r04), lenS _, fun tag v he q1 G nq1 eq1 sq1 => ?_⟩
        have hsr := ref_ins (w := mn) (pre := r0.take pn) (x := dL) (tail := r0.drop pn) (b := (("mood" : Str), ((bs.length : Nat) : Int))) hM1' hM4' han (hok.take (by decide)) gd2 (by rw [bad_mood (by rw [lL]) (by rw [mL]; omega), mL]) (by rw [List.length_append, List.length_cons]; omega) (wid_set hok han (fun _ => wfirst dL _ (.inr (by rw [lL]))))
        rw [hsr] at he
        cases (show ((("mood" : Str), (((bs.length : Nat) : Int) : Int)) : Str × Int) = (tag, v) from he)
        refine ⟨_, rfl, two_le, fun r1 hr1 => ?_⟩
        obtain ⟨d, e, D1, D2, S1, S2, E⟩ := pair_eq (K := K) (H := upd G r1 (.tup [.str "mood", .int (((bs.length : Nat) : Int))])) (q := q1) (r := r1) (t := "mood") (v := .int (((bs.length : Nat) : Int))) (by decide +kernel) (.int _) nofun (by rw [upd_ne (ne_of_none eq1 hr1)]; exact eq1) upd_same
        refine ⟨d, e, D1, D2, S1, S2, _, rfl, ite2 (fun y => absurd y (by rw [E]; decide)) (fun _ => ?_)⟩
        have t1 := sq1.trans (Same.new (o := .tup [.str "mood", .int (((bs.length : Nat) : Int))]) hr1)
        generalize upd G r1 (.tup [.str "mood", .int (((bs.length : Nat) : Int))]) = K1 at t1 ⊢
        have rows11 := rows10.same t1
        have fb11 := fb10.frm (Frm.of_same t1)
        have eR11 := t1 _ _ eR10
        have fO11 := fb11.out
        refine ⟨_, rfl, _, rfl, O, _, _, _, rfl, rfl, SqL.of rows11.1, aO, .inl ⟨rfl, _, SqL.of eR11⟩, _, rfl, _, rfl, q, _, _, _, rfl, rfl, eR11, small1000 (by simp only [List.length_append, List.length_take, List.length_drop, List.length_cons, List.length_nil]; omega), by omega, (rep_ok (by omega)).2, ?_⟩
        have ry2 := Reps.ins pn (ry.mono repDay_mono (Same.refl _)) fO.2.2.1
        obtain ⟨q2, xs2, hq2, eR2, hrd2⟩ := rows11.row (set_at han)
        rw [hqa] at hq2
        cases hq2
        rw [eR11] at eR2
        cases eR2
        have rows12 := rows11.upd hqa (Reps.ins pn hrd2 fO11.2.2.1)
        rw [List.set_set, ins_take hpn, ins_drop hpn] at rows12
        refine ⟨dL :: r0.drop pn, _, _, rfl, rows12, by simp only [List.length_append, List.length_cons]; omega, fun d hd => ?_, fb11.frm (Frm.put qX)⟩
        rcases List.mem_cons.mp hd with z | z
        · rw [z]; exact dL4
        · exact r04 d z
      · refine ⟨_, rfl, _, rfl, O, _, _, _, rfl, rfl, SqL.of rows9.1, aO, .inl ⟨rfl, _, SqL.of eR⟩, _, rfl, _, rfl, q, _, _, _, rfl, rfl, eR, small1000 (by omega), by omega, (rep_ok (by omega)).2, ?_⟩
        have rows10 := rows9.upd hqa (Reps.ins pn hrd fO.2.2.1)
        exact ⟨r0.drop pn, _, _, rfl, rows10, by simp only [List.length_append, List.length_cons]; omega, r04, fb9.frm (Frm.put qX)⟩
    rintro σ H9 ⟨tail, w10, w11, rfl, rows9, h6, ht4, fb9⟩
    refine ⟨_, rfl, _, _, rfl, rfl, two_le, fun u hu => ?_⟩
    have bW : dayBad (mn : Int) M.length dW = some (("plots" : Str), (mn : Int) + 1) := by rw [bad_plots (by rw [lW]; omega), lW]; rfl
    have refW : ¬ (an = 0 ∧ pn = 0) → wRef (M.set an (r0.take pn ++ dW :: tail)) = some (("plots" : Str), (mn : Int) + 1) := fun hn => ref_ins (w := mn) hM1' hM4' han (hok.take (by decide)) gd2 bW h6 (wid_set hok han (fun h0 => wfirst dW _ (.inl (fun z => hn ⟨h0, z⟩))))
    have refW0 : an = 0 → pn = 0 → wRef (M.set an (r0.take pn ++ dW :: tail)) = some (("mood" : Str), (3 : Int)) := fun h0 h1 => by
      refine ref_ins (w := (mn : Int) + 1) hM1' hM4' han (fun q hq => ?_) (fun q hq => ?_) (by rw [bad_mood (by rw [lW]; rfl) (by rw [mW]; omega), mW]) h6 ?_
      · rw [h0, List.take_zero] at hq; cases hq
      · rw [h1, List.take_zero] at hq; cases hq
      · have e0 : (M.set an (r0.take pn ++ dW :: tail))[0]? = some (r0.take pn ++ dW :: tail) := by
          have z := set_at (x := r0.take pn ++ dW :: tail) han
          rw [h0] at z ⊢
          exact z
        have e1 : (r0.take pn ++ dW :: tail)[0]? = some dW := by rw [h1]; rfl
        rw [wid_pos e0 e1, lW]
        rfl
    refine ⟨fun σ H10 => ∃ (u' : Addr) (tag : Str) (v : Int) (w11 : Option V), σ = [some (.ref a), some (.ref s0), some (.ref B), some (.int an), some (.int mn), some (.int (bs.length : Nat)), some (.ref xw), some (.ref xl), some (.int pn), some (.ref O), some (.ref u'), w11] ∧ H10 u' = some (.tup [.str tag, .int v]) ∧ Same H9 H10 ∧ wRef (M.set an (r0.take pn ++ dW :: tail)) = some (tag, v) ∧ PyData.strOk tag = true, ?_, ?_⟩
    · have nO : ¬ (an = 0 ∧ pn = 0) → ∃ (u' : Addr) (tag : Str) (v : Int) (w11' : Option V), [some (.ref a), some (.ref s0), some (.ref B), some (.int an), some (.int mn), some (.int (bs.length : Nat)), some (.ref xw), some (.ref xl), some (.int pn), some (.ref O), some (.ref u), w11] = [some (.ref a), some (.ref s0), some (.ref B), some (.int an), some (.int mn), some (.int (bs.length : Nat)), some (.ref xw), some (.ref xl), some (.int pn), some (.ref O), some (.ref u'), w11'] ∧ (upd H9 u (.tup [.str "plots", .int ((mn : Int) + 1)])) u' = some (.tup [.str tag, .int v]) ∧ Same H9 (upd H9 u (.tup [.str "plots", .int ((mn : Int) + 1)])) ∧ wRef (M.set an (r0.take pn ++ dW :: tail)) = some (tag, v) ∧ PyData.strOk tag = true := fun hn => ⟨u, "plots", _, _, rfl, upd_same, Same.new hu, refW hn, by decide +kernel⟩
      refine ⟨_, rfl, rfl, _, rfl, ite2 (fun c1 => ?_) (fun c1 => ?_)⟩
      · refine ⟨_, rfl, rfl, _, rfl, ite2 (fun c2 => ?_) (fun c2 => ?_)⟩
        · have c1 : an = 0 := by have z := of_decide_eq_true c1; injection z with z; omega
          have c2 : pn = 0 := by have z := of_decide_eq_true c2; injection z with z; omega
          exact ⟨two_le, fun u2 hu2 => ⟨u2, "mood", 3, _, rfl, upd_same, (Same.new hu).trans (Same.new hu2), refW0 c1 c2, by decide +kernel⟩⟩
        · exact nO (fun z => c2 (decide_eq_true (by rw [z.2]; rfl)))
      · exact nO (fun z => c1 (decide_eq_true (by rw [z.1]; rfl)))
    clear refW refW0 bW hu
    rintro σ H10 ⟨u', tag, v, w11, rfl, eu, s10, hwr, hst⟩
    have rows10 := rows9.same s10
    have fb10 := fb9.frm (Frm.of_same s10)
    refine ⟨_, rfl, O, _, M.set an (r0.take pn ++ dW :: tail), rfl, rows10.1, rows10.reps, smS _ (by omega) (all4 _ _ dW4 ht4), lenS _, fun tag' v' he q1 G nq1 eq1 sq1 => ?_⟩
    rw [hwr] at he
    cases (show ((tag, v) : Str × Int) = (tag', v') from he)
    obtain ⟨d, e, D1, D2, S1, S2, E⟩ := pair_eq (K := K) (H := G) (q := q1) (r := u') (t := tag) (v := .int v) hst (.int _) nofun eq1 (sq1 _ _ eu)
    refine ⟨_, rfl, d, e, D1, D2, S1, S2, _, rfl, ite2 (fun y => absurd y (by rw [E]; decide)) (fun _ => ?_)⟩
    have rows11 := rows10.same sq1
    have fb11 := fb10.frm (Frm.of_same sq1)
    refine ⟨_, rfl, bigN (by show 0 ≤ _; decide), fun e1 he1 => ⟨bigN (by show 1 ≤ _; decide), fun e2 he2 => ⟨_, rfl, _, _, rfl, rfl, e2, _, _, rfl, rfl, upd_same, (rep_ok (by omega)).1, (rep_ok (by omega)).2, bigN (by show 1 * _ ≤ _; omega), fun e3 he3 => ⟨O, e3, _, _, rfl, rfl, ((Same.new (o := .lst []) he1).trans (Same.new (o := .lst [.ref e1]) he2) |>.trans (Same.new (o := .lst (List.replicate ((5 : Int) - (bs.length : Nat)).toNat [V.ref e1]).flatten) he3)) _ _ rows11.1, upd_same, bigN (by rw [rep_flatV, List.length_replicate, List.length_map]; omega), fun e4 he4 => ⟨e4, _, M.set an (r0.take pn ++ dW :: tail) ++ List.replicate (5 - bs.length) [], rfl, upd_same, (Reps.app (rows11.reps.mono (repL_mono repDay_mono) ((Same.new he1).trans ((Same.new he2).trans ((Same.new he3).trans (Same.new he4))))) (Reps.repF ⟨e1, [], rfl, ((Same.new he2).trans ((Same.new he3).trans (Same.new he4))) _ _ upd_same, trivial⟩ (by omega))), lst_small (fun r hr => (List.mem_append.mp hr).elim (memS _ (by omega) (all4 _ _ dW4 ht4) r) (fun z => by rw [(List.mem_replicate.mp z).2]; exact ⟨by decide, fun d hd => by cases hd⟩)) (by rw [List.length_append, List.length_set, List.length_replicate]; omega), (by rw [List.length_append, List.length_set, List.length_replicate]; omega), fun tag v he q1 G nq1 eq1 sq1 => ?_⟩⟩⟩⟩⟩
    have hsr := (ref_many (by rw [List.length_append, List.length_set, List.length_replicate]; omega)).trans (show some (("moods" : Str), (((M.set an (r0.take pn ++ dW :: tail) ++ List.replicate (5 - bs.length) []).length : Nat) : Int)) = some (("moods" : Str), (5 : Int)) by rw [List.length_append, List.length_set, List.length_replicate, show M.length + (5 - bs.length) = 5 by omega]; rfl)
    rw [hsr] at he
    cases (show ((("moods" : Str), (5 : Int)) : Str × Int) = (tag, v) from he)
    refine ⟨two_le, fun r1 hr1 => ?_⟩
    obtain ⟨d, e, D1, D2, S1, S2, E⟩ := pair_eq (K := K) (H := upd G r1 (.tup [.str "moods", .int (5)])) (q := q1) (r := r1) (t := "moods") (v := .int (5)) (by decide +kernel) (.int _) nofun (by rw [upd_ne (ne_of_none eq1 hr1)]; exact eq1) upd_same
    refine ⟨d, e, D1, D2, S1, S2, _, rfl, ite2 (fun y => absurd y (by rw [E]; decide)) (fun _ => ?_)⟩
    have t2 := sq1.trans (Same.new (o := .tup [.str "moods", .int (5)]) hr1)
    generalize upd G r1 (.tup [.str "moods", .int (5)]) = K2 at t2 ⊢
    have t2 := Same.trans ((Same.new he1).trans ((Same.new he2).trans ((Same.new he3).trans (Same.new he4)))) t2
    have rows12 := rows11.same t2
    have fb12 := fb11.frm (Frm.of_same t2)
    have fO12 := fb12.out
    obtain ⟨x0', hx0', p0', xs0', rfl, e0', hd0'⟩ := fO12.2.1.at' hr0
    obtain ⟨y0, hy0, hyd⟩ := hd0'.at' hd00
    refine ⟨_, rfl, _, rfl, B, _, _, _, rfl, rfl, SqL.of fO12.1, atI_nat hx0', p0', _, _, _, rfl, rfl, SqL.of e0', at0 hy0, bigN (by show 1 ≤ _; decide), fun z hz => ⟨z, 7, _, rfl, rfl, upd_same, by decide, by decide, bigN (by show 1 * 7 ≤ _; decide), fun y hy => ?_⟩⟩
    have nyO : O ≠ y := ne_of_none ((Same.new (o := .lst [y0]) hz) _ _ rows12.1) hy
    have tA := (Same.new (o := .lst [y0]) hz).trans (Same.new (o := .lst (List.replicate (7 : Int).toNat [y0]).flatten) hy)
    have gY : (upd (upd K2 z (.lst [y0])) y (.lst (List.replicate (7 : Int).toNat [y0]).flatten)) y = some (.lst (List.replicate 7 y0)) := by rw [upd_same, rep_flatV]; rfl
    generalize (upd (upd K2 z (.lst [y0])) y (.lst (List.replicate (7 : Int).toNat [y0]).flatten)) = K3 at tA gY ⊢
    have rows13 := rows12.same tA
    refine ⟨_, rfl, _, rfl, O, _, _, an, rfl, rfl, rows13.1, by unfold ixN; rw [if_pos (by omega), if_pos (by rw [List.length_map]; omega)]; rfl, ?_⟩
    have kO := hid_keep (X := [O]) (H := K3) (fun b hb o e' => by rw [List.mem_singleton.mp hb, rows13.1] at e'; exact ⟨_, (Option.some.inj e').symm⟩)
    have ry7 : repL (repDay C_Day) (.ref y) (hid [O] K3) (List.replicate 7 d0) := ⟨y, _, rfl, by rw [hid_eq (by simpa using nyO.symm)]; exact gY, Reps.rep (repDay_keep kO _ _ (repDay_mono _ _ _ _ tA hyd)) 7⟩
    have r7 := Reps.set an rows13.repsO ry7
    rw [List.set_set] at r7
    have f13 : Same (hid [O] K3) (upd K3 O (.lst ((qs.map V.ref).set an (.ref y)))) := fun b o e => by
      have nb : b ≠ O := fun z => by rw [z, show hid [O] K3 O = none from if_pos List.mem_cons_self] at e; cases e
      rw [upd_ne nb]
      exact hid_same _ _ _ _ e
    have r7 := r7.mono (repL_mono repDay_mono) f13
    have fb13 := (fb12.frm (Frm.of_same tA)).frm (Frm.put (a := O) (o := .lst ((qs.map V.ref).set an (.ref y))) (List.mem_cons_of_mem _ List.mem_cons_self))
    have gO4 : (upd K3 O (.lst ((qs.map V.ref).set an (.ref y)))) O = some (.lst ((qs.map V.ref).set an (.ref y))) := upd_same
    generalize (upd K3 O (.lst ((qs.map V.ref).set an (.ref y)))) = K4 at r7 fb13 gO4 ⊢
    have l7 : (List.replicate 7 d0).length = 7 := List.length_replicate
    have d7 : ∀ d : DayD, d ∈ List.replicate 7 d0 → d.1.length ≤ 4 := fun d hd => by rw [(List.mem_replicate.mp hd).2]; exact okd0.1.2.1
    refine ⟨_, rfl, O, _, M.set an (List.replicate 7 d0), rfl, gO4, r7, smS _ (by rw [l7]; decide) d7, lenS _, fun tag v he q1 G nq1 eq1 sq1 => ?_⟩
    have hsr := (ref_row (w := mn) (i := an) (r := List.replicate 7 d0) (by rw [List.length_set]; exact hM1) (by rw [List.length_set]; exact hM4') (wid_set hok han (fun _ => ⟨d0, rfl, okd0.2.1⟩)) (set_at han) (fun q hq => by rw [take_set] at hq; rw [List.length_set]; exact hok.take (by decide) q hq) (bad_len (by rw [l7]; decide))).trans (by rw [l7]; rfl : some (("days" : Str), (((List.replicate 7 d0).length : Nat) : Int)) = some (("days" : Str), (7 : Int)))
    rw [hsr] at he
    cases (show ((("days" : Str), (7 : Int)) : Str × Int) = (tag, v) from he)
    refine ⟨two_le, fun r1 hr1 => ?_⟩
    obtain ⟨d, e, D1, D2, S1, S2, E⟩ := pair_eq (K := K) (H := upd G r1 (.tup [.str "days", .int (7)])) (q := q1) (r := r1) (t := "days") (v := .int (7)) (by decide +kernel) (.int _) nofun (by rw [upd_ne (ne_of_none eq1 hr1)]; exact eq1) upd_same
    refine ⟨d, e, D1, D2, S1, S2, _, rfl, ite2 (fun y => absurd y (by rw [E]; decide)) (fun _ => ?_)⟩
    have t3 := sq1.trans (Same.new (o := .tup [.str "days", .int (7)]) hr1)
    generalize upd G r1 (.tup [.str "days", .int (7)]) = K3 at t3 ⊢
    have fb14 := fb13.frm (Frm.of_same t3)
    have fO14 := fb14.out
    have hokN : OkM (mn : Int) ((M.length : Int) + 1) 4 M := hok.mono (by omega)
    have lN : (M ++ [([] : List DayD)]).length = M.length + 1 := List.length_append
    refine ⟨_, rfl, bigN (by show 0 ≤ _; decide), fun e1 he1 => ⟨bigN (by show 1 ≤ _; decide), fun e2 he2 => ⟨B, e2, _, _, rfl, rfl, ((Same.new (o := .lst []) he1).trans (Same.new (o := .lst [.ref e1]) he2)) _ _ fO14.1, upd_same, bigN (by show _ + 1 ≤ _; omega), fun e3 he3 => ⟨e3, _, M ++ [[]], rfl, upd_same, Reps.app (fO14.2.1.mono (repL_mono repDay_mono) ((Same.new he1).trans ((Same.new he2).trans (Same.new he3)))) (Reps.one ⟨e1, [], rfl, ((Same.new he2).trans (Same.new he3)) _ _ upd_same, trivial⟩), lst_small (fun r hr => (List.mem_append.mp hr).elim (fun z => ⟨by have := (hok r z).2.1; omega, fun d hd => ((hok r z).2.2 d hd).1.2.1⟩) (fun z => by rw [List.mem_singleton.mp z]; exact ⟨by decide, fun d hd => by cases hd⟩)) (by rw [lN]; omega), (by rw [lN]; omega), fun tag v he q1 G nq1 eq1 sq1 => ?_⟩⟩⟩⟩
    have hsr : wRef (M ++ [[]]) = some (("days" : Str), (0 : Int)) := ref_row (w := mn) (i := M.length) (r := []) (by rw [lN]; omega) (by rw [lN]; omega) (by
      obtain ⟨q, hq0⟩ : ∃ q, M[0]? = some q := ⟨_, List.getElem?_eq_getElem (by omega)⟩
      have hqk := hok q (List.mem_of_getElem? hq0)
      obtain ⟨dd, hdd⟩ : ∃ dd, q[0]? = some dd := ⟨_, List.getElem?_eq_getElem (by have := hqk.1; omega)⟩
      rw [wid_pos (M := M ++ [[]]) (by rw [List.getElem?_append_left (by omega)]; exact hq0) hdd]
      exact (hqk.2.2 _ (List.mem_of_getElem? hdd)).2.1) (by rw [List.getElem?_append_right (Nat.le_refl _), Nat.sub_self]; rfl) (fun q hq => by rw [List.take_append_of_le_length (Nat.le_refl _), List.take_length] at hq; rw [lN]; exact (hokN q hq).none (by decide)) (bad_len (by decide))
    rw [hsr] at he
    cases (show ((("days" : Str), (0 : Int)) : Str × Int) = (tag, v) from he)
    refine ⟨two_le, fun r1 hr1 => ?_⟩
    obtain ⟨d, e, D1, D2, S1, S2, E⟩ := pair_eq (K := K) (H := upd G r1 (.tup [.str "days", .int (0)])) (q := q1) (r := r1) (t := "days") (v := .int (0)) (by decide +kernel) (.int _) nofun (by rw [upd_ne (ne_of_none eq1 hr1)]; exact eq1) upd_same
    refine ⟨d, e, D1, D2, S1, S2, _, rfl, ite2 (fun y => absurd y (by rw [E]; decide)) (fun _ => ?_)⟩
    have t4 := sq1.trans (Same.new (o := .tup [.str "days", .int (0)]) hr1)
    generalize upd G r1 (.tup [.str "days", .int (0)]) = K4 at t4 ⊢
    have t4 := Same.trans ((Same.new he1).trans ((Same.new he2).trans (Same.new he3))) t4
    have fb15 := fb14.frm (Frm.of_same t4)
    refine ⟨bigN (by show 0 ≤ _; decide), fun e1 he1 => ⟨e1, [], [], rfl, upd_same, trivial, ⟨by decide, fun r hr => by cases hr⟩, by decide, fun tag v he q1 G nq1 eq1 sq1 => ?_⟩⟩
    rw [ref_many (M := []) (by decide)] at he
    cases (show ((("moods" : Str), (0 : Int)) : Str × Int) = (tag, v) from he)
    refine ⟨two_le, fun r1 hr1 => ?_⟩
    obtain ⟨d, e, D1, D2, S1, S2, E⟩ := pair_eq (K := K) (H := upd G r1 (.tup [.str "moods", .int 0])) (q := q1) (r := r1) (t := "moods") (v := .int 0) (by decide +kernel) (.int _) nofun (by rw [upd_ne (ne_of_none eq1 hr1)]; exact eq1) upd_same
    refine ⟨d, e, D1, D2, S1, S2, _, rfl, ?_⟩
    rw [E]
    refine iteT ?_
    have t5 := ((Same.new (o := .lst []) he1).trans sq1).trans (Same.new (o := .tup [.str "moods", .int 0]) hr1)
    generalize upd G r1 (.tup [.str "moods", .int 0]) = K5 at t5 ⊢
    have fO16 := (fb15.frm (Frm.of_same t5)).out
    obtain ⟨q0, hq0⟩ : ∃ q, M[0]? = some q := ⟨_, List.getElem?_eq_getElem (by omega)⟩
    have hqk := hok q0 (List.mem_of_getElem? hq0)
    obtain ⟨dd, hdd⟩ : ∃ dd, q0[0]? = some dd := ⟨_, List.getElem?_eq_getElem (by have := hqk.1; omega)⟩
    have okdd := hqk.2.2 dd (List.mem_of_getElem? hdd)
    obtain ⟨x6, hx6, p6, xs6, rfl, e6, hd6⟩ := fO16.2.1.at' hq0
    obtain ⟨y6, hy6, p7, rfl, hp7⟩ := hd6.at' hdd
    obtain ⟨dx7, qx7, rx7, e7, _⟩ := id hp7
    refine ⟨_, rfl, B, _, _, _, rfl, rfl, SqL.of fO16.1, at0 hx6, p6, _, _, _, rfl, rfl, SqL.of e6, at0 hy6, p7, dx7, _, 0, rfl, rfl, e7, p7, _, _, _, _, 0, rfl, hp7, okdd.1, fun _ _ x8 H8 s8 st8 => ?_, fun nu => absurd ⟨by decide, by decide⟩ nu⟩
    refine ⟨bigN (by show 1 ≤ _; decide), fun z1 hz1 => ⟨bigN (by show 1 ≤ _; decide), fun z2 hz2 => ⟨z2, 4, _, rfl, rfl, upd_same, by decide, by decide, bigN (by show 1 * 4 ≤ _; decide), fun z3 hz3 => ?_⟩⟩⟩
    have ok9 : OkD (mn : Int) 4 (dd.1, moreR 0 dd.2.1, dd.2.2.1, dd.2.2.2) := ⟨moreR_vday okdd.1 (by decide), okdd.2.1, by have := okdd.2.2; show dd.2.2.2 < 4; omega⟩
    have t9 := ((Same.new (o := .lst [.ref x8]) hz1).trans (Same.new (o := .lst [.ref z1]) hz2)).trans (Same.new (o := .lst (List.replicate (4 : Int).toNat [V.ref z1]).flatten) hz3)
    have g9 : (upd (upd (upd H8 z1 (.lst [.ref x8])) z2 (.lst [.ref z1])) z3 (.lst (List.replicate (4 : Int).toNat [V.ref z1]).flatten)) z3 = some (.lst (List.replicate 4 (V.ref z1))) := by rw [upd_same, rep_flatV]; rfl
    have g10 : (upd (upd (upd H8 z1 (.lst [.ref x8])) z2 (.lst [.ref z1])) z3 (.lst (List.replicate (4 : Int).toNat [V.ref z1]).flatten)) z1 = some (.lst [.ref x8]) := ((Same.new (o := .lst [.ref z1]) hz2).trans (Same.new hz3)) _ _ upd_same
    generalize (upd (upd (upd H8 z1 (.lst [.ref x8])) z2 (.lst [.ref z1])) z3 (.lst (List.replicate (4 : Int).toNat [V.ref z1]).flatten)) = K6 at t9 g9 g10 ⊢
    have ok4 : OkM (mn : Int) 4 4 (List.replicate 4 [(dd.1, moreR 0 dd.2.1, dd.2.2.1, dd.2.2.2)]) := fun r hr => by
      rw [(List.mem_replicate.mp hr).2]
      exact ⟨by show 1 ≤ 1; decide, by show 1 ≤ 4; decide, fun d hd => by rw [List.mem_singleton.mp hd]; exact ok9⟩
    refine ⟨z3, _, List.replicate 4 [(dd.1, moreR 0 dd.2.1, dd.2.2.1, dd.2.2.2)], rfl, g9, Reps.rep ⟨z1, _, rfl, g10, Reps.one ⟨x8, rfl, st8.same t9⟩⟩ 4, ok4.small (by decide) (by rw [List.length_replicate]; decide), by rw [List.length_replicate]; decide, fun tag v he q1 G nq1 eq1 sq1 => ?_⟩
    rw [OkM.ref (M := List.replicate 4 [(dd.1, moreR 0 dd.2.1, dd.2.2.1, dd.2.2.2)]) ok4 (by decide) (by rw [List.length_replicate]; decide) (by rw [List.length_replicate]; decide)] at he
    cases (show ((("none" : Str), (0 : Int)) : Str × Int) = (tag, v) from he)
    refine ⟨q1, _, _, _, rfl, rfl, SqT.of eq1, rfl, rfl, ?_⟩
    exact k _
end
end Wb

namespace Wb
open PySem PySem.Spec PyProof.Rows L2 Wx StX NdefX RZ StX PyProof.Rows.FinIter
section
variable {P : Program} {w : World} {K : PySem.W.Frag} {mg : Str → Option Value} {base : Heap}

theorem ixN_m1 {n : Nat} (h : 0 < n) : ixN n (-1) = some (n - 1) := by
  unfold ixN
  rw [if_neg (by decide), if_pos (by omega)]
  congr 1
  omega
theorem atI_m1 {xs : List V} {v : V} (h : xs[xs.length - 1]? = some v) : atI xs (-1) = some v := by
  have hl : xs.length - 1 < xs.length := (List.getElem?_eq_some_iff.mp h).1
  unfold atI
  rw [ixN_m1 (by omega)]
  exact h
theorem cut_m1 {xs : List V} (h : 0 < xs.length) : cutV xs none (some (-1)) = xs.take (xs.length - 1) := by
  have e : ((-1 : Int) + (xs.length : Int)).toNat = xs.length - 1 := by omega
  show (xs.drop 0).take ((if (-1 : Int) < 0 then ((-1 : Int) + (xs.length : Int)).toNat else min (-1 : Int).toNat xs.length) - 0) = _
  rw [if_pos (by decide), e]
  rfl
theorem repDay_frm {C : Addr} {K : PySem.W.Frag} {H H' : Hp} {a s : Addr} (h : Scr K H a s) (f : Frm [s] H H') : ∀ x d, repDay C x H d → repDay C x H' d := repDay_keep fun b o e n _ => f b o (fun m => by rw [List.mem_singleton.mp m] at e; obtain ⟨xs, z⟩ := h.lstS _ e; exact n xs z) e
theorem WAt.frm {CW CD : Addr} {H H' : Hp} {X : List Addr} {p : Addr} {M : List (List DayD)} (x : WAt CW CD H p M) (f : Frm X H H') (nX : ∀ b, b ∈ X → ∀ o, H b = some o → ∃ l, o = .lst l) : WAt CW CD H' p M := by
  obtain ⟨dx, q, e1, e2⟩ := x
  have go : ∀ b o, H b = some o → (∀ xs, o ≠ .lst xs) → H' b = some o := fun b o e n => f b o (fun m => by obtain ⟨l, z⟩ := nX b m o e; exact n l z) e
  exact ⟨dx, q, go _ _ e1 (fun xs z => by cases z), repTT_keep (fun b o e n _ => go b o e n) _ _ e2⟩
theorem hid_frm0 {X : List Addr} {H : Hp} : Frm X H (hid X H) := fun b o n e => by rw [hid_eq n]; exact e
theorem fill_vday {n : Nat} {x m : Int} (h1 : 1 ≤ n) (h4 : n ≤ 4) (hx : 0 ≤ x ∧ x ≤ 8) (m0 : 0 ≤ m) (m3 : m ≤ 3) : VDay (List.replicate n x) (List.replicate n 0) 0 m := by
  have hz : ∀ y : Int, ∀ i, i ∈ List.replicate n y → i = y := fun y i hi => (List.mem_replicate.mp hi).2
  exact ⟨by rw [List.length_replicate]; exact h1, by rw [List.length_replicate]; exact h4, by rw [List.length_replicate, List.length_replicate], fun i hi => by rw [hz x i hi]; exact hx, fun i hi => by rw [hz 0 i hi]; decide, by decide, by decide, m0, m3⟩
theorem rep_flatI (n : Nat) (x : Int) : (List.replicate n [V.int x]).flatten = (List.replicate n x).map V.int := by
  rw [rep_flatV, List.map_replicate]
theorem getLast_ne {M : List (List DayD)} (h : ∀ r, r ∈ M → r.length ≤ 4) (h1 : 1 ≤ M.length) {r' : List DayD} (h5 : r'.length = 5) : ¬ M = M.take (M.length - 1) ++ [r'] := fun e => by
  have : r' ∈ M := by rw [e]; exact List.mem_append_right _ (List.mem_singleton.mpr rfl)
  have := h _ this
  omega

theorem oklaw {f : Addr} {fd : FuncData} (F : Fun K "law" "law" slaw f fd) (T : Txt K mg) {C_BadNumber C_Day C_Weather fi fe fwi fwe : Addr} (D_Day : DatC K mg "Day" C_Day fi fe ["dry", "rain", "fill", "mood"]) (D_Weather : DatC K mg "Weather" C_Weather fwi fwe ["moods", "width"]) {fdi : FuncData} (GDay___init__ : FnOk P w K mg base (L2.CX P w) 6 fi fdi PDay___init__ (spDay_init K C_Day C_BadNumber)) (bDay___init__ : Binds K fdi PDay___init__ []) {fwl : Addr} {fde fdwe fdwl : FuncData} (N_Weather : PySem.W.findIn K (.ref C_Weather) "__len__" = some (some (.ref fwl)) ∧ PySem.W.isFn K (.ref fwl) = true) (GDay___eq__ : FnOk P w K mg base CX0 1 fe fde PDay___eq__ (spDay_eq C_Day)) (bDay___eq__ : Binds K fde PDay___eq__ []) (GWeather___eq__ : FnOk P w K mg base CX0 4 fwe fdwe PWeather___eq__ (spWeather_eq C_Weather C_Day)) (bWeather___eq__ : Binds K fdwe PWeather___eq__ []) (GWeather___len__ : FnOk P w K mg base CX0 1 fwl fdwl PWeather___len__ (spWeather_len C_Weather C_Day)) (bWeather___len__ : Binds K fdwl PWeather___len__ []) (C_law_start : Cal P w K mg base "_law_start" P_law_start 1 (sp_law_start K)) (C_law_draw : Cal P w K mg base "_law_draw" P_law_draw 1 (sp_law_draw K)) (C_law_day : Cal P w K mg base "_law_day" P_law_day 9 (sp_law_day K C_Day)) (C_law_item : Cal P w K mg base "_law_item" P_law_item 9 (sp_law_item C_Weather C_Day)) (C_law_made : Cal P w K mg base "_law_made" P_law_made 9 (sp_law_made C_Weather C_Day)) (C_law_refusals_hold : Cal P w K mg base "_law_refusals_hold" P_law_refusals_hold 10 (sp_law_refusals_hold K C_Day)) : FnOk P w K mg base CX0 12 f fd Plaw (splaw K) := by
  obtain ⟨g_law_start, gd_law_start, G_law_start, m_law_start, k_law_start, b_law_start⟩ := C_law_start.ex
  obtain ⟨g_law_draw, gd_law_draw, G_law_draw, m_law_draw, k_law_draw, b_law_draw⟩ := C_law_draw.ex
  obtain ⟨g_law_day, gd_law_day, G_law_day, m_law_day, k_law_day, b_law_day⟩ := C_law_day.ex
  obtain ⟨g_law_item, gd_law_item, G_law_item, m_law_item, k_law_item, b_law_item⟩ := C_law_item.ex
  obtain ⟨g_law_made, gd_law_made, G_law_made, m_law_made, k_law_made, b_law_made⟩ := C_law_made.ex
  obtain ⟨g_law_refusals_hold, gd_law_refusals_hold, G_law_refusals_hold, m_law_refusals_hold, k_law_refusals_hold, b_law_refusals_hold⟩ := C_law_refusals_hold.ex
  refine F.ok sclaw (fun vs H Q E h => ?_) (fun cdv A outer s H vs Q E hr h => ?_)
  · obtain ⟨a, ns, rfl, hS, hlen, k⟩ := h
    rfl
  · obtain ⟨a, ns, rfl, hS, hlen, k⟩ := h
    refine ⟨_, (pss_cons (ps_set (i := 1) sclaw.nd rfl (by first | exact Or.inl rfl | exact Or.inr rfl) (pe_call G_law_start (hr.mono (by decide)) (by rfl) m_law_start k_law_start b_law_start .nil pass0 (pa_cons (pv 0) pa_nil)))
  (pss_cons (ps_set (i := 2) sclaw.nd rfl (by first | exact Or.inl rfl | exact Or.inr rfl) (pe_op op_add pe_int (pe_call G_law_draw (hr.mono (by decide)) (by rfl) m_law_draw k_law_draw b_law_draw .nil pass0 (pa_cons (pv 0) (pa_cons (pv 1) (pa_cons pe_int pa_nil))))))
  (pss_cons (ps_set (i := 3) sclaw.nd rfl (by first | exact Or.inl rfl | exact Or.inr rfl) (pe_op op_add pe_int (pe_call G_law_draw (hr.mono (by decide)) (by rfl) m_law_draw k_law_draw b_law_draw .nil pass0 (pa_cons (pv 0) (pa_cons (pv 1) (pa_cons pe_int pa_nil))))))
  (pss_cons (ps_set (i := 4) sclaw.nd rfl (by first | exact Or.inl rfl | exact Or.inr rfl) (pe_lst pa_nil))
  (pss_cons (ps_for PassesOwn.never rfl (pi_range1 rfl T.b_range (pa_cons (pv 3) pa_nil)) (pg_name (i := 5) sclaw.nd rfl (by first | exact Or.inl rfl | exact Or.inr rfl))
  (pss_cons (ps_set (i := 6) sclaw.nd rfl (by first | exact Or.inl rfl | exact Or.inr rfl) (pe_op op_add pe_int (pe_call G_law_draw (hr.mono (by decide)) (by rfl) m_law_draw k_law_draw b_law_draw .nil pass0 (pa_cons (pv 0) (pa_cons (pv 1) (pa_cons pe_int pa_nil))))))
  (pss_one (ps_expr (pe_bm PySem.F.plainAttrs_list PySem.F.slot_list_append PySem.F.type_list_append mt_append (pv 4) (pa_cons (pe_lc (own := [("k", 11)]) rfl sclaw.nd (pi_range1 rfl T.b_range (pa_cons (pv 6) pa_nil)) (blkOk_by (own := [("k", 11)]) (N := Nlaw) (sc := defScope slaw) (by decide +kernel)) (fun _ _ _ _ _ => (pg_name (i := 11) sclaw.nd rfl (by first | exact Or.inl rfl | exact Or.inr rfl))) (fun _ _ _ _ _ => pts_nil) (fun _ _ _ _ _ => (pe_call G_law_day (hr.mono (by decide)) (by rfl) m_law_day k_law_day b_law_day .nil pass0 (pa_cons (pv 0) (pa_cons (pv 1) (pa_cons (pv 2) (pa_cons pe_int (pa_cons (pv 3) pa_nil)))))))) pa_nil))))))
  (pss_cons (ps_setLc (i := 7) (own := [("days", 14)]) rfl sclaw.nd rfl rfl (sw_true rfl rfl rfl (by decide +kernel)) (pi_list (pv 4)) (blkOk_by (own := [("days", 14)]) (N := Nlaw) (sc := defScope slaw) (by decide +kernel)) (fun _ _ _ _ _ => (pg_name (i := 14) sclaw.nd rfl (by first | exact Or.inl rfl | exact Or.inr rfl))) (fun _ _ _ _ _ => pts_nil) (fun _ _ _ _ _ => (pe_callTy (T := "list") (r := rListOf K) call_list_of (by rfl) T.b_list (by decide +kernel) (pa_cons (pv 14) pa_nil))))
  (pss_cons (ps_set (i := 8) sclaw.nd rfl (by first | exact Or.inl rfl | exact Or.inr rfl) (pe_call G_law_made (hr.mono (by decide)) (by rfl) m_law_made k_law_made b_law_made .nil pass0 (pa_cons (pv 4) pa_nil)))
  (pss_cons (ps_set (i := 9) sclaw.nd rfl (by first | exact Or.inl rfl | exact Or.inr rfl) (pe_call G_law_made (hr.mono (by decide)) (by rfl) m_law_made k_law_made b_law_made .nil pass0 (pa_cons (pe_lc (own := [("days", 14)]) rfl sclaw.nd (pi_list (pv 7)) (blkOk_by (own := [("days", 14)]) (N := Nlaw) (sc := defScope slaw) (by decide +kernel)) (fun _ _ _ _ _ => (pg_name (i := 14) sclaw.nd rfl (by first | exact Or.inl rfl | exact Or.inr rfl))) (fun _ _ _ _ _ => pts_nil) (fun _ _ _ _ _ => (pe_callTy (T := "tuple") (r := rTupOf K) call_tuple_of (by rfl) T.b_tuple (by decide +kernel) (pa_cons (pv 14) pa_nil)))) pa_nil)))
  (pss_cons (ps_if (PW.pt (pw_or (pt_cmpR (op_neR (rc_L (.inr ⟨rfl, rfl⟩) (repL_mono repDay_mono) (eqR_L repDay_mono repDay_fn (eqR_Day GDay___eq__ D_Day.eq D_Day.fe bDay___eq__))) (hr.mono (by decide))) (pv 4) (pv 7) (nomark _)) (pw_or (pt_cmpR op_ne (pe_callB (call_lenOwn GWeather___len__ (hr.mono (by decide)) N_Weather.1 N_Weather.2 bWeather___len__ pass0) (by rfl) T.b_len PySem.boot_len (pa_cons (pv 8) pa_nil)) (pv 3) (nomark _)) (pw_or1 (pt_cmpR op_ne (pe_fld (pv 8) rfl) (pv 2) (nomark _))))))
  (pss_one (ps_ret pe_bl))
  pss_nil)
  (pss_cons (ps_if (PW.pt (pw_or (pt_not (pt_cmpR (op_eqI GWeather___eq__ (hr.mono (by decide)) D_Weather.eq D_Weather.fe bWeather___eq__ pass0) (pv 8) (pv 9) (nomark _))) (pw_or1 (pt_cmpR (op_neI GWeather___eq__ (hr.mono (by decide)) D_Weather.ne D_Weather.ob D_Weather.eq D_Weather.fe bWeather___eq__ pass0) (pv 8) (pv 9) (nomark _)))))
  (pss_one (ps_ret pe_bl))
  pss_nil)
  (pss_cons (ps_set (i := 10) sclaw.nd rfl (by first | exact Or.inl rfl | exact Or.inr rfl) (pe_call G_law_draw (hr.mono (by decide)) (by rfl) m_law_draw k_law_draw b_law_draw .nil pass0 (pa_cons (pv 0) (pa_cons (pv 1) (pa_cons (pv 3) pa_nil)))))
  (pss_cons (ps_expr (pe_bm PySem.F.plainAttrs_list PySem.F.slot_list_append PySem.F.type_list_append mt_append (pe_ix ix_list (pv 4) (pv 10) (fun _ _ => rfl)) (pa_cons (pe_makeS D_Day.mkk GDay___init__ (hr.mono (by decide)) (by rfl) D_Day.g bDay___init__ (fun σ => passAt takes0 σ) (pa_cons (pe_op op_rep (pe_lst (pa_cons pe_int pa_nil)) (pv 2)) (pa_cons (pe_op op_rep (pe_lst (pa_cons pe_int pa_nil)) (pv 2)) (pa_cons pe_int (pa_cons pe_int pa_nil))))) pa_nil)))
  (pss_cons (ps_asg (pe_makeS D_Day.mkk GDay___init__ (hr.mono (by decide)) (by rfl) D_Day.g bDay___init__ (fun σ => passAt takes0 σ) (pa_cons (pe_op op_rep (pe_lst (pa_cons pe_int pa_nil)) (pv 2)) (pa_cons (pe_op op_rep (pe_lst (pa_cons pe_int pa_nil)) (pv 2)) (pa_cons pe_int (pa_cons pe_int pa_nil))))) (pg_sub (pe_ix ix_list (pv 4) (pv 10) (fun _ _ => rfl)) pe_int set_list))
  (pss_cons (ps_if (pt_cmpR (op_neR (rc_T (.inr ⟨rfl, rfl⟩) (repT_mono repDay_mono) (eqR_T repDay_mono repDay_fn (eqR_Day GDay___eq__ D_Day.eq D_Day.fe bDay___eq__))) (hr.mono (by decide))) (pe_fld (pv 8) rfl) (pe_callTy (T := "tuple") call_tuple_of (by rfl) T.b_tuple (by decide +kernel) (pa_cons (pe_lc (own := [("days", 14)]) rfl sclaw.nd (pi_list (pv 7)) (blkOk_by (own := [("days", 14)]) (N := Nlaw) (sc := defScope slaw) (by decide +kernel)) (fun _ _ _ _ _ => (pg_name (i := 14) sclaw.nd rfl (by first | exact Or.inl rfl | exact Or.inr rfl))) (fun _ _ _ _ _ => pts_nil) (fun _ _ _ _ _ => (pe_callTy (T := "tuple") (r := rTupOf K) call_tuple_of (by rfl) T.b_tuple (by decide +kernel) (pa_cons (pv 14) pa_nil)))) pa_nil)) (nomark _))
  (pss_one (ps_ret pe_bl))
  pss_nil)
  (pss_cons (ps_if (pt_cmpR (op_neR (rc_L (.inr ⟨rfl, rfl⟩) (repT_mono repDay_mono) (eqR_T repDay_mono repDay_fn (eqR_Day GDay___eq__ D_Day.eq D_Day.fe bDay___eq__))) (hr.mono (by decide))) (pe_lc (own := [("k", 11)]) rfl sclaw.nd (pi_range1 rfl T.b_range (pa_cons (pv 3) pa_nil)) (blkOk_by (own := [("k", 11)]) (N := Nlaw) (sc := defScope slaw) (by decide +kernel)) (fun _ _ _ _ _ => (pg_name (i := 11) sclaw.nd rfl (by first | exact Or.inl rfl | exact Or.inr rfl))) (fun _ _ _ _ _ => pts_nil) (fun _ _ _ _ _ => (pe_call G_law_item (hr.mono (by decide)) (by rfl) m_law_item k_law_item b_law_item .nil pass0 (pa_cons (pv 8) (pa_cons (pv 11) pa_nil))))) (pe_lc (own := [("days", 14)]) rfl sclaw.nd (pi_list (pv 7)) (blkOk_by (own := [("days", 14)]) (N := Nlaw) (sc := defScope slaw) (by decide +kernel)) (fun _ _ _ _ _ => (pg_name (i := 14) sclaw.nd rfl (by first | exact Or.inl rfl | exact Or.inr rfl))) (fun _ _ _ _ _ => pts_nil) (fun _ _ _ _ _ => (pe_callTy (T := "tuple") (r := rTupOf K) call_tuple_of (by rfl) T.b_tuple (by decide +kernel) (pa_cons (pv 14) pa_nil)))) (nomark _))
  (pss_one (ps_ret pe_bl))
  pss_nil)
  (pss_cons (ps_for PassesOwn.never rfl (pi_list (pe_lst (pa_cons (pe_un un_neg pe_int) (pa_cons (pv 3) (pa_cons (pe_op op_pow pe_int pe_int) pa_nil))))) (pg_name (i := 11) sclaw.nd rfl (by first | exact Or.inl rfl | exact Or.inr rfl))
  (pss_one (ps_if (pt_cmpR (op_neD hr.units) (pe_call G_law_item (hr.mono (by decide)) (by rfl) m_law_item k_law_item b_law_item .nil pass0 (pa_cons (pv 8) (pa_cons (pv 11) pa_nil))) (pe_tup (pa_cons pe_str (pa_cons (pv 11) pa_nil))) (nomark _))
  (pss_one (ps_ret pe_bl))
  pss_nil)))
  (pss_cons (ps_setLc (i := 12) (own := [("days", 14)]) rfl sclaw.nd rfl rfl (sw_true rfl rfl rfl (by decide +kernel)) (pi_list (pv 7)) (blkOk_by (own := [("days", 14)]) (N := Nlaw) (sc := defScope slaw) (by decide +kernel)) (fun _ _ _ _ _ => (pg_name (i := 14) sclaw.nd rfl (by first | exact Or.inl rfl | exact Or.inr rfl))) (fun _ _ _ _ _ => pts_nil) (fun _ _ _ _ _ => (pe_callTy (T := "list") (r := rListOf K) call_list_of (by rfl) T.b_list (by decide +kernel) (pa_cons (pv 14) pa_nil))))
  (pss_cons (ps_set (i := 13) sclaw.nd rfl (by first | exact Or.inl rfl | exact Or.inr rfl) (pe_ix ix_list (pe_ix ix_list (pv 7) (pv 10) (fun _ _ => rfl)) (pe_un un_neg pe_int) (fun _ _ => rfl)))
  (pss_cons (ps_asg (pe_makeS D_Day.mkk GDay___init__ (hr.mono (by decide)) (by rfl) D_Day.g bDay___init__ (fun σ => passAt takes0 σ) (pa_cons (pe_lc (own := [("units", 15)]) rfl sclaw.nd (pi_tup (pe_fld (pv 13) rfl)) (blkOk_by (own := [("units", 15)]) (N := Nlaw) (sc := defScope slaw) (by decide +kernel)) (fun _ _ _ _ _ => (pg_name (i := 15) sclaw.nd rfl (by first | exact Or.inl rfl | exact Or.inr rfl))) (fun _ _ _ _ _ => pts_nil) (fun _ _ _ _ _ => (pe_op op_add pe_int (pv 15)))) (pa_cons (pe_fld (pv 13) rfl) (pa_cons pe_int (pa_cons (pe_fld (pv 13) rfl) pa_nil))))) (pg_sub (pe_ix ix_list (pv 12) (pv 10) (fun _ _ => rfl)) (pe_un un_neg pe_int) set_list))
  (pss_cons (ps_if (PW.pt (pw_or (pt_cmpR (op_eqI GWeather___eq__ (hr.mono (by decide)) D_Weather.eq D_Weather.fe bWeather___eq__ pass0) (pv 8) (pe_call G_law_made (hr.mono (by decide)) (by rfl) m_law_made k_law_made b_law_made .nil pass0 (pa_cons (pv 12) pa_nil)) (nomark _)) (pw_or1 (pt_cmpR (op_eqI GWeather___eq__ (hr.mono (by decide)) D_Weather.eq D_Weather.fe bWeather___eq__ pass0) (pv 8) (pe_call G_law_made (hr.mono (by decide)) (by rfl) m_law_made k_law_made b_law_made .nil pass0 (pa_cons (pe_op op_cat (pe_slice sl_list (pv 7) po_none (po_some (pe_un un_neg pe_int))) (pe_lst (pa_cons (pe_op op_rep (pe_lst (pa_cons (pe_ix ix_list (pe_ix ix_list (pv 7) pe_int (fun _ _ => rfl)) pe_int (fun _ _ => rfl)) pa_nil)) pe_int) pa_nil))) pa_nil)) (nomark _)))))
  (pss_one (ps_ret pe_bl))
  pss_nil)
  (pss_one (ps_ret (pe_call G_law_refusals_hold (hr.mono (by decide)) (by rfl) m_law_refusals_hold k_law_refusals_hold b_law_refusals_hold .nil pass0 (pa_cons (pv 0) (pa_cons (pv 1) (pa_cons (pv 7) (pa_cons (pv 10) (pa_cons (pv 2) pa_nil)))))))))))))))))))))))))))), ?_⟩
    refine ⟨_, rfl, a, ns, rfl, hS, hlen, fun s0 H1 s1 h0s sc1 => ?_⟩
    refine ⟨_, rfl, _, rfl, a, s0, 3, rfl, sc1, by decide, by decide, fun mn H2 mn0 mn1 f2 sc2 => ⟨_, _, rfl, rfl, ?_⟩⟩
    refine ⟨_, rfl, _, rfl, a, s0, 3, rfl, sc2, by decide, by decide, fun md H3 md0 md1 f3 sc3 => ⟨_, _, rfl, rfl, ?_⟩⟩
    refine ⟨bigN (by show 0 ≤ _; decide), fun R hR => ?_⟩
    have nRs : ¬ R = s0 := sc3.ne hR
    refine ⟨_, rfl, _, rfl, by omega, by omega, ?_⟩
    refine for_it walk_range (fun i σ H4 => ∃ (w5 w6 w11 : Option V) (ra : List Addr) (M : List (List DayD)), σ = [some (.ref a), some (.ref s0), some (.int (1 + mn)), some (.int (1 + md)), some (.ref R), w5, w6, none, none, none, none, w11, none, none, none, none] ∧ Rows C_Day H4 R ra M ∧ M.length = i ∧ OkM (1 + mn) (1 + md) 4 M ∧ (∀ r, r ∈ M → ∀ d : DayD, d ∈ r → ∀ x, x ∈ d.1 → x ≤ 2) ∧ (∀ q, q ∈ ra → H3 q = none) ∧ Frm (s0 :: R :: ra) H3 H4 ∧ Scr K H4 a s0)
      ⟨_, _, _, [], [], rfl, ⟨upd_same, rfl, List.nodup_nil, by simp, fun i a r h => by simp at h⟩, rfl, (fun r h => by cases h), (fun r h => by cases h), (fun q h => by cases h), Frm.of_same (Same.new hR), sc3.same (Same.new hR)⟩ (fun _ _ _ _ _ => trivial) ?_ ?_
    · rintro i x σ H4o H4 hi ⟨w5, w6, w11, ra, M, rfl, rows, hML, hok, hle, hra, f4, sc4⟩ ⟨rfl, rfl⟩
      refine ⟨_, rfl, _, rfl, a, s0, 4, rfl, sc4, by decide, by decide, fun c H5 c0 c1 f5 sc5 => ⟨_, _, rfl, rfl, ?_⟩⟩
      have nra : ∀ b, b ∈ R :: ra → ¬ b ∈ [s0] := fun b hb m => by
        have m := List.mem_singleton.mp m
        rcases List.mem_cons.mp hb with z | z
        · exact nRs (z.symm.trans m)
        · exact sc3.ne (hra b z) m
      have rows5 := rows.frm f5 nra (fun b hb o e => by rw [List.mem_singleton.mp hb] at e; exact sc4.lstS _ e)
      refine ⟨_, rfl, .inl ⟨rfl, _, SqL.of rows5.1⟩, _, rfl, _, rfl, by omega, by omega, fun D hD => ?_⟩
      have nDs : ¬ D = s0 := sc5.ne hD
      refine lc_it walk_range (fun j H6 => ∃ (xs : List V) (ds : List DayD), H6 D = some (.lst xs) ∧ xs.length = j ∧ Reps (repDay C_Day) H6 xs ds ∧ (∀ d, d ∈ ds → OkD (1 + mn) (1 + md) d) ∧ (∀ d : DayD, d ∈ ds → ∀ x, x ∈ d.1 → x ≤ 2) ∧ Frm [D, s0] H5 H6 ∧ Scr K H6 a s0) ⟨[], [], upd_same, rfl, trivial, (fun d h => by cases h), (fun d h => by cases h), Frm.put List.mem_cons_self, sc5.same (Same.new hD)⟩ (fun _ _ _ _ => trivial) ?_ ?_
      · rintro j x H6o H6 hj ⟨xs, ds, g6, hxl, hrd, hod, hdl, f6, sc6⟩ ⟨rfl, rfl⟩
        refine ⟨rfl, ?_⟩
        refine ⟨_, rfl, _, rfl, _, rfl, _, rfl, a, s0, 1 + mn, 2, 1 + md, rfl, sc6, by omega, by omega, by decide, by decide, by omega, by omega, fun x H7 d hx okd hle2 f7 sc7 => ?_⟩
        have g7 := f7 _ _ (by simpa using nDs) g6
        have kp := keep_lst g7 (o2 := .lst (xs ++ [x]))
        have fr := (f6.trans (f7.mono (fun b h => List.mem_cons_of_mem _ h))).put' (o := .lst (xs ++ [x])) (List.mem_cons_self (a := D) (l := [s0]))
        refine ⟨xs, g7, small1000 (by have : j < (1 + c).toNat := hj; omega), xs ++ [x], ds ++ [d], upd_same, by rw [List.length_append, hxl]; rfl, Reps.app ((hrd.imp (repDay_frm sc6 f7)).imp (repDay_keep kp)) (Reps.one (repDay_keep kp _ _ hx)), fun d' hd' => ?_, fun d' hd' => ?_, fr, ?_⟩
        · rcases List.mem_append.mp hd' with z | z
          · exact hod _ z
          · rw [List.mem_singleton.mp z]; exact okd
        · rcases List.mem_append.mp hd' with z | z
          · exact hdl _ z
          · rw [List.mem_singleton.mp z]; exact hle2
        · obtain ⟨i1, i2, i3, i4, e4⟩ := sc7.2
          exact scr_of sc5 hD fr ⟨i1, i2, i3, i4, by rw [upd_ne (fun q => nDs q.symm)]; exact e4⟩
      rintro H6 ⟨xs, ds, g6, hxl, hrd, hod, hdl, f6, sc6⟩
      have nDR : R ≠ D := ne_of_none rows5.1 hD
      have nDra : ∀ q, q ∈ ra → q ≠ D := fun q hq => by
        obtain ⟨j, hj⟩ := List.getElem?_of_mem hq
        obtain ⟨ys, ey, _⟩ := rows5.2.2.2.2 j q _ hj (List.getElem?_eq_getElem (by rw [← rows5.2.1]; exact (List.getElem?_eq_some_iff.mp hj).1))
        exact ne_of_none ey hD
      have rows6 : Rows C_Day H6 R ra M := rows5.frm f6 (fun b hb m => by
        rcases List.mem_cons.mp m with z | z
        · rcases List.mem_cons.mp hb with y | y
          · exact nDR (y.symm.trans z)
          · exact nDra b y z
        · exact nra b hb z) (fun b hb o e => by
        rcases List.mem_cons.mp hb with z | z
        · rw [z, hD] at e; cases e
        · rw [List.mem_singleton.mp z] at e; exact sc5.lstS _ e)
      have hlen6 := rows6.2.1
      have h3D : H3 D = none := by
        cases q : H3 D with
        | none => rfl
        | some o =>
          have nb : ¬ D ∈ s0 :: R :: ra := fun m => by
            rcases List.mem_cons.mp m with z | z
            · exact nDs z
            · rcases List.mem_cons.mp z with z | z
              · exact nDR z.symm
              · exact nDra D z rfl
          have := f5 _ _ (by simpa using nDs) (f4 _ _ nb q)
          rw [hD] at this; cases this
      refine ⟨R, _, _, rfl, rfl, rows6.1, small1000 (by rw [List.length_map]; have : i < (1 + md).toNat := hi; omega), ?_⟩
      have kp := keep_lst rows6.1 (o2 := .lst (ra.map V.ref ++ [.ref D]))
      refine ⟨_, _, _, ra ++ [D], M ++ [ds], rfl, ⟨by rw [upd_same, List.map_append]; rfl, by rw [List.length_append, List.length_append, hlen6]; rfl, ?_, fun m => ?_, fun j b r hb hr => ?_⟩, by rw [List.length_append, hML]; rfl, fun r hr => ?_, fun r hr => ?_, fun q hq => ?_, ?_, ?_⟩
      · rw [List.nodup_append]
        exact ⟨rows6.2.2.1, by simp, fun b hb c hc e => nDra b hb (e.trans (List.mem_singleton.mp hc))⟩
      · rcases List.mem_append.mp m with z | z
        · exact rows6.2.2.2.1 z
        · exact nDR (List.mem_singleton.mp z)
      · by_cases hj : j < ra.length
        · rw [List.getElem?_append_left hj] at hb
          rw [List.getElem?_append_left (by omega)] at hr
          obtain ⟨ys, ey, hy⟩ := rows6.2.2.2.2 j b r hb hr
          exact ⟨ys, by rw [upd_ne (fun z => rows6.2.2.2.1 (by rw [← z]; exact List.mem_of_getElem? hb))]; exact ey, hy.imp (repDay_keep kp)⟩
        · rw [List.getElem?_append_right (by omega)] at hb hr
          have ej : j - ra.length = 0 := by
            cases e : j - ra.length with
            | zero => rfl
            | succ n => rw [e] at hb; simp at hb
          rw [ej] at hb
          rw [show j - M.length = 0 by omega] at hr
          cases hb
          cases hr
          exact ⟨xs, by rw [upd_ne nDR.symm]; exact g6, hrd.imp (repDay_keep kp)⟩
      · rcases List.mem_append.mp hr with z | z
        · exact hok r z
        · rw [List.mem_singleton.mp z]
          have := hrd.len
          have hx2 : xs.length = (1 + c).toNat := hxl
          exact ⟨by omega, by omega, hod⟩
      · rcases List.mem_append.mp hr with z | z
        · exact hle r z
        · rw [List.mem_singleton.mp z]; exact hdl
      · rcases List.mem_append.mp hq with z | z
        · exact hra q z
        · rw [List.mem_singleton.mp z]; exact h3D
      · refine Frm.put' ?_ (by simp)
        refine (f4.mono (fun b hb => ?_)).trans ((f5.mono (fun b hb => ?_)).trans (f6.mono (fun b hb => ?_)))
        · simp only [List.mem_cons, List.mem_append] at hb ⊢
          rcases hb with z | z | z
          · exact .inl z
          · exact .inr (.inl z)
          · exact .inr (.inr (.inl z))
        · rw [List.mem_singleton.mp hb]; exact List.mem_cons_self
        · simp only [List.mem_cons, List.not_mem_nil, or_false] at hb
          rcases hb with z | z
          · rw [z]; simp
          · rw [z]; exact List.mem_cons_self
      · obtain ⟨i1, i2, i3, i4, e4⟩ := sc6.2
        refine scr_ofL (L := R :: D :: ra) sc3 (fun q hq => ?_) (Frm.put' ?_ (by simp)) ⟨i1, i2, i3, i4, by rw [upd_ne (fun q => nRs q.symm)]; exact e4⟩
        · rcases List.mem_cons.mp hq with z | z
          · rw [z]; exact hR
          · rcases List.mem_cons.mp z with z | z
            · rw [z]; exact h3D
            · exact hra q z
        · refine (f4.mono (fun b hb => ?_)).trans ((f5.mono (fun b hb => ?_)).trans (f6.mono (fun b hb => ?_)))
          · simp only [List.mem_cons] at hb ⊢
            rcases hb with z | z | z
            · exact .inl z
            · exact .inr (.inl z)
            · exact .inr (.inr (.inr z))
          · rw [List.mem_singleton.mp hb]; exact List.mem_cons_self
          · simp only [List.mem_cons, List.not_mem_nil, or_false] at hb
            rcases hb with z | z
            · rw [z]; simp
            · rw [z]; exact List.mem_cons_self
    rintro σ H4 ⟨w5, w6, w11, ra, M, rfl, rows4, hML, hok, hle, hra, f4, sc4⟩
    have hMi : (M.length : Int) = 1 + md := by have : M.length = (1 + md).toNat := hML; omega
    have hM1 : 1 ≤ M.length := by omega
    have hM3 : M.length ≤ 3 := by omega
    have hM4 : M.length ≤ 10 := by omega
    have hokM : OkM (1 + mn) (M.length : Nat) 4 M := by rw [hMi]; exact hok
    have smM : Small M := hok.small (by decide) (by omega)
    have refM : wRef M = none := hokM.ref (by decide) hM1 (by omega)
    have widM : wid M = 1 + mn := hok.wid hM1
    have hsrc4 : Reps (repQ (repDay C_Day)) H4 (ra.map V.ref) M := Reps.q rows4.reps
    clear hML
    have nra : ∀ q, q ∈ ra → ¬ q = s0 := fun q h => sc3.ne (hra q h)
    refine ⟨_, rfl, R, rfl, ⟨_, SqL.of rows4.1⟩, fun B hB => ?_⟩
    refine lc_it walk_list (fun i H5 => ∃ qs : List Addr, H5 B = some (.lst (qs.map V.ref)) ∧ qs.length = i ∧ qs.Nodup ∧ (∀ q, q ∈ qs → H4 q = none ∧ q ≠ B) ∧ (∀ (j : Nat) a r, qs[j]? = some a → M[j]? = some r → ∃ xs, H5 a = some (.lst xs) ∧ Reps (repDay C_Day) H5 xs r) ∧ Same H4 H5)
      ⟨[], upd_same, rfl, List.nodup_nil, (fun q h => by cases h), (fun j a r h => by simp at h), Same.new hB⟩ (fun i _ _ ⟨_, _, _, _, _, _, s⟩ => SqL.of (s _ _ rows4.1)) ?_ ?_
    · rintro i x HQo HQ hi ⟨qs, g1, hq, nd, fq, hr, s2⟩ ⟨rfl, hx⟩
      obtain ⟨r, hM, hrr⟩ := hsrc4.at hx
      obtain ⟨a', xs, rfl, hs, hrd⟩ := repQ_seq (K := K) (repQ_mono repDay_mono _ _ _ _ s2 hrr)
      refine ⟨rfl, ?_⟩
      refine ⟨_, rfl, a', _, rfl, hs, fun z hz => ?_⟩
      have sz : Same HQ (upd HQ z (.lst xs)) := Same.new hz
      have g1z := sz _ _ g1
      have nzD : z ≠ B := fun e => by rw [e, g1] at hz; cases hz
      have hlM := hsrc4.len
      refine ⟨_, g1z, small1000 (by rw [List.length_map, hq]; have := hM4; omega), qs ++ [z], by rw [upd_same, List.map_append]; rfl, by rw [List.length_append, hq]; rfl, ?_, fun q hq' => ?_, fun j b r' hb hr' => ?_, fun b o e => by rw [upd_ne (ne_of_none e hB)]; exact sz _ _ (s2 _ _ e)⟩
      · rw [List.nodup_append]
        refine ⟨nd, by simp, fun b hb c hc e => ?_⟩
        rw [List.mem_singleton.mp hc] at e
        obtain ⟨j, hj⟩ := List.getElem?_of_mem hb
        have hj' : j < i := by rw [← hq]; exact (List.getElem?_eq_some_iff.mp hj).1
        obtain ⟨ys, ey, _⟩ := hr j b _ hj (List.getElem?_eq_getElem (by rw [← hlM]; omega))
        rw [e, hz] at ey
        cases ey
      · rcases List.mem_append.mp hq' with y | y
        · exact fq q y
        · rw [List.mem_singleton.mp y]
          exact ⟨s2.free hz, nzD⟩
      · have kp := keep_lst g1z (o2 := .lst (qs.map V.ref ++ [V.ref z]))
        by_cases hj : j < i
        · rw [List.getElem?_append_left (by omega)] at hb
          obtain ⟨ys, ey, hy⟩ := hr j b r' hb hr'
          exact ⟨ys, by rw [upd_ne (fq b (List.mem_of_getElem? hb)).2]; exact sz _ _ ey, (hy.mono repDay_mono sz).imp (repDay_keep kp)⟩
        · rw [List.getElem?_append_right (by omega)] at hb
          have ej : j - qs.length = 0 := by
            cases e : j - qs.length with
            | zero => rfl
            | succ n => rw [e] at hb; simp at hb
          rw [ej] at hb
          cases hb
          have ej2 : j = i := by omega
          subst ej2
          rw [hM] at hr'
          cases hr'
          exact ⟨xs, by rw [upd_ne nzD]; exact upd_same, (hrd.mono repDay_mono sz).imp (repDay_keep kp)⟩
    rintro H5 ⟨ba, gB, hbl, ndb, fba, hrb, s5⟩
    have rowsB5 : Rows C_Day H5 B ba M := ⟨gB, by rw [hbl, List.length_map]; exact rows4.2.1, ndb, fun m => (fba B m).2 rfl, hrb⟩
    have rowsR5 := rows4.same s5
    have sc5 := sc4.same s5
    have nB : ∀ b, b ∈ B :: ba → ∀ o, H4 b = some o → False := fun b hb o e => by
      rcases List.mem_cons.mp hb with z | z
      · rw [z, hB] at e; cases e
      · rw [(fba b z).1] at e; cases e
    have nBs : ∀ b, b ∈ B :: ba → ¬ b = s0 := fun b hb e => by
      obtain ⟨i1, i2, i3, i4, e4⟩ := sc4.2
      exact nB b hb _ (by rw [e]; exact e4)
    refine ⟨_, rfl, R, _, M, rfl, rowsR5.1, Reps.q rowsR5.reps, smM, refM, hM3, fun W H6 s6 hW => ?_⟩
    have rowsB6 := rowsB5.same s6
    have rowsR6 := rowsR5.same s6
    have sc6 := sc5.same s6
    refine ⟨_, rfl, B, rfl, ⟨_, SqL.of rowsB6.1⟩, fun T0 hT0 => ?_⟩
    refine lc_it walk_list (fun i H7 => ∃ qs : List V, H7 T0 = some (.lst qs) ∧ qs.length = i ∧ Reps (repT (repDay C_Day)) H7 qs (M.take i) ∧ Same H6 H7) ⟨[], upd_same, rfl, trivial, Same.new hT0⟩ (fun i _ _ ⟨_, _, _, _, s⟩ => SqL.of (s _ _ rowsB6.1)) ?_ ?_
    · rintro i x HQo HQ hi ⟨qs, g1, ql, gq, s2⟩ ⟨rfl, hx⟩
      obtain ⟨r, hM, hrr⟩ := rowsB6.reps.at hx
      obtain ⟨a', xs, rfl, e', hrd⟩ := repL_mono repDay_mono _ _ _ _ s2 hrr
      have hi4 : i < M.length := (List.getElem?_eq_some_iff.mp hM).1
      refine ⟨rfl, ?_⟩
      refine ⟨_, rfl, a', _, rfl, .inl ⟨SqL.of e', fun z hz => ?_⟩⟩
      have sz : Same HQ (upd HQ z (.tup xs)) := Same.new hz
      have gD := sz _ _ g1
      refine ⟨qs, gD, small1000 (by omega), qs ++ [.ref z], upd_same, by rw [List.length_append, ql]; rfl, ?_, fun b o e => by rw [upd_ne (ne_of_none e hT0)]; exact sz _ _ (s2 _ _ e)⟩
      rw [take_snoc hM]
      exact Reps.app ((gq.mono (repT_mono repDay_mono) sz).imp (repT_keep (keep_lst gD))) (Reps.one (repT_keep (keep_lst gD) _ _ ⟨z, xs, rfl, upd_same, hrd.mono repDay_mono sz⟩))
    rintro H7 ⟨qs7, gT7, _, gq7, s7⟩
    have lb : (ba.map V.ref).length = M.length := by rw [List.length_map]; exact rowsB6.2.1
    rw [lb, List.take_length] at gq7
    refine ⟨T0, _, M, rfl, gT7, Reps.qT gq7, smM, refM, hM3, fun T H8 s8 hT => ?_⟩
    have s68 := s7.trans s8
    have rowsB8 := rowsB6.same s68
    have rowsR8 := rowsR6.same s68
    have sc8 := sc6.same s68
    have hW8 := hW.same s68
    clear gT7 gq7 s7 s8 rowsB5 rowsR5 rowsB6 rowsR6
    -- rows != before or ..
    refine ⟨_, rfl, _, rfl, M, M, ⟨R, _, rfl, rowsR8.1, rowsR8.reps⟩, ⟨B, _, rfl, rowsB8.1, rowsB8.reps⟩, fun H9 s9 => ⟨_, rfl, ite2 (fun y => absurd y (by simp)) (fun _ => ?_)⟩⟩
    have s9 : Same H8 H9 := s9
    have hW9 := hW8.same s9
    obtain ⟨dxw, qw, eW, rW⟩ := id hW9
    refine ⟨_, rfl, W, dxw, _, rfl, eW, W, M, rfl, hW9, M.length, rfl, by omega, _, rfl, rfl, _, rfl, ite2 (fun y => absurd y (by rw [hMi]; exact ne_self)) (fun _ => ?_)⟩
    refine ⟨_, rfl, W, C_Weather, dxw, _, _, rfl, eW, D_Weather.cls, D_Weather.no _ (by decide), rfl, _, rfl, rfl, _, rfl, ite2 (fun y => absurd y (by rw [widM]; exact ne_self)) (fun _ => ?_)⟩
    have hT9 := hT.same s9
    obtain ⟨dxt, qt, eT, rT⟩ := id hT9
    refine ⟨_, rfl, _, rfl, W, dxw, _, T, dxt, _, rfl, rfl, eW, eT, W, T, M, M, rfl, hW9, hT9, fun H10 s10 => ⟨_, rfl, _, rfl, ite2 (fun y => absurd y (by simp)) (fun _ => ?_)⟩⟩
    have s10 : Same H9 H10 := s10
    have eW := s10 _ _ eW
    have eT := s10 _ _ eT
    refine ⟨_, rfl, _, rfl, W, dxw, _, T, dxt, _, rfl, rfl, eW, eT, W, T, M, M, rfl, hW9.same s10, hT9.same s10, fun H11 s11 => ⟨_, rfl, _, rfl, ite2 (fun y => absurd y (by simp)) (fun _ => ?_)⟩⟩
    have s11 : Same H10 H11 := s11
    have s811 := (s9.trans s10).trans s11
    have hWx := hW8.same s811
    have rowsR := rowsR8.same s811
    have rowsB := rowsB8.same s811
    have sc := sc8.same s811
    have s48 : Same H4 H11 := (s5.trans (s6.trans s68)).trans s811
    refine ⟨_, rfl, _, rfl, _, rfl, a, s0, 1 + md, rfl, sc, by omega, by omega, fun at_ H12 at0_ at1 f12 sc12 => ?_⟩
    obtain ⟨an, rfl⟩ : ∃ an : Nat, at_ = (an : Int) := ⟨at_.toNat, by omega⟩
    obtain ⟨r0, hr0⟩ : ∃ r0, M[an]? = some r0 := ⟨_, List.getElem?_eq_getElem (by omega)⟩
    have hok0 := hok r0 (List.mem_of_getElem? hr0)
    have hle0 := hle r0 (List.mem_of_getElem? hr0)
    have hr4 := hok0.2.1
    have hr1 := hok0.1
    have lsc : ∀ {Hx : Hp}, Scr K Hx a s0 → ∀ b, b ∈ [s0] → ∀ o, Hx b = some o → ∃ l, o = .lst l := fun h b hb o e => by rw [List.mem_singleton.mp hb] at e; exact h.lstS _ e
    have nRa : ∀ b, b ∈ R :: ra → ¬ b ∈ [s0] := fun b hb m => by
      have m := List.mem_singleton.mp m
      rcases List.mem_cons.mp hb with z | z
      · exact nRs (z.symm.trans m)
      · exact nra b z m
    have nBa : ∀ b, b ∈ B :: ba → ¬ b ∈ [s0] := fun b hb m => nBs b hb (List.mem_singleton.mp m)
    have rowsR12 := rowsR.frm f12 nRa (lsc sc)
    have rowsB12 := rowsB.frm f12 nBa (lsc sc)
    have hW12 := hWx.frm f12 (lsc sc)
    have f312 : Frm (s0 :: R :: ra) H3 H12 := (f4.trans (Frm.of_same s48)).trans (f12.mono fun b hb => by rw [List.mem_singleton.mp hb]; exact List.mem_cons_self)
    obtain ⟨q, xs, hq, eQ, hrd⟩ := rowsR12.row hr0
    have hxl := hrd.len
    have aR : atI (ra.map V.ref) (an : Int) = some (.ref q) := atI_nat (by rw [List.getElem?_map, hq]; rfl)
    have qra : q ∈ ra := List.mem_of_getElem? hq
    have nqs : ¬ q = s0 := nra q qra
    have nqB : ∀ b, b ∈ B :: ba → ¬ b ∈ [q] := fun b hb m => by
      have m := List.mem_singleton.mp m
      obtain ⟨q4, xs4, hq4, e4, _⟩ := rows4.row hr0
      rw [hq] at hq4
      cases hq4
      exact nB b hb _ (by rw [m]; exact e4)
    refine ⟨_, rfl, _, rfl, R, _, _, _, rfl, rfl, SqL.of rowsR12.1, aR, .inl ⟨rfl, _, SqL.of eQ⟩, ?_⟩
    refine ⟨bigN (by show 1 ≤ _; decide), fun z1 hz1 => ⟨_, rfl, z1, _, _, rfl, rfl, upd_same, (rep_ok (by omega)).1, (rep_ok (by omega)).2, bigN (by show 1 * _ ≤ _; omega), fun y1 hy1 => ?_⟩⟩
    have t1 := (Same.new (o := .lst [.int 0]) hz1).trans (Same.new (o := .lst (List.replicate (1 + mn : Int).toNat [V.int 0]).flatten) hy1)
    have g1 : (upd (upd H12 z1 (.lst [.int 0])) y1 (.lst (List.replicate (1 + mn : Int).toNat [V.int 0]).flatten)) y1 = some (.lst ((List.replicate (1 + mn : Int).toNat (0 : Int)).map V.int)) := by rw [upd_same, rep_flatI]
    generalize (upd (upd H12 z1 (.lst [.int 0])) y1 (.lst (List.replicate (1 + mn : Int).toNat [V.int 0]).flatten)) = H13 at t1 g1 ⊢
    refine ⟨bigN (by show 1 ≤ _; decide), fun z2 hz2 => ⟨_, rfl, z2, _, _, rfl, rfl, upd_same, (rep_ok (by omega)).1, (rep_ok (by omega)).2, bigN (by show 1 * _ ≤ _; omega), fun y2 hy2 => ?_⟩⟩
    have t2 := (Same.new (o := .lst [.int 0]) hz2).trans (Same.new (o := .lst (List.replicate (1 + mn : Int).toNat [V.int 0]).flatten) hy2)
    have g2 : (upd (upd H13 z2 (.lst [.int 0])) y2 (.lst (List.replicate (1 + mn : Int).toNat [V.int 0]).flatten)) y2 = some (.lst ((List.replicate (1 + mn : Int).toNat (0 : Int)).map V.int)) := by rw [upd_same, rep_flatI]
    generalize (upd (upd H13 z2 (.lst [.int 0])) y2 (.lst (List.replicate (1 + mn : Int).toNat [V.int 0]).flatten)) = H14 at t2 g2 ⊢
    refine fun x1 dx1 nx1 nd1 _ => day_make (fill_vday (x := 0) (m := 0) (by omega) (by omega) (by decide) (by decide) (by decide)) (.inl (SqL.of (t2 _ _ g1))) (.inl (SqL.of g2)) nx1 nd1 fun H15 s15 st1 => ?_
    have t15 := (t1.trans t2).trans s15
    refine ⟨q, _, _, rfl, rfl, t15 _ _ eQ, small1000 (by omega), ?_⟩
    have f16 : Frm [q] H12 (upd H15 q (.lst (xs ++ [.ref x1]))) := (Frm.of_same t15).put' (by simp)
    have gq16 : (upd H15 q (.lst (xs ++ [.ref x1]))) q = some (.lst (xs ++ [.ref x1])) := upd_same
    generalize (upd H15 q (.lst (xs ++ [.ref x1]))) = H16 at f16 gq16 ⊢
    clear t1 t2 g1 g2 s15 st1 t15
    refine ⟨bigN (by show 1 ≤ _; decide), fun z3 hz3 => ⟨_, rfl, z3, _, _, rfl, rfl, upd_same, (rep_ok (by omega)).1, (rep_ok (by omega)).2, bigN (by show 1 * _ ≤ _; omega), fun y3 hy3 => ?_⟩⟩
    have t3 := (Same.new (o := .lst [.int 8]) hz3).trans (Same.new (o := .lst (List.replicate (1 + mn : Int).toNat [V.int 8]).flatten) hy3)
    have g3 : (upd (upd H16 z3 (.lst [.int 8])) y3 (.lst (List.replicate (1 + mn : Int).toNat [V.int 8]).flatten)) y3 = some (.lst ((List.replicate (1 + mn : Int).toNat (8 : Int)).map V.int)) := by rw [upd_same, rep_flatI]
    generalize (upd (upd H16 z3 (.lst [.int 8])) y3 (.lst (List.replicate (1 + mn : Int).toNat [V.int 8]).flatten)) = H17 at t3 g3 ⊢
    refine ⟨bigN (by show 1 ≤ _; decide), fun z4 hz4 => ⟨_, rfl, z4, _, _, rfl, rfl, upd_same, (rep_ok (by omega)).1, (rep_ok (by omega)).2, bigN (by show 1 * _ ≤ _; omega), fun y4 hy4 => ?_⟩⟩
    have t4 := (Same.new (o := .lst [.int 0]) hz4).trans (Same.new (o := .lst (List.replicate (1 + mn : Int).toNat [V.int 0]).flatten) hy4)
    have g4 : (upd (upd H17 z4 (.lst [.int 0])) y4 (.lst (List.replicate (1 + mn : Int).toNat [V.int 0]).flatten)) y4 = some (.lst ((List.replicate (1 + mn : Int).toNat (0 : Int)).map V.int)) := by rw [upd_same, rep_flatI]
    generalize (upd (upd H17 z4 (.lst [.int 0])) y4 (.lst (List.replicate (1 + mn : Int).toNat [V.int 0]).flatten)) = H18 at t4 g4 ⊢
    refine fun x2 dx2 nx2 nd2 _ => day_make (fill_vday (x := 8) (m := 0) (by omega) (by omega) (by decide) (by decide) (by decide)) (.inl (SqL.of (t4 _ _ g3))) (.inl (SqL.of g4)) nx2 nd2 fun H19 s19 st2 => ?_
    have t19 := (t3.trans t4).trans s19
    have nRq : R ≠ q := fun e => rowsR12.2.2.2.1 (by rw [e]; exact qra)
    have gR19 := t19 _ _ (f16 _ _ (by simpa using nRq) rowsR12.1)
    have gq19 := t19 _ _ gq16
    refine ⟨_, rfl, _, rfl, R, _, _, _, rfl, rfl, SqL.of gR19, aR, q, _, _, 0, rfl, rfl, gq19, by unfold ixN; rw [if_pos (by decide), if_pos (by rw [List.length_append]; show _ < ((_ + 1 : Nat) : Int); omega)]; rfl, ?_⟩
    have f20 : Frm [q] H12 (upd H19 q (.lst ((xs ++ [V.ref x1]).set 0 (V.ref x2)))) := (f16.trans (Frm.of_same t19)).put' (by simp)
    generalize (upd H19 q (.lst ((xs ++ [V.ref x1]).set 0 (V.ref x2)))) = H20 at f20 ⊢
    clear t3 t4 g3 g4 s19 st2 t19 f16 gq16 gq19 gR19
    have lq : ∀ b, b ∈ [q] → ∀ o, H12 b = some o → ∃ l, o = .lst l := fun b hb o e => by rw [List.mem_singleton.mp hb, eQ] at e; exact ⟨_, (Option.some.inj e).symm⟩
    have rowsB20 := rowsB12.frm f20 nqB lq
    have hW20 := hW12.frm f20 lq
    have sc20 : Scr K H20 a s0 := by
      obtain ⟨i1, i2, i3, i4, e4⟩ := sc12.2
      refine scr_ofL (L := R :: ra) sc3 (fun p hp => ?_) (f312.trans (f20.mono fun b hb => by rw [List.mem_singleton.mp hb]; exact List.mem_cons_of_mem _ (List.mem_cons_of_mem _ qra))) ⟨i1, i2, i3, i4, f20 _ _ (by simpa using fun z => nqs z.symm) e4⟩
      rcases List.mem_cons.mp hp with z | z
      · rw [z]; exact hR
      · exact hra p z
    clear rowsR rowsB hWx sc rowsR12 rowsB12 hW12 f312 f20 lq eQ hrd
    -- weather.moods
    obtain ⟨dxw, qw, eW, rW⟩ := id hW20
    refine ⟨_, rfl, W, C_Weather, dxw, _, _, rfl, eW, D_Weather.cls, D_Weather.no _ (by decide), rfl, _, rfl, B, rfl, ⟨_, SqL.of rowsB20.1⟩, fun T1 hT1 => ?_⟩
    refine lc_it walk_list (fun i H21 => ∃ qs : List V, H21 T1 = some (.lst qs) ∧ qs.length = i ∧ Reps (repT (repDay C_Day)) H21 qs (M.take i) ∧ Same H20 H21) ⟨[], upd_same, rfl, trivial, Same.new hT1⟩ (fun i _ _ ⟨_, _, _, _, s⟩ => SqL.of (s _ _ rowsB20.1)) ?_ ?_
    · rintro i x HQo HQ hi ⟨qs, g1, ql, gq, s2⟩ ⟨rfl, hx⟩
      obtain ⟨r, hM, hrr⟩ := rowsB20.reps.at hx
      obtain ⟨a', xs, rfl, e', hrd⟩ := repL_mono repDay_mono _ _ _ _ s2 hrr
      have hi4 : i < M.length := (List.getElem?_eq_some_iff.mp hM).1
      refine ⟨rfl, ?_⟩
      refine ⟨_, rfl, a', _, rfl, .inl ⟨SqL.of e', fun z hz => ?_⟩⟩
      have sz : Same HQ (upd HQ z (.tup xs)) := Same.new hz
      have gD := sz _ _ g1
      refine ⟨qs, gD, small1000 (by omega), qs ++ [.ref z], upd_same, by rw [List.length_append, ql]; rfl, ?_, fun b o e => by rw [upd_ne (ne_of_none e hT1)]; exact sz _ _ (s2 _ _ e)⟩
      rw [take_snoc hM]
      exact Reps.app ((gq.mono (repT_mono repDay_mono) sz).imp (repT_keep (keep_lst gD))) (Reps.one (repT_keep (keep_lst gD) _ _ ⟨z, xs, rfl, upd_same, hrd.mono repDay_mono sz⟩))
    rintro H21 ⟨qs, gT, _, gq, s21⟩
    have lb20 : (ba.map V.ref).length = M.length := by rw [List.length_map]; exact rowsB20.2.1
    rw [lb20, List.take_length] at gq
    refine ⟨T1, _, rfl, .inl ⟨SqL.of gT, fun z hz => ?_⟩⟩
    have t21 := s21.trans (Same.new (o := .tup qs) hz)
    refine ⟨M, M, repT_mono (repT_mono repDay_mono) _ _ _ _ t21 rW, ⟨z, _, rfl, upd_same, gq.mono (repT_mono repDay_mono) (Same.new hz)⟩, fun H22 s22 => ⟨_, rfl, ite2 (fun y => absurd y (by simp)) (fun _ => ?_)⟩⟩
    have t22 : Same H20 H22 := t21.trans s22
    have rowsB22 := rowsB20.same t22
    have hW22 := hW20.same t22
    have sc22 := sc20.same t22
    clear gT gq s21 t21 s22 rW eW
    -- [_law_item(weather, k) for k in range(moods)]
    refine ⟨_, rfl, _, rfl, by omega, by omega, fun D1 hD1 => ?_⟩
    refine lc_it walk_range (fun i H23 => ∃ qs : List V, H23 D1 = some (.lst qs) ∧ qs.length = i ∧ Reps (repT (repDay C_Day)) H23 qs (M.take i) ∧ Same H22 H23) ⟨[], upd_same, rfl, trivial, Same.new hD1⟩ (fun _ _ _ _ => trivial) ?_ ?_
    · rintro i x H23o H23 hi ⟨qs, g1, ql, gq, s2⟩ ⟨rfl, rfl⟩
      have hi2 : i < M.length := by have : i < (1 + md).toNat := hi; omega
      obtain ⟨r, hM⟩ : ∃ r, M[i]? = some r := ⟨_, List.getElem?_eq_getElem hi2⟩
      refine ⟨rfl, ?_⟩
      refine ⟨_, rfl, _, rfl, W, M, 0 + (i : Int), rfl, hW22.same s2, fun n r' hn hr' x H' s hx => ?_, fun nk => absurd ⟨by omega, by omega⟩ nk⟩
      have e : n = i := by omega
      subst e
      rw [hM] at hr'
      cases hr'
      have gD := s _ _ g1
      refine ⟨qs, gD, small1000 (by omega), qs ++ [x], upd_same, by rw [List.length_append, ql]; rfl, ?_, fun b o e => by rw [upd_ne (ne_of_none e hD1)]; exact s _ _ (s2 _ _ e)⟩
      rw [take_snoc hM]
      exact Reps.app ((gq.mono (repT_mono repDay_mono) s).imp (repT_keep (keep_lst gD))) (Reps.one (repT_keep (keep_lst gD) _ _ hx))
    rintro H23 ⟨qs1, gD1, _, gq1, s23⟩
    rw [List.take_of_length_le (by omega)] at gq1
    have rowsB23 := rowsB22.same s23
    refine ⟨_, rfl, B, rfl, ⟨_, SqL.of rowsB23.1⟩, fun D2 hD2 => ?_⟩
    refine lc_it walk_list (fun i H24 => ∃ qs : List V, H24 D2 = some (.lst qs) ∧ qs.length = i ∧ Reps (repT (repDay C_Day)) H24 qs (M.take i) ∧ Same H23 H24) ⟨[], upd_same, rfl, trivial, Same.new hD2⟩ (fun i _ _ ⟨_, _, _, _, s⟩ => SqL.of (s _ _ rowsB23.1)) ?_ ?_
    · rintro i x HQo HQ hi ⟨qs, g1, ql, gq, s2⟩ ⟨rfl, hx⟩
      obtain ⟨r, hM, hrr⟩ := rowsB23.reps.at hx
      obtain ⟨a', xs, rfl, e', hrd⟩ := repL_mono repDay_mono _ _ _ _ s2 hrr
      have hi4 : i < M.length := (List.getElem?_eq_some_iff.mp hM).1
      refine ⟨rfl, ?_⟩
      refine ⟨_, rfl, a', _, rfl, .inl ⟨SqL.of e', fun z hz => ?_⟩⟩
      have sz : Same HQ (upd HQ z (.tup xs)) := Same.new hz
      have gD := sz _ _ g1
      refine ⟨qs, gD, small1000 (by omega), qs ++ [.ref z], upd_same, by rw [List.length_append, ql]; rfl, ?_, fun b o e => by rw [upd_ne (ne_of_none e hD2)]; exact sz _ _ (s2 _ _ e)⟩
      rw [take_snoc hM]
      exact Reps.app ((gq.mono (repT_mono repDay_mono) sz).imp (repT_keep (keep_lst gD))) (Reps.one (repT_keep (keep_lst gD) _ _ ⟨z, xs, rfl, upd_same, hrd.mono repDay_mono sz⟩))
    rintro H24 ⟨qs2, gD2, _, gq2, s24⟩
    rw [lb20, List.take_length] at gq2
    refine ⟨M, M, ⟨D1, _, rfl, s24 _ _ gD1, gq1.mono (repT_mono repDay_mono) s24⟩, ⟨D2, _, rfl, gD2, gq2⟩, fun H25 s25 => ⟨_, rfl, ite2 (fun y => absurd y (by simp)) (fun _ => ?_)⟩⟩
    have t25 : Same H22 H25 := (s23.trans s24).trans s25
    have rowsB25 := rowsB22.same t25
    have hW25 := hW22.same t25
    have sc25 := sc22.same t25
    clear gD1 gq1 gD2 gq2 s23 s24 s25 rowsB23 rowsB22 hW22 sc22
    -- the numbers out of range
    refine ⟨_, rfl, _, rfl, _, _, rfl, rfl, ⟨by decide, by decide, by decide⟩, bigN (by show 3 ≤ _; decide), fun l hl => ⟨l, rfl, ⟨_, SqL.of upd_same⟩, ?_⟩⟩
    generalize hLl : (upd H25 l (.lst [V.int (-1), V.int (1 + md), V.int (10 ^ Int.toNat 21)])) = H26
    have s26 : Same H25 H26 := by rw [← hLl]; exact Same.new hl
    have gl26 : H26 l = some (.lst [V.int (-1), V.int (1 + md), V.int (10 ^ Int.toNat 21)]) := by rw [← hLl]; exact upd_same
    clear hLl
    refine for_it walk_list (fun i σ H27 => ∃ w11 : Option V, σ = [some (.ref a), some (.ref s0), some (.int (1 + mn)), some (.int (1 + md)), some (.ref R), w5, w6, some (.ref B), some (.ref W), some (.ref T), some (.int an), w11, none, none, none, none] ∧ Same H26 H27) ⟨_, rfl, Same.refl _⟩ (fun i σ H27 _ ⟨_, _, s⟩ => SqL.of (s _ _ gl26)) ?_ ?_
    · rintro i x σ H27o H27 hi ⟨w11, rfl, s27⟩ ⟨rfl, hx⟩
      obtain ⟨kk, rfl, hkk⟩ : ∃ kk : Int, x = .int kk ∧ ¬ (0 ≤ kk ∧ kk < M.length) := by
        have big : (3 : Int) < 10 ^ Int.toNat 21 := by decide
        rcases i with _ | _ | _ | i
        · exact ⟨_, (Option.some.inj hx).symm, by omega⟩
        · exact ⟨_, (Option.some.inj hx).symm, by omega⟩
        · exact ⟨_, (Option.some.inj hx).symm, by omega⟩
        · simp at hx
      refine ⟨_, rfl, _, rfl, W, M, kk, rfl, (hW25.same s26).same s27, fun n r hn hr => absurd ⟨by omega, by have := (List.getElem?_eq_some_iff.mp hr).1; omega⟩ hkk, fun nk q1 H28 nq eq s28 => ?_⟩
      refine ⟨_, rfl, two_le, fun r1 hr1 => ?_⟩
      obtain ⟨d, e, D1', D2', S1, S2, E⟩ := pair_eq (K := K) (H := upd H28 r1 (.tup [.str "mood", .int kk])) (q := q1) (r := r1) (t := "mood") (v := .int kk) (by decide +kernel) (.int _) nofun (by rw [upd_ne (ne_of_none eq hr1)]; exact eq) upd_same
      refine ⟨d, e, D1', D2', S1, S2, _, rfl, ite2 (fun y => absurd y (by rw [E]; decide)) (fun _ => ?_)⟩
      exact ⟨_, rfl, (s27.trans s28).trans (Same.new hr1)⟩
    rintro σ H28 ⟨w11, rfl, s28⟩
    have t28 := s26.trans s28
    have rowsB28 := rowsB25.same t28
    have hW28 := hW25.same t28
    have sc28 := sc25.same t28
    have hsrcB : Reps (repQ (repDay C_Day)) H28 (ba.map V.ref) M := Reps.q rowsB28.reps
    clear rowsB25 hW25 sc25 t28 s28 s26 gl26
    -- other
    refine ⟨_, rfl, B, rfl, ⟨_, SqL.of rowsB28.1⟩, fun O hO => ?_⟩
    refine lc_it walk_list (fun i H29 => ∃ qs : List Addr, H29 O = some (.lst (qs.map V.ref)) ∧ qs.length = i ∧ qs.Nodup ∧ (∀ q, q ∈ qs → H28 q = none ∧ q ≠ O) ∧ (∀ (j : Nat) a r, qs[j]? = some a → M[j]? = some r → ∃ xs, H29 a = some (.lst xs) ∧ Reps (repDay C_Day) H29 xs r) ∧ Same H28 H29)
      ⟨[], upd_same, rfl, List.nodup_nil, (fun q h => by cases h), (fun j a r h => by simp at h), Same.new hO⟩ (fun i _ _ ⟨_, _, _, _, _, _, s⟩ => SqL.of (s _ _ rowsB28.1)) ?_ ?_
    · rintro i x HQo HQ hi ⟨qs, g1, hq, nd, fq, hr, s2⟩ ⟨rfl, hx⟩
      obtain ⟨r, hM, hrr⟩ := hsrcB.at hx
      obtain ⟨a', xs, rfl, hs, hrd⟩ := repQ_seq (K := K) (repQ_mono repDay_mono _ _ _ _ s2 hrr)
      refine ⟨rfl, ?_⟩
      refine ⟨_, rfl, a', _, rfl, hs, fun z hz => ?_⟩
      have sz : Same HQ (upd HQ z (.lst xs)) := Same.new hz
      have g1z := sz _ _ g1
      have nzD : z ≠ O := fun e => by rw [e, g1] at hz; cases hz
      have hlM := hsrcB.len
      refine ⟨_, g1z, small1000 (by rw [List.length_map, hq]; have := hM4; omega), qs ++ [z], by rw [upd_same, List.map_append]; rfl, by rw [List.length_append, hq]; rfl, ?_, fun q hq' => ?_, fun j b r' hb hr' => ?_, fun b o e => by rw [upd_ne (ne_of_none e hO)]; exact sz _ _ (s2 _ _ e)⟩
      · rw [List.nodup_append]
        refine ⟨nd, by simp, fun b hb c hc e => ?_⟩
        rw [List.mem_singleton.mp hc] at e
        obtain ⟨j, hj⟩ := List.getElem?_of_mem hb
        have hj' : j < i := by rw [← hq]; exact (List.getElem?_eq_some_iff.mp hj).1
        obtain ⟨ys, ey, _⟩ := hr j b _ hj (List.getElem?_eq_getElem (by rw [← hlM]; omega))
        rw [e, hz] at ey
        cases ey
      · rcases List.mem_append.mp hq' with y | y
        · exact fq q y
        · rw [List.mem_singleton.mp y]
          exact ⟨s2.free hz, nzD⟩
      · have kp := keep_lst g1z (o2 := .lst (qs.map V.ref ++ [V.ref z]))
        by_cases hj : j < i
        · rw [List.getElem?_append_left (by omega)] at hb
          obtain ⟨ys, ey, hy⟩ := hr j b r' hb hr'
          exact ⟨ys, by rw [upd_ne (fq b (List.mem_of_getElem? hb)).2]; exact sz _ _ ey, (hy.mono repDay_mono sz).imp (repDay_keep kp)⟩
        · rw [List.getElem?_append_right (by omega)] at hb
          have ej : j - qs.length = 0 := by
            cases e : j - qs.length with
            | zero => rfl
            | succ n => rw [e] at hb; simp at hb
          rw [ej] at hb
          cases hb
          have ej2 : j = i := by omega
          subst ej2
          rw [hM] at hr'
          cases hr'
          exact ⟨xs, by rw [upd_ne nzD]; exact upd_same, (hrd.mono repDay_mono sz).imp (repDay_keep kp)⟩
    rintro H29 ⟨oa, gO, hol, ndo, foa, hro, s29⟩
    have rowsO29 : Rows C_Day H29 O oa M := ⟨gO, by rw [hol]; exact lb20, ndo, fun m => (foa O m).2 rfl, hro⟩
    have rowsB29 := rowsB28.same s29
    obtain ⟨pb, xb, hpb, ePb, hdb⟩ := rowsB29.row hr0
    have aB : atI (ba.map V.ref) (an : Int) = some (.ref pb) := atI_nat (by rw [List.getElem?_map, hpb]; rfl)
    obtain ⟨dl, hdl⟩ : ∃ dl, r0[r0.length - 1]? = some dl := ⟨_, List.getElem?_eq_getElem (by omega)⟩
    have okdl := hok0.2.2 dl (List.mem_of_getElem? hdl)
    have hledl := hle0 dl (List.mem_of_getElem? hdl)
    obtain ⟨y, hy, pl, rfl, hpl⟩ := hdb.at' hdl
    have hxb := hdb.len
    refine ⟨_, rfl, _, rfl, B, _, _, _, rfl, rfl, SqL.of rowsB29.1, aB, _, rfl, pb, _, _, _, rfl, rfl, SqL.of ePb, atI_m1 (by rw [hxb]; exact hy), ?_⟩
    obtain ⟨dxl, ql, rl, eL, xL, yL⟩ := id hpl
    refine ⟨_, rfl, pl, C_Day, dxl, _, _, rfl, eL, D_Day.cls, D_Day.no _ (by decide), rfl, ql, rfl, ⟨_, SqT.of xL⟩, fun D3 hD3 => ?_⟩
    refine lc_it walk_tup (fun i H30 => H30 D3 = some (.lst (((dl.1.take i).map (fun x => 1 + x)).map V.int)) ∧ Same H29 H30) ⟨upd_same, Same.new hD3⟩ (fun i H30 _ z => SqT.of (z.2 _ _ xL)) ?_ ?_
    · rintro i x H30o H30 hi ⟨g1, s1⟩ ⟨rfl, hx⟩
      obtain ⟨u, hu, rfl⟩ := int_at hx
      refine ⟨rfl, ?_⟩
      refine ⟨_, rfl, _, _, rfl, rfl, ?_⟩
      refine ⟨_, g1, small1000 (by simp only [List.length_map, List.length_take]; have := okdl.1.2.1; omega), ?_, fun z o e => by rw [upd_ne (ne_of_none e hD3)]; exact s1 _ _ e⟩
      rw [upd_same, take_snoc hu, List.map_append, List.map_append]
      rfl
    rintro H30 ⟨g30, s30⟩
    rw [List.take_of_length_le (by simp only [List.length_map]; exact Nat.le_refl _)] at g30
    have eL30 := s30 _ _ eL
    have hv3 : VDay (dl.1.map (fun x => 1 + x)) dl.2.1 0 dl.2.2.2 := by
      obtain ⟨v1, v2, v3, v4, v5, v6, v7, v8, v9⟩ := okdl.1
      exact ⟨by rw [List.length_map]; exact v1, by rw [List.length_map]; exact v2, by rw [List.length_map]; exact v3, fun x hx => by
        obtain ⟨u, hu, rfl⟩ := List.mem_map.mp hx
        have := v4 u hu
        have := hledl u hu
        show 0 ≤ 1 + u ∧ 1 + u ≤ 8
        omega, v5, by decide, by decide, v8, v9⟩
    refine ⟨_, rfl, pl, C_Day, dxl, _, _, rfl, eL30, D_Day.cls, D_Day.no _ (by decide), rfl, _, rfl, pl, C_Day, dxl, _, _, rfl, eL30, D_Day.cls, D_Day.no _ (by decide), rfl, fun x3 dx3 nx3 nd3 _ => day_make hv3 (.inl (SqL.of g30)) (.inr (SqT.of (s30 _ _ yL))) nx3 nd3 fun H31 s31 st3 => ?_⟩
    have t31 := s30.trans s31
    have rowsO31 := rowsO29.same t31
    have rowsB31 := rowsB29.same t31
    have hW31 := (hW28.same s29).same t31
    obtain ⟨qo, xo, hqo, eQo, hdo⟩ := rowsO31.row hr0
    have hxo := hdo.len
    have aO : atI (oa.map V.ref) (an : Int) = some (.ref qo) := atI_nat (by rw [List.getElem?_map, hqo]; rfl)
    refine ⟨_, rfl, _, rfl, O, _, _, _, rfl, rfl, SqL.of rowsO31.1, aO, _, rfl, qo, _, _, r0.length - 1, rfl, rfl, eQo, by rw [hxo]; exact ixN_m1 (by omega), ?_⟩
    have rep3 : repDay C_Day (.ref x3) H31 (dl.1.map (fun x => 1 + x), dl.2.1, 0, dl.2.2.2) := ⟨x3, rfl, st3⟩
    have rowsO32 := rowsO31.upd hqo (Reps.set (r0.length - 1) hdo rep3)
    have qoN : H28 qo = none := (foa qo (List.mem_of_getElem? hqo)).1
    have fP : Frm [qo] H31 (upd H31 qo (.lst (xo.set (r0.length - 1) (.ref x3)))) := Frm.put (by simp)
    have lqo : ∀ b, b ∈ [qo] → ∀ o, H31 b = some o → ∃ l, o = .lst l := fun b hb o e => by rw [List.mem_singleton.mp hb, eQo] at e; exact ⟨_, (Option.some.inj e).symm⟩
    have nqoB : ∀ b, b ∈ B :: ba → ¬ b ∈ [qo] := fun b hb m => by
      have m := List.mem_singleton.mp m
      rw [← m] at qoN
      rcases List.mem_cons.mp hb with z | z
      · rw [z, rowsB28.1] at qoN; cases qoN
      · obtain ⟨j, hj⟩ := List.getElem?_of_mem z
        obtain ⟨ys, ey, _⟩ := rowsB28.2.2.2.2 j b _ hj (List.getElem?_eq_getElem (by rw [← rowsB28.2.1]; exact (List.getElem?_eq_some_iff.mp hj).1))
        rw [ey] at qoN; cases qoN
    have rowsB32 := rowsB31.frm fP nqoB lqo
    have hW32 := hW31.frm fP lqo
    have nqos : ¬ qo = s0 := sc28.ne qoN
    have sc32 : Scr K (upd H31 qo (.lst (xo.set (r0.length - 1) (.ref x3)))) a s0 := by
      obtain ⟨i1, i2, i3, i4, e4⟩ := ((sc28.same s29).same t31).2
      exact scr_of sc28 qoN ((((Frm.of_same (s29.trans t31)) : Frm [qo, s0] H28 H31)).put' List.mem_cons_self) ⟨i1, i2, i3, i4, by rw [upd_ne (fun z => nqos z.symm)]; exact e4⟩
    generalize (upd H31 qo (.lst (xo.set (r0.length - 1) (.ref x3)))) = H32 at rowsO32 rowsB32 hW32 sc32 ⊢
    clear rowsO31 rowsB31 hW31 fP lqo rowsO29 rowsB29 rowsB28 hW28 sc28 hsrcB rep3 st3 t31 s31 s30 s29 g30 eL30 eL xL yL hpl
    have han : an < M.length := (List.getElem?_eq_some_iff.mp hr0).1
    generalize hd3 : ((dl.1.map (fun x => 1 + x), dl.2.1, 0, dl.2.2.2) : DayD) = d3 at rowsO32
    have okd3 : OkD (1 + mn) (1 + md) d3 := by rw [← hd3]; exact ⟨hv3, by show ((dl.1.map (fun x => 1 + x)).length : Int) = _; rw [List.length_map]; exact okdl.2.1, okdl.2.2⟩
    have nd3 : d3 ≠ dl := fun e => by
      have e1 : dl.1.map (fun x => 1 + x) = dl.1 := by rw [← hd3] at e; exact congrArg Prod.fst e
      have hl := okdl.1.1
      cases h : dl.1 with
      | nil => rw [h] at hl; exact absurd hl (by decide)
      | cons u us =>
        rw [h] at e1
        simp only [List.map_cons, List.cons.injEq] at e1
        omega
    have okM2 : OkM (1 + mn) (1 + md) 4 (M.set an (r0.set (r0.length - 1) d3)) := fun r hr => by
      rcases List.mem_or_eq_of_mem_set hr with z | z
      · exact hok r z
      · rw [z]
        refine ⟨by rw [List.length_set]; exact hr1, by rw [List.length_set]; exact hr4, fun d hd => ?_⟩
        rcases List.mem_or_eq_of_mem_set hd with y | y
        · exact hok0.2.2 d y
        · rw [y]; exact okd3
    have lM2 : (M.set an (r0.set (r0.length - 1) d3)).length = M.length := List.length_set
    have okM2' : OkM (1 + mn) (M.set an (r0.set (r0.length - 1) d3)).length 4 (M.set an (r0.set (r0.length - 1) d3)) := by rw [lM2, hMi]; exact okM2
    have neM2 : ¬ M = M.set an (r0.set (r0.length - 1) d3) := fun e => by
      have h1 : M[an]? = some (r0.set (r0.length - 1) d3) := by rw [e]; exact set_at han
      rw [hr0] at h1
      have h2 := Option.some.inj h1
      have h3 : r0[r0.length - 1]? = some d3 := by
        have z := set_at (M := r0) (i := r0.length - 1) (x := d3) (by omega)
        rw [← h2] at z
        exact z
      rw [hdl] at h3
      exact nd3 (Option.some.inj h3).symm
    refine ⟨_, rfl, _, rfl, O, _, _, rfl, rowsO32.1, Reps.q rowsO32.reps, okM2.small (by decide) (by rw [lM2]; omega), okM2'.ref (by decide) (by rw [lM2]; exact hM1) (by rw [lM2]; omega), by rw [lM2]; exact hM3, fun W2 H33 s33 hW2 => ?_⟩
    have hW33 := hW32.same s33
    obtain ⟨dxa, qa, ea, _⟩ := id hW33
    obtain ⟨dxb, qb, eb, _⟩ := id hW2
    refine ⟨W, dxa, _, W2, dxb, _, rfl, rfl, ea, eb, W, W2, M, _, rfl, hW33, hW2, fun H34 s34 => ⟨_, rfl, _, rfl, ite2 (fun y => absurd (of_decide_eq_true y) neM2) (fun _ => ?_)⟩⟩
    have t34 := s33.trans s34
    have rowsB34 := rowsB32.same t34
    have hW34 := hW32.same t34
    have sc34 := sc32.same t34
    -- before[:-1] + [[before[0][0]] * 5]
    obtain ⟨q0, hq0⟩ : ∃ q, M[0]? = some q := ⟨_, List.getElem?_eq_getElem (by omega)⟩
    have hqk := hok q0 (List.mem_of_getElem? hq0)
    obtain ⟨dd, hdd⟩ : ∃ dd, q0[0]? = some dd := ⟨_, List.getElem?_eq_getElem (by have := hqk.1; omega)⟩
    have okdd := hqk.2.2 dd (List.mem_of_getElem? hdd)
    refine ⟨_, rfl, _, rfl, _, rfl, _, rfl, B, _, rfl, SqL.of rowsB34.1, fun x5 hx5 => ?_⟩
    rw [cut_m1 (by rw [lb20]; omega)]
    have s35 : Same H34 (upd H34 x5 (.lst ((ba.map V.ref).take ((ba.map V.ref).length - 1)))) := Same.new hx5
    have gx5 : (upd H34 x5 (.lst ((ba.map V.ref).take ((ba.map V.ref).length - 1)))) x5 = some (.lst ((ba.map V.ref).take ((ba.map V.ref).length - 1))) := upd_same
    generalize (upd H34 x5 (.lst ((ba.map V.ref).take ((ba.map V.ref).length - 1)))) = H35 at s35 gx5 ⊢
    have rowsB35 := rowsB34.same s35
    obtain ⟨xq, hxq, p6, xs6, rfl, e6, hd6⟩ := rowsB35.reps.at' hq0
    obtain ⟨y6, hy6, hday6⟩ := hd6.at' hdd
    refine ⟨_, rfl, B, _, _, _, rfl, rfl, SqL.of rowsB35.1, at0 hxq, p6, _, _, _, rfl, rfl, SqL.of e6, at0 hy6, bigN (by show 1 ≤ _; decide), fun z1 hz1 => ⟨z1, 5, _, rfl, rfl, upd_same, by decide, by decide, bigN (by show 1 * 5 ≤ _; decide), fun y1 hy1 => ⟨bigN (by show 1 ≤ _; decide), fun u1 hu1 => ?_⟩⟩⟩
    have t36 := ((Same.new (o := .lst [y6]) hz1).trans (Same.new (o := .lst (List.replicate (5 : Int).toNat [y6]).flatten) hy1)).trans (Same.new (o := .lst [.ref y1]) hu1)
    have gy1 : (upd (upd (upd H35 z1 (.lst [y6])) y1 (.lst (List.replicate (5 : Int).toNat [y6]).flatten)) u1 (.lst [.ref y1])) y1 = some (.lst (List.replicate 5 y6)) := by
      rw [upd_ne (ne_of_none upd_same hu1), upd_same, rep_flatV]
      rfl
    have gu1 : (upd (upd (upd H35 z1 (.lst [y6])) y1 (.lst (List.replicate (5 : Int).toNat [y6]).flatten)) u1 (.lst [.ref y1])) u1 = some (.lst [.ref y1]) := upd_same
    generalize (upd (upd (upd H35 z1 (.lst [y6])) y1 (.lst (List.replicate (5 : Int).toNat [y6]).flatten)) u1 (.lst [.ref y1])) = H36 at t36 gy1 gu1 ⊢
    refine ⟨x5, u1, _, _, rfl, rfl, t36 _ _ gx5, gu1, bigN (by rw [List.length_take]; show _ + 1 ≤ _; omega), fun v1 hv1 => ?_⟩
    have t37 := t36.trans (Same.new (o := .lst ((ba.map V.ref).take ((ba.map V.ref).length - 1) ++ [.ref y1])) hv1)
    have s37 : Same H36 (upd H36 v1 (.lst ((ba.map V.ref).take ((ba.map V.ref).length - 1) ++ [.ref y1]))) := Same.new hv1
    have gv1 : (upd H36 v1 (.lst ((ba.map V.ref).take ((ba.map V.ref).length - 1) ++ [.ref y1]))) v1 = some (.lst ((ba.map V.ref).take ((ba.map V.ref).length - 1) ++ [.ref y1])) := upd_same
    generalize (upd H36 v1 (.lst ((ba.map V.ref).take ((ba.map V.ref).length - 1) ++ [.ref y1]))) = H37 at t37 s37 gv1 ⊢
    have r37 : Reps (repL (repDay C_Day)) H37 ((ba.map V.ref).take ((ba.map V.ref).length - 1) ++ [.ref y1]) (M.take (M.length - 1) ++ [List.replicate 5 dd]) := by
      rw [lb20]
      exact Reps.app (Reps.take _ (rowsB35.reps.mono (repL_mono repDay_mono) t37)) (Reps.one ⟨y1, _, rfl, s37 _ _ gy1, Reps.rep (repDay_mono _ _ _ _ t37 hday6) 5⟩)
    have okM3 : OkM (1 + mn) (1 + md) 5 (M.take (M.length - 1) ++ [List.replicate 5 dd]) := fun r hr => by
      rcases List.mem_append.mp hr with z | z
      · have := hok r (List.mem_of_mem_take z)
        exact ⟨this.1, Nat.le_trans this.2.1 (by decide), this.2.2⟩
      · rw [List.mem_singleton.mp z]
        exact ⟨by rw [List.length_replicate]; decide, by rw [List.length_replicate]; exact Nat.le_refl _, fun d hd => by rw [(List.mem_replicate.mp hd).2]; exact okdd⟩
    have lM3 : (M.take (M.length - 1) ++ [List.replicate 5 dd]).length = M.length := by rw [List.length_append, List.length_take]; show min _ _ + 1 = _; omega
    have okM3' : OkM (1 + mn) (M.take (M.length - 1) ++ [List.replicate 5 dd]).length 5 (M.take (M.length - 1) ++ [List.replicate 5 dd]) := by rw [lM3, hMi]; exact okM3
    have neM3 : ¬ M = M.take (M.length - 1) ++ [List.replicate 5 dd] := getLast_ne (fun r hr => (hok r hr).2.1) hM1 List.length_replicate
    refine ⟨v1, _, _, rfl, gv1, Reps.q r37, okM3.small (by decide) (by rw [lM3]; omega), okM3'.ref (by decide) (by rw [lM3]; exact hM1) (by rw [lM3]; omega), by rw [lM3]; exact hM3, fun W3 H38 s38 hW3 => ?_⟩
    have t38 := (s35.trans t37).trans s38
    have hW38 := hW34.same t38
    obtain ⟨dxa, qa, ea, _⟩ := id hW38
    obtain ⟨dxb, qb, eb, _⟩ := id hW3
    refine ⟨W, dxa, _, W3, dxb, _, rfl, rfl, ea, eb, W, W3, M, _, rfl, hW38, hW3, fun H39 s39 => ⟨_, rfl, _, rfl, ite2 (fun y => absurd (of_decide_eq_true y) neM3) (fun _ => ?_)⟩⟩
    have t39 := t38.trans s39
    have rowsB39 := rowsB34.same t39
    have sc39 := sc34.same t39
    have rowsH := rowsB39.frm (H' := hid [s0] H39) hid_frm0 nBa (lsc sc39)
    exact ⟨_, rfl, _, rfl, _, rfl, _, rfl, _, rfl, a, s0, B, (an : Int), 1 + mn, _, M, rfl, sc39, rowsH.1, rowsH.reps, hokM, hM1, hM3, by omega, by omega, by omega, by omega, k⟩
end
end Wb

namespace Wb
open PySem PySem.Spec PyProof.Rows L2 Wx StX NdefX RZ StX PyProof.Rows.FinIter
section
theorem all_mk {l : PySem.W.OpenLaw} {w : World} {K : PySem.W.Frag} {h : Heap} {mg : Str → Option Value} {fa : Addr}
    {oc0 kV0 dc0 pm0 cd0 ct0 : Value} {od0 an0 : Option Addr} {sl0 : Array (Option Value)} {f0 : Addr}
    {oc1 kV1 dc1 pm1 cd1 ct1 : Value} {od1 an1 : Option Addr} {sl1 : Array (Option Value)} {f1 : Addr}
    {oc2 kV2 dc2 pm2 cd2 ct2 : Value} {od2 an2 : Option Addr} {sl2 : Array (Option Value)} {f2 : Addr}
    {oc3 kV3 dc3 pm3 cd3 ct3 : Value} {od3 an3 : Option Addr} {sl3 : Array (Option Value)} {f3 : Addr}
    {oc4 kV4 dc4 pm4 cd4 ct4 : Value} {od4 an4 : Option Addr} {sl4 : Array (Option Value)} {f4 : Addr}
    {oc5 kV5 dc5 pm5 cd5 ct5 : Value} {od5 an5 : Option Addr} {sl5 : Array (Option Value)} {f5 : Addr}
    {oc6 kV6 dc6 pm6 cd6 ct6 : Value} {od6 an6 : Option Addr} {sl6 : Array (Option Value)} {f6 : Addr}
    {oc7 kV7 dc7 pm7 cd7 ct7 : Value} {od7 an7 : Option Addr} {sl7 : Array (Option Value)} {f7 : Addr}
    {oc8 kV8 dc8 pm8 cd8 ct8 : Value} {od8 an8 : Option Addr} {sl8 : Array (Option Value)} {f8 : Addr}
    {oc9 kV9 dc9 pm9 cd9 ct9 : Value} {od9 an9 : Option Addr} {sl9 : Array (Option Value)} {f9 : Addr}
    {oc10 kV10 dc10 pm10 cd10 ct10 : Value} {od10 an10 : Option Addr} {sl10 : Array (Option Value)} {f10 : Addr}
    {oc11 kV11 dc11 pm11 cd11 ct11 : Value} {od11 an11 : Option Addr} {sl11 : Array (Option Value)} {f11 : Addr}
    {oc12 kV12 dc12 pm12 cd12 ct12 : Value} {od12 an12 : Option Addr} {sl12 : Array (Option Value)} {f12 : Addr}
    {t_MOST_PLOTS : Tok}
    {t_MOST_UNITS : Tok}
    {t_MOST_MOODS : Tok}
    {t__MOST_DAYS : Tok}
    {nm_BadNumber qn_BadNumber fl_BadNumber : Str} {N_BadNumber C_BadNumber f_BadNumber cda_BadNumber cc_BadNumber : Addr} {bs_BadNumber sub_BadNumber bm_BadNumber : List Value} {sn_BadNumber : List Str} {ab_BadNumber : Bool} {col_BadNumber : Option Bool} {dd_BadNumber od_BadNumber an_BadNumber cdd_BadNumber cld_BadNumber : Option Addr} {m0_BadNumber m1_BadNumber m2_BadNumber m3_BadNumber m5_BadNumber : Option Value} {oc_BadNumber kV_BadNumber doc_BadNumber pm_BadNumber ct_BadNumber ccl_BadNumber clv_BadNumber : Value} {osl_BadNumber ccs_BadNumber csl_BadNumber : Array (Option Value)} {vs_BadNumber : Array Value} {tf_BadNumber : Tok}
    {C_Day : Addr}
    {oc_Day_init kV_Day_init dc_Day_init pm_Day_init cd_Day_init ct_Day_init : Value} {od_Day_init an_Day_init : Option Addr} {sl_Day_init : Array (Option Value)} {f_Day_init : Addr}
    {oc_Day_eq kV_Day_eq dc_Day_eq pm_Day_eq cd_Day_eq ct_Day_eq : Value} {od_Day_eq an_Day_eq : Option Addr} {sl_Day_eq : Array (Option Value)} {f_Day_eq : Addr}
    {oc_Day_add kV_Day_add dc_Day_add pm_Day_add cd_Day_add ct_Day_add : Value} {od_Day_add an_Day_add : Option Addr} {sl_Day_add : Array (Option Value)} {f_Day_add : Addr}
    {foA roA : Option Value}
    {C_Weather : Addr}
    {oc_Weather_init kV_Weather_init dc_Weather_init pm_Weather_init cd_Weather_init ct_Weather_init : Value} {od_Weather_init an_Weather_init : Option Addr} {sl_Weather_init : Array (Option Value)} {f_Weather_init : Addr}
    {oc_Weather_eq kV_Weather_eq dc_Weather_eq pm_Weather_eq cd_Weather_eq ct_Weather_eq : Value} {od_Weather_eq an_Weather_eq : Option Addr} {sl_Weather_eq : Array (Option Value)} {f_Weather_eq : Addr}
    {oc_Weather_len kV_Weather_len dc_Weather_len pm_Weather_len cd_Weather_len ct_Weather_len : Value} {od_Weather_len an_Weather_len : Option Addr} {sl_Weather_len : Array (Option Value)} {f_Weather_len : Addr}
    {oc_Weather_get kV_Weather_get dc_Weather_get pm_Weather_get cd_Weather_get ct_Weather_get : Value} {od_Weather_get an_Weather_get : Option Addr} {sl_Weather_get : Array (Option Value)} {f_Weather_get : Addr}
    (X : K.In h) (G : h.Ns mainGlobals mg) (hfa : mg "law" = some (.ref fa))
    (a0 : PySem.W.nsIn K mainGlobals "_shown" = some (some (.ref f0)))
    (l0 : K.lookup f0 = some ⟨oc0, od0, .func (PySem.W.fnOf "_shown" "_shown" (defArgs s_shown) (defBody s_shown) (defScope s_shown) .none kV0 dc0 pm0 an0 cd0 ct0), sl0⟩)
    (c0 : PySem.W.codeIn K cd0 "_shown" = true)
    (k0 : PySem.W.keepIn K (.ref f0) = true)
    (a1 : PySem.W.nsIn K mainGlobals "check_number" = some (some (.ref f1)))
    (l1 : K.lookup f1 = some ⟨oc1, od1, .func (PySem.W.fnOf "check_number" "check_number" (defArgs scheck_number) (defBody scheck_number) (defScope scheck_number) .none kV1 dc1 pm1 an1 cd1 ct1), sl1⟩)
    (c1 : PySem.W.codeIn K cd1 "check_number" = true)
    (k1 : PySem.W.keepIn K (.ref f1) = true)
    (a2 : PySem.W.nsIn K mainGlobals "check_units" = some (some (.ref f2)))
    (l2 : K.lookup f2 = some ⟨oc2, od2, .func (PySem.W.fnOf "check_units" "check_units" (defArgs scheck_units) (defBody scheck_units) (defScope scheck_units) .none kV2 dc2 pm2 an2 cd2 ct2), sl2⟩)
    (c2 : PySem.W.codeIn K cd2 "check_units" = true)
    (k2 : PySem.W.keepIn K (.ref f2) = true)
    (a3 : PySem.W.nsIn K mainGlobals "lesser" = some (some (.ref f3)))
    (l3 : K.lookup f3 = some ⟨oc3, od3, .func (PySem.W.fnOf "lesser" "lesser" (defArgs slesser) (defBody slesser) (defScope slesser) .none kV3 dc3 pm3 an3 cd3 ct3), sl3⟩)
    (c3 : PySem.W.codeIn K cd3 "lesser" = true)
    (k3 : PySem.W.keepIn K (.ref f3) = true)
    (a4 : PySem.W.nsIn K mainGlobals "_check_days" = some (some (.ref f4)))
    (l4 : K.lookup f4 = some ⟨oc4, od4, .func (PySem.W.fnOf "_check_days" "_check_days" (defArgs s_check_days) (defBody s_check_days) (defScope s_check_days) .none kV4 dc4 pm4 an4 cd4 ct4), sl4⟩)
    (c4 : PySem.W.codeIn K cd4 "_check_days" = true)
    (k4 : PySem.W.keepIn K (.ref f4) = true)
    (a5 : PySem.W.nsIn K mainGlobals "_law_start" = some (some (.ref f5)))
    (l5 : K.lookup f5 = some ⟨oc5, od5, .func (PySem.W.fnOf "_law_start" "_law_start" (defArgs s_law_start) (defBody s_law_start) (defScope s_law_start) .none kV5 dc5 pm5 an5 cd5 ct5), sl5⟩)
    (c5 : PySem.W.codeIn K cd5 "_law_start" = true)
    (k5 : PySem.W.keepIn K (.ref f5) = true)
    (a6 : PySem.W.nsIn K mainGlobals "_law_draw" = some (some (.ref f6)))
    (l6 : K.lookup f6 = some ⟨oc6, od6, .func (PySem.W.fnOf "_law_draw" "_law_draw" (defArgs s_law_draw) (defBody s_law_draw) (defScope s_law_draw) .none kV6 dc6 pm6 an6 cd6 ct6), sl6⟩)
    (c6 : PySem.W.codeIn K cd6 "_law_draw" = true)
    (k6 : PySem.W.keepIn K (.ref f6) = true)
    (a7 : PySem.W.nsIn K mainGlobals "_law_day" = some (some (.ref f7)))
    (l7 : K.lookup f7 = some ⟨oc7, od7, .func (PySem.W.fnOf "_law_day" "_law_day" (defArgs s_law_day) (defBody s_law_day) (defScope s_law_day) .none kV7 dc7 pm7 an7 cd7 ct7), sl7⟩)
    (c7 : PySem.W.codeIn K cd7 "_law_day" = true)
    (k7 : PySem.W.keepIn K (.ref f7) = true)
    (a8 : PySem.W.nsIn K mainGlobals "_law_refusal" = some (some (.ref f8)))
    (l8 : K.lookup f8 = some ⟨oc8, od8, .func (PySem.W.fnOf "_law_refusal" "_law_refusal" (defArgs s_law_refusal) (defBody s_law_refusal) (defScope s_law_refusal) .none kV8 dc8 pm8 an8 cd8 ct8), sl8⟩)
    (c8 : PySem.W.codeIn K cd8 "_law_refusal" = true)
    (k8 : PySem.W.keepIn K (.ref f8) = true)
    (a9 : PySem.W.nsIn K mainGlobals "_law_item" = some (some (.ref f9)))
    (l9 : K.lookup f9 = some ⟨oc9, od9, .func (PySem.W.fnOf "_law_item" "_law_item" (defArgs s_law_item) (defBody s_law_item) (defScope s_law_item) .none kV9 dc9 pm9 an9 cd9 ct9), sl9⟩)
    (c9 : PySem.W.codeIn K cd9 "_law_item" = true)
    (k9 : PySem.W.keepIn K (.ref f9) = true)
    (a10 : PySem.W.nsIn K mainGlobals "_law_made" = some (some (.ref f10)))
    (l10 : K.lookup f10 = some ⟨oc10, od10, .func (PySem.W.fnOf "_law_made" "_law_made" (defArgs s_law_made) (defBody s_law_made) (defScope s_law_made) .none kV10 dc10 pm10 an10 cd10 ct10), sl10⟩)
    (c10 : PySem.W.codeIn K cd10 "_law_made" = true)
    (k10 : PySem.W.keepIn K (.ref f10) = true)
    (a11 : PySem.W.nsIn K mainGlobals "_law_refusals_hold" = some (some (.ref f11)))
    (l11 : K.lookup f11 = some ⟨oc11, od11, .func (PySem.W.fnOf "_law_refusals_hold" "_law_refusals_hold" (defArgs s_law_refusals_hold) (defBody s_law_refusals_hold) (defScope s_law_refusals_hold) .none kV11 dc11 pm11 an11 cd11 ct11), sl11⟩)
    (c11 : PySem.W.codeIn K cd11 "_law_refusals_hold" = true)
    (k11 : PySem.W.keepIn K (.ref f11) = true)
    (a12 : PySem.W.nsIn K mainGlobals "law" = some (some (.ref f12)))
    (l12 : K.lookup f12 = some ⟨oc12, od12, .func (PySem.W.fnOf "law" "law" (defArgs slaw) (defBody slaw) (defScope slaw) .none kV12 dc12 pm12 an12 cd12 ct12), sl12⟩)
    (c12 : PySem.W.codeIn K cd12 "law" = true)
    (k12 : PySem.W.keepIn K (.ref f12) = true)
    (z_len : PySem.W.nsIn K mainGlobals "len" = some none)
    (z_abs : PySem.W.nsIn K mainGlobals "abs" = some none)
    (z_int : PySem.W.nsIn K mainGlobals "int" = some none)
    (z_bool : PySem.W.nsIn K mainGlobals "bool" = some none)
    (z_str : PySem.W.nsIn K mainGlobals "str" = some none)
    (z_range : PySem.W.nsIn K mainGlobals "range" = some none)
    (z_all : PySem.W.nsIn K mainGlobals "all" = some none)
    (z_isinstance : PySem.W.nsIn K mainGlobals "isinstance" = some none)
    (z_repr : PySem.W.nsIn K mainGlobals "repr" = some none)
    (z_super : PySem.W.nsIn K mainGlobals "super" = some none)
    (z_tuple : PySem.W.nsIn K mainGlobals "tuple" = some none)
    (z_list : PySem.W.nsIn K mainGlobals "list" = some none)
    (z_zip : PySem.W.nsIn K mainGlobals "zip" = some none)
    (z_enumerate : PySem.W.nsIn K mainGlobals "enumerate" = some none)
    (z_max : PySem.W.nsIn K mainGlobals "max" = some none)
    (z_min : PySem.W.nsIn K mainGlobals "min" = some none)
    (g_MOST_PLOTS : PySem.W.nsIn K mainGlobals "MOST_PLOTS" = some (some (.int 4 t_MOST_PLOTS)))
    (g_MOST_UNITS : PySem.W.nsIn K mainGlobals "MOST_UNITS" = some (some (.int 8 t_MOST_UNITS)))
    (g_MOST_MOODS : PySem.W.nsIn K mainGlobals "MOST_MOODS" = some (some (.int 4 t_MOST_MOODS)))
    (g__MOST_DAYS : PySem.W.nsIn K mainGlobals "_MOST_DAYS" = some (some (.int 6 t__MOST_DAYS)))
    (g_BadNumber : PySem.W.nsIn K mainGlobals "BadNumber" = some (some (.ref C_BadNumber)))
    (x_BadNumber : K.lookup C_BadNumber = some (excClassObj nm_BadNumber qn_BadNumber C_BadNumber N_BadNumber bs_BadNumber bm_BadNumber true sn_BadNumber sub_BadNumber ab_BadNumber col_BadNumber dd_BadNumber m0_BadNumber m1_BadNumber m2_BadNumber m3_BadNumber m5_BadNumber "ValueError.__new__"))
    (r_BadNumber : PySem.HandSPX.refsVE bm_BadNumber = true)
    (sa_BadNumber : PySem.W.findIn K (.ref C_BadNumber) "__setattr__" = some (some (.builtin "object.__setattr__")))
    (ex_BadNumber : PySem.W.subIn K (.ref C_BadNumber) (.type "BaseException") = some true)
    (ty_BadNumber : PySem.W.typeIn K (.ref C_BadNumber) = some (.type "type"))
    (kp_BadNumber : PySem.W.keepIn K (.ref C_BadNumber) = true)
    (i_BadNumber : PySem.W.findIn K (.ref C_BadNumber) "__init__" = some (some (.ref f_BadNumber)))
    (l_BadNumber : K.lookup f_BadNumber = some ⟨oc_BadNumber, od_BadNumber, .func (PySem.W.fnX "__init__" "BadNumber.__init__" (defArgs sBadNumber___init__) (defBody sBadNumber___init__) (defScope sBadNumber___init__) [("__class__", cc_BadNumber)] .none kV_BadNumber doc_BadNumber pm_BadNumber an_BadNumber (.ref cda_BadNumber) ct_BadNumber), osl_BadNumber⟩)
    (cd_BadNumber : PySem.W.codeIn K (.ref cda_BadNumber) "BadNumber.__init__" = true)
    (cf_BadNumber : K.lookup cda_BadNumber = some ⟨ccl_BadNumber, cdd_BadNumber, .fields vs_BadNumber, ccs_BadNumber⟩)
    (v2_BadNumber : vs_BadNumber[2]? = some (.str fl_BadNumber tf_BadNumber))
    (fi_BadNumber : ((l.prog.main.file : Str) == fl_BadNumber) = true)
    (cl_BadNumber : K.lookup cc_BadNumber = some ⟨clv_BadNumber, cld_BadNumber, .cell (some (.ref C_BadNumber)), csl_BadNumber⟩)
    (mr_BadNumber : PySem.W.mroIn K C_BadNumber (.ref C_BadNumber) = some true)
    (sb_BadNumber : PySem.W.subIn K (.ref C_BadNumber) (.type "ValueError") = some true)
    (su_BadNumber : PySem.W.ks_superIn K C_BadNumber C_BadNumber "__init__" = some (some (.builtin "ValueError.__init__")))
    (ti_BadNumber : PySem.W.typeIn K (.ref f_BadNumber) = some (.type "function"))
    (ga_BadNumber : PySem.W.findIn K (.ref C_BadNumber) "__getattribute__" = some (some (.builtin "BaseException.__getattribute__")))
    (gg_BadNumber : PySem.W.findIn K (.ref C_BadNumber) "__getattr__" = some none)
    (hd_BadNumber : PySem.W.hasDictIn K C_BadNumber = true)
    (ha_BadNumber : PySem.W.findIn K (.ref C_BadNumber) "__class__" = some (some (.builtin "object.__class__")))
    (mo_BadNumber : PySem.W.mroIn K C_BadNumber (.type "object") = some true)
    (em_BadNumber : PySem.W.subIn K (.ref C_BadNumber) (.ref C_BadNumber) = some true)
    (nw_BadNumber : PySem.W.findIn K (.ref C_BadNumber) "what" = some none)
    (nv_BadNumber : PySem.W.findIn K (.ref C_BadNumber) "value" = some none)
    (nn_BadNumber : PySem.W.findIn K (.ref C_BadNumber) "name" = some none)
    (nt_BadNumber : PySem.W.findIn K (.ref C_BadNumber) "turn" = some none)
    (opq : PySem.W.nsIn K cStatics "thirdparty.any" = some none)
    (htop : (l.prog.main.scope.names.lookup ("super" : Str)).isSome = false)
    (spc : PySem.W.specialIn K (.builtin "object.__class__") "__get__" = some (some (.builtin "getset_descriptor.__get__")))
    (tks : PySem.W.takesIn K (.builtin "object.__class__") = some true)
    (g_Day : PySem.W.nsIn K mainGlobals "Day" = some (some (.ref C_Day)))
    (mk_Day : PySem.W.makesIn K C_Day = true)
    (kp_Day : PySem.W.keepIn K (.ref C_Day) = true)
    (pg_Day : PySem.W.plainGet K C_Day Str.empty = true)
    (hd_Day : PySem.W.hasDictIn K C_Day = true)
    (po_Day : PySem.W.plainOver K C_Day = true)
    (sa_Day : PySem.W.findIn K (.ref C_Day) "__setattr__" = some (some (.builtin "object.__setattr__")))
    (ne_Day : PySem.W.findIn K (.ref C_Day) "__ne__" = some (some (.builtin "object.__ne__")))
    (ob_Day : PySem.W.subIn K (.ref C_Day) (.type "object") = some true)
    (ha_Day : PySem.W.findIn K (.ref C_Day) "__class__" = some (some (.builtin "object.__class__")))
    (hm_Day : PySem.W.mroIn K C_Day (.type "object") = some true)
    (kk_Day : PySem.W.kitOne K (.ref C_Day) (.ref C_Day) = some true)
    (no_Day_dry : PySem.W.findIn K (.ref C_Day) "dry" = some none)
    (no_Day_rain : PySem.W.findIn K (.ref C_Day) "rain" = some none)
    (no_Day_fill : PySem.W.findIn K (.ref C_Day) "fill" = some none)
    (no_Day_mood : PySem.W.findIn K (.ref C_Day) "mood" = some none)
    (i_Day_init : PySem.W.findIn K (.ref C_Day) "__init__" = some (some (.ref f_Day_init)))
    (fn_Day_init : PySem.W.isFn K (.ref f_Day_init) = true)
    (l_Day_init : K.lookup f_Day_init = some ⟨oc_Day_init, od_Day_init, .func (PySem.W.fnOf "__init__" "Day.__init__" (defArgs sDay___init__) (defBody sDay___init__) (defScope sDay___init__) .none kV_Day_init dc_Day_init pm_Day_init an_Day_init cd_Day_init ct_Day_init), sl_Day_init⟩)
    (c_Day_init : PySem.W.codeIn K cd_Day_init "Day.__init__" = true)
    (k_Day_init : PySem.W.keepIn K (.ref f_Day_init) = true)
    (i_Day_eq : PySem.W.findIn K (.ref C_Day) "__eq__" = some (some (.ref f_Day_eq)))
    (fn_Day_eq : PySem.W.isFn K (.ref f_Day_eq) = true)
    (l_Day_eq : K.lookup f_Day_eq = some ⟨oc_Day_eq, od_Day_eq, .func (PySem.W.fnOf "__eq__" "Day.__eq__" (defArgs sDay___eq__) (defBody sDay___eq__) (defScope sDay___eq__) .none kV_Day_eq dc_Day_eq pm_Day_eq an_Day_eq cd_Day_eq ct_Day_eq), sl_Day_eq⟩)
    (c_Day_eq : PySem.W.codeIn K cd_Day_eq "Day.__eq__" = true)
    (k_Day_eq : PySem.W.keepIn K (.ref f_Day_eq) = true)
    (i_Day_add : PySem.W.findIn K (.ref C_Day) "__add__" = some (some (.ref f_Day_add)))
    (fn_Day_add : PySem.W.isFn K (.ref f_Day_add) = true)
    (l_Day_add : K.lookup f_Day_add = some ⟨oc_Day_add, od_Day_add, .func (PySem.W.fnOf "__add__" "Day.__add__" (defArgs sDay___add__) (defBody sDay___add__) (defScope sDay___add__) .none kV_Day_add dc_Day_add pm_Day_add an_Day_add cd_Day_add ct_Day_add), sl_Day_add⟩)
    (c_Day_add : PySem.W.codeIn K cd_Day_add "Day.__add__" = true)
    (k_Day_add : PySem.W.keepIn K (.ref f_Day_add) = true)
    (sf_Day : PySem.W.selfFirst K C_Day = true)
    (ra_Day : PySem.W.findIn K (.ref C_Day) "__radd__" = some none)
    (ia_Day : PySem.W.findIn K (.type "int") "__add__" = some foA)
    (ib_Day : PySem.W.findIn K (.type "int") "__radd__" = some roA)
    (is_Day : PySem.W.subIn K (.type "int") (.ref C_Day) = some false)
    (g_Weather : PySem.W.nsIn K mainGlobals "Weather" = some (some (.ref C_Weather)))
    (mk_Weather : PySem.W.makesIn K C_Weather = true)
    (kp_Weather : PySem.W.keepIn K (.ref C_Weather) = true)
    (pg_Weather : PySem.W.plainGet K C_Weather Str.empty = true)
    (hd_Weather : PySem.W.hasDictIn K C_Weather = true)
    (po_Weather : PySem.W.plainOver K C_Weather = true)
    (sa_Weather : PySem.W.findIn K (.ref C_Weather) "__setattr__" = some (some (.builtin "object.__setattr__")))
    (ne_Weather : PySem.W.findIn K (.ref C_Weather) "__ne__" = some (some (.builtin "object.__ne__")))
    (ob_Weather : PySem.W.subIn K (.ref C_Weather) (.type "object") = some true)
    (ha_Weather : PySem.W.findIn K (.ref C_Weather) "__class__" = some (some (.builtin "object.__class__")))
    (hm_Weather : PySem.W.mroIn K C_Weather (.type "object") = some true)
    (kk_Weather : PySem.W.kitOne K (.ref C_Weather) (.ref C_Weather) = some true)
    (no_Weather_moods : PySem.W.findIn K (.ref C_Weather) "moods" = some none)
    (no_Weather_width : PySem.W.findIn K (.ref C_Weather) "width" = some none)
    (i_Weather_init : PySem.W.findIn K (.ref C_Weather) "__init__" = some (some (.ref f_Weather_init)))
    (fn_Weather_init : PySem.W.isFn K (.ref f_Weather_init) = true)
    (l_Weather_init : K.lookup f_Weather_init = some ⟨oc_Weather_init, od_Weather_init, .func (PySem.W.fnOf "__init__" "Weather.__init__" (defArgs sWeather___init__) (defBody sWeather___init__) (defScope sWeather___init__) .none kV_Weather_init dc_Weather_init pm_Weather_init an_Weather_init cd_Weather_init ct_Weather_init), sl_Weather_init⟩)
    (c_Weather_init : PySem.W.codeIn K cd_Weather_init "Weather.__init__" = true)
    (k_Weather_init : PySem.W.keepIn K (.ref f_Weather_init) = true)
    (i_Weather_eq : PySem.W.findIn K (.ref C_Weather) "__eq__" = some (some (.ref f_Weather_eq)))
    (fn_Weather_eq : PySem.W.isFn K (.ref f_Weather_eq) = true)
    (l_Weather_eq : K.lookup f_Weather_eq = some ⟨oc_Weather_eq, od_Weather_eq, .func (PySem.W.fnOf "__eq__" "Weather.__eq__" (defArgs sWeather___eq__) (defBody sWeather___eq__) (defScope sWeather___eq__) .none kV_Weather_eq dc_Weather_eq pm_Weather_eq an_Weather_eq cd_Weather_eq ct_Weather_eq), sl_Weather_eq⟩)
    (c_Weather_eq : PySem.W.codeIn K cd_Weather_eq "Weather.__eq__" = true)
    (k_Weather_eq : PySem.W.keepIn K (.ref f_Weather_eq) = true)
    (i_Weather_len : PySem.W.findIn K (.ref C_Weather) "__len__" = some (some (.ref f_Weather_len)))
    (fn_Weather_len : PySem.W.isFn K (.ref f_Weather_len) = true)
    (l_Weather_len : K.lookup f_Weather_len = some ⟨oc_Weather_len, od_Weather_len, .func (PySem.W.fnOf "__len__" "Weather.__len__" (defArgs sWeather___len__) (defBody sWeather___len__) (defScope sWeather___len__) .none kV_Weather_len dc_Weather_len pm_Weather_len an_Weather_len cd_Weather_len ct_Weather_len), sl_Weather_len⟩)
    (c_Weather_len : PySem.W.codeIn K cd_Weather_len "Weather.__len__" = true)
    (k_Weather_len : PySem.W.keepIn K (.ref f_Weather_len) = true)
    (i_Weather_get : PySem.W.findIn K (.ref C_Weather) "__getitem__" = some (some (.ref f_Weather_get)))
    (fn_Weather_get : PySem.W.isFn K (.ref f_Weather_get) = true)
    (l_Weather_get : K.lookup f_Weather_get = some ⟨oc_Weather_get, od_Weather_get, .func (PySem.W.fnOf "__getitem__" "Weather.__getitem__" (defArgs sWeather___getitem__) (defBody sWeather___getitem__) (defScope sWeather___getitem__) .none kV_Weather_get dc_Weather_get pm_Weather_get an_Weather_get cd_Weather_get ct_Weather_get), sl_Weather_get⟩)
    (c_Weather_get : PySem.W.codeIn K cd_Weather_get "Weather.__getitem__" = true)
    (k_Weather_get : PySem.W.keepIn K (.ref f_Weather_get) = true)
    (fg_Weather : PySem.W.fnIn K f_Weather_get = true) :
    ∃ fd : FuncData, (∀ (s : Shared) (v : Value), BindsTo s fd ⟨[v], []⟩ [("script", v)]) ∧ ∀ base : Heap, K.In base → base.Ns mainGlobals mg → FnOk l.prog w K mg base CX0 12 fa fd ["script"] (splaw K) := by
  have e := hfa.symm.trans (PySem.W.mg_of X G a12)
  cases e
  have T : Txt K mg := ⟨PySem.W.mg_none_of X G z_len, PySem.W.mg_none_of X G z_abs, PySem.W.mg_none_of X G z_int, PySem.W.mg_none_of X G z_bool, PySem.W.mg_none_of X G z_str, PySem.W.mg_none_of X G z_range, PySem.W.mg_none_of X G z_all, PySem.W.mg_none_of X G z_isinstance, PySem.W.mg_none_of X G z_repr, PySem.W.mg_none_of X G z_super, PySem.W.mg_none_of X G z_tuple, PySem.W.mg_none_of X G z_list, PySem.W.mg_none_of X G z_zip, PySem.W.mg_none_of X G z_enumerate, PySem.W.mg_none_of X G z_max, PySem.W.mg_none_of X G z_min, ⟨_, PySem.W.mg_of X G g_MOST_PLOTS⟩, ⟨_, PySem.W.mg_of X G g_MOST_UNITS⟩, ⟨_, PySem.W.mg_of X G g_MOST_MOODS⟩, ⟨_, PySem.W.mg_of X G g__MOST_DAYS⟩⟩
  have E_BadNumber : ErrC l.prog K mg "BadNumber" "BadNumber.__init__" C_BadNumber f_BadNumber cda_BadNumber cc_BadNumber := ⟨PySem.W.mg_of X G g_BadNumber, ⟨⟨⟨_, _, _, _, _, _, _, _, _, _, _, _, _, _, _, x_BadNumber, r_BadNumber⟩, sa_BadNumber, ex_BadNumber, ty_BadNumber, kp_BadNumber⟩, cd_BadNumber, ⟨_, _, _, _, _, _, cf_BadNumber, v2_BadNumber, fi_BadNumber⟩, ⟨_, _, _, cl_BadNumber⟩, T.b_super, htop, mr_BadNumber, sb_BadNumber, su_BadNumber, opq⟩, i_BadNumber, ti_BadNumber, ⟨ga_BadNumber, gg_BadNumber, ex_BadNumber, hd_BadNumber⟩, ⟨ga_BadNumber, gg_BadNumber, ex_BadNumber, hd_BadNumber, ha_BadNumber, spc, tks, mo_BadNumber⟩, PySem.W.exm_ref ex_BadNumber hd_BadNumber ty_BadNumber em_BadNumber, nw_BadNumber, nv_BadNumber, nn_BadNumber, nt_BadNumber⟩
  have F_Day_init := fun_mk (st := sDay___init__) l_Day_init c_Day_init k_Day_init
  have b_Day_init := F_Day_init.binds (ps := PDay___init__) fun _ _ _ _ _ _ us hl => match us, hl with | [_, _, _, _, _], _ => rfl
  have F_Day_eq := fun_mk (st := sDay___eq__) l_Day_eq c_Day_eq k_Day_eq
  have b_Day_eq := F_Day_eq.binds (ps := PDay___eq__) fun _ _ _ _ _ _ us hl => match us, hl with | [_, _], _ => rfl
  have F_Day_add := fun_mk (st := sDay___add__) l_Day_add c_Day_add k_Day_add
  have b_Day_add := F_Day_add.binds (ps := PDay___add__) fun _ _ _ _ _ _ us hl => match us, hl with | [_, _], _ => rfl
  have D_Day : DatC K mg "Day" C_Day f_Day_init f_Day_eq ["dry", "rain", "fill", "mood"] := ⟨PySem.W.mg_of X G g_Day, ⟨mk_Day, i_Day_init, fn_Day_init, kp_Day⟩, ⟨pg_Day, hd_Day, po_Day, sa_Day⟩, (fun f hf => by
    simp only [List.mem_cons, List.not_mem_nil, or_false] at hf
    rcases hf with rfl | rfl | rfl | rfl
    · exact no_Day_dry
    · exact no_Day_rain
    · exact no_Day_fill
    · exact no_Day_mood), i_Day_eq, fn_Day_eq, ne_Day, ob_Day, ha_Day, spc, tks, hm_Day, kk_Day⟩
  have O_Day___add__ : OpC K C_Day f_Day_add "__add__" "__radd__" := ⟨sf_Day, i_Day_add, fn_Day_add, ⟨none, ra_Day, .inl rfl⟩, ⟨_, ia_Day⟩, ⟨_, ib_Day⟩, is_Day⟩
  have F_Weather_init := fun_mk (st := sWeather___init__) l_Weather_init c_Weather_init k_Weather_init
  have F_Weather_eq := fun_mk (st := sWeather___eq__) l_Weather_eq c_Weather_eq k_Weather_eq
  have b_Weather_eq := F_Weather_eq.binds (ps := PWeather___eq__) fun _ _ _ _ _ _ us hl => match us, hl with | [_, _], _ => rfl
  have F_Weather_len := fun_mk (st := sWeather___len__) l_Weather_len c_Weather_len k_Weather_len
  have b_Weather_len := F_Weather_len.binds (ps := PWeather___len__) fun _ _ _ _ _ _ us hl => match us, hl with | [_], _ => rfl
  have F_Weather_get := fun_mk (st := sWeather___getitem__) l_Weather_get c_Weather_get k_Weather_get
  have b_Weather_get := F_Weather_get.binds (ps := PWeather___getitem__) fun _ _ _ _ _ _ us hl => match us, hl with | [_, _], _ => rfl
  have D_Weather : DatC K mg "Weather" C_Weather f_Weather_init f_Weather_eq ["moods", "width"] := ⟨PySem.W.mg_of X G g_Weather, ⟨mk_Weather, i_Weather_init, fn_Weather_init, kp_Weather⟩, ⟨pg_Weather, hd_Weather, po_Weather, sa_Weather⟩, (fun f hf => by
    simp only [List.mem_cons, List.not_mem_nil, or_false] at hf
    rcases hf with rfl | rfl
    · exact no_Weather_moods
    · exact no_Weather_width), i_Weather_eq, fn_Weather_eq, ne_Weather, ob_Weather, ha_Weather, spc, tks, hm_Weather, kk_Weather⟩
  have F0 := fun_mk (st := s_shown) l0 c0 k0
  have b0 := F0.binds (ps := P_shown) fun _ _ _ _ _ _ us hl => match us, hl with | [_], _ => rfl
  have F1 := fun_mk (st := scheck_number) l1 c1 k1
  have b1 := F1.binds (ps := Pcheck_number) fun _ _ _ _ _ _ us hl => match us, hl with | [_, _, _, _], _ => rfl
  have F2 := fun_mk (st := scheck_units) l2 c2 k2
  have b2 := F2.binds (ps := Pcheck_units) fun _ _ _ _ _ _ us hl => match us, hl with | [_, _], _ => rfl
  have F3 := fun_mk (st := slesser) l3 c3 k3
  have b3 := F3.binds (ps := Plesser) fun _ _ _ _ _ _ us hl => match us, hl with | [_, _], _ => rfl
  have F4 := fun_mk (st := s_check_days) l4 c4 k4
  have b4 := F4.binds (ps := P_check_days) fun _ _ _ _ _ _ us hl => match us, hl with | [_], _ => rfl
  have F5 := fun_mk (st := s_law_start) l5 c5 k5
  have b5 := F5.binds (ps := P_law_start) fun _ _ _ _ _ _ us hl => match us, hl with | [_], _ => rfl
  have F6 := fun_mk (st := s_law_draw) l6 c6 k6
  have b6 := F6.binds (ps := P_law_draw) fun _ _ _ _ _ _ us hl => match us, hl with | [_, _, _], _ => rfl
  have F7 := fun_mk (st := s_law_day) l7 c7 k7
  have b7 := F7.binds (ps := P_law_day) fun _ _ _ _ _ _ us hl => match us, hl with | [_, _, _, _, _], _ => rfl
  have F8 := fun_mk (st := s_law_refusal) l8 c8 k8
  have b8 := F8.binds (ps := P_law_refusal) fun _ _ _ _ _ _ us hl => match us, hl with | [_], _ => rfl
  have F9 := fun_mk (st := s_law_item) l9 c9 k9
  have b9 := F9.binds (ps := P_law_item) fun _ _ _ _ _ _ us hl => match us, hl with | [_, _], _ => rfl
  have F10 := fun_mk (st := s_law_made) l10 c10 k10
  have b10 := F10.binds (ps := P_law_made) fun _ _ _ _ _ _ us hl => match us, hl with | [_], _ => rfl
  have F11 := fun_mk (st := s_law_refusals_hold) l11 c11 k11
  have b11 := F11.binds (ps := P_law_refusals_hold) fun _ _ _ _ _ _ us hl => match us, hl with | [_, _, _, _, _], _ => rfl
  have F12 := fun_mk (st := slaw) l12 c12 k12
  have bI_BadNumber : Binds K (PySem.W.fnX "__init__" "BadNumber.__init__" (defArgs sBadNumber___init__) (defBody sBadNumber___init__) (defScope sBadNumber___init__) [("__class__", cc_BadNumber)] .none kV_BadNumber doc_BadNumber pm_BadNumber an_BadNumber (.ref cda_BadNumber) ct_BadNumber) PBadNumber___init__ [] := .all fun us hl => match us, hl with | [_, _, _], _ => rfl
  refine ⟨PySem.W.fnOf "law" "law" (defArgs slaw) (defBody slaw) (defScope slaw) .none kV12 dc12 pm12 an12 cd12 ct12, fun s v => .of_eq rfl, fun base _ _ => ?_⟩
  have C_shown := Cal.mk (ok_shown (P := l.prog) (w := w) (base := base) F0 T) (PySem.W.mg_of X G a0) k0 b0
  have G_BadNumber := okBadNumber___init__ (P := l.prog) (w := w) (base := base) l_BadNumber E_BadNumber T C_shown
  have Gcheck_number := okcheck_number (P := l.prog) (w := w) (base := base) F1 T E_BadNumber G_BadNumber bI_BadNumber
  have Gcheck_units := okcheck_units (P := l.prog) (w := w) (base := base) F2 T (C_BadNumber := C_BadNumber) ⟨_, _, Gcheck_number, PySem.W.mg_of X G a1, k1, b1⟩
  have C_lesser := Cal.mk (oklesser (P := l.prog) (w := w) (base := base) F3 T) (PySem.W.mg_of X G a3) k3 b3
  have GDay___init__ := okDay___init__ (P := l.prog) (w := w) (base := base) F_Day_init T (C_BadNumber := C_BadNumber) D_Day ⟨_, _, Gcheck_number, PySem.W.mg_of X G a1, k1, b1⟩ ⟨_, _, Gcheck_units, PySem.W.mg_of X G a2, k2, b2⟩
  have GDay___eq__ := okDay___eq__ (P := l.prog) (w := w) (base := base) F_Day_eq T (C_BadNumber := C_BadNumber) D_Day
  have GDay___add__ := okDay___add__ (P := l.prog) (w := w) (base := base) F_Day_add T (C_BadNumber := C_BadNumber) D_Day C_lesser ⟨_, _, Gcheck_number, PySem.W.mg_of X G a1, k1, b1⟩ GDay___init__ b_Day_init
  have G_check_days := ok_check_days (P := l.prog) (w := w) (base := base) F4 T (C_BadNumber := C_BadNumber) D_Day D_Weather ⟨_, _, Gcheck_number, PySem.W.mg_of X G a1, k1, b1⟩
  have GWeather___init__ := okWeather___init__ (P := l.prog) (w := w) (base := base) F_Weather_init T (C_BadNumber := C_BadNumber) D_Day D_Weather ⟨_, _, Gcheck_number, PySem.W.mg_of X G a1, k1, b1⟩ ⟨_, _, G_check_days, PySem.W.mg_of X G a4, k4, b4⟩
  have GWeather___eq__ := okWeather___eq__ (P := l.prog) (w := w) (base := base) F_Weather_eq T (C_BadNumber := C_BadNumber) D_Day D_Weather GDay___eq__ b_Day_eq
  have GWeather___len__ := okWeather___len__ (P := l.prog) (w := w) (base := base) F_Weather_len T (C_BadNumber := C_BadNumber) D_Day D_Weather
  have GWeather___getitem__ := okWeather___getitem__ (P := l.prog) (w := w) (base := base) F_Weather_get T (C_BadNumber := C_BadNumber) D_Day D_Weather ⟨_, _, Gcheck_number, PySem.W.mg_of X G a1, k1, b1⟩
  have C_law_start := Cal.mk (ok_law_start (P := l.prog) (w := w) (base := base) F5 T) (PySem.W.mg_of X G a5) k5 b5
  have C_law_draw := Cal.mk (ok_law_draw (P := l.prog) (w := w) (base := base) F6 T) (PySem.W.mg_of X G a6) k6 b6
  have C_law_day := Cal.mk (ok_law_day (P := l.prog) (w := w) (base := base) F7 T D_Day D_Weather GDay___init__ b_Day_init C_law_draw) (PySem.W.mg_of X G a7) k7 b7
  have C_law_refusal := Cal.mk (ok_law_refusal (P := l.prog) (w := w) (base := base) F8 T E_BadNumber G_BadNumber bI_BadNumber D_Day D_Weather GWeather___init__) (PySem.W.mg_of X G a8) k8 b8
  have C_law_item := Cal.mk (ok_law_item (P := l.prog) (w := w) (base := base) F9 T E_BadNumber G_BadNumber bI_BadNumber ⟨i_Weather_get, fg_Weather, fn_Weather_get⟩ GWeather___getitem__ b_Weather_get) (PySem.W.mg_of X G a9) k9 b9
  have C_law_made := Cal.mk (ok_law_made (P := l.prog) (w := w) (base := base) F10 T D_Day D_Weather GWeather___init__) (PySem.W.mg_of X G a10) k10 b10
  have C_law_refusals_hold := Cal.mk (ok_law_refusals_hold (P := l.prog) (w := w) (base := base) F11 T D_Day D_Weather GDay___init__ b_Day_init O_Day___add__ GDay___add__ b_Day_add C_law_draw C_law_refusal) (PySem.W.mg_of X G a11) k11 b11
  exact oklaw (P := l.prog) (w := w) (base := base) F12 T D_Day D_Weather GDay___init__ b_Day_init ⟨i_Weather_len, fn_Weather_len⟩ GDay___eq__ b_Day_eq GWeather___eq__ b_Weather_eq GWeather___len__ b_Weather_len C_law_start C_law_draw C_law_day C_law_item C_law_made C_law_refusals_hold
theorem walk {l : PySem.W.OpenLaw} {q : Program} {loose : List Str} {XP : (Str → Option Value) → Heap → Prop} {YP : World → Heap → Prop} {d : DefRec} {K : Params → PySem.W.Frag} (hn : l.most = some 63) (hdf : d.params.defaults = [])
    (hY : ∀ (w : World) (h : Heap), YP w h → (K w.params).In h)
    (F : ∀ (w : World) (mg : Str → Option Value) (fa : Addr) (h : Heap), (K w.params).In h → h.Ns mainGlobals mg → mg d.name = some (.ref fa) →
      ∃ fd : FuncData, (∀ (s : Shared) (u : Value), BindsTo s fd ⟨[u], []⟩ [("script", u)]) ∧ ∀ base : Heap, (K w.params).In base → base.Ns mainGlobals mg → FnOk l.prog w (K w.params) mg base CX0 12 fa fd ["script"] (splaw (K w.params))) :
    PySem.W.WalkO q loose XP YP l.row.toRowW d [] (fun f vs => PySem.call f vs) :=
  L2.walk_of (n := 63) (k := 12) (x := "script") (CX := fun _ => CX0) (sp := fun w => splaw (K w.params)) hn (by decide) hdf ⟨rfl, by decide, by decide⟩ hY F (fun _ _ a ns hl _ hS => ⟨a, ns, rfl, hS, hl, fun _ => rfl⟩) fun _ _ _ _ _ z => z
end
end Wb
open PySem PySem.W PyProof.Rows in
set_option maxRecDepth 100000 in
set_option maxHeartbeats 0 in
theorem PySem.Challenge.cw_waterbyturns_k10_weathers_holds : PySem.Challenge.rw_waterbyturns_k10_weathers.Holds := by
  w_on; o_law; k_head; (case hw => w_witness2)
  k_fill
  refine Wb.walk (l := PySem.Challenge.rw_waterbyturns_k10_weathers) rfl rfl (fun w h Y => PySem.W.kIn_of Y) ?F
  case F =>
    intro w mg fa h KX G hmg
    refine' Wb.all_mk KX G hmg ?a0 ?l0 ?c0 ?k0 ?a1 ?l1 ?c1 ?k1 ?a2 ?l2 ?c2 ?k2 ?a3 ?l3 ?c3 ?k3 ?a4 ?l4 ?c4 ?k4 ?a5 ?l5 ?c5 ?k5 ?a6 ?l6 ?c6 ?k6 ?a7 ?l7 ?c7 ?k7 ?a8 ?l8 ?c8 ?k8 ?a9 ?l9 ?c9 ?k9 ?a10 ?l10 ?c10 ?k10 ?a11 ?l11 ?c11 ?k11 ?a12 ?l12 ?c12 ?k12 ?z_len ?z_abs ?z_int ?z_bool ?z_str ?z_range ?z_all ?z_isinstance ?z_repr ?z_super ?z_tuple ?z_list ?z_zip ?z_enumerate ?z_max ?z_min ?g_MOST_PLOTS ?g_MOST_UNITS ?g_MOST_MOODS ?g__MOST_DAYS ?g_BadNumber ?x_BadNumber ?r_BadNumber ?sa_BadNumber ?ex_BadNumber ?ty_BadNumber ?kp_BadNumber ?i_BadNumber ?l_BadNumber ?cd_BadNumber ?cf_BadNumber ?v2_BadNumber ?fi_BadNumber ?cl_BadNumber ?mr_BadNumber ?sb_BadNumber ?su_BadNumber ?ti_BadNumber ?ga_BadNumber ?gg_BadNumber ?hd_BadNumber ?ha_BadNumber ?mo_BadNumber ?em_BadNumber ?nw_BadNumber ?nv_BadNumber ?nn_BadNumber ?nt_BadNumber ?opq ?htop ?spc ?tks ?g_Day ?mk_Day ?kp_Day ?pg_Day ?hd_Day ?po_Day ?sa_Day ?ne_Day ?ob_Day ?ha_Day ?hm_Day ?kk_Day ?no_Day_dry ?no_Day_rain ?no_Day_fill ?no_Day_mood ?i_Day_init ?fn_Day_init ?l_Day_init ?c_Day_init ?k_Day_init ?i_Day_eq ?fn_Day_eq ?l_Day_eq ?c_Day_eq ?k_Day_eq ?i_Day_add ?fn_Day_add ?l_Day_add ?c_Day_add ?k_Day_add ?sf_Day ?ra_Day ?ia_Day ?ib_Day ?is_Day ?g_Weather ?mk_Weather ?kp_Weather ?pg_Weather ?hd_Weather ?po_Weather ?sa_Weather ?ne_Weather ?ob_Weather ?ha_Weather ?hm_Weather ?kk_Weather ?no_Weather_moods ?no_Weather_width ?i_Weather_init ?fn_Weather_init ?l_Weather_init ?c_Weather_init ?k_Weather_init ?i_Weather_eq ?fn_Weather_eq ?l_Weather_eq ?c_Weather_eq ?k_Weather_eq ?i_Weather_len ?fn_Weather_len ?l_Weather_len ?c_Weather_len ?k_Weather_len ?i_Weather_get ?fn_Weather_get ?l_Weather_get ?c_Weather_get ?k_Weather_get ?fg_Weather
    (case a0 => k_is)
    (case l0 => k_is)
    (case c0 => k_is)
    (case k0 => k_is)
    (case a1 => k_is)
    (case l1 => k_is)
    (case c1 => k_is)
    (case k1 => k_is)
    (case a2 => k_is)
    (case l2 => k_is)
    (case c2 => k_is)
    (case k2 => k_is)
    (case a3 => k_is)
    (case l3 => k_is)
    (case c3 => k_is)
    (case k3 => k_is)
    (case a4 => k_is)
    (case l4 => k_is)
    (case c4 => k_is)
    (case k4 => k_is)
    (case a5 => k_is)
    (case l5 => k_is)
    (case c5 => k_is)
    (case k5 => k_is)
    (case a6 => k_is)
    (case l6 => k_is)
    (case c6 => k_is)
    (case k6 => k_is)
    (case a7 => k_is)
    (case l7 => k_is)
    (case c7 => k_is)
    (case k7 => k_is)
    (case a8 => k_is)
    (case l8 => k_is)
    (case c8 => k_is)
    (case k8 => k_is)
    (case a9 => k_is)
    (case l9 => k_is)
    (case c9 => k_is)
    (case k9 => k_is)
    (case a10 => k_is)
    (case l10 => k_is)
    (case c10 => k_is)
    (case k10 => k_is)
    (case a11 => k_is)
    (case l11 => k_is)
    (case c11 => k_is)
    (case k11 => k_is)
    (case a12 => k_is)
    (case l12 => k_is)
    (case c12 => k_is)
    (case k12 => k_is)
    (case z_len => k_is)
    (case z_abs => k_is)
    (case z_int => k_is)
    (case z_bool => k_is)
    (case z_str => k_is)
    (case z_range => k_is)
    (case z_all => k_is)
    (case z_isinstance => k_is)
    (case z_repr => k_is)
    (case z_super => k_is)
    (case z_tuple => k_is)
    (case z_list => k_is)
    (case z_zip => k_is)
    (case z_enumerate => k_is)
    (case z_max => k_is)
    (case z_min => k_is)
    (case g_MOST_PLOTS => k_is)
    (case g_MOST_UNITS => k_is)
    (case g_MOST_MOODS => k_is)
    (case g__MOST_DAYS => k_is)
    (case g_BadNumber => k_is)
    (case x_BadNumber => k_is)
    (case r_BadNumber => first | rfl | decide +kernel)
    (case sa_BadNumber => k_is)
    (case ex_BadNumber => k_is)
    (case ty_BadNumber => k_is)
    (case kp_BadNumber => k_is)
    (case i_BadNumber => k_is)
    (case l_BadNumber => k_is)
    (case cd_BadNumber => k_is)
    (case cf_BadNumber => k_is)
    (case v2_BadNumber => first | rfl | decide +kernel)
    (case fi_BadNumber => first | rfl | decide +kernel)
    (case cl_BadNumber => k_is)
    (case mr_BadNumber => k_is)
    (case sb_BadNumber => k_is)
    (case su_BadNumber => ks_is)
    (case ti_BadNumber => k_is)
    (case ga_BadNumber => k_is)
    (case gg_BadNumber => k_is)
    (case hd_BadNumber => k_is)
    (case ha_BadNumber => k_is)
    (case mo_BadNumber => k_is)
    (case em_BadNumber => k_is)
    (case nw_BadNumber => k_is)
    (case nv_BadNumber => k_is)
    (case nn_BadNumber => k_is)
    (case nt_BadNumber => k_is)
    (case opq => k_is)
    (case htop => first | rfl | decide +kernel)
    (case spc => k_is)
    (case tks => k_is)
    (case g_Day => k_is)
    (case mk_Day => k_is)
    (case kp_Day => k_is)
    (case pg_Day => k_is)
    (case hd_Day => k_is)
    (case po_Day => k_is)
    (case sa_Day => k_is)
    (case ne_Day => k_is)
    (case ob_Day => k_is)
    (case ha_Day => k_is)
    (case hm_Day => k_is)
    (case kk_Day => first | k_is | kit_is)
    (case no_Day_dry => k_is)
    (case no_Day_rain => k_is)
    (case no_Day_fill => k_is)
    (case no_Day_mood => k_is)
    (case i_Day_init => k_is)
    (case fn_Day_init => k_is)
    (case l_Day_init => k_is)
    (case c_Day_init => k_is)
    (case k_Day_init => k_is)
    (case i_Day_eq => k_is)
    (case fn_Day_eq => k_is)
    (case l_Day_eq => k_is)
    (case c_Day_eq => k_is)
    (case k_Day_eq => k_is)
    (case i_Day_add => k_is)
    (case fn_Day_add => k_is)
    (case l_Day_add => k_is)
    (case c_Day_add => k_is)
    (case k_Day_add => k_is)
    (case sf_Day => k_is)
    (case ra_Day => k_is)
    (case ia_Day => k_is)
    (case ib_Day => k_is)
    (case is_Day => k_is)
    (case g_Weather => k_is)
    (case mk_Weather => k_is)
    (case kp_Weather => k_is)
    (case pg_Weather => k_is)
    (case hd_Weather => k_is)
    (case po_Weather => k_is)
    (case sa_Weather => k_is)
    (case ne_Weather => k_is)
    (case ob_Weather => k_is)
    (case ha_Weather => k_is)
    (case hm_Weather => k_is)
    (case kk_Weather => first | k_is | kit_is)
    (case no_Weather_moods => k_is)
    (case no_Weather_width => k_is)
    (case i_Weather_init => k_is)
    (case fn_Weather_init => k_is)
    (case l_Weather_init => k_is)
    (case c_Weather_init => k_is)
    (case k_Weather_init => k_is)
    (case i_Weather_eq => k_is)
    (case fn_Weather_eq => k_is)
    (case l_Weather_eq => k_is)
    (case c_Weather_eq => k_is)
    (case k_Weather_eq => k_is)
    (case i_Weather_len => k_is)
    (case fn_Weather_len => k_is)
    (case l_Weather_len => k_is)
    (case c_Weather_len => k_is)
    (case k_Weather_len => k_is)
    (case i_Weather_get => k_is)
    (case fn_Weather_get => k_is)
    (case l_Weather_get => k_is)
    (case c_Weather_get => k_is)
    (case k_Weather_get => k_is)
    (case fg_Weather => k_is)

