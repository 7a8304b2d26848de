import PyProof.Rows.All
import Wide.All
import OpenK.AllK
import Wide.FinOn
import HandS.ForMost
import HandS.Exc
import HandS.ExcInit
import HandS.Nested
import HandS.WordsExc
import KE.KExcSuper
import HandS.ExcIs
import HandS.ExcField
import HandS.IsInst
import HandS.FStr
import HandS.RaiseMore
import KE.KExcIs
import PyProof.NeKinds
import PyProof.CallStr
import HandS.Text
import PyProof.InstNe
import HandS.SlotsOwn
import HandS.OwnEq
import KE.KCallOwn
import HandS.Zip
import HandS.Walk
import HandS.Star
import PyProof.Rows.FinIter
import KE.KOpsOwn
import OpenK.KMeth
import KE.IntTextLaws
import HandS.Codes
import PySem.Challenge.RW_waterbyturns_k09_days
set_option Elab.async false
set_option linter.all false
set_option maxRecDepth 100000
set_option maxHeartbeats 4000000
namespace Wx
open PySem PySem.Spec PyProof.Rows L2 NdefX
/-! super().__init__(..) in the __init__ of an own exception class whose line goes over own classes to ValueError -/
section
variable {prog : Program} {w : World} {A : Around} {E : Value → Shared → Prop} {hp : Heap} {g : Array GenState} {d : Drawn} {t : Nat} {os : OsState}
theorem mw_called {u x t0 : Addr} {us : List Value} {Q : Value → Shared → Prop} {C N : Addr} {nm q : Str} {bs bm : List Value} {hdct : Bool} {sn : List Str} {sub : List Value} {ab : Bool} {col : Option Bool} {dd : Option Addr} {k0 k1 k2 k3 k5 : Option Value}
    (cC : hp.get? C = some (excClassObj nm q C N bs bm hdct sn sub ab col dd k0 k1 k2 k3 k5 "ValueError.__new__")) (cx : hp.get? x = some (PySem.HandSPX.excO C t0)) (cu : hp.get? u = some (PySem.W.kxs_mw "ValueError.__init__" x)) (hl : us.length ≤ sizeLine)
    (fin : ∀ h' t1, (∀ b o, b ≠ x → hp.get? b = some o → h'.get? b = some o) → h'.get? x = some (PySem.HandSPX.excO C t1) → Q .none ⟨h', g, d, t, os⟩) : wpAny (model prog w) A (call (.ref u) us) Q E ⟨hp, g, d, t, os⟩ := by
  refine wpAny_call (codeAny_of_tree ?_)
  show wpAny _ A.in1 (callAny (Value.ref u) (Args.mk us [])) _ _ _
  unfold callAny
  dsimp only
  refine wpAny_bind (wpAny_load cu ?_)
  have mt : (Value.type "method-wrapper" == Value.type "method" || Value.type "method-wrapper" == Value.type "builtin_function_or_method" || Value.type "method-wrapper" == Value.type "method-wrapper") = true := by decide
  simp only [PySem.W.kxs_mw, mt, if_true]
  refine PySem.W.KFB.if_so (by decide) (wpAny_bind (PySem.W.check_bound_init F.excBase_ValueError.toExcCallFacts cC cx rfl (wpAny_bind (wpAny_pure (wpAny_pure ?_)))))
  refine And.intro (plainId_quiet F.excBase_ValueError.init.plain _) (codeAny_builtin F.excBase_ValueError.initEntry ?_)
  exact PySem.W.exc_init_tree (cls := Value.ref C) (t0 := t0) (dv := Option.none) (c2 := Value.none) (c3 := Value.none) (b4 := Value.bool false) cx hl fun h' k e _ => fin h' _ k e
end
/-- the first statement: super().__init__(e, ..) -/
abbrev stSuper (p0 p1 p2 p3 p4 : Pos) (e : Expr) (es : List Expr) : Stmt := .Expr (.Call (.Attribute (.Call (.Name "super" p0) [] [] p1) "__init__" p2) (e :: es) [] p3) p4
abbrev nfS (name qual : Str) (params : Arguments) (body : List Stmt) (scope : Scope) (cc cda : Addr) : NF := ⟨name, qual, params, body, scope, [("__class__", cc)], cda⟩
/-- what the written part says -/
structure SupTxt (P : Program) (K : PySem.W.Frag) (mg : Str → Option Value) (C cda cc : Addr) (qual : Str) : Prop where
  oex : OexC K C
  code : PySem.W.codeIn K (.ref cda) qual = true
  file : ∃ (ccl : Value) (cdd : Option Addr) (vs : Array Value) (ccs : Array (Option Value)) (fl : Str) (tf : Tok), K.lookup cda = some ⟨ccl, cdd, .fields vs, ccs⟩ ∧ vs[2]? = some (.str fl tf) ∧ ((P.main.file : Str) == fl) = true
  cell : ∃ (cl : Value) (cld : Option Addr) (csl : Array (Option Value)), K.lookup cc = some ⟨cl, cld, .cell (some (.ref C)), csl⟩
  sup : mg "super" = none
  top : (P.main.scope.names.lookup ("super" : Str)).isSome = false
  mro : PySem.W.mroIn K C (.ref C) = some true
  subB : PySem.W.subIn K (.ref C) (.type "ValueError") = some true
  ini : PySem.W.ks_superIn K C C "__init__" = some (some (.builtin "ValueError.__init__"))
  opq : PySem.W.nsIn K cStatics "thirdparty.any" = some none
theorem exo_upd {H : Hp} {a C : Addr} {d : Option Addr} (e : H a = some (exo a C d)) : upd H a (exo a C d) = H := by
  funext b
  by_cases hb : b = a
  · rw [hb, upd_same, e]
  · rw [upd_ne hb]
section
variable {CX : CXT} {P : Program} {w : World} {K : PySem.W.Frag} {mg : Str → Option Value} {base : Heap} {name qual : Str} {params : Arguments} {scope : Scope} {dV kV doc pm ct oc : Value} {an od : Option Addr} {osl : Array (Option Value)} {f cda cc C : Addr}
  {N ps : List Str} {k : Nat} {sp : Sp} {e : Expr} {es : List Expr} {rest : List Stmt} {p0 p1 p2 p3 p4 : Pos} {ar : Arg}
theorem fn_super (lk : K.lookup f = some ⟨oc, od, .func (PySem.W.fnX name qual params (stSuper p0 p1 p2 p3 p4 e es :: rest) scope [("__class__", cc)] dV kV doc pm an (.ref cda) ct), osl⟩)
    (T : SupTxt P K mg C cda cc qual) (S : NScope N ps ["__class__"] scope) (hp : (params.posonlyargs ++ params.args).head? = some ar) (har : N[0]? = some ar.arg) (hal : scope.names.lookup ar.arg = some .local) (hks : scope.names.lookup ("super" : Str) = some .globalImplicit)
    (len : ∀ vs H Q E, sp vs H Q E → vs.length = ps.length)
    (hbody : ∀ (A : Around) (outer : List Env) (s : Shared) (H : Hp) (vs : List V) (Q : VK) (E : XK), Room k (A.deeper (envF (nfS name qual params (stSuper p0 p1 p2 p3 p4 e es :: rest) scope cc cda) f s.heap.objs.size)) → sp vs H Q E →
      ∃ ta tr, PA (ncx CX P w K mg base N (nfS name qual params (stSuper p0 p1 p2 p3 p4 e es :: rest) scope cc cda) f A outer s H E) (e :: es) ta ∧ PSs (ncx CX P w K mg base N (nfS name qual params (stSuper p0 p1 p2 p3 p4 e es :: rest) scope cc cda) f A outer s H E) rest tr ∧ ∃ (a : Addr) (vr : List V), vs = .ref a :: vr ∧ H a = some (exo a C none) ∧
        ta (startF N vs [some (.ref C)]) H fun ws H1 => ws.length ≤ 1000 ∧ H1 a = some (exo a C none) ∧ tr { nx := fun _ H' => Q .non H', rt := Q } (startF N vs [some (.ref C)]) H1)
    (hi : ∀ L : Addr, interactive (envF (nfS name qual params (stSuper p0 p1 p2 p3 p4 e es :: rest) scope cc cda) f L) = false := by intros; rfl)
    (hs : ∀ L : Addr, swapsWith (.Call (.Attribute (.Call (.Name "super" p0) [] [] p1) "__init__" p2) (e :: es) [] p3) none p4.line (envF (nfS name qual params (stSuper p0 p1 p2 p3 p4 e es :: rest) scope cc cda) f L) = pure false := by intros; rfl)
    (he : ∀ L : Addr, starEach (e :: es) (envF (nfS name qual params (stSuper p0 p1 p2 p3 p4 e es :: rest) scope cc cda) f L) = (false, eval e (envF (nfS name qual params (stSuper p0 p1 p2 p3 p4 e es :: rest) scope cc cda) f L)) :: starEach es (envF (nfS name qual params (stSuper p0 p1 p2 p3 p4 e es :: rest) scope cc cda) f L) := by intros; rfl)
    (hpl : ∀ L : Addr, (backTo p3 (starEach es (envF (nfS name qual params (stSuper p0 p1 p2 p3 p4 e es :: rest) scope cc cda) f L))).any (·.1) = false := by intros; rfl)
    (hev : ∀ L : Addr, ∃ pl, eval (.Call (.Attribute (.Call (.Name "super" p0) [] [] p1) "__init__" p2) (e :: es) [] p3) (envF (nfS name qual params (stSuper p0 p1 p2 p3 p4 e es :: rest) scope cc cda) f L) = (do
      let ov ← attributeBase (.Call (.Name "super" p0) [] [] p1) "__init__" (envF (nfS name qual params (stSuper p0 p1 p2 p3 p4 e es :: rest) scope cc cda) f L) (eval (.Call (.Name "super" p0) [] [] p1) (envF (nfS name qual params (stSuper p0 p1 p2 p3 p4 e es :: rest) scope cc cda) f L))
      standAt p2.atName
      let r ← holding [ov] (getMethod ov "__init__" pl)
      callWith p3 r.1 r.2 (backTo p3 (starEach (e :: es) (envF (nfS name qual params (stSuper p0 p1 p2 p3 p4 e es :: rest) scope cc cda) f L))) []) := by intros; exact ⟨_, rfl⟩) :
    FnOk P w K mg base CX (k + 1) f (PySem.W.fnX name qual params (stSuper p0 p1 p2 p3 p4 e es :: rest) scope [("__class__", cc)] dV kV doc pm an (.ref cda) ct) ps sp := by
  obtain ⟨clv, cld, csl, hcell⟩ := T.cell
  obtain ⟨ccl, cdd, vsC, ccs, flC, tfC, hcode, hvsC, hfile⟩ := T.file
  refine ⟨len, fun A outer s H args us vs Q E hr e0 hbind r hsp => ?_⟩
  have hl := len _ _ _ _ hsp
  have KX : K.In s.heap := e0.mod.kin.keeps fun b o z => (e0.bs b o z).1
  have lim : s.heap.NoLimit := e0.mod.nolimit.keeps fun b o z => (e0.bs b o z).1
  let F : NF := (nfS name qual params (stSuper p0 p1 p2 p3 p4 e es :: rest) scope cc cda)
  have Hc : H cc = none := (e0.bs cc _ (e0.mod.kin _ _ hcell)).2
  have CA : CellsAt F.cl ["__class__"] [some (V.ref C)] s.heap H := by
    have key : ∀ y c, F.cl.lookup y = some c → y = "__class__" ∧ c = cc := fun y c z => by
      by_cases q : y = "__class__"
      · subst q
        have z : some cc = some c := by simpa [F, List.lookup] using z
        exact ⟨rfl, (Option.some.inj z).symm⟩
      · have : (y == ("__class__" : Str)) = false := by simpa using q
        simp [F, List.lookup, this] at z
    refine ⟨rfl, fun y c z => ?_, fun x y c z z' => ?_, fun i y z => ?_⟩
    · obtain ⟨_, rfl⟩ := key y c z
      exact ⟨Hc, _, _, KX _ _ hcell, rfl⟩
    · rw [(key x c z).1, (key y c z').1]
    · have hi : i = 0 ∧ y = "__class__" := by
        cases i with
        | zero => exact ⟨rfl, (Option.some.inj z).symm⟩
        | succ i => simp at z
      obtain ⟨rfl, rfl⟩ := hi
      refine ⟨cc, by simp [F, List.lookup], fun v hv => ?_⟩
      have hv : V.ref C = v := Option.some.inj (Option.some.inj hv)
      subst hv
      exact ⟨.ref C, rfl, _, KX _ _ hcell, rfl⟩
  refine PySem.ks_codeAny_call_defAt (fd := PySem.W.fnX name qual params (stSuper p0 p1 p2 p3 p4 e es :: rest) scope [("__class__", cc)] dV kV doc pm an (.ref cda) ct) (body := stSuper p0 p1 p2 p3 p4 e es :: rest) (binds := ps.zip us) hr.depth (KX _ _ lk) rfl lim
    (PySem.W.codeRec_of KX T.code) rfl hbind S.nocell (fun y hy => S.par y.1 (List.of_mem_zip hy).1) (fun h₁ hns kp => ?_) S.co S.gen S.kind
  show PySem.wpAt (model P w) (A.deeper (envF F f s.heap.objs.size)) (.func (stSuper p0 p1 p2 p3 p4 e es :: rest) (envF F f s.heap.objs.size)) (execs (stSuper p0 p1 p2 p3 p4 e es :: rest) (envF F f s.heap.objs.size)) _ _ _
  have I : Inv (ncx CX P w K mg base N F f A outer s H E) [] (startF N vs [some (.ref C)]) H { s with heap := h₁, toks := s.toks + (ps.zip us).length } := inv_startN (F := F) S hr.hd e0 hl r CA hns kp
  obtain ⟨ta, tr, hA, hR, a, vr, rfl, ea, hq⟩ := hbody A outer s H vs Q E (hr.deeper _) hsp
  obtain ⟨nm, qn, Nn, bs, bm, sn, sub, ab, col, dd, k0, k1, k2, k3, k5, hC, hbm⟩ := T.oex.cls
  have hcl : PySem.W.clsIn K C = some { name := nm, bases := bs, mro := .ref C :: bm, ns := Nn, qualname := qn, hasDict := true, slotNames := sn, subclasses := sub, abstract := ab, collection := col, hasDel := false } := by unfold PySem.W.clsIn; rw [hC] <;> rfl
  -- the local that holds the object
  have self : ∀ {s1 : Shared} {H1 : Hp} {pins : List (Addr × Obj)}, Inv (ncx CX P w K mg base N F f A outer s H E) pins (startF N (.ref a :: vr) [some (.ref C)]) H1 s1 → ∃ m, s1.heap.Ns (envF F f s.heap.objs.size).locals m ∧ m ar.arg = some (.ref a) := fun J => by
    obtain ⟨m, hm, hl⟩ := J.loc
    obtain ⟨u, ru, hk⟩ := hl 0 ar.arg (.ref a) har rfl (.inl hal)
    refine ⟨m, hm, ?_⟩
    rcases hk with ⟨_, hk⟩ | ⟨hk, _⟩
    · rw [hk]
      exact congrArg some ru
    · exfalso
      have hk : scope.names.lookup ar.arg = some .cell ∨ scope.names.lookup ar.arg = some .free := hk
      rw [hal] at hk
      rcases hk with z | z <;> cases z
  have fin : ∀ {fl : Flow} {s' : Shared}, SP (ncx CX P w K mg base N F f A outer s H E) [] { nx := fun _ H' => Q .non H', rt := Q } fl s' → CR CX outer P w H s Q E (.ok (.ret (match fl with | .ret v => v | _ => .none))) s' := fun {fl s'} hs' => by
    have out : ∀ {σ' : L2.St} {H' : Hp} {v : V} {u : Value}, Inv (ncx CX P w K mg base N F f A outer s H E) [] σ' H' s' → L2.RelV v u → Q v H' → CE outer P w H s Q u s' := fun {σ' H' v u} J rv q => ⟨v, H', J.os, J.bare, J.base, J.hok, rv, q⟩
    cases fl with
    | ret u =>
      obtain ⟨v, σ', H', J, rv, q⟩ := hs'
      exact out J rv q
    | next =>
      obtain ⟨σ', H', J, q⟩ := hs'
      exact out (v := V.non) (u := Value.none) J rfl q
    | brk =>
      obtain ⟨_, _, _, q⟩ := hs'
      exact q.elim
    | cont =>
      obtain ⟨_, _, _, q⟩ := hs'
      exact q.elim
  obtain ⟨pl, hev⟩ := hev s.heap.objs.size
  refine PySem.ks_wpAt_execs_cons (PySem.ks_wpAt_Expr_any (PySem.ks_wpAt_MethodCall (pl := pl) ?_ hev) (hi _) (hs _))
  · obtain ⟨m, hm, hma⟩ := self I
    obtain ⟨oD, hD1, hD2⟩ : ∃ oD, h₁.get? C = some oD ∧ oD.data = .cls { name := nm, bases := bs, mro := .ref C :: bm, ns := Nn, qualname := qn, hasDict := true, slotNames := sn, subclasses := sub, abstract := ab, collection := col, hasDel := false } := ⟨_, I.kIn _ _ hC, rfl⟩
    refine PySem.ks_wpAt_super_base (env := envF F f s.heap.objs.size) hks (S.frk _ (by simp)) rfl rfl (I.kIn _ _ lk) rfl hp rfl (I.kIn _ _ hcode) rfl hvsC hfile T.top ?_
    obtain ⟨mb, hb1, hb2⟩ := I.mod.blt
    refine PySem.W.ks_loadName_global S.kind hks (Calls.loadGlobal_builtin (I.mod.glob.keeps I.bk) T.sup (hb1.keeps I.bk) ((hb2 "super" (by decide)).trans (by decide +kernel : bootBuiltins "super" = some (.type "super"))) ⟨rfl, ?_⟩)
    refine wpAny_loadName_free S.kind (S.frk _ (by simp)) rfl ⟨_, I.kIn _ _ hcell, rfl⟩ ?_
    refine wpAny_loadName_local S.kind hal hm hma ?_
    refine PySem.ks_wpAny_isType_cls hD1 hD2 ⟨rfl, ?_⟩
    obtain ⟨t1, ho⟩ := exo_at I.hok ea
    have IA : PySem.W.InstAt h₁ a { cls := .ref C, dict := none, data := .fields #[.ref t1, .none, .none, .none, .bool false, .none] } C none := ⟨ho, rfl, rfl, trivial⟩
    refine PySem.ks_wpAny_call_super hD1 hD2 ho rfl (fun c z => by cases z) (PySem.W.looks_mroIn I.kIn T.mro) (fun h2 e2 k2 => ?_)
    have J2 : Inv (ncx CX P w K mg base N F f A outer s H E) [] (startF N (.ref a :: vr) [some (.ref C)]) H { s with heap := h2, toks := s.toks + (ps.zip us).length } := I.kept k2
    have ni : PySem.W.alongIn K "__init__" (((Value.ref C :: bm).dropWhile (· != .ref C)).drop 1) = some (some (.builtin "ValueError.__init__")) := by
      have z := T.ini
      unfold PySem.W.ks_superIn at z
      rw [hcl] at z
      exact z
    have ho2 := k2 _ _ ho
    have hI : PySem.W.Looks (model P w) h2 (isInstance (.ref a) (.type "ValueError")) true := (show PySem.W.InstAt h2 a _ C none from ⟨ho2, rfl, rfl, trivial⟩).type.andThen (PySem.W.looks_subIn J2.kIn T.subB)
    refine PySem.W.kxs_getMethod PySem.W.kxs_ValueError e2 (PySem.W.looks_opaque J2.kIn T.opq) ((PySem.W.looks_clsIn J2.kIn hcl).andThen .now) rfl J2.kIn ni hI (PySem.W.ks_ne I.kIn IA hcl) (by decide) ?_
    have J3 : Inv (ncx CX P w K mg base N F f A outer s H E) [] (startF N (.ref a :: vr) [some (.ref C)]) H { s with heap := h2.push (PySem.W.kxs_mw "ValueError.__init__" a), toks := s.toks + (ps.zip us).length + 1 } := J2.kept fun b o z => Heap.get?_push_of_some _ z
    have hmw : (h2.push (PySem.W.kxs_mw "ValueError.__init__" a)).get? h2.objs.size = some (PySem.W.kxs_mw "ValueError.__init__" a) := Heap.get?_push_at rfl rfl
    have J4 : Inv (ncx CX P w K mg base N F f A outer s H E) [(h2.objs.size, PySem.W.kxs_mw "ValueError.__init__" a)] (startF N (.ref a :: vr) [some (.ref C)]) H { s with heap := h2.push (PySem.W.kxs_mw "ValueError.__init__" a), toks := s.toks + (ps.zip us).length + 1 } := by
      refine ⟨J3.ok, J3.os, J3.bare, J3.base, J3.loc, J3.cell, J3.free, J3.freeC, fun p hp => ?_, J3.hok, J3.len⟩
      have hp : p = (h2.objs.size, PySem.W.kxs_mw "ValueError.__init__" a) := by
        have z : p ∈ ([] : List (Addr × Obj)) ++ [(h2.objs.size, PySem.W.kxs_mw "ValueError.__init__" a)] := hp
        simpa using z
      subst hp
      refine ⟨hmw, J2.hok.fresh (Nat.le_refl _), fun z => absurd J2.lt ?_, fun z => ?_, fun v z => by cases z⟩
      · rw [← z]
        exact Nat.lt_irrefl _
      · obtain ⟨_, o1, ho1, _⟩ := J2.ok.funs.mem z
        obtain ⟨o2, ho2'⟩ := J2.base.there _ _ ho1 (fun y => absurd (show _ ∈ ([] : List Addr) from y) (by simp))
        exact absurd (Heap.lt_size ho2') (Nat.lt_irrefl _)
    rw [he s.heap.objs.size]
    refine PySem.W.kxs_callWith (i := "ValueError.__init__") (x := a) (by show (false || (backTo p3 (starEach es (envF F f s.heap.objs.size))).any fun y => y.1) = false; rw [hpl s.heap.objs.size]; rfl) ?_
    refine Calls.evalArgs_plain ?_
    have run := hA.run p3 _ _ _ _ _ J4 hq
    rw [show starEach (e :: es) (ncx CX P w K mg base N F f A outer s H E).env = _ from he s.heap.objs.size] at run
    refine thn run fun us4 s4 hap => ?_
    obtain ⟨ws, H4, I4, r4, hw, ea4, tr4⟩ := hap
    obtain ⟨cu4, _⟩ := I4.pin _ (List.mem_append_right _ List.mem_cons_self)
    refine ⟨cu4, ?_⟩
    obtain ⟨t4, ho4⟩ := exo_at I4.hok ea4
    have hlen4 : us4.length ≤ sizeLine := by
      rw [← Paired.length r4]
      exact Nat.le_of_lt (small1000 hw)
    obtain ⟨h4, g4, d4, tk4, os4⟩ := s4
    refine mw_called (I4.kIn _ _ hC) ho4 cu4 hlen4 fun h5 t5 k5 e5 => ?_
    have I5 := I4.write (t' := tk4) (x := a) (e := a) (o := exo a C none) (by rw [ea4]; exact True.intro) (.inl rfl) k5 ⟨_, e5⟩ (exo_ok e5)
    rw [exo_upd ea4] at I5
    have I6 : Inv (ncx CX P w K mg base N F f A outer s H E) [] (startF N (.ref a :: vr) [some (.ref C)]) H4 ⟨h5, g4, d4, tk4, os4⟩ := ⟨I5.ok, I5.os, I5.bare, I5.base, I5.loc, I5.cell, I5.free, I5.freeC, fun p hp => absurd (show p ∈ ([] : List (Addr × Obj)) ++ [] from hp) (by simp), I5.hok, I5.len⟩
    exact wpAt_of_wpAny (wpAny_mono (hR.run [] _ _ _ _ I6 tr4) (fun fl s' z => fin z) fun _ _ z => z)
end
end Wx

namespace Wx
open PySem PySem.Spec PyProof.Rows L2
/-! a caught exception that is kept behind its except suite -/
/-- at a: an exception of the class cls, its dict d -/
def exv (cls : Value) (d : Option Addr) (a : Addr) : HO := .ext fun h => ∃ (oe : Obj) (vs : Array Value), h.get? a = some oe ∧ Zc cls d oe ∧ oe.data = .fields vs
theorem exv_ok {P : Program} {w : World} {H : Hp} {h : Heap} {a : Addr} {cls : Value} {d : Option Addr} {oe : Obj} {vs : Array Value} (e : h.get? a = some oe) (z : Zc cls d oe) (q : oe.data = .fields vs) : ObjOk P w H h a (exv cls d a) :=
  ⟨⟨oe, vs, e, z, q⟩, ⟨oe, e⟩, fun _ _ ⟨o, v, x, y⟩ k => ⟨o, v, k o x, y⟩⟩
theorem exv_at {P : Program} {w : World} {H : Hp} {h : Heap} {a : Addr} {cls : Value} {d : Option Addr} (x : HOk P w H h) (e : H a = some (exv cls d a)) : ∃ (oe : Obj) (vs : Array Value), h.get? a = some oe ∧ Zc cls d oe ∧ oe.data = .fields vs := by
  have y : ObjOk P w H h a (.ext fun h => ∃ (oe : Obj) (vs : Array Value), h.get? a = some oe ∧ Zc cls d oe ∧ oe.data = .fields vs) := x a _ e
  exact y.1
section
variable {X : Cx} {pins : List (Addr × Obj)} {σ : L2.St} {H : Hp} {s : Shared}
theorem tracked {a : Addr} {oe : Obj} {vs : Array Value} {cls : Value} {d : Option Addr} (J : Inv X ((a, oe) :: pins) σ H s) (n0 : X.s_0.heap.get? a = none) (np : ∀ p, p ∈ X.pn ++ pins → p.1 ≠ a) (hz : Zc cls d oe) (hd : oe.data = .fields vs) :
    Inv X pins σ (upd H a (exv cls d a)) s := by
  obtain ⟨ga, na, nL, nF, nc⟩ := J.pin (a, oe) (List.mem_append_right _ List.mem_cons_self)
  have ga : s.heap.get? a = some oe := ga
  have na : H a = none := na
  have neS : ∀ {b : Addr} {o : HO}, H b = some o → b ≠ a := fun e => ne_of_none e na
  have ne0 : ∀ {b : Addr} {o : Obj}, X.s_0.heap.get? b = some o → b ≠ a := fun {b o} e z => by
    rw [z, n0] at e
    cases e
  refine ⟨J.ok, J.os, J.bare, ⟨J.base.keep, J.base.slot, fun b o e n x => ?_, J.base.there, fun b xs e => ?_, fun b o u e => ?_, fun b ps e => ?_⟩, J.loc, J.cell, ?_, fun y c e => ?_, fun p hp => ?_, fun b u e => ?_, J.len⟩
  · rw [upd_ne (ne0 e)]
    exact J.base.free b o e n x
  · have q := J.base.tups b xs e
    rw [upd_ne (neS q)]
    exact q
  · have q := J.base.frzs b o u e
    rw [upd_ne (neS q)]
    exact q
  · obtain ⟨ms, q⟩ := J.base.tbls b ps e
    exact ⟨ms, by rw [upd_ne (neS q)]; exact q⟩
  · rw [upd_ne (fun z => nL z.symm)]
    exact J.free
  · have nca : c ≠ a := fun z => by
      obtain ⟨v, o, q1, q2⟩ := J.cell y c e
      rw [z, ga] at q1
      cases q1
      exact nc _ q2
    rw [upd_ne nca]
    exact J.freeC y c e
  · have hm : p ∈ X.pn ++ (a, oe) :: pins := by
      rcases List.mem_append.mp hp with z | z
      · exact List.mem_append_left _ z
      · exact List.mem_append_right _ (List.mem_cons_of_mem _ z)
    obtain ⟨q1, q2, q3, q4, q5⟩ := J.pin p hm
    exact ⟨q1, by rw [upd_ne (np p hp)]; exact q2, q3, q4, q5⟩
  · by_cases hb : b = a
    · subst hb
      rw [upd_same] at e
      cases e
      exact exv_ok ga hz hd
    · rw [upd_ne hb] at e
      exact (J.hok b u e).stay (fun _ _ _ q => q) (fun c q => by rw [upd_ne (neS q)]; exact q) fun c xs q => by rw [upd_ne (neS q)]; exact q
end
/-- what 'except x as n: ..' wishes, the exception kept: slot i is n's -/
def wKeep (K : PySem.W.Frag) (c : Value) (i : Nat) (ts : Addr → Value → Option Addr → TS) (Wout : WX) (D : Ends) : WX := fun cls d σ H =>
  ∃ b, PySem.W.exmOne K cls c = some b ∧ (b = true → ∀ a, H a = none → ts a cls d { nx := fun σ1 H1 => D.nx (σ1.set i none) (upd H1 a (exv cls d a)), rt := fun v H1 => D.rt v (upd H1 a (exv cls d a)), bk := fun σ1 H1 => D.bk (σ1.set i none) (upd H1 a (exv cls d a)), ct := fun σ1 H1 => D.ct (σ1.set i none) (upd H1 a (exv cls d a)) } (σ.set i (some (.ref a))) H) ∧
    (b = false → Wout cls d σ H)
section
variable {X : Cx} {x n : Str} {c : Value} {i : Nat} {body suite : List Stmt} {b₀ : Stmt} {np pos pos' : Pos} {tb : WX → TS} {ts : Addr → Value → Option Addr → TS} {Wout : WX}
theorem ps_try_keep (hex : X.ex = []) (stk : X.stack = X.env :: X.outer) (frm : X.env.frame = some X.env.locals) (nd : X.N.Nodup) (atI : X.N[i]? = some n) (lcl : X.env.kindOf n = some .local) (nms : Names X x c) (tko : Takes X Wout)
    (hbody : ∀ (W : WX) (pn : List (Addr × Obj)) (xe : Value → Shared → Prop), Takes (X.tr pn xe) W → PassesOwn (model X.prog X.w) X.A X.env xe → PSs (X.tr pn xe) body (tb W))
    (hsuite : ∀ (a : Addr) (oe : Obj) (cls : Value) (d : Option Addr) (pn : List (Addr × Obj)), Zc cls d oe → (∃ vs, oe.data = .fields vs) → PSs (X.suite a ((a, oe) :: pn)) (b₀ :: suite) (ts a cls d)) :
    PS X (.Try body [.ExceptHandler (some (.Name x np)) (some n) (b₀ :: suite) pos'] [] [] pos) (fun D σ H => tb (wKeep X.K c i ts Wout D) D σ H) := by
  refine ⟨fun pins s σ H D I0 rd => ?_⟩
  have okX := I0.ok
  have frA : X.A.frames = some (X.env :: X.outer) := okX.frames.trans (congrArg some stk)
  have locN : Loc X.env.scope n := Or.inl lcl
  refine wpAny_Try_except (wpAny_mono ((hbody (wKeep X.K c i ts Wout D) (X.pn ++ pins) (fun e s₁ => wpAny (model X.prog X.w) X.A (noteFrame e X.env) (fun _ s₂ => wpAny (model X.prog X.w) X.A (setFlight e none) (fun _ s₃ =>
      wpAny (model X.prog X.w) X.A (handleBy e X.env [.ExceptHandler (some (.Name x np)) (some n) (b₀ :: suite) pos']) (SP X pins D) X.xe s₃) X.xe s₂) X.xe s₁) (fun u s' caught => ?_) PassesOwn.looking).run [] s σ H D (I0.toTry _) rd) (fun fl s1 done => ?_) (fun _ _ z => z))
  · obtain ⟨a, B, sI, pinsT, σT, HT, cls, d, rfl, JT, nb, upT, skyT, naT, osT, agT, b, hcl, hyes, hno⟩ := caught
    have JX : Inv X pins σT HT sI := Inv.ofTry JT okX
    have skyX : Sky B (X.env :: X.outer) a (Zc cls d) X.env.locals s'.heap := stk ▸ skyT
    show wpAny _ X.A (noteFrame (Value.ref a) X.env) _ _ _
    refine Sky.land Zc.steady frA frm skyX (fun hq flq upq => ?_)
    have Jq : Inv X pins σT HT { s' with heap := hq } := JX.landed nb flq.1 (upT.trans upq) osT agT
    obtain ⟨oeq, vsq, heq, hzq, hdq⟩ := flq.there
    have nfr : a ∉ frs (X.env :: X.outer) := fun hm => by
      obtain ⟨_, o', e', nf'⟩ := flq.2.2.1.mem hm
      have z := heq.symm.trans e'
      cases z
      exact nf' _ hdq
    have nLoc : a ≠ X.env.locals := fun z => nfr (List.mem_filterMap.mpr ⟨X.env, List.mem_cons_self, frm.trans (congrArg some z.symm)⟩)
    have nOut : a ∉ X.fs := fun hm => by
      obtain ⟨ev, hev, qv⟩ := List.mem_filterMap.mp hm
      exact nfr (List.mem_filterMap.mpr ⟨ev, List.mem_cons_of_mem _ hev, qv⟩)
    -- the exception is younger than the frame
    have sInone : sI.heap.get? a = none := by
      cases z : sI.heap.get? a with
      | none => rfl
      | some o =>
        have Bn : B.get? a = none := by
          rcases skyX with ⟨_, q, _⟩ | q | q
          · exact q
          · exact q.2.1
          · exact q.2.1
        have y := nb a o z (fun hm => nfr (by rw [← stk]; exact hm))
        rw [Bn] at y
        cases y
    have s0none : X.s_0.heap.get? a = none := by
      cases z : X.s_0.heap.get? a with
      | none => rfl
      | some o =>
        obtain ⟨o2, y⟩ := JX.base.there a o z (by rw [hex]; simp)
        rw [sInone] at y
        cases y
    have pinNe : ∀ p, p ∈ X.pn ++ pins → p.1 ≠ a := fun p hp z => by
      have y := (JX.pin p hp).1
      rw [z, sInone] at y
      cases y
    have Sq := Jq.suite heq hdq naT nLoc nOut
    refine wpAny_handleBy_cons (codeAny_handlers_test ?_) (by rintro ⟨⟩)
    have LTy : PySem.W.Looks (model X.prog X.w) hq (typeOf (.ref a)) cls := fun A Q E s k q => wpAny_typeOf_ref (k _ _ heq) (hzq.1 ▸ q)
    have LEx := PySem.W.exm_one (M := model X.prog X.w) Jq.kIn LTy hcl
    have tst : ∀ {Q : Value → Shared → Prop} {E : Value → Shared → Prop}, Q c { s' with heap := hq } → wpAny (model X.prog X.w) (X.A.mark (some (.ref a))) (eval (.Name x np) X.env) Q E { s' with heap := hq } := fun {Q E} q => by
      obtain ⟨g1, g2, g3 | ⟨g3, g4, g5⟩⟩ := nms
      · exact ld_glob (X := X.suite a ((a, oeq) :: (X.pn ++ pins))) Sq g1 g3 q g2
      · exact ld_blt (X := X.suite a ((a, oeq) :: (X.pn ++ pins))) Sq g1 g3 g4 q g5 g2
    refine tst (LEx.here ?_)
    cases b with
    | true =>
      refine codeAny_handlers_suite_as (HandSPX.lands_againZ flq fun hr flr upr => ?_)
      have Jr : Inv X pins σT HT { s' with heap := hr } := JX.landed nb flr.1 ((upT.trans upq).trans upr) osT agT
      obtain ⟨oer, vsr, her, hzr, hdr⟩ := flr.there
      have Sr := Jr.suite her hdr naT nLoc nOut
      refine store_ok (X := X.suite a ((a, oer) :: (X.pn ++ pins))) (v := V.ref a) Sr nd atI locN rfl (fun s5 S5 => ?_) (Or.inr lcl)
      refine wpAny_mono ((hsuite a oer cls d (X.pn ++ pins) hzr ⟨_, hdr⟩).run [] s5 _ HT _ S5 (hyes rfl a naT)) (fun fl s6 out => ?_) (fun _ _ z => z.elim)
      have leave : ∀ {σ6 : L2.St} {H6 : Hp} {Q : Shared → Prop}, Inv (X.suite a ((a, oer) :: (X.pn ++ pins))) [] σ6 H6 s6 → (∀ s7, Inv X pins (σ6.set i none) (upd H6 a (exv cls d a)) s7 → Q s7) →
          wpAny (model X.prog X.w) X.A (do bindName X.env n .none; unbindBehindTheSuite X.env n pos') (fun _ s7 => Q s7) X.xe s6 := fun {σ6 H6 Q} S6 hQ => by
        have S7 : Inv X ((a, oer) :: pins) σ6 H6 s6 := ⟨okX, S6.os, S6.bare, S6.base, S6.loc, S6.cell, S6.free, S6.freeC, fun p hp => S6.pin p (by
          rw [List.append_nil]
          rcases List.mem_append.mp hp with z | z
          · exact List.mem_cons_of_mem _ (List.mem_append_left _ z)
          · rcases List.mem_cons.mp z with y | y
            · rw [y]
              exact List.mem_cons_self
            · exact List.mem_cons_of_mem _ (List.mem_append_right _ y)), S6.hok, S6.len⟩
        exact gone_ok S7 nd atI lcl fun s7 J7 => hQ s7 (tracked J7 s0none pinNe hzr hdr)
      cases fl with
      | next =>
        obtain ⟨σ6, H6, S6, q6⟩ := out
        exact leave S6 fun s7 J7 => ⟨_, _, J7, q6⟩
      | brk =>
        obtain ⟨σ6, H6, S6, q6⟩ := out
        exact leave S6 fun s7 J7 => ⟨_, _, J7, q6⟩
      | cont =>
        obtain ⟨σ6, H6, S6, q6⟩ := out
        exact leave S6 fun s7 J7 => ⟨_, _, J7, q6⟩
      | ret u =>
        obtain ⟨v6, σ6, H6, S6, r6, q6⟩ := out
        exact leave S6 fun s7 J7 => ⟨_, _, _, J7, r6, q6⟩
    | false =>
      show wpAny _ X.A (handleBy (Value.ref a) X.env []) _ _ _
      refine wpAny_handleBy_nil ?_
      obtain ⟨z1, z2, z3, oe, vs, T1, oT1, tsT, he, hz, hd, h1, hr1⟩ := id flq
      unfold PySem.passOn
      refine wpAny_bind (wpAny_field he hd h1 ?_)
      rw [if_neg (show ¬ ((Value.ref T1 == Value.none) = true) by simp)]
      have fin : wpAny (model X.prog X.w) X.A (setFlight (.ref a) X.env.frame) (fun _ s4 => wpAny (model X.prog X.w) X.A (throw (.ref a) : Sem Flow) (SP X pins D) X.xe s4) X.xe { s' with heap := hq } := by
        rw [frm]
        exact HandSPX.setFlight_upZ flq fun h4 hh4 up4 => wpAny_throw (tko _ _ ⟨a, B, sI, pins, σT, HT, cls, d, rfl, JX, nb, (upT.trans upq).trans up4, .inr (.inr (by rw [stk]; exact hh4)), naT, osT, agT, hno rfl⟩)
      first
        | exact wpAny_bind (wpAny_pure (wpAny_bind fin))
        | exact wpAny_bind fin
  · cases fl with
    | next =>
      obtain ⟨σ1, H1, J1, q1⟩ := done
      exact wpAny_execs_nil ⟨σ1, H1, J1.ofTry okX, q1⟩
    | brk =>
      obtain ⟨σ1, H1, J1, q1⟩ := done
      exact ⟨σ1, H1, J1.ofTry okX, q1⟩
    | cont =>
      obtain ⟨σ1, H1, J1, q1⟩ := done
      exact ⟨σ1, H1, J1.ofTry okX, q1⟩
    | ret u =>
      obtain ⟨v1, σ1, H1, J1, r1, q1⟩ := done
      exact ⟨v1, σ1, H1, J1.ofTry okX, r1, q1⟩
end
end Wx

namespace Wx
open PySem PySem.Spec PyProof.Rows L2 NdefX
section
variable {X : Cx}
/-- e.n, e a kept exception of an own class -/
def tEv (K : PySem.W.Frag) (n : Str) (te : TE) : TE := fun σ H Q => te σ H fun x H1 => ∃ (a C dd : Addr) (fs : List (Str × V)) (v : V), x = .ref a ∧ XfC K C ∧ PySem.W.findIn K (.ref C) n = some none ∧ H1 a = some (exv (.ref C) (some dd) a) ∧ H1 dd = some (.xd fs) ∧ fs.lookup n = some v ∧ Q v H1
theorem pe_ev {e : Expr} {te : TE} {pos : Pos} {n : Str} (he : PE X e te) (hb : attributeBase e n X.env (eval e X.env) = eval e X.env := by rfl) : PE X (.Attribute e n pos) (tEv X.K n te) := by
  refine ⟨fun pins s σ H Q I h => attr_of hb (thn (he.run pins s σ H _ I h) fun u s1 got => ?_)⟩
  obtain ⟨x, H1, I1, rx, a, C, dd, fs, v, ex, T, hno, ea, ed, hl, q⟩ := got
  subst ex
  obtain rfl : u = Value.ref a := rx
  obtain ⟨oe, vs, ga, hz, hd⟩ := exv_at I1.hok ea
  obtain ⟨mA, hns, hr⟩ : ObjOk X.prog X.w H1 s1.heap dd (.xd fs) := I1.hok dd _ ed
  obtain ⟨od, ho, hlk⟩ := lookIn_ns hns
  obtain ⟨u, hu, ru⟩ := RelO.some_of (v := v) (o := mA n) (by rw [← hl]; exact hr n)
  have inst : PySem.W.InstAt s1.heap a oe C (some od) := ⟨ga, hz.1, by unfold PySem.W.notCls; rw [hd] <;> rfl, by rw [hz.2]; exact ho⟩
  exact HandSPX.exc_get I1.kIn inst T.ga T.gg T.exC (PySem.W.findObj_own T.hdC hno rfl (by rw [hlk, hu])) (handed_of ru) ⟨v, H1, I1.tok _, ru, q⟩
/-- isinstance(e, c), e a kept exception of an own class -/
def rIsX (K : PySem.W.Frag) : List V → Hp → VK → Prop := fun xs H Q => ∃ (a C : Addr) (d : Option Addr) (c : V) (u : Value) (b : Bool), xs = [.ref a, c] ∧ ClsV c u ∧ ExcC K C ∧ H a = some (exv (.ref C) d a) ∧ (∀ dd, d = some dd → ∃ fs, H dd = some (.xd fs)) ∧ PySem.W.kitOne K (.ref C) u = some b ∧ Q (.bl b) H
theorem call_isX : CallR X (.builtin "isinstance") (rIsX X.K) := by
  intro pins s σ H xs us Q I r h
  obtain ⟨a, C, d, c, u, b, rfl, hc, T, ea, hd, hk, q⟩ := h
  cases r with
  | cons r1 r2 =>
    cases r2 with
    | cons r3 r4 =>
      cases r4
      cases r1
      have eu := hc.eq r3
      subst eu
      obtain ⟨oe, vs, ga, hz, hf⟩ := exv_at I.hok ea
      have inst : ∃ od, PySem.W.InstAt s.heap a oe C od := by
        cases d with
        | none => exact ⟨none, ga, hz.1, by unfold PySem.W.notCls; rw [hf] <;> rfl, by rw [hz.2]; trivial⟩
        | some dd =>
          obtain ⟨fs, ed⟩ := hd dd rfl
          obtain ⟨mA, hns, _⟩ : ObjOk X.prog X.w H s.heap dd (.xd fs) := I.hok dd _ ed
          obtain ⟨od, ho, _⟩ := lookIn_ns hns
          exact ⟨some od, ga, hz.1, by unfold PySem.W.notCls; rw [hf] <;> rfl, by rw [hz.2]; exact ho⟩
      obtain ⟨od, inst⟩ := inst
      have hcl : (PySem.W.clsIn X.K C).isSome = true := by
        obtain ⟨cd, hcd, _⟩ := PySem.W.any_some T.hd
        rw [hcd]
        rfl
      exact PySem.W.kia_one (PySem.W.kitx_exc hcl T.hg T.hk T.hs T.ha T.hn T.ht T.hm) I.kIn inst hk (fun z => nomatch z) fun tk => ⟨.bl b, H, I.kept (t' := tk) fun _ _ z => z, rfl, q⟩
theorem call_repr_str : CallR X (.builtin "repr") (fun xs H Q => ∃ z, xs = [.str z] ∧ (reprText z).length ≤ sizeLine ∧ Q (.str (reprText z)) H) := by
  intro pins s σ H xs us Q I r h
  obtain ⟨z, rfl, hz, q⟩ := h
  obtain ⟨u, rfl, t, rfl⟩ := vals1 r
  exact PySem.P.repr_of_str ⟨.str (reprText z), H, I.tok _, ⟨_, rfl⟩, q⟩ hz
end
/-! ### what the errors' modules promise -/
/-- a value that a message can show -/
def ShowOk (x : V) : Prop := (∃ z, x = .str z ∧ (reprText z).length ≤ 20000) ∨ (∃ i, x = .int i) ∨ x = .non ∨ ∃ b, x = .bl b
def sp_shown : Sp := fun vs H Q _ => ∃ x, vs = [x] ∧ ShowOk x ∧ ∀ y : Str, y.length ≤ 20000 → Q (.str y) H
/-- __init__ of an own error: the object at a gets a dict of these fields -/
def InitLeaves (H : Hp) (a C : Addr) (fs : List (Str × V)) (Q : VK) : Prop := ∀ (dx : Addr) (H' : Hp), H dx = none → (∀ b o, b ≠ a → H b = some o → H' b = some o) → H' a = some (exo a C (some dx)) → H' dx = some (exd dx fs) → Q .non H'
def spBadNumber (C : Addr) : Sp := fun vs H Q _ => ∃ (a : Addr) (z : Str) (v : V), vs = [.ref a, .str z, v] ∧ H a = some (exo a C none) ∧ z.length ≤ 1000 ∧ ShowOk v ∧ InitLeaves H a C [("value", v), ("what", .str z)] Q
def spBadName (C : Addr) : Sp := fun vs H Q _ => ∃ (a : Addr) (v : V), vs = [.ref a, v] ∧ H a = some (exo a C none) ∧ ShowOk v ∧ InitLeaves H a C [("name", v)] Q
/-- all that is asked of an own error class -/
structure ErrC (P : Program) (K : PySem.W.Frag) (mg : Str → Option Value) (x qual : Str) (C f cda cc : Addr) : Prop where
  g : mg x = some (.ref C)
  sup : SupTxt P K mg C cda cc qual
  ini : PySem.W.findIn K (.ref C) "__init__" = some (some (.ref f))
  tyI : PySem.W.typeIn K (.ref f) = some (.type "function")
  xf : XfC K C
  isx : ExcC K C
  exm : PySem.W.exmOne K (.ref C) (.ref C) = some true
  noWhat : PySem.W.findIn K (.ref C) "what" = some none
  noValue : PySem.W.findIn K (.ref C) "value" = some none
  noName : PySem.W.findIn K (.ref C) "name" = some none
  noTurn : PySem.W.findIn K (.ref C) "turn" = some none
theorem init_leaves2 {H : Hp} {a C : Addr} {f1 f2 : Str} {v1 v2 : V} {Q : VK} (ha : H a = some (exo a C none)) (k : InitLeaves H a C [(f2, v2), (f1, v1)] Q) {dx : Addr} (nd : H dx = none) (ne : dx ≠ a) :
    Q .non (upd (upd (upd H dx (exd dx [(f1, v1)])) a (exo a C (some dx))) dx (exd dx [(f2, v2), (f1, v1)])) := by
  refine k dx _ nd (fun b o nb e => ?_) ?_ upd_same
  · have nbd : b ≠ dx := ne_of_none e nd
    rw [upd_ne nbd, upd_ne nb, upd_ne nbd]
    exact e
  · rw [upd_ne (Ne.symm ne)]
    exact upd_same
theorem init_leaves1 {H : Hp} {a C : Addr} {f1 : Str} {v1 : V} {Q : VK} (k : InitLeaves H a C [(f1, v1)] Q) {dx : Addr} (nd : H dx = none) (ne : dx ≠ a) : Q .non (upd (upd H dx (exd dx [(f1, v1)])) a (exo a C (some dx))) := by
  refine k dx _ nd (fun b o nb e => ?_) upd_same ?_
  · rw [upd_ne nb, upd_ne (ne_of_none e nd)]
    exact e
  · rw [upd_ne ne]
    exact upd_same
/-- C(..) made: its promise by what __init__ leaves; the exception itself goes, its dict stays -/
theorem made_of {H1 : Hp} {a C : Addr} {fs : List (Str × V)} {Q : XK} (na : H1 a = none) (k : ∀ (d : Addr) (H' : Hp), H1 d = none → Same H1 H' → H' d = some (.xd fs) → Q (.ref C) (some d) H') :
    InitLeaves (upd H1 a (exo a C none)) a C fs (fun v H2 => v = .non ∧ ∃ (d : Addr) (gs : List (Str × V)), H2 a = some (exo a C (some d)) ∧ H2 d = some (exd d gs) ∧ H1 d = none ∧ Q (.ref C) (some d) (upd (del H2 a) d (.xd gs))) := fun dx H' nd keep ha hd => by
  have nda : dx ≠ a := fun z => by
    rw [z, upd_same] at nd
    cases nd
  have nd1 : H1 dx = none := by
    rw [upd_ne nda] at nd
    exact nd
  refine ⟨rfl, dx, fs, ha, hd, nd1, k dx _ nd1 (fun b o e => ?_) upd_same⟩
  have nba : b ≠ a := ne_of_none e na
  rw [upd_ne (ne_of_none e nd1), del_ne nba]
  exact keep b o nba (by rw [upd_ne nba]; exact e)
end Wx

namespace Wx
open PySem PySem.Spec PyProof.Rows L2 NdefX
theorem gives_lt_ib (p : Bool) (b : Int) (u : Tok) : Gives (Builtin.«int.__lt__» ⟨[.bool p, .int b u], []⟩) (.val (Value.bool (decide ((if p = true then (1 : Int) else 0) < b)))) :=
  .of_wp fun M A E s Q h => by obtain ⟨hp, g, d, tk, os⟩ := s; wp_walk; exact ⟨_, rfl, h⟩
theorem gives_gt_ib (p : Bool) (b : Int) (u : Tok) : Gives (Builtin.«int.__gt__» ⟨[.bool p, .int b u], []⟩) (.val (Value.bool (decide ((if p = true then (1 : Int) else 0) > b)))) :=
  .of_wp fun M A E s Q h => by obtain ⟨hp, g, d, tk, os⟩ := s; wp_walk; exact ⟨_, rfl, h⟩
section
variable {prog : Program} {w : World} {A : Around} {E : Value → Shared → Prop} {s : Shared}
theorem lt_bool_int {p : Bool} {b : Int} {u : Tok} {Q : Value → Shared → Prop} (h : Q (.bool (decide (PyProof.Rows.b2i p < b))) s) : wpAny (model prog w) A (compareOp .Lt (.bool p) (.int b u)) Q E s := by
  show wpAny _ A (richCompare .Lt _ _) Q E s
  exact PySem.SeqAt.rc_left_or rfl (typeIs_int s b u) (by decide) F.sub_int_bool F.slot_bool_lt
    (call_gives F.slot_bool_lt rfl F.entry_int_lt (F.args_int_lt_2 _ _) (gives_lt_ib p b u) ⟨nofun, h⟩) (.inl rfl)
theorem lt_int_bool {p : Bool} {a : Int} {t : Tok} {Q : Value → Shared → Prop} (h : Q (.bool (decide (a < PyProof.Rows.b2i p))) s) : wpAny (model prog w) A (compareOp .Lt (.int a t) (.bool p)) Q E s := by
  show wpAny _ A (richCompare .Lt _ _) Q E s
  exact PySem.SeqAt.rc_sub_first_or (typeIs_int s a t) rfl (by decide) F.sub_bool_int F.slot_bool_gt
    (call_gives F.slot_bool_gt rfl F.entry_int_gt (F.args_int_gt_2 _ _) (gives_gt_ib p a t) ⟨nofun, h⟩) (.inl rfl)
end
def nV : V → Option Int | .int i => some i | .bl b => some (if b = true then 1 else 0) | _ => none
section
variable {X : Cx}
theorem op_ltM : OpR X (compareOp .Lt) (fun x y H Q => ∃ i j, nV x = some i ∧ nV y = some j ∧ Q (.bl (decide (i < j))) H) := by
  intro pins s σ H x y v u Q I rx ry h
  obtain ⟨i, j, hx, hy, q⟩ := h
  cases x with
  | int a =>
    obtain rfl : a = i := Option.some.inj hx
    obtain ⟨t, rfl⟩ := rx
    cases y with
    | int b =>
      obtain rfl : b = j := Option.some.inj hy
      obtain ⟨t', rfl⟩ := ry
      exact PyProof.Rows.lt_int (fin_bl I q rfl)
    | bl b =>
      obtain rfl : (if b = true then 1 else 0) = j := Option.some.inj hy
      cases ry
      exact lt_int_bool (fin_bl I q rfl)
    | _ => cases hy
  | bl a =>
    obtain rfl : (if a = true then 1 else 0) = i := Option.some.inj hx
    cases rx
    cases y with
    | int b =>
      obtain rfl : b = j := Option.some.inj hy
      obtain ⟨t', rfl⟩ := ry
      exact lt_bool_int (fin_bl I q rfl)
    | bl b =>
      obtain rfl : (if b = true then 1 else 0) = j := Option.some.inj hy
      cases ry
      exact PyProof.Rows.lt_bool (fin_bl I q rfl)
    | _ => cases hy
  | _ => cases hx
theorem call_str_ib : CallR X (.type "str") (fun xs H Q => (∃ i, xs = [.int i] ∧ i.natAbs.log2 < 1920 ∧ Q (.str (toString i)) H) ∨ ∃ b, xs = [.bl b] ∧ Q (.str (if b = true then "True" else "False")) H) := by
  intro pins s σ H xs us Q I r h
  rcases h with ⟨i, rfl, hz, q⟩ | ⟨b, rfl, q⟩
  · obtain ⟨u, rfl, t, rfl⟩ := vals1 r
    exact PySem.P.str_of_int hz ⟨.str _, H, I.tok _, ⟨_, rfl⟩, q⟩
  · obtain ⟨u, rfl, hu⟩ := vals1 r
    obtain rfl : u = Value.bool b := hu
    exact PySem.P.str_of_bool ⟨.str _, H, I.tok _, ⟨_, by cases b <;> rfl⟩, q⟩
end
end Wx

namespace Wx
open PySem PySem.Spec PyProof.Rows L2 NdefX
/-! == and != by an own __eq__, any answer; C(..) inside a try -/
section
variable {prog : Program} {w : World} {A : Around} {E : Value → Shared → Prop} {K : PySem.W.Frag} {s : Shared} {x C f : Addr} {ox : Obj} {od : Option Obj}
theorem ifBound_B {M : Model} {name : Str} {id : String} {args : List Value} {Q : Option Value → Shared → Prop} (X : K.In s.heap) (I : PySem.W.InstAt s.heap x ox C od) (hs : PySem.W.findIn K (.ref C) name = some (some (.builtin id)))
    (hb : ∀ self, bindSpecial (.builtin id) self = pure (.builtin id, [self]))
    (h : wpAny M A (call (.builtin id) (.ref x :: args)) (fun v => Q (some v)) E s) : wpAny M A (callSpecialIfBound? (.ref x) name args) Q E s := by
  simp only [callSpecialIfBound?, bindSpecialIfBound?]
  refine wpAny_holding (wpAny_bind (wpAny_bind (wpAny_bind (I.type.here ((PySem.W.looks_findIn X hs).here ?_)))))
  refine wpAny_bind (wpAny_askSetting (wpAny_ite ?_))
  have fin : wpAny M A (call (.builtin id) ([.ref x] ++ args) >>= fun v => pure (some v)) Q E s := wpAny_bind (wpAny_mono h (fun v s' h' => wpAny_pure h') fun _ _ h' => h')
  simp only [hb]
  split
  · exact wpAny_bind (wpAny_pure (wpAny_pure (by exact fin)))
  · exact wpAny_tryCatch (wpAny_bind (wpAny_pure (wpAny_pure (by exact fin))))
theorem objNe_K {b : Value} {Q : Fin → Shared → Prop} (X : K.In s.heap) (I : PySem.W.InstAt s.heap x ox C od) (hs : PySem.W.findIn K (.ref C) "__eq__" = some (some (.ref f))) (hf : PySem.W.isFn K (.ref f) = true) (hu : A.units < cLine)
    (h : wpAny (model prog w) A (call (.ref f) [.ref x, b]) (fun v s' => ∃ k, v = .bool k ∧ Q (.done (.ret (.bool (!k)))) s') E s) : wpAny (model prog w) A (Builtin.«object.__ne__» ⟨[.ref x, b], []⟩) Q E s := by
  unfold Builtin.«object.__ne__»
  repeat (first
    | with_reducible refine wpAny_cRoomFor hu ?_
    | (refine wpAny_bind (m := callSpecialIfBound? (.ref x) (Str.ofString "__eq__") [b])
        (PySem.W.ifBound_K X I hs hf (wpAny_mono h (fun r s' hr => by
          obtain ⟨k, rfl, hq⟩ := hr
          repeat (first | exact hq | exact wpAny_pure hq | exact wpAny_truthy_bool hq | (refine wpAny_bind (m := truthy (.bool _)) (wpAny_truthy_bool ?_)) | wp_step)) fun _ _ e => e)))
    | wp_step)
/-- x != y by the class's own __eq__ -/
theorem ne_K {L : Addr} {h₀ : Heap} {m : Str → Option Value} {b tb : Value} {Q : Value → Shared → Prop} (hu : A.units + 1 < cLine) (FR : Fr h₀ L s.heap m) (X₀ : K.In h₀) (I : PySem.W.InstAt s.heap x ox C od) (hb : PySem.W.Looks (model prog w) s.heap (typeOf b) tb) (hn : PySem.W.notFirst K C tb = true)
    (hne : PySem.W.findIn K (.ref C) "__ne__" = some (some (.builtin "object.__ne__"))) (ho : PySem.W.subIn K (.ref C) (.type "object") = some true)
    (hs : PySem.W.findIn K (.ref C) "__eq__" = some (some (.ref f))) (hf : PySem.W.isFn K (.ref f) = true)
    (h : wpAny (model prog w) A.in1 (call (.ref f) [.ref x, b]) (fun v s' => ∃ k, v = .bool k ∧ Q (.bool (!k)) s') E s) : wpAny (model prog w) A (richCompare .NotEq (.ref x) b) Q E s := by
  have X := X₀.keeps FR.keep
  have one : wpAny (model prog w) A (tryCompare (.ref x) "__ne__" b) (fun r s' => ∃ v, r = some v ∧ Q v s') E s := by
    simp only [tryCompare]
    refine wpAny_bind (ifBound_B X I hne F.cmp_object.ne.bind (wpAny_call (codeAny_call_builtin F.cmp_object.ne.plain F.cmpEntry_ne
      (@PySem.W.check_slot (model prog w) _ _ s "object.__ne__" "object" "__ne__" (.ref x) [b] [] _ F.cmpKind_ne F.cmpSplit_ne (I.type.andThen (PySem.W.looks_subIn X ho)) (F.cmpArgs_ne _ _)
        (objNe_K (A := A.in1) X I hs hf hu (wpAny_mono h (fun v s' hv => ?_) fun _ _ e => e))))))
    obtain ⟨k, rfl, hq⟩ := hv
    first | exact ⟨k, rfl, wpAny_pure ⟨_, rfl, hq⟩⟩ | exact ⟨k, rfl, wpAny_pure (wpAny_pure ⟨_, rfl, hq⟩)⟩ | exact ⟨k, rfl, _, rfl, hq⟩
  unfold richCompare
  simp only [oneThing_ref]
  refine wpAny_holding (wpAny_bind (wpAny_cRoomFor (Nat.lt_of_succ_lt hu) ?_))
  rw [cmpInfo_NotEq]
  dsimp only
  refine wpAny_bind (I.type.here (wpAny_bind (hb.here ?_)))
  split
  · rename_i q
    have e : PySem.W.subIn K tb (.ref C) = some false := by
      rcases Bool.or_eq_true_iff.mp hn with e | e
      · rw [beq_iff_eq.mp e] at q; simp at q
      · exact beq_iff_eq.mp e
    refine wpAny_bind ((PySem.W.looks_subIn X e).here ?_)
    simp only [Bool.false_eq_true, if_false]
    refine wpAny_bind (wpAny_mono one (fun r s' z => ?_) fun _ _ e => e)
    obtain ⟨v, rfl, hq⟩ := z
    exact wpAny_pure hq
  · refine wpAny_bind (wpAny_pure ?_)
    simp only [Bool.false_eq_true, if_false]
    refine wpAny_bind (wpAny_mono one (fun r s' z => ?_) fun _ _ e => e)
    obtain ⟨v, rfl, hq⟩ := z
    exact wpAny_pure hq
end
/-- two instances of the class at C -/
def rOwnI (K : PySem.W.Frag) (C : Addr) (sp : Sp) (E : XK) (g : Bool → Bool) : R2 := fun x y H Q => ∃ a dx fs b dy gs, x = .ref a ∧ y = .ref b ∧ H a = some (.ins C dx fs) ∧ H b = some (.ins C dy gs) ∧ sp [x, y] H (fun z H' => ∃ k, z = .bl k ∧ Q (.bl (g k)) H') E
section
variable {X : Cx} {CX : CXT} {C f : Addr} {n : Nat} {fd : FuncData} {ps : List Str} {sp : Sp} {E : XK}
theorem run_two {A : Around} {pins : List (Addr × Obj)} {σ : L2.St} {H : Hp} {s : Shared} {us : List Value} {vs : List V} {Q : VK} (F : FnOk X.prog X.w X.K X.mg X.base CX n f fd ps sp) (hr : Room n A) (e0 : Env0 X.prog X.w X.K X.mg X.base A X.stack s H) (hb : Binds X.K fd ps []) (hx : Passes CX X E)
    (I : Inv X pins σ H s) (r : Vals vs us) (h : sp vs H Q E) : wpAny (model X.prog X.w) A (call (.ref f) us) (EP X pins σ Q) X.xe s := by
  have hl : us.length = ps.length := by rw [← r.length]; exact F.len _ _ _ _ h
  refine wpAny_call (codeAny_mono (F.run A X.stack s H ⟨us, []⟩ us vs Q E hr e0 (by
    have := hb s us I.kIn (by simpa using hl)
    simpa using this) r h) fun r s' hq => ?_)
  cases r with
  | error e => exact hx pins σ H s e s' I hq
  | ok fl =>
    cases fl with
    | ret w => exact I.after hq
    | next => exact False.elim hq
    | brk => exact False.elim hq
    | cont => exact False.elim hq
theorem op_eqI (F : FnOk X.prog X.w X.K X.mg X.base CX n f fd ps sp) (hr : Room n X.A) (hs : PySem.W.findIn X.K (.ref C) "__eq__" = some (some (.ref f))) (hf : PySem.W.isFn X.K (.ref f) = true) (hb : Binds X.K fd ps []) (hx : Passes CX X E) : OpR X (compareOp .Eq) (rOwnI X.K C sp E id) := by
  intro pins s σ H x y v u Q I rx ry h
  obtain ⟨a, dx, fs, b, dy, gs, rfl, rfl, ha, hb', q⟩ := h
  cases (show v = Value.ref a from rx)
  cases (show u = Value.ref b from ry)
  obtain ⟨mA, J, _⟩ := ins_get I.hok ha
  obtain ⟨mB, J', _⟩ := ins_get I.hok hb'
  obtain ⟨od, J, _⟩ := J.look
  obtain ⟨od', J', _⟩ := J'.look
  obtain ⟨m, hF⟩ := I.fr
  show wpAny (model X.prog X.w) X.A (richCompare .Eq _ _) (EP X pins σ Q) X.xe s
  refine PySem.W.cmp_K (op := .Eq) (tb := .ref C) hr.units0 hF I.ok.mod.kin J J'.type (by simp [PySem.W.notFirst]) hs hf ?_
  refine wpAny_mono (run_two (us := [.ref a, .ref b]) (vs := [.ref a, .ref b]) F hr I.env0 hb hx I (.cons rfl (.cons rfl .nil)) q) (fun w s' z => ?_) fun _ _ x => x
  obtain ⟨z', H', I', rz, k, ez, qz⟩ := z
  subst ez
  cases (show w = Value.bool k from rz)
  exact ⟨.bl k, H', I', rfl, qz⟩
theorem op_neI (F : FnOk X.prog X.w X.K X.mg X.base CX n f fd ps sp) (hr : Room (n + 1) X.A) (hne : PySem.W.findIn X.K (.ref C) "__ne__" = some (some (.builtin "object.__ne__"))) (ho : PySem.W.subIn X.K (.ref C) (.type "object") = some true)
    (hs : PySem.W.findIn X.K (.ref C) "__eq__" = some (some (.ref f))) (hf : PySem.W.isFn X.K (.ref f) = true) (hb : Binds X.K fd ps []) (hx : Passes CX X E) : OpR X (compareOp .NotEq) (rOwnI X.K C sp E not) := by
  intro pins s σ H x y v u Q I rx ry h
  obtain ⟨a, dx, fs, b, dy, gs, rfl, rfl, ha, hb', q⟩ := h
  cases (show v = Value.ref a from rx)
  cases (show u = Value.ref b from ry)
  obtain ⟨mA, J, _⟩ := ins_get I.hok ha
  obtain ⟨mB, J', _⟩ := ins_get I.hok hb'
  obtain ⟨od, J, _⟩ := J.look
  obtain ⟨od', J', _⟩ := J'.look
  obtain ⟨m, hF⟩ := I.fr
  show wpAny (model X.prog X.w) X.A (richCompare .NotEq _ _) (EP X pins σ Q) X.xe s
  have hr1 : Room n X.A.in1 := hr.in1
  refine ne_K (tb := .ref C) hr1.units0 hF I.ok.mod.kin J J'.type (by simp [PySem.W.notFirst]) hne ho hs hf ?_
  refine wpAny_mono (run_two (us := [.ref a, .ref b]) (vs := [.ref a, .ref b]) F hr1 I.env0.in1 hb hx I (.cons rfl (.cons rfl .nil)) q) (fun w s' z => ?_) fun _ _ x => x
  obtain ⟨z', H', I', rz, k, ez, qz⟩ := z
  subst ez
  cases (show w = Value.bool k from rz)
  exact ⟨k, rfl, .bl (!k), H', I', rfl, qz⟩
end
section
variable {X : Cx} {CX : CXT} {k : Nat} {f C : Addr} {fd : FuncData} {ps : List Str} {sp : Sp} {E : L2.St → XK} {x : Str} {p pos : Pos} {e : Expr} {es : List Expr} {t : TA}
/-- C(..) where what is raised is wished for at the caller's slots -/
def tMakeS (C : Addr) (sp : Sp) (E : L2.St → XK) (t : TA) : TE := fun σ H Q => t σ H fun vs H1 => ∀ x dx, H1 x = none → H1 dx = none → dx ≠ x → sp (.ref x :: vs) (upd (upd H1 dx (.own x)) x (.ins C dx [])) (fun v H2 => v = .non ∧ Q (.ref x) H2) (E σ)
theorem pe_makeS (M : Mk X.K C f) (F : FnOk X.prog X.w X.K X.mg X.base CX k f fd ps sp) (hr : Room (k + 1) X.A) (hg : Gl X x) (hm : X.mg x = some (.ref C)) (hb : Binds X.K fd ps []) (hx : ∀ σ, PassesAt CX X σ (E σ))
    (ha : PA X (e :: es) t) (hdb : (x == ("__debug__" : Str)) = false := by decide) (he : starEach (e :: es) X.env = (false, eval e X.env) :: starEach es X.env := by rfl) (hpl : (backTo pos (starEach es X.env)).any (·.1) = false := by rfl) :
    PE X (.Call (.Name x p) (e :: es) [] pos) (tMakeS C sp E t) := by
  refine ⟨fun pins s σ H Q I h => ?_⟩
  refine wpAny_Call_Name_kw (ld_glob I hg hm ?_ hdb)
  refine PySem.W.callWith_K (h₀ := X.base) I.ok.mod.kin M.kp (thn (ha.run pos pins s σ H _ I h) fun us s1 ⟨vs, H1, I1, r, q⟩ => ⟨I1.kIn, ?_⟩) he hpl
  have hq := q (s1.heap.objs.size + 1) s1.heap.objs.size (I1.hok.fresh (Nat.le_succ _)) (I1.hok.fresh (Nat.le_refl _)) (Nat.ne_of_lt (Nat.lt_succ_self _))
  have I2 := Inv.made (C := C) I1
  have r2 : Vals (V.ref (s1.heap.objs.size + 1) :: vs) (Value.ref (s1.heap.objs.size + 1) :: us) := .cons rfl r
  have hl : (Value.ref (s1.heap.objs.size + 1) :: us).length = ps.length := by
    have e := r2.length
    rw [F.len _ _ _ _ hq] at e
    exact e.symm
  refine wpAny_call (make_map (f := f) I1.kIn M.makes M.init (beq_iff_eq.mp M.fn) (codeAny_mono (F.run _ X.stack _ _ ⟨Value.ref (s1.heap.objs.size + 1) :: us, []⟩ (Value.ref (s1.heap.objs.size + 1) :: us) _ _ (E σ) (hr.make C us [])
    (I2.env0.make C us []) (by
      have := hb _ (Value.ref (s1.heap.objs.size + 1) :: us) I2.kIn (by simpa using hl)
      simpa using this) r2 hq) fun r s' hq' => ?_))
  cases r with
  | error e => exact hx σ pins _ _ e s' I2 hq'
  | ok fl =>
    cases fl with
    | ret u =>
      obtain ⟨v, H', I3, rv, ev, q3⟩ := I2.after hq'
      subst ev
      exact ⟨rv, ⟨V.ref (s1.heap.objs.size + 1), H', I3, rfl, q3⟩⟩
    | next => exact False.elim hq'
    | brk => exact False.elim hq'
    | cont => exact False.elim hq'
end
end Wx

namespace Wx
open PySem PySem.Spec PyProof.Rows L2 NdefX
def wKeeps (K : PySem.W.Frag) (i : Nat) (Wout : WX) (D : Ends) : List (Value × (Addr → Value → Option Addr → TS)) → WX
  | [] => Wout
  | (c, ts) :: r => fun cls d σ H =>
    ∃ b, PySem.W.exmOne K cls c = some b ∧ (b = true → ∀ a, H a = none → ts a cls d { nx := fun σ1 H1 => D.nx (σ1.set i none) (upd H1 a (exv cls d a)), rt := fun v H1 => D.rt v (upd H1 a (exv cls d a)), bk := fun σ1 H1 => D.bk (σ1.set i none) (upd H1 a (exv cls d a)), ct := fun σ1 H1 => D.ct (σ1.set i none) (upd H1 a (exv cls d a)) } (σ.set i (some (.ref a))) H) ∧
      (b = false → wKeeps K i Wout D r cls d σ H)
inductive HdsKeep (X : Cx) (n : Str) : List ExceptHandler → List (Value × (Addr → Value → Option Addr → TS)) → Prop
  | nil : HdsKeep X n [] []
  | cons {x : Str} {c : Value} {ts : Addr → Value → Option Addr → TS} {b₀ : Stmt} {suite : List Stmt} {np pos' : Pos} {hds : List ExceptHandler} {l : List (Value × (Addr → Value → Option Addr → TS))} (hc : Names X x c)
      (hsu : ∀ (a : Addr) (oe : Obj) (cls : Value) (d : Option Addr) (pn : List (Addr × Obj)), Zc cls d oe → (∃ vs, oe.data = .fields vs) → PSs (X.suite a ((a, oe) :: pn)) (b₀ :: suite) (ts a cls d)) (r : HdsKeep X n hds l) :
      HdsKeep X n (.ExceptHandler (some (.Name x np)) (some n) (b₀ :: suite) pos' :: hds) ((c, ts) :: l)
section
variable {X : Cx} {n : Str} {i : Nat} {body : List Stmt} {h₀ : ExceptHandler} {hds : List ExceptHandler} {l : List (Value × (Addr → Value → Option Addr → TS))} {pos : Pos} {tb : WX → TS} {Wout : WX}
/-- several clauses, each one keeping its exception under the same name -/
theorem ps_try_keeps (hex : X.ex = []) (stk : X.stack = X.env :: X.outer) (frm : X.env.frame = some X.env.locals) (nd : X.N.Nodup) (atI : X.N[i]? = some n) (lcl : X.env.kindOf n = some .local) (tko : Takes X Wout)
    (hbody : ∀ (W : WX) (pn : List (Addr × Obj)) (xe : Value → Shared → Prop), Takes (X.tr pn xe) W → PassesOwn (model X.prog X.w) X.A X.env xe → PSs (X.tr pn xe) body (tb W))
    (hh : HdsKeep X n (h₀ :: hds) l) :
    PS X (.Try body (h₀ :: hds) [] [] pos) (fun D σ H => tb (wKeeps X.K i Wout D l) D σ H) := by
  refine ⟨fun pins s σ H D I0 rd => ?_⟩
  have okX := I0.ok
  have frA : X.A.frames = some (X.env :: X.outer) := okX.frames.trans (congrArg some stk)
  have locN : Loc X.env.scope n := Or.inl lcl
  refine wpAny_Try_except (wpAny_mono ((hbody (wKeeps X.K i Wout D l) (X.pn ++ pins) (fun e s₁ => wpAny (model X.prog X.w) X.A (noteFrame e X.env) (fun _ s₂ => wpAny (model X.prog X.w) X.A (setFlight e none) (fun _ s₃ =>
      wpAny (model X.prog X.w) X.A (handleBy e X.env (h₀ :: hds)) (SP X pins D) X.xe s₃) X.xe s₂) X.xe s₁) (fun u s' caught => ?_) PassesOwn.looking).run [] s σ H D (I0.toTry _) rd) (fun fl s1 done => ?_) (fun _ _ z => z))
  · obtain ⟨a, B, sI, pinsT, σT, HT, cls, d, rfl, JT, nb, upT, skyT, naT, osT, agT, wl⟩ := caught
    have JX : Inv X pins σT HT sI := Inv.ofTry JT okX
    have skyX : Sky B (X.env :: X.outer) a (Zc cls d) X.env.locals s'.heap := stk ▸ skyT
    show wpAny _ X.A (noteFrame (Value.ref a) X.env) _ _ _
    refine Sky.land Zc.steady frA frm skyX (fun hq flq upq => ?_)
    have Jq : Inv X pins σT HT { s' with heap := hq } := JX.landed nb flq.1 (upT.trans upq) osT agT
    obtain ⟨oeq, vsq, heq, hzq, hdq⟩ := flq.there
    have nfr : a ∉ frs (X.env :: X.outer) := fun hm => by
      obtain ⟨_, o', e', nf'⟩ := flq.2.2.1.mem hm
      have z := heq.symm.trans e'
      cases z
      exact nf' _ hdq
    have nLoc : a ≠ X.env.locals := fun z => nfr (List.mem_filterMap.mpr ⟨X.env, List.mem_cons_self, frm.trans (congrArg some z.symm)⟩)
    have nOut : a ∉ X.fs := fun hm => by
      obtain ⟨ev, hev, qv⟩ := List.mem_filterMap.mp hm
      exact nfr (List.mem_filterMap.mpr ⟨ev, List.mem_cons_of_mem _ hev, qv⟩)
    -- the exception is younger than the frame
    have sInone : sI.heap.get? a = none := by
      cases z : sI.heap.get? a with
      | none => rfl
      | some o =>
        have Bn : B.get? a = none := by
          rcases skyX with ⟨_, q, _⟩ | q | q
          · exact q
          · exact q.2.1
          · exact q.2.1
        have y := nb a o z (fun hm => nfr (by rw [← stk]; exact hm))
        rw [Bn] at y
        cases y
    have s0none : X.s_0.heap.get? a = none := by
      cases z : X.s_0.heap.get? a with
      | none => rfl
      | some o =>
        obtain ⟨o2, y⟩ := JX.base.there a o z (by rw [hex]; simp)
        rw [sInone] at y
        cases y
    have pinNe : ∀ p, p ∈ X.pn ++ pins → p.1 ≠ a := fun p hp z => by
      have y := (JX.pin p hp).1
      rw [z, sInone] at y
      cases y
    have Sq := Jq.suite heq hdq naT nLoc nOut
    have LTy : PySem.W.Looks (model X.prog X.w) hq (typeOf (.ref a)) cls := fun A Q E s k q => wpAny_typeOf_ref (k _ _ heq) (hzq.1 ▸ q)
    have go : ∀ (hs : List ExceptHandler) (l : List (Value × (Addr → Value → Option Addr → TS))), HdsKeep X n hs l → wKeeps X.K i Wout D l cls d σT HT → wpAny (model X.prog X.w) X.A (handleBy (Value.ref a) X.env hs) (SP X pins D) X.xe { s' with heap := hq } := by
      intro hs l hk
      induction hk with
      | nil =>
        intro wout
        refine wpAny_handleBy_nil ?_
        obtain ⟨z1, z2, z3, oe, vs, T1, oT1, tsT, he, hz, hd, h1, hr1⟩ := id flq
        unfold PySem.passOn
        refine wpAny_bind (wpAny_field he hd h1 ?_)
        rw [if_neg (show ¬ ((Value.ref T1 == Value.none) = true) by simp)]
        have fin : wpAny (model X.prog X.w) X.A (setFlight (.ref a) X.env.frame) (fun _ s4 => wpAny (model X.prog X.w) X.A (throw (.ref a) : Sem Flow) (SP X pins D) X.xe s4) X.xe { s' with heap := hq } := by
          rw [frm]
          exact HandSPX.setFlight_upZ flq fun h4 hh4 up4 => wpAny_throw (tko _ _ ⟨a, B, sI, pins, σT, HT, cls, d, rfl, JX, nb, (upT.trans upq).trans up4, .inr (.inr (by rw [stk]; exact hh4)), naT, osT, agT, wout⟩)
        first
          | exact wpAny_bind (wpAny_pure (wpAny_bind fin))
          | exact wpAny_bind fin
      | @cons x c ts b₀ suite np pos' hs l nms hsuite hrest ih =>
        intro wl
        obtain ⟨b, hcl, hyes, hno⟩ := wl
        refine wpAny_handleBy_cons (codeAny_handlers_test ?_) (by rintro ⟨⟩)
        have LEx := PySem.W.exm_one (M := model X.prog X.w) Jq.kIn LTy hcl
        have tst : ∀ {Q : Value → Shared → Prop} {E : Value → Shared → Prop}, Q c { s' with heap := hq } → wpAny (model X.prog X.w) (X.A.mark (some (.ref a))) (eval (.Name x np) X.env) Q E { s' with heap := hq } := fun {Q E} q => by
          obtain ⟨g1, g2, g3 | ⟨g3, g4, g5⟩⟩ := nms
          · exact ld_glob (X := X.suite a ((a, oeq) :: (X.pn ++ pins))) Sq g1 g3 q g2
          · exact ld_blt (X := X.suite a ((a, oeq) :: (X.pn ++ pins))) Sq g1 g3 g4 q g5 g2
        refine tst (LEx.here ?_)
        cases b with
        | true =>
          refine codeAny_handlers_suite_as (HandSPX.lands_againZ flq fun hr flr upr => ?_)
          have Jr : Inv X pins σT HT { s' with heap := hr } := JX.landed nb flr.1 ((upT.trans upq).trans upr) osT agT
          obtain ⟨oer, vsr, her, hzr, hdr⟩ := flr.there
          have Sr := Jr.suite her hdr naT nLoc nOut
          refine store_ok (X := X.suite a ((a, oer) :: (X.pn ++ pins))) (v := V.ref a) Sr nd atI locN rfl (fun s5 S5 => ?_) (Or.inr lcl)
          refine wpAny_mono ((hsuite a oer cls d (X.pn ++ pins) hzr ⟨_, hdr⟩).run [] s5 _ HT _ S5 (hyes rfl a naT)) (fun fl s6 out => ?_) (fun _ _ z => z.elim)
          have leave : ∀ {σ6 : L2.St} {H6 : Hp} {Q : Shared → Prop}, Inv (X.suite a ((a, oer) :: (X.pn ++ pins))) [] σ6 H6 s6 → (∀ s7, Inv X pins (σ6.set i none) (upd H6 a (exv cls d a)) s7 → Q s7) →
              wpAny (model X.prog X.w) X.A (do bindName X.env n .none; unbindBehindTheSuite X.env n pos') (fun _ s7 => Q s7) X.xe s6 := fun {σ6 H6 Q} S6 hQ => by
            have S7 : Inv X ((a, oer) :: pins) σ6 H6 s6 := ⟨okX, S6.os, S6.bare, S6.base, S6.loc, S6.cell, S6.free, S6.freeC, fun p hp => S6.pin p (by
              rw [List.append_nil]
              rcases List.mem_append.mp hp with z | z
              · exact List.mem_cons_of_mem _ (List.mem_append_left _ z)
              · rcases List.mem_cons.mp z with y | y
                · rw [y]
                  exact List.mem_cons_self
                · exact List.mem_cons_of_mem _ (List.mem_append_right _ y)), S6.hok, S6.len⟩
            exact gone_ok S7 nd atI lcl fun s7 J7 => hQ s7 (tracked J7 s0none pinNe hzr hdr)
          cases fl with
          | next =>
            obtain ⟨σ6, H6, S6, q6⟩ := out
            exact leave S6 fun s7 J7 => ⟨_, _, J7, q6⟩
          | brk =>
            obtain ⟨σ6, H6, S6, q6⟩ := out
            exact leave S6 fun s7 J7 => ⟨_, _, J7, q6⟩
          | cont =>
            obtain ⟨σ6, H6, S6, q6⟩ := out
            exact leave S6 fun s7 J7 => ⟨_, _, J7, q6⟩
          | ret u =>
            obtain ⟨v6, σ6, H6, S6, r6, q6⟩ := out
            exact leave S6 fun s7 J7 => ⟨_, _, _, J7, r6, q6⟩
        | false => exact ih (hno rfl)
    exact go _ _ hh wl
  · cases fl with
    | next =>
      obtain ⟨σ1, H1, J1, q1⟩ := done
      exact wpAny_execs_nil ⟨σ1, H1, J1.ofTry okX, q1⟩
    | brk =>
      obtain ⟨σ1, H1, J1, q1⟩ := done
      exact ⟨σ1, H1, J1.ofTry okX, q1⟩
    | cont =>
      obtain ⟨σ1, H1, J1, q1⟩ := done
      exact ⟨σ1, H1, J1.ofTry okX, q1⟩
    | ret u =>
      obtain ⟨v1, σ1, H1, J1, r1, q1⟩ := done
      exact ⟨v1, σ1, H1, J1.ofTry okX, r1, q1⟩
end
end Wx

namespace Wx
open PySem PySem.Spec PyProof.Rows L2 NdefX
theorem dropPin {X : Cx} {pins : List (Addr × Obj)} {σ : L2.St} {H : Hp} {s : Shared} {p : Addr × Obj} (J : Inv X (p :: pins) σ H s) : Inv X pins σ H s :=
  ⟨J.ok, J.os, J.bare, J.base, J.loc, J.cell, J.free, J.freeC, fun q hq => J.pin q (by
    rcases List.mem_append.mp hq with z | z
    · exact List.mem_append_left _ z
    · exact List.mem_append_right _ (List.mem_cons_of_mem _ z)), J.hok, J.len⟩
def wAss (K : PySem.W.Frag) (i : Nat) (Wout : WX) (D : Ends) : List (Value × (Addr → Value → Option Addr → TS)) → WX
  | [] => Wout
  | (c, ts) :: r => fun cls d σ H =>
    ∃ b, PySem.W.exmOne K cls c = some b ∧ (b = true → ∀ a, H a = none → ts a cls d { nx := fun σ1 H1 => D.nx (σ1.set i none) H1, rt := D.rt, bk := fun σ1 H1 => D.bk (σ1.set i none) H1, ct := fun σ1 H1 => D.ct (σ1.set i none) H1 } (σ.set i (some (.ref a))) H) ∧
      (b = false → wAss K i Wout D r cls d σ H)
inductive HdsAs (X : Cx) (n : Str) : List ExceptHandler → List (Value × (Addr → Value → Option Addr → TS)) → Prop
  | nil : HdsAs X n [] []
  | cons {x : Str} {c : Value} {ts : Addr → Value → Option Addr → TS} {b₀ : Stmt} {suite : List Stmt} {np pos' : Pos} {hds : List ExceptHandler} {l : List (Value × (Addr → Value → Option Addr → TS))} (hc : Names X x c)
      (hsu : ∀ (a : Addr) (oe : Obj) (cls : Value) (d : Option Addr) (pn : List (Addr × Obj)), Zc cls d oe → (∃ vs, oe.data = .fields vs) → PSs (X.suite a ((a, oe) :: pn)) (b₀ :: suite) (ts a cls d)) (r : HdsAs X n hds l) :
      HdsAs X n (.ExceptHandler (some (.Name x np)) (some n) (b₀ :: suite) pos' :: hds) ((c, ts) :: l)
section
variable {X : Cx} {n : Str} {i : Nat} {body : List Stmt} {h₀ : ExceptHandler} {hds : List ExceptHandler} {l : List (Value × (Addr → Value → Option Addr → TS))} {pos : Pos} {tb : WX → TS} {Wout : WX}
/-- several clauses with the same name; the exception is let go behind the suite -/
theorem ps_try_ass (hex : X.ex = []) (stk : X.stack = X.env :: X.outer) (frm : X.env.frame = some X.env.locals) (nd : X.N.Nodup) (atI : X.N[i]? = some n) (lcl : X.env.kindOf n = some .local) (tko : Takes X Wout)
    (hbody : ∀ (W : WX) (pn : List (Addr × Obj)) (xe : Value → Shared → Prop), Takes (X.tr pn xe) W → PassesOwn (model X.prog X.w) X.A X.env xe → PSs (X.tr pn xe) body (tb W))
    (hh : HdsAs X n (h₀ :: hds) l) :
    PS X (.Try body (h₀ :: hds) [] [] pos) (fun D σ H => tb (wAss X.K i Wout D l) D σ H) := by
  refine ⟨fun pins s σ H D I0 rd => ?_⟩
  have okX := I0.ok
  have frA : X.A.frames = some (X.env :: X.outer) := okX.frames.trans (congrArg some stk)
  have locN : Loc X.env.scope n := Or.inl lcl
  refine wpAny_Try_except (wpAny_mono ((hbody (wAss X.K i Wout D l) (X.pn ++ pins) (fun e s₁ => wpAny (model X.prog X.w) X.A (noteFrame e X.env) (fun _ s₂ => wpAny (model X.prog X.w) X.A (setFlight e none) (fun _ s₃ =>
      wpAny (model X.prog X.w) X.A (handleBy e X.env (h₀ :: hds)) (SP X pins D) X.xe s₃) X.xe s₂) X.xe s₁) (fun u s' caught => ?_) PassesOwn.looking).run [] s σ H D (I0.toTry _) rd) (fun fl s1 done => ?_) (fun _ _ z => z))
  · obtain ⟨a, B, sI, pinsT, σT, HT, cls, d, rfl, JT, nb, upT, skyT, naT, osT, agT, wl⟩ := caught
    have JX : Inv X pins σT HT sI := Inv.ofTry JT okX
    have skyX : Sky B (X.env :: X.outer) a (Zc cls d) X.env.locals s'.heap := stk ▸ skyT
    show wpAny _ X.A (noteFrame (Value.ref a) X.env) _ _ _
    refine Sky.land Zc.steady frA frm skyX (fun hq flq upq => ?_)
    have Jq : Inv X pins σT HT { s' with heap := hq } := JX.landed nb flq.1 (upT.trans upq) osT agT
    obtain ⟨oeq, vsq, heq, hzq, hdq⟩ := flq.there
    have nfr : a ∉ frs (X.env :: X.outer) := fun hm => by
      obtain ⟨_, o', e', nf'⟩ := flq.2.2.1.mem hm
      have z := heq.symm.trans e'
      cases z
      exact nf' _ hdq
    have nLoc : a ≠ X.env.locals := fun z => nfr (List.mem_filterMap.mpr ⟨X.env, List.mem_cons_self, frm.trans (congrArg some z.symm)⟩)
    have nOut : a ∉ X.fs := fun hm => by
      obtain ⟨ev, hev, qv⟩ := List.mem_filterMap.mp hm
      exact nfr (List.mem_filterMap.mpr ⟨ev, List.mem_cons_of_mem _ hev, qv⟩)
    -- the exception is younger than the frame
    have sInone : sI.heap.get? a = none := by
      cases z : sI.heap.get? a with
      | none => rfl
      | some o =>
        have Bn : B.get? a = none := by
          rcases skyX with ⟨_, q, _⟩ | q | q
          · exact q
          · exact q.2.1
          · exact q.2.1
        have y := nb a o z (fun hm => nfr (by rw [← stk]; exact hm))
        rw [Bn] at y
        cases y
    have s0none : X.s_0.heap.get? a = none := by
      cases z : X.s_0.heap.get? a with
      | none => rfl
      | some o =>
        obtain ⟨o2, y⟩ := JX.base.there a o z (by rw [hex]; simp)
        rw [sInone] at y
        cases y
    have pinNe : ∀ p, p ∈ X.pn ++ pins → p.1 ≠ a := fun p hp z => by
      have y := (JX.pin p hp).1
      rw [z, sInone] at y
      cases y
    have Sq := Jq.suite heq hdq naT nLoc nOut
    have LTy : PySem.W.Looks (model X.prog X.w) hq (typeOf (.ref a)) cls := fun A Q E s k q => wpAny_typeOf_ref (k _ _ heq) (hzq.1 ▸ q)
    have go : ∀ (hs : List ExceptHandler) (l : List (Value × (Addr → Value → Option Addr → TS))), HdsAs X n hs l → wAss X.K i Wout D l cls d σT HT → wpAny (model X.prog X.w) X.A (handleBy (Value.ref a) X.env hs) (SP X pins D) X.xe { s' with heap := hq } := by
      intro hs l hk
      induction hk with
      | nil =>
        intro wout
        refine wpAny_handleBy_nil ?_
        obtain ⟨z1, z2, z3, oe, vs, T1, oT1, tsT, he, hz, hd, h1, hr1⟩ := id flq
        unfold PySem.passOn
        refine wpAny_bind (wpAny_field he hd h1 ?_)
        rw [if_neg (show ¬ ((Value.ref T1 == Value.none) = true) by simp)]
        have fin : wpAny (model X.prog X.w) X.A (setFlight (.ref a) X.env.frame) (fun _ s4 => wpAny (model X.prog X.w) X.A (throw (.ref a) : Sem Flow) (SP X pins D) X.xe s4) X.xe { s' with heap := hq } := by
          rw [frm]
          exact HandSPX.setFlight_upZ flq fun h4 hh4 up4 => wpAny_throw (tko _ _ ⟨a, B, sI, pins, σT, HT, cls, d, rfl, JX, nb, (upT.trans upq).trans up4, .inr (.inr (by rw [stk]; exact hh4)), naT, osT, agT, wout⟩)
        first
          | exact wpAny_bind (wpAny_pure (wpAny_bind fin))
          | exact wpAny_bind fin
      | @cons x c ts b₀ suite np pos' hs l nms hsuite hrest ih =>
        intro wl
        obtain ⟨b, hcl, hyes, hno⟩ := wl
        refine wpAny_handleBy_cons (codeAny_handlers_test ?_) (by rintro ⟨⟩)
        have LEx := PySem.W.exm_one (M := model X.prog X.w) Jq.kIn LTy hcl
        have tst : ∀ {Q : Value → Shared → Prop} {E : Value → Shared → Prop}, Q c { s' with heap := hq } → wpAny (model X.prog X.w) (X.A.mark (some (.ref a))) (eval (.Name x np) X.env) Q E { s' with heap := hq } := fun {Q E} q => by
          obtain ⟨g1, g2, g3 | ⟨g3, g4, g5⟩⟩ := nms
          · exact ld_glob (X := X.suite a ((a, oeq) :: (X.pn ++ pins))) Sq g1 g3 q g2
          · exact ld_blt (X := X.suite a ((a, oeq) :: (X.pn ++ pins))) Sq g1 g3 g4 q g5 g2
        refine tst (LEx.here ?_)
        cases b with
        | true =>
          refine codeAny_handlers_suite_as (HandSPX.lands_againZ flq fun hr flr upr => ?_)
          have Jr : Inv X pins σT HT { s' with heap := hr } := JX.landed nb flr.1 ((upT.trans upq).trans upr) osT agT
          obtain ⟨oer, vsr, her, hzr, hdr⟩ := flr.there
          have Sr := Jr.suite her hdr naT nLoc nOut
          refine store_ok (X := X.suite a ((a, oer) :: (X.pn ++ pins))) (v := V.ref a) Sr nd atI locN rfl (fun s5 S5 => ?_) (Or.inr lcl)
          refine wpAny_mono ((hsuite a oer cls d (X.pn ++ pins) hzr ⟨_, hdr⟩).run [] s5 _ HT _ S5 (hyes rfl a naT)) (fun fl s6 out => ?_) (fun _ _ z => z.elim)
          have leave : ∀ {σ6 : L2.St} {H6 : Hp} {Q : Shared → Prop}, Inv (X.suite a ((a, oer) :: (X.pn ++ pins))) [] σ6 H6 s6 → (∀ s7, Inv X pins (σ6.set i none) H6 s7 → Q s7) →
              wpAny (model X.prog X.w) X.A (do bindName X.env n .none; unbindBehindTheSuite X.env n pos') (fun _ s7 => Q s7) X.xe s6 := fun {σ6 H6 Q} S6 hQ => by
            have S7 : Inv X ((a, oer) :: pins) σ6 H6 s6 := ⟨okX, S6.os, S6.bare, S6.base, S6.loc, S6.cell, S6.free, S6.freeC, fun p hp => S6.pin p (by
              rw [List.append_nil]
              rcases List.mem_append.mp hp with z | z
              · exact List.mem_cons_of_mem _ (List.mem_append_left _ z)
              · rcases List.mem_cons.mp z with y | y
                · rw [y]
                  exact List.mem_cons_self
                · exact List.mem_cons_of_mem _ (List.mem_append_right _ y)), S6.hok, S6.len⟩
            exact gone_ok S7 nd atI lcl fun s7 J7 => hQ s7 (dropPin J7)
          cases fl with
          | next =>
            obtain ⟨σ6, H6, S6, q6⟩ := out
            exact leave S6 fun s7 J7 => ⟨_, _, J7, q6⟩
          | brk =>
            obtain ⟨σ6, H6, S6, q6⟩ := out
            exact leave S6 fun s7 J7 => ⟨_, _, J7, q6⟩
          | cont =>
            obtain ⟨σ6, H6, S6, q6⟩ := out
            exact leave S6 fun s7 J7 => ⟨_, _, J7, q6⟩
          | ret u =>
            obtain ⟨v6, σ6, H6, S6, r6, q6⟩ := out
            exact leave S6 fun s7 J7 => ⟨_, _, _, J7, r6, q6⟩
        | false => exact ih (hno rfl)
    exact go _ _ hh wl
  · cases fl with
    | next =>
      obtain ⟨σ1, H1, J1, q1⟩ := done
      exact wpAny_execs_nil ⟨σ1, H1, J1.ofTry okX, q1⟩
    | brk =>
      obtain ⟨σ1, H1, J1, q1⟩ := done
      exact ⟨σ1, H1, J1.ofTry okX, q1⟩
    | cont =>
      obtain ⟨σ1, H1, J1, q1⟩ := done
      exact ⟨σ1, H1, J1.ofTry okX, q1⟩
    | ret u =>
      obtain ⟨v1, σ1, H1, J1, r1, q1⟩ := done
      exact ⟨v1, σ1, H1, J1.ofTry okX, r1, q1⟩
end
end Wx

namespace Wx
open PySem PySem.Spec PyProof.Rows L2 NdefX
/-! a list comprehension from which an exception may leave -/
/-- in the air over the frames l, the frame L at work: sI is the state without it -/
def Aloft (stk : List Env) (L : Addr) (sI : Shared) (H : Hp) (E : XK) (u : Value) (s' : Shared) : Prop :=
  ∃ (a : Addr) (B : Heap) (cls : Value) (d : Option Addr), u = .ref a ∧ (∀ b o, sI.heap.get? b = some o → b ∉ frs stk → B.get? b = some o) ∧ sI.heap.UpToSlots s'.heap ∧
    Sky B stk a (Zc cls d) L s'.heap ∧ H a = none ∧ s'.os = sI.os ∧ AllBare s'.gens ∧ E cls d H
/-- what is let out at the slots σ is taken -/
structure Air (X : Cx) (σ : L2.St) (E : XK) : Prop where
  ex : ∃ (ev : Env) (outer : List Env) (L : Addr), X.stack = ev :: outer ∧ ev.frame = some L ∧ X.env.frame = some L ∧
    ∀ (pins : List (Addr × Obj)) (H : Hp) (sI : Shared) (u : Value) (s' : Shared), Inv X pins σ H sI → Aloft X.stack L sI H E u s' → X.xe u s'
section
variable {X : Cx} {pins : List (Addr × Obj)} {σ : L2.St} {H : Hp} {s s' : Shared} {E : XK} {W : WX}
theorem air_of {σ : L2.St} (tk : Takes X W) (hs : X.stack = X.env :: X.outer) (hf : X.env.frame = some X.env.locals) : Air X σ (WE W σ) :=
  ⟨X.env, X.outer, X.env.locals, hs, hf, hf, fun pins H sI u s' I ⟨a, B, cls, d, e, nb, up, sky, na, os, ag, w⟩ => tk u s' ⟨a, B, sI, pins, σ, H, cls, d, e, I, nb, up, sky, na, os, ag, w⟩⟩
theorem Air.pass (x : Air X σ E) : PassesAt (L2.CX X.prog X.w) X σ E := fun pins H s u s' I c => by
  obtain ⟨ev, outer, L, hs, hf, hg, k⟩ := x.ex
  obtain ⟨a, B, H', cls, d, rfl, fl, hok, ub, na, os, ag, hE⟩ := c
  obtain ⟨G, g1, g2⟩ := restrict s'.heap fun b => (B.get? b).isSome || decide (b ∈ frs X.stack)
  have st : B.StaysIn s'.heap := fl.1
  have gB : ∀ b o, B.get? b = some o → G.get? b = some o := fun b o e => by
    have q : ((B.get? b).isSome || decide (b ∈ frs X.stack)) = true := by rw [e]; rfl
    exact (g1 b q).trans (st b o e)
  have gF : ∀ b, b ∈ frs X.stack → G.get? b = s'.heap.get? b := fun b hb => g1 b (by rw [decide_eq_true hb, Bool.or_true])
  have back : ∀ b o, G.get? b = some o → s'.heap.get? b = some o ∧ ((B.get? b).isSome = true ∨ b ∈ frs X.stack) := fun b o e => by
    by_cases q : ((B.get? b).isSome || decide (b ∈ frs X.stack)) = true
    · rw [g1 b q] at e
      refine ⟨e, ?_⟩
      rcases Bool.or_eq_true_iff.mp q with y | y
      · exact .inl y
      · exact .inr (of_decide_eq_true y)
    · rw [g2 b (Bool.eq_false_iff.mpr q)] at e
      cases e
  have I1 : Inv X pins σ H' { s with heap := G, gens := s'.gens, drawn := s'.drawn, toks := s'.toks } := by
    refine I.call (ch := []) ⟨fun b o e n hb _ => gB b o (ub.keep b o e n hb), fun b o e n hb _ => ?_, fun b o e n _ => ub.free b o e n, fun b o e _ => ?_, ub.tups, ub.frzs, ub.tbls⟩ (hok.kept gB) ag (fun _ z => nomatch z)
    · obtain ⟨sl, q⟩ := ub.slot b o e hb
      exact ⟨sl, (gF b hb).trans q⟩
    · by_cases hb : b ∈ frs X.stack
      · obtain ⟨sl, q⟩ := ub.slot b o e hb
        exact ⟨_, (gF b hb).trans q⟩
      · obtain ⟨o', q⟩ := ub.there b o e hb
        exact ⟨o', gB b o' q⟩
  refine k pins H' _ _ _ I1 ⟨a, B, cls, d, rfl, fun b o e hb => ?_, Heap.UpToSlots.of_keeps fun b o e => (back b o e).1, .inr (.inl fl), na, os, ag, hE⟩
  obtain ⟨e1, e2 | e2⟩ := back b o e
  · obtain ⟨o', q⟩ := Option.isSome_iff_exists.mp e2
    have z := (st b o' q).symm.trans e1
    cases z
    exact q
  · exact absurd e2 hb
end
theorem passNo {X : Cx} (σ : L2.St) : PassesAt (L2.CX X.prog X.w) X σ ((fun _ _ _ _ => False : L2.St → XK) σ) := fun _ _ _ _ _ _ c => by
  obtain ⟨_, _, _, _, _, _, _, _, _, _, _, _, hE⟩ := c
  exact hE.elim
theorem funFrames_step {h h2 B B' : Heap} : ∀ {l : List Env}, h.FunFrames B l → (∀ b, B.get? b = none → B'.get? b = none) → (∀ b o, B.get? b = none → h.get? b = some o → h2.get? b = some o) → h2.FunFrames B' l
  | [], _, _, _ => trivial
  | env :: l, hl, k1, k2 => by
    obtain ⟨hk, ⟨L, o, hf, hn, ho, hd⟩, hr⟩ := hl
    exact ⟨hk, ⟨L, o, hf, k1 _ hn, k2 _ _ hn ho, hd⟩, funFrames_step hr k1 k2⟩
theorem note_same {e : Value} {e1 e2 : Env} (h : e1.frame = e2.frame) : noteFrame e e1 = noteFrame e e2 := by
  unfold noteFrame PySem.frameOf
  rw [h]
section
variable {M : Model} {A : Around} {E : Value → Shared → Prop} {s : Shared} {env : Env}
/-- behind a block: let go of its names; an exception goes on by the block's own environment -/
def postX (M : Model) (A : Around) (E : Value → Shared → Prop) (use : Option (Value → Sem Unit)) (Q : Value → Shared → Prop) (acc : Value) (cenv : Env) (r : Result) (s' : Shared) : Prop :=
  match r, use with
  | .ok _, none => ∃ m, s'.heap.Ns cenv.locals m ∧ ∀ h', Heap.SameBut cenv.locals s'.heap h' → Q acc { s' with heap := h' }
  | .ok _, some u => wpAny M A (u acc) (fun _ s'' => ∃ m, s''.heap.Ns cenv.locals m ∧ ∀ h', Heap.SameBut cenv.locals s''.heap h' → Q .none { s'' with heap := h' }) E s'
  | .error x, _ => ∃ m, s'.heap.Ns cenv.locals m ∧ ∀ h', Heap.SameBut cenv.locals s'.heap h' → wpAny M A (passOn "comprehension.variables-let-go" x cenv : Sem Value) (fun _ _ => False) E { s' with heap := h' }
theorem comprehension_freeX {e : Expr} {scope : Scope} {pos : Pos} {newAcc first : Sem Value} {g : Comprehension} {gs : List Comprehension} {cl : List (Str × Addr)} {use : Option (Value → Sem Unit)}
    {Q : Value → Shared → Prop}
    (hcl : clausesOf e = g :: gs) (hs : ∀ x, foldedSetIterable g.iter env x = pure x) (hclos : closureFor scope env = pure cl)
    (hkind : scope.kind = .function) (hnames : ∀ x ∈ scope.names, x.2 = .local → scope.names.lookup x.1 = some .local)
    (h : wpAny M A first (fun x s₁ => wpAny M A (pyIter x) (fun it s₂ => wpAny M A newAcc (fun acc s₃ =>
      wpAny M A (newFunctionEnv scope env.globals cl [] env.qual none .none (some env)) (fun cenv s₄ =>
        codeAny M A (.compStart e 0 it acc { cenv with scope := relabel scope env }) (postX M A E use Q acc { cenv with scope := relabel scope env }) s₄) E s₃) E s₂) E s₁) E s) :
    wpAny M A (comprehension e scope env pos newAcc false first use) Q E s := by
  unfold comprehension
  rw [hclos, hcl]
  refine wpAny_bind (wpAny_mono h (fun x s₁ h₁ => wpAny_bind (wpAny_standAt (wpAny_bind (wpAny_of_eq (hs x) (wpAny_bind (wpAny_holding (wpAny_mono h₁ (fun it s₂ h₂ =>
    wpAny_standIf (wpAny_bind (wpAny_mono h₂ (fun acc s₃ h₃ => wpAny_bind (wpAny_pure (wpAny_bind (wpAny_mono h₃ (fun cenv s₄ h₄ => ?_) fun _ _ h' => h')))) fun _ _ h' => h')))
      fun _ _ h' => h'))))))) fun _ _ h' => h')
  dsimp only
  have hv : ∀ x ∈ (scope.names.filter fun x => (x.2 == .local || x.2 == .cell) && x.1 != (".0" : Str)).reverse, x.2 = .local →
      Env.kindOf { cenv with scope := relabel scope env } x.1 = some .local := fun x hx hl => lookup_relabel_local (hnames x (List.mem_filter.mp (List.mem_reverse.mp hx)).1 hl)
  have hv' : ∀ x ∈ (scope.names.filter fun x => (x.2 == .local || x.2 == .cell) && x.1 != (".0" : Str)).reverse.drop 1 ++ (scope.names.filter fun x => (x.2 == .local || x.2 == .cell) && x.1 != (".0" : Str)).reverse.take 1,
      x.2 = .local → Env.kindOf { cenv with scope := relabel scope env } x.1 = some .local := fun x hx hl => by
    rcases List.mem_append.mp hx with h1 | h1
    · exact hv x (List.mem_of_mem_drop h1) hl
    · exact hv x (List.mem_of_mem_take h1) hl
  refine wpAny_holding (wpAny_bind (wpAny_attempt (wpAny_holding (wpAny_run (codeAny_mono h₄ fun r s' hr => ?_)))))
  cases r with
  | ok f =>
    cases use with
    | none =>
      obtain ⟨m, hn, hr⟩ := hr
      exact wpAny_bind (wpAny_holding (wpAny_comp_letGo (cenv := { cenv with scope := relabel scope env }) hkind _ s' m hv hn fun h' m' _ hs' => wpAny_pure (hr h' hs')))
    | some u =>
      refine wpAny_bind (wpAny_rule (wpAny_bind (wpAny_holding (wpAny_mono hr (fun _ s'' hr' => ?_) fun _ _ h' => h'))))
      obtain ⟨m, hn, hr'⟩ := hr'
      exact wpAny_bind (wpAny_comp_letGo (cenv := { cenv with scope := relabel scope env }) hkind _ s'' m hv' hn fun h' m' _ hs' => wpAny_pure (hr' h' hs'))
  | error x =>
    have hr' : ∃ m, s'.heap.Ns cenv.locals m ∧ ∀ h', Heap.SameBut cenv.locals s'.heap h' → wpAny M A (passOn "comprehension.variables-let-go" x { cenv with scope := relabel scope env } : Sem Value) (fun _ _ => False) E { s' with heap := h' } := by cases use <;> exact hr
    obtain ⟨m, hn, hr⟩ := hr'
    exact wpAny_bind (wpAny_holding (wpAny_comp_letGo (cenv := { cenv with scope := relabel scope env }) hkind _ s' m hv hn fun h' m' _ hs' => wpAny_mono (hr h' hs') (fun _ _ f => f.elim) fun _ _ y => y))
end
section
variable {X : Cx}
theorem lc_coreX {E : L2.St → XK} {pins : List (Addr × Obj)} {s : Shared} {σ : L2.St} {H : Hp} {Q : VK} {elt tg iter : Expr} {ifs : List Expr} {scope : Scope} {own : List (Str × Nat)} {pos pos' : Pos} {wi : TI} {g : TG} {tt : TT} {te : XK → TE} {Qf : Value → Shared → Prop}
    (hc : X.calm = true) (hN : X.N.Nodup) (I : Inv X pins σ H s) (hi : PI X tg iter wi) (ok : BlkOk X.N X.env.scope scope own)
    (hg : ∀ (s : Shared) (H : Hp) (C : Addr) (cl : List (Str × Addr)) (fp : List Addr), PG (X.blk s H scope (compEnvC scope cl C X.env) fp) tg g) (ht : ∀ (s : Shared) (H : Hp) (C : Addr) (cl : List (Str × Addr)) (fp : List Addr), PTs (X.blk s H scope (compEnvC scope cl C X.env) fp) ifs tt)
    (air : Air X σ (E σ)) (he : ∀ (s : Shared) (H : Hp) (C : Addr) (cl : List (Str × Addr)) (fp : List Addr) (xe : Value → Shared → Prop) (E1 : XK), (∀ σ1, Air ((X.blk s H scope (compEnvC scope cl C X.env) fp).wish xe) σ1 E1) → PE ((X.blk s H scope (compEnvC scope cl C X.env) fp).wish xe) elt (te E1)) (hs : ∀ x, foldedSetIterable iter X.env x = pure x)
    (h : tLc wi g tt (te (E σ)) (own.map (·.2)) σ H Q)
    (hRR : ∀ D C s' m H', Inv X pins σ H' s' → Q (.ref D) H' → s'.heap.Ns C m → FpOk X pins H' C → compPost (model X.prog X.w) X.A X.xe none Qf (.ref D) C (.ok .next) s') :
    wpAny (model X.prog X.w) X.A (comprehension (.ListComp elt [⟨tg, iter, ifs, 0⟩] scope pos) scope X.env pos' (newList []) false (eval iter X.env) none) Qf X.xe s := by
  have hfree : ∀ y ∈ scope.names, y.2 = .free → ∃ c, X.env.cells.lookup y.1 = some c := fun y hy e => by
    rcases ok.free y hy e with k | k
    · exact I.ok.has _ (.inl k)
    · exact I.ok.has _ (.inr k)
  refine comprehension_freeX (use := none) rfl hs (closure_ok hfree) ok.kind (fun y hy e => by rw [ok.uniq y hy, e])
    (thn (hi.run pins s σ H _ I h) fun xv s1 hx => thn hx fun itv s2 h2 => ?_)
  obtain ⟨it, fp, tn, J, H2, e, I2, T, st2, f2, q⟩ := h2
  subst e
  refine wpAny_newObj_type (newEnv_comp ?_) (by show 0 ≤ sizeLine; decide)
  generalize hD : s2.heap.objs.size = D
  have hDn : H2 D = none := I2.hok.fresh (Nat.le_of_eq hD)
  obtain ⟨W, ⟨m0, w0⟩, turn⟩ := q D hDn
  -- the new list
  generalize hs3 : ({ s2 with heap := s2.heap.push { cls := .type "list", data := .seq ([] : List Value).toArray } } : Shared) = s3
  have I3 : Inv X pins σ (upd H2 D (.lst [])) s3 := by
    rw [← hs3]
    refine I2.laid (t' := s2.toks) (fun b o e => Heap.get?_push_of_some _ e) (Nat.le_of_eq hD) ⟨Nat.zero_le _, [], 0, .nil, ?_⟩
    rw [← hD]
    exact Heap.get?_push_size _ rfl
  have h3 : s3.heap = s2.heap.push { cls := .type "list", data := .seq ([] : List Value).toArray } := by rw [← hs3]
  have sz : ∀ b ∈ fp, b < s2.heap.objs.size := fun b hb => by
    obtain ⟨o, e, _⟩ := T.obj _ _ st2 b hb
    exact Heap.lt_size e
  have f3 : ∀ b ∈ fp, FpOk X pins (upd H2 D (.lst [])) b ∧ b < s3.heap.objs.size := fun b hb => by
    have hlt := sz b hb
    refine ⟨⟨?_, (f2 b hb).2⟩, by rw [h3, Heap.size_push]; exact Nat.lt_succ_of_lt hlt⟩
    rw [upd_ne (by rw [← hD]; exact Nat.ne_of_lt hlt)]
    exact (f2 b hb).1
  have st3 : tn 0 s3.heap := T.keep _ _ _ st2 fun b _ o e => by rw [h3]; exact Heap.get?_push_of_some _ e
  have I4 := block_start I3 ok hN f3
  have pg := hg s3 (upd H2 D (.lst [])) s3.heap.objs.size (cellsFrom (s3.heap.objs.size + 1) scope.names (cloFrom X.env.cells scope.names [])) fp
  have pt := ht s3 (upd H2 D (.lst [])) s3.heap.objs.size (cellsFrom (s3.heap.objs.size + 1) scope.names (cloFrom X.env.cells scope.names [])) fp
  have pe := he s3 (upd H2 D (.lst [])) s3.heap.objs.size (cellsFrom (s3.heap.objs.size + 1) scope.names (cloFrom X.env.cells scope.names [])) fp
  have cF : (compEnvC scope (cellsFrom (s3.heap.objs.size + 1) scope.names (cloFrom X.env.cells scope.names [])) s3.heap.objs.size X.env).frame = X.env.frame := rfl
  show codeAny _ _ (.compStart (.ListComp elt [⟨tg, iter, ifs, 0⟩] scope pos) 0 (.ref it) (.ref D) (compEnvC scope (cellsFrom (s3.heap.objs.size + 1) scope.names (cloFrom X.env.cells scope.names [])) s3.heap.objs.size X.env)) (postX (model X.prog X.w) X.A X.xe none Qf (.ref D) (compEnvC scope (cellsFrom (s3.heap.objs.size + 1) scope.names (cloFrom X.env.cells scope.names [])) s3.heap.objs.size X.env)) { s3 with heap := pushCells (s3.heap.push { cls := .type "dict", data := .dict #[] }) scope.names }
  have nfp : ∀ b ∈ fp, (upd H2 D (.lst [])) b = none := fun b hb => (f3 b hb).1.1
  generalize hce : compEnvC scope (cellsFrom (s3.heap.objs.size + 1) scope.names (cloFrom X.env.cells scope.names [])) s3.heap.objs.size X.env = ce at I4 pg pt pe cF ⊢
  have cL : ce.locals = s3.heap.objs.size := by subst hce; rfl
  generalize hH3 : upd H2 D (.lst []) = H3 at I3 I4 pg pt pe w0 nfp f3
  generalize hs4 : ({ s3 with heap := pushCells (s3.heap.push { cls := .type "dict", data := .dict #[] }) scope.names } : Shared) = s4 at I4 ⊢
  have st4 : tn 0 s4.heap := T.keep _ _ _ st3 fun b _ o e => by rw [← hs4]; exact pushCells_keeps _ _ _ _ (Heap.get?_push_of_some _ e)
  have stat : ∀ {σ' : L2.St} {H' : Hp} {s' : Shared}, Inv (X.blk s3 H3 scope ce fp) [] σ' H' s' → (∀ b ∈ fp, H' b = none) → ∀ b ∈ fp, FpOk (X.blk s3 H3 scope ce fp) [] H' b := fun {σ' H' s'} I' hn b hb =>
    ⟨hn b hb, (I'.ok.exf b hb).1, I'.ok.exfs b hb, .inl hb, fun x c e => (I'.ok.exf b hb).2 x c e, fun p hp => absurd (show p ∈ ([] : List (Addr × Obj)) ++ [] from hp) (by simp)⟩
  have loop : codeAny (model X.prog X.w) X.A (.compLoop (.ListComp elt [⟨tg, iter, ifs, 0⟩] scope pos) 0 (.ref it) (.ref D) ce) (postX (model X.prog X.w) X.A X.xe none Qf (.ref D) ce) s4 := by
    refine compLoop_any (fun n s' => ∃ i H', Inv (X.blk s3 H3 scope ce fp) [] (wipe σ (own.map (·.2))) H' s' ∧ tn i s'.heap ∧ (∀ b ∈ fp, H' b = none) ∧ W i n H') ?_ m0 ⟨0, H3, I4, st4, nfp, w0⟩
    rintro n s5 ⟨i, H5, I5, st5, n5, w5⟩
    rcases turn i n H5 w5 with ⟨stop, qq⟩ | ⟨go, Nx, hNx, step⟩
    · have td := T.done (X.blk s3 H3 scope ce fp) rfl rfl rfl hc i [] s5 _ H5 (fun _ _ => False) I5 (stat I5 n5) st5 stop
      refine thnF td fun r s6 ⟨hr, I6⟩ => ?_
      subst hr
      -- back in the def's context
      have I7 : Inv X pins σ H5 s6 := I3.call' (ch := fp) I6.os I6.base I6.hok I6.bare fun b hb => ⟨(f3 b hb).1.2.2.2.1, (f3 b hb).1.2.1, (f3 b hb).1.2.2.2.2.1, (f3 b hb).1.2.2.2.2.2⟩
      have nC : H5 s3.heap.objs.size = none := by
        have z : H5 ce.locals = none := I6.free
        rw [cL] at z
        exact z
      obtain ⟨m, hn, _⟩ := I6.loc
      have hn : s6.heap.Ns ce.locals m := hn
      rw [cL] at hn
      have hR := hRR D s3.heap.objs.size s6 m H5 I7 qq hn (I3.fpOk (Nat.le_refl _) nC)
      rw [← cL] at hR
      exact hR
    · have ti := T.item (X.blk s3 H3 scope ce fp) rfl rfl rfl hc i [] s5 _ H5 (fun _ _ => False) I5 (stat I5 n5) st5 go
      refine thnF ti fun r s6 ⟨u, hr, h6⟩ => ?_
      subst hr
      refine thnF h6 fun _ s7 ⟨x, H7, I7, r7, y7, st7, n7⟩ => ?_
      have I7' := I7.pinned (stat I7 n7) (T.obj _ _ st7)
      refine thnF (pg.run _ s7 _ H7 x u _ I7' r7 (step x H7 y7)) fun _ s8 ⟨σ8, H8, I8, hw8, q8⟩ => ?_
      refine thnF (pt.run _ s8 σ8 H8 _ I8 q8) fun b s9 ⟨H9, I9, q9⟩ => ?_
      -- the turn's end
      have fin : ∀ {s' : Shared} {H' : Hp}, Inv (X.blk s3 H3 scope ce fp) ([] ++ pinsAt fp s7.heap) σ8 H' s' → Nx H' → ∃ m, m < n ∧ ∃ i H', Inv (X.blk s3 H3 scope ce fp) [] (wipe σ (own.map (·.2))) H' s' ∧ tn i s'.heap ∧ (∀ b ∈ fp, H' b = none) ∧ W i m H' := fun {s' H'} I' nx => by
        obtain ⟨m', hm, w'⟩ := hNx H' nx
        have pin' : ∀ b ∈ fp, ∀ o, s7.heap.get? b = some o → s'.heap.get? b = some o ∧ H' b = none := fun b hb o e =>
          let z := I'.pin (b, o) (List.mem_append_right _ (List.mem_append_right _ (mem_pinsAt hb e)))
          ⟨z.1, z.2.1⟩
        have hl : (wipe σ (own.map (·.2))).length = σ8.length := by rw [← hw8, wipe_length]
        refine ⟨m', hm, i + 1, H', (I'.unpinned (pins := [])).weak hl (fun j v e => ?_), T.keep _ _ _ st7 fun b hb o e => (pin' b hb o e).1, fun b hb => ?_, w'⟩
        · rw [← hw8] at e
          exact (wipe_some e).1
        · obtain ⟨o, e, _⟩ := T.obj _ _ st7 b hb
          exact (pin' b hb o e).2
      cases b with
      | false =>
        simp only [Bool.false_eq_true, if_false] at q9 ⊢
        exact fin I9 q9
      | true =>
        simp only [if_true] at q9 ⊢
        obtain ⟨ev, outer, L, hstk, hfr, hXf, kx⟩ := air.ex
        refine wpAny_mono ((pe (fun u s' => ∃ H' sI, Inv X pins σ H' sI ∧ (∃ m, sI.heap.Ns ce.locals m) ∧ H' ce.locals = none ∧ Aloft X.stack L sI H' (E σ) u s') (E σ) (fun σ1 => ⟨ev, outer, L, hstk, hfr, cF.trans hXf, fun pins1 H1 sI u s' I1 al => ?_⟩)).run _ s9 σ8 H9 _ (I9.wish _) q9) (fun z s10 ⟨yv, H10, I10, r10, acc, hD10, hz10, nx⟩ => ?_) (fun u s10 hx => ?_)
        · have I1' := I1.unwish
          obtain ⟨m, hn, _⟩ := I1'.loc
          exact ⟨H1, sI, I3.call' (ch := fp) I1'.os I1'.base I1'.hok I1'.bare fun b hb => ⟨(f3 b hb).1.2.2.2.1, (f3 b hb).1.2.1, (f3 b hb).1.2.2.2.2.1, (f3 b hb).1.2.2.2.2.2⟩, ⟨m, hn⟩, I1'.free, al⟩
        · exact app_ok (X := X.blk s3 H3 scope ce fp) I10.unwish hD10 hz10 r10 fun s11 I11 => fin I11 nx
        · obtain ⟨H', sI, JX, ⟨m, hn⟩, nC, a, B, cls, d, rfl, nb, up, sky, na, os, ag, w⟩ := hx
          have fpC : FpOk X pins H' ce.locals := I3.fpOk (by rw [cL]; exact Nat.le_refl _) nC
          obtain ⟨f0, f1, f2, f3', f4, f5⟩ := fpC
          have frA : X.A.frames = some (ev :: outer) := I3.ok.frames.trans (congrArg some hstk)
          have cNot : ce.locals ∉ frs X.stack := fun hm => by
            rcases List.mem_cons.mp (I3.stkSub _ hm) with z | z
            · exact f1 z
            · exact f2 z
          show wpAny _ X.A (noteFrame (Value.ref a) ce) _ _ _
          rw [note_same (e2 := ev) (by rw [cF, hXf, hfr])]
          -- noted by the frame
          have held : ∀ {Q : Unit → Shared → Prop} {E' : Value → Shared → Prop}, (∀ h1, HandSPX.HeldZ B (ev :: outer) a (Zc cls d) L h1 → s10.heap.UpToSlots h1 → Q () { s10 with heap := h1 }) → wpAny (model X.prog X.w) X.A (noteFrame (.ref a) ev) Q E' s10 := fun {Q E'} k => by
            rw [hstk] at sky
            rcases sky with ⟨hB, hn, hl, oe, vs, he, hz, hd, h1⟩ | fl | hh
            · exact HandSPX.look_newZ Zc.steady frA hl hfr he hB hn hd h1 hz k
            · exact HandSPX.looks_onZ Zc.steady frA hfr fl k
            · exact HandSPX.againZ hfr hh.2.2.2 (k s10.heap hh (Heap.UpToSlots.refl _))
          refine held fun h1 hh1 up1 => ?_
          have upH : sI.heap.UpToSlots h1 := up.trans up1
          refine ⟨m, upH.ns hn, fun h2 sb2 => ?_⟩
          -- the ground without the block's names
          obtain ⟨B', b1, b2⟩ := restrict B fun b => decide (b ≠ ce.locals)
          obtain ⟨G, g1, g2⟩ := restrict sI.heap fun b => decide (b ≠ ce.locals)
          have bB : ∀ b o, B'.get? b = some o → b ≠ ce.locals ∧ B.get? b = some o := fun b o e => by
            by_cases q : b = ce.locals
            · rw [b2 b (by simp [q])] at e
              cases e
            · exact ⟨q, by rw [b1 b (by simp [q])] at e; exact e⟩
          have gG : ∀ b o, G.get? b = some o → b ≠ ce.locals ∧ sI.heap.get? b = some o := fun b o e => by
            by_cases q : b = ce.locals
            · rw [g2 b (by simp [q])] at e
              cases e
            · exact ⟨q, by rw [g1 b (by simp [q])] at e; exact e⟩
          obtain ⟨k1, k2, k3, oe, vs, T1, oT1, ts, he1, hz1, hd1, hv1, hbT, hTa, hT1, hdT, hfl⟩ := hh1
          obtain ⟨oC, es, ep, hoC, hdC, _⟩ := hn
          have BC : B.get? ce.locals = some oC := nb _ _ hoC cNot
          have aC : a ≠ ce.locals := fun z => by rw [z] at k2; rw [k2] at BC; cases BC
          have TC : T1 ≠ ce.locals := fun z => by rw [z] at hbT; rw [hbT] at BC; cases BC
          have sb : ∀ b, b ≠ ce.locals → h2.get? b = h1.get? b := sb2.2
          have B'a : B'.get? a = none := by rw [b1 a (by simp [aC])]; exact k2
          have B'T : B'.get? T1 = none := by rw [b1 T1 (by simp [TC])]; exact hbT
          have fF : h2.FunFrames B' (ev :: outer) := funFrames_step k3 (fun b q => by
              cases z : B'.get? b with
              | none => rfl
              | some o =>
                rw [(bB b o z).2] at q
                cases q) fun b o q e => (sb b (fun z => by rw [z, BC] at q; cases q)).trans e
          have kB : B'.StaysIn h2 := fun b o e => (sb b (bB b o e).1).trans (k1 b o (bB b o e).2)
          have he2 : h2.get? a = some oe := (sb a aC).trans he1
          have hh2 : HandSPX.HeldZ B' (ev :: outer) a (Zc cls d) L h2 := ⟨kB, B'a, fF, oe, vs, T1, oT1, ts, he2, hz1, hd1, hv1, B'T, hTa, (sb T1 TC).trans hT1, hdT, hfl⟩
          unfold PySem.passOn
          refine wpAny_bind (wpAny_field he2 hd1 hv1 ?_)
          rw [if_neg (show ¬ ((Value.ref T1 == Value.none) = true) by simp)]
          have fin2 : wpAny (model X.prog X.w) X.A (setFlight (.ref a) ce.frame) (fun _ s4 => wpAny (model X.prog X.w) X.A (throw (.ref a) : Sem Value) (fun _ _ => False) X.xe s4) X.xe { s10 with heap := h2 } := by
            rw [cF, hXf]
            refine HandSPX.setFlight_onZ hh2 fun h4 hh4 up4 => wpAny_throw ?_
            refine kx pins H' { sI with heap := G } _ _ (JX.turned (t' := sI.toks) (fun b o hb e => (g1 b (by simp [hb])).trans e) f0 f1 f3' f4 f5) ⟨a, B', cls, d, rfl, fun b o e hb => ?_, ?_, ?_, na, os, ag, w⟩
            · obtain ⟨q1, q2⟩ := gG b o e
              exact (b1 b (by simp [q1])).trans (nb b o q2 hb)
            · refine Heap.UpToSlots.trans (fun b o e nf => ?_) up4
              obtain ⟨q1, q2⟩ := gG b o e
              obtain ⟨sl, q3⟩ := upH b o q2 nf
              exact ⟨sl, (sb b q1).trans q3⟩
            · rw [hstk]
              exact .inr (.inr hh4)
          first
            | exact wpAny_bind (wpAny_pure (wpAny_bind fin2))
            | exact wpAny_bind fin2
  exact codeAny_compStart_list loop (T.self X.A 0 _ _ _ st4 loop)
/-- [elt for target in iter if ..]; what elt lets out is let out -/
theorem pe_lcX {E : L2.St → XK} {elt tg iter : Expr} {ifs : List Expr} {scope : Scope} {own : List (Str × Nat)} {pos : Pos} {wi : TI} {g : TG} {tt : TT} {te : XK → TE} (air : ∀ σ, Air X σ (E σ)) (hc : X.calm = true) (hN : X.N.Nodup) (hi : PI X tg iter wi) (ok : BlkOk X.N X.env.scope scope own)
    (hg : ∀ (s : Shared) (H : Hp) (C : Addr) (cl : List (Str × Addr)) (fp : List Addr), PG (X.blk s H scope (compEnvC scope cl C X.env) fp) tg g) (ht : ∀ (s : Shared) (H : Hp) (C : Addr) (cl : List (Str × Addr)) (fp : List Addr), PTs (X.blk s H scope (compEnvC scope cl C X.env) fp) ifs tt)
    (he : ∀ (s : Shared) (H : Hp) (C : Addr) (cl : List (Str × Addr)) (fp : List Addr) (xe : Value → Shared → Prop) (E1 : XK), (∀ σ1, Air ((X.blk s H scope (compEnvC scope cl C X.env) fp).wish xe) σ1 E1) → PE ((X.blk s H scope (compEnvC scope cl C X.env) fp).wish xe) elt (te E1)) (hs : ∀ x, foldedSetIterable iter X.env x = pure x := by intro _; rfl) :
    PE X (.ListComp elt [⟨tg, iter, ifs, 0⟩] scope pos) (fun σ H Q => tLc wi g tt (te (E σ)) (own.map (·.2)) σ H Q) := by
  refine ⟨fun pins s σ H Q I h => ?_⟩
  rw [eval_ListComp]
  refine lc_coreX hc hN I hi ok hg ht (air σ) he hs h fun D C s' m H' I' q hn f => ⟨m, hn, fun h'' sb => ?_⟩
  obtain ⟨f0, f1, f2, f3, f4, f5⟩ := f
  exact ⟨.ref D, H', I'.turned (t' := s'.toks) (fun b o hb e => (sb.2 b hb).trans e) f0 f1 f3 f4 f5, rfl, q⟩
end
end Wx

namespace Wx
open PySem PySem.Spec PyProof.Rows L2 NdefX RZ
/-! walks over a list or a tuple; <= and str by own defs; tuples of ints compared -/
section
variable {X : Cx} {tg : Expr}
def iSeq (K : PySem.W.Frag) (tl : TE) : TI := fun σ H R => tl σ H fun x H1 => ∃ a xs, x = .ref a ∧ ((SqL K H1 a xs ∧ R (Itl K a) H1) ∨ (SqT K H1 a xs ∧ R (Itt K a) H1))
theorem pi_seq {l : Expr} {tl : TE} (hl : PE X l tl) : PI X tg l (iSeq X.K tl) := by
  refine ⟨fun pins s σ H R I h => ?_⟩
  refine thn (hl.run pins s σ H _ I h) fun v s1 ⟨x, H1, I1, r1, q1⟩ => ?_
  obtain ⟨a, xs, e, q⟩ := q1
  subst e
  cases r1
  have fresh : ∀ b ∈ [s1.heap.objs.size], FpOk X pins H1 b := fun b hb => by
    have e : b = s1.heap.objs.size := by simpa using hb
    subst e
    exact I1.fpOk (Nat.le_refl _) (I1.hok.fresh (Nat.le_refl _))
  rcases q with ⟨hq, q⟩ | ⟨hq, q⟩
  · obtain ⟨its, rv, p, hz⟩ := I1.list hq
    refine wpAny_pyIter_list p.isList ?_
    exact ⟨s1.heap.objs.size, [s1.heap.objs.size], _, _, H1, rfl, I1.kept (t' := s1.toks) fun b o e => Heap.get?_push_of_some _ e, turn_list a _, ⟨_, Heap.get?_push_size _ rfl, rfl, rfl⟩, fresh, q⟩
  · obtain ⟨its, rv, p, hz⟩ := I1.tuple hq
    refine wpAny_pyIter_tuple (show s1.heap.IsTuple a its.toArray from p) ?_
    exact ⟨s1.heap.objs.size, [s1.heap.objs.size], _, _, H1, rfl, I1.kept (t' := s1.toks) fun b o e => Heap.get?_push_of_some _ e, turn_tuple a _, ⟨_, Heap.get?_push_size _ rfl, rfl, rfl⟩, fresh, q⟩
end
section
variable {X : Cx} {CX : CXT} {C f : Addr} {n : Nat} {fd : FuncData} {ps : List Str} {sp : Sp} {E : XK}
theorem op_leI (F : FnOk X.prog X.w X.K X.mg X.base CX n f fd ps sp) (hr : Room n X.A) (hs : PySem.W.findIn X.K (.ref C) "__le__" = some (some (.ref f))) (hf : PySem.W.isFn X.K (.ref f) = true) (hb : Binds X.K fd ps []) (hx : Passes CX X E) : OpR X (compareOp .LtE) (rOwnI X.K C sp E id) := by
  intro pins s σ H x y v u Q I rx ry h
  obtain ⟨a, dx, fs, b, dy, gs, rfl, rfl, ha, hb', q⟩ := h
  cases (show v = Value.ref a from rx)
  cases (show u = Value.ref b from ry)
  obtain ⟨mA, J, _⟩ := ins_get I.hok ha
  obtain ⟨mB, J', _⟩ := ins_get I.hok hb'
  obtain ⟨od, J, _⟩ := J.look
  obtain ⟨od', J', _⟩ := J'.look
  obtain ⟨m, hF⟩ := I.fr
  show wpAny (model X.prog X.w) X.A (richCompare .LtE _ _) (EP X pins σ Q) X.xe s
  refine PySem.W.cmp_K (op := .LtE) (tb := .ref C) hr.units0 hF I.ok.mod.kin J J'.type (by simp [PySem.W.notFirst]) hs hf ?_
  refine wpAny_mono (run_two (us := [.ref a, .ref b]) (vs := [.ref a, .ref b]) F hr I.env0 hb hx I (.cons rfl (.cons rfl .nil)) q) (fun w s' z => ?_) fun _ _ x => x
  obtain ⟨z', H', I', rz, k, ez, qz⟩ := z
  subst ez
  cases (show w = Value.bool k from rz)
  exact ⟨.bl k, H', I', rfl, qz⟩
/-- str(x) by the class's own __str__ -/
theorem call_strOwn (F : FnOk X.prog X.w X.K X.mg X.base CX n f fd ps sp) (hr : Room (n + 2) X.A) (hs : PySem.W.findIn X.K (.ref C) "__str__" = some (some (.ref f))) (hf : PySem.W.isFn X.K (.ref f) = true) (hb : Binds X.K fd ps []) (hx : Passes CX X E) :
    CallR X (.type "str") (fun xs H Q => ∃ a dx fs, xs = [.ref a] ∧ H a = some (.ins C dx fs) ∧ sp xs H (fun z H' => ∃ t : Str, z = .str t ∧ Q z H') E) := by
  intro pins s σ H xs us Q I r h
  obtain ⟨a, dx, fs, rfl, ha, q⟩ := h
  obtain ⟨u, rfl, hu⟩ := vals1 r
  cases (show u = Value.ref a from hu)
  obtain ⟨mA, J, _⟩ := ins_get I.hok ha
  obtain ⟨od, J, _⟩ := J.look
  have hr1 : Room (n + 1) X.A.in1 := hr.in1
  have hr2 : Room n X.A.in1.in1 := hr1.in1
  refine PySem.W.kso_call hr2.units0 I.kIn J hs hf ?_
  refine wpAny_mono (run_two (us := [.ref a]) (vs := [.ref a]) F hr2 I.env0.in1.in1 hb hx I (.cons rfl .nil) q) (fun w s' z => ?_) fun _ _ x => x
  obtain ⟨z', H', I', rz, t, ez, qz⟩ := z
  subst ez
  obtain ⟨tk, rfl⟩ := rz
  exact ⟨.str t, H', I', ⟨_, rfl⟩, qz⟩
end
/-! ### data -/
theorem eqvAll_ints : ∀ (xs ys : List Int), PyData.eqvAll (xs.map PyData.int) (ys.map PyData.int) = decide (xs = ys)
  | [], [] => rfl
  | [], y :: ys => rfl
  | x :: xs, [] => rfl
  | x :: xs, y :: ys => by
    show (PyData.eqv (.int x) (.int y) && PyData.eqvAll (xs.map PyData.int) (ys.map PyData.int)) = _
    rw [eqvAll_ints xs ys]
    show ((x == y) && _) = _
    by_cases h : x = y
    · subst h
      by_cases h2 : xs = ys
      · subst h2
        simp
      · simp [h2]
    · have e : (x == y) = false := beq_eq_false_iff_ne.mpr h
      rw [e, Bool.false_and, decide_eq_false (fun q => h (by injection q))]
theorem eqv_intsT (xs ys : List Int) : PyData.eqv (.tuple (xs.map PyData.int)) (.tuple (ys.map PyData.int)) = decide (xs = ys) := eqvAll_ints xs ys
theorem eqv_intsL (xs ys : List Int) : PyData.eqv (.list (xs.map PyData.int)) (.list (ys.map PyData.int)) = decide (xs = ys) := eqvAll_ints xs ys
theorem lay_ints : ∀ xs : List Int, PyData.canLayAll0 (xs.map PyData.int) = true
  | [] => rfl
  | x :: xs => lay_ints xs
theorem depth_ints : ∀ xs : List Int, PyData.depthAll (xs.map PyData.int) ≤ 1
  | [] => by decide
  | x :: xs => by
    have ih := depth_ints xs
    simp only [List.map_cons, PyData.depthAll, PyData.depth]
    omega
theorem shaped_intsT (xs : List Int) : SeqAt.shaped (.tuple (xs.map PyData.int)) = true := by
  have h := depth_ints xs
  show (PyData.canLay0 (.tuple (xs.map PyData.int)) && decide ((PyData.tuple (xs.map PyData.int)).depth ≤ 64)) = true
  rw [Bool.and_eq_true]
  refine ⟨by simp only [PyData.canLay0]; exact lay_ints xs, decide_eq_true ?_⟩
  simp only [PyData.depth]
  omega
theorem shaped_intsL (xs : List Int) : SeqAt.shaped (.list (xs.map PyData.int)) = true := by
  have h := depth_ints xs
  show (PyData.canLay0 (.list (xs.map PyData.int)) && decide ((PyData.list (xs.map PyData.int)).depth ≤ 64)) = true
  rw [Bool.and_eq_true]
  refine ⟨by simp only [PyData.canLay0]; exact lay_ints xs, decide_eq_true ?_⟩
  simp only [PyData.depth]
  omega
theorem dpAll_ints {K : PySem.W.Frag} {H : Hp} : ∀ xs : List Int, DpAll K H (xs.map V.int) (xs.map PyData.int)
  | [] => .nil
  | x :: xs => .cons (.int x) (dpAll_ints xs)
theorem dp_intsT {K : PySem.W.Frag} {H : Hp} {a : Addr} {xs : List Int} (h : SqT K H a (xs.map V.int)) : Dp K H (.ref a) (.tuple (xs.map PyData.int)) := .tup h (dpAll_ints xs)
theorem dp_intsL {K : PySem.W.Frag} {H : Hp} {a : Addr} {xs : List Int} (h : SqL K H a (xs.map V.int)) : Dp K H (.ref a) (.list (xs.map PyData.int)) := .lst h (dpAll_ints xs)
theorem walk_zipT {K : PySem.W.Frag} {a b : Addr} {xs ys : List V} {n : Nat} (hn : n = min xs.length ys.length) : Walk (ItzT K a b) n (fun H => SqT K H a xs ∧ SqT K H b ys) (YPair (fun i => xs[i]?) (fun i => ys[i]?)) := by
  subst hn
  refine ⟨fun i _ hi q => ?_, fun _ q => ⟨xs, ys, q.1, q.2, by omega⟩, fun i H v H' _ q y => ?_⟩
  · have h1 : i < xs.length := by omega
    have h2 : i < ys.length := by omega
    exact ⟨xs, ys, xs[i], ys[i], q.1, q.2, by simp [h1], by simp [h2]⟩
  · obtain ⟨T, x, z, h1, h2, h3, h4, h5⟩ := y
    exact ⟨T, x, z, h1, h2, h3, h4 xs q.1, h5 ys q.2⟩
end Wx

namespace Wx
open PySem PySem.Spec PyProof.Rows L2 NdefX RZ
/-! own operators: an instance and a whole number, two instances of one class -/
theorem back_rel {Q : Value → Shared → Prop} {x : V} {v : Value} {s : Shared} (r : RelV x v) (h : Q v s) : PySem.W.CmpBack Q v s := by
  cases x with
  | non => cases (show v = Value.none from r); exact h
  | bl b => cases (show v = Value.bool b from r); exact h
  | int i => obtain ⟨t, rfl⟩ := r; exact h
  | str z => obtain ⟨t, rfl⟩ := r; exact h
  | byt b => obtain ⟨t, rfl⟩ := r; exact h
  | flt b => obtain ⟨t, rfl⟩ := r; exact h
  | ref a => cases (show v = Value.ref a from r); exact h
  | ty n => cases (show v = Value.type n from r); exact h
/-- what the class at C says of an own operator of the names nm, rn -/
structure OpC (K : PySem.W.Frag) (C f : Addr) (nm rn : Str) : Prop where
  first : PySem.W.selfFirst K C = true
  own : PySem.W.findIn K (.ref C) nm = some (some (.ref f))
  fn : PySem.W.isFn K (.ref f) = true
  back : ∃ rc, PySem.W.findIn K (.ref C) rn = some rc ∧ (rc = none ∨ ∃ g : Addr, rc = some (.ref g))
  i1 : ∃ fo, PySem.W.findIn K (.type "int") nm = some fo
  i2 : ∃ ro, PySem.W.findIn K (.type "int") rn = some ro
  isub : PySem.W.subIn K (.type "int") (.ref C) = some false
def tOwnN (C : Addr) (sp : Sp) (E : L2.St → XK) (ta tb : TE) : TE := fun σ H Q => ta σ H fun x H1 => tb σ H1 fun y H2 => ∃ a dx fs i, x = .ref a ∧ y = .int i ∧ H2 a = some (.ins C dx fs) ∧ sp [x, y] H2 Q (E σ)
def tOwnB (C : Addr) (sp : Sp) (E : L2.St → XK) (ta tb : TE) : TE := fun σ H Q => ta σ H fun x H1 => tb σ H1 fun y H2 => ∃ a dx fs b dy gs, x = .ref a ∧ y = .ref b ∧ H2 a = some (.ins C dx fs) ∧ H2 b = some (.ins C dy gs) ∧ sp [x, y] H2 Q (E σ)
section
variable {X : Cx} {CX : CXT} {C f : Addr} {n : Nat} {fd : FuncData} {ps : List Str} {sp : Sp} {E : L2.St → XK} {op : Operator} {a b : Expr} {ta tb : TE} {pos : Pos} {nm rn : Str}
theorem pe_ownN (F : FnOk X.prog X.w X.K X.mg X.base CX n f fd ps sp) (hr : Room n X.A) (O : OpC X.K C f nm rn) (hb : Binds X.K fd ps []) (hx : ∀ σ, PassesAt CX X σ (E σ)) (en : PySem.dunder op.info.2 = nm) (er : PySem.dunderR op.info.2 = rn) (ha : PE X a ta) (hb' : PE X b tb) : PE X (.BinOp a op b pos) (tOwnN C sp E ta tb) := by
  subst en er
  refine ⟨fun pins s σ H Q I h => ?_⟩
  refine wpAny_BinOp (binT ha hb' I h fun v u s2 x y H2 I2 rx ry q => ?_)
  obtain ⟨p, dx, fs, i, rfl, rfl, hp, q⟩ := q
  cases (show v = Value.ref p from rx)
  obtain ⟨t, rfl⟩ := id ry
  obtain ⟨mA, J, _⟩ := ins_get I2.hok hp
  obtain ⟨od, J, _⟩ := J.look
  obtain ⟨m, hF⟩ := I2.fr
  obtain ⟨rc, e1, e2⟩ := O.back
  obtain ⟨fo, e3⟩ := O.i1
  obtain ⟨ro, e4⟩ := O.i2
  refine PySem.W.ksp_binT (T := "int") hF I2.ok.mod.kin J rfl O.first O.own O.fn e1 e2 e3 e4 O.isub ?_
  exact wpAny_mono (run_fnS (us := [.ref p, .int i t]) (vs := [.ref p, .int i]) F hr hb (hx σ) I2 (.cons rfl (.cons ⟨t, rfl⟩ .nil)) q) (fun w s' z => by
    obtain ⟨z', H', I', rz, qz⟩ := z
    exact back_rel rz ⟨z', H', I', rz, qz⟩) fun _ _ x => x
theorem pe_ownB (F : FnOk X.prog X.w X.K X.mg X.base CX n f fd ps sp) (hr : Room n X.A) (O : OpC X.K C f nm rn) (hb : Binds X.K fd ps []) (hx : ∀ σ, PassesAt CX X σ (E σ)) (en : PySem.dunder op.info.2 = nm) (er : PySem.dunderR op.info.2 = rn) (ha : PE X a ta) (hb' : PE X b tb) : PE X (.BinOp a op b pos) (tOwnB C sp E ta tb) := by
  subst en er
  refine ⟨fun pins s σ H Q I h => ?_⟩
  refine wpAny_BinOp (binT ha hb' I h fun v u s2 x y H2 I2 rx ry q => ?_)
  obtain ⟨p, dx, fs, r, dy, gs, rfl, rfl, hp, hq, q⟩ := q
  cases (show v = Value.ref p from rx)
  cases (show u = Value.ref r from ry)
  obtain ⟨mA, J, _⟩ := ins_get I2.hok hp
  obtain ⟨mB, J', _⟩ := ins_get I2.hok hq
  obtain ⟨od, J, _⟩ := J.look
  obtain ⟨od', J', _⟩ := J'.look
  obtain ⟨m, hF⟩ := I2.fr
  refine PySem.W.binop_K hF I2.ok.mod.kin J J'.type O.first O.own O.fn ?_
  exact wpAny_mono (run_fnS (us := [.ref p, .ref r]) (vs := [.ref p, .ref r]) F hr hb (hx σ) I2 (.cons rfl (.cons rfl .nil)) q) (fun w s' z => by
    obtain ⟨z', H', I', rz, qz⟩ := z
    exact back_rel rz ⟨z', H', I', rz, qz⟩) fun _ _ x => x
end
end Wx

namespace Wb
open PySem PySem.Spec PyProof.Rows L2 Wx NdefX
def top (i : Nat) : Stmt := PySem.Challenge.pw_waterbyturns_k09_days.main.body.getD i (.Pass ⟨0, 0, 0, 0⟩)
/-! ### a def that stands, by its name: what a caller needs -/
structure Cal (P : Program) (w : World) (K : PySem.W.Frag) (mg : Str → Option Value) (base : Heap) (name : Str) (ps : List Str) (k : Nat) (sp : Sp) : Prop where
  mk0 ::
  ex : ∃ (g : Addr) (gd : FuncData), FnOk P w K mg base CX0 k g gd ps sp ∧ mg name = some (.ref g) ∧ PySem.W.keepIn K (.ref g) = true ∧ Binds K gd ps []
/-! ### frames -/
/-- what is tracked outside xs stays -/
def Frm (xs : List Addr) (H H' : Hp) : Prop := ∀ b o, ¬ b ∈ xs → H b = some o → H' b = some o
theorem Frm.refl (xs : List Addr) (H : Hp) : Frm xs H H := fun _ _ _ h => h
theorem Frm.trans {xs : List Addr} {H H1 H2 : Hp} (a : Frm xs H H1) (b : Frm xs H1 H2) : Frm xs H H2 := fun c o n h => b c o n (a c o n h)
theorem Frm.of_same {xs : List Addr} {H H' : Hp} (a : Same H H') : Frm xs H H' := fun b o _ h => a b o h
theorem Frm.mono {xs ys : List Addr} {H H' : Hp} (a : Frm xs H H') (h : ∀ b, b ∈ xs → b ∈ ys) : Frm ys H H' := fun b o n e => a b o (fun m => n (h b m)) e
theorem Frm.put {xs : List Addr} {H : Hp} {a : Addr} {o : HO} (m : a ∈ xs) : Frm xs H (upd H a o) := fun b p n e => by
  rw [upd_ne (fun q => n (by rw [q]; exact m))]
  exact e
theorem Same.new {H : Hp} {a : Addr} {o : HO} (n : H a = none) : Same H (upd H a o) := fun b p e => by
  rw [upd_ne (ne_of_none e n)]
  exact e
theorem Frm.new {xs : List Addr} {H : Hp} {a : Addr} {o : HO} (n : H a = none) : Frm xs H (upd H a o) := Frm.of_same (Same.new n)
theorem Frm.same {H H' : Hp} (a : Frm [] H H') : Same H H' := fun b o e => a b o (by simp) e
/-- an address that was new and may change behind its making is no part of the frame of what was there before -/
theorem Frm.drop {x : Addr} {xs : List Addr} {H0 H1 H2 : Hp} (n : H0 x = none) (a : Frm xs H0 H1) (b : Frm (x :: xs) H1 H2) : Frm xs H0 H2 := fun c o nc e => by
  refine b c o ?_ (a c o nc e)
  intro m
  rcases List.mem_cons.mp m with q | q
  · rw [q] at e
    rw [n] at e
    cases e
  · exact nc q
theorem Frm.none {xs : List Addr} {H H' : Hp} (a : Frm xs H H') {l : Addr} (nl : ¬ l ∈ xs) (h : H' l = Option.none) : H l = Option.none := by
  cases q : H l with
  | none => rfl
  | some o =>
    have := a l o nl q
    rw [this] at h
    cases h
/-- the heap without xs -/
def hid (xs : List Addr) (H : Hp) : Hp := fun b => if b ∈ xs then none else H b
theorem hid_same (xs : List Addr) (H : Hp) : Same (hid xs H) H := fun b o e => by
  unfold hid at e
  split at e
  · cases e
  · exact e
theorem hid_frm {xs : List Addr} {H H' : Hp} (a : Frm xs H H') : Same (hid xs H) (hid xs H') := fun b o e => by
  unfold hid at e ⊢
  split at e
  · cases e
  · rename_i n
    rw [if_neg n]
    exact a b o n e
theorem hid_eq {xs : List Addr} {H : Hp} {b : Addr} (n : ¬ b ∈ xs) : hid xs H b = H b := if_neg n
theorem hid_mono {xs ys : List Addr} {H : Hp} (h : ∀ b, b ∈ xs → b ∈ ys) : Same (hid ys H) (hid xs H) := fun b o e => by
  unfold hid at e ⊢
  split at e
  · cases e
  · rename_i n
    rw [if_neg (fun m => n (h b m))]
    exact e
theorem hid_nil (H : Hp) : hid [] H = H := by
  funext b
  exact if_neg (by simp)
theorem rd_same {H H' : Hp} (s : Same H H') {a : Addr} {o : HO} (h : Rd H a o) : Rd H' a o := by
  rcases h with h | ⟨x, h⟩
  · exact .inl (s _ _ h)
  · exact .inr ⟨x, s _ _ h⟩
theorem seqT {K : PySem.W.Frag} {H H' : Hp} {a : Addr} {xs : List V} (s : Same H H') (h : SqT K H a xs) : SqT K H' a xs := h.imp (rd_same s) id
/-! data in the heap, seen from a larger heap -/
mutual
theorem dp_same {K : PySem.W.Frag} {H H' : Hp} (s : Same H H') : ∀ {v : V} {d : PyData}, Dp K H v d → Dp K H' v d
  | _, _, .non => .non
  | _, _, .bl b => .bl b
  | _, _, .int i => .int i
  | _, _, .str x => .str x
  | _, _, .lst h r => .lst (s.seq h) (dpAll_same s r)
  | _, _, .tup h r => .tup (seqT s h) (dpAll_same s r)
theorem dpAll_same {K : PySem.W.Frag} {H H' : Hp} (s : Same H H') : ∀ {v : List V} {d : List PyData}, DpAll K H v d → DpAll K H' v d
  | _, _, .nil => .nil
  | _, _, .cons a b => .cons (dp_same s a) (dpAll_same s b)
end
theorem dpAll_get {K : PySem.W.Frag} {H : Hp} : ∀ {vs : List V} {ds : List PyData}, DpAll K H vs ds → ∀ {i : Nat} {v : V}, vs[i]? = some v → ∃ d, ds[i]? = some d ∧ Dp K H v d
  | _, _, .nil, i, v, h => by simp at h
  | _, _, .cons a b, 0, v, h => by
    have e := Option.some.inj h
    subst e
    exact ⟨_, rfl, a⟩
  | _, _, .cons a b, i + 1, v, h => dpAll_get b (i := i) h
theorem dpAll_len {K : PySem.W.Frag} {H : Hp} : ∀ {vs : List V} {ds : List PyData}, DpAll K H vs ds → vs.length = ds.length
  | _, _, .nil => rfl
  | _, _, .cons _ b => congrArg (· + 1) (dpAll_len b)
theorem dpAll_snoc {K : PySem.W.Frag} {H : Hp} : ∀ {vs : List V} {ds : List PyData} {v : V} {d : PyData}, DpAll K H vs ds → Dp K H v d → DpAll K H (vs ++ [v]) (ds ++ [d])
  | _, _, _, _, .nil, h => .cons h .nil
  | _, _, _, _, .cons a b, h => .cons a (dpAll_snoc b h)
theorem dpAll_ints {K : PySem.W.Frag} {H : Hp} : ∀ (l : List Int), DpAll K H (l.map V.int) (l.map PyData.int)
  | [] => .nil
  | i :: l => .cons (.int i) (dpAll_ints l)
theorem dpAll_ints_eq {K : PySem.W.Frag} {H : Hp} : ∀ {l : List Int} {vs : List V}, DpAll K H vs (l.map PyData.int) → vs = l.map V.int
  | [], _, .nil => rfl
  | i :: l, _, .cons (.int _) b => congrArg (V.int i :: ·) (dpAll_ints_eq b)
/-- o[i] of a list, for o[i] += e -/
theorem get_list {X : Cx} : PGet X (fun o i H Q => ∃ p xs k z, o = .ref p ∧ i = .int k ∧ SqL X.K H p xs ∧ 0 ≤ k ∧ xs[k.toNat]? = some z ∧ Q z H) := by
  intro pins s σ H o i ov iv Q I ro ri h
  obtain ⟨p, xs, k, z, rfl, rfl, hq, h0, hz, q⟩ := h
  cases ro
  obtain ⟨t, rfl⟩ := ri
  obtain ⟨its, r, pl, hs⟩ := I.list hq
  obtain ⟨w, ew, rw'⟩ := r.get hz
  have hl := r.length
  have hn := line63
  have hlt : k.toNat < xs.length := (List.getElem?_eq_some_iff.mp hz).1
  exact wpAny_getItem_list pl.isList h0 (by omega) (by simpa using ew) ⟨z, H, I, rw', q⟩
def rListOf (K : PySem.W.Frag) : List V → Hp → VK → Prop := fun xs H Q => ∃ p ys, xs = [.ref p] ∧ (SqL K H p ys ∨ SqT K H p ys) ∧ ∀ l, H l = none → Q (.ref l) (upd H l (.lst ys))
def rLenSeq (K : PySem.W.Frag) : List V → Hp → VK → Prop := fun xs H Q => ∃ p ys, xs = [.ref p] ∧ (SqL K H p ys ∨ SqT K H p ys) ∧ Q (.int ys.length) H
theorem Cal.mk {P : Program} {w : World} {K : PySem.W.Frag} {mg : Str → Option Value} {base : Heap} {name : Str} {ps : List Str} {k : Nat} {sp : Sp} {g : Addr} {gd : FuncData} (G : FnOk P w K mg base CX0 k g gd ps sp) (m : mg name = some (.ref g)) (kp : PySem.W.keepIn K (.ref g) = true) (b : Binds K gd ps []) : Cal P w K mg base name ps k sp := .mk0 ⟨g, gd, G, m, kp, b⟩
abbrev s_shown : Stmt := top 1
abbrev N_shown : List Str := ["value"]
abbrev P_shown : List Str := ["value"]
theorem sc_shown : FnScope N_shown P_shown (defScope s_shown) := ⟨rfl, rfl, rfl, by decide +kernel, rfl, by decide +kernel, by decide +kernel⟩
abbrev sBadNumber___init__ : Stmt := inClass (top 3) 0
abbrev NBadNumber___init__ : List Str := ["self", "what", "value", "__class__"]
abbrev PBadNumber___init__ : List Str := ["self", "what", "value"]
theorem scBadNumber___init__ : NScope NBadNumber___init__ PBadNumber___init__ ["__class__"] (defScope sBadNumber___init__) := nscope_by (by decide +kernel)
abbrev scheck_number : Stmt := top 8
abbrev Ncheck_number : List Str := ["what", "value", "low", "high"]
abbrev Pcheck_number : List Str := ["what", "value", "low", "high"]
theorem sccheck_number : FnScope Ncheck_number Pcheck_number (defScope scheck_number) := ⟨rfl, rfl, rfl, by decide +kernel, rfl, by decide +kernel, by decide +kernel⟩
abbrev scheck_units : Stmt := top 9
abbrev Ncheck_units : List Str := ["what", "values", "value"]
abbrev Pcheck_units : List Str := ["what", "values"]
theorem sccheck_units : FnScope Ncheck_units Pcheck_units (defScope scheck_units) := ⟨rfl, rfl, rfl, by decide +kernel, rfl, by decide +kernel, by decide +kernel⟩
abbrev slesser : Stmt := top 10
abbrev Nlesser : List Str := ["one", "two"]
abbrev Plesser : List Str := ["one", "two"]
theorem sclesser : FnScope Nlesser Plesser (defScope slesser) := ⟨rfl, rfl, rfl, by decide +kernel, rfl, by decide +kernel, by decide +kernel⟩
abbrev sDay___init__ : Stmt := inClass (top 12) 0
abbrev NDay___init__ : List Str := ["self", "dry", "rain", "fill", "mood", "width"]
abbrev PDay___init__ : List Str := ["self", "dry", "rain", "fill", "mood"]
theorem scDay___init__ : FnScope NDay___init__ PDay___init__ (defScope sDay___init__) := ⟨rfl, rfl, rfl, by decide +kernel, rfl, by decide +kernel, by decide +kernel⟩
abbrev sDay___eq__ : Stmt := inClass (top 12) 1
abbrev NDay___eq__ : List Str := ["self", "other"]
abbrev PDay___eq__ : List Str := ["self", "other"]
theorem scDay___eq__ : FnScope NDay___eq__ PDay___eq__ (defScope sDay___eq__) := ⟨rfl, rfl, rfl, by decide +kernel, rfl, by decide +kernel, by decide +kernel⟩
abbrev sDay___le__ : Stmt := inClass (top 12) 2
abbrev NDay___le__ : List Str := ["self", "other", "drier", "mine", "its"]
abbrev PDay___le__ : List Str := ["self", "other"]
theorem scDay___le__ : FnScope NDay___le__ PDay___le__ (defScope sDay___le__) := ⟨rfl, rfl, rfl, by decide +kernel, rfl, by decide +kernel, by decide +kernel⟩
abbrev sDay___add__ : Stmt := inClass (top 12) 3
abbrev NDay___add__ : List Str := ["self", "other", "units", "rain", "wet"]
abbrev PDay___add__ : List Str := ["self", "other"]
theorem scDay___add__ : FnScope NDay___add__ PDay___add__ (defScope sDay___add__) := ⟨rfl, rfl, rfl, by decide +kernel, rfl, by decide +kernel, by decide +kernel⟩
abbrev s_law_start : Stmt := top 14
abbrev N_law_start : List Str := ["script", "first"]
abbrev P_law_start : List Str := ["script"]
theorem sc_law_start : FnScope N_law_start P_law_start (defScope s_law_start) := ⟨rfl, rfl, rfl, by decide +kernel, rfl, by decide +kernel, by decide +kernel⟩
abbrev s_law_draw : Stmt := top 15
abbrev N_law_draw : List Str := ["script", "state", "limit", "number", "cell", "mixed"]
abbrev P_law_draw : List Str := ["script", "state", "limit"]
theorem sc_law_draw : FnScope N_law_draw P_law_draw (defScope s_law_draw) := ⟨rfl, rfl, rfl, by decide +kernel, rfl, by decide +kernel, by decide +kernel⟩
abbrev s_law_refusal : Stmt := top 16
abbrev N_law_refusal : List Str := ["dry", "rain", "fill", "mood", "e"]
abbrev P_law_refusal : List Str := ["dry", "rain", "fill", "mood"]
theorem sc_law_refusal : FnScope N_law_refusal P_law_refusal (defScope s_law_refusal) := ⟨rfl, rfl, rfl, by decide +kernel, rfl, by decide +kernel, by decide +kernel⟩
abbrev s_law_sum : Stmt := top 17
abbrev N_law_sum : List Str := ["day", "units", "e"]
abbrev P_law_sum : List Str := ["day", "units"]
theorem sc_law_sum : FnScope N_law_sum P_law_sum (defScope s_law_sum) := ⟨rfl, rfl, rfl, by decide +kernel, rfl, by decide +kernel, by decide +kernel⟩
abbrev s_law_harsher : Stmt := top 18
abbrev N_law_harsher : List Str := ["one", "two", "at", "units"]
abbrev P_law_harsher : List Str := ["one", "two"]
theorem sc_law_harsher : FnScope N_law_harsher P_law_harsher (defScope s_law_harsher) := ⟨rfl, rfl, rfl, by decide +kernel, rfl, by decide +kernel, by decide +kernel⟩
abbrev s_law_near : Stmt := top 19
abbrev N_law_near : List Str := ["value", "shift"]
abbrev P_law_near : List Str := ["value", "shift"]
theorem sc_law_near : FnScope N_law_near P_law_near (defScope s_law_near) := ⟨rfl, rfl, rfl, by decide +kernel, rfl, by decide +kernel, by decide +kernel⟩
abbrev s_law_parts : Stmt := top 20
abbrev N_law_parts : List Str := ["script", "state", "many", "dry", "rain", "k"]
abbrev P_law_parts : List Str := ["script", "state", "many"]
theorem sc_law_parts : FnScope N_law_parts P_law_parts (defScope s_law_parts) := ⟨rfl, rfl, rfl, by decide +kernel, rfl, by decide +kernel, by decide +kernel⟩
abbrev s_law_other : Stmt := top 21
abbrev N_law_other : List Str := ["script", "state", "one", "many", "two", "k", "part", "at"]
abbrev P_law_other : List Str := ["script", "state", "one", "many"]
theorem sc_law_other : FnScope N_law_other P_law_other (defScope s_law_other) := ⟨rfl, rfl, rfl, by decide +kernel, rfl, by decide +kernel, by decide +kernel⟩
abbrev s_law_sums_hold : Stmt := top 22
abbrev N_law_sums_hold : List Str := ["script", "state", "a", "one", "units", "told", "more", "value"]
abbrev P_law_sums_hold : List Str := ["script", "state", "a", "one"]
theorem sc_law_sums_hold : FnScope N_law_sums_hold P_law_sums_hold (defScope s_law_sums_hold) := ⟨rfl, rfl, rfl, by decide +kernel, rfl, by decide +kernel, by decide +kernel⟩
abbrev s_law_refusals_hold : Stmt := top 23
abbrev N_law_refusals_hold : List Str := ["script", "state", "one", "many", "at", "wrong", "bad", "wet"]
abbrev P_law_refusals_hold : List Str := ["script", "state", "one", "many"]
theorem sc_law_refusals_hold : FnScope N_law_refusals_hold P_law_refusals_hold (defScope s_law_refusals_hold) := ⟨rfl, rfl, rfl, by decide +kernel, rfl, by decide +kernel, by decide +kernel⟩
abbrev slaw : Stmt := top 24
abbrev Nlaw : List Str := ["script", "state", "many", "one", "two", "dry", "rain", "a", "b"]
abbrev Plaw : List Str := ["script"]
theorem sclaw : FnScope Nlaw Plaw (defScope slaw) := ⟨rfl, rfl, rfl, by decide +kernel, rfl, by decide +kernel, by decide +kernel⟩
/-- what the top has written -/
structure Txt (K : PySem.W.Frag) (mg : Str → Option Value) : Prop where
  b_len : mg "len" = none
  b_abs : mg "abs" = none
  b_int : mg "int" = none
  b_bool : mg "bool" = none
  b_str : mg "str" = none
  b_range : mg "range" = none
  b_all : mg "all" = none
  b_isinstance : mg "isinstance" = none
  b_repr : mg "repr" = none
  b_super : mg "super" = none
  b_tuple : mg "tuple" = none
  b_list : mg "list" = none
  b_zip : mg "zip" = none
  b_enumerate : mg "enumerate" = none
  b_max : mg "max" = none
  b_min : mg "min" = none
  c_MOST_PLOTS : ∃ t, mg "MOST_PLOTS" = some (.int 4 t)
  c_MOST_UNITS : ∃ t, mg "MOST_UNITS" = some (.int 8 t)
  c_MOST_MOODS : ∃ t, mg "MOST_MOODS" = some (.int 4 t)
end Wb

namespace Wb
open PySem PySem.Spec PyProof.Rows L2 Wx NdefX RZ StX PyProof.Rows.FinIter
section
variable {P : Program} {w : World} {K : PySem.W.Frag} {mg : Str → Option Value} {base : Heap}

/-- a state: four ints -/
def St4 (H : Hp) (a : Addr) : Prop := ∃ i j k l : Int, H a = some (.lst [.int i, .int j, .int k, .int l])
/-- the script at a and the state at s -/
def Scr (K : PySem.W.Frag) (H : Hp) (a s : Addr) : Prop := (∃ ns : List Int, SqL K (hid [s] H) a (ns.map V.int) ∧ ns.length ≤ 63) ∧ St4 H s
theorem Frm.put' {xs : List Addr} {H H1 : Hp} {a : Addr} {o : HO} (f : Frm xs H H1) (m : a ∈ xs) : Frm xs H (upd H1 a o) := f.trans (Frm.put m)
theorem Scr.frm {K : PySem.W.Frag} {H H' : Hp} {a s : Addr} (h : Scr K H a s) (f : Frm [s] H H') (q : St4 H' s) : Scr K H' a s := by
  obtain ⟨⟨ns, h1, h2⟩, _⟩ := h
  exact ⟨⟨ns, (hid_frm f).seq h1, h2⟩, q⟩
/-- what else is made or changed is not the state -/
theorem Scr.same {K : PySem.W.Frag} {H H' : Hp} {a s : Addr} (h : Scr K H a s) (f : Same H H') : Scr K H' a s := by
  obtain ⟨i, j, k, l, e⟩ := h.2
  exact h.frm (Frm.of_same f) ⟨i, j, k, l, f _ _ e⟩
theorem Scr.ne {K : PySem.W.Frag} {H : Hp} {a s p : Addr} (h : Scr K H a s) (n : H p = none) : ¬ p = s := by
  rintro rfl
  obtain ⟨_, _, _, _, e⟩ := h.2
  rw [n] at e
  cases e
theorem Scr.made {K : PySem.W.Frag} {H : Hp} {a p : Addr} {ns : List Int} (hS : SqL K H a (ns.map V.int)) (hl : ns.length ≤ 63) (n : H p = none) {i j k l : Int} : Scr K (upd H p (.lst [.int i, .int j, .int k, .int l])) a p := by
  refine ⟨⟨ns, Same.seq (H := H) (fun b o e => ?_) hS, hl⟩, i, j, k, l, upd_same⟩
  have nb : b ≠ p := ne_of_none e n
  rw [hid_eq (by simpa using nb), upd_ne nb]
  exact e
theorem ints_at {ns : List Int} {i : Int} (h0 : 0 ≤ i) (h1 : i < ns.length) : ∃ z : Int, atI (ns.map V.int) i = some (.int z) := by
  obtain ⟨j, rfl⟩ : ∃ j : Nat, i = (j : Int) := ⟨i.toNat, by omega⟩
  have hj : j < ns.length := by omega
  exact ⟨ns[j], atI_nat (by simp [hj])⟩
theorem fmod0 {a b : Int} (h : 0 < b) : 0 ≤ a.fmod b := by
  rw [Int.fmod_eq_emod_of_nonneg _ (by omega)]
  exact Int.emod_nonneg _ (by omega)
theorem fmod1 {a b : Int} (h : 0 < b) : a.fmod b < b := by
  rw [Int.fmod_eq_emod_of_nonneg _ (by omega)]
  exact Int.emod_lt_of_pos _ h
def sp_law_start (K : PySem.W.Frag) : Sp := fun vs H Q _ => ∃ (a : Addr) (ns : List Int), vs = [.ref a] ∧ SqL K H a (ns.map V.int) ∧ ns.length ≤ 63 ∧ ∀ p H', Same H H' → H p = none → Scr K H' a p → Q (.ref p) H'
def sp_law_draw (K : PySem.W.Frag) : Sp := fun vs H Q _ => ∃ (a s : Addr) (n : Int), vs = [.ref a, .ref s, .int n] ∧ Scr K H a s ∧ 0 < n ∧ n < 1073741824 ∧ ∀ (r : Int) (H' : Hp), 0 ≤ r → r < n → Frm [s] H H' → Scr K H' a s → Q (.int r) H'

theorem ok_law_start {f : Addr} {fd : FuncData} (F : Fun K "_law_start" "_law_start" s_law_start f fd) (T : Txt K mg) : FnOk P w K mg base CX0 1 f fd P_law_start (sp_law_start K) := by
  refine F.ok sc_law_start (fun vs H Q E h => ?_) (fun cdv A outer s H vs Q E hr h => ?_)
  · obtain ⟨a, ns, rfl, hS, hlen, k⟩ := h
    rfl
  · obtain ⟨a, ns, rfl, hS, hlen, k⟩ := h
    refine ⟨_, (pss_cons (ps_set (i := 1) sc_law_start.nd rfl (by first | exact Or.inl rfl | exact Or.inr rfl) pe_int)
  (pss_cons (ps_if (pt_cmpR op_gt (pe_callB call_len_seq (by rfl) T.b_len PySem.boot_len (pa_cons (pv 0) pa_nil)) pe_int (nomark _))
  (pss_one (ps_set (i := 1) sc_law_start.nd rfl (by first | exact Or.inl rfl | exact Or.inr rfl) (pe_ix ix_list (pv 0) pe_int (fun _ _ => rfl))))
  pss_nil)
  (pss_one (ps_ret (pe_lst (pa_cons (pe_callB (id := "abs") call_abs (by rfl) T.b_abs (by decide +kernel) (pa_cons (pe_callTy (T := "int") call_int1 (by rfl) T.b_int (by decide +kernel) (pa_cons (pv 1) pa_nil)) pa_nil)) (pa_cons (pe_callTy (T := "int") call_int1 (by rfl) T.b_int (by decide +kernel) (pa_cons (pe_cmpR op_ge (pe_callB (id := "abs") call_abs (by rfl) T.b_abs (by decide +kernel) (pa_cons (pe_callTy (T := "int") call_int1 (by rfl) T.b_int (by decide +kernel) (pa_cons (pv 1) pa_nil)) pa_nil)) (pe_op op_pow pe_int pe_int) (nomark _)) pa_nil)) (pa_cons pe_int (pa_cons pe_int pa_nil))))))))), ?_⟩
    refine ⟨_, rfl, a, _, rfl, .inl hS, _, _, rfl, rfl, _, rfl, ?_⟩
    refine ite2 (fun c => ?_) (fun c => ?_)
    · have hp : (0 : Int) < ns.length := by simpa using of_decide_eq_true c
      obtain ⟨z, hz⟩ := ints_at (ns := ns) (i := 0) (by omega) hp
      refine ⟨_, rfl, a, _, _, _, rfl, rfl, hS, hz, ?_⟩
      refine ⟨_, rfl, .inl ⟨_, rfl, _, rfl, _, rfl, .inl ⟨_, rfl, _, rfl, _, _, rfl, rfl, ⟨by decide, by decide, by decide⟩, _, _, rfl, rfl, .inr ⟨_, rfl, (by show 4 ≤ sizeLine; decide), fun l hl => k _ _ (Same.new hl) hl (Scr.made hS hlen hl)⟩⟩⟩⟩
    · refine ⟨_, rfl, .inl ⟨_, rfl, _, rfl, _, rfl, .inl ⟨_, rfl, _, rfl, _, _, rfl, rfl, ⟨by decide, by decide, by decide⟩, _, _, rfl, rfl, .inr ⟨_, rfl, (by show 4 ≤ sizeLine; decide), fun l hl => k _ _ (Same.new hl) hl (Scr.made hS hlen hl)⟩⟩⟩⟩

theorem ok_law_draw {f : Addr} {fd : FuncData} (F : Fun K "_law_draw" "_law_draw" s_law_draw f fd) (T : Txt K mg) : FnOk P w K mg base CX0 1 f fd P_law_draw (sp_law_draw K) := by
  refine F.ok sc_law_draw (fun vs H Q E h => ?_) (fun cdv A outer s H vs Q E hr h => ?_)
  · obtain ⟨a, s0, n, rfl, hScr, n0, n1, k⟩ := h
    rfl
  · obtain ⟨a, s0, n, rfl, hScr, n0, n1, k⟩ := h
    refine ⟨_, (pss_cons (ps_asg (pe_op op_add (pe_ix ix_list (pv 1) pe_int (fun _ _ => rfl)) pe_int) (pg_sub (pv 1) pe_int set_list))
  (pss_cons (ps_if (PW.pt (pw_and (pt_cmpR op_eq (pe_ix ix_list (pv 1) pe_int (fun _ _ => rfl)) pe_int (nomark _)) (pw_and1 (pt_cmpR op_gt (pe_ix ix_list (pv 1) pe_int (fun _ _ => rfl)) pe_int (nomark _)))))
  (pss_cons (ps_set (i := 3) sc_law_draw.nd rfl (by first | exact Or.inl rfl | exact Or.inr rfl) (pe_op op_modN (pe_callTy (T := "int") call_int1 (by rfl) T.b_int (by decide +kernel) (pa_cons (pe_ix ix_list (pv 1) pe_int (fun _ _ => rfl)) pa_nil)) (pv 2)))
  (pss_cons (ps_asg (pe_op op_fdivN (pe_ix ix_list (pv 1) pe_int (fun _ _ => rfl)) (pv 2)) (pg_sub (pv 1) pe_int set_list))
  (pss_one (ps_ret (pv 3)))))
  pss_nil)
  (pss_cons (ps_asg pe_int (pg_sub (pv 1) pe_int set_list))
  (pss_cons (ps_set (i := 4) sc_law_draw.nd rfl (by first | exact Or.inl rfl | exact Or.inr rfl) pe_int)
  (pss_cons (ps_if (pt_cmpR op_gt (pe_callB call_len_seq (by rfl) T.b_len PySem.boot_len (pa_cons (pv 0) pa_nil)) pe_int (nomark _))
  (pss_one (ps_set (i := 4) sc_law_draw.nd rfl (by first | exact Or.inl rfl | exact Or.inr rfl) (pe_ix ix_list (pv 0) (pe_op op_modN (pe_callTy (T := "int") call_int1 (by rfl) T.b_int (by decide +kernel) (pa_cons (pe_ix ix_list (pv 1) pe_int (fun _ _ => rfl)) pa_nil)) (pe_callB call_len_seq (by rfl) T.b_len PySem.boot_len (pa_cons (pv 0) pa_nil))) (fun _ _ => rfl))))
  pss_nil)
  (pss_cons (ps_asg (pe_op op_add (pe_ix ix_list (pv 1) pe_int (fun _ _ => rfl)) pe_int) (pg_sub (pv 1) pe_int set_list))
  (pss_cons (ps_set (i := 5) sc_law_draw.nd rfl (by first | exact Or.inl rfl | exact Or.inr rfl) (pe_op op_mul (pe_op op_modN (pe_callTy (T := "int") call_int1 (by rfl) T.b_int (by decide +kernel) (pa_cons (pe_ix ix_list (pv 1) pe_int (fun _ _ => rfl)) pa_nil)) pe_int) pe_int))
  (pss_cons (ps_set (i := 5) sc_law_draw.nd rfl (by first | exact Or.inl rfl | exact Or.inr rfl) (pe_op op_add (pe_op op_add (pe_op op_add (pv 5) (pe_op op_modN (pe_callTy (T := "int") call_int1 (by rfl) T.b_int (by decide +kernel) (pa_cons (pv 4) pa_nil)) pe_int)) (pe_op op_mul pe_int (pe_ix ix_list (pv 1) pe_int (fun _ _ => rfl)))) pe_int))
  (pss_cons (ps_asg (pe_op op_modN (pe_callTy (T := "int") call_int1 (by rfl) T.b_int (by decide +kernel) (pa_cons (pv 5) pa_nil)) pe_int) (pg_sub (pv 1) pe_int set_list))
  (pss_cons (ps_set (i := 5) sc_law_draw.nd rfl (by first | exact Or.inl rfl | exact Or.inr rfl) (pe_op op_modN (pe_callTy (T := "int") call_int1 (by rfl) T.b_int (by decide +kernel) (pa_cons (pe_op op_add (pe_op op_mul (pe_ix ix_list (pv 1) pe_int (fun _ _ => rfl)) pe_int) (pe_ix ix_list (pv 1) pe_int (fun _ _ => rfl))) pa_nil)) pe_int))
  (pss_one (ps_ret (pe_op op_modN (pe_callTy (T := "int") call_int1 (by rfl) T.b_int (by decide +kernel) (pa_cons (pe_op op_fdivN (pv 5) pe_int) pa_nil)) (pv 2)))))))))))))), ?_⟩
    obtain ⟨⟨ns, hS, hl⟩, i0, i1, i2, i3, h4⟩ := id hScr
    have hA : ∀ H', Frm [s0] H H' → SqL K H' a (ns.map V.int) := fun H' fr => ((hid_frm fr).trans (hid_same _ _)).seq hS
    -- state[3] = state[3] + 1
    refine ⟨_, rfl, s0, _, _, _, rfl, rfl, SqL.of h4, rfl, _, _, rfl, rfl, _, rfl, s0, _, _, _, rfl, rfl, h4, rfl, ?_⟩
    refine ⟨_, rfl, s0, _, _, _, rfl, rfl, SqL.of upd_same, rfl, rfl, _, rfl, ?_⟩
    refine ite2 (fun c1 => ?_) (fun c1 => ?_)
    · refine ⟨_, rfl, s0, _, _, _, rfl, rfl, SqL.of upd_same, rfl, _, _, rfl, rfl, _, rfl, ?_⟩
      refine ite2 (fun c2 => ?_) (fun c2 => ?_)
      · refine ⟨_, rfl, s0, _, _, _, rfl, rfl, SqL.of upd_same, rfl, .inl ⟨_, rfl, _, rfl, _, _, rfl, rfl, (by show (_ : Int) ≠ 0; omega), ?_⟩⟩
        refine ⟨_, rfl, s0, _, _, _, rfl, rfl, SqL.of upd_same, rfl, _, rfl, _, _, rfl, rfl, ⟨by omega, by omega⟩, _, rfl, s0, _, _, _, rfl, rfl, upd_same, rfl, ?_⟩
        exact ⟨_, rfl, k _ _ (fmod0 n0) (fmod1 n0) (by repeat (first | exact Frm.refl _ _ | refine Frm.put' ?_ (by simp))) (hScr.frm (by repeat (first | exact Frm.refl _ _ | refine Frm.put' ?_ (by simp))) ⟨_, _, _, _, upd_same⟩)⟩
      · refine ⟨_, rfl, s0, _, _, _, rfl, rfl, upd_same, rfl, ?_⟩
        refine ⟨_, rfl, a, _, rfl, .inl (hA _ (by repeat (first | exact Frm.refl _ _ | refine Frm.put' ?_ (by simp)))), _, _, rfl, rfl, _, rfl, ?_⟩
        refine ite2 (fun c => ?_) (fun c => ?_)
        · have hp : (0 : Int) < ns.length := by simpa using of_decide_eq_true c
          obtain ⟨z, hz⟩ := ints_at (ns := ns) (i := i2.fmod ((ns.map V.int).length : Nat)) (fmod0 (by simpa using hp)) (by simpa using fmod1 (a := i2) hp)
          refine ⟨_, rfl, _, rfl, s0, _, _, _, rfl, rfl, SqL.of upd_same, rfl, .inl ⟨_, rfl, _, rfl, a, _, rfl, .inl (hA _ (by repeat (first | exact Frm.refl _ _ | refine Frm.put' ?_ (by simp)))), _, _, rfl, rfl, (by show (((ns.map V.int).length : Nat) : Int) ≠ 0; rw [List.length_map]; omega), a, _, _, _, rfl, rfl, hA _ (by repeat (first | exact Frm.refl _ _ | refine Frm.put' ?_ (by simp))), hz, ?_⟩⟩
          -- state[2] = state[2] + 1; mixed = ..
          refine ⟨_, rfl, s0, _, _, _, rfl, rfl, SqL.of upd_same, rfl, _, _, rfl, rfl, _, rfl, s0, _, _, _, rfl, rfl, upd_same, rfl, ?_⟩
          refine ⟨_, rfl, s0, _, _, _, rfl, rfl, SqL.of upd_same, rfl, .inl ⟨_, rfl, _, _, rfl, rfl, (by show (_ : Int) ≠ 0; decide), _, _, rfl, rfl, .inr ⟨by decide, by decide⟩, ?_⟩⟩
          refine ⟨_, rfl, _, rfl, .inl ⟨_, rfl, _, _, rfl, rfl, (by show (_ : Int) ≠ 0; decide), _, _, rfl, rfl, _, rfl, s0, _, _, _, rfl, rfl, SqL.of upd_same, rfl, _, _, rfl, rfl, .inl ⟨by decide, by decide⟩, _, _, rfl, rfl, _, _, rfl, rfl, ?_⟩⟩
          refine ⟨_, rfl, .inl ⟨_, rfl, _, _, rfl, rfl, (by show (_ : Int) ≠ 0; decide), _, rfl, s0, _, _, _, rfl, rfl, upd_same, rfl, ?_⟩⟩
          refine ⟨_, rfl, s0, _, _, _, rfl, rfl, SqL.of upd_same, rfl, _, _, rfl, rfl, .inr ⟨by decide, by decide⟩, _, rfl, s0, _, _, _, rfl, rfl, SqL.of upd_same, rfl, _, _, rfl, rfl, .inl ⟨_, rfl, _, _, rfl, rfl, (by show (_ : Int) ≠ 0; decide), ?_⟩⟩
          refine ⟨_, rfl, _, _, rfl, rfl, ⟨by decide, by decide⟩, .inl ⟨_, rfl, _, rfl, _, _, rfl, rfl, (by show (_ : Int) ≠ 0; omega), ?_⟩⟩
          exact k _ _ (fmod0 n0) (fmod1 n0) (by repeat (first | exact Frm.refl _ _ | refine Frm.put' ?_ (by simp))) (hScr.frm (by repeat (first | exact Frm.refl _ _ | refine Frm.put' ?_ (by simp))) ⟨_, _, _, _, upd_same⟩)
        · -- state[2] = state[2] + 1; mixed = ..
          refine ⟨_, rfl, s0, _, _, _, rfl, rfl, SqL.of upd_same, rfl, _, _, rfl, rfl, _, rfl, s0, _, _, _, rfl, rfl, upd_same, rfl, ?_⟩
          refine ⟨_, rfl, s0, _, _, _, rfl, rfl, SqL.of upd_same, rfl, .inl ⟨_, rfl, _, _, rfl, rfl, (by show (_ : Int) ≠ 0; decide), _, _, rfl, rfl, .inr ⟨by decide, by decide⟩, ?_⟩⟩
          refine ⟨_, rfl, _, rfl, .inl ⟨_, rfl, _, _, rfl, rfl, (by show (_ : Int) ≠ 0; decide), _, _, rfl, rfl, _, rfl, s0, _, _, _, rfl, rfl, SqL.of upd_same, rfl, _, _, rfl, rfl, .inl ⟨by decide, by decide⟩, _, _, rfl, rfl, _, _, rfl, rfl, ?_⟩⟩
          refine ⟨_, rfl, .inl ⟨_, rfl, _, _, rfl, rfl, (by show (_ : Int) ≠ 0; decide), _, rfl, s0, _, _, _, rfl, rfl, upd_same, rfl, ?_⟩⟩
          refine ⟨_, rfl, s0, _, _, _, rfl, rfl, SqL.of upd_same, rfl, _, _, rfl, rfl, .inr ⟨by decide, by decide⟩, _, rfl, s0, _, _, _, rfl, rfl, SqL.of upd_same, rfl, _, _, rfl, rfl, .inl ⟨_, rfl, _, _, rfl, rfl, (by show (_ : Int) ≠ 0; decide), ?_⟩⟩
          refine ⟨_, rfl, _, _, rfl, rfl, ⟨by decide, by decide⟩, .inl ⟨_, rfl, _, rfl, _, _, rfl, rfl, (by show (_ : Int) ≠ 0; omega), ?_⟩⟩
          exact k _ _ (fmod0 n0) (fmod1 n0) (by repeat (first | exact Frm.refl _ _ | refine Frm.put' ?_ (by simp))) (hScr.frm (by repeat (first | exact Frm.refl _ _ | refine Frm.put' ?_ (by simp))) ⟨_, _, _, _, upd_same⟩)
    · refine ⟨_, rfl, s0, _, _, _, rfl, rfl, upd_same, rfl, ?_⟩
      refine ⟨_, rfl, a, _, rfl, .inl (hA _ (by repeat (first | exact Frm.refl _ _ | refine Frm.put' ?_ (by simp)))), _, _, rfl, rfl, _, rfl, ?_⟩
      refine ite2 (fun c => ?_) (fun c => ?_)
      · have hp : (0 : Int) < ns.length := by simpa using of_decide_eq_true c
        obtain ⟨z, hz⟩ := ints_at (ns := ns) (i := i2.fmod ((ns.map V.int).length : Nat)) (fmod0 (by simpa using hp)) (by simpa using fmod1 (a := i2) hp)
        refine ⟨_, rfl, _, rfl, s0, _, _, _, rfl, rfl, SqL.of upd_same, rfl, .inl ⟨_, rfl, _, rfl, a, _, rfl, .inl (hA _ (by repeat (first | exact Frm.refl _ _ | refine Frm.put' ?_ (by simp)))), _, _, rfl, rfl, (by show (((ns.map V.int).length : Nat) : Int) ≠ 0; rw [List.length_map]; omega), a, _, _, _, rfl, rfl, hA _ (by repeat (first | exact Frm.refl _ _ | refine Frm.put' ?_ (by simp))), hz, ?_⟩⟩
        -- state[2] = state[2] + 1; mixed = ..
        refine ⟨_, rfl, s0, _, _, _, rfl, rfl, SqL.of upd_same, rfl, _, _, rfl, rfl, _, rfl, s0, _, _, _, rfl, rfl, upd_same, rfl, ?_⟩
        refine ⟨_, rfl, s0, _, _, _, rfl, rfl, SqL.of upd_same, rfl, .inl ⟨_, rfl, _, _, rfl, rfl, (by show (_ : Int) ≠ 0; decide), _, _, rfl, rfl, .inr ⟨by decide, by decide⟩, ?_⟩⟩
        refine ⟨_, rfl, _, rfl, .inl ⟨_, rfl, _, _, rfl, rfl, (by show (_ : Int) ≠ 0; decide), _, _, rfl, rfl, _, rfl, s0, _, _, _, rfl, rfl, SqL.of upd_same, rfl, _, _, rfl, rfl, .inl ⟨by decide, by decide⟩, _, _, rfl, rfl, _, _, rfl, rfl, ?_⟩⟩
        refine ⟨_, rfl, .inl ⟨_, rfl, _, _, rfl, rfl, (by show (_ : Int) ≠ 0; decide), _, rfl, s0, _, _, _, rfl, rfl, upd_same, rfl, ?_⟩⟩
        refine ⟨_, rfl, s0, _, _, _, rfl, rfl, SqL.of upd_same, rfl, _, _, rfl, rfl, .inr ⟨by decide, by decide⟩, _, rfl, s0, _, _, _, rfl, rfl, SqL.of upd_same, rfl, _, _, rfl, rfl, .inl ⟨_, rfl, _, _, rfl, rfl, (by show (_ : Int) ≠ 0; decide), ?_⟩⟩
        refine ⟨_, rfl, _, _, rfl, rfl, ⟨by decide, by decide⟩, .inl ⟨_, rfl, _, rfl, _, _, rfl, rfl, (by show (_ : Int) ≠ 0; omega), ?_⟩⟩
        exact k _ _ (fmod0 n0) (fmod1 n0) (by repeat (first | exact Frm.refl _ _ | refine Frm.put' ?_ (by simp))) (hScr.frm (by repeat (first | exact Frm.refl _ _ | refine Frm.put' ?_ (by simp))) ⟨_, _, _, _, upd_same⟩)
      · -- state[2] = state[2] + 1; mixed = ..
        refine ⟨_, rfl, s0, _, _, _, rfl, rfl, SqL.of upd_same, rfl, _, _, rfl, rfl, _, rfl, s0, _, _, _, rfl, rfl, upd_same, rfl, ?_⟩
        refine ⟨_, rfl, s0, _, _, _, rfl, rfl, SqL.of upd_same, rfl, .inl ⟨_, rfl, _, _, rfl, rfl, (by show (_ : Int) ≠ 0; decide), _, _, rfl, rfl, .inr ⟨by decide, by decide⟩, ?_⟩⟩
        refine ⟨_, rfl, _, rfl, .inl ⟨_, rfl, _, _, rfl, rfl, (by show (_ : Int) ≠ 0; decide), _, _, rfl, rfl, _, rfl, s0, _, _, _, rfl, rfl, SqL.of upd_same, rfl, _, _, rfl, rfl, .inl ⟨by decide, by decide⟩, _, _, rfl, rfl, _, _, rfl, rfl, ?_⟩⟩
        refine ⟨_, rfl, .inl ⟨_, rfl, _, _, rfl, rfl, (by show (_ : Int) ≠ 0; decide), _, rfl, s0, _, _, _, rfl, rfl, upd_same, rfl, ?_⟩⟩
        refine ⟨_, rfl, s0, _, _, _, rfl, rfl, SqL.of upd_same, rfl, _, _, rfl, rfl, .inr ⟨by decide, by decide⟩, _, rfl, s0, _, _, _, rfl, rfl, SqL.of upd_same, rfl, _, _, rfl, rfl, .inl ⟨_, rfl, _, _, rfl, rfl, (by show (_ : Int) ≠ 0; decide), ?_⟩⟩
        refine ⟨_, rfl, _, _, rfl, rfl, ⟨by decide, by decide⟩, .inl ⟨_, rfl, _, rfl, _, _, rfl, rfl, (by show (_ : Int) ≠ 0; omega), ?_⟩⟩
        exact k _ _ (fmod0 n0) (fmod1 n0) (by repeat (first | exact Frm.refl _ _ | refine Frm.put' ?_ (by simp))) (hScr.frm (by repeat (first | exact Frm.refl _ _ | refine Frm.put' ?_ (by simp))) ⟨_, _, _, _, upd_same⟩)
end
section
variable {P : Program} {w : World} {K : PySem.W.Frag} {mg : Str → Option Value} {base : Heap}

theorem ok_shown {f : Addr} {fd : FuncData} (F : Fun K "_shown" "_shown" s_shown f fd) (T : Txt K mg) : FnOk P w K mg base CX0 1 f fd P_shown sp_shown := by
  refine F.ok sc_shown (fun vs H Q E h => ?_) (fun cdv A outer s H vs Q E hr h => ?_)
  · obtain ⟨x, rfl, hx, k⟩ := h
    rfl
  · obtain ⟨x, rfl, hx, k⟩ := h
    refine ⟨_, (pss_cons (ps_if (pt_val (pe_callB (id := "isinstance") call_isi (by rfl) T.b_isinstance (by decide +kernel) (pa_cons (pv 0) (pa_cons (pe_bltn (v := .ty "str") (by rfl) T.b_str (by decide +kernel) rfl) pa_nil))))
  (pss_one (ps_ret (pe_callB (id := "repr") call_repr_str (by rfl) T.b_repr (by decide +kernel) (pa_cons (pv 0) pa_nil))))
  pss_nil)
  (pss_cons (ps_if (PW.pt (pw_and (pt_val (pe_callB (id := "isinstance") call_isi (by rfl) T.b_isinstance (by decide +kernel) (pa_cons (pv 0) (pa_cons (pe_bltn (v := .ty "int") (by rfl) T.b_int (by decide +kernel) rfl) pa_nil)))) (pw_and1 (pt_chain op_ltM op_ltM (pe_un un_neg pe_int) (pv 0) pe_int))))
  (pss_one (ps_ret (pe_callTy (T := "str") call_str_ib (by rfl) T.b_str (by decide +kernel) (pa_cons (pv 0) pa_nil))))
  pss_nil)
  (pss_one (ps_ret pe_str)))), ?_⟩
    rcases hx with ⟨z, rfl, hz⟩ | ⟨i, rfl⟩ | rfl | ⟨b, rfl⟩
    · refine ⟨_, rfl, _, _, _, _, true, rfl, .ty _, .base (.str _), kit_ty (by decide +kernel), true, rfl, iteT ?_⟩
      exact ⟨_, rfl, z, rfl, Nat.le_trans hz (by rw [sizeLine_eq]; decide), k _ hz⟩
    · refine ⟨_, rfl, _, _, _, _, false, rfl, .ty _, .base (.int _), kit_ty (by decide +kernel), false, rfl, iteF ?_⟩
      refine ⟨_, rfl, _, _, _, _, true, rfl, .ty _, .base (.int _), kit_ty (by decide +kernel), true, rfl, iteT ?_⟩
      refine ⟨_, rfl, _, rfl, _, _, rfl, rfl, _, rfl, ?_⟩
      refine ite2 (fun c1 => ?_) (fun c1 => ?_)
      · have c1 := of_decide_eq_true c1
        refine ⟨_, _, rfl, rfl, _, rfl, ?_⟩
        refine ite2 (fun c2 => ?_) (fun c2 => ?_)
        · have c2 := of_decide_eq_true c2
          have hn : i.natAbs < 10 ^ 4 := by
            have e : (10 : Nat) ^ 4 = 10000 := by decide
            rw [e]
            omega
          refine ⟨_, rfl, .inl ⟨_, rfl, ?_, k _ ?_⟩⟩
          · have h2 : i.natAbs < 2 ^ 1920 := Nat.lt_of_lt_of_le hn (by decide)
            by_cases h0 : i.natAbs = 0
            · rw [h0]
              decide
            · exact (Nat.log2_lt h0).mpr h2
          · have e := int_text_length_le10 (k := 4) (by decide) hn
            show (Str.ofString (toString i)).length ≤ _
            rw [PySem.ofString_length]
            omega
        · exact k _ (by decide +kernel)
      · refine ⟨_, rfl, ite2 (fun z => absurd z (by decide)) (fun _ => ?_)⟩
        exact k _ (by decide +kernel)
    · refine ⟨_, rfl, _, _, _, _, false, rfl, .ty _, .base .non, kit_ty (by decide +kernel), false, rfl, iteF ?_⟩
      refine ⟨_, rfl, _, _, _, _, false, rfl, .ty _, .base .non, kit_ty (by decide +kernel), false, rfl, iteF ?_⟩
      exact k _ (by decide +kernel)
    · refine ⟨_, rfl, _, _, _, _, false, rfl, .ty _, .base (.bl _), kit_ty (by decide +kernel), false, rfl, iteF ?_⟩
      refine ⟨_, rfl, _, _, _, _, true, rfl, .ty _, .base (.bl _), kit_ty (by decide +kernel), true, rfl, iteT ?_⟩
      refine ⟨_, rfl, _, rfl, _, _, rfl, rfl, _, rfl, ?_⟩
      refine ite2 (fun c1 => ?_) (fun c1 => absurd (decide_eq_true (by cases b <;> decide)) c1)
      refine ⟨_, _, rfl, rfl, _, rfl, ?_⟩
      refine ite2 (fun c2 => ?_) (fun c2 => absurd (decide_eq_true (by cases b <;> decide)) c2)
      exact ⟨_, rfl, .inr ⟨b, rfl, k _ (by cases b <;> decide +kernel)⟩⟩

theorem okBadNumber___init__ {f C cda cc : Addr} {oc dV kV doc pm ct : Value} {an od : Option Addr} {osl : Array (Option Value)} (lk : K.lookup f = some ⟨oc, od, .func (PySem.W.fnX "__init__" "BadNumber.__init__" (defArgs sBadNumber___init__) (defBody sBadNumber___init__) (defScope sBadNumber___init__) [("__class__", cc)] dV kV doc pm an (.ref cda) ct), osl⟩) (EC : ErrC P K mg "BadNumber" "BadNumber.__init__" C f cda cc) (T : Txt K mg)
    (C_shown : Cal P w K mg base "_shown" P_shown 1 sp_shown) : FnOk P w K mg base CX0 2 f (PySem.W.fnX "__init__" "BadNumber.__init__" (defArgs sBadNumber___init__) (defBody sBadNumber___init__) (defScope sBadNumber___init__) [("__class__", cc)] dV kV doc pm an (.ref cda) ct) PBadNumber___init__ (spBadNumber C) := by
  obtain ⟨g_shown, gd_shown, G_shown, m_shown, k_shown, b_shown⟩ := C_shown.ex
  refine fn_super (N := NBadNumber___init__) lk EC.sup scBadNumber___init__ rfl rfl rfl rfl (fun vs H Q E h => ?_) (fun A outer s H vs Q E hr h => ?_)
  · obtain ⟨a, z, v, rfl, ha, hz, hv, k⟩ := h
    rfl
  · obtain ⟨a, z, v, rfl, ha, hz, hv, k⟩ := h
    refine ⟨_, _, (pa_cons (pe_joined (.cons pe_str (.cons (pe_fmt (pv 1)) (.cons pe_str (.cons (pe_fmt (pe_call G_shown (hr.mono (by decide)) (by rfl) m_shown k_shown b_shown .nil pass0 (pa_cons (pv 2) pa_nil))) .nil))))) pa_nil), (pss_cons (ps_ost (pv 0) (pv 1)) (pss_one (ps_ost (pv 0) (pv 2)))), ?_⟩
    have h1 : (Str.empty ++ ("bad number for " : Str)).length ≤ 15 := by decide +kernel
    have h2 : (Str.empty ++ ("bad number for " : Str) ++ z).length ≤ 1015 := by rw [PySem.Str.length_append]; omega
    have h3 : (Str.empty ++ ("bad number for " : Str) ++ z ++ (": " : Str)).length ≤ 1017 := by rw [PySem.Str.length_append]; rw [show (": " : Str).length = 2 by decide +kernel]; omega
    refine ⟨a, _, rfl, ha, ?_⟩
    refine ⟨_, rfl, Nat.le_trans h1 (by rw [sizeLine_eq]; decide), ?_⟩
    refine ⟨_, rfl, .inl ⟨z, rfl, Nat.le_trans hz (by rw [sizeLine_eq]; decide), z, rfl, Nat.le_trans h2 (by rw [sizeLine_eq]; decide), ?_⟩⟩
    refine ⟨_, rfl, Nat.le_trans h3 (by rw [sizeLine_eq]; decide), ?_⟩
    refine ⟨_, rfl, v, rfl, hv, fun y hy => .inl ⟨y, rfl, Nat.le_trans hy (by rw [sizeLine_eq]; decide), y, rfl, ?_, ?_⟩⟩
    · rw [PySem.Str.length_append, sizeLine_eq]
      omega
    refine ⟨(by show 1 ≤ 1000; decide), ha, ?_⟩
    refine ⟨_, rfl, _, rfl, a, C, rfl, EC.sup.oex, EC.noWhat, .inl ⟨ha, fun dx nd ne => ?_⟩⟩
    refine ⟨_, rfl, _, rfl, a, C, rfl, EC.sup.oex, EC.noValue, .inr ⟨dx, _, upd_same, (by rw [upd_ne ne]; exact upd_same), (by show 1 ≤ 900; decide), ?_⟩⟩
    exact init_leaves2 ha k nd ne
end
end Wb

namespace Wb
open PySem PySem.Spec PyProof.Rows L2 Wx NdefX RZ StX PyProof.Rows.FinIter
section
variable {P : Program} {w : World} {K : PySem.W.Frag} {mg : Str → Option Value} {base : Heap}

theorem take_snoc {α : Type} : ∀ {l : List α} {i : Nat} {x : α}, l[i]? = some x → l.take (i + 1) = l.take i ++ [x]
  | [], i, x, h => by simp at h
  | a :: l, 0, x, h => by
    have e : a = x := Option.some.inj h
    subst e
    rfl
  | a :: l, i + 1, x, h => by
    have ih := take_snoc (l := l) (i := i) (x := x) h
    show a :: l.take (i + 1) = a :: l.take i ++ [x]
    rw [ih]
    rfl
abbrev codes (z : Str) : List Nat := z.cps.toList
theorem codes_len (z : Str) : (codes z).length = z.length := Array.length_toList
theorem codes_app (x y : Str) : codes (x ++ y) = codes x ++ codes y := by
  show (x ++ y).cps.toList = _
  rw [PySem.Str.cps_append, Array.toList_append]
theorem bigN {n : Nat} (h : n ≤ 1000000) : n ≤ sizeLine := Nat.le_trans h (by rw [sizeLine_eq]; decide)
theorem lt1 {c d : Nat} : ([c] : List Nat) < [d] ↔ c < d := by
  rw [List.cons_lt_cons_iff]
  simp
theorem aS : ("a" : Str).cps.toList = [97] := by decide +kernel
theorem zS : ("z" : Str).cps.toList = [122] := by decide +kernel
def lowB (z : Str) : Bool := (codes z).all fun c => decide (97 ≤ c ∧ c ≤ 122)
def nameB : V → Bool
  | .str z => decide (1 ≤ z.length ∧ z.length ≤ 8) && lowB z
  | _ => false
def numB (v : V) (lo hi : Int) : Bool := match v with | .int i => decide (lo ≤ i ∧ i ≤ hi) | _ => false
/-- a value of one of the kinds that are asked -/
inductive OddV : V → Prop
  | str (z : Str) : z.length ≤ 1000 → (reprText z).length ≤ 20000 → OddV (.str z)
  | int (i : Int) : OddV (.int i)
  | non : OddV .non
  | bl (b : Bool) : OddV (.bl b)
theorem OddV.shows {x : V} (h : OddV x) : ShowOk x := by
  cases h with
  | str z h1 h2 => exact .inl ⟨z, rfl, h2⟩
  | int i => exact .inr (.inl ⟨i, rfl⟩)
  | non => exact .inr (.inr (.inl rfl))
  | bl b => exact .inr (.inr (.inr ⟨b, rfl⟩))
theorem OddV.self {x : V} (h : OddV x) : scal x x = true := by cases h <;> rfl
theorem OddV.text {x : V} (h : OddV x) (z : Str) : scal x (.str z) = true := by cases h <;> rfl
theorem OddV.tyOf {x : V} (h : OddV x) {K : PySem.W.Frag} {H : Hp} : ∃ T, TyOf K H x T ∧ True := by
  cases h with
  | str z h1 h2 => exact ⟨_, .str _, trivial⟩
  | int i => exact ⟨_, .int _, trivial⟩
  | non => exact ⟨_, .non, trivial⟩
  | bl b => exact ⟨_, .bl _, trivial⟩
def spis_name : Sp := fun vs H Q _ => ∃ x, vs = [x] ∧ OddV x ∧ ∀ H', Same H H' → Q (.bl (nameB x)) H'
def spcheck_name (C : Addr) : Sp := fun vs H Q E => ∃ x, vs = [x] ∧ OddV x ∧ (nameB x = true → ∀ H', Same H H' → Q x H') ∧
  (nameB x = false → ∀ (d : Addr) (H' : Hp), H d = none → Same H H' → H' d = some (.xd [("name", x)]) → E (.ref C) (some d) H')
def spcheck_number (C : Addr) : Sp := fun vs H Q E => ∃ (z : Str) (v : V) (lo hi : Int), vs = [.str z, v, .int lo, .int hi] ∧ z.length ≤ 1000 ∧ OddV v ∧ (numB v lo hi = true → Q v H) ∧
  (numB v lo hi = false → ∀ (d : Addr) (H' : Hp), H d = none → Same H H' → H' d = some (.xd [("value", v), ("what", .str z)]) → E (.ref C) (some d) H')
def sp_law_is_integer : Sp := fun vs H Q _ => ∃ i : Int, vs = [.int i] ∧ Q (.bl true) H
theorem look_val {v w : V} : ([("value", v), ("what", w)] : List (Str × V)).lookup ("value" : Str) = some v := by rw [lookup_put, if_pos rfl]
theorem look_what {v w : V} : ([("value", v), ("what", w)] : List (Str × V)).lookup ("what" : Str) = some w := by rw [lookup_put, if_neg (by decide +kernel), lookup_put, if_pos rfl]
theorem look_name {v : V} : ([("name", v)] : List (Str × V)).lookup ("name" : Str) = some v := by rw [lookup_put, if_pos rfl]
theorem ne_self {x : V} : ¬ (!decide (x = x)) = true := by rw [decide_eq_true rfl]; exact Bool.false_ne_true
theorem upd_upd {H : Hp} {a : Addr} {o o1 : HO} : upd (upd H a o) a o1 = upd H a o1 := by
  funext b
  by_cases h : b = a
  · rw [h, upd_same, upd_same]
  · rw [upd_ne h, upd_ne h, upd_ne h]
def TxtOk (n : Nat) (z : Str) : Prop := z.length ≤ n ∧ ∀ c, c ∈ codes z → c < 128
theorem TxtOk.repr {n : Nat} {z : Str} (h : TxtOk n z) (hn : n ≤ 1000) : (reprText z).length ≤ 20000 := by
  have := PySem.StrLaws.reprText_len z (fun c hc => Nat.lt_trans (h.2 c hc) (by decide))
  have := h.1
  omega
theorem TxtOk.mono {m n : Nat} {z : Str} (h : TxtOk m z) (hn : m ≤ n) : TxtOk n z := ⟨Nat.le_trans h.1 hn, h.2⟩
theorem TxtOk.app {m n : Nat} {x y : Str} (h1 : TxtOk m x) (h2 : TxtOk n y) : TxtOk (m + n) (x ++ y) := by
  refine ⟨by rw [PySem.Str.length_append]; have := h1.1; have := h2.1; omega, fun c hc => ?_⟩
  have e : codes (x ++ y) = codes x ++ codes y := by
    show (x ++ y).cps.toList = _
    rw [PySem.Str.cps_append, Array.toList_append]
  rw [e] at hc
  rcases List.mem_append.mp hc with q | q
  · exact h1.2 c q
  · exact h2.2 c q
theorem TxtOk.cut {n : Nat} {z : Str} {lo hi : Option Int} (h : TxtOk n z) : TxtOk n (cutS z lo hi) := by
  have e : codes (cutS z lo hi) = ((codes z).drop (HT.sIx z.length 0 lo)).take (HT.sIx z.length z.length hi - HT.sIx z.length 0 lo) := by
    unfold cutS codes
    simp
  refine ⟨?_, fun c hc => ?_⟩
  · rw [← codes_len, e, List.length_take, List.length_drop, codes_len]
    have := h.1
    omega
  · rw [e] at hc
    exact h.2 c (List.mem_of_mem_drop (List.mem_of_mem_take hc))
theorem TxtOk.one {c : Nat} (h : c < 128) : TxtOk 1 ⟨#[c]⟩ := ⟨Nat.le_refl _, fun d hd => by
  have : d = c := by simpa [codes] using hd
  omega⟩
theorem Str.odd {n : Nat} {z : Str} (h : TxtOk n z) (hn : n ≤ 1000) : OddV (.str z) := .str z (Nat.le_trans h.1 hn) (h.repr hn)
theorem scr_of {K : PySem.W.Frag} {H H' : Hp} {a s p : Addr} (h : Scr K H a s) (n : H p = none) (f : Frm [p, s] H H') (q : St4 H' s) : Scr K H' a s := by
  obtain ⟨⟨ns, h1, h2⟩, _⟩ := h
  refine ⟨⟨ns, Same.seq (fun b o e => ?_) h1, h2⟩, q⟩
  have nb : ¬ b ∈ [s] := fun y => by
    rw [show hid [s] H b = none from if_pos y] at e
    cases e
  rw [hid_eq nb] at e ⊢
  refine f b o (fun y => ?_) e
  rcases List.mem_cons.mp y with z | z
  · rw [z, n] at e
    cases e
  · exact nb z
theorem OddV.dp {x : V} (h : OddV x) (hs : ∀ z, x = .str z → PyData.strOk z = true) : ∃ d, (∀ K H, Dp K H x d) ∧ (∀ t : Str, PyData.strOk t = true → SeqAt.shaped (.tuple [.str t, d]) = true) := by
  cases h with
  | str z h1 h2 => exact ⟨_, fun _ _ => .str z, fun t ht => by simp [SeqAt.shaped, PyData.canLay0, PyData.canLayAll0, PyData.depth, PyData.depthAll, ht, hs z rfl]⟩
  | int i => exact ⟨_, fun _ _ => .int i, fun t ht => by simp [SeqAt.shaped, PyData.canLay0, PyData.canLayAll0, PyData.depth, PyData.depthAll, ht]⟩
  | non => exact ⟨_, fun _ _ => .non, fun t ht => by simp [SeqAt.shaped, PyData.canLay0, PyData.canLayAll0, PyData.depth, PyData.depthAll, ht]⟩
  | bl b => exact ⟨_, fun _ _ => .bl b, fun t ht => by simp [SeqAt.shaped, PyData.canLay0, PyData.canLayAll0, PyData.depth, PyData.depthAll, ht]⟩
theorem TxtOk.strOk {n : Nat} {z : Str} (h : TxtOk n z) : PyData.strOk z = true := by
  unfold PyData.strOk
  rw [Array.all_eq_true_iff_forall_mem]
  intro c hc
  exact decide_eq_true (Nat.lt_trans (h.2 c (by simpa [codes] using hc)) (by decide))
/-- the two told pairs are equal -/
theorem pair_eq {K : PySem.W.Frag} {H : Hp} {q r : Addr} {t : Str} {v : V} (ht : PyData.strOk t = true) (o : OddV v) (hs : ∀ z, v = .str z → PyData.strOk z = true) (h1 : H q = some (.tup [.str t, v])) (h2 : H r = some (.tup [.str t, v])) :
    ∃ d e, Dp K H (.ref q) d ∧ Dp K H (.ref r) e ∧ SeqAt.shaped d = true ∧ SeqAt.shaped e = true ∧ PyData.eqv d e = true := by
  obtain ⟨d, hd, sd⟩ := o.dp hs
  exact ⟨_, _, .tup (.inl (.inl h1)) (.cons (.str t) (.cons (hd K H) .nil)), .tup (.inl (.inl h2)) (.cons (.str t) (.cons (hd K H) .nil)), sd t ht, sd t ht, PySem.SeqAt.eqv_refl _ (PySem.SeqAt.canLay_of_shaped (sd t ht))⟩

/-- what is asked of a class with __init__ and __eq__ -/
structure DatC (K : PySem.W.Frag) (mg : Str → Option Value) (x : Str) (C fi fe : Addr) (fs : List Str) : Prop where
  g : mg x = some (.ref C)
  mkk : Mk K C fi
  cls : Cls K C
  no : ∀ f, f ∈ fs → NoAttr K C f
  eq : PySem.W.findIn K (.ref C) "__eq__" = some (some (.ref fe))
  fe : PySem.W.isFn K (.ref fe) = true
  ne : PySem.W.findIn K (.ref C) "__ne__" = some (some (.builtin "object.__ne__"))
  ob : PySem.W.subIn K (.ref C) (.type "object") = some true
  ha : PySem.W.findIn K (.ref C) "__class__" = some (some (.builtin "object.__class__"))
  hn : PySem.W.specialIn K (.builtin "object.__class__") "__get__" = some (some (.builtin "getset_descriptor.__get__"))
  htk : PySem.W.takesIn K (.builtin "object.__class__") = some true
  hm : PySem.W.mroIn K C (.type "object") = some true
  kit : PySem.W.kitOne K (.ref C) (.ref C) = some true
def splaw (K : PySem.W.Frag) : Sp := fun vs H Q _ => ∃ (a : Addr) (ns : List Int), vs = [.ref a] ∧ SqL K H a (ns.map V.int) ∧ ns.length ≤ 63 ∧ ∀ H', Q (.bl true) H'

theorem Same.seqT {K : PySem.W.Frag} {H H' : Hp} {a : Addr} {xs : List V} (e : Same H H') (h : SqT K H a xs) : SqT K H' a xs := by
  rcases h with h | h
  · exact .inl (h.imp (e a _) fun ⟨o, q⟩ => ⟨o, e a _ q⟩)
  · exact .inr h
def bad8 (x : V) : Bool := !numB x 0 8
theorem find_at {p : V → Bool} : ∀ {xs : List V} {i : Nat} {x : V}, xs[i]? = some x → (∀ y, y ∈ xs.take i → p y = false) → p x = true → xs.find? p = some x
  | [], i, x, h, _, _ => by simp at h
  | y :: ys, 0, x, h, _, q => by
    have e : y = x := Option.some.inj h
    subst e
    rw [List.find?_cons, q]
  | y :: ys, i + 1, x, h, k, q => by
    rw [List.find?_cons, k y (by rw [List.take_succ_cons]; exact List.mem_cons_self)]
    exact find_at (xs := ys) (i := i) h (fun z hz => k z (by rw [List.take_succ_cons]; exact List.mem_cons_of_mem _ hz)) q
theorem find_none {p : V → Bool} {xs : List V} (k : ∀ y, y ∈ xs → p y = false) : xs.find? p = none := List.find?_eq_none.mpr fun y hy => by rw [k y hy]; exact Bool.false_ne_true
def spcheck_units (K : PySem.W.Frag) (C : Addr) : Sp := fun vs H Q E => ∃ (z : Str) (a : Addr) (xs : List V), vs = [.str z, .ref a] ∧ z.length ≤ 1000 ∧ (SqL K H a xs ∨ SqT K H a xs) ∧ xs.length ≤ 1000 ∧ (∀ x, x ∈ xs → OddV x) ∧
  (xs.find? bad8 = none → ∀ (q : Addr) (H' : Hp), H q = none → H' q = some (.tup xs) → Same H H' → Q (.ref q) H') ∧
  (∀ x, xs.find? bad8 = some x → ∀ (d : Addr) (H' : Hp), H d = none → Same H H' → H' d = some (.xd [("value", x), ("what", .str z)]) → E (.ref C) (some d) H')

theorem okcheck_number {f : Addr} {fd : FuncData} (F : Fun K "check_number" "check_number" scheck_number f fd) (T : Txt K mg) {C_BadNumber f_BadNumber cda_BadNumber cc_BadNumber : Addr} {fd_BadNumber : FuncData} (E_BadNumber : ErrC P K mg "BadNumber" "BadNumber.__init__" C_BadNumber f_BadNumber cda_BadNumber cc_BadNumber) (G_BadNumber : FnOk P w K mg base CX0 2 f_BadNumber fd_BadNumber PBadNumber___init__ (spBadNumber C_BadNumber)) (b_BadNumber : Binds K fd_BadNumber PBadNumber___init__ []) : FnOk P w K mg base (L2.CX P w) 4 f fd Pcheck_number (spcheck_number C_BadNumber) := by
  refine F.okX sccheck_number (fun vs H Q E h => ?_) (fun cdv A outer s H vs Q E hr h => ?_)
  · obtain ⟨z, v, lo, hi, rfl, hz, hv, kT, kE⟩ := h
    rfl
  · obtain ⟨z, v, lo, hi, rfl, hz, hv, kT, kE⟩ := h
    refine ⟨_, (pss_cons (ps_if (PW.pt (pw_or (pt_val (pe_callB (id := "isinstance") call_isi (by rfl) T.b_isinstance (by decide +kernel) (pa_cons (pv 1) (pa_cons (pe_bltn (v := .ty "bool") (by rfl) T.b_bool (by decide +kernel) rfl) pa_nil)))) (pw_or1 (pt_not (pt_val (pe_callB (id := "isinstance") call_isi (by rfl) T.b_isinstance (by decide +kernel) (pa_cons (pv 1) (pa_cons (pe_bltn (v := .ty "int") (by rfl) T.b_int (by decide +kernel) rfl) pa_nil))))))))
  (pss_one (ps_raise rfl (takes_of rfl rfl rfl rfl) (pmk_oex E_BadNumber.sup.oex E_BadNumber.ini E_BadNumber.tyI G_BadNumber (hr.mono (by decide)) b_BadNumber .nil pass0 (by rfl) E_BadNumber.g (pa_cons (pv 0) (pa_cons (pv 1) pa_nil)))))
  pss_nil)
  (pss_cons (ps_if (PW.pt (pw_or (pt_cmpR op_lt (pv 1) (pv 2) (nomark _)) (pw_or1 (pt_cmpR op_gt (pv 1) (pv 3) (nomark _)))))
  (pss_one (ps_raise rfl (takes_of rfl rfl rfl rfl) (pmk_oex E_BadNumber.sup.oex E_BadNumber.ini E_BadNumber.tyI G_BadNumber (hr.mono (by decide)) b_BadNumber .nil pass0 (by rfl) E_BadNumber.g (pa_cons (pv 0) (pa_cons (pv 1) pa_nil)))))
  pss_nil)
  (pss_one (ps_ret (pv 1))))), ?_⟩
    have hv0 := hv
    cases hv with
    | int i =>
      refine ⟨_, rfl, _, _, _, _, false, rfl, .ty _, .base (.int _), kit_ty (by decide +kernel), false, rfl, iteF ?_⟩
      refine ⟨_, rfl, _, _, _, _, true, rfl, .ty _, .base (.int _), kit_ty (by decide +kernel), true, rfl, iteF ?_⟩
      refine ⟨_, rfl, _, rfl, _, _, rfl, rfl, _, rfl, ?_⟩
      refine ite2 (fun c1 => ?_) (fun c1 => ?_)
      · have c1 := of_decide_eq_true c1
        exact ⟨_, rfl, _, rfl, (by show 2 ≤ 1000; decide), fun a na => ⟨a, z, _, rfl, upd_same, hz, hv0.shows, made_of na fun d H' nd s' hd => kE (decide_eq_false (by omega)) d H' nd s' hd⟩⟩
      · have c1 : ¬ i < lo := fun q => c1 (decide_eq_true q)
        refine ⟨_, rfl, _, rfl, _, _, rfl, rfl, _, rfl, ?_⟩
        refine ite2 (fun c2 => ?_) (fun c2 => ?_)
        · have c2 := of_decide_eq_true c2
          exact ⟨_, rfl, _, rfl, (by show 2 ≤ 1000; decide), fun a na => ⟨a, z, _, rfl, upd_same, hz, hv0.shows, made_of na fun d H' nd s' hd => kE (decide_eq_false (by omega)) d H' nd s' hd⟩⟩
        · have c2 : ¬ hi < i := fun q => c2 (decide_eq_true q)
          exact ⟨_, rfl, kT (decide_eq_true (by omega))⟩
    | non =>
      refine ⟨_, rfl, _, _, _, _, false, rfl, .ty _, .base .non, kit_ty (by decide +kernel), false, rfl, iteF ?_⟩
      refine ⟨_, rfl, _, _, _, _, false, rfl, .ty _, .base .non, kit_ty (by decide +kernel), false, rfl, iteT ?_⟩
      exact ⟨_, rfl, _, rfl, (by show 2 ≤ 1000; decide), fun a na => ⟨a, z, _, rfl, upd_same, hz, hv0.shows, made_of na fun d H' nd s' hd => kE rfl d H' nd s' hd⟩⟩
    | bl b =>
      refine ⟨_, rfl, _, _, _, _, true, rfl, .ty _, .base (.bl _), kit_ty (by decide +kernel), true, rfl, iteT ?_⟩
      exact ⟨_, rfl, _, rfl, (by show 2 ≤ 1000; decide), fun a na => ⟨a, z, _, rfl, upd_same, hz, hv0.shows, made_of na fun d H' nd s' hd => kE rfl d H' nd s' hd⟩⟩
    | str y h1 h2 =>
      refine ⟨_, rfl, _, _, _, _, false, rfl, .ty _, .base (.str _), kit_ty (by decide +kernel), false, rfl, iteF ?_⟩
      refine ⟨_, rfl, _, _, _, _, false, rfl, .ty _, .base (.str _), kit_ty (by decide +kernel), false, rfl, iteT ?_⟩
      exact ⟨_, rfl, _, rfl, (by show 2 ≤ 1000; decide), fun a na => ⟨a, z, _, rfl, upd_same, hz, hv0.shows, made_of na fun d H' nd s' hd => kE rfl d H' nd s' hd⟩⟩

theorem okcheck_units {f : Addr} {fd : FuncData} (F : Fun K "check_units" "check_units" scheck_units f fd) (T : Txt K mg) {C_BadNumber : Addr} (C_xcheck_number : ∃ (g : Addr) (gd : FuncData), FnOk P w K mg base (L2.CX P w) 4 g gd Pcheck_number (spcheck_number C_BadNumber) ∧ mg "check_number" = some (.ref g) ∧ PySem.W.keepIn K (.ref g) = true ∧ Binds K gd Pcheck_number []) : FnOk P w K mg base (L2.CX P w) 5 f fd Pcheck_units (spcheck_units K C_BadNumber) := by
  obtain ⟨_, c_MOST_UNITS⟩ := T.c_MOST_UNITS
  obtain ⟨gcheck_number, gdcheck_number, Gcheck_number, mcheck_number, kcheck_number, bcheck_number⟩ := C_xcheck_number
  refine F.okX sccheck_units (fun vs H Q E h => ?_) (fun cdv A outer s H vs Q E hr h => ?_)
  · obtain ⟨z, a, xs, rfl, hz, hs, hl, ho, kT, kE⟩ := h
    rfl
  · obtain ⟨z, a, xs, rfl, hz, hs, hl, ho, kT, kE⟩ := h
    refine ⟨_, (pss_one (ps_ret (pe_callTy (T := "tuple") call_tuple_of (by rfl) T.b_tuple (by decide +kernel) (pa_cons (pe_lcX (own := [("value", 2)]) (fun σ => air_of (takes_of rfl rfl rfl rfl) rfl rfl) rfl sccheck_units.nd (pi_seq (pv 1)) (blkOk_by (own := [("value", 2)]) (N := Ncheck_units) (sc := defScope scheck_units) (by decide +kernel)) (fun _ _ _ _ _ => (pg_name (i := 2) sccheck_units.nd rfl (by first | exact Or.inl rfl | exact Or.inr rfl))) (fun _ _ _ _ _ => pts_nil) (fun _ _ _ _ _ _ _ air => (pe_callS Gcheck_number (hr.mono (by decide)) (by rfl) mcheck_number kcheck_number bcheck_number (fun σ => (air σ).pass) (pa_cons (pv 0) (pa_cons (pv 2) (pa_cons pe_int (pa_cons (pe_glob (v := .int 8) rfl c_MOST_UNITS ⟨_, rfl⟩) pa_nil))))))) pa_nil)))), ?_⟩
    refine ⟨_, rfl, a, xs, rfl, ?_⟩
    rcases hs with hs | hs
    · refine .inl ⟨hs, fun D hD => ?_⟩
      refine lc_it walk_list (fun i H1 => H1 D = some (.lst (xs.take i)) ∧ Same H H1 ∧ ∀ y, y ∈ xs.take i → bad8 y = false) ⟨upd_same, Same.new hD, fun y hy => by cases hy⟩ (fun i H1 _ q => Same.seq q.2.1 hs) ?_ ?_
      · rintro i x H1o H1 hi ⟨e1, s1, g1⟩ ⟨rfl, hx⟩
        refine ⟨rfl, ?_⟩
        refine ⟨_, rfl, _, rfl, z, x, 0, 8, rfl, hz, ho x (List.mem_of_getElem? hx), fun t => ?_, fun t d H' nd s' hd => ?_⟩
        · refine ⟨_, e1, small1000 (by rw [List.length_take]; omega), by rw [take_snoc hx]; exact upd_same, fun b o e => by rw [upd_ne (ne_of_none e hD)]; exact s1 _ _ e, fun y hy => ?_⟩
          rw [take_snoc hx] at hy
          rcases List.mem_append.mp hy with q | q
          · exact g1 y q
          · rw [List.mem_singleton.mp q]
            show (!numB x 0 8) = false
            rw [t]
            rfl
        · exact kE x (find_at hx g1 (by show (!numB x 0 8) = true; rw [t]; rfl)) d H' (s1.free nd) (s1.trans s') hd
      · rintro H1 ⟨e1, s1, g1⟩
        rw [List.take_length] at e1 g1
        refine ⟨D, _, rfl, .inl ⟨SqL.of e1, fun l hl => ?_⟩⟩
        exact kT (find_none g1) l _ (s1.free hl) upd_same (s1.trans (Same.new hl))
    · refine .inr ⟨hs, fun D hD => ?_⟩
      refine lc_it walk_tup (fun i H1 => H1 D = some (.lst (xs.take i)) ∧ Same H H1 ∧ ∀ y, y ∈ xs.take i → bad8 y = false) ⟨upd_same, Same.new hD, fun y hy => by cases hy⟩ (fun i H1 _ q => Same.seqT q.2.1 hs) ?_ ?_
      · rintro i x H1o H1 hi ⟨e1, s1, g1⟩ ⟨rfl, hx⟩
        refine ⟨rfl, ?_⟩
        refine ⟨_, rfl, _, rfl, z, x, 0, 8, rfl, hz, ho x (List.mem_of_getElem? hx), fun t => ?_, fun t d H' nd s' hd => ?_⟩
        · refine ⟨_, e1, small1000 (by rw [List.length_take]; omega), by rw [take_snoc hx]; exact upd_same, fun b o e => by rw [upd_ne (ne_of_none e hD)]; exact s1 _ _ e, fun y hy => ?_⟩
          rw [take_snoc hx] at hy
          rcases List.mem_append.mp hy with q | q
          · exact g1 y q
          · rw [List.mem_singleton.mp q]
            show (!numB x 0 8) = false
            rw [t]
            rfl
        · exact kE x (find_at hx g1 (by show (!numB x 0 8) = true; rw [t]; rfl)) d H' (s1.free nd) (s1.trans s') hd
      · rintro H1 ⟨e1, s1, g1⟩
        rw [List.take_length] at e1 g1
        refine ⟨D, _, rfl, .inl ⟨SqL.of e1, fun l hl => ?_⟩⟩
        exact kT (find_none g1) l _ (s1.free hl) upd_same (s1.trans (Same.new hl))
end
end Wb

namespace Wb
open PySem PySem.Spec PyProof.Rows L2 Wx NdefX RZ StX PyProof.Rows.FinIter
section
variable {P : Program} {w : World} {K : PySem.W.Frag} {mg : Str → Option Value} {base : Heap}

/-- all but p and dx is kept -/
def Fr2 (p dx : Addr) (H H' : Hp) : Prop := ∀ b o, b ≠ p → b ≠ dx → H b = some o → H' b = some o
theorem Fr2.same {p dx : Addr} {H H' : Hp} {o1 o2 : HO} (np : H p = none) (nd : H dx = none) (fr : Fr2 p dx (upd (upd H dx o1) p o2) H') : Same H H' := fun b o e => by
  have b1 := ne_of_none e np
  have b2 := ne_of_none e nd
  exact fr b o b1 b2 (by rw [upd_ne b1, upd_ne b2]; exact e)
theorem find_ints {ls : List Int} (h : ∀ x, x ∈ ls → 0 ≤ x ∧ x ≤ 8) : (ls.map V.int).find? bad8 = none := find_none fun y hy => by
  obtain ⟨x, hx, rfl⟩ := List.mem_map.mp hy
  show (!decide (0 ≤ x ∧ x ≤ 8)) = false
  rw [decide_eq_true (h x hx)]
  rfl
theorem odd_ints {ls : List Int} : ∀ x, x ∈ ls.map V.int → OddV x := fun x hx => by
  obtain ⟨i, _, rfl⟩ := List.mem_map.mp hx
  exact .int i
def leL : List Int → List Int → Bool
  | [], [] => true
  | a :: l, b :: m => decide (a ≤ b) && leL l m
  | _, _ => false
theorem leL_len : ∀ {l m : List Int}, l.length ≠ m.length → leL l m = false
  | [], [], h => absurd rfl h
  | [], _ :: _, _ => rfl
  | _ :: _, [], _ => rfl
  | a :: l, b :: m, h => by
    show (_ && leL l m) = false
    rw [leL_len (l := l) (m := m) (fun e => h (by simp [e])), Bool.and_false]
/-- the answers of the pairs, in order -/
def leBs : List Int → List Int → List Bool
  | a :: l, b :: m => decide (a ≤ b) :: leBs l m
  | _, _ => []
theorem leBs_all : ∀ {l m : List Int}, l.length = m.length → (leBs l m).all id = leL l m
  | [], [], _ => rfl
  | a :: l, b :: m, h => by
    show (decide (a ≤ b) && (leBs l m).all id) = (decide (a ≤ b) && leL l m)
    rw [leBs_all (l := l) (m := m) (by simpa using h)]
theorem leBs_len : ∀ {l m : List Int}, l.length = m.length → (leBs l m).length = l.length
  | [], [], _ => rfl
  | a :: l, b :: m, h => by
    show (leBs l m).length + 1 = l.length + 1
    rw [leBs_len (l := l) (m := m) (by simpa using h)]
theorem leBs_at : ∀ {l m : List Int} {i : Nat} {a b : Int}, l[i]? = some a → m[i]? = some b → (leBs l m)[i]? = some (decide (a ≤ b))
  | [], _, i, a, b, h, _ => by simp at h
  | _ :: _, [], i, a, b, _, h => by simp at h
  | x :: l, y :: m, 0, a, b, h1, h2 => by
    have e1 : x = a := Option.some.inj h1
    have e2 : y = b := Option.some.inj h2
    subst e1 e2
    rfl
  | x :: l, y :: m, i + 1, a, b, h1, h2 => leBs_at (l := l) (m := m) (i := i) h1 h2
theorem int_at {l : List Int} {i : Nat} {x : V} (h : (l.map V.int)[i]? = some x) : ∃ a, l[i]? = some a ∧ x = .int a := by
  rw [List.getElem?_map] at h
  cases q : l[i]? with
  | none => rw [q] at h; cases h
  | some a =>
    rw [q] at h
    exact ⟨a, rfl, (Option.some.inj h).symm⟩

theorem seqT_ins {K : PySem.W.Frag} {H : Hp} {p C dx a : Addr} {fs : List (Str × V)} {o2 : HO} {xs : List V} (h : H p = some (.ins C dx fs)) (q : SqT K H a xs) : SqT K (upd H p o2) a xs := by
  rcases q with q | q
  · refine .inl (q.imp (fun e => ?_) fun ⟨o, e⟩ => ⟨o, ?_⟩)
    · rw [upd_ne (fun z => by rw [z, h] at e; cases e)]; exact e
    · rw [upd_ne (fun z => by rw [z, h] at e; cases e)]; exact e
  · exact .inr q
theorem seqL_ins {K : PySem.W.Frag} {H : Hp} {p C dx a : Addr} {fs : List (Str × V)} {o2 : HO} {xs : List V} (h : H p = some (.ins C dx fs)) (q : SqL K H a xs) : SqL K (upd H p o2) a xs := by
  rcases q with q | q
  · refine .inl (q.imp (fun e => ?_) fun ⟨o, e⟩ => ⟨o, ?_⟩)
    · rw [upd_ne (fun z => by rw [z, h] at e; cases e)]; exact e
    · rw [upd_ne (fun z => by rw [z, h] at e; cases e)]; exact e
  · exact .inr q
/-- a list or a tuple -/
def SqA (K : PySem.W.Frag) (H : Hp) (a : Addr) (xs : List V) : Prop := SqL K H a xs ∨ SqT K H a xs
theorem SqA.same {K : PySem.W.Frag} {H H' : Hp} {a : Addr} {xs : List V} (s : Same H H') (h : SqA K H a xs) : SqA K H' a xs := Or.imp (Same.seq s) (Same.seqT s) h
theorem SqA.ins {K : PySem.W.Frag} {H : Hp} {p C dx a : Addr} {fs : List (Str × V)} {o2 : HO} {xs : List V} (h : H p = some (.ins C dx fs)) (q : SqA K H a xs) : SqA K (upd H p o2) a xs := Or.imp (seqL_ins h) (seqT_ins h) q
/-- the first wrong part of a day -/
def dayRef (xs ys : List V) (f m : V) : Option (Str × V) :=
  if numB (.int xs.length) 1 4 = true then
    match xs.find? bad8 with
    | some x => some ("dry", x)
    | none => if ys.length = xs.length then
        match ys.find? bad8 with
        | some y => some ("rain", y)
        | none => if numB f 0 8 = true then if numB m 0 3 = true then none else some ("mood", m) else some ("fill", f)
      else some ("plots", .int ys.length)
  else some ("plots", .int xs.length)
section
variable {xs ys : List V} {f m x y : V}
theorem dR_p1 (h : numB (.int xs.length) 1 4 = false) : dayRef xs ys f m = some (("plots" : Str), .int xs.length) := by
  unfold dayRef; rw [if_neg (by rw [h]; exact Bool.false_ne_true)]
theorem dR_dry (h : numB (.int xs.length) 1 4 = true) (h1 : xs.find? bad8 = some x) : dayRef xs ys f m = some (("dry" : Str), x) := by
  unfold dayRef; rw [if_pos h, h1]
theorem dR_p2 (h : numB (.int xs.length) 1 4 = true) (h1 : xs.find? bad8 = none) (h2 : ¬ ys.length = xs.length) : dayRef xs ys f m = some (("plots" : Str), .int ys.length) := by
  unfold dayRef; rw [if_pos h, h1]; show (if ys.length = xs.length then _ else _) = _; rw [if_neg h2]
theorem dR_rain (h : numB (.int xs.length) 1 4 = true) (h1 : xs.find? bad8 = none) (h2 : ys.length = xs.length) (h3 : ys.find? bad8 = some y) : dayRef xs ys f m = some (("rain" : Str), y) := by
  unfold dayRef; rw [if_pos h, h1]; show (if ys.length = xs.length then _ else _) = _; rw [if_pos h2, h3]
theorem dR_rest (h : numB (.int xs.length) 1 4 = true) (h1 : xs.find? bad8 = none) (h2 : ys.length = xs.length) (h3 : ys.find? bad8 = none) : dayRef xs ys f m = if numB f 0 8 = true then if numB m 0 3 = true then none else some (("mood" : Str), m) else some (("fill" : Str), f) := by
  unfold dayRef; rw [if_pos h, h1]; show (if ys.length = xs.length then _ else _) = _; rw [if_pos h2, h3]
theorem dR_fill (h : numB (.int xs.length) 1 4 = true) (h1 : xs.find? bad8 = none) (h2 : ys.length = xs.length) (h3 : ys.find? bad8 = none) (h4 : numB f 0 8 = false) : dayRef xs ys f m = some (("fill" : Str), f) := by
  rw [dR_rest h h1 h2 h3, if_neg (by rw [h4]; exact Bool.false_ne_true)]
theorem dR_mood (h : numB (.int xs.length) 1 4 = true) (h1 : xs.find? bad8 = none) (h2 : ys.length = xs.length) (h3 : ys.find? bad8 = none) (h4 : numB f 0 8 = true) (h5 : numB m 0 3 = false) : dayRef xs ys f m = some (("mood" : Str), m) := by
  rw [dR_rest h h1 h2 h3, if_pos h4, if_neg (by rw [h5]; exact Bool.false_ne_true)]
theorem dR_ok (h : numB (.int xs.length) 1 4 = true) (h1 : xs.find? bad8 = none) (h2 : ys.length = xs.length) (h3 : ys.find? bad8 = none) (h4 : numB f 0 8 = true) (h5 : numB m 0 3 = true) : dayRef xs ys f m = none := by
  rw [dR_rest h h1 h2 h3, if_pos h4, if_pos h5]
end
def spDay_init (K : PySem.W.Frag) (C CM : Addr) : Sp := fun vs H Q E => ∃ (p dx a b : Addr) (xs ys : List V) (f m : V), vs = [.ref p, .ref a, .ref b, f, m] ∧ H p = some (.ins C dx []) ∧ SqA K H a xs ∧ SqA K H b ys ∧ xs.length ≤ 1000 ∧ ys.length ≤ 1000 ∧ (∀ x, x ∈ xs → OddV x) ∧ (∀ y, y ∈ ys → OddV y) ∧ OddV f ∧ OddV m ∧
  (dayRef xs ys f m = none → ∀ (q r : Addr) (H' : Hp), Fr2 p dx H H' → H q = none → H r = none → H' q = some (.tup xs) → H' r = some (.tup ys) → H' p = some (.ins C dx [("dry", .ref q), ("rain", .ref r), ("fill", f), ("mood", m)]) → Q .non H') ∧
  (∀ tag v, dayRef xs ys f m = some (tag, v) → ∀ (d : Addr) (H' : Hp), H d = none → Fr2 p dx H H' → H' d = some (.xd [("value", v), ("what", .str tag)]) → E (.ref CM) (some d) H')
/-- a day at p -/
def DayAt (C : Addr) (H : Hp) (p : Addr) (ds rs : List Int) (f m : Int) : Prop := ∃ dx q r, H p = some (.ins C dx [("dry", .ref q), ("rain", .ref r), ("fill", .int f), ("mood", .int m)]) ∧ H q = some (.tup (ds.map V.int)) ∧ H r = some (.tup (rs.map V.int))
theorem DayAt.same {C : Addr} {H H' : Hp} {p : Addr} {ds rs : List Int} {f m : Int} (x : DayAt C H p ds rs f m) (s : Same H H') : DayAt C H' p ds rs f m := by
  obtain ⟨dx, q, r, e1, e2, e3⟩ := x
  exact ⟨dx, q, r, s _ _ e1, s _ _ e2, s _ _ e3⟩
theorem DayAt.frm {C s0 : Addr} {H H' : Hp} {p : Addr} {ds rs : List Int} {f m : Int} (x : DayAt C H p ds rs f m) (ns : ∀ u, H s0 = some u → ∃ xs, u = .lst xs) (fr : Frm [s0] H H') : DayAt C H' p ds rs f m := by
  obtain ⟨dx, q, r, e1, e2, e3⟩ := x
  have go : ∀ {b : Addr} {o : HO}, H b = some o → (∀ xs, o ≠ .lst xs) → H' b = some o := fun {b o} e h => fr _ _ (fun y => by
    have y : b = s0 := by simpa using y
    rw [y] at e
    obtain ⟨xs, z⟩ := ns _ e
    exact h xs z) e
  exact ⟨dx, q, r, go e1 (fun xs => by intro z; cases z), go e2 (fun xs => by intro z; cases z), go e3 (fun xs => by intro z; cases z)⟩
/-- the numbers of a day are in their bounds -/
def VDay (ds rs : List Int) (f m : Int) : Prop := 1 ≤ ds.length ∧ ds.length ≤ 4 ∧ rs.length = ds.length ∧ (∀ x, x ∈ ds → 0 ≤ x ∧ x ≤ 8) ∧ (∀ x, x ∈ rs → 0 ≤ x ∧ x ≤ 8) ∧ 0 ≤ f ∧ f ≤ 8 ∧ 0 ≤ m ∧ m ≤ 3
theorem VDay.n14 {ds rs : List Int} {f m : Int} (h : VDay ds rs f m) : numB (.int (ds.map V.int).length) 1 4 = true := by
  show decide _ = true
  rw [List.length_map]
  have := h.1
  have := h.2.1
  exact decide_eq_true (by omega)
theorem VDay.ref {ds rs : List Int} {f m : Int} (h : VDay ds rs f m) : dayRef (ds.map V.int) (rs.map V.int) (.int f) (.int m) = none := by
  have h0 := h.n14
  obtain ⟨h1, h2, h3, h4, h5, h6, h7, h8, h9⟩ := h
  exact dR_ok h0 (find_ints h4) (by rw [List.length_map, List.length_map]; exact h3) (find_ints h5) (decide_eq_true ⟨h6, h7⟩) (decide_eq_true ⟨h8, h9⟩)
theorem day_make {K : PySem.W.Frag} {C CM : Addr} {H : Hp} {ds rs : List Int} {f m : Int} {a b : Addr} {R : Hp → Prop} {E : XK} (hv : VDay ds rs f m) (ha : SqA K H a (ds.map V.int)) (hb : SqA K H b (rs.map V.int))
    {x dx : Addr} (nx : H x = none) (nd : H dx = none) (k : ∀ H', Same H H' → DayAt C H' x ds rs f m → R H') : spDay_init K C CM [.ref x, .ref a, .ref b, .int f, .int m] (upd (upd H dx (.own x)) x (.ins C dx [])) (fun v H2 => v = .non ∧ R H2) E := by
  have sm : Same H (upd (upd H dx (.own x)) x (.ins C dx [])) := fun b o e => by rw [upd_ne (ne_of_none e nx), upd_ne (ne_of_none e nd)]; exact e
  refine ⟨x, dx, a, b, _, _, _, _, rfl, upd_same, ha.same sm, hb.same sm, by rw [List.length_map]; have := hv.2.1; omega, by rw [List.length_map]; have := hv.2.1; have := hv.2.2.1; omega, odd_ints, odd_ints, .int _, .int _, fun _ q r H' fr nq nr eq er ep => ⟨rfl, k H' (fr.same nx nd) ⟨dx, q, r, ep, eq, er⟩⟩, fun tag v e => ?_⟩
  rw [hv.ref] at e
  cases e
def eqDy (d1 r1 : List Int) (f1 m1 : Int) (d2 r2 : List Int) (f2 m2 : Int) : Bool := decide (d1 = d2 ∧ r1 = r2 ∧ f1 = f2 ∧ m1 = m2)
theorem eqDy_self (d r : List Int) (f m : Int) : eqDy d r f m d r f m = true := decide_eq_true ⟨rfl, rfl, rfl, rfl⟩
def spDay_eq (C : Addr) : Sp := fun vs H Q _ => ∃ (p q : Addr) (d1 r1 d2 r2 : List Int) (f1 m1 f2 m2 : Int), vs = [.ref p, .ref q] ∧ DayAt C H p d1 r1 f1 m1 ∧ DayAt C H q d2 r2 f2 m2 ∧ Q (.bl (eqDy d1 r1 f1 m1 d2 r2 f2 m2)) H
/-- the first day is at least as harsh -/
def leDy (d1 r1 : List Int) (f1 m1 : Int) (d2 r2 : List Int) (f2 m2 : Int) : Bool := decide (d1.length = d2.length) && (decide (m1 = m2) && (decide (f1 ≤ f2) && (leL d2 d1 && leL r1 r2)))
def spDay_le (C : Addr) : Sp := fun vs H Q _ => ∃ (p q : Addr) (d1 r1 d2 r2 : List Int) (f1 m1 f2 m2 : Int), vs = [.ref p, .ref q] ∧ DayAt C H p d1 r1 f1 m1 ∧ DayAt C H q d2 r2 f2 m2 ∧ VDay d1 r1 f1 m1 ∧ VDay d2 r2 f2 m2 ∧ ∀ H', Same H H' → Q (.bl (leDy d1 r1 f1 m1 d2 r2 f2 m2)) H'
def moreR (u : Int) (rs : List Int) : List Int := rs.map fun r => if r + u < 8 then r + u else 8
theorem moreR_vday {ds rs : List Int} {f m u : Int} (h : VDay ds rs f m) (hu : 0 ≤ u) : VDay ds (moreR u rs) f m := by
  obtain ⟨h1, h2, h3, h4, h5, h6⟩ := h
  refine ⟨h1, h2, by unfold moreR; rw [List.length_map]; exact h3, h4, fun x hx => ?_, h6⟩
  obtain ⟨r, hr, rfl⟩ := List.mem_map.mp hx
  have := h5 r hr
  show 0 ≤ (if r + u < 8 then r + u else 8) ∧ (if r + u < 8 then r + u else 8) ≤ 8
  split <;> omega
def spDay_add (C CM : Addr) : Sp := fun vs H Q E => ∃ (p : Addr) (ds rs : List Int) (f m u : Int), vs = [.ref p, .int u] ∧ DayAt C H p ds rs f m ∧ VDay ds rs f m ∧
  (0 ≤ u → u ≤ 8 → ∀ (x : Addr) (H' : Hp), Same H H' → DayAt C H' x ds (moreR u rs) f m → Q (.ref x) H') ∧
  (¬ (0 ≤ u ∧ u ≤ 8) → ∀ (d : Addr) (H' : Hp), H d = none → Same H H' → H' d = some (.xd [("value", .int u), ("what", .str "units")]) → E (.ref CM) (some d) H')
def splesser : Sp := fun vs H Q _ => ∃ (i j : Int), vs = [.int i, .int j] ∧ Q (.int (if i < j then i else j)) H

theorem okDay___init__ {f : Addr} {fd : FuncData} (F : Fun K "__init__" "Day.__init__" sDay___init__ f fd) (T : Txt K mg) {C_BadNumber C_Day fi fe : Addr} (D_Day : DatC K mg "Day" C_Day fi fe ["dry", "rain", "fill", "mood"]) (C_xcheck_number : ∃ (g : Addr) (gd : FuncData), FnOk P w K mg base (L2.CX P w) 4 g gd Pcheck_number (spcheck_number C_BadNumber) ∧ mg "check_number" = some (.ref g) ∧ PySem.W.keepIn K (.ref g) = true ∧ Binds K gd Pcheck_number []) (C_xcheck_units : ∃ (g : Addr) (gd : FuncData), FnOk P w K mg base (L2.CX P w) 5 g gd Pcheck_units (spcheck_units K C_BadNumber) ∧ mg "check_units" = some (.ref g) ∧ PySem.W.keepIn K (.ref g) = true ∧ Binds K gd Pcheck_units []) : FnOk P w K mg base (L2.CX P w) 6 f fd PDay___init__ (spDay_init K C_Day C_BadNumber) := by
  obtain ⟨_, c_MOST_MOODS⟩ := T.c_MOST_MOODS
  obtain ⟨_, c_MOST_PLOTS⟩ := T.c_MOST_PLOTS
  obtain ⟨_, c_MOST_UNITS⟩ := T.c_MOST_UNITS
  obtain ⟨gcheck_number, gdcheck_number, Gcheck_number, mcheck_number, kcheck_number, bcheck_number⟩ := C_xcheck_number
  obtain ⟨gcheck_units, gdcheck_units, Gcheck_units, mcheck_units, kcheck_units, bcheck_units⟩ := C_xcheck_units
  refine F.okX scDay___init__ (fun vs H Q E h => ?_) (fun cdv A outer s H vs Q E hr h => ?_)
  · obtain ⟨p, dx, a, b, xs, ys, f, m, rfl, hp, ha, hb, hlx, hly, hox, hoy, hf, hm, kOk, kE⟩ := h
    rfl
  · obtain ⟨p, dx, a, b, xs, ys, f, m, rfl, hp, ha, hb, hlx, hly, hox, hoy, hf, hm, kOk, kE⟩ := h
    refine ⟨_, (pss_cons (ps_set (i := 5) scDay___init__.nd rfl (by first | exact Or.inl rfl | exact Or.inr rfl) (pe_callS Gcheck_number (hr.mono (by decide)) (by rfl) mcheck_number kcheck_number bcheck_number (fun σ => passAt (takes_of rfl rfl rfl rfl) σ) (pa_cons pe_str (pa_cons (pe_callB call_len_seq (by rfl) T.b_len PySem.boot_len (pa_cons (pv 1) pa_nil)) (pa_cons pe_int (pa_cons (pe_glob (v := .int 4) rfl c_MOST_PLOTS ⟨_, rfl⟩) pa_nil))))))
  (pss_cons (ps_fld (pv 0) (pe_callS Gcheck_units (hr.mono (by decide)) (by rfl) mcheck_units kcheck_units bcheck_units (fun σ => passAt (takes_of rfl rfl rfl rfl) σ) (pa_cons pe_str (pa_cons (pv 1) pa_nil))) rfl)
  (pss_cons (ps_expr (pe_callS Gcheck_number (hr.mono (by decide)) (by rfl) mcheck_number kcheck_number bcheck_number (fun σ => passAt (takes_of rfl rfl rfl rfl) σ) (pa_cons pe_str (pa_cons (pe_callB call_len_seq (by rfl) T.b_len PySem.boot_len (pa_cons (pv 2) pa_nil)) (pa_cons (pv 5) (pa_cons (pv 5) pa_nil))))))
  (pss_cons (ps_fld (pv 0) (pe_callS Gcheck_units (hr.mono (by decide)) (by rfl) mcheck_units kcheck_units bcheck_units (fun σ => passAt (takes_of rfl rfl rfl rfl) σ) (pa_cons pe_str (pa_cons (pv 2) pa_nil))) rfl)
  (pss_cons (ps_fld (pv 0) (pe_callS Gcheck_number (hr.mono (by decide)) (by rfl) mcheck_number kcheck_number bcheck_number (fun σ => passAt (takes_of rfl rfl rfl rfl) σ) (pa_cons pe_str (pa_cons (pv 3) (pa_cons pe_int (pa_cons (pe_glob (v := .int 8) rfl c_MOST_UNITS ⟨_, rfl⟩) pa_nil))))) rfl)
  (pss_one (ps_fld (pv 0) (pe_callS Gcheck_number (hr.mono (by decide)) (by rfl) mcheck_number kcheck_number bcheck_number (fun σ => passAt (takes_of rfl rfl rfl rfl) σ) (pa_cons pe_str (pa_cons (pv 4) (pa_cons pe_int (pa_cons (pe_op op_sub (pe_glob (v := .int 4) rfl c_MOST_MOODS ⟨_, rfl⟩) pe_int) pa_nil))))) rfl))))))), ?_⟩
    have frs : ∀ {H1 : Hp}, Same H H1 → Fr2 p dx H H1 := fun s1 b o _ _ e => s1 b o e
    refine ⟨_, rfl, a, _, rfl, ha, "plots", .int xs.length, 1, 4, rfl, (by decide +kernel), .int _, fun t0 => ?_, fun t0 d H1 nd s1 hd => ?_⟩
    case refine_2 =>
      exact kE "plots" _ (dR_p1 t0) d H1 nd (frs s1) hd
    refine ⟨_, rfl, "dry", a, xs, rfl, (by decide +kernel), ha, hlx, hox, fun t1 q H1 nq eq s1 => ?_, fun x t1 d H1 nd s1 hd => ?_⟩
    case refine_2 =>
      exact kE "dry" x (dR_dry t0 t1) d H1 nd (frs s1) hd
    have p1 := s1 _ _ hp
    have npq : q ≠ p := fun y => by rw [y, hp] at nq; cases nq
    refine ⟨_, rfl, p, C_Day, dx, [], rfl, p1, D_Day.cls, D_Day.no "dry" (by decide), (by decide), ?_⟩
    have free : ∀ {o : HO} {d : Addr}, upd H1 p o d = none → H d = none := fun {o d} e => by
      have ne : d ≠ p := fun q => by rw [q, upd_same] at e; cases e
      rw [upd_ne ne] at e
      exact s1.free e
    have fr1 : ∀ {o : HO} {H2 : Hp}, Same (upd H1 p o) H2 → Fr2 p dx H H2 := fun s2 b o nb _ e => s2 b o (by rw [upd_ne nb]; exact s1 b o e)
    have hb1 : ∀ {o : HO}, SqA K (upd H1 p o) b ys := fun {o} => (hb.same s1).ins p1
    refine ⟨_, rfl, b, _, rfl, hb1, _, rfl, _, rfl, "plots", .int ys.length, _, _, rfl, (by decide +kernel), .int _, fun t2 => ?_, fun t2 d H2 nd s2 hd => ?_⟩
    case refine_2 =>
      have t2 : ¬ ys.length = xs.length := fun z => by
        rw [z] at t2
        have : decide ((xs.length : Int) ≤ xs.length ∧ (xs.length : Int) ≤ xs.length) = false := t2
        simp at this
      exact kE "plots" _ (dR_p2 t0 t1 t2) d H2 (free nd) (fr1 s2) hd
    have t2 : ys.length = xs.length := by
      have : decide ((xs.length : Int) ≤ ys.length ∧ (ys.length : Int) ≤ xs.length) = true := t2
      have := of_decide_eq_true this
      omega
    refine ⟨_, rfl, "rain", b, ys, rfl, (by decide +kernel), hb1, hly, hoy, fun t3 r H2 nr er s2 => ?_, fun x t3 d H2 nd s2 hd => ?_⟩
    case refine_2 =>
      exact kE "rain" x (dR_rain t0 t1 t2 t3) d H2 (free nd) (fr1 s2) hd
    have p2 := s2 _ _ upd_same
    refine ⟨_, rfl, p, C_Day, dx, _, rfl, p2, D_Day.cls, D_Day.no "rain" (by decide), (by show 1 < 1000; decide), ?_⟩
    have free2 : ∀ {o : HO} {d : Addr}, upd H2 p o d = none → H d = none := fun {o d} e => by
      have ne : d ≠ p := fun q => by rw [q, upd_same] at e; cases e
      rw [upd_ne ne] at e
      exact free (s2.free e)
    have fr2 : ∀ {o : HO} {H3 : Hp}, Same (upd H2 p o) H3 → Fr2 p dx H H3 := fun s3 b o nb _ e => s3 b o (by rw [upd_ne nb]; exact s2 _ _ (by rw [upd_ne nb]; exact s1 b o e))
    refine ⟨_, rfl, "fill", f, 0, 8, rfl, (by decide +kernel), hf, fun t4 => ?_, fun t4 d H3 nd s3 hd => ?_⟩
    case refine_2 =>
      exact kE "fill" f (dR_fill t0 t1 t2 t3 t4) d H3 (free2 nd) (fr2 s3) hd
    refine ⟨_, rfl, p, C_Day, dx, _, rfl, upd_same, D_Day.cls, D_Day.no "fill" (by decide), (by show 2 < 1000; decide), ?_⟩
    rw [upd_upd]
    refine ⟨_, rfl, _, _, rfl, rfl, "mood", m, 0, 3, rfl, (by decide +kernel), hm, fun t5 => ?_, fun t5 d H3 nd s3 hd => ?_⟩
    case refine_2 =>
      exact kE "mood" m (dR_mood t0 t1 t2 t3 t4 t5) d H3 (free2 nd) (fr2 s3) hd
    refine ⟨_, rfl, p, C_Day, dx, _, rfl, upd_same, D_Day.cls, D_Day.no "mood" (by decide), (by show 3 < 1000; decide), ?_⟩
    rw [upd_upd]
    have nr0 := free nr
    have nrp : r ≠ p := fun y => by rw [y, hp] at nr0; cases nr0
    refine kOk (dR_ok t0 t1 t2 t3 t4 t5) q r _ (fun b o nb _ e => by rw [upd_ne nb]; exact s2 _ _ (by rw [upd_ne nb]; exact s1 b o e)) nq nr0 (by rw [upd_ne npq]; exact s2 _ _ (by rw [upd_ne npq]; exact eq)) (by rw [upd_ne nrp]; exact er) upd_same

theorem okDay___eq__ {f : Addr} {fd : FuncData} (F : Fun K "__eq__" "Day.__eq__" sDay___eq__ f fd) (T : Txt K mg) {C_BadNumber C_Day fi fe : Addr} (D_Day : DatC K mg "Day" C_Day fi fe ["dry", "rain", "fill", "mood"]) : FnOk P w K mg base CX0 1 f fd PDay___eq__ (spDay_eq C_Day) := by
  refine F.ok scDay___eq__ (fun vs H Q E h => ?_) (fun cdv A outer s H vs Q E hr h => ?_)
  · obtain ⟨p, q, d1, r1, d2, r2, f1, m1, f2, m2, rfl, hp, hq, k⟩ := h
    rfl
  · obtain ⟨p, q, d1, r1, d2, r2, f1, m1, f2, m2, rfl, hp, hq, k⟩ := h
    refine ⟨_, (pss_one (ps_ret (pe_and (pe_callB (id := "isinstance") call_isi (by rfl) T.b_isinstance (by decide +kernel) (pa_cons (pv 1) (pa_cons (pe_glob (v := .ref C_Day) rfl D_Day.g rfl) pa_nil))) (pe_and (pe_cmpR (op_eqD hr.units) (pe_fld (pv 0) rfl) (pe_fld (pv 1) rfl) (nomark _)) (pe_and (pe_cmpR (op_eqD hr.units) (pe_fld (pv 0) rfl) (pe_fld (pv 1) rfl) (nomark _)) (pe_and (pe_cmpR op_eq (pe_fld (pv 0) rfl) (pe_fld (pv 1) rfl) (nomark _)) (pe_one (pe_cmpR op_eq (pe_fld (pv 0) rfl) (pe_fld (pv 1) rfl) (nomark _))))))))), ?_⟩
    obtain ⟨dx, qx, rx, e1, x1, y1⟩ := hp
    obtain ⟨dy, qy, ry, e2, x2, y2⟩ := hq
    refine ⟨_, rfl, _, _, _, _, true, rfl, .own _, .base (.ins e2 D_Day.cls D_Day.ha D_Day.hn D_Day.htk D_Day.hm), D_Day.kit, true, rfl, iteT ?_⟩
    have no := fun f (h : f ∈ (["dry", "rain", "fill", "mood"] : List Str)) => D_Day.no f h
    have fin : ∀ b : Bool, b = eqDy d1 r1 f1 m1 d2 r2 f2 m2 → Q (.bl b) H := fun b e => by rw [e]; exact k
    refine ⟨_, rfl, p, C_Day, dx, _, _, rfl, e1, D_Day.cls, no _ (by decide), rfl, _, rfl, q, C_Day, dy, _, _, rfl, e2, D_Day.cls, no _ (by decide), rfl, _, _, dp_intsT (SqT.of x1), dp_intsT (SqT.of x2), shaped_intsT _, shaped_intsT _, _, rfl, ?_⟩
    rw [eqv_intsT]
    refine ite2 (fun c1 => ?_) (fun c1 => fin _ (by unfold eqDy; rw [decide_eq_false (p := d1 = d2 ∧ _) (fun q => c1 (decide_eq_true q.1))]))
    have c1 : d1 = d2 := of_decide_eq_true c1
    refine ⟨_, rfl, p, C_Day, dx, _, _, rfl, e1, D_Day.cls, no _ (by decide), rfl, _, rfl, q, C_Day, dy, _, _, rfl, e2, D_Day.cls, no _ (by decide), rfl, _, _, dp_intsT (SqT.of y1), dp_intsT (SqT.of y2), shaped_intsT _, shaped_intsT _, _, rfl, ?_⟩
    rw [eqv_intsT]
    refine ite2 (fun c2 => ?_) (fun c2 => fin _ (by unfold eqDy; rw [decide_eq_false (p := d1 = d2 ∧ _) (fun q => c2 (decide_eq_true q.2.1))]))
    have c2 : r1 = r2 := of_decide_eq_true c2
    refine ⟨_, rfl, p, C_Day, dx, _, _, rfl, e1, D_Day.cls, no _ (by decide), rfl, _, rfl, q, C_Day, dy, _, _, rfl, e2, D_Day.cls, no _ (by decide), rfl, rfl, _, rfl, ?_⟩
    refine ite2 (fun c3 => ?_) (fun c3 => fin _ (by unfold eqDy; rw [decide_eq_false (p := d1 = d2 ∧ _) (fun q => c3 (decide_eq_true (by rw [q.2.2.1])))]))
    have c3 : f1 = f2 := by injection of_decide_eq_true c3
    refine ⟨_, rfl, p, C_Day, dx, _, _, rfl, e1, D_Day.cls, no _ (by decide), rfl, _, rfl, q, C_Day, dy, _, _, rfl, e2, D_Day.cls, no _ (by decide), rfl, rfl, fin _ ?_⟩
    unfold eqDy
    simp [c1, c2, c3]

theorem okDay___le__ {f : Addr} {fd : FuncData} (F : Fun K "__le__" "Day.__le__" sDay___le__ f fd) (T : Txt K mg) {C_BadNumber C_Day fi fe : Addr} (D_Day : DatC K mg "Day" C_Day fi fe ["dry", "rain", "fill", "mood"]) : FnOk P w K mg base CX0 1 f fd PDay___le__ (spDay_le C_Day) := by
  refine F.ok scDay___le__ (fun vs H Q E h => ?_) (fun cdv A outer s H vs Q E hr h => ?_)
  · obtain ⟨p, q, d1, r1, d2, r2, f1, m1, f2, m2, rfl, hp, hq, hv1, hv2, k⟩ := h
    rfl
  · obtain ⟨p, q, d1, r1, d2, r2, f1, m1, f2, m2, rfl, hp, hq, hv1, hv2, k⟩ := h
    refine ⟨_, (pss_cons (ps_if (pt_not (pt_val (pe_callB (id := "isinstance") call_isi (by rfl) T.b_isinstance (by decide +kernel) (pa_cons (pv 1) (pa_cons (pe_glob (v := .ref C_Day) rfl D_Day.g rfl) pa_nil)))))
  (pss_one ps_never)
  pss_nil)
  (pss_cons (ps_if (PW.pt (pw_or (pt_cmpR op_ne (pe_callB call_len_seq (by rfl) T.b_len PySem.boot_len (pa_cons (pe_fld (pv 0) rfl) pa_nil)) (pe_callB call_len_seq (by rfl) T.b_len PySem.boot_len (pa_cons (pe_fld (pv 1) rfl) pa_nil)) (nomark _)) (pw_or (pt_cmpR op_ne (pe_fld (pv 0) rfl) (pe_fld (pv 1) rfl) (nomark _)) (pw_or1 (pt_cmpR op_gt (pe_fld (pv 0) rfl) (pe_fld (pv 1) rfl) (nomark _))))))
  (pss_one (ps_ret pe_bl))
  pss_nil)
  (pss_cons (ps_set (i := 2) scDay___le__.nd rfl (by first | exact Or.inl rfl | exact Or.inr rfl) (pe_callB (id := "all") (cr_all rfl) (by rfl) T.b_all (by decide +kernel) (pa_cons (pe_lc (g := gTup K 2 (gCons (gName 3) (gCons (gName 4) gNil))) (own := [("mine", 3), ("its", 4)]) rfl scDay___le__.nd (pi_zipA (by rfl) T.b_zip (pa_cons (pe_fld (pv 0) rfl) (pa_cons (pe_fld (pv 1) rfl) pa_nil))) (blkOk_by (own := [("mine", 3), ("its", 4)]) (N := NDay___le__) (sc := defScope sDay___le__) (by decide +kernel)) (fun _ _ _ _ _ => (pg_tup rfl (pgs_cons (pg_name (i := 3) scDay___le__.nd rfl (by first | exact Or.inl rfl | exact Or.inr rfl)) (pgs_cons (pg_name (i := 4) scDay___le__.nd rfl (by first | exact Or.inl rfl | exact Or.inr rfl)) pgs_nil)))) (fun _ _ _ _ _ => pts_nil) (fun _ _ _ _ _ => (pe_cmpR op_ge (pv 3) (pv 4) (nomark _)))) pa_nil)))
  (pss_one (ps_ret (pe_and (pv 2) (pe_one (pe_callB (id := "all") (cr_all rfl) (by rfl) T.b_all (by decide +kernel) (pa_cons (pe_lc (g := gTup K 2 (gCons (gName 3) (gCons (gName 4) gNil))) (own := [("mine", 3), ("its", 4)]) rfl scDay___le__.nd (pi_zipA (by rfl) T.b_zip (pa_cons (pe_fld (pv 0) rfl) (pa_cons (pe_fld (pv 1) rfl) pa_nil))) (blkOk_by (own := [("mine", 3), ("its", 4)]) (N := NDay___le__) (sc := defScope sDay___le__) (by decide +kernel)) (fun _ _ _ _ _ => (pg_tup rfl (pgs_cons (pg_name (i := 3) scDay___le__.nd rfl (by first | exact Or.inl rfl | exact Or.inr rfl)) (pgs_cons (pg_name (i := 4) scDay___le__.nd rfl (by first | exact Or.inl rfl | exact Or.inr rfl)) pgs_nil)))) (fun _ _ _ _ _ => pts_nil) (fun _ _ _ _ _ => (pe_cmpR op_le (pv 3) (pv 4) (nomark _)))) pa_nil))))))))), ?_⟩
    obtain ⟨dx, qx, rx, e1, x1, y1⟩ := hp
    obtain ⟨dy, qy, ry, e2, x2, y2⟩ := hq
    obtain ⟨u1, u2, u3, _⟩ := hv1
    obtain ⟨w1, w2, w3, _⟩ := hv2
    refine ⟨_, rfl, _, _, _, _, true, rfl, .own _, .base (.ins e2 D_Day.cls D_Day.ha D_Day.hn D_Day.htk D_Day.hm), D_Day.kit, true, rfl, iteF ?_⟩
    have no := fun f (h : f ∈ (["dry", "rain", "fill", "mood"] : List Str)) => D_Day.no f h
    refine ⟨_, rfl, p, C_Day, dx, _, _, rfl, e1, D_Day.cls, no _ (by decide), rfl, _, _, rfl, .inr (SqT.of x1), _, rfl, q, C_Day, dy, _, _, rfl, e2, D_Day.cls, no _ (by decide), rfl, _, _, rfl, .inr (SqT.of x2), rfl, _, rfl, ?_⟩
    refine ite2 (fun c2 => ?_) (fun c2 => ?_)
    · have e : leDy d1 r1 f1 m1 d2 r2 f2 m2 = false := by
        unfold leDy
        rw [decide_eq_false (p := d1.length = d2.length) (fun q => by rw [List.length_map, List.length_map, q] at c2; exact ne_self c2), Bool.false_and]
      rw [e] at k
      exact k _ (Same.refl _)
    have c2 : d1.length = d2.length := by
      by_cases q : d1.length = d2.length
      · exact q
      · exact absurd (by rw [List.length_map, List.length_map, decide_eq_false (fun y => q (by injection y with y; omega))]; rfl) c2
    refine ⟨_, rfl, p, C_Day, dx, _, _, rfl, e1, D_Day.cls, no _ (by decide), rfl, _, rfl, q, C_Day, dy, _, _, rfl, e2, D_Day.cls, no _ (by decide), rfl, rfl, _, rfl, ?_⟩
    refine ite2 (fun c1 => ?_) (fun c1 => ?_)
    · have c1 : ¬ m1 = m2 := fun q => by rw [q] at c1; exact ne_self c1
      have e : leDy d1 r1 f1 m1 d2 r2 f2 m2 = false := by unfold leDy; rw [decide_eq_false c1, Bool.false_and, Bool.and_false]
      rw [e] at k
      exact k _ (Same.refl _)
    have c1 : m1 = m2 := by
      by_cases q : m1 = m2
      · exact q
      · exact absurd (by rw [decide_eq_false (fun y => q (by injection y))]; rfl) c1
    refine ⟨_, rfl, p, C_Day, dx, _, _, rfl, e1, D_Day.cls, no _ (by decide), rfl, _, rfl, q, C_Day, dy, _, _, rfl, e2, D_Day.cls, no _ (by decide), rfl, _, _, rfl, rfl, _, rfl, ?_⟩
    refine ite2 (fun c3 => ?_) (fun c3 => ?_)
    · have c3 := of_decide_eq_true c3
      have e : leDy d1 r1 f1 m1 d2 r2 f2 m2 = false := by unfold leDy; rw [decide_eq_false (p := f1 ≤ f2) (by omega), Bool.false_and, Bool.and_false, Bool.and_false]
      rw [e] at k
      exact k _ (Same.refl _)
    have c3 : f1 ≤ f2 := by
      by_cases q : f1 ≤ f2
      · exact q
      · exact absurd (decide_eq_true (by omega)) c3
    have eAll : leDy d1 r1 f1 m1 d2 r2 f2 m2 = (leL d2 d1 && leL r1 r2) := by
      unfold leDy
      rw [decide_eq_true c2, decide_eq_true c1, decide_eq_true c3, Bool.true_and, Bool.true_and, Bool.true_and]
    rw [eAll] at k
    refine ⟨_, rfl, p, C_Day, dx, _, _, rfl, e1, D_Day.cls, no _ (by decide), rfl, _, rfl, q, C_Day, dy, _, _, rfl, e2, D_Day.cls, no _ (by decide), rfl, qx, qy, _, _, rfl, .inr ⟨SqT.of x1, SqT.of x2, fun D hD => ?_⟩⟩
    refine lc_it (walk_zipT rfl) (fun i H1 => H1 D = some (.lst (((leBs d2 d1).take i).map V.bl)) ∧ Same H H1) ⟨upd_same, Same.new hD⟩ (fun i H1 _ q => ⟨SqT.of (q.2 _ _ x1), SqT.of (q.2 _ _ x2)⟩) ?_ ?_
    · rintro i x H1o H1 hi ⟨g1, s1⟩ ⟨T, x, y, rfl, hT, rfl, hx, hy⟩
      obtain ⟨a, ha, rfl⟩ := int_at hx
      obtain ⟨b, hb, rfl⟩ := int_at hy
      refine ⟨T, _, rfl, SqT.of upd_same, rfl, _, _, rfl, _, _, rfl, rfl, rfl, ?_⟩
      refine ⟨_, rfl, _, rfl, _, _, rfl, rfl, ?_⟩
      have nTD : D ≠ T := ne_of_none g1 hT
      refine ⟨_, by rw [upd_ne nTD]; exact g1, small1000 (by rw [List.length_map, List.length_take]; have := leBs_len c2.symm; omega), ?_, fun z o e => ?_⟩
      · rw [upd_same, take_snoc (leBs_at hb ha), List.map_append]
        rfl
      · have n1 : z ≠ D := ne_of_none e hD
        rw [upd_ne n1, upd_ne (ne_of_none (s1 _ _ e) hT)]
        exact s1 _ _ e
    rintro H1 ⟨g1, s1⟩
    rw [List.take_of_length_le (by rw [leBs_len c2.symm]; simp only [List.length_map]; omega)] at g1
    refine ⟨D, _, rfl, SqL.of g1, ?_⟩
    rw [leBs_all c2.symm]
    refine ⟨_, rfl, _, rfl, ?_⟩
    cases hA : leL d2 d1 with
    | false =>
      refine iteF ?_
      rw [hA, Bool.false_and] at k
      exact k _ s1
    | true =>
      refine iteT ?_
      rw [hA, Bool.true_and] at k
      have c4 : r1.length = r2.length := by omega
      have e1 := s1 _ _ e1
      have e2 := s1 _ _ e2
      refine ⟨_, rfl, p, C_Day, dx, _, _, rfl, e1, D_Day.cls, no _ (by decide), rfl, _, rfl, q, C_Day, dy, _, _, rfl, e2, D_Day.cls, no _ (by decide), rfl, rx, ry, _, _, rfl, .inr ⟨SqT.of (s1 _ _ y1), SqT.of (s1 _ _ y2), fun D2 hD2 => ?_⟩⟩
      have z1 := s1 _ _ y1
      have z2 := s1 _ _ y2
      have s0 := s1
      clear s1 g1 hD
      refine lc_it (walk_zipT rfl) (fun i H2 => H2 D2 = some (.lst (((leBs r1 r2).take i).map V.bl)) ∧ Same H1 H2) ⟨upd_same, Same.new hD2⟩ (fun i H2 _ q => ⟨SqT.of (q.2 _ _ z1), SqT.of (q.2 _ _ z2)⟩) ?_ ?_
      · rintro i x H2o H2 hi ⟨g1, s1⟩ ⟨T, x, y, rfl, hT, rfl, hx, hy⟩
        obtain ⟨a, ha, rfl⟩ := int_at hx
        obtain ⟨b, hb, rfl⟩ := int_at hy
        refine ⟨T, _, rfl, SqT.of upd_same, rfl, _, _, rfl, _, _, rfl, rfl, rfl, ?_⟩
        refine ⟨_, rfl, _, rfl, _, _, rfl, rfl, ?_⟩
        have nTD : D2 ≠ T := ne_of_none g1 hT
        refine ⟨_, by rw [upd_ne nTD]; exact g1, small1000 (by rw [List.length_map, List.length_take]; have := leBs_len c4; omega), ?_, fun z o e => ?_⟩
        · rw [upd_same, take_snoc (leBs_at ha hb), List.map_append]
          rfl
        · have n1 : z ≠ D2 := ne_of_none e hD2
          rw [upd_ne n1, upd_ne (ne_of_none (s1 _ _ e) hT)]
          exact s1 _ _ e
      rintro H2 ⟨g1, s1⟩
      rw [List.take_of_length_le (by rw [leBs_len c4]; simp only [List.length_map]; omega)] at g1
      refine ⟨D2, _, rfl, SqL.of g1, ?_⟩
      rw [leBs_all c4]
      exact k _ (s0.trans s1)

theorem oklesser {f : Addr} {fd : FuncData} (F : Fun K "lesser" "lesser" slesser f fd) (T : Txt K mg) : FnOk P w K mg base CX0 1 f fd Plesser splesser := by
  refine F.ok sclesser (fun vs H Q E h => ?_) (fun cdv A outer s H vs Q E hr h => ?_)
  · obtain ⟨i, j, rfl, k⟩ := h
    rfl
  · obtain ⟨i, j, rfl, k⟩ := h
    refine ⟨_, (pss_one (ps_ret (pe_ifExp (pt_cmpR op_lt (pv 0) (pv 1) (nomark _)) (pv 0) (pv 1)))), ?_⟩
    refine ⟨_, rfl, _, rfl, _, _, rfl, rfl, ?_⟩
    refine ⟨_, rfl, ite2 (fun h => ?_) (fun h => ?_)⟩
    · rw [if_pos (of_decide_eq_true h)] at k
      exact ⟨_, rfl, k⟩
    · rw [if_neg (fun z => h (decide_eq_true z))] at k
      exact ⟨_, rfl, k⟩

theorem okDay___add__ {f : Addr} {fd : FuncData} (F : Fun K "__add__" "Day.__add__" sDay___add__ f fd) (T : Txt K mg) {C_BadNumber C_Day fi fe : Addr} (D_Day : DatC K mg "Day" C_Day fi fe ["dry", "rain", "fill", "mood"]) (Clesser : Cal P w K mg base "lesser" Plesser 1 splesser) (C_xcheck_number : ∃ (g : Addr) (gd : FuncData), FnOk P w K mg base (L2.CX P w) 4 g gd Pcheck_number (spcheck_number C_BadNumber) ∧ mg "check_number" = some (.ref g) ∧ PySem.W.keepIn K (.ref g) = true ∧ Binds K gd Pcheck_number []) {fdi : FuncData} (GDay___init__ : FnOk P w K mg base (L2.CX P w) 6 fi fdi PDay___init__ (spDay_init K C_Day C_BadNumber)) (bDay___init__ : Binds K fdi PDay___init__ []) : FnOk P w K mg base (L2.CX P w) 8 f fd PDay___add__ (spDay_add C_Day C_BadNumber) := by
  obtain ⟨glesser, gdlesser, Glesser, mlesser, klesser, blesser⟩ := Clesser.ex
  obtain ⟨_, c_MOST_UNITS⟩ := T.c_MOST_UNITS
  obtain ⟨gcheck_number, gdcheck_number, Gcheck_number, mcheck_number, kcheck_number, bcheck_number⟩ := C_xcheck_number
  refine F.okX scDay___add__ (fun vs H Q E h => ?_) (fun cdv A outer s H vs Q E hr h => ?_)
  · obtain ⟨p, ds, rs, f, m, u, rfl, hp, hv, kT, kE⟩ := h
    rfl
  · obtain ⟨p, ds, rs, f, m, u, rfl, hp, hv, kT, kE⟩ := h
    refine ⟨_, (pss_cons (ps_set (i := 2) scDay___add__.nd rfl (by first | exact Or.inl rfl | exact Or.inr rfl) (pe_callS Gcheck_number (hr.mono (by decide)) (by rfl) mcheck_number kcheck_number bcheck_number (fun σ => passAt (takes_of rfl rfl rfl rfl) σ) (pa_cons pe_str (pa_cons (pv 1) (pa_cons pe_int (pa_cons (pe_glob (v := .int 8) rfl c_MOST_UNITS ⟨_, rfl⟩) pa_nil))))))
  (pss_cons (ps_setLc (i := 3) (own := [("wet", 4)]) rfl scDay___add__.nd rfl rfl (sw_true rfl rfl rfl (by decide +kernel)) (pi_tup (pe_fld (pv 0) rfl)) (blkOk_by (own := [("wet", 4)]) (N := NDay___add__) (sc := defScope sDay___add__) (by decide +kernel)) (fun _ _ _ _ _ => (pg_name (i := 4) scDay___add__.nd rfl (by first | exact Or.inl rfl | exact Or.inr rfl))) (fun _ _ _ _ _ => pts_nil) (fun _ _ _ _ _ => (pe_call Glesser (hr.mono (by decide)) (by rfl) mlesser klesser blesser .nil pass0 (pa_cons (pe_op op_add (pv 4) (pv 2)) (pa_cons (pe_glob (v := .int 8) rfl c_MOST_UNITS ⟨_, rfl⟩) pa_nil)))))
  (pss_one (ps_ret (pe_makeS D_Day.mkk GDay___init__ (hr.mono (by decide)) (by rfl) D_Day.g bDay___init__ (fun σ => passAt (takes_of rfl rfl rfl rfl) σ) (pa_cons (pe_fld (pv 0) rfl) (pa_cons (pv 3) (pa_cons (pe_fld (pv 0) rfl) (pa_cons (pe_fld (pv 0) rfl) pa_nil))))))))), ?_⟩
    refine ⟨_, rfl, "units", .int u, 0, 8, rfl, (by decide +kernel), .int _, fun t0 => ?_, fun t0 d H1 nd s1 hd => ?_⟩
    case refine_2 =>
      exact kE (of_decide_eq_false t0) d H1 nd s1 hd
    have hu := of_decide_eq_true (show decide (0 ≤ u ∧ u ≤ 8) = true from t0)
    obtain ⟨dx, qx, rx, e1, x1, y1⟩ := id hp
    obtain ⟨v1, v2, v3, _⟩ := id hv
    have no := fun f (h : f ∈ (["dry", "rain", "fill", "mood"] : List Str)) => D_Day.no f h
    refine ⟨_, rfl, p, C_Day, dx, _, _, rfl, e1, D_Day.cls, no _ (by decide), rfl, rx, rfl, ⟨_, SqT.of y1⟩, fun D hD => ?_⟩
    refine lc_it walk_tup (fun i H1 => H1 D = some (.lst ((moreR u (rs.take i)).map V.int)) ∧ Same H H1) ⟨upd_same, Same.new hD⟩ (fun i H1 _ q => SqT.of (q.2 _ _ y1)) ?_ ?_
    · rintro i x H1o H1 hi ⟨g1, s1⟩ ⟨rfl, hx⟩
      obtain ⟨a, ha, rfl⟩ := int_at hx
      refine ⟨rfl, ?_⟩
      refine ⟨_, rfl, _, rfl, _, _, rfl, rfl, a + u, 8, rfl, ?_⟩
      refine ⟨_, g1, small1000 (by unfold moreR; simp only [List.length_map, List.length_take]; omega), ?_, fun z o e => by rw [upd_ne (ne_of_none e hD)]; exact s1 _ _ e⟩
      rw [upd_same, take_snoc ha]
      unfold moreR
      rw [List.map_append, List.map_append]
      rfl
    rintro H1 ⟨g1, s1⟩
    rw [List.take_of_length_le (by simp only [List.length_map]; exact Nat.le_refl _)] at g1
    have e1 := s1 _ _ e1
    refine ⟨_, rfl, p, C_Day, dx, _, _, rfl, e1, D_Day.cls, no _ (by decide), rfl, _, rfl, _, rfl, p, C_Day, dx, _, _, rfl, e1, D_Day.cls, no _ (by decide), rfl, _, rfl, p, C_Day, dx, _, _, rfl, e1, D_Day.cls, no _ (by decide), rfl, fun y dy ny nd _ => ?_⟩
    refine day_make (moreR_vday hv hu.1) (.inr (SqT.of (s1 _ _ x1))) (.inl (SqL.of g1)) ny nd fun H5 s5 st => ?_
    exact kT hu.1 hu.2 y _ (s1.trans s5) st
end
end Wb

namespace Wb
open PySem PySem.Spec PyProof.Rows L2 Wx NdefX RZ StX PyProof.Rows.FinIter
section
variable {P : Program} {w : World} {K : PySem.W.Frag} {mg : Str → Option Value} {base : Heap}

theorem Fr2.free {p dx : Addr} {H : Hp} {o1 o2 : HO} {d : Addr} (e : upd (upd H dx o1) p o2 d = none) : H d = none := by
  have b1 : d ≠ p := fun q => by rw [q, upd_same] at e; cases e
  rw [upd_ne b1] at e
  have b2 : d ≠ dx := fun q => by rw [q, upd_same] at e; cases e
  rw [upd_ne b2] at e
  exact e
theorem two_le : (2 : Nat) ≤ sizeLine := by rw [sizeLine_eq]; show 2 ≤ 16777216; decide
def sp_law_refusalD (K : PySem.W.Frag) : Sp := fun vs H Q _ => ∃ (a b : Addr) (xs ys : List V) (f m : V), vs = [.ref a, .ref b, f, m] ∧ SqA K H a xs ∧ SqA K H b ys ∧ xs.length ≤ 1000 ∧ ys.length ≤ 1000 ∧ (∀ x, x ∈ xs → OddV x) ∧ (∀ y, y ∈ ys → OddV y) ∧ OddV f ∧ OddV m ∧
  ∀ (tag : Str) (v : V), (dayRef xs ys f m).getD ("none", .int 0) = (tag, v) → ∀ (q : Addr) (H' : Hp), H q = none → H' q = some (.tup [.str tag, v]) → Same H H' → Q (.ref q) H'
def sp_law_sum (C : Addr) : Sp := fun vs H Q _ => ∃ (p : Addr) (ds rs : List Int) (f m u : Int), vs = [.ref p, .int u] ∧ DayAt C H p ds rs f m ∧ VDay ds rs f m ∧
  (0 ≤ u → u ≤ 8 → ∀ (x : Addr) (H' : Hp), Same H H' → DayAt C H' x ds (moreR u rs) f m → Q (.ref x) H') ∧
  (¬ (0 ≤ u ∧ u ≤ 8) → ∀ (q : Addr) (H' : Hp), H q = none → H' q = some (.tup [.str "units", .int u]) → Same H H' → Q (.ref q) H')
/-- [dry, rain, fill, mood] at p, both parts lists; no part is s -/
def PartsF (s : Addr) (H : Hp) (p : Addr) (ds rs : List Int) (f m : Int) : Prop := ∃ l r, H p = some (.lst [.ref l, .ref r, .int f, .int m]) ∧ H l = some (.lst (ds.map V.int)) ∧ H r = some (.lst (rs.map V.int)) ∧ p ≠ s ∧ l ≠ s ∧ r ≠ s
theorem PartsF.frm {s : Addr} {H H' : Hp} {p : Addr} {ds rs : List Int} {f m : Int} (x : PartsF s H p ds rs f m) (fr : Frm [s] H H') : PartsF s H' p ds rs f m := by
  obtain ⟨l, r, e1, e2, e3, n1, n2, n3⟩ := x
  exact ⟨l, r, fr _ _ (by simpa using n1) e1, fr _ _ (by simpa using n2) e2, fr _ _ (by simpa using n3) e3, n1, n2, n3⟩
theorem PartsF.same {s : Addr} {H H' : Hp} {p : Addr} {ds rs : List Int} {f m : Int} (x : PartsF s H p ds rs f m) (fr : Same H H') : PartsF s H' p ds rs f m := x.frm (Frm.of_same fr)
def sp_law_harsher : Sp := fun vs H Q _ => ∃ (s p q : Addr) (d1 r1 d2 r2 : List Int) (f1 m1 f2 m2 : Int), vs = [.ref p, .ref q] ∧ PartsF s H p d1 r1 f1 m1 ∧ PartsF s H q d2 r2 f2 m2 ∧ VDay d1 r1 f1 m1 ∧ VDay d2 r2 f2 m2 ∧ ∀ H', Same H H' → Q (.bl (leDy d1 r1 f1 m1 d2 r2 f2 m2)) H'
def sp_law_near : Sp := fun vs H Q _ => ∃ (v s : Int), vs = [.int v, .int s] ∧ 0 ≤ s ∧ s < 3 ∧ 0 ≤ v ∧ v ≤ 8 ∧ ∀ (z : Int) (H' : Hp), 0 ≤ z → z ≤ 8 → Same H H' → Q (.int z) H'
def sp_law_parts (K : PySem.W.Frag) : Sp := fun vs H Q _ => ∃ (a s : Addr) (many : Int), vs = [.ref a, .ref s, .int many] ∧ Scr K H a s ∧ 1 ≤ many ∧ many ≤ 4 ∧ ∀ (p : Addr) (H' : Hp) (ds rs : List Int) (f m : Int), PartsF s H' p ds rs f m → VDay ds rs f m → (ds.length : Int) = many → Frm [s] H H' → Scr K H' a s → Q (.ref p) H'
def sp_law_other (K : PySem.W.Frag) : Sp := fun vs H Q _ => ∃ (a s p : Addr) (ds rs : List Int) (f m many : Int), vs = [.ref a, .ref s, .ref p, .int many] ∧ Scr K H a s ∧ PartsF s H p ds rs f m ∧ VDay ds rs f m ∧ (ds.length : Int) = many ∧ ∀ (q : Addr) (H' : Hp) (d2 r2 : List Int) (f2 m2 : Int), PartsF s H' q d2 r2 f2 m2 → VDay d2 r2 f2 m2 → Frm [s] H H' → Scr K H' a s → Q (.ref q) H'
theorem leBs_pre {l m : List Int} {i : Nat} {a b : Int} (h : ((leBs l m).take i).all id = true) (ha : l[i]? = some a) (hb : m[i]? = some b) (c : a ≤ b) : ((leBs l m).take (i + 1)).all id = true := by
  rw [take_snoc (leBs_at ha hb), List.all_append, h]
  simp [c]
theorem leL_at {l m : List Int} {i : Nat} {a b : Int} (e : l.length = m.length) (ha : l[i]? = some a) (hb : m[i]? = some b) (c : b < a) : leL l m = false := by
  rw [← leBs_all e]
  refine Bool.eq_false_iff.mpr fun h => ?_
  have := List.all_eq_true.mp h _ (List.mem_of_getElem? (leBs_at ha hb))
  have := of_decide_eq_true this
  omega
theorem leL_end {l m : List Int} (e : l.length = m.length) {n : Nat} (hn : l.length ≤ n) (h : ((leBs l m).take n).all id = true) : leL l m = true := by
  rw [List.take_of_length_le (by rw [leBs_len e]; exact hn), leBs_all e] at h
  exact h
theorem scr_ofL {K : PySem.W.Frag} {H H' : Hp} {a s : Addr} {L : List Addr} (h : Scr K H a s) (n : ∀ p, p ∈ L → H p = none) (f : Frm (s :: L) H H') (q : St4 H' s) : Scr K H' a s := by
  obtain ⟨⟨ns, h1, h2⟩, _⟩ := h
  refine ⟨⟨ns, Same.seq (fun b o e => ?_) h1, h2⟩, q⟩
  have nb : ¬ b ∈ [s] := fun y => by
    rw [show hid [s] H b = none from if_pos y] at e
    cases e
  rw [hid_eq nb] at e ⊢
  refine f b o (fun y => ?_) e
  rcases List.mem_cons.mp y with z | z
  · exact nb (by rw [z]; exact List.mem_cons_self)
  · rw [n b z] at e
    cases e
theorem Frm.dropL {s : Addr} {L : List Addr} {H H' : Hp} (n : ∀ p, p ∈ L → H p = Option.none) (f : Frm (s :: L) H H') : Frm [s] H H' := fun b o nb e => f b o (fun y => by
  rcases List.mem_cons.mp y with z | z
  · exact nb (by rw [z]; exact List.mem_cons_self)
  · rw [n b z] at e
    cases e) e
theorem ints_set {ls : List Int} {i : Nat} {z : Int} (h : ∀ x, x ∈ ls → 0 ≤ x ∧ x ≤ 8) (hz : 0 ≤ z ∧ z ≤ 8) : ∀ x, x ∈ ls.set i z → 0 ≤ x ∧ x ≤ 8 := fun x hx => by
  rcases List.mem_or_eq_of_mem_set hx with q | q
  · exact h x q
  · rw [q]
    exact hz
theorem VDay.setD {ds rs : List Int} {f m : Int} {i : Nat} {z : Int} (h : VDay ds rs f m) (hz : 0 ≤ z ∧ z ≤ 8) : VDay (ds.set i z) rs f m := by
  obtain ⟨h1, h2, h3, h4, h5⟩ := h
  exact ⟨by rw [List.length_set]; exact h1, by rw [List.length_set]; exact h2, by rw [List.length_set]; exact h3, ints_set h4 hz, h5⟩
theorem VDay.setR {ds rs : List Int} {f m : Int} {i : Nat} {z : Int} (h : VDay ds rs f m) (hz : 0 ≤ z ∧ z ≤ 8) : VDay ds (rs.set i z) f m := by
  obtain ⟨h1, h2, h3, h4, h5, h6⟩ := h
  exact ⟨h1, h2, by rw [List.length_set]; exact h3, h4, ints_set h5 hz, h6⟩

theorem ok_law_refusal {f : Addr} {fd : FuncData} (F : Fun K "_law_refusal" "_law_refusal" s_law_refusal f fd) (T : Txt K mg) {C_BadNumber f_BadNumber cda_BadNumber cc_BadNumber : Addr} {fd_BadNumber : FuncData} (E_BadNumber : ErrC P K mg "BadNumber" "BadNumber.__init__" C_BadNumber f_BadNumber cda_BadNumber cc_BadNumber) (G_BadNumber : FnOk P w K mg base CX0 2 f_BadNumber fd_BadNumber PBadNumber___init__ (spBadNumber C_BadNumber)) (b_BadNumber : Binds K fd_BadNumber PBadNumber___init__ []) {C_Day fi fe : Addr} {fdi : FuncData} (D_Day : DatC K mg "Day" C_Day fi fe ["dry", "rain", "fill", "mood"]) (GDay___init__ : FnOk P w K mg base (L2.CX P w) 6 fi fdi PDay___init__ (spDay_init K C_Day C_BadNumber)) (bDay___init__ : Binds K fdi PDay___init__ []) : FnOk P w K mg base CX0 9 f fd P_law_refusal (sp_law_refusalD K) := by
  refine F.ok sc_law_refusal (fun vs H Q E h => ?_) (fun cdv A outer s H vs Q E hr h => ?_)
  · obtain ⟨a, b, xs, ys, f, m, rfl, ha, hb, hlx, hly, hox, hoy, hf, hm, k⟩ := h
    rfl
  · obtain ⟨a, b, xs, ys, f, m, rfl, ha, hb, hlx, hly, hox, hoy, hf, hm, k⟩ := h
    refine ⟨_, (pss_cons (ps_try_ass (i := 4) rfl rfl rfl sc_law_refusal.nd rfl rfl takes0 (fun W pn xe tk _ => (pss_one (ps_expr (pe_makeS D_Day.mkk GDay___init__ (hr.mono (by decide)) (by rfl) D_Day.g bDay___init__ (fun σ => passAt tk σ) (pa_cons (pv 0) (pa_cons (pv 1) (pa_cons (pv 2) (pa_cons (pv 3) pa_nil)))))))) (by exact (.cons ⟨rfl, by decide, Or.inl E_BadNumber.g⟩ (fun a oe cls d pn hz hf => (pss_one (ps_ret (pe_tup (pa_cons (pe_xf E_BadNumber.xf E_BadNumber.noWhat hz hf (pv 4)) (pa_cons (pe_xf E_BadNumber.xf E_BadNumber.noValue hz hf (pv 4)) pa_nil)))))) .nil)))
  (pss_one (ps_ret (pe_tup (pa_cons pe_str (pa_cons pe_int pa_nil)))))), ?_⟩
    refine ⟨_, rfl, _, rfl, _, rfl, _, rfl, fun p dx np nd ne => ?_⟩
    have sm : ∀ {o1 o2 : HO}, Same H (upd (upd H dx o1) p o2) := fun {o1 o2} b o e => by rw [upd_ne (ne_of_none e np), upd_ne (ne_of_none e nd)]; exact e
    refine ⟨p, dx, a, b, xs, ys, f, m, rfl, upd_same, ha.same sm, hb.same sm, hlx, hly, hox, hoy, hf, hm, fun e q r H2 fr nq nr eq er ep => ⟨rfl, ?_⟩, fun tag v e d H2 nd2 fr hd => ⟨true, E_BadNumber.exm, fun _ a na => ?_, fun q => by cases q⟩⟩
    · have s2 := fr.same np nd
      refine ⟨two_le, fun q hq => ?_⟩
      exact k _ _ (by rw [e]; rfl) q _ (s2.free hq) upd_same (s2.trans (Same.new hq))
    · have s2 := fr.same np nd
      refine ⟨_, rfl, rfl, rfl, d, _, _, rfl, hd, look_what, _, rfl, rfl, rfl, d, _, _, rfl, hd, look_val, two_le, fun q hq => ?_⟩
      exact k _ _ (by rw [e]; rfl) q _ (s2.free hq) upd_same (s2.trans (Same.new hq))

theorem ok_law_sum {f : Addr} {fd : FuncData} (F : Fun K "_law_sum" "_law_sum" s_law_sum f fd) (T : Txt K mg) {C_BadNumber f_BadNumber cda_BadNumber cc_BadNumber : Addr} {fd_BadNumber : FuncData} (E_BadNumber : ErrC P K mg "BadNumber" "BadNumber.__init__" C_BadNumber f_BadNumber cda_BadNumber cc_BadNumber) (G_BadNumber : FnOk P w K mg base CX0 2 f_BadNumber fd_BadNumber PBadNumber___init__ (spBadNumber C_BadNumber)) (b_BadNumber : Binds K fd_BadNumber PBadNumber___init__ []) {C_Day fa : Addr} {fda : FuncData} (O_Day___add__ : OpC K C_Day fa "__add__" "__radd__") (GDay___add__ : FnOk P w K mg base (L2.CX P w) 8 fa fda PDay___add__ (spDay_add C_Day C_BadNumber)) (bDay___add__ : Binds K fda PDay___add__ []) : FnOk P w K mg base CX0 10 f fd P_law_sum (sp_law_sum C_Day) := by
  refine F.ok sc_law_sum (fun vs H Q E h => ?_) (fun cdv A outer s H vs Q E hr h => ?_)
  · obtain ⟨p, ds, rs, f, m, u, rfl, hp, hv, kT, kE⟩ := h
    rfl
  · obtain ⟨p, ds, rs, f, m, u, rfl, hp, hv, kT, kE⟩ := h
    refine ⟨_, (pss_one (ps_try_ass (i := 2) rfl rfl rfl sc_law_sum.nd rfl rfl takes0 (fun W pn xe tk _ => (pss_one (ps_ret (pe_ownN GDay___add__ (hr.mono (by decide)) O_Day___add__ bDay___add__ (fun σ => passAt tk σ) (by decide +kernel) (by decide +kernel) (pv 0) (pv 1))))) (by exact (.cons ⟨rfl, by decide, Or.inl E_BadNumber.g⟩ (fun a oe cls d pn hz hf => (pss_one (ps_ret (pe_tup (pa_cons (pe_xf E_BadNumber.xf E_BadNumber.noWhat hz hf (pv 2)) (pa_cons (pe_xf E_BadNumber.xf E_BadNumber.noValue hz hf (pv 2)) pa_nil)))))) .nil)))), ?_⟩
    obtain ⟨dx, qx, rx, e1, x1, y1⟩ := id hp
    refine ⟨_, rfl, _, rfl, p, dx, _, u, rfl, rfl, e1, p, ds, rs, f, m, u, rfl, hp, hv, fun u0 u1 x H' s st => ?_, fun nu d H' nd s hd => ⟨true, E_BadNumber.exm, fun _ a na => ?_, fun q => by cases q⟩⟩
    · exact kT u0 u1 x _ s st
    · refine ⟨_, rfl, rfl, rfl, d, _, _, rfl, hd, look_what, _, rfl, rfl, rfl, d, _, _, rfl, hd, look_val, two_le, fun q hq => ?_⟩
      exact kE nu q _ (s.free hq) upd_same (s.trans (Same.new hq))

theorem ok_law_harsher {f : Addr} {fd : FuncData} (F : Fun K "_law_harsher" "_law_harsher" s_law_harsher f fd) (T : Txt K mg) : FnOk P w K mg base CX0 1 f fd P_law_harsher sp_law_harsher := by
  refine F.ok sc_law_harsher (fun vs H Q E h => ?_) (fun cdv A outer s H vs Q E hr h => ?_)
  · obtain ⟨s, p, q, d1, r1, d2, r2, f1, m1, f2, m2, rfl, h1', h2', hv1, hv2, k⟩ := h
    rfl
  · obtain ⟨s, p, q, d1, r1, d2, r2, f1, m1, f2, m2, rfl, h1', h2', hv1, hv2, k⟩ := h
    refine ⟨_, (pss_cons (ps_if (PW.pt (pw_or (pt_cmpR op_ne (pe_callB call_len_seq (by rfl) T.b_len PySem.boot_len (pa_cons (pe_ix ix_list (pv 0) pe_int (fun _ _ => rfl)) pa_nil)) (pe_callB call_len_seq (by rfl) T.b_len PySem.boot_len (pa_cons (pe_ix ix_list (pv 1) pe_int (fun _ _ => rfl)) pa_nil)) (nomark _)) (pw_or (pt_cmpR op_ne (pe_ix ix_list (pv 0) pe_int (fun _ _ => rfl)) (pe_ix ix_list (pv 1) pe_int (fun _ _ => rfl)) (nomark _)) (pw_or1 (pt_cmpR op_gt (pe_ix ix_list (pv 0) pe_int (fun _ _ => rfl)) (pe_ix ix_list (pv 1) pe_int (fun _ _ => rfl)) (nomark _))))))
  (pss_one (ps_ret pe_bl))
  pss_nil)
  (pss_cons (ps_for PassesOwn.never rfl (pi_enum (by rfl) T.b_enumerate (pa_cons (pe_ix ix_list (pv 0) pe_int (fun _ _ => rfl)) pa_nil)) (pg_tup rfl (pgs_cons (pg_name (i := 2) sc_law_harsher.nd rfl (by first | exact Or.inl rfl | exact Or.inr rfl)) (pgs_cons (pg_name (i := 3) sc_law_harsher.nd rfl (by first | exact Or.inl rfl | exact Or.inr rfl)) pgs_nil)))
  (pss_one (ps_if (PW.pt (pw_or (pt_cmpR op_lt (pv 3) (pe_ix ix_list (pe_ix ix_list (pv 1) pe_int (fun _ _ => rfl)) (pv 2) (fun _ _ => rfl)) (nomark _)) (pw_or1 (pt_cmpR op_gt (pe_ix ix_list (pe_ix ix_list (pv 0) pe_int (fun _ _ => rfl)) (pv 2) (fun _ _ => rfl)) (pe_ix ix_list (pe_ix ix_list (pv 1) pe_int (fun _ _ => rfl)) (pv 2) (fun _ _ => rfl)) (nomark _)))))
  (pss_one (ps_ret pe_bl))
  pss_nil)))
  (pss_one (ps_ret pe_bl)))), ?_⟩
    obtain ⟨l, r, e1, x1, y1, _⟩ := id h1'
    obtain ⟨l', r', e2, x2, y2, _⟩ := id h2'
    obtain ⟨u1, u2, u3, _⟩ := hv1
    obtain ⟨w1, w2, w3, _⟩ := hv2
    refine ⟨_, rfl, p, _, _, _, rfl, rfl, SqL.of e1, rfl, _, _, rfl, .inl (SqL.of x1), _, rfl, q, _, _, _, rfl, rfl, SqL.of e2, rfl, _, _, rfl, .inl (SqL.of x2), rfl, _, rfl, ?_⟩
    refine ite2 (fun c2 => ?_) (fun c2 => ?_)
    · have e : leDy d1 r1 f1 m1 d2 r2 f2 m2 = false := by
        unfold leDy
        rw [decide_eq_false (p := d1.length = d2.length) (fun q => by rw [List.length_map, List.length_map, q] at c2; exact ne_self c2), Bool.false_and]
      rw [e] at k
      exact k _ (Same.refl _)
    have c2 : d1.length = d2.length := by
      by_cases q : d1.length = d2.length
      · exact q
      · exact absurd (by rw [List.length_map, List.length_map, decide_eq_false (fun y => q (by injection y with y; omega))]; rfl) c2
    refine ⟨_, rfl, p, _, _, _, rfl, rfl, SqL.of e1, rfl, _, rfl, q, _, _, _, rfl, rfl, SqL.of e2, rfl, rfl, _, rfl, ?_⟩
    refine ite2 (fun c1 => ?_) (fun c1 => ?_)
    · have c1 : ¬ m1 = m2 := fun q => by rw [q] at c1; exact ne_self c1
      have e : leDy d1 r1 f1 m1 d2 r2 f2 m2 = false := by unfold leDy; rw [decide_eq_false c1, Bool.false_and, Bool.and_false]
      rw [e] at k
      exact k _ (Same.refl _)
    have c1 : m1 = m2 := by
      by_cases q : m1 = m2
      · exact q
      · exact absurd (by rw [decide_eq_false (fun y => q (by injection y))]; rfl) c1
    refine ⟨_, rfl, p, _, _, _, rfl, rfl, SqL.of e1, rfl, _, rfl, q, _, _, _, rfl, rfl, SqL.of e2, rfl, _, _, rfl, rfl, _, rfl, ?_⟩
    refine ite2 (fun c3 => ?_) (fun c3 => ?_)
    · have c3 := of_decide_eq_true c3
      have e : leDy d1 r1 f1 m1 d2 r2 f2 m2 = false := by unfold leDy; rw [decide_eq_false (p := f1 ≤ f2) (by omega), Bool.false_and, Bool.and_false, Bool.and_false]
      rw [e] at k
      exact k _ (Same.refl _)
    have c3 : f1 ≤ f2 := by
      by_cases q : f1 ≤ f2
      · exact q
      · exact absurd (decide_eq_true (by omega)) c3
    have eAll : leDy d1 r1 f1 m1 d2 r2 f2 m2 = (leL d2 d1 && leL r1 r2) := by
      unfold leDy
      rw [decide_eq_true c2, decide_eq_true c1, decide_eq_true c3, Bool.true_and, Bool.true_and, Bool.true_and]
    rw [eAll] at k
    have c4 : r1.length = r2.length := by omega
    refine ⟨_, rfl, p, _, _, _, rfl, rfl, SqL.of e1, rfl, l, _, rfl, SqL.of x1, ?_⟩
    refine for_it walk_enum (fun i σ H1 => ∃ w2 w3 : Option V, σ = [some (.ref p), some (.ref q), w2, w3] ∧ Same H H1 ∧ ((leBs d2 d1).take i).all id = true ∧ ((leBs r1 r2).take i).all id = true) ⟨_, _, rfl, Same.refl _, rfl, rfl⟩ (fun i σ H1 _ ⟨_, _, _, s, _⟩ => SqL.of (s _ _ x1)) ?_ ?_
    · rintro i x σ H1o H1 hi ⟨w2, w3, rfl, s1, g1, g2⟩ ⟨T, x, y, rfl, hT, rfl, hx, hy⟩
      obtain rfl : x = V.int (i : Nat) := (Option.some.inj hx).symm
      obtain ⟨a, ha, rfl⟩ := int_at hy
      have hi1 : i < d1.length := by simpa using hi
      have hb : d2[i]? = some d2[i] := List.getElem?_eq_getElem (by omega)
      have hc : r1[i]? = some r1[i] := List.getElem?_eq_getElem (by omega)
      have hd : r2[i]? = some r2[i] := List.getElem?_eq_getElem (by omega)
      generalize d2[i] = b at hb
      generalize r1[i] = c at hc
      generalize r2[i] = d at hd
      have s3 : Same H (upd H1o T (.tup [V.int (i : Nat), V.int a])) := s1.trans (Same.new hT)
      have e1 := s3 _ _ e1
      have e2 := s3 _ _ e2
      refine ⟨T, _, rfl, SqT.of upd_same, rfl, _, _, rfl, _, _, rfl, rfl, ?_⟩
      refine ⟨_, rfl, _, rfl, q, _, _, _, rfl, rfl, SqL.of e2, rfl, _, rfl, l', _, _, _, rfl, rfl, SqL.of (s3 _ _ x2), atI_nat (by rw [List.getElem?_map, hb]; rfl), _, _, rfl, rfl, _, rfl, ?_⟩
      refine ite2 (fun z => ?_) (fun z => ?_)
      · have z := of_decide_eq_true z
        rw [leL_at c2.symm hb ha z, Bool.false_and] at k
        exact k _ s3
      have z1 : b ≤ a := by
        by_cases q : b ≤ a
        · exact q
        · exact absurd (decide_eq_true (by omega)) z
      refine ⟨_, rfl, p, _, _, _, rfl, rfl, SqL.of e1, rfl, _, rfl, r, _, _, _, rfl, rfl, SqL.of (s3 _ _ y1), atI_nat (by rw [List.getElem?_map, hc]; rfl), _, rfl, q, _, _, _, rfl, rfl, SqL.of e2, rfl, _, rfl, r', _, _, _, rfl, rfl, SqL.of (s3 _ _ y2), atI_nat (by rw [List.getElem?_map, hd]; rfl), _, _, rfl, rfl, _, rfl, ?_⟩
      refine ite2 (fun z => ?_) (fun z => ?_)
      · have z := of_decide_eq_true z
        rw [leL_at c4 hc hd z, Bool.and_false] at k
        exact k _ s3
      have z2 : c ≤ d := by
        by_cases q : c ≤ d
        · exact q
        · exact absurd (decide_eq_true (by omega)) z
      exact ⟨_, _, rfl, s3, leBs_pre g1 hb ha z1, leBs_pre g2 hc hd z2⟩
    rintro σ H1 ⟨w2, w3, rfl, s1, g1, g2⟩
    have hn : d1.length ≤ (d1.map V.int).length := by rw [List.length_map]; exact Nat.le_refl _
    rw [leL_end c2.symm (by omega) g1, leL_end c4 (by omega) g2] at k
    exact k _ s1

theorem ok_law_near {f : Addr} {fd : FuncData} (F : Fun K "_law_near" "_law_near" s_law_near f fd) (T : Txt K mg) : FnOk P w K mg base CX0 1 f fd P_law_near sp_law_near := by
  refine F.ok sc_law_near (fun vs H Q E h => ?_) (fun cdv A outer s H vs Q E hr h => ?_)
  · obtain ⟨v, s, rfl, s0, s3, h0, h1, k⟩ := h
    rfl
  · obtain ⟨v, s, rfl, s0, s3, h0, h1, k⟩ := h
    refine ⟨_, (pss_one (ps_ret (pe_ix ix_list (pe_lst (pa_cons (pv 0) (pa_cons (pe_callB (id := "abs") call_abs (by rfl) T.b_abs (by decide +kernel) (pa_cons (pe_op op_sub (pv 0) pe_int) pa_nil)) (pa_cons (pe_op op_sub pe_int (pe_callB (id := "abs") call_abs (by rfl) T.b_abs (by decide +kernel) (pa_cons (pe_op op_sub (pe_op op_sub pe_int (pv 0)) pe_int) pa_nil))) pa_nil)))) (pv 1) (fun _ _ => rfl)))), ?_⟩
    refine ⟨_, rfl, _, rfl, _, _, rfl, rfl, _, rfl, _, rfl, _, _, rfl, rfl, _, _, rfl, rfl, _, rfl, _, _, rfl, rfl, bigN (by show 3 ≤ _; decide), fun l hl => ?_⟩
    obtain ⟨z, hz, z0, z1⟩ : ∃ z : Int, atI [V.int v, V.int (if v - 1 < 0 then -(v - 1) else v - 1), V.int (7 - (if 7 - v - 1 < 0 then -(7 - v - 1) else 7 - v - 1))] s = some (.int z) ∧ 0 ≤ z ∧ z ≤ 8 := by
      have : s = 0 ∨ s = 1 ∨ s = 2 := by omega
      rcases this with rfl | rfl | rfl
      · exact ⟨_, rfl, h0, h1⟩
      · exact ⟨_, rfl, by split <;> omega, by split <;> omega⟩
      · exact ⟨_, rfl, by split <;> omega, by split <;> omega⟩
    exact ⟨_, rfl, l, _, _, _, rfl, rfl, SqL.of upd_same, hz, k z _ z0 z1 (Same.new hl)⟩

theorem ok_law_parts {f : Addr} {fd : FuncData} (F : Fun K "_law_parts" "_law_parts" s_law_parts f fd) (T : Txt K mg) (C_law_draw : Cal P w K mg base "_law_draw" P_law_draw 1 (sp_law_draw K)) : FnOk P w K mg base CX0 2 f fd P_law_parts (sp_law_parts K) := by
  obtain ⟨g_law_draw, gd_law_draw, G_law_draw, m_law_draw, k_law_draw, b_law_draw⟩ := C_law_draw.ex
  refine F.ok sc_law_parts (fun vs H Q E h => ?_) (fun cdv A outer s H vs Q E hr h => ?_)
  · obtain ⟨a, s0, many, rfl, hS, hm1, hm4, k⟩ := h
    rfl
  · obtain ⟨a, s0, many, rfl, hS, hm1, hm4, k⟩ := h
    refine ⟨_, (pss_cons (ps_setLc (i := 3) (own := [("k", 5)]) rfl sc_law_parts.nd rfl rfl (sw_true rfl rfl rfl (by decide +kernel)) (pi_range1 rfl T.b_range (pa_cons (pv 2) pa_nil)) (blkOk_by (own := [("k", 5)]) (N := N_law_parts) (sc := defScope s_law_parts) (by decide +kernel)) (fun _ _ _ _ _ => (pg_name (i := 5) sc_law_parts.nd rfl (by first | exact Or.inl rfl | exact Or.inr rfl))) (fun _ _ _ _ _ => pts_nil) (fun _ _ _ _ _ => (pe_call G_law_draw (hr.mono (by decide)) (by rfl) m_law_draw k_law_draw b_law_draw .nil pass0 (pa_cons (pv 0) (pa_cons (pv 1) (pa_cons pe_int pa_nil))))))
  (pss_cons (ps_setLc (i := 4) (own := [("k", 5)]) rfl sc_law_parts.nd rfl rfl (sw_true rfl rfl rfl (by decide +kernel)) (pi_range1 rfl T.b_range (pa_cons (pv 2) pa_nil)) (blkOk_by (own := [("k", 5)]) (N := N_law_parts) (sc := defScope s_law_parts) (by decide +kernel)) (fun _ _ _ _ _ => (pg_name (i := 5) sc_law_parts.nd rfl (by first | exact Or.inl rfl | exact Or.inr rfl))) (fun _ _ _ _ _ => pts_nil) (fun _ _ _ _ _ => (pe_call G_law_draw (hr.mono (by decide)) (by rfl) m_law_draw k_law_draw b_law_draw .nil pass0 (pa_cons (pv 0) (pa_cons (pv 1) (pa_cons pe_int pa_nil))))))
  (pss_one (ps_ret (pe_lst (pa_cons (pv 3) (pa_cons (pv 4) (pa_cons (pe_call G_law_draw (hr.mono (by decide)) (by rfl) m_law_draw k_law_draw b_law_draw .nil pass0 (pa_cons (pv 0) (pa_cons (pv 1) (pa_cons pe_int pa_nil)))) (pa_cons (pe_call G_law_draw (hr.mono (by decide)) (by rfl) m_law_draw k_law_draw b_law_draw .nil pass0 (pa_cons (pv 0) (pa_cons (pv 1) (pa_cons pe_int pa_nil)))) pa_nil))))))))), ?_⟩
    refine ⟨_, rfl, _, rfl, by omega, by omega, fun D hD => ?_⟩
    have nDs : ¬ D = s0 := hS.ne hD
    have nD : ¬ D ∈ [s0] := fun y => nDs (by simpa using y)
    refine lc_it walk_range (fun i H3 => ∃ ks : List Int, H3 D = some (.lst (ks.map V.int)) ∧ ks.length = i ∧ (∀ x, x ∈ ks → 0 ≤ x ∧ x ≤ 8) ∧ Frm [D, s0] H H3 ∧ Scr K H3 a s0) ⟨[], upd_same, rfl, (fun x h => by cases h), (Frm.put List.mem_cons_self), hS.same (Same.new hD)⟩ (fun _ _ _ _ => trivial) ?_ ?_
    · rintro i x H3o H3 hi ⟨ks, g3, hk, hb, f3, sc3⟩ ⟨rfl, rfl⟩
      refine ⟨rfl, ?_⟩
      refine ⟨_, rfl, _, rfl, a, s0, 9, rfl, sc3, by decide, by decide, fun d H4 d0 d1 f4 sc4 => ?_⟩
      have g4 := f4 _ _ nD g3
      have fr := (f3.trans (f4.mono (fun b h => List.mem_cons_of_mem _ h))).put' (o := .lst (ks.map V.int ++ [.int d])) (List.mem_cons_self (a := D) (l := [s0]))
      refine ⟨_, g4, small1000 (by rw [List.length_map, hk]; omega), ks ++ [d], by rw [upd_same, List.map_append]; rfl, by rw [List.length_append, hk]; rfl, fun x hx => ?_, fr, ?_⟩
      · rcases List.mem_append.mp hx with q | q
        · exact hb x q
        · rw [List.mem_singleton.mp q]
          omega
      · obtain ⟨i1, i2, i3, i4, e4⟩ := sc4.2
        exact scr_of hS hD fr ⟨i1, i2, i3, i4, by rw [upd_ne (fun q => nDs q.symm)]; exact e4⟩
    rintro H3 ⟨ds, g3, hk3, hb3, f3, sc3⟩
    refine ⟨_, rfl, _, rfl, by omega, by omega, fun R hR => ?_⟩
    have nRs : ¬ R = s0 := sc3.ne hR
    have nR : ¬ R ∈ [s0] := fun y => nRs (by simpa using y)
    have nRD : D ≠ R := ne_of_none g3 hR
    refine lc_it walk_range (fun i H5 => ∃ ks : List Int, H5 R = some (.lst (ks.map V.int)) ∧ ks.length = i ∧ (∀ x, x ∈ ks → 0 ≤ x ∧ x ≤ 8) ∧ Frm [R, s0] H3 H5 ∧ Scr K H5 a s0) ⟨[], upd_same, rfl, (fun x h => by cases h), (Frm.put List.mem_cons_self), sc3.same (Same.new hR)⟩ (fun _ _ _ _ => trivial) ?_ ?_
    · rintro i x H5o H5 hi ⟨ks, g5, hk, hb, f5, sc5⟩ ⟨rfl, rfl⟩
      refine ⟨rfl, ?_⟩
      refine ⟨_, rfl, _, rfl, a, s0, 9, rfl, sc5, by decide, by decide, fun d H4 d0 d1 f4 sc4 => ?_⟩
      have g4 := f4 _ _ nR g5
      have fr := (f5.trans (f4.mono (fun b h => List.mem_cons_of_mem _ h))).put' (o := .lst (ks.map V.int ++ [.int d])) (List.mem_cons_self (a := R) (l := [s0]))
      refine ⟨_, g4, small1000 (by rw [List.length_map, hk]; omega), ks ++ [d], by rw [upd_same, List.map_append]; rfl, by rw [List.length_append, hk]; rfl, fun x hx => ?_, fr, ?_⟩
      · rcases List.mem_append.mp hx with q | q
        · exact hb x q
        · rw [List.mem_singleton.mp q]
          omega
      · obtain ⟨i1, i2, i3, i4, e4⟩ := sc4.2
        exact scr_of sc3 hR fr ⟨i1, i2, i3, i4, by rw [upd_ne (fun q => nRs q.symm)]; exact e4⟩
    rintro H5 ⟨rs, g5, hk5, hb5, f5, sc5⟩
    refine ⟨_, rfl, _, rfl, _, rfl, _, rfl, a, s0, 9, rfl, sc5, by decide, by decide, fun fl H6 f0 f1 f6 sc6 => ⟨_, rfl, _, rfl, a, s0, 4, rfl, sc6, by decide, by decide, fun mo H7 m0 m1 f7 sc7 => ⟨bigN (by show 4 ≤ _; decide), fun p hp => ?_⟩⟩⟩
    have g57 := f7 _ _ nR (f6 _ _ nR g5)
    have g37 := f7 _ _ nD (f6 _ _ nD (f5 _ _ (by simp [nRD, nDs]) g3))
    have fA : Frm [s0] H H7 := ((Frm.drop hD (Frm.refl _ _) f3).trans (Frm.drop hR (Frm.refl _ _) f5)).trans (f6.trans f7)
    refine k p _ ds rs fl mo ⟨D, R, upd_same, by rw [upd_ne (ne_of_none g37 hp)]; exact g37, by rw [upd_ne (ne_of_none g57 hp)]; exact g57, sc7.ne hp, nDs, nRs⟩ ⟨by omega, by omega, by omega, hb3, hb5, by omega, by omega, by omega, by omega⟩ (by omega) (fA.trans (Frm.new hp)) (sc7.same (Same.new hp))
end
end Wb

namespace Wb
open PySem PySem.Spec PyProof.Rows L2 Wx NdefX RZ StX PyProof.Rows.FinIter
section
variable {P : Program} {w : World} {K : PySem.W.Frag} {mg : Str → Option Value} {base : Heap}

theorem ok_law_other {f : Addr} {fd : FuncData} (F : Fun K "_law_other" "_law_other" s_law_other f fd) (T : Txt K mg) (C_law_draw : Cal P w K mg base "_law_draw" P_law_draw 1 (sp_law_draw K)) (C_law_near : Cal P w K mg base "_law_near" P_law_near 1 sp_law_near) : FnOk P w K mg base CX0 2 f fd P_law_other (sp_law_other K) := by
  obtain ⟨g_law_draw, gd_law_draw, G_law_draw, m_law_draw, k_law_draw, b_law_draw⟩ := C_law_draw.ex
  obtain ⟨g_law_near, gd_law_near, G_law_near, m_law_near, k_law_near, b_law_near⟩ := C_law_near.ex
  refine F.ok sc_law_other (fun vs H Q E h => ?_) (fun cdv A outer s H vs Q E hr h => ?_)
  · obtain ⟨a, s0, p, ds, rs, f, m, many, rfl, hS, hone, hv, hmany, k⟩ := h
    rfl
  · obtain ⟨a, s0, p, ds, rs, f, m, many, rfl, hS, hone, hv, hmany, k⟩ := h
    refine ⟨_, (pss_cons (ps_set (i := 4) sc_law_other.nd rfl (by first | exact Or.inl rfl | exact Or.inr rfl) (pe_lst (pa_cons (pe_callTy (T := "list") call_list_of (by rfl) T.b_list (by decide +kernel) (pa_cons (pe_ix ix_list (pv 2) pe_int (fun _ _ => rfl)) pa_nil)) (pa_cons (pe_callTy (T := "list") call_list_of (by rfl) T.b_list (by decide +kernel) (pa_cons (pe_ix ix_list (pv 2) pe_int (fun _ _ => rfl)) pa_nil)) (pa_cons (pe_ix ix_list (pv 2) pe_int (fun _ _ => rfl)) (pa_cons (pe_ix ix_list (pv 2) pe_int (fun _ _ => rfl)) pa_nil))))))
  (pss_cons (ps_for PassesOwn.never rfl (pi_range1 rfl T.b_range (pa_cons (pe_call G_law_draw (hr.mono (by decide)) (by rfl) m_law_draw k_law_draw b_law_draw .nil pass0 (pa_cons (pv 0) (pa_cons (pv 1) (pa_cons pe_int pa_nil)))) pa_nil)) (pg_name (i := 5) sc_law_other.nd rfl (by first | exact Or.inl rfl | exact Or.inr rfl))
  (pss_cons (ps_set (i := 6) sc_law_other.nd rfl (by first | exact Or.inl rfl | exact Or.inr rfl) (pe_ix ix_list (pv 4) (pe_call G_law_draw (hr.mono (by decide)) (by rfl) m_law_draw k_law_draw b_law_draw .nil pass0 (pa_cons (pv 0) (pa_cons (pv 1) (pa_cons pe_int pa_nil)))) (fun _ _ => rfl)))
  (pss_cons (ps_set (i := 7) sc_law_other.nd rfl (by first | exact Or.inl rfl | exact Or.inr rfl) (pe_call G_law_draw (hr.mono (by decide)) (by rfl) m_law_draw k_law_draw b_law_draw .nil pass0 (pa_cons (pv 0) (pa_cons (pv 1) (pa_cons (pv 3) pa_nil)))))
  (pss_one (ps_asg (pe_call G_law_near (hr.mono (by decide)) (by rfl) m_law_near k_law_near b_law_near .nil pass0 (pa_cons (pe_ix ix_list (pv 6) (pv 7) (fun _ _ => rfl)) (pa_cons (pe_call G_law_draw (hr.mono (by decide)) (by rfl) m_law_draw k_law_draw b_law_draw .nil pass0 (pa_cons (pv 0) (pa_cons (pv 1) (pa_cons pe_int pa_nil)))) pa_nil))) (pg_sub (pv 6) (pv 7) set_list))))))
  (pss_cons (ps_asg (pe_call G_law_near (hr.mono (by decide)) (by rfl) m_law_near k_law_near b_law_near .nil pass0 (pa_cons (pe_ix ix_list (pv 4) pe_int (fun _ _ => rfl)) (pa_cons (pe_call G_law_draw (hr.mono (by decide)) (by rfl) m_law_draw k_law_draw b_law_draw .nil pass0 (pa_cons (pv 0) (pa_cons (pv 1) (pa_cons pe_int pa_nil)))) pa_nil))) (pg_sub (pv 4) pe_int set_list))
  (pss_cons (ps_if (pt_cmpR op_eq (pe_call G_law_draw (hr.mono (by decide)) (by rfl) m_law_draw k_law_draw b_law_draw .nil pass0 (pa_cons (pv 0) (pa_cons (pv 1) (pa_cons pe_int pa_nil)))) pe_int (nomark _))
  (pss_cons (ps_set (i := 4) sc_law_other.nd rfl (by first | exact Or.inl rfl | exact Or.inr rfl) (pe_lst (pa_cons (pe_op op_cat (pe_ix ix_list (pv 4) pe_int (fun _ _ => rfl)) (pe_lst (pa_cons pe_int pa_nil))) (pa_cons (pe_op op_cat (pe_ix ix_list (pv 4) pe_int (fun _ _ => rfl)) (pe_lst (pa_cons pe_int pa_nil))) (pa_cons (pe_ix ix_list (pv 4) pe_int (fun _ _ => rfl)) (pa_cons (pe_ix ix_list (pv 4) pe_int (fun _ _ => rfl)) pa_nil))))))
  (pss_one (ps_set (i := 4) sc_law_other.nd rfl (by first | exact Or.inl rfl | exact Or.inr rfl) (pe_lst (pa_cons (pe_slice sl_list (pe_ix ix_list (pv 4) pe_int (fun _ _ => rfl)) po_none (po_some pe_int)) (pa_cons (pe_slice sl_list (pe_ix ix_list (pv 4) pe_int (fun _ _ => rfl)) po_none (po_some pe_int)) (pa_cons (pe_ix ix_list (pv 4) pe_int (fun _ _ => rfl)) (pa_cons (pe_op op_modN (pe_callTy (T := "int") call_int1 (by rfl) T.b_int (by decide +kernel) (pa_cons (pe_op op_add (pe_ix ix_list (pv 2) pe_int (fun _ _ => rfl)) (pe_call G_law_draw (hr.mono (by decide)) (by rfl) m_law_draw k_law_draw b_law_draw .nil pass0 (pa_cons (pv 0) (pa_cons (pv 1) (pa_cons pe_int pa_nil))))) pa_nil)) pe_int) pa_nil))))))))
  pss_nil)
  (pss_one (ps_ret (pv 4))))))), ?_⟩
    obtain ⟨l0, r0, e1, x1, y1, n1, n2, n3⟩ := id hone
    obtain ⟨v1, v2, v3, v4, v5, v6⟩ := id hv
    refine ⟨_, rfl, p, _, _, _, rfl, rfl, SqL.of e1, rfl, l0, _, rfl, .inl (SqL.of x1), fun l2 hl => ?_⟩
    have sl : Same H (upd H l2 (.lst (ds.map V.int))) := Same.new hl
    refine ⟨_, rfl, p, _, _, _, rfl, rfl, SqL.of (sl _ _ e1), rfl, r0, _, rfl, .inl (SqL.of (sl _ _ y1)), fun r2 hr => ?_⟩
    have sr : Same H (upd (upd H l2 (.lst (ds.map V.int))) r2 (.lst (rs.map V.int))) := sl.trans (Same.new hr)
    refine ⟨_, rfl, p, _, _, _, rfl, rfl, SqL.of (sr _ _ e1), rfl, _, rfl, p, _, _, _, rfl, rfl, SqL.of (sr _ _ e1), rfl, bigN (by show 4 ≤ _; decide), fun q0 hq => ?_⟩
    generalize hO : upd (upd (upd H l2 (.lst (ds.map V.int))) r2 (.lst (rs.map V.int))) q0 (.lst [V.ref l2, V.ref r2, V.int f, V.int m]) = H3
    have sq : Same H H3 := by rw [← hO]; exact sr.trans (Same.new hq)
    have gl2 : H3 l2 = some (.lst (ds.map V.int)) := by rw [← hO, upd_ne (ne_of_none (o := .lst (ds.map V.int)) (by rw [upd_ne (ne_of_none upd_same hr)]; exact upd_same) hq), upd_ne (ne_of_none upd_same hr)]; exact upd_same
    have gr2 : H3 r2 = some (.lst (rs.map V.int)) := by rw [← hO, upd_ne (ne_of_none upd_same hq)]; exact upd_same
    have gq0 : H3 q0 = some (.lst [V.ref l2, V.ref r2, V.int f, V.int m]) := by rw [← hO]; exact upd_same
    have hnl : H l2 = none := hl
    have hnr : H r2 = none := sl.free hr
    have hnq : H q0 = none := sr.free hq
    have nlr : l2 ≠ r2 := ne_of_none upd_same hr
    have nqr : r2 ≠ q0 := ne_of_none upd_same hq
    have nql : l2 ≠ q0 := ne_of_none (o := .lst (ds.map V.int)) (by rw [upd_ne nlr]; exact upd_same) hq
    have nl2s : ¬ l2 = s0 := hS.ne hnl
    have nr2s : ¬ r2 = s0 := hS.ne hnr
    have nq0s : ¬ q0 = s0 := hS.ne hnq
    have hn : ∀ b, b ∈ [q0, l2, r2] → H b = none := fun b hb => by
      simp only [List.mem_cons, List.not_mem_nil, or_false] at hb
      rcases hb with rfl | rfl | rfl
      · exact hnq
      · exact hnl
      · exact hnr
    clear hO
    refine ⟨_, rfl, _, rfl, a, s0, 4, rfl, hS.same sq, by decide, by decide, fun nk H3b n0 n4 f3b sc3 => ⟨_, rfl, by omega, by omega, ?_⟩⟩
    refine for_it walk_range (fun i σ H4 => ∃ (w5 w6 w7 : Option V) (d2 rr : List Int), σ = [some (.ref a), some (.ref s0), some (.ref p), some (.int many), some (.ref q0), w5, w6, w7] ∧ H4 q0 = some (.lst [V.ref l2, V.ref r2, V.int f, V.int m]) ∧ H4 l2 = some (.lst (d2.map V.int)) ∧ H4 r2 = some (.lst (rr.map V.int)) ∧ VDay d2 rr f m ∧ d2.length = ds.length ∧ Frm [s0, q0, l2, r2] H H4 ∧ Scr K H4 a s0)
      ⟨_, _, _, ds, rs, rfl, f3b _ _ (by simpa using nq0s) gq0, f3b _ _ (by simpa using nl2s) gl2, f3b _ _ (by simpa using nr2s) gr2, hv, rfl, (Frm.of_same sq).trans (f3b.mono (fun b h => by rw [List.mem_singleton.mp h]; exact List.mem_cons_self)), sc3⟩ (fun _ _ _ _ _ => trivial) ?_ ?_
    · rintro i x σ H4o H4 hi ⟨w5, w6, w7, d2, rr, rfl, gq0, gl2, gr2, hv4, hdl, f4, sc4⟩ ⟨rfl, rfl⟩
      have hrl : rr.length = d2.length := hv4.2.2.1
      refine ⟨_, rfl, _, rfl, _, rfl, a, s0, 2, rfl, sc4, by decide, by decide, fun wi H5 wi0 wi1 f5 sc5 => ?_⟩
      have hwi : wi = 0 ∨ wi = 1 := by omega
      rcases hwi with rfl | rfl
      · refine ⟨q0, _, _, _, rfl, rfl, SqL.of (f5 _ _ (by simpa using nq0s) gq0), rfl, ?_⟩
        refine ⟨_, rfl, _, rfl, _, rfl, a, s0, many, rfl, sc5, by omega, by omega, fun at_ H6 a0 a1 f6 sc6 => ?_⟩
        obtain ⟨an, rfl⟩ : ∃ an : Nat, at_ = (an : Int) := ⟨at_.toNat, by omega⟩
        have hz : d2[an]? = some d2[an] := List.getElem?_eq_getElem (by omega)
        have bz := hv4.2.2.2.1 _ (List.getElem_mem (show an < d2.length by omega))
        generalize d2[an] = z at hz bz
        have eL6 := f6 _ _ (by simpa using nl2s) (f5 _ _ (by simpa using nl2s) gl2)
        refine ⟨_, rfl, _, rfl, l2, _, _, _, rfl, rfl, SqL.of eL6, atI_nat (by rw [List.getElem?_map, hz]; rfl), ?_⟩
        refine ⟨_, rfl, _, rfl, a, s0, 3, rfl, sc6, by decide, by decide, fun sh H7 sh0 sh1 f7 sc7 => ?_⟩
        refine ⟨z, sh, rfl, sh0, sh1, bz.1, bz.2, fun z' H8 z0 z1 s8 => ?_⟩
        have f8 : Frm [s0] H4 H8 := ((f5.trans f6).trans f7).trans (Frm.of_same s8)
        have eL8 := f8 _ _ (by simpa using nl2s) gl2
        refine ⟨_, rfl, _, rfl, l2, _, _, an, rfl, rfl, eL8, ?_, ?_⟩
        · unfold ixN
          rw [if_pos (by omega), if_pos (by rw [List.length_map]; omega)]
          rfl
        have sc8 := sc7.same s8
        have f9 : Frm [s0, q0, l2, r2] H (upd H8 l2 (.lst ((d2.map V.int).set an (.int z')))) := (f4.trans (f8.mono (fun b h => by rw [List.mem_singleton.mp h]; exact List.mem_cons_self))).put' (by simp)
        refine ⟨_, _, _, d2.set an z', rr, rfl, ?_, ?_, ?_, hv4.setD ⟨z0, z1⟩, by rw [List.length_set]; exact hdl, f9, ?_⟩
        · rw [upd_ne (fun z => nql z.symm)]; exact f8 _ _ (by simpa using nq0s) gq0
        · rw [upd_same, List.map_set]
        · rw [upd_ne (fun z => nlr z.symm)]; exact f8 _ _ (by simpa using nr2s) gr2
        · obtain ⟨i1, i2, i3, i4, e4⟩ := sc8.2
          exact scr_ofL hS hn f9 ⟨i1, i2, i3, i4, by rw [upd_ne (fun z => nl2s z.symm)]; exact e4⟩
      · refine ⟨q0, _, _, _, rfl, rfl, SqL.of (f5 _ _ (by simpa using nq0s) gq0), rfl, ?_⟩
        refine ⟨_, rfl, _, rfl, _, rfl, a, s0, many, rfl, sc5, by omega, by omega, fun at_ H6 a0 a1 f6 sc6 => ?_⟩
        obtain ⟨an, rfl⟩ : ∃ an : Nat, at_ = (an : Int) := ⟨at_.toNat, by omega⟩
        have hz : rr[an]? = some rr[an] := List.getElem?_eq_getElem (by omega)
        have bz := hv4.2.2.2.2.1 _ (List.getElem_mem (show an < rr.length by omega))
        generalize rr[an] = z at hz bz
        have eL6 := f6 _ _ (by simpa using nr2s) (f5 _ _ (by simpa using nr2s) gr2)
        refine ⟨_, rfl, _, rfl, r2, _, _, _, rfl, rfl, SqL.of eL6, atI_nat (by rw [List.getElem?_map, hz]; rfl), ?_⟩
        refine ⟨_, rfl, _, rfl, a, s0, 3, rfl, sc6, by decide, by decide, fun sh H7 sh0 sh1 f7 sc7 => ?_⟩
        refine ⟨z, sh, rfl, sh0, sh1, bz.1, bz.2, fun z' H8 z0 z1 s8 => ?_⟩
        have f8 : Frm [s0] H4 H8 := ((f5.trans f6).trans f7).trans (Frm.of_same s8)
        have eL8 := f8 _ _ (by simpa using nr2s) gr2
        refine ⟨_, rfl, _, rfl, r2, _, _, an, rfl, rfl, eL8, ?_, ?_⟩
        · unfold ixN
          rw [if_pos (by omega), if_pos (by rw [List.length_map]; omega)]
          rfl
        have sc8 := sc7.same s8
        have f9 : Frm [s0, q0, l2, r2] H (upd H8 r2 (.lst ((rr.map V.int).set an (.int z')))) := (f4.trans (f8.mono (fun b h => by rw [List.mem_singleton.mp h]; exact List.mem_cons_self))).put' (by simp)
        refine ⟨_, _, _, d2, rr.set an z', rfl, ?_, ?_, ?_, hv4.setR ⟨z0, z1⟩, hdl, f9, ?_⟩
        · rw [upd_ne (fun z => nqr z.symm)]; exact f8 _ _ (by simpa using nq0s) gq0
        · rw [upd_ne nlr]; exact f8 _ _ (by simpa using nl2s) gl2
        · rw [upd_same, List.map_set]
        · obtain ⟨i1, i2, i3, i4, e4⟩ := sc8.2
          exact scr_ofL hS hn f9 ⟨i1, i2, i3, i4, by rw [upd_ne (fun z => nr2s z.symm)]; exact e4⟩
    rintro σ H4 ⟨w5, w6, w7, d2, rr, rfl, gq0, gl2, gr2, hv4, hdl, f4, sc4⟩
    obtain ⟨hf0, hf1, hm0, hm1⟩ := hv4.2.2.2.2.2
    refine ⟨_, rfl, q0, _, _, _, rfl, rfl, SqL.of gq0, rfl, _, rfl, _, rfl, a, s0, 3, rfl, sc4, by decide, by decide, fun sh H5 sh0 sh1 f5 sc5 => ?_⟩
    refine ⟨f, sh, rfl, sh0, sh1, hf0, hf1, fun f2 H6 z0 z1 s6 => ?_⟩
    have f6 : Frm [s0] H4 H6 := f5.trans (Frm.of_same s6)
    have gq6 := f6 _ _ (by simpa using nq0s) gq0
    refine ⟨_, rfl, q0, _, _, 2, rfl, rfl, gq6, rfl, ?_⟩
    have f7 : Frm [s0, q0, l2, r2] H (upd H6 q0 (.lst [V.ref l2, V.ref r2, V.int f2, V.int m])) := (f4.trans (f6.mono (fun b h => by rw [List.mem_singleton.mp h]; exact List.mem_cons_self))).put' (by simp)
    have sc7 : Scr K (upd H6 q0 (.lst [V.ref l2, V.ref r2, V.int f2, V.int m])) a s0 := by
      obtain ⟨i1, i2, i3, i4, e4⟩ := (sc5.same s6).2
      exact scr_ofL hS hn f7 ⟨i1, i2, i3, i4, by rw [upd_ne (fun z => nq0s z.symm)]; exact e4⟩
    have gl7 : (upd H6 q0 (.lst [V.ref l2, V.ref r2, V.int f2, V.int m])) l2 = some (.lst (d2.map V.int)) := by rw [upd_ne nql]; exact f6 _ _ (by simpa using nl2s) gl2
    have gr7 : (upd H6 q0 (.lst [V.ref l2, V.ref r2, V.int f2, V.int m])) r2 = some (.lst (rr.map V.int)) := by rw [upd_ne nqr]; exact f6 _ _ (by simpa using nr2s) gr2
    have gq7 : (upd H6 q0 (.lst [V.ref l2, V.ref r2, V.int f2, V.int m])) q0 = some (.lst [V.ref l2, V.ref r2, V.int f2, V.int m]) := upd_same
    have hv7 : VDay d2 rr f2 m := ⟨hv4.1, hv4.2.1, hv4.2.2.1, hv4.2.2.2.1, hv4.2.2.2.2.1, z0, z1, hm0, hm1⟩
    rw [show ([V.ref l2, V.ref r2, V.int f, V.int m]).set 2 (V.int f2) = [V.ref l2, V.ref r2, V.int f2, V.int m] from rfl]
    generalize (upd H6 q0 (.lst [V.ref l2, V.ref r2, V.int f2, V.int m])) = H7 at f7 sc7 gl7 gr7 gq7 ⊢
    have fA := Frm.dropL hn f7
    have hone7 := hone.frm fA
    refine ⟨_, rfl, _, rfl, a, s0, 5, rfl, sc7, by decide, by decide, fun d5 H8 d50 d51 f8 sc8 => ⟨rfl, _, rfl, ?_⟩⟩
    have gl8 := f8 _ _ (by simpa using nl2s) gl7
    have gr8 := f8 _ _ (by simpa using nr2s) gr7
    have gq8 := f8 _ _ (by simpa using nq0s) gq7
    have fB := fA.trans f8
    refine ite2 (fun _ => ?_) (fun _ => ?_)
    case refine_2 =>
      exact ⟨_, rfl, k q0 _ d2 rr f2 m ⟨l2, r2, gq8, gl8, gr8, nq0s, nl2s, nr2s⟩ hv7 fB sc8⟩
    case refine_1 =>
      obtain ⟨l0, r0, e1, _, _, _⟩ := id (hone.frm fB)
      refine ⟨_, rfl, q0, _, _, _, rfl, rfl, SqL.of gq8, rfl, bigN (by show 1 ≤ _; decide), fun c1 hc1 => ⟨l2, c1, _, _, rfl, rfl, by rw [upd_ne (ne_of_none gl8 hc1)]; exact gl8, upd_same, bigN (by rw [List.length_map]; have := hv7.2.1; show _ + 1 ≤ _; omega), fun y1 hy1 => ?_⟩⟩
      have s9 : Same H8 (upd (upd H8 c1 (.lst [.int 0])) y1 (.lst (d2.map V.int ++ [.int 0]))) := (Same.new hc1).trans (Same.new hy1)
      have gy1 : (upd (upd H8 c1 (.lst [.int 0])) y1 (.lst (d2.map V.int ++ [.int 0]))) y1 = some (.lst (d2.map V.int ++ [.int 0])) := upd_same
      generalize (upd (upd H8 c1 (.lst [.int 0])) y1 (.lst (d2.map V.int ++ [.int 0]))) = H9 at s9 gy1 ⊢
      refine ⟨_, rfl, q0, _, _, _, rfl, rfl, SqL.of (s9 _ _ gq8), rfl, bigN (by show 1 ≤ _; decide), fun c2 hc2 => ⟨r2, c2, _, _, rfl, rfl, by rw [upd_ne (ne_of_none (s9 _ _ gr8) hc2)]; exact s9 _ _ gr8, upd_same, bigN (by rw [List.length_map]; have := hv7.2.1; have := hv7.2.2.1; show _ + 1 ≤ _; omega), fun y2 hy2 => ?_⟩⟩
      have s10 : Same H9 (upd (upd H9 c2 (.lst [.int 0])) y2 (.lst (rr.map V.int ++ [.int 0]))) := (Same.new hc2).trans (Same.new hy2)
      have gy2 : (upd (upd H9 c2 (.lst [.int 0])) y2 (.lst (rr.map V.int ++ [.int 0]))) y2 = some (.lst (rr.map V.int ++ [.int 0])) := upd_same
      generalize (upd (upd H9 c2 (.lst [.int 0])) y2 (.lst (rr.map V.int ++ [.int 0]))) = H10 at s10 gy2 ⊢
      have gq10 := s10 _ _ (s9 _ _ gq8)
      refine ⟨_, rfl, q0, _, _, _, rfl, rfl, SqL.of gq10, rfl, _, rfl, q0, _, _, _, rfl, rfl, SqL.of gq10, rfl, bigN (by show 4 ≤ _; decide), fun q3 hq3 => ?_⟩
      have s11 : Same H10 (upd H10 q3 (.lst [V.ref y1, V.ref y2, V.int f2, V.int m])) := Same.new hq3
      have gq3 : (upd H10 q3 (.lst [V.ref y1, V.ref y2, V.int f2, V.int m])) q3 = some (.lst [V.ref y1, V.ref y2, V.int f2, V.int m]) := upd_same
      have gy1 := s11 _ _ (s10 _ _ gy1)
      have gy2 := s11 _ _ gy2
      generalize (upd H10 q3 (.lst [V.ref y1, V.ref y2, V.int f2, V.int m])) = H11 at s11 gq3 gy1 gy2 ⊢
      refine ⟨_, rfl, q3, _, _, _, rfl, rfl, SqL.of gq3, rfl, _, rfl, y1, _, rfl, SqL.of gy1, fun x1 hx1 => ?_⟩
      have s12 : Same H11 (upd H11 x1 (.lst (cutV (d2.map V.int ++ [.int 0]) none (some 4)))) := Same.new hx1
      have gx1 : (upd H11 x1 (.lst (cutV (d2.map V.int ++ [.int 0]) none (some 4)))) x1 = some (.lst (cutV (d2.map V.int ++ [.int 0]) none (some 4))) := upd_same
      generalize (upd H11 x1 (.lst (cutV (d2.map V.int ++ [.int 0]) none (some 4)))) = H12 at s12 gx1 ⊢
      refine ⟨_, rfl, q3, _, _, _, rfl, rfl, SqL.of (s12 _ _ gq3), rfl, _, rfl, y2, _, rfl, SqL.of (s12 _ _ gy2), fun x2 hx2 => ?_⟩
      have s13 : Same H12 (upd H12 x2 (.lst (cutV (rr.map V.int ++ [.int 0]) none (some 4)))) := Same.new hx2
      have gx2 : (upd H12 x2 (.lst (cutV (rr.map V.int ++ [.int 0]) none (some 4)))) x2 = some (.lst (cutV (rr.map V.int ++ [.int 0]) none (some 4))) := upd_same
      generalize (upd H12 x2 (.lst (cutV (rr.map V.int ++ [.int 0]) none (some 4)))) = H13 at s13 gx2 ⊢
      have gx1 := s13 _ _ gx1
      have gq3 := s13 _ _ (s12 _ _ gq3)
      have s14 : Same H8 H13 := ((s9.trans s10).trans (s11.trans s12)).trans s13
      have nx1 : H8 x1 = none := (s9.trans s10).free (s11.free hx1)
      have nx2 : H8 x2 = none := (s9.trans s10).free (s11.free (s12.free hx2))
      have nx1s : ¬ x1 = s0 := sc8.ne nx1
      have nx2s : ¬ x2 = s0 := sc8.ne nx2
      refine ⟨_, rfl, q3, _, _, _, rfl, rfl, SqL.of gq3, rfl, _, rfl, p, _, _, _, rfl, rfl, SqL.of (s14 _ _ e1), rfl, _, rfl, _, rfl, a, s0, 2, rfl, sc8.same s14, by decide, by decide, fun d H15 d0 d1 f15 sc15 => ⟨_, _, rfl, rfl, .inl ⟨_, rfl, _, _, rfl, rfl, (by show (4 : Int) ≠ 0; decide), bigN (by show 4 ≤ _; decide), fun q4 hq4 => ?_⟩⟩⟩
      have gx1 := f15 _ _ (by simpa using nx1s) gx1
      have gx2 := f15 _ _ (by simpa using nx2s) gx2
      have cut4 : ∀ ks : List Int, cutV (ks.map V.int ++ [.int 0]) none (some 4) = ((ks ++ [0]).take 4).map V.int := fun ks => by
        unfold cutV HT.sIx
        simp [List.map_take]
      have t4 : ∀ ks : List Int, 1 ≤ ks.length → ks.length ≤ 4 → 1 ≤ ((ks ++ [0]).take 4).length ∧ ((ks ++ [0]).take 4).length ≤ 4 ∧ ((ks ++ [0]).take 4).length = min 4 (ks.length + 1) := fun ks h1 h2 => by
        have e : ((ks ++ [0]).take 4).length = min 4 (ks.length + 1) := by rw [List.length_take, List.length_append]; rfl
        rw [e]
        omega
      have m4 : ∀ ks : List Int, (∀ x, x ∈ ks → 0 ≤ x ∧ x ≤ 8) → ∀ x, x ∈ (ks ++ [0]).take 4 → 0 ≤ x ∧ x ≤ 8 := fun ks h x hx => by
        rcases List.mem_append.mp (List.mem_of_mem_take hx) with q | q
        · exact h x q
        · rw [List.mem_singleton.mp q]
          decide
      obtain ⟨a1, a2, a3, a4, a5, a6, a7, a8, a9⟩ := hv7
      obtain ⟨t1, t2, t3⟩ := t4 d2 a1 a2
      obtain ⟨t5, t6, t7⟩ := t4 rr (by omega) (by omega)
      have hm4 : 0 ≤ (m + d).fmod 4 ∧ (m + d).fmod 4 ≤ 3 := by rw [Int.fmod_eq_emod_of_nonneg _ (by decide)]; omega
      refine ⟨_, rfl, k q4 _ _ _ f2 ((m + d).fmod 4) ⟨x1, x2, upd_same, by rw [upd_ne (ne_of_none gx1 hq4), gx1, cut4], by rw [upd_ne (ne_of_none gx2 hq4), gx2, cut4], sc15.ne hq4, nx1s, nx2s⟩ ⟨t1, t2, by rw [t3, t7, a3], m4 d2 a4, m4 rr a5, a6, a7, hm4.1, hm4.2⟩ ?_ (sc15.same (Same.new hq4))⟩
      exact ((fB.trans (Frm.of_same s14)).trans f15).trans (Frm.new hq4)
end
end Wb

namespace Wb
open PySem PySem.Spec PyProof.Rows L2 Wx NdefX RZ StX PyProof.Rows.FinIter
section
variable {P : Program} {w : World} {K : PySem.W.Frag} {mg : Str → Option Value} {base : Heap}

theorem cutV_pre (xs : List V) (k : Nat) : cutV xs none (some (k : Int)) = xs.take k := by
  unfold cutV
  rw [HT.sIx_nat, HT.sIx_none, List.drop_zero, Nat.sub_zero]
  by_cases h : k ≤ xs.length
  · rw [Nat.min_eq_left h]
  · rw [List.take_of_length_le (by omega), List.take_of_length_le (by omega)]
theorem cutV_suf (xs : List V) (k : Nat) : cutV xs (some (k : Int)) none = xs.drop k := by
  unfold cutV
  rw [HT.sIx_nat, HT.sIx_none]
  by_cases h : k ≤ xs.length
  · rw [Nat.min_eq_left h, List.take_of_length_le (by rw [List.length_drop]; exact Nat.le_refl _)]
  · rw [List.drop_of_length_le (by omega), List.drop_of_length_le (by omega), List.take_nil]
theorem find_mid {A B : List V} {x : V} (h : A.find? bad8 = none) (hx : bad8 x = true) : (A ++ [x] ++ B).find? bad8 = some x := by
  rw [List.find?_append, List.find?_append, h, List.find?_cons, hx]
  rfl

theorem DayAt.lst {C L : Addr} {H : Hp} {p : Addr} {ds rs : List Int} {f m : Int} {xs : List V} {o : HO} (x : DayAt C H p ds rs f m) (e : H L = some (.lst xs)) : DayAt C (upd H L o) p ds rs f m := by
  obtain ⟨dx, q, r, e1, e2, e3⟩ := x
  have go : ∀ {b : Addr} {u : HO}, H b = some u → (∀ xs, u ≠ .lst xs) → (upd H L o) b = some u := fun {b u} e' h => by
    rw [upd_ne (fun z => by rw [z, e] at e'; cases e'; exact h _ rfl)]
    exact e'
  exact ⟨dx, q, r, go e1 (fun xs => by intro z; cases z), go e2 (fun xs => by intro z; cases z), go e3 (fun xs => by intro z; cases z)⟩
def partD (ds rs : List Int) (f m : Int) : PyData := .list [.list (ds.map PyData.int), .list (rs.map PyData.int), .int f, .int m]
def partT (ds rs : List Int) (f m : Int) : PyData := .tuple [.tuple (ds.map PyData.int), .tuple (rs.map PyData.int), .int f, .int m]
theorem PartsF.dp {K : PySem.W.Frag} {s : Addr} {H : Hp} {p : Addr} {ds rs : List Int} {f m : Int} (x : PartsF s H p ds rs f m) : Dp K H (.ref p) (partD ds rs f m) := by
  obtain ⟨l, r, e1, e2, e3, _⟩ := x
  exact .lst (SqL.of e1) (.cons (dp_intsL (SqL.of e2)) (.cons (dp_intsL (SqL.of e3)) (.cons (.int f) (.cons (.int m) .nil))))
theorem partD_shaped (ds rs : List Int) (f m : Int) : SeqAt.shaped (partD ds rs f m) = true := by
  have h1 := depth_ints ds
  have h2 := depth_ints rs
  show (PyData.canLay0 (partD ds rs f m) && decide ((partD ds rs f m).depth ≤ 64)) = true
  rw [Bool.and_eq_true]
  refine ⟨?_, decide_eq_true ?_⟩
  · unfold partD
    simp only [PyData.canLay0, PyData.canLayAll0, lay_ints]
    rfl
  · unfold partD
    simp only [PyData.depth, PyData.depthAll]
    omega
theorem partT_shaped (ds rs : List Int) (f m : Int) : SeqAt.shaped (partT ds rs f m) = true := by
  have h1 := depth_ints ds
  have h2 := depth_ints rs
  show (PyData.canLay0 (partT ds rs f m) && decide ((partT ds rs f m).depth ≤ 64)) = true
  rw [Bool.and_eq_true]
  refine ⟨?_, decide_eq_true ?_⟩
  · unfold partT
    simp only [PyData.canLay0, PyData.canLayAll0, lay_ints]
    rfl
  · unfold partT
    simp only [PyData.depth, PyData.depthAll]
    omega
theorem partD_eqv (d1 r1 : List Int) (f1 m1 : Int) (d2 r2 : List Int) (f2 m2 : Int) : PyData.eqv (partD d1 r1 f1 m1) (partD d2 r2 f2 m2) = eqDy d1 r1 f1 m1 d2 r2 f2 m2 := by
  have e : PyData.eqv (partD d1 r1 f1 m1) (partD d2 r2 f2 m2) = (PyData.eqvAll (d1.map PyData.int) (d2.map PyData.int) && (PyData.eqvAll (r1.map PyData.int) (r2.map PyData.int) && ((f1 == f2) && ((m1 == m2) && true)))) := by
    unfold partD
    simp only [PyData.eqv, PyData.eqvAll]
  rw [e, eqvAll_ints, eqvAll_ints]
  unfold eqDy
  rw [Bool.eq_iff_iff]
  simp [Bool.and_eq_true]
def sp_law_sums_hold (K : PySem.W.Frag) (C : Addr) : Sp := fun vs H Q _ => ∃ (a s x p : Addr) (ds rs : List Int) (f m : Int), vs = [.ref a, .ref s, .ref x, .ref p] ∧ Scr K H a s ∧ DayAt C H x ds rs f m ∧ PartsF s H p ds rs f m ∧ VDay ds rs f m ∧ ∀ H', Frm [s] H H' → Scr K H' a s → Q (.bl true) H'
def sp_law_refusals_hold (K : PySem.W.Frag) : Sp := fun vs H Q _ => ∃ (a s p : Addr) (ds rs : List Int) (f m many : Int), vs = [.ref a, .ref s, .ref p, .int many] ∧ Scr K H a s ∧ PartsF s H p ds rs f m ∧ VDay ds rs f m ∧ (ds.length : Int) = many ∧ ∀ H', Q (.bl true) H'
theorem Scr.lstS {K : PySem.W.Frag} {H : Hp} {a s : Addr} (h : Scr K H a s) : ∀ u, H s = some u → ∃ xs, u = .lst xs := fun u e => by
  obtain ⟨i1, i2, i3, i4, e4⟩ := h.2
  rw [e4] at e
  exact ⟨_, (Option.some.inj e).symm⟩

theorem ok_law_sums_hold {f : Addr} {fd : FuncData} (F : Fun K "_law_sums_hold" "_law_sums_hold" s_law_sums_hold f fd) (T : Txt K mg) {C_BadNumber C_Day fi fe : Addr} {fdi fde : FuncData} (D_Day : DatC K mg "Day" C_Day fi fe ["dry", "rain", "fill", "mood"]) (GDay___init__ : FnOk P w K mg base (L2.CX P w) 6 fi fdi PDay___init__ (spDay_init K C_Day C_BadNumber)) (bDay___init__ : Binds K fdi PDay___init__ []) (GDay___eq__ : FnOk P w K mg base CX0 1 fe fde PDay___eq__ (spDay_eq C_Day)) (bDay___eq__ : Binds K fde PDay___eq__ []) (C_law_draw : Cal P w K mg base "_law_draw" P_law_draw 1 (sp_law_draw K)) (C_law_sum : Cal P w K mg base "_law_sum" P_law_sum 10 (sp_law_sum C_Day)) : FnOk P w K mg base CX0 11 f fd P_law_sums_hold (sp_law_sums_hold K C_Day) := by
  obtain ⟨g_law_draw, gd_law_draw, G_law_draw, m_law_draw, k_law_draw, b_law_draw⟩ := C_law_draw.ex
  obtain ⟨g_law_sum, gd_law_sum, G_law_sum, m_law_sum, k_law_sum, b_law_sum⟩ := C_law_sum.ex
  refine F.ok sc_law_sums_hold (fun vs H Q E h => ?_) (fun cdv A outer s H vs Q E hr h => ?_)
  · obtain ⟨a, s0, x, p, ds, rs, f, m, rfl, hS, hx, hp, hv, k⟩ := h
    rfl
  · obtain ⟨a, s0, x, p, ds, rs, f, m, rfl, hS, hx, hp, hv, k⟩ := h
    refine ⟨_, (pss_cons (ps_set (i := 4) sc_law_sums_hold.nd rfl (by first | exact Or.inl rfl | exact Or.inr rfl) (pe_op op_sub (pe_call G_law_draw (hr.mono (by decide)) (by rfl) m_law_draw k_law_draw b_law_draw .nil pass0 (pa_cons (pv 0) (pa_cons (pv 1) (pa_cons pe_int pa_nil)))) pe_int))
  (pss_cons (ps_set (i := 5) sc_law_sums_hold.nd rfl (by first | exact Or.inl rfl | exact Or.inr rfl) (pe_call G_law_sum (hr.mono (by decide)) (by rfl) m_law_sum k_law_sum b_law_sum .nil pass0 (pa_cons (pv 2) (pa_cons (pv 4) pa_nil))))
  (pss_cons (ps_if (PW.pt (pw_or (pt_cmpR op_lt (pv 4) pe_int (nomark _)) (pw_or1 (pt_cmpR op_gt (pv 4) pe_int (nomark _)))))
  (pss_one (ps_ret (pe_cmpR (op_eqD hr.units) (pv 5) (pe_tup (pa_cons pe_str (pa_cons (pv 4) pa_nil))) (nomark _))))
  pss_nil)
  (pss_cons (ps_setLc (i := 6) (own := [("value", 7)]) rfl sc_law_sums_hold.nd rfl rfl (sw_true rfl rfl rfl (by decide +kernel)) (pi_list (pe_ix ix_list (pv 3) pe_int (fun _ _ => rfl))) (blkOk_by (own := [("value", 7)]) (N := N_law_sums_hold) (sc := defScope s_law_sums_hold) (by decide +kernel)) (fun _ _ _ _ _ => (pg_name (i := 7) sc_law_sums_hold.nd rfl (by first | exact Or.inl rfl | exact Or.inr rfl))) (fun _ _ _ _ _ => pts_nil) (fun _ _ _ _ _ => (pe_callB (id := "min") (call_min2 rfl) (by rfl) T.b_min (by decide +kernel) (pa_cons pe_int (pa_cons (pe_callTy (T := "int") call_int1 (by rfl) T.b_int (by decide +kernel) (pa_cons (pe_op op_add (pv 7) (pv 4)) pa_nil)) pa_nil)))))
  (pss_one (ps_ret (pe_and (pe_cmpR (op_eqI GDay___eq__ (hr.mono (by decide)) D_Day.eq D_Day.fe bDay___eq__ pass0) (pv 5) (pe_makeS D_Day.mkk GDay___init__ (hr.mono (by decide)) (by rfl) D_Day.g bDay___init__ (fun σ => passAt takes0 σ) (pa_cons (pe_ix ix_list (pv 3) pe_int (fun _ _ => rfl)) (pa_cons (pv 6) (pa_cons (pe_ix ix_list (pv 3) pe_int (fun _ _ => rfl)) (pa_cons (pe_ix ix_list (pv 3) pe_int (fun _ _ => rfl)) pa_nil))))) (nomark _)) (pe_one (pe_cmpR (op_eqD hr.units) (pe_fld (pv 2) rfl) (pe_callTy (T := "tuple") call_tuple_of (by rfl) T.b_tuple (by decide +kernel) (pa_cons (pe_ix ix_list (pv 3) pe_int (fun _ _ => rfl)) pa_nil)) (nomark _)))))))))), ?_⟩
    refine ⟨_, rfl, _, rfl, a, s0, 11, rfl, hS, by decide, by decide, fun u H1 u0 u1 f1 sc1 => ⟨_, _, rfl, rfl, ?_⟩⟩
    have st1 := hx.frm hS.lstS f1
    have hp1 := hp.frm f1
    refine ⟨_, rfl, _, rfl, x, ds, rs, f, m, u - 1, rfl, st1, hv, fun v0 v1 y H2 s2 st => ?_, fun nv q H2 nq eq s2 => ?_⟩
    · have st2 := st1.same s2
      have hp2 := hp1.same s2
      have sc2 := sc1.same s2
      obtain ⟨l, r, e1, x1, y1, _⟩ := id hp2
      refine ⟨_, rfl, _, _, rfl, rfl, _, rfl, ite2 (fun z => absurd (of_decide_eq_true z) (by omega)) (fun _ => ?_)⟩
      refine ⟨_, rfl, _, _, rfl, rfl, _, rfl, ite2 (fun z => absurd (of_decide_eq_true z) (by omega)) (fun _ => ?_)⟩
      refine ⟨_, rfl, p, _, _, _, rfl, rfl, SqL.of e1, rfl, r, rfl, ⟨_, SqL.of y1⟩, fun D hD => ?_⟩
      refine lc_it walk_list (fun i H3 => H3 D = some (.lst ((moreR (u - 1) (rs.take i)).map V.int)) ∧ Same H2 H3) ⟨upd_same, Same.new hD⟩ (fun i H3 _ q => SqL.of (q.2 _ _ y1)) ?_ ?_
      · rintro i x H3o H3 hi ⟨g1, s3⟩ ⟨rfl, hx⟩
        obtain ⟨w, hw, rfl⟩ := int_at hx
        refine ⟨rfl, ?_⟩
        refine ⟨_, rfl, _, rfl, _, _, rfl, rfl, .inl ⟨_, rfl, _, _, rfl, ?_⟩⟩
        refine ⟨_, g1, small1000 (by unfold moreR; simp only [List.length_map, List.length_take]; have := hv.2.1; have := hv.2.2.1; omega), ?_, fun z o e => by rw [upd_ne (ne_of_none e hD)]; exact s3 _ _ e⟩
        rw [upd_same, take_snoc hw]
        unfold moreR
        rw [List.map_append, List.map_append]
        rfl
      rintro H3 ⟨g1, s3⟩
      rw [List.take_of_length_le (by simp only [List.length_map]; exact Nat.le_refl _)] at g1
      have e1 := s3 _ _ e1
      have x1 := s3 _ _ x1
      have y1 := s3 _ _ y1
      refine ⟨_, rfl, _, rfl, p, _, _, _, rfl, rfl, SqL.of e1, rfl, _, rfl, _, rfl, p, _, _, _, rfl, rfl, SqL.of e1, rfl, _, rfl, p, _, _, _, rfl, rfl, SqL.of e1, rfl, fun y2 dy ny nd _ => ?_⟩
      refine day_make (moreR_vday hv v0) (.inl (SqL.of x1)) (.inl (SqL.of g1)) ny nd fun H5 s5 st5 => ?_
      have st6 := (st.same s3).same s5
      obtain ⟨da, qa, ra, a1, _⟩ := id st6
      obtain ⟨db, qb, rb, b1, _⟩ := id st5
      refine ⟨y, da, _, y2, db, _, rfl, rfl, a1, b1, y, y2, ds, moreR (u - 1) rs, ds, moreR (u - 1) rs, f, m, f, m, rfl, st6, st5, _, rfl, _, rfl, ?_⟩
      rw [eqDy_self]
      refine iteT ?_
      have st7 := (st2.same s3).same s5
      obtain ⟨dx, qx, rx, c1, c2, c3⟩ := id st7
      have e1 := s5 _ _ e1
      have y1 := s5 _ _ y1
      have no := fun f (h : f ∈ (["dry", "rain", "fill", "mood"] : List Str)) => D_Day.no f h
      refine ⟨_, rfl, x, C_Day, dx, _, _, rfl, c1, D_Day.cls, no _ (by decide), rfl, _, rfl, p, _, _, _, rfl, rfl, SqL.of e1, rfl, r, _, rfl, .inl ⟨SqL.of y1, fun z hz => ?_⟩⟩
      refine ⟨_, _, dp_intsT (SqT.of (by rw [upd_ne (ne_of_none c3 hz)]; exact c3)), dp_intsT (SqT.of upd_same), shaped_intsT _, shaped_intsT _, ?_⟩
      rw [eqv_intsT, decide_eq_true rfl]
      have s8 := ((s2.trans s3).trans s5).trans (Same.new (o := .tup (rs.map V.int)) hz)
      exact k _ (f1.trans (Frm.of_same s8)) (sc1.same s8)
    · have fin : Q (.bl true) H2 → True := fun _ => trivial
      have go : ∀ (r : Addr), H2 r = none → ∃ d e : PyData, Dp K (upd H2 r (.tup [.str ("units" : Str), .int (u - 1)])) (.ref q) d ∧ Dp K (upd H2 r (.tup [.str ("units" : Str), .int (u - 1)])) (.ref r) e ∧ SeqAt.shaped d = true ∧ SeqAt.shaped e = true ∧ PyData.eqv d e = true := fun r hr =>
        pair_eq (K := K) (H := upd H2 r (.tup [.str "units", .int (u - 1)])) (q := q) (r := r) (t := "units") (v := .int (u - 1)) (by decide +kernel) (.int _) nofun (by rw [upd_ne (ne_of_none eq hr)]; exact eq) upd_same
      have last : ∀ r, H2 r = none → Q (.bl true) (upd H2 r (.tup [.str ("units" : Str), .int (u - 1)])) := fun r hr => by
        have s8 := s2.trans (Same.new (o := .tup [.str ("units" : Str), .int (u - 1)]) hr)
        exact k _ (f1.trans (Frm.of_same s8)) (sc1.same s8)
      refine ⟨_, rfl, _, _, rfl, rfl, _, rfl, ite2 (fun z => ?_) (fun z => ?_)⟩
      · refine ⟨_, rfl, _, rfl, two_le, fun r hr => ?_⟩
        obtain ⟨d, e, D1, D2, S1, S2, E⟩ := go r hr
        refine ⟨d, e, D1, D2, S1, S2, ?_⟩
        rw [E]
        exact last r hr
      · refine ⟨_, rfl, _, _, rfl, rfl, _, rfl, ite2 (fun z2 => ?_) (fun z2 => ?_)⟩
        · refine ⟨_, rfl, _, rfl, two_le, fun r hr => ?_⟩
          obtain ⟨d, e, D1, D2, S1, S2, E⟩ := go r hr
          refine ⟨d, e, D1, D2, S1, S2, ?_⟩
          rw [E]
          exact last r hr
        · have z1 : ¬ u - 1 < 0 := fun y => z (decide_eq_true y)
          have z3 : ¬ u - 1 > 8 := fun y => z2 (decide_eq_true (by omega))
          exact absurd ⟨by omega, by omega⟩ nv
end
end Wb

namespace Wb
open PySem PySem.Spec PyProof.Rows L2 Wx NdefX RZ StX PyProof.Rows.FinIter
section
variable {P : Program} {w : World} {K : PySem.W.Frag} {mg : Str → Option Value} {base : Heap}

theorem ok_law_refusals_hold {f : Addr} {fd : FuncData} (F : Fun K "_law_refusals_hold" "_law_refusals_hold" s_law_refusals_hold f fd) (T : Txt K mg) (C_law_draw : Cal P w K mg base "_law_draw" P_law_draw 1 (sp_law_draw K)) (C_law_refusal : Cal P w K mg base "_law_refusal" P_law_refusal 9 (sp_law_refusalD K)) : FnOk P w K mg base CX0 10 f fd P_law_refusals_hold (sp_law_refusals_hold K) := by
  obtain ⟨g_law_draw, gd_law_draw, G_law_draw, m_law_draw, k_law_draw, b_law_draw⟩ := C_law_draw.ex
  obtain ⟨g_law_refusal, gd_law_refusal, G_law_refusal, m_law_refusal, k_law_refusal, b_law_refusal⟩ := C_law_refusal.ex
  refine F.ok sc_law_refusals_hold (fun vs H Q E h => ?_) (fun cdv A outer s H vs Q E hr h => ?_)
  · obtain ⟨a, s0, p, ds, rs, f, m, many, rfl, hS, hp, hv, hmany, k⟩ := h
    rfl
  · obtain ⟨a, s0, p, ds, rs, f, m, many, rfl, hS, hp, hv, hmany, k⟩ := h
    refine ⟨_, (pss_cons (ps_set (i := 4) sc_law_refusals_hold.nd rfl (by first | exact Or.inl rfl | exact Or.inr rfl) (pe_call G_law_draw (hr.mono (by decide)) (by rfl) m_law_draw k_law_draw b_law_draw .nil pass0 (pa_cons (pv 0) (pa_cons (pv 1) (pa_cons (pv 3) pa_nil)))))
  (pss_cons (ps_set (i := 5) sc_law_refusals_hold.nd rfl (by first | exact Or.inl rfl | exact Or.inr rfl) (pe_ix ix_list (pe_lst (pa_cons (pe_un un_neg pe_int) (pa_cons pe_int (pa_cons (pe_op op_pow pe_int pe_int) (pa_cons pe_bl pa_nil))))) (pe_call G_law_draw (hr.mono (by decide)) (by rfl) m_law_draw k_law_draw b_law_draw .nil pass0 (pa_cons (pv 0) (pa_cons (pv 1) (pa_cons pe_int pa_nil)))) (fun _ _ => rfl)))
  (pss_cons (ps_set (i := 6) sc_law_refusals_hold.nd rfl (by first | exact Or.inl rfl | exact Or.inr rfl) (pe_op op_cat (pe_op op_cat (pe_slice sl_list (pe_ix ix_list (pv 2) pe_int (fun _ _ => rfl)) po_none (po_some (pv 4))) (pe_lst (pa_cons (pv 5) pa_nil))) (pe_slice sl_list (pe_ix ix_list (pv 2) pe_int (fun _ _ => rfl)) (po_some (pe_op op_add (pv 4) pe_int)) po_none)))
  (pss_cons (ps_set (i := 7) sc_law_refusals_hold.nd rfl (by first | exact Or.inl rfl | exact Or.inr rfl) (pe_op op_cat (pe_op op_cat (pe_slice sl_list (pe_ix ix_list (pv 2) pe_int (fun _ _ => rfl)) po_none (po_some (pv 4))) (pe_lst (pa_cons (pv 5) pa_nil))) (pe_slice sl_list (pe_ix ix_list (pv 2) pe_int (fun _ _ => rfl)) (po_some (pe_op op_add (pv 4) pe_int)) po_none)))
  (pss_cons (ps_if (pt_cmpR (op_neD hr.units) (pe_call G_law_refusal (hr.mono (by decide)) (by rfl) m_law_refusal k_law_refusal b_law_refusal .nil pass0 (pa_cons (pv 6) (pa_cons (pe_op op_cat (pe_ix ix_list (pv 2) pe_int (fun _ _ => rfl)) (pe_lst (pa_cons pe_int pa_nil))) (pa_cons pe_int (pa_cons pe_int pa_nil))))) (pe_tup (pa_cons pe_str (pa_cons (pv 5) pa_nil))) (nomark _))
  (pss_one (ps_ret pe_bl))
  pss_nil)
  (pss_cons (ps_if (pt_cmpR (op_neD hr.units) (pe_call G_law_refusal (hr.mono (by decide)) (by rfl) m_law_refusal k_law_refusal b_law_refusal .nil pass0 (pa_cons (pe_ix ix_list (pv 2) pe_int (fun _ _ => rfl)) (pa_cons (pv 7) (pa_cons pe_int (pa_cons pe_int pa_nil))))) (pe_tup (pa_cons pe_str (pa_cons (pv 5) pa_nil))) (nomark _))
  (pss_one (ps_ret pe_bl))
  pss_nil)
  (pss_cons (ps_if (pt_cmpR (op_neD hr.units) (pe_call G_law_refusal (hr.mono (by decide)) (by rfl) m_law_refusal k_law_refusal b_law_refusal .nil pass0 (pa_cons (pe_ix ix_list (pv 2) pe_int (fun _ _ => rfl)) (pa_cons (pe_op op_cat (pv 7) (pe_lst (pa_cons pe_int pa_nil))) (pa_cons pe_int (pa_cons pe_int pa_nil))))) (pe_tup (pa_cons pe_str (pa_cons (pe_op op_add (pv 3) pe_int) pa_nil))) (nomark _))
  (pss_one (ps_ret pe_bl))
  pss_nil)
  (pss_cons (ps_if (PW.pt (pw_or (pt_cmpR (op_neD hr.units) (pe_call G_law_refusal (hr.mono (by decide)) (by rfl) m_law_refusal k_law_refusal b_law_refusal .nil pass0 (pa_cons (pe_lst pa_nil) (pa_cons (pe_lst pa_nil) (pa_cons pe_int (pa_cons pe_int pa_nil))))) (pe_tup (pa_cons pe_str (pa_cons pe_int pa_nil))) (nomark _)) (pw_or1 (pt_cmpR (op_neD hr.units) (pe_call G_law_refusal (hr.mono (by decide)) (by rfl) m_law_refusal k_law_refusal b_law_refusal .nil pass0 (pa_cons (pe_op op_rep (pe_lst (pa_cons pe_int pa_nil)) pe_int) (pa_cons (pe_op op_rep (pe_lst (pa_cons pe_int pa_nil)) pe_int) (pa_cons pe_int (pa_cons pe_int pa_nil))))) (pe_tup (pa_cons pe_str (pa_cons pe_int pa_nil))) (nomark _)))))
  (pss_one (ps_ret pe_bl))
  pss_nil)
  (pss_cons (ps_if (pt_cmpR (op_neD hr.units) (pe_call G_law_refusal (hr.mono (by decide)) (by rfl) m_law_refusal k_law_refusal b_law_refusal .nil pass0 (pa_cons (pe_ix ix_list (pv 2) pe_int (fun _ _ => rfl)) (pa_cons (pe_ix ix_list (pv 2) pe_int (fun _ _ => rfl)) (pa_cons (pv 5) (pa_cons pe_int pa_nil))))) (pe_tup (pa_cons pe_str (pa_cons (pv 5) pa_nil))) (nomark _))
  (pss_one (ps_ret pe_bl))
  pss_nil)
  (pss_cons (ps_if (pt_cmpR (op_neD hr.units) (pe_call G_law_refusal (hr.mono (by decide)) (by rfl) m_law_refusal k_law_refusal b_law_refusal .nil pass0 (pa_cons (pe_ix ix_list (pv 2) pe_int (fun _ _ => rfl)) (pa_cons (pe_ix ix_list (pv 2) pe_int (fun _ _ => rfl)) (pa_cons pe_int (pa_cons pe_int pa_nil))))) (pe_tup (pa_cons pe_str (pa_cons pe_int pa_nil))) (nomark _))
  (pss_one (ps_ret pe_bl))
  pss_nil)
  (pss_one (ps_ret (pe_cmpR (op_eqD hr.units) (pe_call G_law_refusal (hr.mono (by decide)) (by rfl) m_law_refusal k_law_refusal b_law_refusal .nil pass0 (pa_cons (pe_ix ix_list (pv 2) pe_int (fun _ _ => rfl)) (pa_cons (pe_ix ix_list (pv 2) pe_int (fun _ _ => rfl)) (pa_cons pe_int (pa_cons pe_int pa_nil))))) (pe_tup (pa_cons pe_str (pa_cons pe_int pa_nil))) (nomark _)))))))))))))), ?_⟩
    obtain ⟨v1, v2, v3, v4, v5, v6, v7, v8, v9⟩ := id hv
    refine ⟨_, rfl, _, rfl, _, rfl, a, s0, many, rfl, hS, by omega, by omega, fun at_ H1 a0 a1 f1 sc1 => ?_⟩
    obtain ⟨an, rfl⟩ : ∃ an : Nat, at_ = (an : Int) := ⟨at_.toNat, by omega⟩
    refine ⟨_, rfl, _, _, rfl, rfl, ⟨by decide, by decide, by decide⟩, bigN (by show 4 ≤ _; decide), fun l hl => ?_⟩
    refine ⟨_, rfl, _, rfl, a, s0, 4, rfl, sc1.same (Same.new hl), by decide, by decide, fun wi H2 w0 w1 f2 sc2 => ?_⟩
    have nls : ¬ l ∈ [s0] := fun y => sc1.ne hl (by simpa using y)
    have el := f2 l _ nls upd_same
    obtain ⟨W, wo, wn, wns, hw⟩ : ∃ W, OddV W ∧ numB W 0 8 = false ∧ (∀ z, W = .str z → PyData.strOk z = true) ∧ atI [V.int (-1), V.int 9, V.int (10 ^ Int.toNat 20), V.bl true] wi = some W := by
      have : wi = 0 ∨ wi = 1 ∨ wi = 2 ∨ wi = 3 := by omega
      have big : (8 : Int) < 10 ^ Int.toNat 20 := by decide
      rcases this with rfl | rfl | rfl | rfl
      · exact ⟨_, .int _, decide_eq_false (by omega), nofun, rfl⟩
      · exact ⟨_, .int _, decide_eq_false (by omega), nofun, rfl⟩
      · exact ⟨_, .int _, decide_eq_false (by omega), nofun, rfl⟩
      · exact ⟨_, .bl _, rfl, nofun, rfl⟩
    refine ⟨l, _, _, _, rfl, rfl, SqL.of el, hw, ?_⟩
    have hp2 : PartsF s0 H2 p ds rs f m := ((hp.frm f1).same (Same.new hl)).frm f2
    clear el hl nls
    obtain ⟨pl, pr, g1, gd, gr, _⟩ := id hp2
    have cl : ∀ (ls : List Int) (x y : Option Int), (cutV (ls.map V.int) x y).length ≤ ls.length := fun ls x y => by have := cutV_length (ls.map V.int) x y; rw [List.length_map] at this; exact this
    have wlen : ∀ (ls : List Int), an < ls.length → ((ls.map V.int).take an ++ [W] ++ (ls.map V.int).drop (an + 1)).length = ls.length := fun ls h => by
      simp only [List.length_append, List.length_take, List.length_drop, List.length_map, List.length_cons, List.length_nil]
      omega
    have wodd : ∀ (ls : List Int), ∀ x, x ∈ (ls.map V.int).take an ++ [W] ++ (ls.map V.int).drop (an + 1) → OddV x := fun ls x hx => by
      simp only [List.mem_append, List.mem_cons, List.not_mem_nil, or_false] at hx
      rcases hx with (q | rfl) | q
      · exact odd_ints x (List.mem_of_mem_take q)
      · exact wo
      · exact odd_ints x (List.mem_of_mem_drop q)
    have wfind : ∀ (ls : List Int), (∀ x, x ∈ ls → 0 ≤ x ∧ x ≤ 8) → ((ls.map V.int).take an ++ [W] ++ (ls.map V.int).drop (an + 1)).find? bad8 = some W := fun ls h => by
      refine find_mid (find_none fun y hy => ?_) (by show (!numB W 0 8) = true; rw [wn]; rfl)
      obtain ⟨i, hi, rfl⟩ := List.mem_map.mp (List.mem_of_mem_take hy)
      show (!decide (0 ≤ i ∧ i ≤ 8)) = false
      rw [decide_eq_true (h i hi)]
      rfl
    have s22 : Same H2 H2 := Same.refl _
    refine ⟨_, rfl, p, _, _, _, rfl, rfl, SqL.of (s22 _ _ g1), rfl, _, rfl, _, rfl, pl, _, rfl, SqL.of (s22 _ _ gd), fun x hx => ?_⟩
    refine ⟨_, rfl, bigN (by show 1 ≤ _; decide), fun y hy => ?_⟩
    refine ⟨x, y, _, _, rfl, rfl, by rw [upd_ne (ne_of_none upd_same hy)]; exact upd_same, upd_same, bigN (by have := cl ds none (some (an : Int)); show _ + 1 ≤ _; omega), fun z hz => ?_⟩
    have sz := ((Same.new (o := .lst (cutV (ds.map V.int) none (some (an : Int)))) hx).trans (Same.new (o := .lst [W]) hy)).trans (Same.new (o := .lst (cutV (ds.map V.int) none (some (an : Int)) ++ [W])) hz)
    refine ⟨_, rfl, p, _, _, _, rfl, rfl, SqL.of (sz _ _ (s22 _ _ g1)), rfl, _, rfl, _, _, rfl, rfl, _, rfl, pl, _, rfl, SqL.of (sz _ _ (s22 _ _ gd)), fun x2 hx2 => ?_⟩
    refine ⟨z, x2, _, _, rfl, rfl, by rw [upd_ne (ne_of_none upd_same hx2)]; exact upd_same, upd_same, bigN (by have := cl ds none (some (an : Int)); have := cl ds (some ((an : Int) + 1)) none; rw [List.length_append]; show _ + 1 + _ ≤ _; omega), fun B hB => ?_⟩
    have ecut : cutV (ds.map V.int) none (some (an : Int)) ++ [W] ++ cutV (ds.map V.int) (some ((an : Int) + 1)) none = (ds.map V.int).take an ++ [W] ++ (ds.map V.int).drop (an + 1) := by
      rw [cutV_pre, show ((an : Int) + 1) = ((an + 1 : Nat) : Int) by omega, cutV_suf]
    rw [ecut]
    have tB := sz.trans ((Same.new (o := .lst (cutV (ds.map V.int) (some ((an : Int) + 1)) none)) hx2).trans (Same.new (o := .lst ((ds.map V.int).take an ++ [W] ++ (ds.map V.int).drop (an + 1))) hB))
    have gB : (upd (upd (upd (upd (upd H2 x (.lst (cutV (ds.map V.int) none (some (an : Int))))) y (.lst [W])) z (.lst (cutV (ds.map V.int) none (some (an : Int)) ++ [W]))) x2 (.lst (cutV (ds.map V.int) (some ((an : Int) + 1)) none))) B (.lst ((ds.map V.int).take an ++ [W] ++ (ds.map V.int).drop (an + 1)))) B = some (.lst ((ds.map V.int).take an ++ [W] ++ (ds.map V.int).drop (an + 1))) := upd_same
    generalize (upd (upd (upd (upd (upd H2 x (.lst (cutV (ds.map V.int) none (some (an : Int))))) y (.lst [W])) z (.lst (cutV (ds.map V.int) none (some (an : Int)) ++ [W]))) x2 (.lst (cutV (ds.map V.int) (some ((an : Int) + 1)) none))) B (.lst ((ds.map V.int).take an ++ [W] ++ (ds.map V.int).drop (an + 1)))) = HB at tB gB ⊢
    have sB := s22.trans tB
    clear sz ecut hx hy hz hx2 hB
    clear x y z x2
    refine ⟨_, rfl, p, _, _, _, rfl, rfl, SqL.of (sB _ _ g1), rfl, _, rfl, _, rfl, pr, _, rfl, SqL.of (sB _ _ gr), fun x hx => ?_⟩
    refine ⟨_, rfl, bigN (by show 1 ≤ _; decide), fun y hy => ?_⟩
    refine ⟨x, y, _, _, rfl, rfl, by rw [upd_ne (ne_of_none upd_same hy)]; exact upd_same, upd_same, bigN (by have := cl rs none (some (an : Int)); show _ + 1 ≤ _; omega), fun z hz => ?_⟩
    have sz := ((Same.new (o := .lst (cutV (rs.map V.int) none (some (an : Int)))) hx).trans (Same.new (o := .lst [W]) hy)).trans (Same.new (o := .lst (cutV (rs.map V.int) none (some (an : Int)) ++ [W])) hz)
    refine ⟨_, rfl, p, _, _, _, rfl, rfl, SqL.of (sz _ _ (sB _ _ g1)), rfl, _, rfl, _, _, rfl, rfl, _, rfl, pr, _, rfl, SqL.of (sz _ _ (sB _ _ gr)), fun x2 hx2 => ?_⟩
    refine ⟨z, x2, _, _, rfl, rfl, by rw [upd_ne (ne_of_none upd_same hx2)]; exact upd_same, upd_same, bigN (by have := cl rs none (some (an : Int)); have := cl rs (some ((an : Int) + 1)) none; rw [List.length_append]; show _ + 1 + _ ≤ _; omega), fun W2 hW2 => ?_⟩
    have ecut : cutV (rs.map V.int) none (some (an : Int)) ++ [W] ++ cutV (rs.map V.int) (some ((an : Int) + 1)) none = (rs.map V.int).take an ++ [W] ++ (rs.map V.int).drop (an + 1) := by
      rw [cutV_pre, show ((an : Int) + 1) = ((an + 1 : Nat) : Int) by omega, cutV_suf]
    rw [ecut]
    have tW2 := sz.trans ((Same.new (o := .lst (cutV (rs.map V.int) (some ((an : Int) + 1)) none)) hx2).trans (Same.new (o := .lst ((rs.map V.int).take an ++ [W] ++ (rs.map V.int).drop (an + 1))) hW2))
    have gW2 : (upd (upd (upd (upd (upd HB x (.lst (cutV (rs.map V.int) none (some (an : Int))))) y (.lst [W])) z (.lst (cutV (rs.map V.int) none (some (an : Int)) ++ [W]))) x2 (.lst (cutV (rs.map V.int) (some ((an : Int) + 1)) none))) W2 (.lst ((rs.map V.int).take an ++ [W] ++ (rs.map V.int).drop (an + 1)))) W2 = some (.lst ((rs.map V.int).take an ++ [W] ++ (rs.map V.int).drop (an + 1))) := upd_same
    generalize (upd (upd (upd (upd (upd HB x (.lst (cutV (rs.map V.int) none (some (an : Int))))) y (.lst [W])) z (.lst (cutV (rs.map V.int) none (some (an : Int)) ++ [W]))) x2 (.lst (cutV (rs.map V.int) (some ((an : Int) + 1)) none))) W2 (.lst ((rs.map V.int).take an ++ [W] ++ (rs.map V.int).drop (an + 1)))) = HW2 at tW2 gW2 ⊢
    have sW2 := sB.trans tW2
    clear sz ecut hx hy hz hx2 hW2
    clear x y z x2
    have bl := wlen ds (by omega)
    have bo := wodd ds
    have bf := wfind ds v4
    have wl := wlen rs (by omega)
    have wo2 := wodd rs
    have wf := wfind rs v5
    generalize (ds.map V.int).take an ++ [W] ++ (ds.map V.int).drop (an + 1) = bad at *
    generalize (rs.map V.int).take an ++ [W] ++ (rs.map V.int).drop (an + 1) = wet at *
    have n14 := hv.n14
    have n14b : numB (.int bad.length) 1 4 = true := decide_eq_true (by omega)
    have fd := find_ints v4
    have fr := find_ints v5
    have lnd : (ds.map V.int).length ≤ 1000 := by rw [List.length_map]; omega
    have lnr : (rs.map V.int).length ≤ 1000 := by rw [List.length_map]; omega
    have eqdr : (rs.map V.int).length = (ds.map V.int).length := by rw [List.length_map, List.length_map]; exact v3
    have wd : wet.length = (ds.map V.int).length := by rw [List.length_map]; omega
    have gX := tW2 _ _ gB
    have tR : Same HW2 HW2 := Same.refl _
    refine ⟨_, rfl, _, rfl, p, _, _, _, rfl, rfl, SqL.of (sW2 _ _ g1), rfl, bigN (by show 1 ≤ _; decide), fun c1 hc1 => ⟨pr, c1, _, _, rfl, rfl, by rw [upd_ne (ne_of_none (sW2 _ _ gr) hc1)]; exact sW2 _ _ gr, upd_same, bigN (by rw [List.length_map]; show _ + 1 ≤ _; omega), fun y1 hy1 => ⟨B, y1, bad, rs.map V.int ++ [.int 0], .int 9, .int 9, rfl, .inl (SqL.of (((Same.new (o := .lst [.int 0]) hc1).trans (Same.new (o := .lst (rs.map V.int ++ [.int 0])) hy1)) _ _ gX)), .inl (SqL.of upd_same), by omega, (by rw [List.length_append, List.length_map]; show _ + 1 ≤ _; omega), bo, (fun y hy => by
      rcases List.mem_append.mp hy with q | q
      · exact odd_ints y q
      · rw [List.mem_singleton.mp q]; exact .int _), .int _, .int _, fun tag v he q1 G nq1 eq1 sq1 => ?_⟩⟩⟩
    have hsr := dR_dry (ys := rs.map V.int ++ [.int 0]) (f := .int 9) (m := .int 9) n14b bf
    rw [hsr] at he
    cases (show ((("dry" : Str), (W : V)) : Str × V) = (tag, v) from he)
    refine ⟨_, rfl, two_le, fun r1 hr1 => ?_⟩
    obtain ⟨d, e, D1, D2, S1, S2, E⟩ := pair_eq (K := K) (H := upd G r1 (.tup [.str "dry", W])) (q := q1) (r := r1) (t := "dry") (v := W) (by decide +kernel) wo wns (by rw [upd_ne (ne_of_none eq1 hr1)]; exact eq1) upd_same
    refine ⟨d, e, D1, D2, S1, S2, _, rfl, ite2 (fun y => absurd y (by rw [E]; decide)) (fun _ => ?_)⟩
    have s1 := ((sW2.trans ((Same.new (o := .lst [.int 0]) hc1).trans (Same.new (o := .lst (rs.map V.int ++ [.int 0])) hy1))).trans sq1).trans (Same.new (o := .tup [.str "dry", W]) hr1)
    have t1 := ((tR.trans ((Same.new (o := .lst [.int 0]) hc1).trans (Same.new (o := .lst (rs.map V.int ++ [.int 0])) hy1))).trans sq1).trans (Same.new (o := .tup [.str "dry", W]) hr1)
    generalize upd G r1 (.tup [.str "dry", W]) = H_1 at s1 t1 ⊢
    refine ⟨_, rfl, p, _, _, _, rfl, rfl, SqL.of (s1 _ _ g1), rfl, _, rfl, pl, W2, ds.map V.int, wet, .int 9, .int 4, rfl, .inl (SqL.of (s1 _ _ gd)), .inl (SqL.of (t1 _ _ gW2)), lnd, by omega, odd_ints, wo2, .int _, .int _, fun tag v he q1 G nq1 eq1 sq1 => ?_⟩
    have hsr := dR_rain (f := .int 9) (m := .int 4) n14 fd wd wf
    rw [hsr] at he
    cases (show ((("rain" : Str), (W : V)) : Str × V) = (tag, v) from he)
    refine ⟨_, rfl, two_le, fun r1 hr1 => ?_⟩
    obtain ⟨d, e, D1, D2, S1, S2, E⟩ := pair_eq (K := K) (H := upd G r1 (.tup [.str "rain", W])) (q := q1) (r := r1) (t := "rain") (v := W) (by decide +kernel) wo wns (by rw [upd_ne (ne_of_none eq1 hr1)]; exact eq1) upd_same
    refine ⟨d, e, D1, D2, S1, S2, _, rfl, ite2 (fun y => absurd y (by rw [E]; decide)) (fun _ => ?_)⟩
    have s2 := ((s1).trans sq1).trans (Same.new (o := .tup [.str "rain", W]) hr1)
    have t2 := ((t1).trans sq1).trans (Same.new (o := .tup [.str "rain", W]) hr1)
    generalize upd G r1 (.tup [.str "rain", W]) = H_2 at s2 t2 ⊢
    refine ⟨_, rfl, p, _, _, _, rfl, rfl, SqL.of (s2 _ _ g1), rfl, _, rfl, bigN (by show 1 ≤ _; decide), fun c1 hc1 => ⟨W2, c1, _, _, rfl, rfl, by rw [upd_ne (ne_of_none (t2 _ _ gW2) hc1)]; exact t2 _ _ gW2, upd_same, bigN (by show _ + 1 ≤ _; omega), fun y1 hy1 => ⟨pl, y1, ds.map V.int, wet ++ [.int 0], .int 9, .int 9, rfl, .inl (SqL.of (((Same.new (o := .lst [.int 0]) hc1).trans (Same.new (o := .lst (wet ++ [.int 0])) hy1)) _ _ (s2 _ _ gd))), .inl (SqL.of upd_same), lnd, (by rw [List.length_append]; show _ + 1 ≤ _; omega), odd_ints, (fun y hy => by
      rcases List.mem_append.mp hy with q | q
      · exact wo2 y q
      · rw [List.mem_singleton.mp q]; exact .int _), .int _, .int _, fun tag v he q1 G nq1 eq1 sq1 => ?_⟩⟩⟩
    have hsr := (dR_p2 (ys := wet ++ [.int 0]) (f := .int 9) (m := .int 9) n14 fd (by rw [List.length_append, wd]; simp)).trans (show some (("plots" : Str), V.int ((wet ++ [V.int 0]).length : Nat)) = some (("plots" : Str), V.int (many + 1)) by rw [List.length_append, wl]; congr 3; show ((rs.length + 1 : Nat) : Int) = _; omega)
    rw [hsr] at he
    cases (show ((("plots" : Str), (.int (many + 1) : V)) : Str × V) = (tag, v) from he)
    refine ⟨_, rfl, _, _, rfl, rfl, two_le, fun r1 hr1 => ?_⟩
    obtain ⟨d, e, D1, D2, S1, S2, E⟩ := pair_eq (K := K) (H := upd G r1 (.tup [.str "plots", .int (many + 1)])) (q := q1) (r := r1) (t := "plots") (v := .int (many + 1)) (by decide +kernel) (.int _) nofun (by rw [upd_ne (ne_of_none eq1 hr1)]; exact eq1) upd_same
    refine ⟨d, e, D1, D2, S1, S2, _, rfl, ite2 (fun y => absurd y (by rw [E]; decide)) (fun _ => ?_)⟩
    have s3 := ((s2.trans ((Same.new (o := .lst [.int 0]) hc1).trans (Same.new (o := .lst (wet ++ [.int 0])) hy1))).trans sq1).trans (Same.new (o := .tup [.str "plots", .int (many + 1)]) hr1)
    have t3 := ((t2.trans ((Same.new (o := .lst [.int 0]) hc1).trans (Same.new (o := .lst (wet ++ [.int 0])) hy1))).trans sq1).trans (Same.new (o := .tup [.str "plots", .int (many + 1)]) hr1)
    generalize upd G r1 (.tup [.str "plots", .int (many + 1)]) = H_3 at s3 t3 ⊢
    refine ⟨bigN (by show 0 ≤ _; decide), fun c1 hc1 => ⟨bigN (by show 0 ≤ _; decide), fun c2 hc2 => ⟨c1, c2, [], [], .int 9, .int 9, rfl, .inl (SqL.of (by rw [upd_ne (ne_of_none upd_same hc2)]; exact upd_same)), .inl (SqL.of upd_same), by decide, by decide, (fun x h => by cases h), (fun x h => by cases h), .int _, .int _, fun tag v he q1 G nq1 eq1 sq1 => ?_⟩⟩⟩
    have hsr := dR_p1 (xs := []) (ys := []) (f := .int 9) (m := .int 9) rfl
    rw [hsr] at he
    cases (show ((("plots" : Str), (.int 0 : V)) : Str × V) = (tag, v) from he)
    refine ⟨two_le, fun r1 hr1 => ?_⟩
    obtain ⟨d, e, D1, D2, S1, S2, E⟩ := pair_eq (K := K) (H := upd G r1 (.tup [.str "plots", .int 0])) (q := q1) (r := r1) (t := "plots") (v := .int 0) (by decide +kernel) (.int 0) nofun (by rw [upd_ne (ne_of_none eq1 hr1)]; exact eq1) upd_same
    refine ⟨d, e, D1, D2, S1, S2, _, rfl, ite2 (fun y => absurd y (by rw [E]; decide)) (fun _ => ?_)⟩
    have s4 := ((s3.trans ((Same.new (o := .lst []) hc1).trans (Same.new (o := .lst []) hc2))).trans sq1).trans (Same.new (o := .tup [.str "plots", .int 0]) hr1)
    have t4 := ((t3.trans ((Same.new (o := .lst []) hc1).trans (Same.new (o := .lst []) hc2))).trans sq1).trans (Same.new (o := .tup [.str "plots", .int 0]) hr1)
    generalize upd G r1 (.tup [.str "plots", .int 0]) = H_4 at s4 t4 ⊢
    refine ⟨bigN (by show 1 ≤ _; decide), fun z4 hz4 => ⟨z4, 5, _, rfl, rfl, upd_same, by decide, by decide, bigN (by decide), fun y4 hy4 => ⟨bigN (by show 1 ≤ _; decide), fun z5 hz5 => ⟨z5, 5, _, rfl, rfl, upd_same, by decide, by decide, bigN (by decide), fun y5 hy5 => ⟨y4, y5, [.int 1, .int 1, .int 1, .int 1, .int 1], [.int 1, .int 1, .int 1, .int 1, .int 1], .int 0, .int 0, rfl, .inl (SqL.of (by rw [upd_ne (ne_of_none (by rw [upd_ne (ne_of_none upd_same hz5)]; exact upd_same) hy5), upd_ne (ne_of_none upd_same hz5)]; exact upd_same)), .inl (SqL.of upd_same), by decide, by decide, (fun x h => by simp at h; rw [h]; exact .int 1), (fun x h => by simp at h; rw [h]; exact .int 1), .int _, .int _, fun tag v he q1 G nq1 eq1 sq1 => ?_⟩⟩⟩⟩⟩
    have hsr := dR_p1 (xs := [.int 1, .int 1, .int 1, .int 1, .int 1]) (ys := [.int 1, .int 1, .int 1, .int 1, .int 1]) (f := .int 0) (m := .int 0) rfl
    rw [hsr] at he
    cases (show ((("plots" : Str), (.int 5 : V)) : Str × V) = (tag, v) from he)
    refine ⟨two_le, fun r1 hr1 => ?_⟩
    obtain ⟨d, e, D1, D2, S1, S2, E⟩ := pair_eq (K := K) (H := upd G r1 (.tup [.str "plots", .int 5])) (q := q1) (r := r1) (t := "plots") (v := .int 5) (by decide +kernel) (.int 5) nofun (by rw [upd_ne (ne_of_none eq1 hr1)]; exact eq1) upd_same
    refine ⟨d, e, D1, D2, S1, S2, _, rfl, ite2 (fun y => absurd y (by rw [E]; decide)) (fun _ => ?_)⟩
    have s5 := ((s4.trans ((((Same.new (o := .lst [.int 1]) hz4).trans (Same.new (o := .lst [.int 1, .int 1, .int 1, .int 1, .int 1]) hy4)).trans (Same.new (o := .lst [.int 1]) hz5)).trans (Same.new (o := .lst [.int 1, .int 1, .int 1, .int 1, .int 1]) hy5))).trans sq1).trans (Same.new (o := .tup [.str "plots", .int 5]) hr1)
    have t5 := ((t4.trans ((((Same.new (o := .lst [.int 1]) hz4).trans (Same.new (o := .lst [.int 1, .int 1, .int 1, .int 1, .int 1]) hy4)).trans (Same.new (o := .lst [.int 1]) hz5)).trans (Same.new (o := .lst [.int 1, .int 1, .int 1, .int 1, .int 1]) hy5))).trans sq1).trans (Same.new (o := .tup [.str "plots", .int 5]) hr1)
    generalize upd G r1 (.tup [.str "plots", .int 5]) = H_5 at s5 t5 ⊢
    refine ⟨_, rfl, p, _, _, _, rfl, rfl, SqL.of (s5 _ _ g1), rfl, _, rfl, p, _, _, _, rfl, rfl, SqL.of (s5 _ _ g1), rfl, _, rfl, pl, pr, ds.map V.int, rs.map V.int, W, .int 4, rfl, .inl (SqL.of (s5 _ _ gd)), .inl (SqL.of (s5 _ _ gr)), lnd, lnr, odd_ints, odd_ints, wo, .int _, fun tag v he q1 G nq1 eq1 sq1 => ?_⟩
    have hsr := dR_fill (m := .int 4) n14 fd eqdr fr wn
    rw [hsr] at he
    cases (show ((("fill" : Str), (W : V)) : Str × V) = (tag, v) from he)
    refine ⟨_, rfl, two_le, fun r1 hr1 => ?_⟩
    obtain ⟨d, e, D1, D2, S1, S2, E⟩ := pair_eq (K := K) (H := upd G r1 (.tup [.str "fill", W])) (q := q1) (r := r1) (t := "fill") (v := W) (by decide +kernel) wo wns (by rw [upd_ne (ne_of_none eq1 hr1)]; exact eq1) upd_same
    refine ⟨d, e, D1, D2, S1, S2, _, rfl, ite2 (fun y => absurd y (by rw [E]; decide)) (fun _ => ?_)⟩
    have s6 := ((s5).trans sq1).trans (Same.new (o := .tup [.str "fill", W]) hr1)
    have t6 := ((t5).trans sq1).trans (Same.new (o := .tup [.str "fill", W]) hr1)
    generalize upd G r1 (.tup [.str "fill", W]) = H_6 at s6 t6 ⊢
    refine ⟨_, rfl, p, _, _, _, rfl, rfl, SqL.of (s6 _ _ g1), rfl, _, rfl, p, _, _, _, rfl, rfl, SqL.of (s6 _ _ g1), rfl, pl, pr, ds.map V.int, rs.map V.int, .int 8, .int 4, rfl, .inl (SqL.of (s6 _ _ gd)), .inl (SqL.of (s6 _ _ gr)), lnd, lnr, odd_ints, odd_ints, .int _, .int _, fun tag v he q1 G nq1 eq1 sq1 => ?_⟩
    have hsr := dR_mood (f := .int 8) (m := .int 4) n14 fd eqdr fr rfl rfl
    rw [hsr] at he
    cases (show ((("mood" : Str), (.int 4 : V)) : Str × V) = (tag, v) from he)
    refine ⟨two_le, fun r1 hr1 => ?_⟩
    obtain ⟨d, e, D1, D2, S1, S2, E⟩ := pair_eq (K := K) (H := upd G r1 (.tup [.str "mood", .int 4])) (q := q1) (r := r1) (t := "mood") (v := .int 4) (by decide +kernel) (.int 4) nofun (by rw [upd_ne (ne_of_none eq1 hr1)]; exact eq1) upd_same
    refine ⟨d, e, D1, D2, S1, S2, _, rfl, ite2 (fun y => absurd y (by rw [E]; decide)) (fun _ => ?_)⟩
    have s7 := ((s6).trans sq1).trans (Same.new (o := .tup [.str "mood", .int 4]) hr1)
    have t7 := ((t6).trans sq1).trans (Same.new (o := .tup [.str "mood", .int 4]) hr1)
    generalize upd G r1 (.tup [.str "mood", .int 4]) = H_7 at s7 t7 ⊢
    refine ⟨_, rfl, p, _, _, _, rfl, rfl, SqL.of (s7 _ _ g1), rfl, _, rfl, p, _, _, _, rfl, rfl, SqL.of (s7 _ _ g1), rfl, pl, pr, ds.map V.int, rs.map V.int, .int 0, .int 3, rfl, .inl (SqL.of (s7 _ _ gd)), .inl (SqL.of (s7 _ _ gr)), lnd, lnr, odd_ints, odd_ints, .int _, .int _, fun tag v he q1 G nq1 eq1 sq1 => ?_⟩
    have hsr := dR_ok (f := .int 0) (m := .int 3) n14 fd eqdr fr rfl rfl
    rw [hsr] at he
    cases (show ((("none" : Str), (.int 0 : V)) : Str × V) = (tag, v) from he)
    refine ⟨two_le, fun r1 hr1 => ?_⟩
    obtain ⟨d, e, D1, D2, S1, S2, E⟩ := pair_eq (K := K) (H := upd G r1 (.tup [.str "none", .int 0])) (q := q1) (r := r1) (t := "none") (v := .int 0) (by decide +kernel) (.int 0) nofun (by rw [upd_ne (ne_of_none eq1 hr1)]; exact eq1) upd_same
    refine ⟨d, e, D1, D2, S1, S2, ?_⟩
    rw [E]
    exact k _
end
end Wb

namespace Wb
open PySem PySem.Spec PyProof.Rows L2 Wx NdefX RZ StX PyProof.Rows.FinIter
section
variable {P : Program} {w : World} {K : PySem.W.Frag} {mg : Str → Option Value} {base : Heap}

theorem lay_of {d : PyData} (h : SeqAt.shaped d = true) : PyData.canLay0 d = true := by
  have h : (PyData.canLay0 d && decide (d.depth ≤ 64)) = true := h
  exact (Bool.and_eq_true_iff.mp h).1

theorem oklaw {f : Addr} {fd : FuncData} (F : Fun K "law" "law" slaw f fd) (T : Txt K mg) {C_BadNumber C_Day fi fe fl : Addr} {fdi fde fdl : FuncData} (D_Day : DatC K mg "Day" C_Day fi fe ["dry", "rain", "fill", "mood"]) (L_Day : PySem.W.findIn K (.ref C_Day) "__le__" = some (some (.ref fl)) ∧ PySem.W.isFn K (.ref fl) = true) (GDay___init__ : FnOk P w K mg base (L2.CX P w) 6 fi fdi PDay___init__ (spDay_init K C_Day C_BadNumber)) (bDay___init__ : Binds K fdi PDay___init__ []) (GDay___eq__ : FnOk P w K mg base CX0 1 fe fde PDay___eq__ (spDay_eq C_Day)) (bDay___eq__ : Binds K fde PDay___eq__ []) (GDay___le__ : FnOk P w K mg base CX0 1 fl fdl PDay___le__ (spDay_le C_Day)) (bDay___le__ : Binds K fdl PDay___le__ []) (C_law_start : Cal P w K mg base "_law_start" P_law_start 1 (sp_law_start K)) (C_law_draw : Cal P w K mg base "_law_draw" P_law_draw 1 (sp_law_draw K)) (C_law_parts : Cal P w K mg base "_law_parts" P_law_parts 2 (sp_law_parts K)) (C_law_other : Cal P w K mg base "_law_other" P_law_other 2 (sp_law_other K)) (C_law_harsher : Cal P w K mg base "_law_harsher" P_law_harsher 1 sp_law_harsher) (C_law_sums_hold : Cal P w K mg base "_law_sums_hold" P_law_sums_hold 11 (sp_law_sums_hold K C_Day)) (C_law_refusals_hold : Cal P w K mg base "_law_refusals_hold" P_law_refusals_hold 10 (sp_law_refusals_hold K)) : FnOk P w K mg base CX0 12 f fd Plaw (splaw K) := by
  obtain ⟨g_law_start, gd_law_start, G_law_start, m_law_start, k_law_start, b_law_start⟩ := C_law_start.ex
  obtain ⟨g_law_draw, gd_law_draw, G_law_draw, m_law_draw, k_law_draw, b_law_draw⟩ := C_law_draw.ex
  obtain ⟨g_law_parts, gd_law_parts, G_law_parts, m_law_parts, k_law_parts, b_law_parts⟩ := C_law_parts.ex
  obtain ⟨g_law_other, gd_law_other, G_law_other, m_law_other, k_law_other, b_law_other⟩ := C_law_other.ex
  obtain ⟨g_law_harsher, gd_law_harsher, G_law_harsher, m_law_harsher, k_law_harsher, b_law_harsher⟩ := C_law_harsher.ex
  obtain ⟨g_law_sums_hold, gd_law_sums_hold, G_law_sums_hold, m_law_sums_hold, k_law_sums_hold, b_law_sums_hold⟩ := C_law_sums_hold.ex
  obtain ⟨g_law_refusals_hold, gd_law_refusals_hold, G_law_refusals_hold, m_law_refusals_hold, k_law_refusals_hold, b_law_refusals_hold⟩ := C_law_refusals_hold.ex
  refine F.ok sclaw (fun vs H Q E h => ?_) (fun cdv A outer s H vs Q E hr h => ?_)
  · obtain ⟨a, ns, rfl, hS, hlen, k⟩ := h
    rfl
  · obtain ⟨a, ns, rfl, hS, hlen, k⟩ := h
    refine ⟨_, (pss_cons (ps_set (i := 1) sclaw.nd rfl (by first | exact Or.inl rfl | exact Or.inr rfl) (pe_call G_law_start (hr.mono (by decide)) (by rfl) m_law_start k_law_start b_law_start .nil pass0 (pa_cons (pv 0) pa_nil)))
  (pss_cons (ps_set (i := 2) sclaw.nd rfl (by first | exact Or.inl rfl | exact Or.inr rfl) (pe_op op_add pe_int (pe_call G_law_draw (hr.mono (by decide)) (by rfl) m_law_draw k_law_draw b_law_draw .nil pass0 (pa_cons (pv 0) (pa_cons (pv 1) (pa_cons pe_int pa_nil))))))
  (pss_cons (ps_set (i := 3) sclaw.nd rfl (by first | exact Or.inl rfl | exact Or.inr rfl) (pe_call G_law_parts (hr.mono (by decide)) (by rfl) m_law_parts k_law_parts b_law_parts .nil pass0 (pa_cons (pv 0) (pa_cons (pv 1) (pa_cons (pv 2) pa_nil)))))
  (pss_cons (ps_set (i := 4) sclaw.nd rfl (by first | exact Or.inl rfl | exact Or.inr rfl) (pe_call G_law_other (hr.mono (by decide)) (by rfl) m_law_other k_law_other b_law_other .nil pass0 (pa_cons (pv 0) (pa_cons (pv 1) (pa_cons (pv 3) (pa_cons (pv 2) pa_nil))))))
  (pss_cons (ps_set (i := 5) sclaw.nd rfl (by first | exact Or.inl rfl | exact Or.inr rfl) (pe_callTy (T := "list") call_list_of (by rfl) T.b_list (by decide +kernel) (pa_cons (pe_ix ix_list (pv 3) pe_int (fun _ _ => rfl)) pa_nil)))
  (pss_cons (ps_set (i := 6) sclaw.nd rfl (by first | exact Or.inl rfl | exact Or.inr rfl) (pe_callTy (T := "list") call_list_of (by rfl) T.b_list (by decide +kernel) (pa_cons (pe_ix ix_list (pv 3) pe_int (fun _ _ => rfl)) pa_nil)))
  (pss_cons (ps_set (i := 7) sclaw.nd rfl (by first | exact Or.inl rfl | exact Or.inr rfl) (pe_makeS D_Day.mkk GDay___init__ (hr.mono (by decide)) (by rfl) D_Day.g bDay___init__ (fun σ => passAt takes0 σ) (pa_cons (pv 5) (pa_cons (pv 6) (pa_cons (pe_ix ix_list (pv 3) pe_int (fun _ _ => rfl)) (pa_cons (pe_ix ix_list (pv 3) pe_int (fun _ _ => rfl)) pa_nil))))))
  (pss_cons (ps_set (i := 8) sclaw.nd rfl (by first | exact Or.inl rfl | exact Or.inr rfl) (pe_makeS D_Day.mkk GDay___init__ (hr.mono (by decide)) (by rfl) D_Day.g bDay___init__ (fun σ => passAt takes0 σ) (pa_cons (pe_callTy (T := "tuple") call_tuple_of (by rfl) T.b_tuple (by decide +kernel) (pa_cons (pe_ix ix_list (pv 4) pe_int (fun _ _ => rfl)) pa_nil)) (pa_cons (pe_callTy (T := "tuple") call_tuple_of (by rfl) T.b_tuple (by decide +kernel) (pa_cons (pe_ix ix_list (pv 4) pe_int (fun _ _ => rfl)) pa_nil)) (pa_cons (pe_ix ix_list (pv 4) pe_int (fun _ _ => rfl)) (pa_cons (pe_ix ix_list (pv 4) pe_int (fun _ _ => rfl)) pa_nil))))))
  (pss_cons (ps_if (PW.pt (pw_or (pt_cmpR (op_neD hr.units) (pv 5) (pe_ix ix_list (pv 3) pe_int (fun _ _ => rfl)) (nomark _)) (pw_or1 (pt_cmpR (op_neD hr.units) (pv 6) (pe_ix ix_list (pv 3) pe_int (fun _ _ => rfl)) (nomark _)))))
  (pss_one (ps_ret pe_bl))
  pss_nil)
  (pss_cons (ps_asg pe_int (pg_sub (pv 5) pe_int set_list))
  (pss_cons (ps_asg pe_int (pg_sub (pv 6) (pe_un un_neg pe_int) set_list))
  (pss_cons (ps_if (pt_cmpR (op_neD hr.units) (pe_tup (pa_cons (pe_fld (pv 7) rfl) (pa_cons (pe_fld (pv 7) rfl) (pa_cons (pe_fld (pv 7) rfl) (pa_cons (pe_fld (pv 7) rfl) pa_nil))))) (pe_tup (pa_cons (pe_callTy (T := "tuple") call_tuple_of (by rfl) T.b_tuple (by decide +kernel) (pa_cons (pe_ix ix_list (pv 3) pe_int (fun _ _ => rfl)) pa_nil)) (pa_cons (pe_callTy (T := "tuple") call_tuple_of (by rfl) T.b_tuple (by decide +kernel) (pa_cons (pe_ix ix_list (pv 3) pe_int (fun _ _ => rfl)) pa_nil)) (pa_cons (pe_ix ix_list (pv 3) pe_int (fun _ _ => rfl)) (pa_cons (pe_ix ix_list (pv 3) pe_int (fun _ _ => rfl)) pa_nil))))) (nomark _))
  (pss_one (ps_ret pe_bl))
  pss_nil)
  (pss_cons (ps_if (PW.pt (pw_or (pt_cmpR op_ne (pe_cmpR (op_eqI GDay___eq__ (hr.mono (by decide)) D_Day.eq D_Day.fe bDay___eq__ pass0) (pv 7) (pv 8) (nomark _)) (pe_cmpR (op_eqD hr.units) (pv 3) (pv 4) (nomark _)) (nomark _)) (pw_or1 (pt_cmpR op_ne (pe_cmpR (op_neI GDay___eq__ (hr.mono (by decide)) D_Day.ne D_Day.ob D_Day.eq D_Day.fe bDay___eq__ pass0) (pv 7) (pv 8) (nomark _)) (pe_cmpR (op_neD hr.units) (pv 3) (pv 4) (nomark _)) (nomark _)))))
  (pss_one (ps_ret pe_bl))
  pss_nil)
  (pss_cons (ps_if (PW.pt (pw_or (pt_cmpR op_ne (pe_cmpR (op_leI GDay___le__ (hr.mono (by decide)) L_Day.1 L_Day.2 bDay___le__ pass0) (pv 7) (pv 8) (nomark _)) (pe_call G_law_harsher (hr.mono (by decide)) (by rfl) m_law_harsher k_law_harsher b_law_harsher .nil pass0 (pa_cons (pv 3) (pa_cons (pv 4) pa_nil))) (nomark _)) (pw_or1 (pt_cmpR op_ne (pe_cmpR (op_leI GDay___le__ (hr.mono (by decide)) L_Day.1 L_Day.2 bDay___le__ pass0) (pv 8) (pv 7) (nomark _)) (pe_call G_law_harsher (hr.mono (by decide)) (by rfl) m_law_harsher k_law_harsher b_law_harsher .nil pass0 (pa_cons (pv 4) (pa_cons (pv 3) pa_nil))) (nomark _)))))
  (pss_one (ps_ret pe_bl))
  pss_nil)
  (pss_cons (ps_if (pt_not (pt_val (pe_call G_law_sums_hold (hr.mono (by decide)) (by rfl) m_law_sums_hold k_law_sums_hold b_law_sums_hold .nil pass0 (pa_cons (pv 0) (pa_cons (pv 1) (pa_cons (pv 7) (pa_cons (pv 3) pa_nil)))))))
  (pss_one (ps_ret pe_bl))
  pss_nil)
  (pss_one (ps_ret (pe_call G_law_refusals_hold (hr.mono (by decide)) (by rfl) m_law_refusals_hold k_law_refusals_hold b_law_refusals_hold .nil pass0 (pa_cons (pv 0) (pa_cons (pv 1) (pa_cons (pv 3) (pa_cons (pv 2) pa_nil)))))))))))))))))))))), ?_⟩
    refine ⟨_, rfl, a, ns, rfl, hS, hlen, fun s0 H1 s1 h0s sc1 => ?_⟩
    refine ⟨_, rfl, _, rfl, a, s0, 4, rfl, sc1, by decide, by decide, fun mn H2 n0 n1 f2 sc2 => ⟨_, _, rfl, rfl, ?_⟩⟩
    refine ⟨_, rfl, _, rfl, _, rfl, a, s0, 1 + mn, rfl, sc2, by omega, by omega, fun p H3 ds rs f m hp hv hl3 f3 sc3 => ?_⟩
    refine ⟨_, rfl, _, rfl, _, rfl, _, rfl, a, s0, p, ds, rs, f, m, 1 + mn, rfl, sc3, hp, hv, hl3, fun q H4 d2 r2 fl2 m2 hq hv2 f4 sc4 => ?_⟩
    have hp4 := hp.frm f4
    clear hp f4 sc3
    obtain ⟨pl, pr, e1, x1, y1, _⟩ := id hp4
    obtain ⟨ql, qr, e2, x2, y2, _⟩ := id hq
    refine ⟨_, rfl, p, _, _, _, rfl, rfl, SqL.of e1, rfl, pl, _, rfl, .inl (SqL.of x1), fun L hL => ?_⟩
    have s5 : Same H4 (upd H4 L (.lst (ds.map V.int))) := Same.new hL
    have gL : (upd H4 L (.lst (ds.map V.int))) L = some (.lst (ds.map V.int)) := upd_same
    generalize upd H4 L (.lst (ds.map V.int)) = H5 at s5 gL ⊢
    refine ⟨_, rfl, p, _, _, _, rfl, rfl, SqL.of (s5 _ _ e1), rfl, pr, _, rfl, .inl (SqL.of (s5 _ _ y1)), fun R hR => ?_⟩
    have nR4 : H4 R = none := s5.free hR
    have t6 : Same H5 (upd H5 R (.lst (rs.map V.int))) := Same.new hR
    have gR : (upd H5 R (.lst (rs.map V.int))) R = some (.lst (rs.map V.int)) := upd_same
    have nLR : L ≠ R := ne_of_none gL hR
    have gL := t6 _ _ gL
    generalize upd H5 R (.lst (rs.map V.int)) = H6 at t6 gR gL ⊢
    have s6 := s5.trans t6
    refine ⟨_, rfl, _, rfl, _, rfl, p, _, _, _, rfl, rfl, SqL.of (s6 _ _ e1), rfl, _, rfl, p, _, _, _, rfl, rfl, SqL.of (s6 _ _ e1), rfl, fun x dx nx nd _ => day_make hv (.inl (SqL.of gL)) (.inl (SqL.of gR)) nx nd fun H7 t7 st1 => ?_⟩
    have s7 := s6.trans t7
    have gL := t7 _ _ gL
    have gR := t7 _ _ gR
    refine ⟨_, rfl, q, _, _, _, rfl, rfl, SqL.of (s7 _ _ e2), rfl, ql, _, rfl, .inl ⟨SqL.of (s7 _ _ x2), fun z1 hz1 => ?_⟩⟩
    have t8 : Same H7 (upd H7 z1 (.tup (d2.map V.int))) := Same.new hz1
    have gz1 : (upd H7 z1 (.tup (d2.map V.int))) z1 = some (.tup (d2.map V.int)) := upd_same
    generalize upd H7 z1 (.tup (d2.map V.int)) = H8 at t8 gz1 ⊢
    have s8 := s7.trans t8
    refine ⟨_, rfl, q, _, _, _, rfl, rfl, SqL.of (s8 _ _ e2), rfl, qr, _, rfl, .inl ⟨SqL.of (s8 _ _ y2), fun z2 hz2 => ?_⟩⟩
    have t9 : Same H8 (upd H8 z2 (.tup (r2.map V.int))) := Same.new hz2
    have gz2 : (upd H8 z2 (.tup (r2.map V.int))) z2 = some (.tup (r2.map V.int)) := upd_same
    generalize upd H8 z2 (.tup (r2.map V.int)) = H9 at t9 gz2 ⊢
    have s9 := s8.trans t9
    refine ⟨_, rfl, q, _, _, _, rfl, rfl, SqL.of (s9 _ _ e2), rfl, _, rfl, q, _, _, _, rfl, rfl, SqL.of (s9 _ _ e2), rfl, fun y dy ny nd2 _ => day_make hv2 (.inr (SqT.of (t9 _ _ gz1))) (.inr (SqT.of gz2)) ny nd2 fun H10 t10 st2 => ?_⟩
    have t7_10 := (t8.trans t9).trans t10
    have s10 := s7.trans t7_10
    have gL := t7_10 _ _ gL
    have gR := t7_10 _ _ gR
    have st1 := st1.same t7_10
    refine ⟨_, rfl, _, rfl, p, _, _, _, rfl, rfl, SqL.of (s10 _ _ e1), rfl, _, _, dp_intsL (SqL.of gL), dp_intsL (SqL.of (s10 _ _ x1)), shaped_intsL _, shaped_intsL _, _, rfl, ?_⟩
    rw [eqv_intsL, decide_eq_true rfl]
    refine ite2 (fun y => absurd y (by simp)) (fun _ => ?_)
    refine ⟨_, rfl, _, rfl, p, _, _, _, rfl, rfl, SqL.of (s10 _ _ e1), rfl, _, _, dp_intsL (SqL.of gR), dp_intsL (SqL.of (s10 _ _ y1)), shaped_intsL _, shaped_intsL _, _, rfl, ?_⟩
    rw [eqv_intsL, decide_eq_true rfl]
    refine ite2 (fun y => absurd y (by simp)) (fun _ => ?_)
    obtain ⟨v1, v2, v3, _⟩ := id hv
    refine ⟨_, rfl, L, _, _, 0, rfl, rfl, gL, by unfold ixN; rw [if_pos (by decide), if_pos (by rw [List.length_map]; omega)]; rfl, ?_⟩
    have st1 := st1.lst gL (o := .lst ((ds.map V.int).set 0 (V.int 9)))
    have st2 := st2.lst gL (o := .lst ((ds.map V.int).set 0 (V.int 9)))
    have s11 : Same H4 (upd H10 L (.lst ((ds.map V.int).set 0 (V.int 9)))) := fun b o e => by rw [upd_ne (ne_of_none e hL)]; exact s10 _ _ e
    have gR : (upd H10 L (.lst ((ds.map V.int).set 0 (V.int 9)))) R = some (.lst (rs.map V.int)) := by rw [upd_ne nLR.symm]; exact gR
    generalize upd H10 L (.lst ((ds.map V.int).set 0 (V.int 9))) = H11 at st1 st2 s11 gR ⊢
    refine ⟨_, rfl, _, rfl, R, _, _, rs.length - 1, rfl, rfl, gR, ?_, ?_⟩
    · unfold ixN
      rw [if_neg (by decide), if_pos (by rw [List.length_map]; omega)]
      simp only [List.length_map]
      congr 1
      omega
    have st1 := st1.lst gR (o := .lst ((rs.map V.int).set (rs.length - 1) (V.int 9)))
    have st2 := st2.lst gR (o := .lst ((rs.map V.int).set (rs.length - 1) (V.int 9)))
    have s12 : Same H4 (upd H11 R (.lst ((rs.map V.int).set (rs.length - 1) (V.int 9)))) := fun b o e => by rw [upd_ne (ne_of_none e nR4)]; exact s11 _ _ e
    generalize upd H11 R (.lst ((rs.map V.int).set (rs.length - 1) (V.int 9))) = H12 at st1 st2 s12 ⊢
    have hp12 := hp4.same s12
    have hq12 := hq.same s12
    have sc12 := sc4.same s12
    clear s5 s6 s7 s8 s9 s10 s11 t6 t7 t8 t9 t10 t7_10 gL gR gz1 gz2 e1 x1 y1 e2 x2 y2
    obtain ⟨pl, pr, e1, x1, y1, _⟩ := id hp12
    obtain ⟨ql, qr, e2, x2, y2, _⟩ := id hq12
    obtain ⟨da, qa, ra, a1, a2, a3⟩ := id st1
    have no := fun f (h : f ∈ (["dry", "rain", "fill", "mood"] : List Str)) => D_Day.no f h
    refine ⟨_, rfl, x, C_Day, da, _, _, rfl, a1, D_Day.cls, no _ (by decide), rfl, _, rfl, x, C_Day, da, _, _, rfl, a1, D_Day.cls, no _ (by decide), rfl, _, rfl, x, C_Day, da, _, _, rfl, a1, D_Day.cls, no _ (by decide), rfl, _, rfl, x, C_Day, da, _, _, rfl, a1, D_Day.cls, no _ (by decide), rfl, bigN (by show 4 ≤ _; decide), fun t1 ht1 => ?_⟩
    have u1 : Same H12 (upd H12 t1 (.tup [.ref qa, .ref ra, .int f, .int m])) := Same.new ht1
    have g1 : (upd H12 t1 (.tup [.ref qa, .ref ra, .int f, .int m])) t1 = some (.tup [.ref qa, .ref ra, .int f, .int m]) := upd_same
    generalize upd H12 t1 (.tup [.ref qa, .ref ra, .int f, .int m]) = H13 at u1 g1 ⊢
    refine ⟨_, rfl, p, _, _, _, rfl, rfl, SqL.of (u1 _ _ e1), rfl, pl, _, rfl, .inl ⟨SqL.of (u1 _ _ x1), fun t2 ht2 => ?_⟩⟩
    have w2 : Same H13 (upd H13 t2 (.tup (ds.map V.int))) := Same.new ht2
    have g2 : (upd H13 t2 (.tup (ds.map V.int))) t2 = some (.tup (ds.map V.int)) := upd_same
    generalize upd H13 t2 (.tup (ds.map V.int)) = H14 at w2 g2 ⊢
    have u2 := u1.trans w2
    refine ⟨_, rfl, p, _, _, _, rfl, rfl, SqL.of (u2 _ _ e1), rfl, pr, _, rfl, .inl ⟨SqL.of (u2 _ _ y1), fun t3 ht3 => ?_⟩⟩
    have w3 : Same H14 (upd H14 t3 (.tup (rs.map V.int))) := Same.new ht3
    have g3 : (upd H14 t3 (.tup (rs.map V.int))) t3 = some (.tup (rs.map V.int)) := upd_same
    generalize upd H14 t3 (.tup (rs.map V.int)) = H15 at w3 g3 ⊢
    have u3 := u2.trans w3
    refine ⟨_, rfl, p, _, _, _, rfl, rfl, SqL.of (u3 _ _ e1), rfl, _, rfl, p, _, _, _, rfl, rfl, SqL.of (u3 _ _ e1), rfl, bigN (by show 4 ≤ _; decide), fun t4 ht4 => ?_⟩
    have w4 : Same H15 (upd H15 t4 (.tup [.ref t2, .ref t3, .int f, .int m])) := Same.new ht4
    have g4 : (upd H15 t4 (.tup [.ref t2, .ref t3, .int f, .int m])) t4 = some (.tup [.ref t2, .ref t3, .int f, .int m]) := upd_same
    generalize upd H15 t4 (.tup [.ref t2, .ref t3, .int f, .int m]) = H16 at w4 g4 ⊢
    have u4 := u3.trans w4
    have w24 := (w2.trans w3).trans w4
    refine ⟨partT ds rs f m, partT ds rs f m, .tup (SqT.of (w24 _ _ g1)) (.cons (dp_intsT (SqT.of (u4 _ _ a2))) (.cons (dp_intsT (SqT.of (u4 _ _ a3))) (.cons (.int f) (.cons (.int m) .nil)))), .tup (SqT.of g4) (.cons (dp_intsT (SqT.of ((w3.trans w4) _ _ g2))) (.cons (dp_intsT (SqT.of (w4 _ _ g3))) (.cons (.int f) (.cons (.int m) .nil)))), partT_shaped _ _ _ _, partT_shaped _ _ _ _, _, rfl, ?_⟩
    have eT : PyData.eqv (partT ds rs f m) (partT ds rs f m) = true := by
      have h := partT_shaped ds rs f m
      exact PySem.SeqAt.eqv_refl _ (lay_of h)
    rw [eT]
    refine ite2 (fun y => absurd y (by simp)) (fun _ => ?_)
    have st1 := st1.same u4
    have st2 := st2.same u4
    have hp16 := hp12.same u4
    have hq16 := hq12.same u4
    have sc16 := sc12.same u4
    obtain ⟨da, qa, ra, a1, _⟩ := id st1
    obtain ⟨db, qb, rb, b1, _⟩ := id st2
    refine ⟨_, rfl, _, rfl, x, da, _, y, db, _, rfl, rfl, a1, b1, x, y, ds, rs, d2, r2, f, m, fl2, m2, rfl, st1, st2, _, rfl, ?_⟩
    refine ⟨_, rfl, _, rfl, _, _, hp16.dp, hq16.dp, partD_shaped _ _ _ _, partD_shaped _ _ _ _, ?_⟩
    rw [partD_eqv]
    refine ⟨rfl, _, rfl, ite2 (fun y => absurd y ne_self) (fun _ => ?_)⟩
    refine ⟨_, rfl, _, rfl, x, da, _, y, db, _, rfl, rfl, a1, b1, x, y, ds, rs, d2, r2, f, m, fl2, m2, rfl, st1, st2, _, rfl, ?_⟩
    refine ⟨_, rfl, _, rfl, _, _, hp16.dp, hq16.dp, partD_shaped _ _ _ _, partD_shaped _ _ _ _, ?_⟩
    rw [partD_eqv]
    refine ⟨rfl, _, rfl, ite2 (fun y => absurd y ne_self) (fun _ => ?_)⟩
    refine ⟨_, rfl, _, rfl, x, da, _, y, db, _, rfl, rfl, a1, b1, x, y, ds, rs, d2, r2, f, m, fl2, m2, rfl, st1, st2, hv, hv2, fun H17 s17 => ⟨_, rfl, ?_⟩⟩
    refine ⟨_, rfl, _, rfl, s0, p, q, ds, rs, d2, r2, f, m, fl2, m2, rfl, hp16.same s17, hq16.same s17, hv, hv2, fun H18 s18 => ⟨rfl, _, rfl, ite2 (fun y => absurd y ne_self) (fun _ => ?_)⟩⟩
    have s19 := s17.trans s18
    refine ⟨_, rfl, _, rfl, y, db, _, x, da, _, rfl, rfl, s19 _ _ b1, s19 _ _ a1, y, x, d2, r2, ds, rs, fl2, m2, f, m, rfl, st2.same s19, st1.same s19, hv2, hv, fun H20 s20 => ⟨_, rfl, ?_⟩⟩
    have s21 := s19.trans s20
    refine ⟨_, rfl, _, rfl, s0, q, p, d2, r2, ds, rs, fl2, m2, f, m, rfl, hq16.same s21, hp16.same s21, hv2, hv, fun H22 s22 => ⟨rfl, _, rfl, ite2 (fun y => absurd y ne_self) (fun _ => ?_)⟩⟩
    have s23 := s21.trans s22
    refine ⟨_, rfl, _, rfl, _, rfl, _, rfl, a, s0, x, p, ds, rs, f, m, rfl, sc16.same s23, st1.same s23, hp16.same s23, hv, fun H24 f24 sc24 => ⟨_, rfl, ite2 (fun y => absurd y (by decide)) (fun _ => ?_)⟩⟩
    exact ⟨_, rfl, _, rfl, _, rfl, _, rfl, a, s0, p, ds, rs, f, m, 1 + mn, rfl, sc24, (hp16.same s23).frm f24, hv, hl3, k⟩
end
end Wb

namespace Wb
open PySem PySem.Spec PyProof.Rows L2 Wx NdefX RZ StX PyProof.Rows.FinIter
section
theorem all_mk {l : PySem.W.OpenLaw} {w : World} {K : PySem.W.Frag} {h : Heap} {mg : Str → Option Value} {fa : Addr}
    {oc0 kV0 dc0 pm0 cd0 ct0 : Value} {od0 an0 : Option Addr} {sl0 : Array (Option Value)} {f0 : Addr}
    {oc1 kV1 dc1 pm1 cd1 ct1 : Value} {od1 an1 : Option Addr} {sl1 : Array (Option Value)} {f1 : Addr}
    {oc2 kV2 dc2 pm2 cd2 ct2 : Value} {od2 an2 : Option Addr} {sl2 : Array (Option Value)} {f2 : Addr}
    {oc3 kV3 dc3 pm3 cd3 ct3 : Value} {od3 an3 : Option Addr} {sl3 : Array (Option Value)} {f3 : Addr}
    {oc4 kV4 dc4 pm4 cd4 ct4 : Value} {od4 an4 : Option Addr} {sl4 : Array (Option Value)} {f4 : Addr}
    {oc5 kV5 dc5 pm5 cd5 ct5 : Value} {od5 an5 : Option Addr} {sl5 : Array (Option Value)} {f5 : Addr}
    {oc6 kV6 dc6 pm6 cd6 ct6 : Value} {od6 an6 : Option Addr} {sl6 : Array (Option Value)} {f6 : Addr}
    {oc7 kV7 dc7 pm7 cd7 ct7 : Value} {od7 an7 : Option Addr} {sl7 : Array (Option Value)} {f7 : Addr}
    {oc8 kV8 dc8 pm8 cd8 ct8 : Value} {od8 an8 : Option Addr} {sl8 : Array (Option Value)} {f8 : Addr}
    {oc9 kV9 dc9 pm9 cd9 ct9 : Value} {od9 an9 : Option Addr} {sl9 : Array (Option Value)} {f9 : Addr}
    {oc10 kV10 dc10 pm10 cd10 ct10 : Value} {od10 an10 : Option Addr} {sl10 : Array (Option Value)} {f10 : Addr}
    {oc11 kV11 dc11 pm11 cd11 ct11 : Value} {od11 an11 : Option Addr} {sl11 : Array (Option Value)} {f11 : Addr}
    {oc12 kV12 dc12 pm12 cd12 ct12 : Value} {od12 an12 : Option Addr} {sl12 : Array (Option Value)} {f12 : Addr}
    {oc13 kV13 dc13 pm13 cd13 ct13 : Value} {od13 an13 : Option Addr} {sl13 : Array (Option Value)} {f13 : Addr}
    {oc14 kV14 dc14 pm14 cd14 ct14 : Value} {od14 an14 : Option Addr} {sl14 : Array (Option Value)} {f14 : Addr}
    {t_MOST_PLOTS : Tok}
    {t_MOST_UNITS : Tok}
    {t_MOST_MOODS : Tok}
    {nm_BadNumber qn_BadNumber fl_BadNumber : Str} {N_BadNumber C_BadNumber f_BadNumber cda_BadNumber cc_BadNumber : Addr} {bs_BadNumber sub_BadNumber bm_BadNumber : List Value} {sn_BadNumber : List Str} {ab_BadNumber : Bool} {col_BadNumber : Option Bool} {dd_BadNumber od_BadNumber an_BadNumber cdd_BadNumber cld_BadNumber : Option Addr} {m0_BadNumber m1_BadNumber m2_BadNumber m3_BadNumber m5_BadNumber : Option Value} {oc_BadNumber kV_BadNumber doc_BadNumber pm_BadNumber ct_BadNumber ccl_BadNumber clv_BadNumber : Value} {osl_BadNumber ccs_BadNumber csl_BadNumber : Array (Option Value)} {vs_BadNumber : Array Value} {tf_BadNumber : Tok}
    {C_Day : Addr}
    {oc_Day_init kV_Day_init dc_Day_init pm_Day_init cd_Day_init ct_Day_init : Value} {od_Day_init an_Day_init : Option Addr} {sl_Day_init : Array (Option Value)} {f_Day_init : Addr}
    {oc_Day_eq kV_Day_eq dc_Day_eq pm_Day_eq cd_Day_eq ct_Day_eq : Value} {od_Day_eq an_Day_eq : Option Addr} {sl_Day_eq : Array (Option Value)} {f_Day_eq : Addr}
    {oc_Day_le kV_Day_le dc_Day_le pm_Day_le cd_Day_le ct_Day_le : Value} {od_Day_le an_Day_le : Option Addr} {sl_Day_le : Array (Option Value)} {f_Day_le : Addr}
    {oc_Day_add kV_Day_add dc_Day_add pm_Day_add cd_Day_add ct_Day_add : Value} {od_Day_add an_Day_add : Option Addr} {sl_Day_add : Array (Option Value)} {f_Day_add : Addr}
    {foA roA : Option Value}
    (X : K.In h) (G : h.Ns mainGlobals mg) (hfa : mg "law" = some (.ref fa))
    (a0 : PySem.W.nsIn K mainGlobals "_shown" = some (some (.ref f0)))
    (l0 : K.lookup f0 = some ⟨oc0, od0, .func (PySem.W.fnOf "_shown" "_shown" (defArgs s_shown) (defBody s_shown) (defScope s_shown) .none kV0 dc0 pm0 an0 cd0 ct0), sl0⟩)
    (c0 : PySem.W.codeIn K cd0 "_shown" = true)
    (k0 : PySem.W.keepIn K (.ref f0) = true)
    (a1 : PySem.W.nsIn K mainGlobals "check_number" = some (some (.ref f1)))
    (l1 : K.lookup f1 = some ⟨oc1, od1, .func (PySem.W.fnOf "check_number" "check_number" (defArgs scheck_number) (defBody scheck_number) (defScope scheck_number) .none kV1 dc1 pm1 an1 cd1 ct1), sl1⟩)
    (c1 : PySem.W.codeIn K cd1 "check_number" = true)
    (k1 : PySem.W.keepIn K (.ref f1) = true)
    (a2 : PySem.W.nsIn K mainGlobals "check_units" = some (some (.ref f2)))
    (l2 : K.lookup f2 = some ⟨oc2, od2, .func (PySem.W.fnOf "check_units" "check_units" (defArgs scheck_units) (defBody scheck_units) (defScope scheck_units) .none kV2 dc2 pm2 an2 cd2 ct2), sl2⟩)
    (c2 : PySem.W.codeIn K cd2 "check_units" = true)
    (k2 : PySem.W.keepIn K (.ref f2) = true)
    (a3 : PySem.W.nsIn K mainGlobals "lesser" = some (some (.ref f3)))
    (l3 : K.lookup f3 = some ⟨oc3, od3, .func (PySem.W.fnOf "lesser" "lesser" (defArgs slesser) (defBody slesser) (defScope slesser) .none kV3 dc3 pm3 an3 cd3 ct3), sl3⟩)
    (c3 : PySem.W.codeIn K cd3 "lesser" = true)
    (k3 : PySem.W.keepIn K (.ref f3) = true)
    (a4 : PySem.W.nsIn K mainGlobals "_law_start" = some (some (.ref f4)))
    (l4 : K.lookup f4 = some ⟨oc4, od4, .func (PySem.W.fnOf "_law_start" "_law_start" (defArgs s_law_start) (defBody s_law_start) (defScope s_law_start) .none kV4 dc4 pm4 an4 cd4 ct4), sl4⟩)
    (c4 : PySem.W.codeIn K cd4 "_law_start" = true)
    (k4 : PySem.W.keepIn K (.ref f4) = true)
    (a5 : PySem.W.nsIn K mainGlobals "_law_draw" = some (some (.ref f5)))
    (l5 : K.lookup f5 = some ⟨oc5, od5, .func (PySem.W.fnOf "_law_draw" "_law_draw" (defArgs s_law_draw) (defBody s_law_draw) (defScope s_law_draw) .none kV5 dc5 pm5 an5 cd5 ct5), sl5⟩)
    (c5 : PySem.W.codeIn K cd5 "_law_draw" = true)
    (k5 : PySem.W.keepIn K (.ref f5) = true)
    (a6 : PySem.W.nsIn K mainGlobals "_law_refusal" = some (some (.ref f6)))
    (l6 : K.lookup f6 = some ⟨oc6, od6, .func (PySem.W.fnOf "_law_refusal" "_law_refusal" (defArgs s_law_refusal) (defBody s_law_refusal) (defScope s_law_refusal) .none kV6 dc6 pm6 an6 cd6 ct6), sl6⟩)
    (c6 : PySem.W.codeIn K cd6 "_law_refusal" = true)
    (k6 : PySem.W.keepIn K (.ref f6) = true)
    (a7 : PySem.W.nsIn K mainGlobals "_law_sum" = some (some (.ref f7)))
    (l7 : K.lookup f7 = some ⟨oc7, od7, .func (PySem.W.fnOf "_law_sum" "_law_sum" (defArgs s_law_sum) (defBody s_law_sum) (defScope s_law_sum) .none kV7 dc7 pm7 an7 cd7 ct7), sl7⟩)
    (c7 : PySem.W.codeIn K cd7 "_law_sum" = true)
    (k7 : PySem.W.keepIn K (.ref f7) = true)
    (a8 : PySem.W.nsIn K mainGlobals "_law_harsher" = some (some (.ref f8)))
    (l8 : K.lookup f8 = some ⟨oc8, od8, .func (PySem.W.fnOf "_law_harsher" "_law_harsher" (defArgs s_law_harsher) (defBody s_law_harsher) (defScope s_law_harsher) .none kV8 dc8 pm8 an8 cd8 ct8), sl8⟩)
    (c8 : PySem.W.codeIn K cd8 "_law_harsher" = true)
    (k8 : PySem.W.keepIn K (.ref f8) = true)
    (a9 : PySem.W.nsIn K mainGlobals "_law_near" = some (some (.ref f9)))
    (l9 : K.lookup f9 = some ⟨oc9, od9, .func (PySem.W.fnOf "_law_near" "_law_near" (defArgs s_law_near) (defBody s_law_near) (defScope s_law_near) .none kV9 dc9 pm9 an9 cd9 ct9), sl9⟩)
    (c9 : PySem.W.codeIn K cd9 "_law_near" = true)
    (k9 : PySem.W.keepIn K (.ref f9) = true)
    (a10 : PySem.W.nsIn K mainGlobals "_law_parts" = some (some (.ref f10)))
    (l10 : K.lookup f10 = some ⟨oc10, od10, .func (PySem.W.fnOf "_law_parts" "_law_parts" (defArgs s_law_parts) (defBody s_law_parts) (defScope s_law_parts) .none kV10 dc10 pm10 an10 cd10 ct10), sl10⟩)
    (c10 : PySem.W.codeIn K cd10 "_law_parts" = true)
    (k10 : PySem.W.keepIn K (.ref f10) = true)
    (a11 : PySem.W.nsIn K mainGlobals "_law_other" = some (some (.ref f11)))
    (l11 : K.lookup f11 = some ⟨oc11, od11, .func (PySem.W.fnOf "_law_other" "_law_other" (defArgs s_law_other) (defBody s_law_other) (defScope s_law_other) .none kV11 dc11 pm11 an11 cd11 ct11), sl11⟩)
    (c11 : PySem.W.codeIn K cd11 "_law_other" = true)
    (k11 : PySem.W.keepIn K (.ref f11) = true)
    (a12 : PySem.W.nsIn K mainGlobals "_law_sums_hold" = some (some (.ref f12)))
    (l12 : K.lookup f12 = some ⟨oc12, od12, .func (PySem.W.fnOf "_law_sums_hold" "_law_sums_hold" (defArgs s_law_sums_hold) (defBody s_law_sums_hold) (defScope s_law_sums_hold) .none kV12 dc12 pm12 an12 cd12 ct12), sl12⟩)
    (c12 : PySem.W.codeIn K cd12 "_law_sums_hold" = true)
    (k12 : PySem.W.keepIn K (.ref f12) = true)
    (a13 : PySem.W.nsIn K mainGlobals "_law_refusals_hold" = some (some (.ref f13)))
    (l13 : K.lookup f13 = some ⟨oc13, od13, .func (PySem.W.fnOf "_law_refusals_hold" "_law_refusals_hold" (defArgs s_law_refusals_hold) (defBody s_law_refusals_hold) (defScope s_law_refusals_hold) .none kV13 dc13 pm13 an13 cd13 ct13), sl13⟩)
    (c13 : PySem.W.codeIn K cd13 "_law_refusals_hold" = true)
    (k13 : PySem.W.keepIn K (.ref f13) = true)
    (a14 : PySem.W.nsIn K mainGlobals "law" = some (some (.ref f14)))
    (l14 : K.lookup f14 = some ⟨oc14, od14, .func (PySem.W.fnOf "law" "law" (defArgs slaw) (defBody slaw) (defScope slaw) .none kV14 dc14 pm14 an14 cd14 ct14), sl14⟩)
    (c14 : PySem.W.codeIn K cd14 "law" = true)
    (k14 : PySem.W.keepIn K (.ref f14) = true)
    (z_len : PySem.W.nsIn K mainGlobals "len" = some none)
    (z_abs : PySem.W.nsIn K mainGlobals "abs" = some none)
    (z_int : PySem.W.nsIn K mainGlobals "int" = some none)
    (z_bool : PySem.W.nsIn K mainGlobals "bool" = some none)
    (z_str : PySem.W.nsIn K mainGlobals "str" = some none)
    (z_range : PySem.W.nsIn K mainGlobals "range" = some none)
    (z_all : PySem.W.nsIn K mainGlobals "all" = some none)
    (z_isinstance : PySem.W.nsIn K mainGlobals "isinstance" = some none)
    (z_repr : PySem.W.nsIn K mainGlobals "repr" = some none)
    (z_super : PySem.W.nsIn K mainGlobals "super" = some none)
    (z_tuple : PySem.W.nsIn K mainGlobals "tuple" = some none)
    (z_list : PySem.W.nsIn K mainGlobals "list" = some none)
    (z_zip : PySem.W.nsIn K mainGlobals "zip" = some none)
    (z_enumerate : PySem.W.nsIn K mainGlobals "enumerate" = some none)
    (z_max : PySem.W.nsIn K mainGlobals "max" = some none)
    (z_min : PySem.W.nsIn K mainGlobals "min" = some none)
    (g_MOST_PLOTS : PySem.W.nsIn K mainGlobals "MOST_PLOTS" = some (some (.int 4 t_MOST_PLOTS)))
    (g_MOST_UNITS : PySem.W.nsIn K mainGlobals "MOST_UNITS" = some (some (.int 8 t_MOST_UNITS)))
    (g_MOST_MOODS : PySem.W.nsIn K mainGlobals "MOST_MOODS" = some (some (.int 4 t_MOST_MOODS)))
    (g_BadNumber : PySem.W.nsIn K mainGlobals "BadNumber" = some (some (.ref C_BadNumber)))
    (x_BadNumber : K.lookup C_BadNumber = some (excClassObj nm_BadNumber qn_BadNumber C_BadNumber N_BadNumber bs_BadNumber bm_BadNumber true sn_BadNumber sub_BadNumber ab_BadNumber col_BadNumber dd_BadNumber m0_BadNumber m1_BadNumber m2_BadNumber m3_BadNumber m5_BadNumber "ValueError.__new__"))
    (r_BadNumber : PySem.HandSPX.refsVE bm_BadNumber = true)
    (sa_BadNumber : PySem.W.findIn K (.ref C_BadNumber) "__setattr__" = some (some (.builtin "object.__setattr__")))
    (ex_BadNumber : PySem.W.subIn K (.ref C_BadNumber) (.type "BaseException") = some true)
    (ty_BadNumber : PySem.W.typeIn K (.ref C_BadNumber) = some (.type "type"))
    (kp_BadNumber : PySem.W.keepIn K (.ref C_BadNumber) = true)
    (i_BadNumber : PySem.W.findIn K (.ref C_BadNumber) "__init__" = some (some (.ref f_BadNumber)))
    (l_BadNumber : K.lookup f_BadNumber = some ⟨oc_BadNumber, od_BadNumber, .func (PySem.W.fnX "__init__" "BadNumber.__init__" (defArgs sBadNumber___init__) (defBody sBadNumber___init__) (defScope sBadNumber___init__) [("__class__", cc_BadNumber)] .none kV_BadNumber doc_BadNumber pm_BadNumber an_BadNumber (.ref cda_BadNumber) ct_BadNumber), osl_BadNumber⟩)
    (cd_BadNumber : PySem.W.codeIn K (.ref cda_BadNumber) "BadNumber.__init__" = true)
    (cf_BadNumber : K.lookup cda_BadNumber = some ⟨ccl_BadNumber, cdd_BadNumber, .fields vs_BadNumber, ccs_BadNumber⟩)
    (v2_BadNumber : vs_BadNumber[2]? = some (.str fl_BadNumber tf_BadNumber))
    (fi_BadNumber : ((l.prog.main.file : Str) == fl_BadNumber) = true)
    (cl_BadNumber : K.lookup cc_BadNumber = some ⟨clv_BadNumber, cld_BadNumber, .cell (some (.ref C_BadNumber)), csl_BadNumber⟩)
    (mr_BadNumber : PySem.W.mroIn K C_BadNumber (.ref C_BadNumber) = some true)
    (sb_BadNumber : PySem.W.subIn K (.ref C_BadNumber) (.type "ValueError") = some true)
    (su_BadNumber : PySem.W.ks_superIn K C_BadNumber C_BadNumber "__init__" = some (some (.builtin "ValueError.__init__")))
    (ti_BadNumber : PySem.W.typeIn K (.ref f_BadNumber) = some (.type "function"))
    (ga_BadNumber : PySem.W.findIn K (.ref C_BadNumber) "__getattribute__" = some (some (.builtin "BaseException.__getattribute__")))
    (gg_BadNumber : PySem.W.findIn K (.ref C_BadNumber) "__getattr__" = some none)
    (hd_BadNumber : PySem.W.hasDictIn K C_BadNumber = true)
    (ha_BadNumber : PySem.W.findIn K (.ref C_BadNumber) "__class__" = some (some (.builtin "object.__class__")))
    (mo_BadNumber : PySem.W.mroIn K C_BadNumber (.type "object") = some true)
    (em_BadNumber : PySem.W.subIn K (.ref C_BadNumber) (.ref C_BadNumber) = some true)
    (nw_BadNumber : PySem.W.findIn K (.ref C_BadNumber) "what" = some none)
    (nv_BadNumber : PySem.W.findIn K (.ref C_BadNumber) "value" = some none)
    (nn_BadNumber : PySem.W.findIn K (.ref C_BadNumber) "name" = some none)
    (nt_BadNumber : PySem.W.findIn K (.ref C_BadNumber) "turn" = some none)
    (opq : PySem.W.nsIn K cStatics "thirdparty.any" = some none)
    (htop : (l.prog.main.scope.names.lookup ("super" : Str)).isSome = false)
    (spc : PySem.W.specialIn K (.builtin "object.__class__") "__get__" = some (some (.builtin "getset_descriptor.__get__")))
    (tks : PySem.W.takesIn K (.builtin "object.__class__") = some true)
    (g_Day : PySem.W.nsIn K mainGlobals "Day" = some (some (.ref C_Day)))
    (mk_Day : PySem.W.makesIn K C_Day = true)
    (kp_Day : PySem.W.keepIn K (.ref C_Day) = true)
    (pg_Day : PySem.W.plainGet K C_Day Str.empty = true)
    (hd_Day : PySem.W.hasDictIn K C_Day = true)
    (po_Day : PySem.W.plainOver K C_Day = true)
    (sa_Day : PySem.W.findIn K (.ref C_Day) "__setattr__" = some (some (.builtin "object.__setattr__")))
    (ne_Day : PySem.W.findIn K (.ref C_Day) "__ne__" = some (some (.builtin "object.__ne__")))
    (ob_Day : PySem.W.subIn K (.ref C_Day) (.type "object") = some true)
    (ha_Day : PySem.W.findIn K (.ref C_Day) "__class__" = some (some (.builtin "object.__class__")))
    (hm_Day : PySem.W.mroIn K C_Day (.type "object") = some true)
    (kk_Day : PySem.W.kitOne K (.ref C_Day) (.ref C_Day) = some true)
    (no_Day_dry : PySem.W.findIn K (.ref C_Day) "dry" = some none)
    (no_Day_rain : PySem.W.findIn K (.ref C_Day) "rain" = some none)
    (no_Day_fill : PySem.W.findIn K (.ref C_Day) "fill" = some none)
    (no_Day_mood : PySem.W.findIn K (.ref C_Day) "mood" = some none)
    (i_Day_init : PySem.W.findIn K (.ref C_Day) "__init__" = some (some (.ref f_Day_init)))
    (fn_Day_init : PySem.W.isFn K (.ref f_Day_init) = true)
    (l_Day_init : K.lookup f_Day_init = some ⟨oc_Day_init, od_Day_init, .func (PySem.W.fnOf "__init__" "Day.__init__" (defArgs sDay___init__) (defBody sDay___init__) (defScope sDay___init__) .none kV_Day_init dc_Day_init pm_Day_init an_Day_init cd_Day_init ct_Day_init), sl_Day_init⟩)
    (c_Day_init : PySem.W.codeIn K cd_Day_init "Day.__init__" = true)
    (k_Day_init : PySem.W.keepIn K (.ref f_Day_init) = true)
    (i_Day_eq : PySem.W.findIn K (.ref C_Day) "__eq__" = some (some (.ref f_Day_eq)))
    (fn_Day_eq : PySem.W.isFn K (.ref f_Day_eq) = true)
    (l_Day_eq : K.lookup f_Day_eq = some ⟨oc_Day_eq, od_Day_eq, .func (PySem.W.fnOf "__eq__" "Day.__eq__" (defArgs sDay___eq__) (defBody sDay___eq__) (defScope sDay___eq__) .none kV_Day_eq dc_Day_eq pm_Day_eq an_Day_eq cd_Day_eq ct_Day_eq), sl_Day_eq⟩)
    (c_Day_eq : PySem.W.codeIn K cd_Day_eq "Day.__eq__" = true)
    (k_Day_eq : PySem.W.keepIn K (.ref f_Day_eq) = true)
    (i_Day_le : PySem.W.findIn K (.ref C_Day) "__le__" = some (some (.ref f_Day_le)))
    (fn_Day_le : PySem.W.isFn K (.ref f_Day_le) = true)
    (l_Day_le : K.lookup f_Day_le = some ⟨oc_Day_le, od_Day_le, .func (PySem.W.fnOf "__le__" "Day.__le__" (defArgs sDay___le__) (defBody sDay___le__) (defScope sDay___le__) .none kV_Day_le dc_Day_le pm_Day_le an_Day_le cd_Day_le ct_Day_le), sl_Day_le⟩)
    (c_Day_le : PySem.W.codeIn K cd_Day_le "Day.__le__" = true)
    (k_Day_le : PySem.W.keepIn K (.ref f_Day_le) = true)
    (i_Day_add : PySem.W.findIn K (.ref C_Day) "__add__" = some (some (.ref f_Day_add)))
    (fn_Day_add : PySem.W.isFn K (.ref f_Day_add) = true)
    (l_Day_add : K.lookup f_Day_add = some ⟨oc_Day_add, od_Day_add, .func (PySem.W.fnOf "__add__" "Day.__add__" (defArgs sDay___add__) (defBody sDay___add__) (defScope sDay___add__) .none kV_Day_add dc_Day_add pm_Day_add an_Day_add cd_Day_add ct_Day_add), sl_Day_add⟩)
    (c_Day_add : PySem.W.codeIn K cd_Day_add "Day.__add__" = true)
    (k_Day_add : PySem.W.keepIn K (.ref f_Day_add) = true)
    (sf_Day : PySem.W.selfFirst K C_Day = true)
    (ra_Day : PySem.W.findIn K (.ref C_Day) "__radd__" = some none)
    (ia_Day : PySem.W.findIn K (.type "int") "__add__" = some foA)
    (ib_Day : PySem.W.findIn K (.type "int") "__radd__" = some roA)
    (is_Day : PySem.W.subIn K (.type "int") (.ref C_Day) = some false) :
    ∃ fd : FuncData, (∀ (s : Shared) (v : Value), BindsTo s fd ⟨[v], []⟩ [("script", v)]) ∧ ∀ base : Heap, K.In base → base.Ns mainGlobals mg → FnOk l.prog w K mg base CX0 12 fa fd ["script"] (splaw K) := by
  have e := hfa.symm.trans (PySem.W.mg_of X G a14)
  cases e
  have T : Txt K mg := ⟨PySem.W.mg_none_of X G z_len, PySem.W.mg_none_of X G z_abs, PySem.W.mg_none_of X G z_int, PySem.W.mg_none_of X G z_bool, PySem.W.mg_none_of X G z_str, PySem.W.mg_none_of X G z_range, PySem.W.mg_none_of X G z_all, PySem.W.mg_none_of X G z_isinstance, PySem.W.mg_none_of X G z_repr, PySem.W.mg_none_of X G z_super, PySem.W.mg_none_of X G z_tuple, PySem.W.mg_none_of X G z_list, PySem.W.mg_none_of X G z_zip, PySem.W.mg_none_of X G z_enumerate, PySem.W.mg_none_of X G z_max, PySem.W.mg_none_of X G z_min, ⟨_, PySem.W.mg_of X G g_MOST_PLOTS⟩, ⟨_, PySem.W.mg_of X G g_MOST_UNITS⟩, ⟨_, PySem.W.mg_of X G g_MOST_MOODS⟩⟩
  have E_BadNumber : ErrC l.prog K mg "BadNumber" "BadNumber.__init__" C_BadNumber f_BadNumber cda_BadNumber cc_BadNumber := ⟨PySem.W.mg_of X G g_BadNumber, ⟨⟨⟨_, _, _, _, _, _, _, _, _, _, _, _, _, _, _, x_BadNumber, r_BadNumber⟩, sa_BadNumber, ex_BadNumber, ty_BadNumber, kp_BadNumber⟩, cd_BadNumber, ⟨_, _, _, _, _, _, cf_BadNumber, v2_BadNumber, fi_BadNumber⟩, ⟨_, _, _, cl_BadNumber⟩, T.b_super, htop, mr_BadNumber, sb_BadNumber, su_BadNumber, opq⟩, i_BadNumber, ti_BadNumber, ⟨ga_BadNumber, gg_BadNumber, ex_BadNumber, hd_BadNumber⟩, ⟨ga_BadNumber, gg_BadNumber, ex_BadNumber, hd_BadNumber, ha_BadNumber, spc, tks, mo_BadNumber⟩, PySem.W.exm_ref ex_BadNumber hd_BadNumber ty_BadNumber em_BadNumber, nw_BadNumber, nv_BadNumber, nn_BadNumber, nt_BadNumber⟩
  have F_Day_init := fun_mk (st := sDay___init__) l_Day_init c_Day_init k_Day_init
  have b_Day_init := F_Day_init.binds (ps := PDay___init__) fun _ _ _ _ _ _ us hl => match us, hl with | [_, _, _, _, _], _ => rfl
  have F_Day_eq := fun_mk (st := sDay___eq__) l_Day_eq c_Day_eq k_Day_eq
  have b_Day_eq := F_Day_eq.binds (ps := PDay___eq__) fun _ _ _ _ _ _ us hl => match us, hl with | [_, _], _ => rfl
  have F_Day_le := fun_mk (st := sDay___le__) l_Day_le c_Day_le k_Day_le
  have b_Day_le := F_Day_le.binds (ps := PDay___le__) fun _ _ _ _ _ _ us hl => match us, hl with | [_, _], _ => rfl
  have F_Day_add := fun_mk (st := sDay___add__) l_Day_add c_Day_add k_Day_add
  have b_Day_add := F_Day_add.binds (ps := PDay___add__) fun _ _ _ _ _ _ us hl => match us, hl with | [_, _], _ => rfl
  have D_Day : DatC K mg "Day" C_Day f_Day_init f_Day_eq ["dry", "rain", "fill", "mood"] := ⟨PySem.W.mg_of X G g_Day, ⟨mk_Day, i_Day_init, fn_Day_init, kp_Day⟩, ⟨pg_Day, hd_Day, po_Day, sa_Day⟩, (fun f hf => by
    simp only [List.mem_cons, List.not_mem_nil, or_false] at hf
    rcases hf with rfl | rfl | rfl | rfl
    · exact no_Day_dry
    · exact no_Day_rain
    · exact no_Day_fill
    · exact no_Day_mood), i_Day_eq, fn_Day_eq, ne_Day, ob_Day, ha_Day, spc, tks, hm_Day, kk_Day⟩
  have O_Day___add__ : OpC K C_Day f_Day_add "__add__" "__radd__" := ⟨sf_Day, i_Day_add, fn_Day_add, ⟨none, ra_Day, .inl rfl⟩, ⟨_, ia_Day⟩, ⟨_, ib_Day⟩, is_Day⟩
  have F0 := fun_mk (st := s_shown) l0 c0 k0
  have b0 := F0.binds (ps := P_shown) fun _ _ _ _ _ _ us hl => match us, hl with | [_], _ => rfl
  have F1 := fun_mk (st := scheck_number) l1 c1 k1
  have b1 := F1.binds (ps := Pcheck_number) fun _ _ _ _ _ _ us hl => match us, hl with | [_, _, _, _], _ => rfl
  have F2 := fun_mk (st := scheck_units) l2 c2 k2
  have b2 := F2.binds (ps := Pcheck_units) fun _ _ _ _ _ _ us hl => match us, hl with | [_, _], _ => rfl
  have F3 := fun_mk (st := slesser) l3 c3 k3
  have b3 := F3.binds (ps := Plesser) fun _ _ _ _ _ _ us hl => match us, hl with | [_, _], _ => rfl
  have F4 := fun_mk (st := s_law_start) l4 c4 k4
  have b4 := F4.binds (ps := P_law_start) fun _ _ _ _ _ _ us hl => match us, hl with | [_], _ => rfl
  have F5 := fun_mk (st := s_law_draw) l5 c5 k5
  have b5 := F5.binds (ps := P_law_draw) fun _ _ _ _ _ _ us hl => match us, hl with | [_, _, _], _ => rfl
  have F6 := fun_mk (st := s_law_refusal) l6 c6 k6
  have b6 := F6.binds (ps := P_law_refusal) fun _ _ _ _ _ _ us hl => match us, hl with | [_, _, _, _], _ => rfl
  have F7 := fun_mk (st := s_law_sum) l7 c7 k7
  have b7 := F7.binds (ps := P_law_sum) fun _ _ _ _ _ _ us hl => match us, hl with | [_, _], _ => rfl
  have F8 := fun_mk (st := s_law_harsher) l8 c8 k8
  have b8 := F8.binds (ps := P_law_harsher) fun _ _ _ _ _ _ us hl => match us, hl with | [_, _], _ => rfl
  have F9 := fun_mk (st := s_law_near) l9 c9 k9
  have b9 := F9.binds (ps := P_law_near) fun _ _ _ _ _ _ us hl => match us, hl with | [_, _], _ => rfl
  have F10 := fun_mk (st := s_law_parts) l10 c10 k10
  have b10 := F10.binds (ps := P_law_parts) fun _ _ _ _ _ _ us hl => match us, hl with | [_, _, _], _ => rfl
  have F11 := fun_mk (st := s_law_other) l11 c11 k11
  have b11 := F11.binds (ps := P_law_other) fun _ _ _ _ _ _ us hl => match us, hl with | [_, _, _, _], _ => rfl
  have F12 := fun_mk (st := s_law_sums_hold) l12 c12 k12
  have b12 := F12.binds (ps := P_law_sums_hold) fun _ _ _ _ _ _ us hl => match us, hl with | [_, _, _, _], _ => rfl
  have F13 := fun_mk (st := s_law_refusals_hold) l13 c13 k13
  have b13 := F13.binds (ps := P_law_refusals_hold) fun _ _ _ _ _ _ us hl => match us, hl with | [_, _, _, _], _ => rfl
  have F14 := fun_mk (st := slaw) l14 c14 k14
  have bI_BadNumber : Binds K (PySem.W.fnX "__init__" "BadNumber.__init__" (defArgs sBadNumber___init__) (defBody sBadNumber___init__) (defScope sBadNumber___init__) [("__class__", cc_BadNumber)] .none kV_BadNumber doc_BadNumber pm_BadNumber an_BadNumber (.ref cda_BadNumber) ct_BadNumber) PBadNumber___init__ [] := .all fun us hl => match us, hl with | [_, _, _], _ => rfl
  refine ⟨PySem.W.fnOf "law" "law" (defArgs slaw) (defBody slaw) (defScope slaw) .none kV14 dc14 pm14 an14 cd14 ct14, fun s v => .of_eq rfl, fun base _ _ => ?_⟩
  have C_shown := Cal.mk (ok_shown (P := l.prog) (w := w) (base := base) F0 T) (PySem.W.mg_of X G a0) k0 b0
  have G_BadNumber := okBadNumber___init__ (P := l.prog) (w := w) (base := base) l_BadNumber E_BadNumber T C_shown
  have Gcheck_number := okcheck_number (P := l.prog) (w := w) (base := base) F1 T E_BadNumber G_BadNumber bI_BadNumber
  have Gcheck_units := okcheck_units (P := l.prog) (w := w) (base := base) F2 T (C_BadNumber := C_BadNumber) ⟨_, _, Gcheck_number, PySem.W.mg_of X G a1, k1, b1⟩
  have C_lesser := Cal.mk (oklesser (P := l.prog) (w := w) (base := base) F3 T) (PySem.W.mg_of X G a3) k3 b3
  have GDay___init__ := okDay___init__ (P := l.prog) (w := w) (base := base) F_Day_init T (C_BadNumber := C_BadNumber) D_Day ⟨_, _, Gcheck_number, PySem.W.mg_of X G a1, k1, b1⟩ ⟨_, _, Gcheck_units, PySem.W.mg_of X G a2, k2, b2⟩
  have GDay___eq__ := okDay___eq__ (P := l.prog) (w := w) (base := base) F_Day_eq T (C_BadNumber := C_BadNumber) D_Day
  have GDay___le__ := okDay___le__ (P := l.prog) (w := w) (base := base) F_Day_le T (C_BadNumber := C_BadNumber) D_Day
  have GDay___add__ := okDay___add__ (P := l.prog) (w := w) (base := base) F_Day_add T (C_BadNumber := C_BadNumber) D_Day C_lesser ⟨_, _, Gcheck_number, PySem.W.mg_of X G a1, k1, b1⟩ GDay___init__ b_Day_init
  have C_law_start := Cal.mk (ok_law_start (P := l.prog) (w := w) (base := base) F4 T) (PySem.W.mg_of X G a4) k4 b4
  have C_law_draw := Cal.mk (ok_law_draw (P := l.prog) (w := w) (base := base) F5 T) (PySem.W.mg_of X G a5) k5 b5
  have C_law_harsher := Cal.mk (ok_law_harsher (P := l.prog) (w := w) (base := base) F8 T) (PySem.W.mg_of X G a8) k8 b8
  have C_law_near := Cal.mk (ok_law_near (P := l.prog) (w := w) (base := base) F9 T) (PySem.W.mg_of X G a9) k9 b9
  have C_law_refusal := Cal.mk (ok_law_refusal (P := l.prog) (w := w) (base := base) F6 T E_BadNumber G_BadNumber bI_BadNumber D_Day GDay___init__ b_Day_init) (PySem.W.mg_of X G a6) k6 b6
  have C_law_sum := Cal.mk (ok_law_sum (P := l.prog) (w := w) (base := base) F7 T E_BadNumber G_BadNumber bI_BadNumber O_Day___add__ GDay___add__ b_Day_add) (PySem.W.mg_of X G a7) k7 b7
  have C_law_parts := Cal.mk (ok_law_parts (P := l.prog) (w := w) (base := base) F10 T C_law_draw) (PySem.W.mg_of X G a10) k10 b10
  have C_law_other := Cal.mk (ok_law_other (P := l.prog) (w := w) (base := base) F11 T C_law_draw C_law_near) (PySem.W.mg_of X G a11) k11 b11
  have C_law_sums_hold := Cal.mk (ok_law_sums_hold (P := l.prog) (w := w) (base := base) F12 T D_Day GDay___init__ b_Day_init GDay___eq__ b_Day_eq C_law_draw C_law_sum) (PySem.W.mg_of X G a12) k12 b12
  have C_law_refusals_hold := Cal.mk (ok_law_refusals_hold (P := l.prog) (w := w) (base := base) F13 T C_law_draw C_law_refusal) (PySem.W.mg_of X G a13) k13 b13
  exact oklaw (P := l.prog) (w := w) (base := base) F14 T D_Day ⟨i_Day_le, fn_Day_le⟩ GDay___init__ b_Day_init GDay___eq__ b_Day_eq GDay___le__ b_Day_le C_law_start C_law_draw C_law_parts C_law_other C_law_harsher C_law_sums_hold C_law_refusals_hold
theorem walk {l : PySem.W.OpenLaw} {q : Program} {loose : List Str} {XP : (Str → Option Value) → Heap → Prop} {YP : World → Heap → Prop} {d : DefRec} {K : Params → PySem.W.Frag} (hn : l.most = some 63) (hdf : d.params.defaults = [])
    (hY : ∀ (w : World) (h : Heap), YP w h → (K w.params).In h)
    (F : ∀ (w : World) (mg : Str → Option Value) (fa : Addr) (h : Heap), (K w.params).In h → h.Ns mainGlobals mg → mg d.name = some (.ref fa) →
      ∃ fd : FuncData, (∀ (s : Shared) (u : Value), BindsTo s fd ⟨[u], []⟩ [("script", u)]) ∧ ∀ base : Heap, (K w.params).In base → base.Ns mainGlobals mg → FnOk l.prog w (K w.params) mg base CX0 12 fa fd ["script"] (splaw (K w.params))) :
    PySem.W.WalkO q loose XP YP l.row.toRowW d [] (fun f vs => PySem.call f vs) :=
  L2.walk_of (n := 63) (k := 12) (x := "script") (CX := fun _ => CX0) (sp := fun w => splaw (K w.params)) hn (by decide) hdf ⟨rfl, by decide, by decide⟩ hY F (fun _ _ a ns hl _ hS => ⟨a, ns, rfl, hS, hl, fun _ => rfl⟩) fun _ _ _ _ _ z => z
end
end Wb
open PySem PySem.W PyProof.Rows in
set_option maxRecDepth 100000 in
set_option maxHeartbeats 0 in
theorem PySem.Challenge.cw_waterbyturns_k09_days_holds : PySem.Challenge.rw_waterbyturns_k09_days.Holds := by
  w_on; o_law; k_head; (case hw => w_witness2)
  k_fill
  refine Wb.walk (l := PySem.Challenge.rw_waterbyturns_k09_days) rfl rfl (fun w h Y => PySem.W.kIn_of Y) ?F
  case F =>
    intro w mg fa h KX G hmg
    refine' Wb.all_mk KX G hmg ?a0 ?l0 ?c0 ?k0 ?a1 ?l1 ?c1 ?k1 ?a2 ?l2 ?c2 ?k2 ?a3 ?l3 ?c3 ?k3 ?a4 ?l4 ?c4 ?k4 ?a5 ?l5 ?c5 ?k5 ?a6 ?l6 ?c6 ?k6 ?a7 ?l7 ?c7 ?k7 ?a8 ?l8 ?c8 ?k8 ?a9 ?l9 ?c9 ?k9 ?a10 ?l10 ?c10 ?k10 ?a11 ?l11 ?c11 ?k11 ?a12 ?l12 ?c12 ?k12 ?a13 ?l13 ?c13 ?k13 ?a14 ?l14 ?c14 ?k14 ?z_len ?z_abs ?z_int ?z_bool ?z_str ?z_range ?z_all ?z_isinstance ?z_repr ?z_super ?z_tuple ?z_list ?z_zip ?z_enumerate ?z_max ?z_min ?g_MOST_PLOTS ?g_MOST_UNITS ?g_MOST_MOODS ?g_BadNumber ?x_BadNumber ?r_BadNumber ?sa_BadNumber ?ex_BadNumber ?ty_BadNumber ?kp_BadNumber ?i_BadNumber ?l_BadNumber ?cd_BadNumber ?cf_BadNumber ?v2_BadNumber ?fi_BadNumber ?cl_BadNumber ?mr_BadNumber ?sb_BadNumber ?su_BadNumber ?ti_BadNumber ?ga_BadNumber ?gg_BadNumber ?hd_BadNumber ?ha_BadNumber ?mo_BadNumber ?em_BadNumber ?nw_BadNumber ?nv_BadNumber ?nn_BadNumber ?nt_BadNumber ?opq ?htop ?spc ?tks ?g_Day ?mk_Day ?kp_Day ?pg_Day ?hd_Day ?po_Day ?sa_Day ?ne_Day ?ob_Day ?ha_Day ?hm_Day ?kk_Day ?no_Day_dry ?no_Day_rain ?no_Day_fill ?no_Day_mood ?i_Day_init ?fn_Day_init ?l_Day_init ?c_Day_init ?k_Day_init ?i_Day_eq ?fn_Day_eq ?l_Day_eq ?c_Day_eq ?k_Day_eq ?i_Day_le ?fn_Day_le ?l_Day_le ?c_Day_le ?k_Day_le ?i_Day_add ?fn_Day_add ?l_Day_add ?c_Day_add ?k_Day_add ?sf_Day ?ra_Day ?ia_Day ?ib_Day ?is_Day
    (case a0 => k_is)
    (case l0 => k_is)
    (case c0 => k_is)
    (case k0 => k_is)
    (case a1 => k_is)
    (case l1 => k_is)
    (case c1 => k_is)
    (case k1 => k_is)
    (case a2 => k_is)
    (case l2 => k_is)
    (case c2 => k_is)
    (case k2 => k_is)
    (case a3 => k_is)
    (case l3 => k_is)
    (case c3 => k_is)
    (case k3 => k_is)
    (case a4 => k_is)
    (case l4 => k_is)
    (case c4 => k_is)
    (case k4 => k_is)
    (case a5 => k_is)
    (case l5 => k_is)
    (case c5 => k_is)
    (case k5 => k_is)
    (case a6 => k_is)
    (case l6 => k_is)
    (case c6 => k_is)
    (case k6 => k_is)
    (case a7 => k_is)
    (case l7 => k_is)
    (case c7 => k_is)
    (case k7 => k_is)
    (case a8 => k_is)
    (case l8 => k_is)
    (case c8 => k_is)
    (case k8 => k_is)
    (case a9 => k_is)
    (case l9 => k_is)
    (case c9 => k_is)
    (case k9 => k_is)
    (case a10 => k_is)
    (case l10 => k_is)
    (case c10 => k_is)
    (case k10 => k_is)
    (case a11 => k_is)
    (case l11 => k_is)
    (case c11 => k_is)
    (case k11 => k_is)
    (case a12 => k_is)
    (case l12 => k_is)
    (case c12 => k_is)
    (case k12 => k_is)
    (case a13 => k_is)
    (case l13 => k_is)
    (case c13 => k_is)
    (case k13 => k_is)
    (case a14 => k_is)
    (case l14 => k_is)
    (case c14 => k_is)
    (case k14 => k_is)
    (case z_len => k_is)
    (case z_abs => k_is)
    (case z_int => k_is)
    (case z_bool => k_is)
    (case z_str => k_is)
    (case z_range => k_is)
    (case z_all => k_is)
    (case z_isinstance => k_is)
    (case z_repr => k_is)
    (case z_super => k_is)
    (case z_tuple => k_is)
    (case z_list => k_is)
    (case z_zip => k_is)
    (case z_enumerate => k_is)
    (case z_max => k_is)
    (case z_min => k_is)
    (case g_MOST_PLOTS => k_is)
    (case g_MOST_UNITS => k_is)
    (case g_MOST_MOODS => k_is)
    (case g_BadNumber => k_is)
    (case x_BadNumber => k_is)
    (case r_BadNumber => first | rfl | decide +kernel)
    (case sa_BadNumber => k_is)
    (case ex_BadNumber => k_is)
    (case ty_BadNumber => k_is)
    (case kp_BadNumber => k_is)
    (case i_BadNumber => k_is)
    (case l_BadNumber => k_is)
    (case cd_BadNumber => k_is)
    (case cf_BadNumber => k_is)
    (case v2_BadNumber => first | rfl | decide +kernel)
    (case fi_BadNumber => first | rfl | decide +kernel)
    (case cl_BadNumber => k_is)
    (case mr_BadNumber => k_is)
    (case sb_BadNumber => k_is)
    (case su_BadNumber => ks_is)
    (case ti_BadNumber => k_is)
    (case ga_BadNumber => k_is)
    (case gg_BadNumber => k_is)
    (case hd_BadNumber => k_is)
    (case ha_BadNumber => k_is)
    (case mo_BadNumber => k_is)
    (case em_BadNumber => k_is)
    (case nw_BadNumber => k_is)
    (case nv_BadNumber => k_is)
    (case nn_BadNumber => k_is)
    (case nt_BadNumber => k_is)
    (case opq => k_is)
    (case htop => first | rfl | decide +kernel)
    (case spc => k_is)
    (case tks => k_is)
    (case g_Day => k_is)
    (case mk_Day => k_is)
    (case kp_Day => k_is)
    (case pg_Day => k_is)
    (case hd_Day => k_is)
    (case po_Day => k_is)
    (case sa_Day => k_is)
    (case ne_Day => k_is)
    (case ob_Day => k_is)
    (case ha_Day => k_is)
    (case hm_Day => k_is)
    (case kk_Day => first | k_is | kit_is)
    (case no_Day_dry => k_is)
    (case no_Day_rain => k_is)
    (case no_Day_fill => k_is)
    (case no_Day_mood => k_is)
    (case i_Day_init => k_is)
    (case fn_Day_init => k_is)
    (case l_Day_init => k_is)
    (case c_Day_init => k_is)
    (case k_Day_init => k_is)
    (case i_Day_eq => k_is)
    (case fn_Day_eq => k_is)
    (case l_Day_eq => k_is)
    (case c_Day_eq => k_is)
    (case k_Day_eq => k_is)
    (case i_Day_le => k_is)
    (case fn_Day_le => k_is)
    (case l_Day_le => k_is)
    (case c_Day_le => k_is)
    (case k_Day_le => k_is)
    (case i_Day_add => k_is)
    (case fn_Day_add => k_is)
    (case l_Day_add => k_is)
    (case c_Day_add => k_is)
    (case k_Day_add => k_is)
    (case sf_Day => k_is)
    (case ra_Day => k_is)
    (case ia_Day => k_is)
    (case ib_Day => k_is)
    (case is_Day => k_is)

