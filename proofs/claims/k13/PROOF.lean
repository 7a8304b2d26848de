import PyProof.Rows.All
import Wide.All
import OpenK.AllK
import Wide.FinOn
import HandS.ForMost
import HandS.Exc
import HandS.ExcInit
import HandS.Nested
import HandS.WordsExc
import KE.KExcSuper
import HandS.ExcIs
import HandS.ExcField
import HandS.IsInst
import HandS.FStr
import HandS.RaiseMore
import KE.KExcIs
import PyProof.NeKinds
import PyProof.CallStr
import HandS.Text
import PyProof.InstNe
import HandS.SlotsOwn
import HandS.OwnEq
import KE.KCallOwn
import HandS.Zip
import HandS.Walk
import HandS.Star
import PyProof.Rows.FinIter
import KE.IntTextLaws
import HandS.Codes
import PySem.Challenge.RW_waterbyturns_k13_standings
set_option Elab.async false
set_option linter.all false
set_option maxRecDepth 100000
set_option maxHeartbeats 4000000
namespace Wx
open PySem PySem.Spec PyProof.Rows L2 NdefX
/-! super().__init__(..) in the __init__ of an own exception class whose line goes over own classes to ValueError -/
section
variable {prog : Program} {w : World} {A : Around} {E : Value → Shared → Prop} {hp : Heap} {g : Array GenState} {d : Drawn} {t : Nat} {os : OsState}
theorem mw_called {u x t0 : Addr} {us : List Value} {Q : Value → Shared → Prop} {C N : Addr} {nm q : Str} {bs bm : List Value} {hdct : Bool} {sn : List Str} {sub : List Value} {ab : Bool} {col : Option Bool} {dd : Option Addr} {k0 k1 k2 k3 k5 : Option Value}
    (cC : hp.get? C = some (excClassObj nm q C N bs bm hdct sn sub ab col dd k0 k1 k2 k3 k5 "ValueError.__new__")) (cx : hp.get? x = some (PySem.HandSPX.excO C t0)) (cu : hp.get? u = some (PySem.W.kxs_mw "ValueError.__init__" x)) (hl : us.length ≤ sizeLine)
    (fin : ∀ h' t1, (∀ b o, b ≠ x → hp.get? b = some o → h'.get? b = some o) → h'.get? x = some (PySem.HandSPX.excO C t1) → Q .none ⟨h', g, d, t, os⟩) : wpAny (model prog w) A (call (.ref u) us) Q E ⟨hp, g, d, t, os⟩ := by
  refine wpAny_call (codeAny_of_tree ?_)
  show wpAny _ A.in1 (callAny (Value.ref u) (Args.mk us [])) _ _ _
  unfold callAny
  dsimp only
  refine wpAny_bind (wpAny_load cu ?_)
  have mt : (Value.type "method-wrapper" == Value.type "method" || Value.type "method-wrapper" == Value.type "builtin_function_or_method" || Value.type "method-wrapper" == Value.type "method-wrapper") = true := by decide
  simp only [PySem.W.kxs_mw, mt, if_true]
  refine PySem.W.KFB.if_so (by decide) (wpAny_bind (PySem.W.check_bound_init F.excBase_ValueError.toExcCallFacts cC cx rfl (wpAny_bind (wpAny_pure (wpAny_pure ?_)))))
  refine And.intro (plainId_quiet F.excBase_ValueError.init.plain _) (codeAny_builtin F.excBase_ValueError.initEntry ?_)
  exact PySem.W.exc_init_tree (cls := Value.ref C) (t0 := t0) (dv := Option.none) (c2 := Value.none) (c3 := Value.none) (b4 := Value.bool false) cx hl fun h' k e _ => fin h' _ k e
end
/-- the first statement: super().__init__(e, ..) -/
abbrev stSuper (p0 p1 p2 p3 p4 : Pos) (e : Expr) (es : List Expr) : Stmt := .Expr (.Call (.Attribute (.Call (.Name "super" p0) [] [] p1) "__init__" p2) (e :: es) [] p3) p4
abbrev nfS (name qual : Str) (params : Arguments) (body : List Stmt) (scope : Scope) (cc cda : Addr) : NF := ⟨name, qual, params, body, scope, [("__class__", cc)], cda⟩
/-- what the written part says -/
structure SupTxt (P : Program) (K : PySem.W.Frag) (mg : Str → Option Value) (C cda cc : Addr) (qual : Str) : Prop where
  oex : OexC K C
  code : PySem.W.codeIn K (.ref cda) qual = true
  file : ∃ (ccl : Value) (cdd : Option Addr) (vs : Array Value) (ccs : Array (Option Value)) (fl : Str) (tf : Tok), K.lookup cda = some ⟨ccl, cdd, .fields vs, ccs⟩ ∧ vs[2]? = some (.str fl tf) ∧ ((P.main.file : Str) == fl) = true
  cell : ∃ (cl : Value) (cld : Option Addr) (csl : Array (Option Value)), K.lookup cc = some ⟨cl, cld, .cell (some (.ref C)), csl⟩
  sup : mg "super" = none
  top : (P.main.scope.names.lookup ("super" : Str)).isSome = false
  mro : PySem.W.mroIn K C (.ref C) = some true
  subB : PySem.W.subIn K (.ref C) (.type "ValueError") = some true
  ini : PySem.W.ks_superIn K C C "__init__" = some (some (.builtin "ValueError.__init__"))
  opq : PySem.W.nsIn K cStatics "thirdparty.any" = some none
theorem exo_upd {H : Hp} {a C : Addr} {d : Option Addr} (e : H a = some (exo a C d)) : upd H a (exo a C d) = H := by
  funext b
  by_cases hb : b = a
  · rw [hb, upd_same, e]
  · rw [upd_ne hb]
section
variable {CX : CXT} {P : Program} {w : World} {K : PySem.W.Frag} {mg : Str → Option Value} {base : Heap} {name qual : Str} {params : Arguments} {scope : Scope} {dV kV doc pm ct oc : Value} {an od : Option Addr} {osl : Array (Option Value)} {f cda cc C : Addr}
  {N ps : List Str} {k : Nat} {sp : Sp} {e : Expr} {es : List Expr} {rest : List Stmt} {p0 p1 p2 p3 p4 : Pos} {ar : Arg}
theorem fn_super (lk : K.lookup f = some ⟨oc, od, .func (PySem.W.fnX name qual params (stSuper p0 p1 p2 p3 p4 e es :: rest) scope [("__class__", cc)] dV kV doc pm an (.ref cda) ct), osl⟩)
    (T : SupTxt P K mg C cda cc qual) (S : NScope N ps ["__class__"] scope) (hp : (params.posonlyargs ++ params.args).head? = some ar) (har : N[0]? = some ar.arg) (hal : scope.names.lookup ar.arg = some .local) (hks : scope.names.lookup ("super" : Str) = some .globalImplicit)
    (len : ∀ vs H Q E, sp vs H Q E → vs.length = ps.length)
    (hbody : ∀ (A : Around) (outer : List Env) (s : Shared) (H : Hp) (vs : List V) (Q : VK) (E : XK), Room k (A.deeper (envF (nfS name qual params (stSuper p0 p1 p2 p3 p4 e es :: rest) scope cc cda) f s.heap.objs.size)) → sp vs H Q E →
      ∃ ta tr, PA (ncx CX P w K mg base N (nfS name qual params (stSuper p0 p1 p2 p3 p4 e es :: rest) scope cc cda) f A outer s H E) (e :: es) ta ∧ PSs (ncx CX P w K mg base N (nfS name qual params (stSuper p0 p1 p2 p3 p4 e es :: rest) scope cc cda) f A outer s H E) rest tr ∧ ∃ (a : Addr) (vr : List V), vs = .ref a :: vr ∧ H a = some (exo a C none) ∧
        ta (startF N vs [some (.ref C)]) H fun ws H1 => ws.length ≤ 1000 ∧ H1 a = some (exo a C none) ∧ tr { nx := fun _ H' => Q .non H', rt := Q } (startF N vs [some (.ref C)]) H1)
    (hi : ∀ L : Addr, interactive (envF (nfS name qual params (stSuper p0 p1 p2 p3 p4 e es :: rest) scope cc cda) f L) = false := by intros; rfl)
    (hs : ∀ L : Addr, swapsWith (.Call (.Attribute (.Call (.Name "super" p0) [] [] p1) "__init__" p2) (e :: es) [] p3) none p4.line (envF (nfS name qual params (stSuper p0 p1 p2 p3 p4 e es :: rest) scope cc cda) f L) = pure false := by intros; rfl)
    (he : ∀ L : Addr, starEach (e :: es) (envF (nfS name qual params (stSuper p0 p1 p2 p3 p4 e es :: rest) scope cc cda) f L) = (false, eval e (envF (nfS name qual params (stSuper p0 p1 p2 p3 p4 e es :: rest) scope cc cda) f L)) :: starEach es (envF (nfS name qual params (stSuper p0 p1 p2 p3 p4 e es :: rest) scope cc cda) f L) := by intros; rfl)
    (hpl : ∀ L : Addr, (backTo p3 (starEach es (envF (nfS name qual params (stSuper p0 p1 p2 p3 p4 e es :: rest) scope cc cda) f L))).any (·.1) = false := by intros; rfl)
    (hev : ∀ L : Addr, ∃ pl, eval (.Call (.Attribute (.Call (.Name "super" p0) [] [] p1) "__init__" p2) (e :: es) [] p3) (envF (nfS name qual params (stSuper p0 p1 p2 p3 p4 e es :: rest) scope cc cda) f L) = (do
      let ov ← attributeBase (.Call (.Name "super" p0) [] [] p1) "__init__" (envF (nfS name qual params (stSuper p0 p1 p2 p3 p4 e es :: rest) scope cc cda) f L) (eval (.Call (.Name "super" p0) [] [] p1) (envF (nfS name qual params (stSuper p0 p1 p2 p3 p4 e es :: rest) scope cc cda) f L))
      standAt p2.atName
      let r ← holding [ov] (getMethod ov "__init__" pl)
      callWith p3 r.1 r.2 (backTo p3 (starEach (e :: es) (envF (nfS name qual params (stSuper p0 p1 p2 p3 p4 e es :: rest) scope cc cda) f L))) []) := by intros; exact ⟨_, rfl⟩) :
    FnOk P w K mg base CX (k + 1) f (PySem.W.fnX name qual params (stSuper p0 p1 p2 p3 p4 e es :: rest) scope [("__class__", cc)] dV kV doc pm an (.ref cda) ct) ps sp := by
  obtain ⟨clv, cld, csl, hcell⟩ := T.cell
  obtain ⟨ccl, cdd, vsC, ccs, flC, tfC, hcode, hvsC, hfile⟩ := T.file
  refine ⟨len, fun A outer s H args us vs Q E hr e0 hbind r hsp => ?_⟩
  have hl := len _ _ _ _ hsp
  have KX : K.In s.heap := e0.mod.kin.keeps fun b o z => (e0.bs b o z).1
  have lim : s.heap.NoLimit := e0.mod.nolimit.keeps fun b o z => (e0.bs b o z).1
  let F : NF := (nfS name qual params (stSuper p0 p1 p2 p3 p4 e es :: rest) scope cc cda)
  have Hc : H cc = none := (e0.bs cc _ (e0.mod.kin _ _ hcell)).2
  have CA : CellsAt F.cl ["__class__"] [some (V.ref C)] s.heap H := by
    have key : ∀ y c, F.cl.lookup y = some c → y = "__class__" ∧ c = cc := fun y c z => by
      by_cases q : y = "__class__"
      · subst q
        have z : some cc = some c := by simpa [F, List.lookup] using z
        exact ⟨rfl, (Option.some.inj z).symm⟩
      · have : (y == ("__class__" : Str)) = false := by simpa using q
        simp [F, List.lookup, this] at z
    refine ⟨rfl, fun y c z => ?_, fun x y c z z' => ?_, fun i y z => ?_⟩
    · obtain ⟨_, rfl⟩ := key y c z
      exact ⟨Hc, _, _, KX _ _ hcell, rfl⟩
    · rw [(key x c z).1, (key y c z').1]
    · have hi : i = 0 ∧ y = "__class__" := by
        cases i with
        | zero => exact ⟨rfl, (Option.some.inj z).symm⟩
        | succ i => simp at z
      obtain ⟨rfl, rfl⟩ := hi
      refine ⟨cc, by simp [F, List.lookup], fun v hv => ?_⟩
      have hv : V.ref C = v := Option.some.inj (Option.some.inj hv)
      subst hv
      exact ⟨.ref C, rfl, _, KX _ _ hcell, rfl⟩
  refine PySem.ks_codeAny_call_defAt (fd := PySem.W.fnX name qual params (stSuper p0 p1 p2 p3 p4 e es :: rest) scope [("__class__", cc)] dV kV doc pm an (.ref cda) ct) (body := stSuper p0 p1 p2 p3 p4 e es :: rest) (binds := ps.zip us) hr.depth (KX _ _ lk) rfl lim
    (PySem.W.codeRec_of KX T.code) rfl hbind S.nocell (fun y hy => S.par y.1 (List.of_mem_zip hy).1) (fun h₁ hns kp => ?_) S.co S.gen S.kind
  show PySem.wpAt (model P w) (A.deeper (envF F f s.heap.objs.size)) (.func (stSuper p0 p1 p2 p3 p4 e es :: rest) (envF F f s.heap.objs.size)) (execs (stSuper p0 p1 p2 p3 p4 e es :: rest) (envF F f s.heap.objs.size)) _ _ _
  have I : Inv (ncx CX P w K mg base N F f A outer s H E) [] (startF N vs [some (.ref C)]) H { s with heap := h₁, toks := s.toks + (ps.zip us).length } := inv_startN (F := F) S hr.hd e0 hl r CA hns kp
  obtain ⟨ta, tr, hA, hR, a, vr, rfl, ea, hq⟩ := hbody A outer s H vs Q E (hr.deeper _) hsp
  obtain ⟨nm, qn, Nn, bs, bm, sn, sub, ab, col, dd, k0, k1, k2, k3, k5, hC, hbm⟩ := T.oex.cls
  have hcl : PySem.W.clsIn K C = some { name := nm, bases := bs, mro := .ref C :: bm, ns := Nn, qualname := qn, hasDict := true, slotNames := sn, subclasses := sub, abstract := ab, collection := col, hasDel := false } := by unfold PySem.W.clsIn; rw [hC] <;> rfl
  -- the local that holds the object
  have self : ∀ {s1 : Shared} {H1 : Hp} {pins : List (Addr × Obj)}, Inv (ncx CX P w K mg base N F f A outer s H E) pins (startF N (.ref a :: vr) [some (.ref C)]) H1 s1 → ∃ m, s1.heap.Ns (envF F f s.heap.objs.size).locals m ∧ m ar.arg = some (.ref a) := fun J => by
    obtain ⟨m, hm, hl⟩ := J.loc
    obtain ⟨u, ru, hk⟩ := hl 0 ar.arg (.ref a) har rfl (.inl hal)
    refine ⟨m, hm, ?_⟩
    rcases hk with ⟨_, hk⟩ | ⟨hk, _⟩
    · rw [hk]
      exact congrArg some ru
    · exfalso
      have hk : scope.names.lookup ar.arg = some .cell ∨ scope.names.lookup ar.arg = some .free := hk
      rw [hal] at hk
      rcases hk with z | z <;> cases z
  have fin : ∀ {fl : Flow} {s' : Shared}, SP (ncx CX P w K mg base N F f A outer s H E) [] { nx := fun _ H' => Q .non H', rt := Q } fl s' → CR CX outer P w H s Q E (.ok (.ret (match fl with | .ret v => v | _ => .none))) s' := fun {fl s'} hs' => by
    have out : ∀ {σ' : L2.St} {H' : Hp} {v : V} {u : Value}, Inv (ncx CX P w K mg base N F f A outer s H E) [] σ' H' s' → L2.RelV v u → Q v H' → CE outer P w H s Q u s' := fun {σ' H' v u} J rv q => ⟨v, H', J.os, J.bare, J.base, J.hok, rv, q⟩
    cases fl with
    | ret u =>
      obtain ⟨v, σ', H', J, rv, q⟩ := hs'
      exact out J rv q
    | next =>
      obtain ⟨σ', H', J, q⟩ := hs'
      exact out (v := V.non) (u := Value.none) J rfl q
    | brk =>
      obtain ⟨_, _, _, q⟩ := hs'
      exact q.elim
    | cont =>
      obtain ⟨_, _, _, q⟩ := hs'
      exact q.elim
  obtain ⟨pl, hev⟩ := hev s.heap.objs.size
  refine PySem.ks_wpAt_execs_cons (PySem.ks_wpAt_Expr_any (PySem.ks_wpAt_MethodCall (pl := pl) ?_ hev) (hi _) (hs _))
  · obtain ⟨m, hm, hma⟩ := self I
    obtain ⟨oD, hD1, hD2⟩ : ∃ oD, h₁.get? C = some oD ∧ oD.data = .cls { name := nm, bases := bs, mro := .ref C :: bm, ns := Nn, qualname := qn, hasDict := true, slotNames := sn, subclasses := sub, abstract := ab, collection := col, hasDel := false } := ⟨_, I.kIn _ _ hC, rfl⟩
    refine PySem.ks_wpAt_super_base (env := envF F f s.heap.objs.size) hks (S.frk _ (by simp)) rfl rfl (I.kIn _ _ lk) rfl hp rfl (I.kIn _ _ hcode) rfl hvsC hfile T.top ?_
    obtain ⟨mb, hb1, hb2⟩ := I.mod.blt
    refine PySem.W.ks_loadName_global S.kind hks (Calls.loadGlobal_builtin (I.mod.glob.keeps I.bk) T.sup (hb1.keeps I.bk) ((hb2 "super" (by decide)).trans (by decide +kernel : bootBuiltins "super" = some (.type "super"))) ⟨rfl, ?_⟩)
    refine wpAny_loadName_free S.kind (S.frk _ (by simp)) rfl ⟨_, I.kIn _ _ hcell, rfl⟩ ?_
    refine wpAny_loadName_local S.kind hal hm hma ?_
    refine PySem.ks_wpAny_isType_cls hD1 hD2 ⟨rfl, ?_⟩
    obtain ⟨t1, ho⟩ := exo_at I.hok ea
    have IA : PySem.W.InstAt h₁ a { cls := .ref C, dict := none, data := .fields #[.ref t1, .none, .none, .none, .bool false, .none] } C none := ⟨ho, rfl, rfl, trivial⟩
    refine PySem.ks_wpAny_call_super hD1 hD2 ho rfl (fun c z => by cases z) (PySem.W.looks_mroIn I.kIn T.mro) (fun h2 e2 k2 => ?_)
    have J2 : Inv (ncx CX P w K mg base N F f A outer s H E) [] (startF N (.ref a :: vr) [some (.ref C)]) H { s with heap := h2, toks := s.toks + (ps.zip us).length } := I.kept k2
    have ni : PySem.W.alongIn K "__init__" (((Value.ref C :: bm).dropWhile (· != .ref C)).drop 1) = some (some (.builtin "ValueError.__init__")) := by
      have z := T.ini
      unfold PySem.W.ks_superIn at z
      rw [hcl] at z
      exact z
    have ho2 := k2 _ _ ho
    have hI : PySem.W.Looks (model P w) h2 (isInstance (.ref a) (.type "ValueError")) true := (show PySem.W.InstAt h2 a _ C none from ⟨ho2, rfl, rfl, trivial⟩).type.andThen (PySem.W.looks_subIn J2.kIn T.subB)
    refine PySem.W.kxs_getMethod PySem.W.kxs_ValueError e2 (PySem.W.looks_opaque J2.kIn T.opq) ((PySem.W.looks_clsIn J2.kIn hcl).andThen .now) rfl J2.kIn ni hI (PySem.W.ks_ne I.kIn IA hcl) (by decide) ?_
    have J3 : Inv (ncx CX P w K mg base N F f A outer s H E) [] (startF N (.ref a :: vr) [some (.ref C)]) H { s with heap := h2.push (PySem.W.kxs_mw "ValueError.__init__" a), toks := s.toks + (ps.zip us).length + 1 } := J2.kept fun b o z => Heap.get?_push_of_some _ z
    have hmw : (h2.push (PySem.W.kxs_mw "ValueError.__init__" a)).get? h2.objs.size = some (PySem.W.kxs_mw "ValueError.__init__" a) := Heap.get?_push_at rfl rfl
    have J4 : Inv (ncx CX P w K mg base N F f A outer s H E) [(h2.objs.size, PySem.W.kxs_mw "ValueError.__init__" a)] (startF N (.ref a :: vr) [some (.ref C)]) H { s with heap := h2.push (PySem.W.kxs_mw "ValueError.__init__" a), toks := s.toks + (ps.zip us).length + 1 } := by
      refine ⟨J3.ok, J3.os, J3.bare, J3.base, J3.loc, J3.cell, J3.free, J3.freeC, fun p hp => ?_, J3.hok, J3.len⟩
      have hp : p = (h2.objs.size, PySem.W.kxs_mw "ValueError.__init__" a) := by
        have z : p ∈ ([] : List (Addr × Obj)) ++ [(h2.objs.size, PySem.W.kxs_mw "ValueError.__init__" a)] := hp
        simpa using z
      subst hp
      refine ⟨hmw, J2.hok.fresh (Nat.le_refl _), fun z => absurd J2.lt ?_, fun z => ?_, fun v z => by cases z⟩
      · rw [← z]
        exact Nat.lt_irrefl _
      · obtain ⟨_, o1, ho1, _⟩ := J2.ok.funs.mem z
        obtain ⟨o2, ho2'⟩ := J2.base.there _ _ ho1 (fun y => absurd (show _ ∈ ([] : List Addr) from y) (by simp))
        exact absurd (Heap.lt_size ho2') (Nat.lt_irrefl _)
    rw [he s.heap.objs.size]
    refine PySem.W.kxs_callWith (i := "ValueError.__init__") (x := a) (by show (false || (backTo p3 (starEach es (envF F f s.heap.objs.size))).any fun y => y.1) = false; rw [hpl s.heap.objs.size]; rfl) ?_
    refine Calls.evalArgs_plain ?_
    have run := hA.run p3 _ _ _ _ _ J4 hq
    rw [show starEach (e :: es) (ncx CX P w K mg base N F f A outer s H E).env = _ from he s.heap.objs.size] at run
    refine thn run fun us4 s4 hap => ?_
    obtain ⟨ws, H4, I4, r4, hw, ea4, tr4⟩ := hap
    obtain ⟨cu4, _⟩ := I4.pin _ (List.mem_append_right _ List.mem_cons_self)
    refine ⟨cu4, ?_⟩
    obtain ⟨t4, ho4⟩ := exo_at I4.hok ea4
    have hlen4 : us4.length ≤ sizeLine := by
      rw [← Paired.length r4]
      exact Nat.le_of_lt (small1000 hw)
    obtain ⟨h4, g4, d4, tk4, os4⟩ := s4
    refine mw_called (I4.kIn _ _ hC) ho4 cu4 hlen4 fun h5 t5 k5 e5 => ?_
    have I5 := I4.write (t' := tk4) (x := a) (e := a) (o := exo a C none) (by rw [ea4]; exact True.intro) (.inl rfl) k5 ⟨_, e5⟩ (exo_ok e5)
    rw [exo_upd ea4] at I5
    have I6 : Inv (ncx CX P w K mg base N F f A outer s H E) [] (startF N (.ref a :: vr) [some (.ref C)]) H4 ⟨h5, g4, d4, tk4, os4⟩ := ⟨I5.ok, I5.os, I5.bare, I5.base, I5.loc, I5.cell, I5.free, I5.freeC, fun p hp => absurd (show p ∈ ([] : List (Addr × Obj)) ++ [] from hp) (by simp), I5.hok, I5.len⟩
    exact wpAt_of_wpAny (wpAny_mono (hR.run [] _ _ _ _ I6 tr4) (fun fl s' z => fin z) fun _ _ z => z)
end
end Wx

namespace Wx
open PySem PySem.Spec PyProof.Rows L2
/-! a caught exception that is kept behind its except suite -/
/-- at a: an exception of the class cls, its dict d -/
def exv (cls : Value) (d : Option Addr) (a : Addr) : HO := .ext fun h => ∃ (oe : Obj) (vs : Array Value), h.get? a = some oe ∧ Zc cls d oe ∧ oe.data = .fields vs
theorem exv_ok {P : Program} {w : World} {H : Hp} {h : Heap} {a : Addr} {cls : Value} {d : Option Addr} {oe : Obj} {vs : Array Value} (e : h.get? a = some oe) (z : Zc cls d oe) (q : oe.data = .fields vs) : ObjOk P w H h a (exv cls d a) :=
  ⟨⟨oe, vs, e, z, q⟩, ⟨oe, e⟩, fun _ _ ⟨o, v, x, y⟩ k => ⟨o, v, k o x, y⟩⟩
theorem exv_at {P : Program} {w : World} {H : Hp} {h : Heap} {a : Addr} {cls : Value} {d : Option Addr} (x : HOk P w H h) (e : H a = some (exv cls d a)) : ∃ (oe : Obj) (vs : Array Value), h.get? a = some oe ∧ Zc cls d oe ∧ oe.data = .fields vs := by
  have y : ObjOk P w H h a (.ext fun h => ∃ (oe : Obj) (vs : Array Value), h.get? a = some oe ∧ Zc cls d oe ∧ oe.data = .fields vs) := x a _ e
  exact y.1
section
variable {X : Cx} {pins : List (Addr × Obj)} {σ : L2.St} {H : Hp} {s : Shared}
theorem tracked {a : Addr} {oe : Obj} {vs : Array Value} {cls : Value} {d : Option Addr} (J : Inv X ((a, oe) :: pins) σ H s) (n0 : X.s_0.heap.get? a = none) (np : ∀ p, p ∈ X.pn ++ pins → p.1 ≠ a) (hz : Zc cls d oe) (hd : oe.data = .fields vs) :
    Inv X pins σ (upd H a (exv cls d a)) s := by
  obtain ⟨ga, na, nL, nF, nc⟩ := J.pin (a, oe) (List.mem_append_right _ List.mem_cons_self)
  have ga : s.heap.get? a = some oe := ga
  have na : H a = none := na
  have neS : ∀ {b : Addr} {o : HO}, H b = some o → b ≠ a := fun e => ne_of_none e na
  have ne0 : ∀ {b : Addr} {o : Obj}, X.s_0.heap.get? b = some o → b ≠ a := fun {b o} e z => by
    rw [z, n0] at e
    cases e
  refine ⟨J.ok, J.os, J.bare, ⟨J.base.keep, J.base.slot, fun b o e n x => ?_, J.base.there, fun b xs e => ?_, fun b o u e => ?_, fun b ps e => ?_⟩, J.loc, J.cell, ?_, fun y c e => ?_, fun p hp => ?_, fun b u e => ?_, J.len⟩
  · rw [upd_ne (ne0 e)]
    exact J.base.free b o e n x
  · have q := J.base.tups b xs e
    rw [upd_ne (neS q)]
    exact q
  · have q := J.base.frzs b o u e
    rw [upd_ne (neS q)]
    exact q
  · obtain ⟨ms, q⟩ := J.base.tbls b ps e
    exact ⟨ms, by rw [upd_ne (neS q)]; exact q⟩
  · rw [upd_ne (fun z => nL z.symm)]
    exact J.free
  · have nca : c ≠ a := fun z => by
      obtain ⟨v, o, q1, q2⟩ := J.cell y c e
      rw [z, ga] at q1
      cases q1
      exact nc _ q2
    rw [upd_ne nca]
    exact J.freeC y c e
  · have hm : p ∈ X.pn ++ (a, oe) :: pins := by
      rcases List.mem_append.mp hp with z | z
      · exact List.mem_append_left _ z
      · exact List.mem_append_right _ (List.mem_cons_of_mem _ z)
    obtain ⟨q1, q2, q3, q4, q5⟩ := J.pin p hm
    exact ⟨q1, by rw [upd_ne (np p hp)]; exact q2, q3, q4, q5⟩
  · by_cases hb : b = a
    · subst hb
      rw [upd_same] at e
      cases e
      exact exv_ok ga hz hd
    · rw [upd_ne hb] at e
      exact (J.hok b u e).stay (fun _ _ _ q => q) (fun c q => by rw [upd_ne (neS q)]; exact q) fun c xs q => by rw [upd_ne (neS q)]; exact q
end
/-- what 'except x as n: ..' wishes, the exception kept: slot i is n's -/
def wKeep (K : PySem.W.Frag) (c : Value) (i : Nat) (ts : Addr → Value → Option Addr → TS) (Wout : WX) (D : Ends) : WX := fun cls d σ H =>
  ∃ b, PySem.W.exmOne K cls c = some b ∧ (b = true → ∀ a, H a = none → ts a cls d { nx := fun σ1 H1 => D.nx (σ1.set i none) (upd H1 a (exv cls d a)), rt := fun v H1 => D.rt v (upd H1 a (exv cls d a)), bk := fun σ1 H1 => D.bk (σ1.set i none) (upd H1 a (exv cls d a)), ct := fun σ1 H1 => D.ct (σ1.set i none) (upd H1 a (exv cls d a)) } (σ.set i (some (.ref a))) H) ∧
    (b = false → Wout cls d σ H)
section
variable {X : Cx} {x n : Str} {c : Value} {i : Nat} {body suite : List Stmt} {b₀ : Stmt} {np pos pos' : Pos} {tb : WX → TS} {ts : Addr → Value → Option Addr → TS} {Wout : WX}
theorem ps_try_keep (hex : X.ex = []) (stk : X.stack = X.env :: X.outer) (frm : X.env.frame = some X.env.locals) (nd : X.N.Nodup) (atI : X.N[i]? = some n) (lcl : X.env.kindOf n = some .local) (nms : Names X x c) (tko : Takes X Wout)
    (hbody : ∀ (W : WX) (pn : List (Addr × Obj)) (xe : Value → Shared → Prop), Takes (X.tr pn xe) W → PassesOwn (model X.prog X.w) X.A X.env xe → PSs (X.tr pn xe) body (tb W))
    (hsuite : ∀ (a : Addr) (oe : Obj) (cls : Value) (d : Option Addr) (pn : List (Addr × Obj)), Zc cls d oe → (∃ vs, oe.data = .fields vs) → PSs (X.suite a ((a, oe) :: pn)) (b₀ :: suite) (ts a cls d)) :
    PS X (.Try body [.ExceptHandler (some (.Name x np)) (some n) (b₀ :: suite) pos'] [] [] pos) (fun D σ H => tb (wKeep X.K c i ts Wout D) D σ H) := by
  refine ⟨fun pins s σ H D I0 rd => ?_⟩
  have okX := I0.ok
  have frA : X.A.frames = some (X.env :: X.outer) := okX.frames.trans (congrArg some stk)
  have locN : Loc X.env.scope n := Or.inl lcl
  refine wpAny_Try_except (wpAny_mono ((hbody (wKeep X.K c i ts Wout D) (X.pn ++ pins) (fun e s₁ => wpAny (model X.prog X.w) X.A (noteFrame e X.env) (fun _ s₂ => wpAny (model X.prog X.w) X.A (setFlight e none) (fun _ s₃ =>
      wpAny (model X.prog X.w) X.A (handleBy e X.env [.ExceptHandler (some (.Name x np)) (some n) (b₀ :: suite) pos']) (SP X pins D) X.xe s₃) X.xe s₂) X.xe s₁) (fun u s' caught => ?_) PassesOwn.looking).run [] s σ H D (I0.toTry _) rd) (fun fl s1 done => ?_) (fun _ _ z => z))
  · obtain ⟨a, B, sI, pinsT, σT, HT, cls, d, rfl, JT, nb, upT, skyT, naT, osT, agT, b, hcl, hyes, hno⟩ := caught
    have JX : Inv X pins σT HT sI := Inv.ofTry JT okX
    have skyX : Sky B (X.env :: X.outer) a (Zc cls d) X.env.locals s'.heap := stk ▸ skyT
    show wpAny _ X.A (noteFrame (Value.ref a) X.env) _ _ _
    refine Sky.land Zc.steady frA frm skyX (fun hq flq upq => ?_)
    have Jq : Inv X pins σT HT { s' with heap := hq } := JX.landed nb flq.1 (upT.trans upq) osT agT
    obtain ⟨oeq, vsq, heq, hzq, hdq⟩ := flq.there
    have nfr : a ∉ frs (X.env :: X.outer) := fun hm => by
      obtain ⟨_, o', e', nf'⟩ := flq.2.2.1.mem hm
      have z := heq.symm.trans e'
      cases z
      exact nf' _ hdq
    have nLoc : a ≠ X.env.locals := fun z => nfr (List.mem_filterMap.mpr ⟨X.env, List.mem_cons_self, frm.trans (congrArg some z.symm)⟩)
    have nOut : a ∉ X.fs := fun hm => by
      obtain ⟨ev, hev, qv⟩ := List.mem_filterMap.mp hm
      exact nfr (List.mem_filterMap.mpr ⟨ev, List.mem_cons_of_mem _ hev, qv⟩)
    -- the exception is younger than the frame
    have sInone : sI.heap.get? a = none := by
      cases z : sI.heap.get? a with
      | none => rfl
      | some o =>
        have Bn : B.get? a = none := by
          rcases skyX with ⟨_, q, _⟩ | q | q
          · exact q
          · exact q.2.1
          · exact q.2.1
        have y := nb a o z (fun hm => nfr (by rw [← stk]; exact hm))
        rw [Bn] at y
        cases y
    have s0none : X.s_0.heap.get? a = none := by
      cases z : X.s_0.heap.get? a with
      | none => rfl
      | some o =>
        obtain ⟨o2, y⟩ := JX.base.there a o z (by rw [hex]; simp)
        rw [sInone] at y
        cases y
    have pinNe : ∀ p, p ∈ X.pn ++ pins → p.1 ≠ a := fun p hp z => by
      have y := (JX.pin p hp).1
      rw [z, sInone] at y
      cases y
    have Sq := Jq.suite heq hdq naT nLoc nOut
    refine wpAny_handleBy_cons (codeAny_handlers_test ?_) (by rintro ⟨⟩)
    have LTy : PySem.W.Looks (model X.prog X.w) hq (typeOf (.ref a)) cls := fun A Q E s k q => wpAny_typeOf_ref (k _ _ heq) (hzq.1 ▸ q)
    have LEx := PySem.W.exm_one (M := model X.prog X.w) Jq.kIn LTy hcl
    have tst : ∀ {Q : Value → Shared → Prop} {E : Value → Shared → Prop}, Q c { s' with heap := hq } → wpAny (model X.prog X.w) (X.A.mark (some (.ref a))) (eval (.Name x np) X.env) Q E { s' with heap := hq } := fun {Q E} q => by
      obtain ⟨g1, g2, g3 | ⟨g3, g4, g5⟩⟩ := nms
      · exact ld_glob (X := X.suite a ((a, oeq) :: (X.pn ++ pins))) Sq g1 g3 q g2
      · exact ld_blt (X := X.suite a ((a, oeq) :: (X.pn ++ pins))) Sq g1 g3 g4 q g5 g2
    refine tst (LEx.here ?_)
    cases b with
    | true =>
      refine codeAny_handlers_suite_as (HandSPX.lands_againZ flq fun hr flr upr => ?_)
      have Jr : Inv X pins σT HT { s' with heap := hr } := JX.landed nb flr.1 ((upT.trans upq).trans upr) osT agT
      obtain ⟨oer, vsr, her, hzr, hdr⟩ := flr.there
      have Sr := Jr.suite her hdr naT nLoc nOut
      refine store_ok (X := X.suite a ((a, oer) :: (X.pn ++ pins))) (v := V.ref a) Sr nd atI locN rfl (fun s5 S5 => ?_) (Or.inr lcl)
      refine wpAny_mono ((hsuite a oer cls d (X.pn ++ pins) hzr ⟨_, hdr⟩).run [] s5 _ HT _ S5 (hyes rfl a naT)) (fun fl s6 out => ?_) (fun _ _ z => z.elim)
      have leave : ∀ {σ6 : L2.St} {H6 : Hp} {Q : Shared → Prop}, Inv (X.suite a ((a, oer) :: (X.pn ++ pins))) [] σ6 H6 s6 → (∀ s7, Inv X pins (σ6.set i none) (upd H6 a (exv cls d a)) s7 → Q s7) →
          wpAny (model X.prog X.w) X.A (do bindName X.env n .none; unbindBehindTheSuite X.env n pos') (fun _ s7 => Q s7) X.xe s6 := fun {σ6 H6 Q} S6 hQ => by
        have S7 : Inv X ((a, oer) :: pins) σ6 H6 s6 := ⟨okX, S6.os, S6.bare, S6.base, S6.loc, S6.cell, S6.free, S6.freeC, fun p hp => S6.pin p (by
          rw [List.append_nil]
          rcases List.mem_append.mp hp with z | z
          · exact List.mem_cons_of_mem _ (List.mem_append_left _ z)
          · rcases List.mem_cons.mp z with y | y
            · rw [y]
              exact List.mem_cons_self
            · exact List.mem_cons_of_mem _ (List.mem_append_right _ y)), S6.hok, S6.len⟩
        exact gone_ok S7 nd atI lcl fun s7 J7 => hQ s7 (tracked J7 s0none pinNe hzr hdr)
      cases fl with
      | next =>
        obtain ⟨σ6, H6, S6, q6⟩ := out
        exact leave S6 fun s7 J7 => ⟨_, _, J7, q6⟩
      | brk =>
        obtain ⟨σ6, H6, S6, q6⟩ := out
        exact leave S6 fun s7 J7 => ⟨_, _, J7, q6⟩
      | cont =>
        obtain ⟨σ6, H6, S6, q6⟩ := out
        exact leave S6 fun s7 J7 => ⟨_, _, J7, q6⟩
      | ret u =>
        obtain ⟨v6, σ6, H6, S6, r6, q6⟩ := out
        exact leave S6 fun s7 J7 => ⟨_, _, _, J7, r6, q6⟩
    | false =>
      show wpAny _ X.A (handleBy (Value.ref a) X.env []) _ _ _
      refine wpAny_handleBy_nil ?_
      obtain ⟨z1, z2, z3, oe, vs, T1, oT1, tsT, he, hz, hd, h1, hr1⟩ := id flq
      unfold PySem.passOn
      refine wpAny_bind (wpAny_field he hd h1 ?_)
      rw [if_neg (show ¬ ((Value.ref T1 == Value.none) = true) by simp)]
      have fin : wpAny (model X.prog X.w) X.A (setFlight (.ref a) X.env.frame) (fun _ s4 => wpAny (model X.prog X.w) X.A (throw (.ref a) : Sem Flow) (SP X pins D) X.xe s4) X.xe { s' with heap := hq } := by
        rw [frm]
        exact HandSPX.setFlight_upZ flq fun h4 hh4 up4 => wpAny_throw (tko _ _ ⟨a, B, sI, pins, σT, HT, cls, d, rfl, JX, nb, (upT.trans upq).trans up4, .inr (.inr (by rw [stk]; exact hh4)), naT, osT, agT, hno rfl⟩)
      first
        | exact wpAny_bind (wpAny_pure (wpAny_bind fin))
        | exact wpAny_bind fin
  · cases fl with
    | next =>
      obtain ⟨σ1, H1, J1, q1⟩ := done
      exact wpAny_execs_nil ⟨σ1, H1, J1.ofTry okX, q1⟩
    | brk =>
      obtain ⟨σ1, H1, J1, q1⟩ := done
      exact ⟨σ1, H1, J1.ofTry okX, q1⟩
    | cont =>
      obtain ⟨σ1, H1, J1, q1⟩ := done
      exact ⟨σ1, H1, J1.ofTry okX, q1⟩
    | ret u =>
      obtain ⟨v1, σ1, H1, J1, r1, q1⟩ := done
      exact ⟨v1, σ1, H1, J1.ofTry okX, r1, q1⟩
end
end Wx

namespace Wx
open PySem PySem.Spec PyProof.Rows L2 NdefX
section
variable {X : Cx}
/-- e.n, e a kept exception of an own class -/
def tEv (K : PySem.W.Frag) (n : Str) (te : TE) : TE := fun σ H Q => te σ H fun x H1 => ∃ (a C dd : Addr) (fs : List (Str × V)) (v : V), x = .ref a ∧ XfC K C ∧ PySem.W.findIn K (.ref C) n = some none ∧ H1 a = some (exv (.ref C) (some dd) a) ∧ H1 dd = some (.xd fs) ∧ fs.lookup n = some v ∧ Q v H1
theorem pe_ev {e : Expr} {te : TE} {pos : Pos} {n : Str} (he : PE X e te) (hb : attributeBase e n X.env (eval e X.env) = eval e X.env := by rfl) : PE X (.Attribute e n pos) (tEv X.K n te) := by
  refine ⟨fun pins s σ H Q I h => attr_of hb (thn (he.run pins s σ H _ I h) fun u s1 got => ?_)⟩
  obtain ⟨x, H1, I1, rx, a, C, dd, fs, v, ex, T, hno, ea, ed, hl, q⟩ := got
  subst ex
  obtain rfl : u = Value.ref a := rx
  obtain ⟨oe, vs, ga, hz, hd⟩ := exv_at I1.hok ea
  obtain ⟨mA, hns, hr⟩ : ObjOk X.prog X.w H1 s1.heap dd (.xd fs) := I1.hok dd _ ed
  obtain ⟨od, ho, hlk⟩ := lookIn_ns hns
  obtain ⟨u, hu, ru⟩ := RelO.some_of (v := v) (o := mA n) (by rw [← hl]; exact hr n)
  have inst : PySem.W.InstAt s1.heap a oe C (some od) := ⟨ga, hz.1, by unfold PySem.W.notCls; rw [hd] <;> rfl, by rw [hz.2]; exact ho⟩
  exact HandSPX.exc_get I1.kIn inst T.ga T.gg T.exC (PySem.W.findObj_own T.hdC hno rfl (by rw [hlk, hu])) (handed_of ru) ⟨v, H1, I1.tok _, ru, q⟩
/-- isinstance(e, c), e a kept exception of an own class -/
def rIsX (K : PySem.W.Frag) : List V → Hp → VK → Prop := fun xs H Q => ∃ (a C : Addr) (d : Option Addr) (c : V) (u : Value) (b : Bool), xs = [.ref a, c] ∧ ClsV c u ∧ ExcC K C ∧ H a = some (exv (.ref C) d a) ∧ (∀ dd, d = some dd → ∃ fs, H dd = some (.xd fs)) ∧ PySem.W.kitOne K (.ref C) u = some b ∧ Q (.bl b) H
theorem call_isX : CallR X (.builtin "isinstance") (rIsX X.K) := by
  intro pins s σ H xs us Q I r h
  obtain ⟨a, C, d, c, u, b, rfl, hc, T, ea, hd, hk, q⟩ := h
  cases r with
  | cons r1 r2 =>
    cases r2 with
    | cons r3 r4 =>
      cases r4
      cases r1
      have eu := hc.eq r3
      subst eu
      obtain ⟨oe, vs, ga, hz, hf⟩ := exv_at I.hok ea
      have inst : ∃ od, PySem.W.InstAt s.heap a oe C od := by
        cases d with
        | none => exact ⟨none, ga, hz.1, by unfold PySem.W.notCls; rw [hf] <;> rfl, by rw [hz.2]; trivial⟩
        | some dd =>
          obtain ⟨fs, ed⟩ := hd dd rfl
          obtain ⟨mA, hns, _⟩ : ObjOk X.prog X.w H s.heap dd (.xd fs) := I.hok dd _ ed
          obtain ⟨od, ho, _⟩ := lookIn_ns hns
          exact ⟨some od, ga, hz.1, by unfold PySem.W.notCls; rw [hf] <;> rfl, by rw [hz.2]; exact ho⟩
      obtain ⟨od, inst⟩ := inst
      have hcl : (PySem.W.clsIn X.K C).isSome = true := by
        obtain ⟨cd, hcd, _⟩ := PySem.W.any_some T.hd
        rw [hcd]
        rfl
      exact PySem.W.kia_one (PySem.W.kitx_exc hcl T.hg T.hk T.hs T.ha T.hn T.ht T.hm) I.kIn inst hk (fun z => nomatch z) fun tk => ⟨.bl b, H, I.kept (t' := tk) fun _ _ z => z, rfl, q⟩
theorem call_repr_str : CallR X (.builtin "repr") (fun xs H Q => ∃ z, xs = [.str z] ∧ (reprText z).length ≤ sizeLine ∧ Q (.str (reprText z)) H) := by
  intro pins s σ H xs us Q I r h
  obtain ⟨z, rfl, hz, q⟩ := h
  obtain ⟨u, rfl, t, rfl⟩ := vals1 r
  exact PySem.P.repr_of_str ⟨.str (reprText z), H, I.tok _, ⟨_, rfl⟩, q⟩ hz
end
/-! ### what the errors' modules promise -/
/-- a value that a message can show -/
def ShowOk (x : V) : Prop := (∃ z, x = .str z ∧ (reprText z).length ≤ 20000) ∨ (∃ i, x = .int i) ∨ x = .non ∨ ∃ b, x = .bl b
def sp_shown : Sp := fun vs H Q _ => ∃ x, vs = [x] ∧ ShowOk x ∧ ∀ y : Str, y.length ≤ 20000 → Q (.str y) H
/-- __init__ of an own error: the object at a gets a dict of these fields -/
def InitLeaves (H : Hp) (a C : Addr) (fs : List (Str × V)) (Q : VK) : Prop := ∀ (dx : Addr) (H' : Hp), H dx = none → (∀ b o, b ≠ a → H b = some o → H' b = some o) → H' a = some (exo a C (some dx)) → H' dx = some (exd dx fs) → Q .non H'
def spBadNumber (C : Addr) : Sp := fun vs H Q _ => ∃ (a : Addr) (z : Str) (v : V), vs = [.ref a, .str z, v] ∧ H a = some (exo a C none) ∧ z.length ≤ 1000 ∧ ShowOk v ∧ InitLeaves H a C [("value", v), ("what", .str z)] Q
def spBadName (C : Addr) : Sp := fun vs H Q _ => ∃ (a : Addr) (v : V), vs = [.ref a, v] ∧ H a = some (exo a C none) ∧ ShowOk v ∧ InitLeaves H a C [("name", v)] Q
/-- all that is asked of an own error class -/
structure ErrC (P : Program) (K : PySem.W.Frag) (mg : Str → Option Value) (x qual : Str) (C f cda cc : Addr) : Prop where
  g : mg x = some (.ref C)
  sup : SupTxt P K mg C cda cc qual
  ini : PySem.W.findIn K (.ref C) "__init__" = some (some (.ref f))
  tyI : PySem.W.typeIn K (.ref f) = some (.type "function")
  xf : XfC K C
  isx : ExcC K C
  exm : PySem.W.exmOne K (.ref C) (.ref C) = some true
  noWhat : PySem.W.findIn K (.ref C) "what" = some none
  noValue : PySem.W.findIn K (.ref C) "value" = some none
  noName : PySem.W.findIn K (.ref C) "name" = some none
  noTurn : PySem.W.findIn K (.ref C) "turn" = some none
theorem init_leaves2 {H : Hp} {a C : Addr} {f1 f2 : Str} {v1 v2 : V} {Q : VK} (ha : H a = some (exo a C none)) (k : InitLeaves H a C [(f2, v2), (f1, v1)] Q) {dx : Addr} (nd : H dx = none) (ne : dx ≠ a) :
    Q .non (upd (upd (upd H dx (exd dx [(f1, v1)])) a (exo a C (some dx))) dx (exd dx [(f2, v2), (f1, v1)])) := by
  refine k dx _ nd (fun b o nb e => ?_) ?_ upd_same
  · have nbd : b ≠ dx := ne_of_none e nd
    rw [upd_ne nbd, upd_ne nb, upd_ne nbd]
    exact e
  · rw [upd_ne (Ne.symm ne)]
    exact upd_same
theorem init_leaves1 {H : Hp} {a C : Addr} {f1 : Str} {v1 : V} {Q : VK} (k : InitLeaves H a C [(f1, v1)] Q) {dx : Addr} (nd : H dx = none) (ne : dx ≠ a) : Q .non (upd (upd H dx (exd dx [(f1, v1)])) a (exo a C (some dx))) := by
  refine k dx _ nd (fun b o nb e => ?_) upd_same ?_
  · rw [upd_ne nb, upd_ne (ne_of_none e nd)]
    exact e
  · rw [upd_ne ne]
    exact upd_same
/-- C(..) made: its promise by what __init__ leaves; the exception itself goes, its dict stays -/
theorem made_of {H1 : Hp} {a C : Addr} {fs : List (Str × V)} {Q : XK} (na : H1 a = none) (k : ∀ (d : Addr) (H' : Hp), H1 d = none → Same H1 H' → H' d = some (.xd fs) → Q (.ref C) (some d) H') :
    InitLeaves (upd H1 a (exo a C none)) a C fs (fun v H2 => v = .non ∧ ∃ (d : Addr) (gs : List (Str × V)), H2 a = some (exo a C (some d)) ∧ H2 d = some (exd d gs) ∧ H1 d = none ∧ Q (.ref C) (some d) (upd (del H2 a) d (.xd gs))) := fun dx H' nd keep ha hd => by
  have nda : dx ≠ a := fun z => by
    rw [z, upd_same] at nd
    cases nd
  have nd1 : H1 dx = none := by
    rw [upd_ne nda] at nd
    exact nd
  refine ⟨rfl, dx, fs, ha, hd, nd1, k dx _ nd1 (fun b o e => ?_) upd_same⟩
  have nba : b ≠ a := ne_of_none e na
  rw [upd_ne (ne_of_none e nd1), del_ne nba]
  exact keep b o nba (by rw [upd_ne nba]; exact e)
end Wx

namespace Wx
open PySem PySem.Spec PyProof.Rows L2 NdefX
theorem gives_lt_ib (p : Bool) (b : Int) (u : Tok) : Gives (Builtin.«int.__lt__» ⟨[.bool p, .int b u], []⟩) (.val (Value.bool (decide ((if p = true then (1 : Int) else 0) < b)))) :=
  .of_wp fun M A E s Q h => by obtain ⟨hp, g, d, tk, os⟩ := s; wp_walk; exact ⟨_, rfl, h⟩
theorem gives_gt_ib (p : Bool) (b : Int) (u : Tok) : Gives (Builtin.«int.__gt__» ⟨[.bool p, .int b u], []⟩) (.val (Value.bool (decide ((if p = true then (1 : Int) else 0) > b)))) :=
  .of_wp fun M A E s Q h => by obtain ⟨hp, g, d, tk, os⟩ := s; wp_walk; exact ⟨_, rfl, h⟩
section
variable {prog : Program} {w : World} {A : Around} {E : Value → Shared → Prop} {s : Shared}
theorem lt_bool_int {p : Bool} {b : Int} {u : Tok} {Q : Value → Shared → Prop} (h : Q (.bool (decide (PyProof.Rows.b2i p < b))) s) : wpAny (model prog w) A (compareOp .Lt (.bool p) (.int b u)) Q E s := by
  show wpAny _ A (richCompare .Lt _ _) Q E s
  exact PySem.SeqAt.rc_left_or rfl (typeIs_int s b u) (by decide) F.sub_int_bool F.slot_bool_lt
    (call_gives F.slot_bool_lt rfl F.entry_int_lt (F.args_int_lt_2 _ _) (gives_lt_ib p b u) ⟨nofun, h⟩) (.inl rfl)
theorem lt_int_bool {p : Bool} {a : Int} {t : Tok} {Q : Value → Shared → Prop} (h : Q (.bool (decide (a < PyProof.Rows.b2i p))) s) : wpAny (model prog w) A (compareOp .Lt (.int a t) (.bool p)) Q E s := by
  show wpAny _ A (richCompare .Lt _ _) Q E s
  exact PySem.SeqAt.rc_sub_first_or (typeIs_int s a t) rfl (by decide) F.sub_bool_int F.slot_bool_gt
    (call_gives F.slot_bool_gt rfl F.entry_int_gt (F.args_int_gt_2 _ _) (gives_gt_ib p a t) ⟨nofun, h⟩) (.inl rfl)
end
def nV : V → Option Int | .int i => some i | .bl b => some (if b = true then 1 else 0) | _ => none
section
variable {X : Cx}
theorem op_ltM : OpR X (compareOp .Lt) (fun x y H Q => ∃ i j, nV x = some i ∧ nV y = some j ∧ Q (.bl (decide (i < j))) H) := by
  intro pins s σ H x y v u Q I rx ry h
  obtain ⟨i, j, hx, hy, q⟩ := h
  cases x with
  | int a =>
    obtain rfl : a = i := Option.some.inj hx
    obtain ⟨t, rfl⟩ := rx
    cases y with
    | int b =>
      obtain rfl : b = j := Option.some.inj hy
      obtain ⟨t', rfl⟩ := ry
      exact PyProof.Rows.lt_int (fin_bl I q rfl)
    | bl b =>
      obtain rfl : (if b = true then 1 else 0) = j := Option.some.inj hy
      cases ry
      exact lt_int_bool (fin_bl I q rfl)
    | _ => cases hy
  | bl a =>
    obtain rfl : (if a = true then 1 else 0) = i := Option.some.inj hx
    cases rx
    cases y with
    | int b =>
      obtain rfl : b = j := Option.some.inj hy
      obtain ⟨t', rfl⟩ := ry
      exact lt_bool_int (fin_bl I q rfl)
    | bl b =>
      obtain rfl : (if b = true then 1 else 0) = j := Option.some.inj hy
      cases ry
      exact PyProof.Rows.lt_bool (fin_bl I q rfl)
    | _ => cases hy
  | _ => cases hx
theorem call_str_ib : CallR X (.type "str") (fun xs H Q => (∃ i, xs = [.int i] ∧ i.natAbs.log2 < 1920 ∧ Q (.str (toString i)) H) ∨ ∃ b, xs = [.bl b] ∧ Q (.str (if b = true then "True" else "False")) H) := by
  intro pins s σ H xs us Q I r h
  rcases h with ⟨i, rfl, hz, q⟩ | ⟨b, rfl, q⟩
  · obtain ⟨u, rfl, t, rfl⟩ := vals1 r
    exact PySem.P.str_of_int hz ⟨.str _, H, I.tok _, ⟨_, rfl⟩, q⟩
  · obtain ⟨u, rfl, hu⟩ := vals1 r
    obtain rfl : u = Value.bool b := hu
    exact PySem.P.str_of_bool ⟨.str _, H, I.tok _, ⟨_, by cases b <;> rfl⟩, q⟩
end
end Wx

namespace Wx
open PySem PySem.Spec PyProof.Rows L2 NdefX
/-! == and != by an own __eq__, any answer; C(..) inside a try -/
section
variable {prog : Program} {w : World} {A : Around} {E : Value → Shared → Prop} {K : PySem.W.Frag} {s : Shared} {x C f : Addr} {ox : Obj} {od : Option Obj}
theorem ifBound_B {M : Model} {name : Str} {id : String} {args : List Value} {Q : Option Value → Shared → Prop} (X : K.In s.heap) (I : PySem.W.InstAt s.heap x ox C od) (hs : PySem.W.findIn K (.ref C) name = some (some (.builtin id)))
    (hb : ∀ self, bindSpecial (.builtin id) self = pure (.builtin id, [self]))
    (h : wpAny M A (call (.builtin id) (.ref x :: args)) (fun v => Q (some v)) E s) : wpAny M A (callSpecialIfBound? (.ref x) name args) Q E s := by
  simp only [callSpecialIfBound?, bindSpecialIfBound?]
  refine wpAny_holding (wpAny_bind (wpAny_bind (wpAny_bind (I.type.here ((PySem.W.looks_findIn X hs).here ?_)))))
  refine wpAny_bind (wpAny_askSetting (wpAny_ite ?_))
  have fin : wpAny M A (call (.builtin id) ([.ref x] ++ args) >>= fun v => pure (some v)) Q E s := wpAny_bind (wpAny_mono h (fun v s' h' => wpAny_pure h') fun _ _ h' => h')
  simp only [hb]
  split
  · exact wpAny_bind (wpAny_pure (wpAny_pure (by exact fin)))
  · exact wpAny_tryCatch (wpAny_bind (wpAny_pure (wpAny_pure (by exact fin))))
theorem objNe_K {b : Value} {Q : Fin → Shared → Prop} (X : K.In s.heap) (I : PySem.W.InstAt s.heap x ox C od) (hs : PySem.W.findIn K (.ref C) "__eq__" = some (some (.ref f))) (hf : PySem.W.isFn K (.ref f) = true) (hu : A.units < cLine)
    (h : wpAny (model prog w) A (call (.ref f) [.ref x, b]) (fun v s' => ∃ k, v = .bool k ∧ Q (.done (.ret (.bool (!k)))) s') E s) : wpAny (model prog w) A (Builtin.«object.__ne__» ⟨[.ref x, b], []⟩) Q E s := by
  unfold Builtin.«object.__ne__»
  repeat (first
    | with_reducible refine wpAny_cRoomFor hu ?_
    | (refine wpAny_bind (m := callSpecialIfBound? (.ref x) (Str.ofString "__eq__") [b])
        (PySem.W.ifBound_K X I hs hf (wpAny_mono h (fun r s' hr => by
          obtain ⟨k, rfl, hq⟩ := hr
          repeat (first | exact hq | exact wpAny_pure hq | exact wpAny_truthy_bool hq | (refine wpAny_bind (m := truthy (.bool _)) (wpAny_truthy_bool ?_)) | wp_step)) fun _ _ e => e)))
    | wp_step)
/-- x != y by the class's own __eq__ -/
theorem ne_K {L : Addr} {h₀ : Heap} {m : Str → Option Value} {b tb : Value} {Q : Value → Shared → Prop} (hu : A.units + 1 < cLine) (FR : Fr h₀ L s.heap m) (X₀ : K.In h₀) (I : PySem.W.InstAt s.heap x ox C od) (hb : PySem.W.Looks (model prog w) s.heap (typeOf b) tb) (hn : PySem.W.notFirst K C tb = true)
    (hne : PySem.W.findIn K (.ref C) "__ne__" = some (some (.builtin "object.__ne__"))) (ho : PySem.W.subIn K (.ref C) (.type "object") = some true)
    (hs : PySem.W.findIn K (.ref C) "__eq__" = some (some (.ref f))) (hf : PySem.W.isFn K (.ref f) = true)
    (h : wpAny (model prog w) A.in1 (call (.ref f) [.ref x, b]) (fun v s' => ∃ k, v = .bool k ∧ Q (.bool (!k)) s') E s) : wpAny (model prog w) A (richCompare .NotEq (.ref x) b) Q E s := by
  have X := X₀.keeps FR.keep
  have one : wpAny (model prog w) A (tryCompare (.ref x) "__ne__" b) (fun r s' => ∃ v, r = some v ∧ Q v s') E s := by
    simp only [tryCompare]
    refine wpAny_bind (ifBound_B X I hne F.cmp_object.ne.bind (wpAny_call (codeAny_call_builtin F.cmp_object.ne.plain F.cmpEntry_ne
      (@PySem.W.check_slot (model prog w) _ _ s "object.__ne__" "object" "__ne__" (.ref x) [b] [] _ F.cmpKind_ne F.cmpSplit_ne (I.type.andThen (PySem.W.looks_subIn X ho)) (F.cmpArgs_ne _ _)
        (objNe_K (A := A.in1) X I hs hf hu (wpAny_mono h (fun v s' hv => ?_) fun _ _ e => e))))))
    obtain ⟨k, rfl, hq⟩ := hv
    first | exact ⟨k, rfl, wpAny_pure ⟨_, rfl, hq⟩⟩ | exact ⟨k, rfl, wpAny_pure (wpAny_pure ⟨_, rfl, hq⟩)⟩ | exact ⟨k, rfl, _, rfl, hq⟩
  unfold richCompare
  simp only [oneThing_ref]
  refine wpAny_holding (wpAny_bind (wpAny_cRoomFor (Nat.lt_of_succ_lt hu) ?_))
  rw [cmpInfo_NotEq]
  dsimp only
  refine wpAny_bind (I.type.here (wpAny_bind (hb.here ?_)))
  split
  · rename_i q
    have e : PySem.W.subIn K tb (.ref C) = some false := by
      rcases Bool.or_eq_true_iff.mp hn with e | e
      · rw [beq_iff_eq.mp e] at q; simp at q
      · exact beq_iff_eq.mp e
    refine wpAny_bind ((PySem.W.looks_subIn X e).here ?_)
    simp only [Bool.false_eq_true, if_false]
    refine wpAny_bind (wpAny_mono one (fun r s' z => ?_) fun _ _ e => e)
    obtain ⟨v, rfl, hq⟩ := z
    exact wpAny_pure hq
  · refine wpAny_bind (wpAny_pure ?_)
    simp only [Bool.false_eq_true, if_false]
    refine wpAny_bind (wpAny_mono one (fun r s' z => ?_) fun _ _ e => e)
    obtain ⟨v, rfl, hq⟩ := z
    exact wpAny_pure hq
end
/-- two instances of the class at C -/
def rOwnI (K : PySem.W.Frag) (C : Addr) (sp : Sp) (E : XK) (g : Bool → Bool) : R2 := fun x y H Q => ∃ a dx fs b dy gs, x = .ref a ∧ y = .ref b ∧ H a = some (.ins C dx fs) ∧ H b = some (.ins C dy gs) ∧ sp [x, y] H (fun z H' => ∃ k, z = .bl k ∧ Q (.bl (g k)) H') E
section
variable {X : Cx} {CX : CXT} {C f : Addr} {n : Nat} {fd : FuncData} {ps : List Str} {sp : Sp} {E : XK}
theorem run_two {A : Around} {pins : List (Addr × Obj)} {σ : L2.St} {H : Hp} {s : Shared} {us : List Value} {vs : List V} {Q : VK} (F : FnOk X.prog X.w X.K X.mg X.base CX n f fd ps sp) (hr : Room n A) (e0 : Env0 X.prog X.w X.K X.mg X.base A X.stack s H) (hb : Binds X.K fd ps []) (hx : Passes CX X E)
    (I : Inv X pins σ H s) (r : Vals vs us) (h : sp vs H Q E) : wpAny (model X.prog X.w) A (call (.ref f) us) (EP X pins σ Q) X.xe s := by
  have hl : us.length = ps.length := by rw [← r.length]; exact F.len _ _ _ _ h
  refine wpAny_call (codeAny_mono (F.run A X.stack s H ⟨us, []⟩ us vs Q E hr e0 (by
    have := hb s us I.kIn (by simpa using hl)
    simpa using this) r h) fun r s' hq => ?_)
  cases r with
  | error e => exact hx pins σ H s e s' I hq
  | ok fl =>
    cases fl with
    | ret w => exact I.after hq
    | next => exact False.elim hq
    | brk => exact False.elim hq
    | cont => exact False.elim hq
theorem op_eqI (F : FnOk X.prog X.w X.K X.mg X.base CX n f fd ps sp) (hr : Room n X.A) (hs : PySem.W.findIn X.K (.ref C) "__eq__" = some (some (.ref f))) (hf : PySem.W.isFn X.K (.ref f) = true) (hb : Binds X.K fd ps []) (hx : Passes CX X E) : OpR X (compareOp .Eq) (rOwnI X.K C sp E id) := by
  intro pins s σ H x y v u Q I rx ry h
  obtain ⟨a, dx, fs, b, dy, gs, rfl, rfl, ha, hb', q⟩ := h
  cases (show v = Value.ref a from rx)
  cases (show u = Value.ref b from ry)
  obtain ⟨mA, J, _⟩ := ins_get I.hok ha
  obtain ⟨mB, J', _⟩ := ins_get I.hok hb'
  obtain ⟨od, J, _⟩ := J.look
  obtain ⟨od', J', _⟩ := J'.look
  obtain ⟨m, hF⟩ := I.fr
  show wpAny (model X.prog X.w) X.A (richCompare .Eq _ _) (EP X pins σ Q) X.xe s
  refine PySem.W.cmp_K (op := .Eq) (tb := .ref C) hr.units0 hF I.ok.mod.kin J J'.type (by simp [PySem.W.notFirst]) hs hf ?_
  refine wpAny_mono (run_two (us := [.ref a, .ref b]) (vs := [.ref a, .ref b]) F hr I.env0 hb hx I (.cons rfl (.cons rfl .nil)) q) (fun w s' z => ?_) fun _ _ x => x
  obtain ⟨z', H', I', rz, k, ez, qz⟩ := z
  subst ez
  cases (show w = Value.bool k from rz)
  exact ⟨.bl k, H', I', rfl, qz⟩
theorem op_neI (F : FnOk X.prog X.w X.K X.mg X.base CX n f fd ps sp) (hr : Room (n + 1) X.A) (hne : PySem.W.findIn X.K (.ref C) "__ne__" = some (some (.builtin "object.__ne__"))) (ho : PySem.W.subIn X.K (.ref C) (.type "object") = some true)
    (hs : PySem.W.findIn X.K (.ref C) "__eq__" = some (some (.ref f))) (hf : PySem.W.isFn X.K (.ref f) = true) (hb : Binds X.K fd ps []) (hx : Passes CX X E) : OpR X (compareOp .NotEq) (rOwnI X.K C sp E not) := by
  intro pins s σ H x y v u Q I rx ry h
  obtain ⟨a, dx, fs, b, dy, gs, rfl, rfl, ha, hb', q⟩ := h
  cases (show v = Value.ref a from rx)
  cases (show u = Value.ref b from ry)
  obtain ⟨mA, J, _⟩ := ins_get I.hok ha
  obtain ⟨mB, J', _⟩ := ins_get I.hok hb'
  obtain ⟨od, J, _⟩ := J.look
  obtain ⟨od', J', _⟩ := J'.look
  obtain ⟨m, hF⟩ := I.fr
  show wpAny (model X.prog X.w) X.A (richCompare .NotEq _ _) (EP X pins σ Q) X.xe s
  have hr1 : Room n X.A.in1 := hr.in1
  refine ne_K (tb := .ref C) hr1.units0 hF I.ok.mod.kin J J'.type (by simp [PySem.W.notFirst]) hne ho hs hf ?_
  refine wpAny_mono (run_two (us := [.ref a, .ref b]) (vs := [.ref a, .ref b]) F hr1 I.env0.in1 hb hx I (.cons rfl (.cons rfl .nil)) q) (fun w s' z => ?_) fun _ _ x => x
  obtain ⟨z', H', I', rz, k, ez, qz⟩ := z
  subst ez
  cases (show w = Value.bool k from rz)
  exact ⟨k, rfl, .bl (!k), H', I', rfl, qz⟩
end
section
variable {X : Cx} {CX : CXT} {k : Nat} {f C : Addr} {fd : FuncData} {ps : List Str} {sp : Sp} {E : L2.St → XK} {x : Str} {p pos : Pos} {e : Expr} {es : List Expr} {t : TA}
/-- C(..) where what is raised is wished for at the caller's slots -/
def tMakeS (C : Addr) (sp : Sp) (E : L2.St → XK) (t : TA) : TE := fun σ H Q => t σ H fun vs H1 => ∀ x dx, H1 x = none → H1 dx = none → dx ≠ x → sp (.ref x :: vs) (upd (upd H1 dx (.own x)) x (.ins C dx [])) (fun v H2 => v = .non ∧ Q (.ref x) H2) (E σ)
theorem pe_makeS (M : Mk X.K C f) (F : FnOk X.prog X.w X.K X.mg X.base CX k f fd ps sp) (hr : Room (k + 1) X.A) (hg : Gl X x) (hm : X.mg x = some (.ref C)) (hb : Binds X.K fd ps []) (hx : ∀ σ, PassesAt CX X σ (E σ))
    (ha : PA X (e :: es) t) (hdb : (x == ("__debug__" : Str)) = false := by decide) (he : starEach (e :: es) X.env = (false, eval e X.env) :: starEach es X.env := by rfl) (hpl : (backTo pos (starEach es X.env)).any (·.1) = false := by rfl) :
    PE X (.Call (.Name x p) (e :: es) [] pos) (tMakeS C sp E t) := by
  refine ⟨fun pins s σ H Q I h => ?_⟩
  refine wpAny_Call_Name_kw (ld_glob I hg hm ?_ hdb)
  refine PySem.W.callWith_K (h₀ := X.base) I.ok.mod.kin M.kp (thn (ha.run pos pins s σ H _ I h) fun us s1 ⟨vs, H1, I1, r, q⟩ => ⟨I1.kIn, ?_⟩) he hpl
  have hq := q (s1.heap.objs.size + 1) s1.heap.objs.size (I1.hok.fresh (Nat.le_succ _)) (I1.hok.fresh (Nat.le_refl _)) (Nat.ne_of_lt (Nat.lt_succ_self _))
  have I2 := Inv.made (C := C) I1
  have r2 : Vals (V.ref (s1.heap.objs.size + 1) :: vs) (Value.ref (s1.heap.objs.size + 1) :: us) := .cons rfl r
  have hl : (Value.ref (s1.heap.objs.size + 1) :: us).length = ps.length := by
    have e := r2.length
    rw [F.len _ _ _ _ hq] at e
    exact e.symm
  refine wpAny_call (make_map (f := f) I1.kIn M.makes M.init (beq_iff_eq.mp M.fn) (codeAny_mono (F.run _ X.stack _ _ ⟨Value.ref (s1.heap.objs.size + 1) :: us, []⟩ (Value.ref (s1.heap.objs.size + 1) :: us) _ _ (E σ) (hr.make C us [])
    (I2.env0.make C us []) (by
      have := hb _ (Value.ref (s1.heap.objs.size + 1) :: us) I2.kIn (by simpa using hl)
      simpa using this) r2 hq) fun r s' hq' => ?_))
  cases r with
  | error e => exact hx σ pins _ _ e s' I2 hq'
  | ok fl =>
    cases fl with
    | ret u =>
      obtain ⟨v, H', I3, rv, ev, q3⟩ := I2.after hq'
      subst ev
      exact ⟨rv, ⟨V.ref (s1.heap.objs.size + 1), H', I3, rfl, q3⟩⟩
    | next => exact False.elim hq'
    | brk => exact False.elim hq'
    | cont => exact False.elim hq'
end
end Wx

namespace Wx
open PySem PySem.Spec PyProof.Rows L2 NdefX
def wKeeps (K : PySem.W.Frag) (i : Nat) (Wout : WX) (D : Ends) : List (Value × (Addr → Value → Option Addr → TS)) → WX
  | [] => Wout
  | (c, ts) :: r => fun cls d σ H =>
    ∃ b, PySem.W.exmOne K cls c = some b ∧ (b = true → ∀ a, H a = none → ts a cls d { nx := fun σ1 H1 => D.nx (σ1.set i none) (upd H1 a (exv cls d a)), rt := fun v H1 => D.rt v (upd H1 a (exv cls d a)), bk := fun σ1 H1 => D.bk (σ1.set i none) (upd H1 a (exv cls d a)), ct := fun σ1 H1 => D.ct (σ1.set i none) (upd H1 a (exv cls d a)) } (σ.set i (some (.ref a))) H) ∧
      (b = false → wKeeps K i Wout D r cls d σ H)
inductive HdsKeep (X : Cx) (n : Str) : List ExceptHandler → List (Value × (Addr → Value → Option Addr → TS)) → Prop
  | nil : HdsKeep X n [] []
  | cons {x : Str} {c : Value} {ts : Addr → Value → Option Addr → TS} {b₀ : Stmt} {suite : List Stmt} {np pos' : Pos} {hds : List ExceptHandler} {l : List (Value × (Addr → Value → Option Addr → TS))} (hc : Names X x c)
      (hsu : ∀ (a : Addr) (oe : Obj) (cls : Value) (d : Option Addr) (pn : List (Addr × Obj)), Zc cls d oe → (∃ vs, oe.data = .fields vs) → PSs (X.suite a ((a, oe) :: pn)) (b₀ :: suite) (ts a cls d)) (r : HdsKeep X n hds l) :
      HdsKeep X n (.ExceptHandler (some (.Name x np)) (some n) (b₀ :: suite) pos' :: hds) ((c, ts) :: l)
section
variable {X : Cx} {n : Str} {i : Nat} {body : List Stmt} {h₀ : ExceptHandler} {hds : List ExceptHandler} {l : List (Value × (Addr → Value → Option Addr → TS))} {pos : Pos} {tb : WX → TS} {Wout : WX}
/-- several clauses, each one keeping its exception under the same name -/
theorem ps_try_keeps (hex : X.ex = []) (stk : X.stack = X.env :: X.outer) (frm : X.env.frame = some X.env.locals) (nd : X.N.Nodup) (atI : X.N[i]? = some n) (lcl : X.env.kindOf n = some .local) (tko : Takes X Wout)
    (hbody : ∀ (W : WX) (pn : List (Addr × Obj)) (xe : Value → Shared → Prop), Takes (X.tr pn xe) W → PassesOwn (model X.prog X.w) X.A X.env xe → PSs (X.tr pn xe) body (tb W))
    (hh : HdsKeep X n (h₀ :: hds) l) :
    PS X (.Try body (h₀ :: hds) [] [] pos) (fun D σ H => tb (wKeeps X.K i Wout D l) D σ H) := by
  refine ⟨fun pins s σ H D I0 rd => ?_⟩
  have okX := I0.ok
  have frA : X.A.frames = some (X.env :: X.outer) := okX.frames.trans (congrArg some stk)
  have locN : Loc X.env.scope n := Or.inl lcl
  refine wpAny_Try_except (wpAny_mono ((hbody (wKeeps X.K i Wout D l) (X.pn ++ pins) (fun e s₁ => wpAny (model X.prog X.w) X.A (noteFrame e X.env) (fun _ s₂ => wpAny (model X.prog X.w) X.A (setFlight e none) (fun _ s₃ =>
      wpAny (model X.prog X.w) X.A (handleBy e X.env (h₀ :: hds)) (SP X pins D) X.xe s₃) X.xe s₂) X.xe s₁) (fun u s' caught => ?_) PassesOwn.looking).run [] s σ H D (I0.toTry _) rd) (fun fl s1 done => ?_) (fun _ _ z => z))
  · obtain ⟨a, B, sI, pinsT, σT, HT, cls, d, rfl, JT, nb, upT, skyT, naT, osT, agT, wl⟩ := caught
    have JX : Inv X pins σT HT sI := Inv.ofTry JT okX
    have skyX : Sky B (X.env :: X.outer) a (Zc cls d) X.env.locals s'.heap := stk ▸ skyT
    show wpAny _ X.A (noteFrame (Value.ref a) X.env) _ _ _
    refine Sky.land Zc.steady frA frm skyX (fun hq flq upq => ?_)
    have Jq : Inv X pins σT HT { s' with heap := hq } := JX.landed nb flq.1 (upT.trans upq) osT agT
    obtain ⟨oeq, vsq, heq, hzq, hdq⟩ := flq.there
    have nfr : a ∉ frs (X.env :: X.outer) := fun hm => by
      obtain ⟨_, o', e', nf'⟩ := flq.2.2.1.mem hm
      have z := heq.symm.trans e'
      cases z
      exact nf' _ hdq
    have nLoc : a ≠ X.env.locals := fun z => nfr (List.mem_filterMap.mpr ⟨X.env, List.mem_cons_self, frm.trans (congrArg some z.symm)⟩)
    have nOut : a ∉ X.fs := fun hm => by
      obtain ⟨ev, hev, qv⟩ := List.mem_filterMap.mp hm
      exact nfr (List.mem_filterMap.mpr ⟨ev, List.mem_cons_of_mem _ hev, qv⟩)
    -- the exception is younger than the frame
    have sInone : sI.heap.get? a = none := by
      cases z : sI.heap.get? a with
      | none => rfl
      | some o =>
        have Bn : B.get? a = none := by
          rcases skyX with ⟨_, q, _⟩ | q | q
          · exact q
          · exact q.2.1
          · exact q.2.1
        have y := nb a o z (fun hm => nfr (by rw [← stk]; exact hm))
        rw [Bn] at y
        cases y
    have s0none : X.s_0.heap.get? a = none := by
      cases z : X.s_0.heap.get? a with
      | none => rfl
      | some o =>
        obtain ⟨o2, y⟩ := JX.base.there a o z (by rw [hex]; simp)
        rw [sInone] at y
        cases y
    have pinNe : ∀ p, p ∈ X.pn ++ pins → p.1 ≠ a := fun p hp z => by
      have y := (JX.pin p hp).1
      rw [z, sInone] at y
      cases y
    have Sq := Jq.suite heq hdq naT nLoc nOut
    have LTy : PySem.W.Looks (model X.prog X.w) hq (typeOf (.ref a)) cls := fun A Q E s k q => wpAny_typeOf_ref (k _ _ heq) (hzq.1 ▸ q)
    have go : ∀ (hs : List ExceptHandler) (l : List (Value × (Addr → Value → Option Addr → TS))), HdsKeep X n hs l → wKeeps X.K i Wout D l cls d σT HT → wpAny (model X.prog X.w) X.A (handleBy (Value.ref a) X.env hs) (SP X pins D) X.xe { s' with heap := hq } := by
      intro hs l hk
      induction hk with
      | nil =>
        intro wout
        refine wpAny_handleBy_nil ?_
        obtain ⟨z1, z2, z3, oe, vs, T1, oT1, tsT, he, hz, hd, h1, hr1⟩ := id flq
        unfold PySem.passOn
        refine wpAny_bind (wpAny_field he hd h1 ?_)
        rw [if_neg (show ¬ ((Value.ref T1 == Value.none) = true) by simp)]
        have fin : wpAny (model X.prog X.w) X.A (setFlight (.ref a) X.env.frame) (fun _ s4 => wpAny (model X.prog X.w) X.A (throw (.ref a) : Sem Flow) (SP X pins D) X.xe s4) X.xe { s' with heap := hq } := by
          rw [frm]
          exact HandSPX.setFlight_upZ flq fun h4 hh4 up4 => wpAny_throw (tko _ _ ⟨a, B, sI, pins, σT, HT, cls, d, rfl, JX, nb, (upT.trans upq).trans up4, .inr (.inr (by rw [stk]; exact hh4)), naT, osT, agT, wout⟩)
        first
          | exact wpAny_bind (wpAny_pure (wpAny_bind fin))
          | exact wpAny_bind fin
      | @cons x c ts b₀ suite np pos' hs l nms hsuite hrest ih =>
        intro wl
        obtain ⟨b, hcl, hyes, hno⟩ := wl
        refine wpAny_handleBy_cons (codeAny_handlers_test ?_) (by rintro ⟨⟩)
        have LEx := PySem.W.exm_one (M := model X.prog X.w) Jq.kIn LTy hcl
        have tst : ∀ {Q : Value → Shared → Prop} {E : Value → Shared → Prop}, Q c { s' with heap := hq } → wpAny (model X.prog X.w) (X.A.mark (some (.ref a))) (eval (.Name x np) X.env) Q E { s' with heap := hq } := fun {Q E} q => by
          obtain ⟨g1, g2, g3 | ⟨g3, g4, g5⟩⟩ := nms
          · exact ld_glob (X := X.suite a ((a, oeq) :: (X.pn ++ pins))) Sq g1 g3 q g2
          · exact ld_blt (X := X.suite a ((a, oeq) :: (X.pn ++ pins))) Sq g1 g3 g4 q g5 g2
        refine tst (LEx.here ?_)
        cases b with
        | true =>
          refine codeAny_handlers_suite_as (HandSPX.lands_againZ flq fun hr flr upr => ?_)
          have Jr : Inv X pins σT HT { s' with heap := hr } := JX.landed nb flr.1 ((upT.trans upq).trans upr) osT agT
          obtain ⟨oer, vsr, her, hzr, hdr⟩ := flr.there
          have Sr := Jr.suite her hdr naT nLoc nOut
          refine store_ok (X := X.suite a ((a, oer) :: (X.pn ++ pins))) (v := V.ref a) Sr nd atI locN rfl (fun s5 S5 => ?_) (Or.inr lcl)
          refine wpAny_mono ((hsuite a oer cls d (X.pn ++ pins) hzr ⟨_, hdr⟩).run [] s5 _ HT _ S5 (hyes rfl a naT)) (fun fl s6 out => ?_) (fun _ _ z => z.elim)
          have leave : ∀ {σ6 : L2.St} {H6 : Hp} {Q : Shared → Prop}, Inv (X.suite a ((a, oer) :: (X.pn ++ pins))) [] σ6 H6 s6 → (∀ s7, Inv X pins (σ6.set i none) (upd H6 a (exv cls d a)) s7 → Q s7) →
              wpAny (model X.prog X.w) X.A (do bindName X.env n .none; unbindBehindTheSuite X.env n pos') (fun _ s7 => Q s7) X.xe s6 := fun {σ6 H6 Q} S6 hQ => by
            have S7 : Inv X ((a, oer) :: pins) σ6 H6 s6 := ⟨okX, S6.os, S6.bare, S6.base, S6.loc, S6.cell, S6.free, S6.freeC, fun p hp => S6.pin p (by
              rw [List.append_nil]
              rcases List.mem_append.mp hp with z | z
              · exact List.mem_cons_of_mem _ (List.mem_append_left _ z)
              · rcases List.mem_cons.mp z with y | y
                · rw [y]
                  exact List.mem_cons_self
                · exact List.mem_cons_of_mem _ (List.mem_append_right _ y)), S6.hok, S6.len⟩
            exact gone_ok S7 nd atI lcl fun s7 J7 => hQ s7 (tracked J7 s0none pinNe hzr hdr)
          cases fl with
          | next =>
            obtain ⟨σ6, H6, S6, q6⟩ := out
            exact leave S6 fun s7 J7 => ⟨_, _, J7, q6⟩
          | brk =>
            obtain ⟨σ6, H6, S6, q6⟩ := out
            exact leave S6 fun s7 J7 => ⟨_, _, J7, q6⟩
          | cont =>
            obtain ⟨σ6, H6, S6, q6⟩ := out
            exact leave S6 fun s7 J7 => ⟨_, _, J7, q6⟩
          | ret u =>
            obtain ⟨v6, σ6, H6, S6, r6, q6⟩ := out
            exact leave S6 fun s7 J7 => ⟨_, _, _, J7, r6, q6⟩
        | false => exact ih (hno rfl)
    exact go _ _ hh wl
  · cases fl with
    | next =>
      obtain ⟨σ1, H1, J1, q1⟩ := done
      exact wpAny_execs_nil ⟨σ1, H1, J1.ofTry okX, q1⟩
    | brk =>
      obtain ⟨σ1, H1, J1, q1⟩ := done
      exact ⟨σ1, H1, J1.ofTry okX, q1⟩
    | cont =>
      obtain ⟨σ1, H1, J1, q1⟩ := done
      exact ⟨σ1, H1, J1.ofTry okX, q1⟩
    | ret u =>
      obtain ⟨v1, σ1, H1, J1, r1, q1⟩ := done
      exact ⟨v1, σ1, H1, J1.ofTry okX, r1, q1⟩
end
end Wx

namespace Wx
open PySem PySem.Spec PyProof.Rows L2 NdefX
theorem dropPin {X : Cx} {pins : List (Addr × Obj)} {σ : L2.St} {H : Hp} {s : Shared} {p : Addr × Obj} (J : Inv X (p :: pins) σ H s) : Inv X pins σ H s :=
  ⟨J.ok, J.os, J.bare, J.base, J.loc, J.cell, J.free, J.freeC, fun q hq => J.pin q (by
    rcases List.mem_append.mp hq with z | z
    · exact List.mem_append_left _ z
    · exact List.mem_append_right _ (List.mem_cons_of_mem _ z)), J.hok, J.len⟩
def wAss (K : PySem.W.Frag) (i : Nat) (Wout : WX) (D : Ends) : List (Value × (Addr → Value → Option Addr → TS)) → WX
  | [] => Wout
  | (c, ts) :: r => fun cls d σ H =>
    ∃ b, PySem.W.exmOne K cls c = some b ∧ (b = true → ∀ a, H a = none → ts a cls d { nx := fun σ1 H1 => D.nx (σ1.set i none) H1, rt := D.rt, bk := fun σ1 H1 => D.bk (σ1.set i none) H1, ct := fun σ1 H1 => D.ct (σ1.set i none) H1 } (σ.set i (some (.ref a))) H) ∧
      (b = false → wAss K i Wout D r cls d σ H)
inductive HdsAs (X : Cx) (n : Str) : List ExceptHandler → List (Value × (Addr → Value → Option Addr → TS)) → Prop
  | nil : HdsAs X n [] []
  | cons {x : Str} {c : Value} {ts : Addr → Value → Option Addr → TS} {b₀ : Stmt} {suite : List Stmt} {np pos' : Pos} {hds : List ExceptHandler} {l : List (Value × (Addr → Value → Option Addr → TS))} (hc : Names X x c)
      (hsu : ∀ (a : Addr) (oe : Obj) (cls : Value) (d : Option Addr) (pn : List (Addr × Obj)), Zc cls d oe → (∃ vs, oe.data = .fields vs) → PSs (X.suite a ((a, oe) :: pn)) (b₀ :: suite) (ts a cls d)) (r : HdsAs X n hds l) :
      HdsAs X n (.ExceptHandler (some (.Name x np)) (some n) (b₀ :: suite) pos' :: hds) ((c, ts) :: l)
section
variable {X : Cx} {n : Str} {i : Nat} {body : List Stmt} {h₀ : ExceptHandler} {hds : List ExceptHandler} {l : List (Value × (Addr → Value → Option Addr → TS))} {pos : Pos} {tb : WX → TS} {Wout : WX}
/-- several clauses with the same name; the exception is let go behind the suite -/
theorem ps_try_ass (hex : X.ex = []) (stk : X.stack = X.env :: X.outer) (frm : X.env.frame = some X.env.locals) (nd : X.N.Nodup) (atI : X.N[i]? = some n) (lcl : X.env.kindOf n = some .local) (tko : Takes X Wout)
    (hbody : ∀ (W : WX) (pn : List (Addr × Obj)) (xe : Value → Shared → Prop), Takes (X.tr pn xe) W → PassesOwn (model X.prog X.w) X.A X.env xe → PSs (X.tr pn xe) body (tb W))
    (hh : HdsAs X n (h₀ :: hds) l) :
    PS X (.Try body (h₀ :: hds) [] [] pos) (fun D σ H => tb (wAss X.K i Wout D l) D σ H) := by
  refine ⟨fun pins s σ H D I0 rd => ?_⟩
  have okX := I0.ok
  have frA : X.A.frames = some (X.env :: X.outer) := okX.frames.trans (congrArg some stk)
  have locN : Loc X.env.scope n := Or.inl lcl
  refine wpAny_Try_except (wpAny_mono ((hbody (wAss X.K i Wout D l) (X.pn ++ pins) (fun e s₁ => wpAny (model X.prog X.w) X.A (noteFrame e X.env) (fun _ s₂ => wpAny (model X.prog X.w) X.A (setFlight e none) (fun _ s₃ =>
      wpAny (model X.prog X.w) X.A (handleBy e X.env (h₀ :: hds)) (SP X pins D) X.xe s₃) X.xe s₂) X.xe s₁) (fun u s' caught => ?_) PassesOwn.looking).run [] s σ H D (I0.toTry _) rd) (fun fl s1 done => ?_) (fun _ _ z => z))
  · obtain ⟨a, B, sI, pinsT, σT, HT, cls, d, rfl, JT, nb, upT, skyT, naT, osT, agT, wl⟩ := caught
    have JX : Inv X pins σT HT sI := Inv.ofTry JT okX
    have skyX : Sky B (X.env :: X.outer) a (Zc cls d) X.env.locals s'.heap := stk ▸ skyT
    show wpAny _ X.A (noteFrame (Value.ref a) X.env) _ _ _
    refine Sky.land Zc.steady frA frm skyX (fun hq flq upq => ?_)
    have Jq : Inv X pins σT HT { s' with heap := hq } := JX.landed nb flq.1 (upT.trans upq) osT agT
    obtain ⟨oeq, vsq, heq, hzq, hdq⟩ := flq.there
    have nfr : a ∉ frs (X.env :: X.outer) := fun hm => by
      obtain ⟨_, o', e', nf'⟩ := flq.2.2.1.mem hm
      have z := heq.symm.trans e'
      cases z
      exact nf' _ hdq
    have nLoc : a ≠ X.env.locals := fun z => nfr (List.mem_filterMap.mpr ⟨X.env, List.mem_cons_self, frm.trans (congrArg some z.symm)⟩)
    have nOut : a ∉ X.fs := fun hm => by
      obtain ⟨ev, hev, qv⟩ := List.mem_filterMap.mp hm
      exact nfr (List.mem_filterMap.mpr ⟨ev, List.mem_cons_of_mem _ hev, qv⟩)
    -- the exception is younger than the frame
    have sInone : sI.heap.get? a = none := by
      cases z : sI.heap.get? a with
      | none => rfl
      | some o =>
        have Bn : B.get? a = none := by
          rcases skyX with ⟨_, q, _⟩ | q | q
          · exact q
          · exact q.2.1
          · exact q.2.1
        have y := nb a o z (fun hm => nfr (by rw [← stk]; exact hm))
        rw [Bn] at y
        cases y
    have s0none : X.s_0.heap.get? a = none := by
      cases z : X.s_0.heap.get? a with
      | none => rfl
      | some o =>
        obtain ⟨o2, y⟩ := JX.base.there a o z (by rw [hex]; simp)
        rw [sInone] at y
        cases y
    have pinNe : ∀ p, p ∈ X.pn ++ pins → p.1 ≠ a := fun p hp z => by
      have y := (JX.pin p hp).1
      rw [z, sInone] at y
      cases y
    have Sq := Jq.suite heq hdq naT nLoc nOut
    have LTy : PySem.W.Looks (model X.prog X.w) hq (typeOf (.ref a)) cls := fun A Q E s k q => wpAny_typeOf_ref (k _ _ heq) (hzq.1 ▸ q)
    have go : ∀ (hs : List ExceptHandler) (l : List (Value × (Addr → Value → Option Addr → TS))), HdsAs X n hs l → wAss X.K i Wout D l cls d σT HT → wpAny (model X.prog X.w) X.A (handleBy (Value.ref a) X.env hs) (SP X pins D) X.xe { s' with heap := hq } := by
      intro hs l hk
      induction hk with
      | nil =>
        intro wout
        refine wpAny_handleBy_nil ?_
        obtain ⟨z1, z2, z3, oe, vs, T1, oT1, tsT, he, hz, hd, h1, hr1⟩ := id flq
        unfold PySem.passOn
        refine wpAny_bind (wpAny_field he hd h1 ?_)
        rw [if_neg (show ¬ ((Value.ref T1 == Value.none) = true) by simp)]
        have fin : wpAny (model X.prog X.w) X.A (setFlight (.ref a) X.env.frame) (fun _ s4 => wpAny (model X.prog X.w) X.A (throw (.ref a) : Sem Flow) (SP X pins D) X.xe s4) X.xe { s' with heap := hq } := by
          rw [frm]
          exact HandSPX.setFlight_upZ flq fun h4 hh4 up4 => wpAny_throw (tko _ _ ⟨a, B, sI, pins, σT, HT, cls, d, rfl, JX, nb, (upT.trans upq).trans up4, .inr (.inr (by rw [stk]; exact hh4)), naT, osT, agT, wout⟩)
        first
          | exact wpAny_bind (wpAny_pure (wpAny_bind fin))
          | exact wpAny_bind fin
      | @cons x c ts b₀ suite np pos' hs l nms hsuite hrest ih =>
        intro wl
        obtain ⟨b, hcl, hyes, hno⟩ := wl
        refine wpAny_handleBy_cons (codeAny_handlers_test ?_) (by rintro ⟨⟩)
        have LEx := PySem.W.exm_one (M := model X.prog X.w) Jq.kIn LTy hcl
        have tst : ∀ {Q : Value → Shared → Prop} {E : Value → Shared → Prop}, Q c { s' with heap := hq } → wpAny (model X.prog X.w) (X.A.mark (some (.ref a))) (eval (.Name x np) X.env) Q E { s' with heap := hq } := fun {Q E} q => by
          obtain ⟨g1, g2, g3 | ⟨g3, g4, g5⟩⟩ := nms
          · exact ld_glob (X := X.suite a ((a, oeq) :: (X.pn ++ pins))) Sq g1 g3 q g2
          · exact ld_blt (X := X.suite a ((a, oeq) :: (X.pn ++ pins))) Sq g1 g3 g4 q g5 g2
        refine tst (LEx.here ?_)
        cases b with
        | true =>
          refine codeAny_handlers_suite_as (HandSPX.lands_againZ flq fun hr flr upr => ?_)
          have Jr : Inv X pins σT HT { s' with heap := hr } := JX.landed nb flr.1 ((upT.trans upq).trans upr) osT agT
          obtain ⟨oer, vsr, her, hzr, hdr⟩ := flr.there
          have Sr := Jr.suite her hdr naT nLoc nOut
          refine store_ok (X := X.suite a ((a, oer) :: (X.pn ++ pins))) (v := V.ref a) Sr nd atI locN rfl (fun s5 S5 => ?_) (Or.inr lcl)
          refine wpAny_mono ((hsuite a oer cls d (X.pn ++ pins) hzr ⟨_, hdr⟩).run [] s5 _ HT _ S5 (hyes rfl a naT)) (fun fl s6 out => ?_) (fun _ _ z => z.elim)
          have leave : ∀ {σ6 : L2.St} {H6 : Hp} {Q : Shared → Prop}, Inv (X.suite a ((a, oer) :: (X.pn ++ pins))) [] σ6 H6 s6 → (∀ s7, Inv X pins (σ6.set i none) H6 s7 → Q s7) →
              wpAny (model X.prog X.w) X.A (do bindName X.env n .none; unbindBehindTheSuite X.env n pos') (fun _ s7 => Q s7) X.xe s6 := fun {σ6 H6 Q} S6 hQ => by
            have S7 : Inv X ((a, oer) :: pins) σ6 H6 s6 := ⟨okX, S6.os, S6.bare, S6.base, S6.loc, S6.cell, S6.free, S6.freeC, fun p hp => S6.pin p (by
              rw [List.append_nil]
              rcases List.mem_append.mp hp with z | z
              · exact List.mem_cons_of_mem _ (List.mem_append_left _ z)
              · rcases List.mem_cons.mp z with y | y
                · rw [y]
                  exact List.mem_cons_self
                · exact List.mem_cons_of_mem _ (List.mem_append_right _ y)), S6.hok, S6.len⟩
            exact gone_ok S7 nd atI lcl fun s7 J7 => hQ s7 (dropPin J7)
          cases fl with
          | next =>
            obtain ⟨σ6, H6, S6, q6⟩ := out
            exact leave S6 fun s7 J7 => ⟨_, _, J7, q6⟩
          | brk =>
            obtain ⟨σ6, H6, S6, q6⟩ := out
            exact leave S6 fun s7 J7 => ⟨_, _, J7, q6⟩
          | cont =>
            obtain ⟨σ6, H6, S6, q6⟩ := out
            exact leave S6 fun s7 J7 => ⟨_, _, J7, q6⟩
          | ret u =>
            obtain ⟨v6, σ6, H6, S6, r6, q6⟩ := out
            exact leave S6 fun s7 J7 => ⟨_, _, _, J7, r6, q6⟩
        | false => exact ih (hno rfl)
    exact go _ _ hh wl
  · cases fl with
    | next =>
      obtain ⟨σ1, H1, J1, q1⟩ := done
      exact wpAny_execs_nil ⟨σ1, H1, J1.ofTry okX, q1⟩
    | brk =>
      obtain ⟨σ1, H1, J1, q1⟩ := done
      exact ⟨σ1, H1, J1.ofTry okX, q1⟩
    | cont =>
      obtain ⟨σ1, H1, J1, q1⟩ := done
      exact ⟨σ1, H1, J1.ofTry okX, q1⟩
    | ret u =>
      obtain ⟨v1, σ1, H1, J1, r1, q1⟩ := done
      exact ⟨v1, σ1, H1, J1.ofTry okX, r1, q1⟩
end
end Wx

namespace Wx
open PySem PySem.Spec PyProof.Rows L2 NdefX
/-! a list comprehension from which an exception may leave -/
/-- in the air over the frames l, the frame L at work: sI is the state without it -/
def Aloft (stk : List Env) (L : Addr) (sI : Shared) (H : Hp) (E : XK) (u : Value) (s' : Shared) : Prop :=
  ∃ (a : Addr) (B : Heap) (cls : Value) (d : Option Addr), u = .ref a ∧ (∀ b o, sI.heap.get? b = some o → b ∉ frs stk → B.get? b = some o) ∧ sI.heap.UpToSlots s'.heap ∧
    Sky B stk a (Zc cls d) L s'.heap ∧ H a = none ∧ s'.os = sI.os ∧ AllBare s'.gens ∧ E cls d H
/-- what is let out at the slots σ is taken -/
structure Air (X : Cx) (σ : L2.St) (E : XK) : Prop where
  ex : ∃ (ev : Env) (outer : List Env) (L : Addr), X.stack = ev :: outer ∧ ev.frame = some L ∧ X.env.frame = some L ∧
    ∀ (pins : List (Addr × Obj)) (H : Hp) (sI : Shared) (u : Value) (s' : Shared), Inv X pins σ H sI → Aloft X.stack L sI H E u s' → X.xe u s'
section
variable {X : Cx} {pins : List (Addr × Obj)} {σ : L2.St} {H : Hp} {s s' : Shared} {E : XK} {W : WX}
theorem air_of {σ : L2.St} (tk : Takes X W) (hs : X.stack = X.env :: X.outer) (hf : X.env.frame = some X.env.locals) : Air X σ (WE W σ) :=
  ⟨X.env, X.outer, X.env.locals, hs, hf, hf, fun pins H sI u s' I ⟨a, B, cls, d, e, nb, up, sky, na, os, ag, w⟩ => tk u s' ⟨a, B, sI, pins, σ, H, cls, d, e, I, nb, up, sky, na, os, ag, w⟩⟩
theorem Air.pass (x : Air X σ E) : PassesAt (L2.CX X.prog X.w) X σ E := fun pins H s u s' I c => by
  obtain ⟨ev, outer, L, hs, hf, hg, k⟩ := x.ex
  obtain ⟨a, B, H', cls, d, rfl, fl, hok, ub, na, os, ag, hE⟩ := c
  obtain ⟨G, g1, g2⟩ := restrict s'.heap fun b => (B.get? b).isSome || decide (b ∈ frs X.stack)
  have st : B.StaysIn s'.heap := fl.1
  have gB : ∀ b o, B.get? b = some o → G.get? b = some o := fun b o e => by
    have q : ((B.get? b).isSome || decide (b ∈ frs X.stack)) = true := by rw [e]; rfl
    exact (g1 b q).trans (st b o e)
  have gF : ∀ b, b ∈ frs X.stack → G.get? b = s'.heap.get? b := fun b hb => g1 b (by rw [decide_eq_true hb, Bool.or_true])
  have back : ∀ b o, G.get? b = some o → s'.heap.get? b = some o ∧ ((B.get? b).isSome = true ∨ b ∈ frs X.stack) := fun b o e => by
    by_cases q : ((B.get? b).isSome || decide (b ∈ frs X.stack)) = true
    · rw [g1 b q] at e
      refine ⟨e, ?_⟩
      rcases Bool.or_eq_true_iff.mp q with y | y
      · exact .inl y
      · exact .inr (of_decide_eq_true y)
    · rw [g2 b (Bool.eq_false_iff.mpr q)] at e
      cases e
  have I1 : Inv X pins σ H' { s with heap := G, gens := s'.gens, drawn := s'.drawn, toks := s'.toks } := by
    refine I.call (ch := []) ⟨fun b o e n hb _ => gB b o (ub.keep b o e n hb), fun b o e n hb _ => ?_, fun b o e n _ => ub.free b o e n, fun b o e _ => ?_, ub.tups, ub.frzs, ub.tbls⟩ (hok.kept gB) ag (fun _ z => nomatch z)
    · obtain ⟨sl, q⟩ := ub.slot b o e hb
      exact ⟨sl, (gF b hb).trans q⟩
    · by_cases hb : b ∈ frs X.stack
      · obtain ⟨sl, q⟩ := ub.slot b o e hb
        exact ⟨_, (gF b hb).trans q⟩
      · obtain ⟨o', q⟩ := ub.there b o e hb
        exact ⟨o', gB b o' q⟩
  refine k pins H' _ _ _ I1 ⟨a, B, cls, d, rfl, fun b o e hb => ?_, Heap.UpToSlots.of_keeps fun b o e => (back b o e).1, .inr (.inl fl), na, os, ag, hE⟩
  obtain ⟨e1, e2 | e2⟩ := back b o e
  · obtain ⟨o', q⟩ := Option.isSome_iff_exists.mp e2
    have z := (st b o' q).symm.trans e1
    cases z
    exact q
  · exact absurd e2 hb
end
theorem passNo {X : Cx} (σ : L2.St) : PassesAt (L2.CX X.prog X.w) X σ ((fun _ _ _ _ => False : L2.St → XK) σ) := fun _ _ _ _ _ _ c => by
  obtain ⟨_, _, _, _, _, _, _, _, _, _, _, _, hE⟩ := c
  exact hE.elim
theorem funFrames_step {h h2 B B' : Heap} : ∀ {l : List Env}, h.FunFrames B l → (∀ b, B.get? b = none → B'.get? b = none) → (∀ b o, B.get? b = none → h.get? b = some o → h2.get? b = some o) → h2.FunFrames B' l
  | [], _, _, _ => trivial
  | env :: l, hl, k1, k2 => by
    obtain ⟨hk, ⟨L, o, hf, hn, ho, hd⟩, hr⟩ := hl
    exact ⟨hk, ⟨L, o, hf, k1 _ hn, k2 _ _ hn ho, hd⟩, funFrames_step hr k1 k2⟩
theorem note_same {e : Value} {e1 e2 : Env} (h : e1.frame = e2.frame) : noteFrame e e1 = noteFrame e e2 := by
  unfold noteFrame PySem.frameOf
  rw [h]
section
variable {M : Model} {A : Around} {E : Value → Shared → Prop} {s : Shared} {env : Env}
/-- behind a block: let go of its names; an exception goes on by the block's own environment -/
def postX (M : Model) (A : Around) (E : Value → Shared → Prop) (use : Option (Value → Sem Unit)) (Q : Value → Shared → Prop) (acc : Value) (cenv : Env) (r : Result) (s' : Shared) : Prop :=
  match r, use with
  | .ok _, none => ∃ m, s'.heap.Ns cenv.locals m ∧ ∀ h', Heap.SameBut cenv.locals s'.heap h' → Q acc { s' with heap := h' }
  | .ok _, some u => wpAny M A (u acc) (fun _ s'' => ∃ m, s''.heap.Ns cenv.locals m ∧ ∀ h', Heap.SameBut cenv.locals s''.heap h' → Q .none { s'' with heap := h' }) E s'
  | .error x, _ => ∃ m, s'.heap.Ns cenv.locals m ∧ ∀ h', Heap.SameBut cenv.locals s'.heap h' → wpAny M A (passOn "comprehension.variables-let-go" x cenv : Sem Value) (fun _ _ => False) E { s' with heap := h' }
theorem comprehension_freeX {e : Expr} {scope : Scope} {pos : Pos} {newAcc first : Sem Value} {g : Comprehension} {gs : List Comprehension} {cl : List (Str × Addr)} {use : Option (Value → Sem Unit)}
    {Q : Value → Shared → Prop}
    (hcl : clausesOf e = g :: gs) (hs : ∀ x, foldedSetIterable g.iter env x = pure x) (hclos : closureFor scope env = pure cl)
    (hkind : scope.kind = .function) (hnames : ∀ x ∈ scope.names, x.2 = .local → scope.names.lookup x.1 = some .local)
    (h : wpAny M A first (fun x s₁ => wpAny M A (pyIter x) (fun it s₂ => wpAny M A newAcc (fun acc s₃ =>
      wpAny M A (newFunctionEnv scope env.globals cl [] env.qual none .none (some env)) (fun cenv s₄ =>
        codeAny M A (.compStart e 0 it acc { cenv with scope := relabel scope env }) (postX M A E use Q acc { cenv with scope := relabel scope env }) s₄) E s₃) E s₂) E s₁) E s) :
    wpAny M A (comprehension e scope env pos newAcc false first use) Q E s := by
  unfold comprehension
  rw [hclos, hcl]
  refine wpAny_bind (wpAny_mono h (fun x s₁ h₁ => wpAny_bind (wpAny_standAt (wpAny_bind (wpAny_of_eq (hs x) (wpAny_bind (wpAny_holding (wpAny_mono h₁ (fun it s₂ h₂ =>
    wpAny_standIf (wpAny_bind (wpAny_mono h₂ (fun acc s₃ h₃ => wpAny_bind (wpAny_pure (wpAny_bind (wpAny_mono h₃ (fun cenv s₄ h₄ => ?_) fun _ _ h' => h')))) fun _ _ h' => h')))
      fun _ _ h' => h'))))))) fun _ _ h' => h')
  dsimp only
  have hv : ∀ x ∈ (scope.names.filter fun x => (x.2 == .local || x.2 == .cell) && x.1 != (".0" : Str)).reverse, x.2 = .local →
      Env.kindOf { cenv with scope := relabel scope env } x.1 = some .local := fun x hx hl => lookup_relabel_local (hnames x (List.mem_filter.mp (List.mem_reverse.mp hx)).1 hl)
  have hv' : ∀ x ∈ (scope.names.filter fun x => (x.2 == .local || x.2 == .cell) && x.1 != (".0" : Str)).reverse.drop 1 ++ (scope.names.filter fun x => (x.2 == .local || x.2 == .cell) && x.1 != (".0" : Str)).reverse.take 1,
      x.2 = .local → Env.kindOf { cenv with scope := relabel scope env } x.1 = some .local := fun x hx hl => by
    rcases List.mem_append.mp hx with h1 | h1
    · exact hv x (List.mem_of_mem_drop h1) hl
    · exact hv x (List.mem_of_mem_take h1) hl
  refine wpAny_holding (wpAny_bind (wpAny_attempt (wpAny_holding (wpAny_run (codeAny_mono h₄ fun r s' hr => ?_)))))
  cases r with
  | ok f =>
    cases use with
    | none =>
      obtain ⟨m, hn, hr⟩ := hr
      exact wpAny_bind (wpAny_holding (wpAny_comp_letGo (cenv := { cenv with scope := relabel scope env }) hkind _ s' m hv hn fun h' m' _ hs' => wpAny_pure (hr h' hs')))
    | some u =>
      refine wpAny_bind (wpAny_rule (wpAny_bind (wpAny_holding (wpAny_mono hr (fun _ s'' hr' => ?_) fun _ _ h' => h'))))
      obtain ⟨m, hn, hr'⟩ := hr'
      exact wpAny_bind (wpAny_comp_letGo (cenv := { cenv with scope := relabel scope env }) hkind _ s'' m hv' hn fun h' m' _ hs' => wpAny_pure (hr' h' hs'))
  | error x =>
    have hr' : ∃ m, s'.heap.Ns cenv.locals m ∧ ∀ h', Heap.SameBut cenv.locals s'.heap h' → wpAny M A (passOn "comprehension.variables-let-go" x { cenv with scope := relabel scope env } : Sem Value) (fun _ _ => False) E { s' with heap := h' } := by cases use <;> exact hr
    obtain ⟨m, hn, hr⟩ := hr'
    exact wpAny_bind (wpAny_holding (wpAny_comp_letGo (cenv := { cenv with scope := relabel scope env }) hkind _ s' m hv hn fun h' m' _ hs' => wpAny_mono (hr h' hs') (fun _ _ f => f.elim) fun _ _ y => y))
end
section
variable {X : Cx}
theorem lc_coreX {E : L2.St → XK} {pins : List (Addr × Obj)} {s : Shared} {σ : L2.St} {H : Hp} {Q : VK} {elt tg iter : Expr} {ifs : List Expr} {scope : Scope} {own : List (Str × Nat)} {pos pos' : Pos} {wi : TI} {g : TG} {tt : TT} {te : XK → TE} {Qf : Value → Shared → Prop}
    (hc : X.calm = true) (hN : X.N.Nodup) (I : Inv X pins σ H s) (hi : PI X tg iter wi) (ok : BlkOk X.N X.env.scope scope own)
    (hg : ∀ (s : Shared) (H : Hp) (C : Addr) (cl : List (Str × Addr)) (fp : List Addr), PG (X.blk s H scope (compEnvC scope cl C X.env) fp) tg g) (ht : ∀ (s : Shared) (H : Hp) (C : Addr) (cl : List (Str × Addr)) (fp : List Addr), PTs (X.blk s H scope (compEnvC scope cl C X.env) fp) ifs tt)
    (air : Air X σ (E σ)) (he : ∀ (s : Shared) (H : Hp) (C : Addr) (cl : List (Str × Addr)) (fp : List Addr) (xe : Value → Shared → Prop) (E1 : XK), (∀ σ1, Air ((X.blk s H scope (compEnvC scope cl C X.env) fp).wish xe) σ1 E1) → PE ((X.blk s H scope (compEnvC scope cl C X.env) fp).wish xe) elt (te E1)) (hs : ∀ x, foldedSetIterable iter X.env x = pure x)
    (h : tLc wi g tt (te (E σ)) (own.map (·.2)) σ H Q)
    (hRR : ∀ D C s' m H', Inv X pins σ H' s' → Q (.ref D) H' → s'.heap.Ns C m → FpOk X pins H' C → compPost (model X.prog X.w) X.A X.xe none Qf (.ref D) C (.ok .next) s') :
    wpAny (model X.prog X.w) X.A (comprehension (.ListComp elt [⟨tg, iter, ifs, 0⟩] scope pos) scope X.env pos' (newList []) false (eval iter X.env) none) Qf X.xe s := by
  have hfree : ∀ y ∈ scope.names, y.2 = .free → ∃ c, X.env.cells.lookup y.1 = some c := fun y hy e => by
    rcases ok.free y hy e with k | k
    · exact I.ok.has _ (.inl k)
    · exact I.ok.has _ (.inr k)
  refine comprehension_freeX (use := none) rfl hs (closure_ok hfree) ok.kind (fun y hy e => by rw [ok.uniq y hy, e])
    (thn (hi.run pins s σ H _ I h) fun xv s1 hx => thn hx fun itv s2 h2 => ?_)
  obtain ⟨it, fp, tn, J, H2, e, I2, T, st2, f2, q⟩ := h2
  subst e
  refine wpAny_newObj_type (newEnv_comp ?_) (by show 0 ≤ sizeLine; decide)
  generalize hD : s2.heap.objs.size = D
  have hDn : H2 D = none := I2.hok.fresh (Nat.le_of_eq hD)
  obtain ⟨W, ⟨m0, w0⟩, turn⟩ := q D hDn
  -- the new list
  generalize hs3 : ({ s2 with heap := s2.heap.push { cls := .type "list", data := .seq ([] : List Value).toArray } } : Shared) = s3
  have I3 : Inv X pins σ (upd H2 D (.lst [])) s3 := by
    rw [← hs3]
    refine I2.laid (t' := s2.toks) (fun b o e => Heap.get?_push_of_some _ e) (Nat.le_of_eq hD) ⟨Nat.zero_le _, [], 0, .nil, ?_⟩
    rw [← hD]
    exact Heap.get?_push_size _ rfl
  have h3 : s3.heap = s2.heap.push { cls := .type "list", data := .seq ([] : List Value).toArray } := by rw [← hs3]
  have sz : ∀ b ∈ fp, b < s2.heap.objs.size := fun b hb => by
    obtain ⟨o, e, _⟩ := T.obj _ _ st2 b hb
    exact Heap.lt_size e
  have f3 : ∀ b ∈ fp, FpOk X pins (upd H2 D (.lst [])) b ∧ b < s3.heap.objs.size := fun b hb => by
    have hlt := sz b hb
    refine ⟨⟨?_, (f2 b hb).2⟩, by rw [h3, Heap.size_push]; exact Nat.lt_succ_of_lt hlt⟩
    rw [upd_ne (by rw [← hD]; exact Nat.ne_of_lt hlt)]
    exact (f2 b hb).1
  have st3 : tn 0 s3.heap := T.keep _ _ _ st2 fun b _ o e => by rw [h3]; exact Heap.get?_push_of_some _ e
  have I4 := block_start I3 ok hN f3
  have pg := hg s3 (upd H2 D (.lst [])) s3.heap.objs.size (cellsFrom (s3.heap.objs.size + 1) scope.names (cloFrom X.env.cells scope.names [])) fp
  have pt := ht s3 (upd H2 D (.lst [])) s3.heap.objs.size (cellsFrom (s3.heap.objs.size + 1) scope.names (cloFrom X.env.cells scope.names [])) fp
  have pe := he s3 (upd H2 D (.lst [])) s3.heap.objs.size (cellsFrom (s3.heap.objs.size + 1) scope.names (cloFrom X.env.cells scope.names [])) fp
  have cF : (compEnvC scope (cellsFrom (s3.heap.objs.size + 1) scope.names (cloFrom X.env.cells scope.names [])) s3.heap.objs.size X.env).frame = X.env.frame := rfl
  show codeAny _ _ (.compStart (.ListComp elt [⟨tg, iter, ifs, 0⟩] scope pos) 0 (.ref it) (.ref D) (compEnvC scope (cellsFrom (s3.heap.objs.size + 1) scope.names (cloFrom X.env.cells scope.names [])) s3.heap.objs.size X.env)) (postX (model X.prog X.w) X.A X.xe none Qf (.ref D) (compEnvC scope (cellsFrom (s3.heap.objs.size + 1) scope.names (cloFrom X.env.cells scope.names [])) s3.heap.objs.size X.env)) { s3 with heap := pushCells (s3.heap.push { cls := .type "dict", data := .dict #[] }) scope.names }
  have nfp : ∀ b ∈ fp, (upd H2 D (.lst [])) b = none := fun b hb => (f3 b hb).1.1
  generalize hce : compEnvC scope (cellsFrom (s3.heap.objs.size + 1) scope.names (cloFrom X.env.cells scope.names [])) s3.heap.objs.size X.env = ce at I4 pg pt pe cF ⊢
  have cL : ce.locals = s3.heap.objs.size := by subst hce; rfl
  generalize hH3 : upd H2 D (.lst []) = H3 at I3 I4 pg pt pe w0 nfp f3
  generalize hs4 : ({ s3 with heap := pushCells (s3.heap.push { cls := .type "dict", data := .dict #[] }) scope.names } : Shared) = s4 at I4 ⊢
  have st4 : tn 0 s4.heap := T.keep _ _ _ st3 fun b _ o e => by rw [← hs4]; exact pushCells_keeps _ _ _ _ (Heap.get?_push_of_some _ e)
  have stat : ∀ {σ' : L2.St} {H' : Hp} {s' : Shared}, Inv (X.blk s3 H3 scope ce fp) [] σ' H' s' → (∀ b ∈ fp, H' b = none) → ∀ b ∈ fp, FpOk (X.blk s3 H3 scope ce fp) [] H' b := fun {σ' H' s'} I' hn b hb =>
    ⟨hn b hb, (I'.ok.exf b hb).1, I'.ok.exfs b hb, .inl hb, fun x c e => (I'.ok.exf b hb).2 x c e, fun p hp => absurd (show p ∈ ([] : List (Addr × Obj)) ++ [] from hp) (by simp)⟩
  have loop : codeAny (model X.prog X.w) X.A (.compLoop (.ListComp elt [⟨tg, iter, ifs, 0⟩] scope pos) 0 (.ref it) (.ref D) ce) (postX (model X.prog X.w) X.A X.xe none Qf (.ref D) ce) s4 := by
    refine compLoop_any (fun n s' => ∃ i H', Inv (X.blk s3 H3 scope ce fp) [] (wipe σ (own.map (·.2))) H' s' ∧ tn i s'.heap ∧ (∀ b ∈ fp, H' b = none) ∧ W i n H') ?_ m0 ⟨0, H3, I4, st4, nfp, w0⟩
    rintro n s5 ⟨i, H5, I5, st5, n5, w5⟩
    rcases turn i n H5 w5 with ⟨stop, qq⟩ | ⟨go, Nx, hNx, step⟩
    · have td := T.done (X.blk s3 H3 scope ce fp) rfl rfl rfl hc i [] s5 _ H5 (fun _ _ => False) I5 (stat I5 n5) st5 stop
      refine thnF td fun r s6 ⟨hr, I6⟩ => ?_
      subst hr
      -- back in the def's context
      have I7 : Inv X pins σ H5 s6 := I3.call' (ch := fp) I6.os I6.base I6.hok I6.bare fun b hb => ⟨(f3 b hb).1.2.2.2.1, (f3 b hb).1.2.1, (f3 b hb).1.2.2.2.2.1, (f3 b hb).1.2.2.2.2.2⟩
      have nC : H5 s3.heap.objs.size = none := by
        have z : H5 ce.locals = none := I6.free
        rw [cL] at z
        exact z
      obtain ⟨m, hn, _⟩ := I6.loc
      have hn : s6.heap.Ns ce.locals m := hn
      rw [cL] at hn
      have hR := hRR D s3.heap.objs.size s6 m H5 I7 qq hn (I3.fpOk (Nat.le_refl _) nC)
      rw [← cL] at hR
      exact hR
    · have ti := T.item (X.blk s3 H3 scope ce fp) rfl rfl rfl hc i [] s5 _ H5 (fun _ _ => False) I5 (stat I5 n5) st5 go
      refine thnF ti fun r s6 ⟨u, hr, h6⟩ => ?_
      subst hr
      refine thnF h6 fun _ s7 ⟨x, H7, I7, r7, y7, st7, n7⟩ => ?_
      have I7' := I7.pinned (stat I7 n7) (T.obj _ _ st7)
      refine thnF (pg.run _ s7 _ H7 x u _ I7' r7 (step x H7 y7)) fun _ s8 ⟨σ8, H8, I8, hw8, q8⟩ => ?_
      refine thnF (pt.run _ s8 σ8 H8 _ I8 q8) fun b s9 ⟨H9, I9, q9⟩ => ?_
      -- the turn's end
      have fin : ∀ {s' : Shared} {H' : Hp}, Inv (X.blk s3 H3 scope ce fp) ([] ++ pinsAt fp s7.heap) σ8 H' s' → Nx H' → ∃ m, m < n ∧ ∃ i H', Inv (X.blk s3 H3 scope ce fp) [] (wipe σ (own.map (·.2))) H' s' ∧ tn i s'.heap ∧ (∀ b ∈ fp, H' b = none) ∧ W i m H' := fun {s' H'} I' nx => by
        obtain ⟨m', hm, w'⟩ := hNx H' nx
        have pin' : ∀ b ∈ fp, ∀ o, s7.heap.get? b = some o → s'.heap.get? b = some o ∧ H' b = none := fun b hb o e =>
          let z := I'.pin (b, o) (List.mem_append_right _ (List.mem_append_right _ (mem_pinsAt hb e)))
          ⟨z.1, z.2.1⟩
        have hl : (wipe σ (own.map (·.2))).length = σ8.length := by rw [← hw8, wipe_length]
        refine ⟨m', hm, i + 1, H', (I'.unpinned (pins := [])).weak hl (fun j v e => ?_), T.keep _ _ _ st7 fun b hb o e => (pin' b hb o e).1, fun b hb => ?_, w'⟩
        · rw [← hw8] at e
          exact (wipe_some e).1
        · obtain ⟨o, e, _⟩ := T.obj _ _ st7 b hb
          exact (pin' b hb o e).2
      cases b with
      | false =>
        simp only [Bool.false_eq_true, if_false] at q9 ⊢
        exact fin I9 q9
      | true =>
        simp only [if_true] at q9 ⊢
        obtain ⟨ev, outer, L, hstk, hfr, hXf, kx⟩ := air.ex
        refine wpAny_mono ((pe (fun u s' => ∃ H' sI, Inv X pins σ H' sI ∧ (∃ m, sI.heap.Ns ce.locals m) ∧ H' ce.locals = none ∧ Aloft X.stack L sI H' (E σ) u s') (E σ) (fun σ1 => ⟨ev, outer, L, hstk, hfr, cF.trans hXf, fun pins1 H1 sI u s' I1 al => ?_⟩)).run _ s9 σ8 H9 _ (I9.wish _) q9) (fun z s10 ⟨yv, H10, I10, r10, acc, hD10, hz10, nx⟩ => ?_) (fun u s10 hx => ?_)
        · have I1' := I1.unwish
          obtain ⟨m, hn, _⟩ := I1'.loc
          exact ⟨H1, sI, I3.call' (ch := fp) I1'.os I1'.base I1'.hok I1'.bare fun b hb => ⟨(f3 b hb).1.2.2.2.1, (f3 b hb).1.2.1, (f3 b hb).1.2.2.2.2.1, (f3 b hb).1.2.2.2.2.2⟩, ⟨m, hn⟩, I1'.free, al⟩
        · exact app_ok (X := X.blk s3 H3 scope ce fp) I10.unwish hD10 hz10 r10 fun s11 I11 => fin I11 nx
        · obtain ⟨H', sI, JX, ⟨m, hn⟩, nC, a, B, cls, d, rfl, nb, up, sky, na, os, ag, w⟩ := hx
          have fpC : FpOk X pins H' ce.locals := I3.fpOk (by rw [cL]; exact Nat.le_refl _) nC
          obtain ⟨f0, f1, f2, f3', f4, f5⟩ := fpC
          have frA : X.A.frames = some (ev :: outer) := I3.ok.frames.trans (congrArg some hstk)
          have cNot : ce.locals ∉ frs X.stack := fun hm => by
            rcases List.mem_cons.mp (I3.stkSub _ hm) with z | z
            · exact f1 z
            · exact f2 z
          show wpAny _ X.A (noteFrame (Value.ref a) ce) _ _ _
          rw [note_same (e2 := ev) (by rw [cF, hXf, hfr])]
          -- noted by the frame
          have held : ∀ {Q : Unit → Shared → Prop} {E' : Value → Shared → Prop}, (∀ h1, HandSPX.HeldZ B (ev :: outer) a (Zc cls d) L h1 → s10.heap.UpToSlots h1 → Q () { s10 with heap := h1 }) → wpAny (model X.prog X.w) X.A (noteFrame (.ref a) ev) Q E' s10 := fun {Q E'} k => by
            rw [hstk] at sky
            rcases sky with ⟨hB, hn, hl, oe, vs, he, hz, hd, h1⟩ | fl | hh
            · exact HandSPX.look_newZ Zc.steady frA hl hfr he hB hn hd h1 hz k
            · exact HandSPX.looks_onZ Zc.steady frA hfr fl k
            · exact HandSPX.againZ hfr hh.2.2.2 (k s10.heap hh (Heap.UpToSlots.refl _))
          refine held fun h1 hh1 up1 => ?_
          have upH : sI.heap.UpToSlots h1 := up.trans up1
          refine ⟨m, upH.ns hn, fun h2 sb2 => ?_⟩
          -- the ground without the block's names
          obtain ⟨B', b1, b2⟩ := restrict B fun b => decide (b ≠ ce.locals)
          obtain ⟨G, g1, g2⟩ := restrict sI.heap fun b => decide (b ≠ ce.locals)
          have bB : ∀ b o, B'.get? b = some o → b ≠ ce.locals ∧ B.get? b = some o := fun b o e => by
            by_cases q : b = ce.locals
            · rw [b2 b (by simp [q])] at e
              cases e
            · exact ⟨q, by rw [b1 b (by simp [q])] at e; exact e⟩
          have gG : ∀ b o, G.get? b = some o → b ≠ ce.locals ∧ sI.heap.get? b = some o := fun b o e => by
            by_cases q : b = ce.locals
            · rw [g2 b (by simp [q])] at e
              cases e
            · exact ⟨q, by rw [g1 b (by simp [q])] at e; exact e⟩
          obtain ⟨k1, k2, k3, oe, vs, T1, oT1, ts, he1, hz1, hd1, hv1, hbT, hTa, hT1, hdT, hfl⟩ := hh1
          obtain ⟨oC, es, ep, hoC, hdC, _⟩ := hn
          have BC : B.get? ce.locals = some oC := nb _ _ hoC cNot
          have aC : a ≠ ce.locals := fun z => by rw [z] at k2; rw [k2] at BC; cases BC
          have TC : T1 ≠ ce.locals := fun z => by rw [z] at hbT; rw [hbT] at BC; cases BC
          have sb : ∀ b, b ≠ ce.locals → h2.get? b = h1.get? b := sb2.2
          have B'a : B'.get? a = none := by rw [b1 a (by simp [aC])]; exact k2
          have B'T : B'.get? T1 = none := by rw [b1 T1 (by simp [TC])]; exact hbT
          have fF : h2.FunFrames B' (ev :: outer) := funFrames_step k3 (fun b q => by
              cases z : B'.get? b with
              | none => rfl
              | some o =>
                rw [(bB b o z).2] at q
                cases q) fun b o q e => (sb b (fun z => by rw [z, BC] at q; cases q)).trans e
          have kB : B'.StaysIn h2 := fun b o e => (sb b (bB b o e).1).trans (k1 b o (bB b o e).2)
          have he2 : h2.get? a = some oe := (sb a aC).trans he1
          have hh2 : HandSPX.HeldZ B' (ev :: outer) a (Zc cls d) L h2 := ⟨kB, B'a, fF, oe, vs, T1, oT1, ts, he2, hz1, hd1, hv1, B'T, hTa, (sb T1 TC).trans hT1, hdT, hfl⟩
          unfold PySem.passOn
          refine wpAny_bind (wpAny_field he2 hd1 hv1 ?_)
          rw [if_neg (show ¬ ((Value.ref T1 == Value.none) = true) by simp)]
          have fin2 : wpAny (model X.prog X.w) X.A (setFlight (.ref a) ce.frame) (fun _ s4 => wpAny (model X.prog X.w) X.A (throw (.ref a) : Sem Value) (fun _ _ => False) X.xe s4) X.xe { s10 with heap := h2 } := by
            rw [cF, hXf]
            refine HandSPX.setFlight_onZ hh2 fun h4 hh4 up4 => wpAny_throw ?_
            refine kx pins H' { sI with heap := G } _ _ (JX.turned (t' := sI.toks) (fun b o hb e => (g1 b (by simp [hb])).trans e) f0 f1 f3' f4 f5) ⟨a, B', cls, d, rfl, fun b o e hb => ?_, ?_, ?_, na, os, ag, w⟩
            · obtain ⟨q1, q2⟩ := gG b o e
              exact (b1 b (by simp [q1])).trans (nb b o q2 hb)
            · refine Heap.UpToSlots.trans (fun b o e nf => ?_) up4
              obtain ⟨q1, q2⟩ := gG b o e
              obtain ⟨sl, q3⟩ := upH b o q2 nf
              exact ⟨sl, (sb b q1).trans q3⟩
            · rw [hstk]
              exact .inr (.inr hh4)
          first
            | exact wpAny_bind (wpAny_pure (wpAny_bind fin2))
            | exact wpAny_bind fin2
  exact codeAny_compStart_list loop (T.self X.A 0 _ _ _ st4 loop)
/-- [elt for target in iter if ..]; what elt lets out is let out -/
theorem pe_lcX {E : L2.St → XK} {elt tg iter : Expr} {ifs : List Expr} {scope : Scope} {own : List (Str × Nat)} {pos : Pos} {wi : TI} {g : TG} {tt : TT} {te : XK → TE} (air : ∀ σ, Air X σ (E σ)) (hc : X.calm = true) (hN : X.N.Nodup) (hi : PI X tg iter wi) (ok : BlkOk X.N X.env.scope scope own)
    (hg : ∀ (s : Shared) (H : Hp) (C : Addr) (cl : List (Str × Addr)) (fp : List Addr), PG (X.blk s H scope (compEnvC scope cl C X.env) fp) tg g) (ht : ∀ (s : Shared) (H : Hp) (C : Addr) (cl : List (Str × Addr)) (fp : List Addr), PTs (X.blk s H scope (compEnvC scope cl C X.env) fp) ifs tt)
    (he : ∀ (s : Shared) (H : Hp) (C : Addr) (cl : List (Str × Addr)) (fp : List Addr) (xe : Value → Shared → Prop) (E1 : XK), (∀ σ1, Air ((X.blk s H scope (compEnvC scope cl C X.env) fp).wish xe) σ1 E1) → PE ((X.blk s H scope (compEnvC scope cl C X.env) fp).wish xe) elt (te E1)) (hs : ∀ x, foldedSetIterable iter X.env x = pure x := by intro _; rfl) :
    PE X (.ListComp elt [⟨tg, iter, ifs, 0⟩] scope pos) (fun σ H Q => tLc wi g tt (te (E σ)) (own.map (·.2)) σ H Q) := by
  refine ⟨fun pins s σ H Q I h => ?_⟩
  rw [eval_ListComp]
  refine lc_coreX hc hN I hi ok hg ht (air σ) he hs h fun D C s' m H' I' q hn f => ⟨m, hn, fun h'' sb => ?_⟩
  obtain ⟨f0, f1, f2, f3, f4, f5⟩ := f
  exact ⟨.ref D, H', I'.turned (t' := s'.toks) (fun b o hb e => (sb.2 b hb).trans e) f0 f1 f3 f4 f5, rfl, q⟩
end
end Wx

namespace Wx
open PySem PySem.Spec PyProof.Rows L2 NdefX RZ
/-! walks over a list or a tuple; <= and str by own defs; tuples of ints compared -/
section
variable {X : Cx} {tg : Expr}
def iSeq (K : PySem.W.Frag) (tl : TE) : TI := fun σ H R => tl σ H fun x H1 => ∃ a xs, x = .ref a ∧ ((SqL K H1 a xs ∧ R (Itl K a) H1) ∨ (SqT K H1 a xs ∧ R (Itt K a) H1))
theorem pi_seq {l : Expr} {tl : TE} (hl : PE X l tl) : PI X tg l (iSeq X.K tl) := by
  refine ⟨fun pins s σ H R I h => ?_⟩
  refine thn (hl.run pins s σ H _ I h) fun v s1 ⟨x, H1, I1, r1, q1⟩ => ?_
  obtain ⟨a, xs, e, q⟩ := q1
  subst e
  cases r1
  have fresh : ∀ b ∈ [s1.heap.objs.size], FpOk X pins H1 b := fun b hb => by
    have e : b = s1.heap.objs.size := by simpa using hb
    subst e
    exact I1.fpOk (Nat.le_refl _) (I1.hok.fresh (Nat.le_refl _))
  rcases q with ⟨hq, q⟩ | ⟨hq, q⟩
  · obtain ⟨its, rv, p, hz⟩ := I1.list hq
    refine wpAny_pyIter_list p.isList ?_
    exact ⟨s1.heap.objs.size, [s1.heap.objs.size], _, _, H1, rfl, I1.kept (t' := s1.toks) fun b o e => Heap.get?_push_of_some _ e, turn_list a _, ⟨_, Heap.get?_push_size _ rfl, rfl, rfl⟩, fresh, q⟩
  · obtain ⟨its, rv, p, hz⟩ := I1.tuple hq
    refine wpAny_pyIter_tuple (show s1.heap.IsTuple a its.toArray from p) ?_
    exact ⟨s1.heap.objs.size, [s1.heap.objs.size], _, _, H1, rfl, I1.kept (t' := s1.toks) fun b o e => Heap.get?_push_of_some _ e, turn_tuple a _, ⟨_, Heap.get?_push_size _ rfl, rfl, rfl⟩, fresh, q⟩
end
section
variable {X : Cx} {CX : CXT} {C f : Addr} {n : Nat} {fd : FuncData} {ps : List Str} {sp : Sp} {E : XK}
theorem op_leI (F : FnOk X.prog X.w X.K X.mg X.base CX n f fd ps sp) (hr : Room n X.A) (hs : PySem.W.findIn X.K (.ref C) "__le__" = some (some (.ref f))) (hf : PySem.W.isFn X.K (.ref f) = true) (hb : Binds X.K fd ps []) (hx : Passes CX X E) : OpR X (compareOp .LtE) (rOwnI X.K C sp E id) := by
  intro pins s σ H x y v u Q I rx ry h
  obtain ⟨a, dx, fs, b, dy, gs, rfl, rfl, ha, hb', q⟩ := h
  cases (show v = Value.ref a from rx)
  cases (show u = Value.ref b from ry)
  obtain ⟨mA, J, _⟩ := ins_get I.hok ha
  obtain ⟨mB, J', _⟩ := ins_get I.hok hb'
  obtain ⟨od, J, _⟩ := J.look
  obtain ⟨od', J', _⟩ := J'.look
  obtain ⟨m, hF⟩ := I.fr
  show wpAny (model X.prog X.w) X.A (richCompare .LtE _ _) (EP X pins σ Q) X.xe s
  refine PySem.W.cmp_K (op := .LtE) (tb := .ref C) hr.units0 hF I.ok.mod.kin J J'.type (by simp [PySem.W.notFirst]) hs hf ?_
  refine wpAny_mono (run_two (us := [.ref a, .ref b]) (vs := [.ref a, .ref b]) F hr I.env0 hb hx I (.cons rfl (.cons rfl .nil)) q) (fun w s' z => ?_) fun _ _ x => x
  obtain ⟨z', H', I', rz, k, ez, qz⟩ := z
  subst ez
  cases (show w = Value.bool k from rz)
  exact ⟨.bl k, H', I', rfl, qz⟩
/-- str(x) by the class's own __str__ -/
theorem call_strOwn (F : FnOk X.prog X.w X.K X.mg X.base CX n f fd ps sp) (hr : Room (n + 2) X.A) (hs : PySem.W.findIn X.K (.ref C) "__str__" = some (some (.ref f))) (hf : PySem.W.isFn X.K (.ref f) = true) (hb : Binds X.K fd ps []) (hx : Passes CX X E) :
    CallR X (.type "str") (fun xs H Q => ∃ a dx fs, xs = [.ref a] ∧ H a = some (.ins C dx fs) ∧ sp xs H (fun z H' => ∃ t : Str, z = .str t ∧ Q z H') E) := by
  intro pins s σ H xs us Q I r h
  obtain ⟨a, dx, fs, rfl, ha, q⟩ := h
  obtain ⟨u, rfl, hu⟩ := vals1 r
  cases (show u = Value.ref a from hu)
  obtain ⟨mA, J, _⟩ := ins_get I.hok ha
  obtain ⟨od, J, _⟩ := J.look
  have hr1 : Room (n + 1) X.A.in1 := hr.in1
  have hr2 : Room n X.A.in1.in1 := hr1.in1
  refine PySem.W.kso_call hr2.units0 I.kIn J hs hf ?_
  refine wpAny_mono (run_two (us := [.ref a]) (vs := [.ref a]) F hr2 I.env0.in1.in1 hb hx I (.cons rfl .nil) q) (fun w s' z => ?_) fun _ _ x => x
  obtain ⟨z', H', I', rz, t, ez, qz⟩ := z
  subst ez
  obtain ⟨tk, rfl⟩ := rz
  exact ⟨.str t, H', I', ⟨_, rfl⟩, qz⟩
end
/-! ### data -/
theorem eqvAll_ints : ∀ (xs ys : List Int), PyData.eqvAll (xs.map PyData.int) (ys.map PyData.int) = decide (xs = ys)
  | [], [] => rfl
  | [], y :: ys => rfl
  | x :: xs, [] => rfl
  | x :: xs, y :: ys => by
    show (PyData.eqv (.int x) (.int y) && PyData.eqvAll (xs.map PyData.int) (ys.map PyData.int)) = _
    rw [eqvAll_ints xs ys]
    show ((x == y) && _) = _
    by_cases h : x = y
    · subst h
      by_cases h2 : xs = ys
      · subst h2
        simp
      · simp [h2]
    · have e : (x == y) = false := beq_eq_false_iff_ne.mpr h
      rw [e, Bool.false_and, decide_eq_false (fun q => h (by injection q))]
theorem eqv_intsT (xs ys : List Int) : PyData.eqv (.tuple (xs.map PyData.int)) (.tuple (ys.map PyData.int)) = decide (xs = ys) := eqvAll_ints xs ys
theorem eqv_intsL (xs ys : List Int) : PyData.eqv (.list (xs.map PyData.int)) (.list (ys.map PyData.int)) = decide (xs = ys) := eqvAll_ints xs ys
theorem lay_ints : ∀ xs : List Int, PyData.canLayAll0 (xs.map PyData.int) = true
  | [] => rfl
  | x :: xs => lay_ints xs
theorem depth_ints : ∀ xs : List Int, PyData.depthAll (xs.map PyData.int) ≤ 1
  | [] => by decide
  | x :: xs => by
    have ih := depth_ints xs
    simp only [List.map_cons, PyData.depthAll, PyData.depth]
    omega
theorem shaped_intsT (xs : List Int) : SeqAt.shaped (.tuple (xs.map PyData.int)) = true := by
  have h := depth_ints xs
  show (PyData.canLay0 (.tuple (xs.map PyData.int)) && decide ((PyData.tuple (xs.map PyData.int)).depth ≤ 64)) = true
  rw [Bool.and_eq_true]
  refine ⟨by simp only [PyData.canLay0]; exact lay_ints xs, decide_eq_true ?_⟩
  simp only [PyData.depth]
  omega
theorem shaped_intsL (xs : List Int) : SeqAt.shaped (.list (xs.map PyData.int)) = true := by
  have h := depth_ints xs
  show (PyData.canLay0 (.list (xs.map PyData.int)) && decide ((PyData.list (xs.map PyData.int)).depth ≤ 64)) = true
  rw [Bool.and_eq_true]
  refine ⟨by simp only [PyData.canLay0]; exact lay_ints xs, decide_eq_true ?_⟩
  simp only [PyData.depth]
  omega
theorem dpAll_ints {K : PySem.W.Frag} {H : Hp} : ∀ xs : List Int, DpAll K H (xs.map V.int) (xs.map PyData.int)
  | [] => .nil
  | x :: xs => .cons (.int x) (dpAll_ints xs)
theorem dp_intsT {K : PySem.W.Frag} {H : Hp} {a : Addr} {xs : List Int} (h : SqT K H a (xs.map V.int)) : Dp K H (.ref a) (.tuple (xs.map PyData.int)) := .tup h (dpAll_ints xs)
theorem dp_intsL {K : PySem.W.Frag} {H : Hp} {a : Addr} {xs : List Int} (h : SqL K H a (xs.map V.int)) : Dp K H (.ref a) (.list (xs.map PyData.int)) := .lst h (dpAll_ints xs)
theorem walk_zipT {K : PySem.W.Frag} {a b : Addr} {xs ys : List V} {n : Nat} (hn : n = min xs.length ys.length) : Walk (ItzT K a b) n (fun H => SqT K H a xs ∧ SqT K H b ys) (YPair (fun i => xs[i]?) (fun i => ys[i]?)) := by
  subst hn
  refine ⟨fun i _ hi q => ?_, fun _ q => ⟨xs, ys, q.1, q.2, by omega⟩, fun i H v H' _ q y => ?_⟩
  · have h1 : i < xs.length := by omega
    have h2 : i < ys.length := by omega
    exact ⟨xs, ys, xs[i], ys[i], q.1, q.2, by simp [h1], by simp [h2]⟩
  · obtain ⟨T, x, z, h1, h2, h3, h4, h5⟩ := y
    exact ⟨T, x, z, h1, h2, h3, h4 xs q.1, h5 ys q.2⟩
end Wx

namespace Wb
open PySem PySem.Spec PyProof.Rows L2 Wx NdefX
def top (i : Nat) : Stmt := PySem.Challenge.pw_waterbyturns_k13_standings.main.body.getD i (.Pass ⟨0, 0, 0, 0⟩)
/-! ### a def that stands, by its name: what a caller needs -/
structure Cal (P : Program) (w : World) (K : PySem.W.Frag) (mg : Str → Option Value) (base : Heap) (name : Str) (ps : List Str) (k : Nat) (sp : Sp) : Prop where
  mk0 ::
  ex : ∃ (g : Addr) (gd : FuncData), FnOk P w K mg base CX0 k g gd ps sp ∧ mg name = some (.ref g) ∧ PySem.W.keepIn K (.ref g) = true ∧ Binds K gd ps []
/-! ### frames -/
/-- what is tracked outside xs stays -/
def Frm (xs : List Addr) (H H' : Hp) : Prop := ∀ b o, ¬ b ∈ xs → H b = some o → H' b = some o
theorem Frm.refl (xs : List Addr) (H : Hp) : Frm xs H H := fun _ _ _ h => h
theorem Frm.trans {xs : List Addr} {H H1 H2 : Hp} (a : Frm xs H H1) (b : Frm xs H1 H2) : Frm xs H H2 := fun c o n h => b c o n (a c o n h)
theorem Frm.of_same {xs : List Addr} {H H' : Hp} (a : Same H H') : Frm xs H H' := fun b o _ h => a b o h
theorem Frm.mono {xs ys : List Addr} {H H' : Hp} (a : Frm xs H H') (h : ∀ b, b ∈ xs → b ∈ ys) : Frm ys H H' := fun b o n e => a b o (fun m => n (h b m)) e
theorem Frm.put {xs : List Addr} {H : Hp} {a : Addr} {o : HO} (m : a ∈ xs) : Frm xs H (upd H a o) := fun b p n e => by
  rw [upd_ne (fun q => n (by rw [q]; exact m))]
  exact e
theorem Same.new {H : Hp} {a : Addr} {o : HO} (n : H a = none) : Same H (upd H a o) := fun b p e => by
  rw [upd_ne (ne_of_none e n)]
  exact e
theorem Frm.new {xs : List Addr} {H : Hp} {a : Addr} {o : HO} (n : H a = none) : Frm xs H (upd H a o) := Frm.of_same (Same.new n)
theorem Frm.same {H H' : Hp} (a : Frm [] H H') : Same H H' := fun b o e => a b o (by simp) e
/-- an address that was new and may change behind its making is no part of the frame of what was there before -/
theorem Frm.drop {x : Addr} {xs : List Addr} {H0 H1 H2 : Hp} (n : H0 x = none) (a : Frm xs H0 H1) (b : Frm (x :: xs) H1 H2) : Frm xs H0 H2 := fun c o nc e => by
  refine b c o ?_ (a c o nc e)
  intro m
  rcases List.mem_cons.mp m with q | q
  · rw [q] at e
    rw [n] at e
    cases e
  · exact nc q
theorem Frm.none {xs : List Addr} {H H' : Hp} (a : Frm xs H H') {l : Addr} (nl : ¬ l ∈ xs) (h : H' l = Option.none) : H l = Option.none := by
  cases q : H l with
  | none => rfl
  | some o =>
    have := a l o nl q
    rw [this] at h
    cases h
/-- the heap without xs -/
def hid (xs : List Addr) (H : Hp) : Hp := fun b => if b ∈ xs then none else H b
theorem hid_same (xs : List Addr) (H : Hp) : Same (hid xs H) H := fun b o e => by
  unfold hid at e
  split at e
  · cases e
  · exact e
theorem hid_frm {xs : List Addr} {H H' : Hp} (a : Frm xs H H') : Same (hid xs H) (hid xs H') := fun b o e => by
  unfold hid at e ⊢
  split at e
  · cases e
  · rename_i n
    rw [if_neg n]
    exact a b o n e
theorem hid_eq {xs : List Addr} {H : Hp} {b : Addr} (n : ¬ b ∈ xs) : hid xs H b = H b := if_neg n
theorem hid_mono {xs ys : List Addr} {H : Hp} (h : ∀ b, b ∈ xs → b ∈ ys) : Same (hid ys H) (hid xs H) := fun b o e => by
  unfold hid at e ⊢
  split at e
  · cases e
  · rename_i n
    rw [if_neg (fun m => n (h b m))]
    exact e
theorem hid_nil (H : Hp) : hid [] H = H := by
  funext b
  exact if_neg (by simp)
theorem rd_same {H H' : Hp} (s : Same H H') {a : Addr} {o : HO} (h : Rd H a o) : Rd H' a o := by
  rcases h with h | ⟨x, h⟩
  · exact .inl (s _ _ h)
  · exact .inr ⟨x, s _ _ h⟩
theorem seqT {K : PySem.W.Frag} {H H' : Hp} {a : Addr} {xs : List V} (s : Same H H') (h : SqT K H a xs) : SqT K H' a xs := h.imp (rd_same s) id
/-! data in the heap, seen from a larger heap -/
mutual
theorem dp_same {K : PySem.W.Frag} {H H' : Hp} (s : Same H H') : ∀ {v : V} {d : PyData}, Dp K H v d → Dp K H' v d
  | _, _, .non => .non
  | _, _, .bl b => .bl b
  | _, _, .int i => .int i
  | _, _, .str x => .str x
  | _, _, .lst h r => .lst (s.seq h) (dpAll_same s r)
  | _, _, .tup h r => .tup (seqT s h) (dpAll_same s r)
theorem dpAll_same {K : PySem.W.Frag} {H H' : Hp} (s : Same H H') : ∀ {v : List V} {d : List PyData}, DpAll K H v d → DpAll K H' v d
  | _, _, .nil => .nil
  | _, _, .cons a b => .cons (dp_same s a) (dpAll_same s b)
end
theorem dpAll_get {K : PySem.W.Frag} {H : Hp} : ∀ {vs : List V} {ds : List PyData}, DpAll K H vs ds → ∀ {i : Nat} {v : V}, vs[i]? = some v → ∃ d, ds[i]? = some d ∧ Dp K H v d
  | _, _, .nil, i, v, h => by simp at h
  | _, _, .cons a b, 0, v, h => by
    have e := Option.some.inj h
    subst e
    exact ⟨_, rfl, a⟩
  | _, _, .cons a b, i + 1, v, h => dpAll_get b (i := i) h
theorem dpAll_len {K : PySem.W.Frag} {H : Hp} : ∀ {vs : List V} {ds : List PyData}, DpAll K H vs ds → vs.length = ds.length
  | _, _, .nil => rfl
  | _, _, .cons _ b => congrArg (· + 1) (dpAll_len b)
theorem dpAll_snoc {K : PySem.W.Frag} {H : Hp} : ∀ {vs : List V} {ds : List PyData} {v : V} {d : PyData}, DpAll K H vs ds → Dp K H v d → DpAll K H (vs ++ [v]) (ds ++ [d])
  | _, _, _, _, .nil, h => .cons h .nil
  | _, _, _, _, .cons a b, h => .cons a (dpAll_snoc b h)
theorem dpAll_ints {K : PySem.W.Frag} {H : Hp} : ∀ (l : List Int), DpAll K H (l.map V.int) (l.map PyData.int)
  | [] => .nil
  | i :: l => .cons (.int i) (dpAll_ints l)
theorem dpAll_ints_eq {K : PySem.W.Frag} {H : Hp} : ∀ {l : List Int} {vs : List V}, DpAll K H vs (l.map PyData.int) → vs = l.map V.int
  | [], _, .nil => rfl
  | i :: l, _, .cons (.int _) b => congrArg (V.int i :: ·) (dpAll_ints_eq b)
/-- o[i] of a list, for o[i] += e -/
theorem get_list {X : Cx} : PGet X (fun o i H Q => ∃ p xs k z, o = .ref p ∧ i = .int k ∧ SqL X.K H p xs ∧ 0 ≤ k ∧ xs[k.toNat]? = some z ∧ Q z H) := by
  intro pins s σ H o i ov iv Q I ro ri h
  obtain ⟨p, xs, k, z, rfl, rfl, hq, h0, hz, q⟩ := h
  cases ro
  obtain ⟨t, rfl⟩ := ri
  obtain ⟨its, r, pl, hs⟩ := I.list hq
  obtain ⟨w, ew, rw'⟩ := r.get hz
  have hl := r.length
  have hn := line63
  have hlt : k.toNat < xs.length := (List.getElem?_eq_some_iff.mp hz).1
  exact wpAny_getItem_list pl.isList h0 (by omega) (by simpa using ew) ⟨z, H, I, rw', q⟩
def rListOf (K : PySem.W.Frag) : List V → Hp → VK → Prop := fun xs H Q => ∃ p ys, xs = [.ref p] ∧ (SqL K H p ys ∨ SqT K H p ys) ∧ ∀ l, H l = none → Q (.ref l) (upd H l (.lst ys))
def rLenSeq (K : PySem.W.Frag) : List V → Hp → VK → Prop := fun xs H Q => ∃ p ys, xs = [.ref p] ∧ (SqL K H p ys ∨ SqT K H p ys) ∧ Q (.int ys.length) H
theorem Cal.mk {P : Program} {w : World} {K : PySem.W.Frag} {mg : Str → Option Value} {base : Heap} {name : Str} {ps : List Str} {k : Nat} {sp : Sp} {g : Addr} {gd : FuncData} (G : FnOk P w K mg base CX0 k g gd ps sp) (m : mg name = some (.ref g)) (kp : PySem.W.keepIn K (.ref g) = true) (b : Binds K gd ps []) : Cal P w K mg base name ps k sp := .mk0 ⟨g, gd, G, m, kp, b⟩
abbrev s_shown : Stmt := top 1
abbrev N_shown : List Str := ["value"]
abbrev P_shown : List Str := ["value"]
theorem sc_shown : FnScope N_shown P_shown (defScope s_shown) := ⟨rfl, rfl, rfl, by decide +kernel, rfl, by decide +kernel, by decide +kernel⟩
abbrev sBadNumber___init__ : Stmt := inClass (top 3) 0
abbrev NBadNumber___init__ : List Str := ["self", "what", "value", "__class__"]
abbrev PBadNumber___init__ : List Str := ["self", "what", "value"]
theorem scBadNumber___init__ : NScope NBadNumber___init__ PBadNumber___init__ ["__class__"] (defScope sBadNumber___init__) := nscope_by (by decide +kernel)
abbrev scheck_number : Stmt := top 8
abbrev Ncheck_number : List Str := ["what", "value", "low", "high"]
abbrev Pcheck_number : List Str := ["what", "value", "low", "high"]
theorem sccheck_number : FnScope Ncheck_number Pcheck_number (defScope scheck_number) := ⟨rfl, rfl, rfl, by decide +kernel, rfl, by decide +kernel, by decide +kernel⟩
abbrev scheck_units : Stmt := top 9
abbrev Ncheck_units : List Str := ["what", "values", "value"]
abbrev Pcheck_units : List Str := ["what", "values"]
theorem sccheck_units : FnScope Ncheck_units Pcheck_units (defScope scheck_units) := ⟨rfl, rfl, rfl, by decide +kernel, rfl, by decide +kernel, by decide +kernel⟩
abbrev sStanding___init__ : Stmt := inClass (top 11) 0
abbrev NStanding___init__ : List Str := ["self", "levels", "tank", "mood"]
abbrev PStanding___init__ : List Str := ["self", "levels", "tank", "mood"]
theorem scStanding___init__ : FnScope NStanding___init__ PStanding___init__ (defScope sStanding___init__) := ⟨rfl, rfl, rfl, by decide +kernel, rfl, by decide +kernel, by decide +kernel⟩
abbrev sStanding___eq__ : Stmt := inClass (top 11) 1
abbrev NStanding___eq__ : List Str := ["self", "other"]
abbrev PStanding___eq__ : List Str := ["self", "other"]
theorem scStanding___eq__ : FnScope NStanding___eq__ PStanding___eq__ (defScope sStanding___eq__) := ⟨rfl, rfl, rfl, by decide +kernel, rfl, by decide +kernel, by decide +kernel⟩
abbrev sStanding___le__ : Stmt := inClass (top 11) 2
abbrev NStanding___le__ : List Str := ["self", "other", "mine", "its"]
abbrev PStanding___le__ : List Str := ["self", "other"]
theorem scStanding___le__ : FnScope NStanding___le__ PStanding___le__ (defScope sStanding___le__) := ⟨rfl, rfl, rfl, by decide +kernel, rfl, by decide +kernel, by decide +kernel⟩
abbrev sStanding___str__ : Stmt := inClass (top 11) 3
abbrev NStanding___str__ : List Str := ["self", "levels", "level"]
abbrev PStanding___str__ : List Str := ["self"]
theorem scStanding___str__ : FnScope NStanding___str__ PStanding___str__ (defScope sStanding___str__) := ⟨rfl, rfl, rfl, by decide +kernel, rfl, by decide +kernel, by decide +kernel⟩
abbrev s_law_start : Stmt := top 13
abbrev N_law_start : List Str := ["script", "first"]
abbrev P_law_start : List Str := ["script"]
theorem sc_law_start : FnScope N_law_start P_law_start (defScope s_law_start) := ⟨rfl, rfl, rfl, by decide +kernel, rfl, by decide +kernel, by decide +kernel⟩
abbrev s_law_draw : Stmt := top 14
abbrev N_law_draw : List Str := ["script", "state", "limit", "number", "cell", "mixed"]
abbrev P_law_draw : List Str := ["script", "state", "limit"]
theorem sc_law_draw : FnScope N_law_draw P_law_draw (defScope s_law_draw) := ⟨rfl, rfl, rfl, by decide +kernel, rfl, by decide +kernel, by decide +kernel⟩
abbrev s_law_refusal : Stmt := top 15
abbrev N_law_refusal : List Str := ["levels", "tank", "mood", "e"]
abbrev P_law_refusal : List Str := ["levels", "tank", "mood"]
theorem sc_law_refusal : FnScope N_law_refusal P_law_refusal (defScope s_law_refusal) := ⟨rfl, rfl, rfl, by decide +kernel, rfl, by decide +kernel, by decide +kernel⟩
abbrev s_law_below : Stmt := top 16
abbrev N_law_below : List Str := ["one", "two", "at", "level"]
abbrev P_law_below : List Str := ["one", "two"]
theorem sc_law_below : FnScope N_law_below P_law_below (defScope s_law_below) := ⟨rfl, rfl, rfl, by decide +kernel, rfl, by decide +kernel, by decide +kernel⟩
abbrev s_law_text : Stmt := top 17
abbrev N_law_text : List Str := ["one", "text", "level"]
abbrev P_law_text : List Str := ["one"]
theorem sc_law_text : FnScope N_law_text P_law_text (defScope s_law_text) := ⟨rfl, rfl, rfl, by decide +kernel, rfl, by decide +kernel, by decide +kernel⟩
abbrev s_law_rows : Stmt := top 18
abbrev N_law_rows : List Str := ["script", "state", "one", "many", "rows", "k", "levels", "j", "at", "tank", "mood"]
abbrev P_law_rows : List Str := ["script", "state", "one", "many"]
theorem sc_law_rows : FnScope N_law_rows P_law_rows (defScope s_law_rows) := ⟨rfl, rfl, rfl, by decide +kernel, rfl, by decide +kernel, by decide +kernel⟩
abbrev s_law_pairs_hold : Stmt := top 19
abbrev N_law_pairs_hold : List Str := ["rows", "things", "j", "first", "thing", "k", "second", "passed", "held", "row"]
abbrev P_law_pairs_hold : List Str := ["rows"]
theorem sc_law_pairs_hold : FnScope N_law_pairs_hold P_law_pairs_hold (defScope s_law_pairs_hold) := ⟨rfl, rfl, rfl, by decide +kernel, rfl, by decide +kernel, by decide +kernel⟩
abbrev s_law_refusals_hold : Stmt := top 20
abbrev N_law_refusals_hold : List Str := ["script", "state", "one", "many", "at", "wrong", "bad"]
abbrev P_law_refusals_hold : List Str := ["script", "state", "one", "many"]
theorem sc_law_refusals_hold : FnScope N_law_refusals_hold P_law_refusals_hold (defScope s_law_refusals_hold) := ⟨rfl, rfl, rfl, by decide +kernel, rfl, by decide +kernel, by decide +kernel⟩
abbrev slaw : Stmt := top 21
abbrev Nlaw : List Str := ["script", "state", "many", "levels", "one", "k"]
abbrev Plaw : List Str := ["script"]
theorem sclaw : FnScope Nlaw Plaw (defScope slaw) := ⟨rfl, rfl, rfl, by decide +kernel, rfl, by decide +kernel, by decide +kernel⟩
/-- what the top has written -/
structure Txt (K : PySem.W.Frag) (mg : Str → Option Value) : Prop where
  b_len : mg "len" = none
  b_abs : mg "abs" = none
  b_int : mg "int" = none
  b_bool : mg "bool" = none
  b_str : mg "str" = none
  b_range : mg "range" = none
  b_all : mg "all" = none
  b_isinstance : mg "isinstance" = none
  b_repr : mg "repr" = none
  b_super : mg "super" = none
  b_tuple : mg "tuple" = none
  b_list : mg "list" = none
  b_zip : mg "zip" = none
  b_enumerate : mg "enumerate" = none
  b_max : mg "max" = none
  b_min : mg "min" = none
  c_MOST_PLOTS : ∃ t, mg "MOST_PLOTS" = some (.int 4 t)
  c_MOST_UNITS : ∃ t, mg "MOST_UNITS" = some (.int 8 t)
  c_MOST_MOODS : ∃ t, mg "MOST_MOODS" = some (.int 4 t)
end Wb

namespace Wb
open PySem PySem.Spec PyProof.Rows L2 Wx NdefX RZ StX PyProof.Rows.FinIter
section
variable {P : Program} {w : World} {K : PySem.W.Frag} {mg : Str → Option Value} {base : Heap}

/-- a state: four ints -/
def St4 (H : Hp) (a : Addr) : Prop := ∃ i j k l : Int, H a = some (.lst [.int i, .int j, .int k, .int l])
/-- the script at a and the state at s -/
def Scr (K : PySem.W.Frag) (H : Hp) (a s : Addr) : Prop := (∃ ns : List Int, SqL K (hid [s] H) a (ns.map V.int) ∧ ns.length ≤ 63) ∧ St4 H s
theorem Frm.put' {xs : List Addr} {H H1 : Hp} {a : Addr} {o : HO} (f : Frm xs H H1) (m : a ∈ xs) : Frm xs H (upd H1 a o) := f.trans (Frm.put m)
theorem Scr.frm {K : PySem.W.Frag} {H H' : Hp} {a s : Addr} (h : Scr K H a s) (f : Frm [s] H H') (q : St4 H' s) : Scr K H' a s := by
  obtain ⟨⟨ns, h1, h2⟩, _⟩ := h
  exact ⟨⟨ns, (hid_frm f).seq h1, h2⟩, q⟩
/-- what else is made or changed is not the state -/
theorem Scr.same {K : PySem.W.Frag} {H H' : Hp} {a s : Addr} (h : Scr K H a s) (f : Same H H') : Scr K H' a s := by
  obtain ⟨i, j, k, l, e⟩ := h.2
  exact h.frm (Frm.of_same f) ⟨i, j, k, l, f _ _ e⟩
theorem Scr.ne {K : PySem.W.Frag} {H : Hp} {a s p : Addr} (h : Scr K H a s) (n : H p = none) : ¬ p = s := by
  rintro rfl
  obtain ⟨_, _, _, _, e⟩ := h.2
  rw [n] at e
  cases e
theorem Scr.made {K : PySem.W.Frag} {H : Hp} {a p : Addr} {ns : List Int} (hS : SqL K H a (ns.map V.int)) (hl : ns.length ≤ 63) (n : H p = none) {i j k l : Int} : Scr K (upd H p (.lst [.int i, .int j, .int k, .int l])) a p := by
  refine ⟨⟨ns, Same.seq (H := H) (fun b o e => ?_) hS, hl⟩, i, j, k, l, upd_same⟩
  have nb : b ≠ p := ne_of_none e n
  rw [hid_eq (by simpa using nb), upd_ne nb]
  exact e
theorem ints_at {ns : List Int} {i : Int} (h0 : 0 ≤ i) (h1 : i < ns.length) : ∃ z : Int, atI (ns.map V.int) i = some (.int z) := by
  obtain ⟨j, rfl⟩ : ∃ j : Nat, i = (j : Int) := ⟨i.toNat, by omega⟩
  have hj : j < ns.length := by omega
  exact ⟨ns[j], atI_nat (by simp [hj])⟩
theorem fmod0 {a b : Int} (h : 0 < b) : 0 ≤ a.fmod b := by
  rw [Int.fmod_eq_emod_of_nonneg _ (by omega)]
  exact Int.emod_nonneg _ (by omega)
theorem fmod1 {a b : Int} (h : 0 < b) : a.fmod b < b := by
  rw [Int.fmod_eq_emod_of_nonneg _ (by omega)]
  exact Int.emod_lt_of_pos _ h
def sp_law_start (K : PySem.W.Frag) : Sp := fun vs H Q _ => ∃ (a : Addr) (ns : List Int), vs = [.ref a] ∧ SqL K H a (ns.map V.int) ∧ ns.length ≤ 63 ∧ ∀ p H', Same H H' → H p = none → Scr K H' a p → Q (.ref p) H'
def sp_law_draw (K : PySem.W.Frag) : Sp := fun vs H Q _ => ∃ (a s : Addr) (n : Int), vs = [.ref a, .ref s, .int n] ∧ Scr K H a s ∧ 0 < n ∧ n < 1073741824 ∧ ∀ (r : Int) (H' : Hp), 0 ≤ r → r < n → Frm [s] H H' → Scr K H' a s → Q (.int r) H'

theorem ok_law_start {f : Addr} {fd : FuncData} (F : Fun K "_law_start" "_law_start" s_law_start f fd) (T : Txt K mg) : FnOk P w K mg base CX0 1 f fd P_law_start (sp_law_start K) := by
  refine F.ok sc_law_start (fun vs H Q E h => ?_) (fun cdv A outer s H vs Q E hr h => ?_)
  · obtain ⟨a, ns, rfl, hS, hlen, k⟩ := h
    rfl
  · obtain ⟨a, ns, rfl, hS, hlen, k⟩ := h
    refine ⟨_, (pss_cons (ps_set (i := 1) sc_law_start.nd rfl (by first | exact Or.inl rfl | exact Or.inr rfl) pe_int)
  (pss_cons (ps_if (pt_cmpR op_gt (pe_callB call_len_seq (by rfl) T.b_len PySem.boot_len (pa_cons (pv 0) pa_nil)) pe_int (nomark _))
  (pss_one (ps_set (i := 1) sc_law_start.nd rfl (by first | exact Or.inl rfl | exact Or.inr rfl) (pe_ix ix_list (pv 0) pe_int (fun _ _ => rfl))))
  pss_nil)
  (pss_one (ps_ret (pe_lst (pa_cons (pe_callB (id := "abs") call_abs (by rfl) T.b_abs (by decide +kernel) (pa_cons (pe_callTy (T := "int") call_int1 (by rfl) T.b_int (by decide +kernel) (pa_cons (pv 1) pa_nil)) pa_nil)) (pa_cons (pe_callTy (T := "int") call_int1 (by rfl) T.b_int (by decide +kernel) (pa_cons (pe_cmpR op_ge (pe_callB (id := "abs") call_abs (by rfl) T.b_abs (by decide +kernel) (pa_cons (pe_callTy (T := "int") call_int1 (by rfl) T.b_int (by decide +kernel) (pa_cons (pv 1) pa_nil)) pa_nil)) (pe_op op_pow pe_int pe_int) (nomark _)) pa_nil)) (pa_cons pe_int (pa_cons pe_int pa_nil))))))))), ?_⟩
    refine ⟨_, rfl, a, _, rfl, .inl hS, _, _, rfl, rfl, _, rfl, ?_⟩
    refine ite2 (fun c => ?_) (fun c => ?_)
    · have hp : (0 : Int) < ns.length := by simpa using of_decide_eq_true c
      obtain ⟨z, hz⟩ := ints_at (ns := ns) (i := 0) (by omega) hp
      refine ⟨_, rfl, a, _, _, _, rfl, rfl, hS, hz, ?_⟩
      refine ⟨_, rfl, .inl ⟨_, rfl, _, rfl, _, rfl, .inl ⟨_, rfl, _, rfl, _, _, rfl, rfl, ⟨by decide, by decide, by decide⟩, _, _, rfl, rfl, .inr ⟨_, rfl, (by show 4 ≤ sizeLine; decide), fun l hl => k _ _ (Same.new hl) hl (Scr.made hS hlen hl)⟩⟩⟩⟩
    · refine ⟨_, rfl, .inl ⟨_, rfl, _, rfl, _, rfl, .inl ⟨_, rfl, _, rfl, _, _, rfl, rfl, ⟨by decide, by decide, by decide⟩, _, _, rfl, rfl, .inr ⟨_, rfl, (by show 4 ≤ sizeLine; decide), fun l hl => k _ _ (Same.new hl) hl (Scr.made hS hlen hl)⟩⟩⟩⟩

theorem ok_law_draw {f : Addr} {fd : FuncData} (F : Fun K "_law_draw" "_law_draw" s_law_draw f fd) (T : Txt K mg) : FnOk P w K mg base CX0 1 f fd P_law_draw (sp_law_draw K) := by
  refine F.ok sc_law_draw (fun vs H Q E h => ?_) (fun cdv A outer s H vs Q E hr h => ?_)
  · obtain ⟨a, s0, n, rfl, hScr, n0, n1, k⟩ := h
    rfl
  · obtain ⟨a, s0, n, rfl, hScr, n0, n1, k⟩ := h
    refine ⟨_, (pss_cons (ps_asg (pe_op op_add (pe_ix ix_list (pv 1) pe_int (fun _ _ => rfl)) pe_int) (pg_sub (pv 1) pe_int set_list))
  (pss_cons (ps_if (PW.pt (pw_and (pt_cmpR op_eq (pe_ix ix_list (pv 1) pe_int (fun _ _ => rfl)) pe_int (nomark _)) (pw_and1 (pt_cmpR op_gt (pe_ix ix_list (pv 1) pe_int (fun _ _ => rfl)) pe_int (nomark _)))))
  (pss_cons (ps_set (i := 3) sc_law_draw.nd rfl (by first | exact Or.inl rfl | exact Or.inr rfl) (pe_op op_modN (pe_callTy (T := "int") call_int1 (by rfl) T.b_int (by decide +kernel) (pa_cons (pe_ix ix_list (pv 1) pe_int (fun _ _ => rfl)) pa_nil)) (pv 2)))
  (pss_cons (ps_asg (pe_op op_fdivN (pe_ix ix_list (pv 1) pe_int (fun _ _ => rfl)) (pv 2)) (pg_sub (pv 1) pe_int set_list))
  (pss_one (ps_ret (pv 3)))))
  pss_nil)
  (pss_cons (ps_asg pe_int (pg_sub (pv 1) pe_int set_list))
  (pss_cons (ps_set (i := 4) sc_law_draw.nd rfl (by first | exact Or.inl rfl | exact Or.inr rfl) pe_int)
  (pss_cons (ps_if (pt_cmpR op_gt (pe_callB call_len_seq (by rfl) T.b_len PySem.boot_len (pa_cons (pv 0) pa_nil)) pe_int (nomark _))
  (pss_one (ps_set (i := 4) sc_law_draw.nd rfl (by first | exact Or.inl rfl | exact Or.inr rfl) (pe_ix ix_list (pv 0) (pe_op op_modN (pe_callTy (T := "int") call_int1 (by rfl) T.b_int (by decide +kernel) (pa_cons (pe_ix ix_list (pv 1) pe_int (fun _ _ => rfl)) pa_nil)) (pe_callB call_len_seq (by rfl) T.b_len PySem.boot_len (pa_cons (pv 0) pa_nil))) (fun _ _ => rfl))))
  pss_nil)
  (pss_cons (ps_asg (pe_op op_add (pe_ix ix_list (pv 1) pe_int (fun _ _ => rfl)) pe_int) (pg_sub (pv 1) pe_int set_list))
  (pss_cons (ps_set (i := 5) sc_law_draw.nd rfl (by first | exact Or.inl rfl | exact Or.inr rfl) (pe_op op_mul (pe_op op_modN (pe_callTy (T := "int") call_int1 (by rfl) T.b_int (by decide +kernel) (pa_cons (pe_ix ix_list (pv 1) pe_int (fun _ _ => rfl)) pa_nil)) pe_int) pe_int))
  (pss_cons (ps_set (i := 5) sc_law_draw.nd rfl (by first | exact Or.inl rfl | exact Or.inr rfl) (pe_op op_add (pe_op op_add (pe_op op_add (pv 5) (pe_op op_modN (pe_callTy (T := "int") call_int1 (by rfl) T.b_int (by decide +kernel) (pa_cons (pv 4) pa_nil)) pe_int)) (pe_op op_mul pe_int (pe_ix ix_list (pv 1) pe_int (fun _ _ => rfl)))) pe_int))
  (pss_cons (ps_asg (pe_op op_modN (pe_callTy (T := "int") call_int1 (by rfl) T.b_int (by decide +kernel) (pa_cons (pv 5) pa_nil)) pe_int) (pg_sub (pv 1) pe_int set_list))
  (pss_cons (ps_set (i := 5) sc_law_draw.nd rfl (by first | exact Or.inl rfl | exact Or.inr rfl) (pe_op op_modN (pe_callTy (T := "int") call_int1 (by rfl) T.b_int (by decide +kernel) (pa_cons (pe_op op_add (pe_op op_mul (pe_ix ix_list (pv 1) pe_int (fun _ _ => rfl)) pe_int) (pe_ix ix_list (pv 1) pe_int (fun _ _ => rfl))) pa_nil)) pe_int))
  (pss_one (ps_ret (pe_op op_modN (pe_callTy (T := "int") call_int1 (by rfl) T.b_int (by decide +kernel) (pa_cons (pe_op op_fdivN (pv 5) pe_int) pa_nil)) (pv 2)))))))))))))), ?_⟩
    obtain ⟨⟨ns, hS, hl⟩, i0, i1, i2, i3, h4⟩ := id hScr
    have hA : ∀ H', Frm [s0] H H' → SqL K H' a (ns.map V.int) := fun H' fr => ((hid_frm fr).trans (hid_same _ _)).seq hS
    -- state[3] = state[3] + 1
    refine ⟨_, rfl, s0, _, _, _, rfl, rfl, SqL.of h4, rfl, _, _, rfl, rfl, _, rfl, s0, _, _, _, rfl, rfl, h4, rfl, ?_⟩
    refine ⟨_, rfl, s0, _, _, _, rfl, rfl, SqL.of upd_same, rfl, rfl, _, rfl, ?_⟩
    refine ite2 (fun c1 => ?_) (fun c1 => ?_)
    · refine ⟨_, rfl, s0, _, _, _, rfl, rfl, SqL.of upd_same, rfl, _, _, rfl, rfl, _, rfl, ?_⟩
      refine ite2 (fun c2 => ?_) (fun c2 => ?_)
      · refine ⟨_, rfl, s0, _, _, _, rfl, rfl, SqL.of upd_same, rfl, .inl ⟨_, rfl, _, rfl, _, _, rfl, rfl, (by show (_ : Int) ≠ 0; omega), ?_⟩⟩
        refine ⟨_, rfl, s0, _, _, _, rfl, rfl, SqL.of upd_same, rfl, _, rfl, _, _, rfl, rfl, ⟨by omega, by omega⟩, _, rfl, s0, _, _, _, rfl, rfl, upd_same, rfl, ?_⟩
        exact ⟨_, rfl, k _ _ (fmod0 n0) (fmod1 n0) (by repeat (first | exact Frm.refl _ _ | refine Frm.put' ?_ (by simp))) (hScr.frm (by repeat (first | exact Frm.refl _ _ | refine Frm.put' ?_ (by simp))) ⟨_, _, _, _, upd_same⟩)⟩
      · refine ⟨_, rfl, s0, _, _, _, rfl, rfl, upd_same, rfl, ?_⟩
        refine ⟨_, rfl, a, _, rfl, .inl (hA _ (by repeat (first | exact Frm.refl _ _ | refine Frm.put' ?_ (by simp)))), _, _, rfl, rfl, _, rfl, ?_⟩
        refine ite2 (fun c => ?_) (fun c => ?_)
        · have hp : (0 : Int) < ns.length := by simpa using of_decide_eq_true c
          obtain ⟨z, hz⟩ := ints_at (ns := ns) (i := i2.fmod ((ns.map V.int).length : Nat)) (fmod0 (by simpa using hp)) (by simpa using fmod1 (a := i2) hp)
          refine ⟨_, rfl, _, rfl, s0, _, _, _, rfl, rfl, SqL.of upd_same, rfl, .inl ⟨_, rfl, _, rfl, a, _, rfl, .inl (hA _ (by repeat (first | exact Frm.refl _ _ | refine Frm.put' ?_ (by simp)))), _, _, rfl, rfl, (by show (((ns.map V.int).length : Nat) : Int) ≠ 0; rw [List.length_map]; omega), a, _, _, _, rfl, rfl, hA _ (by repeat (first | exact Frm.refl _ _ | refine Frm.put' ?_ (by simp))), hz, ?_⟩⟩
          -- state[2] = state[2] + 1; mixed = ..
          refine ⟨_, rfl, s0, _, _, _, rfl, rfl, SqL.of upd_same, rfl, _, _, rfl, rfl, _, rfl, s0, _, _, _, rfl, rfl, upd_same, rfl, ?_⟩
          refine ⟨_, rfl, s0, _, _, _, rfl, rfl, SqL.of upd_same, rfl, .inl ⟨_, rfl, _, _, rfl, rfl, (by show (_ : Int) ≠ 0; decide), _, _, rfl, rfl, .inr ⟨by decide, by decide⟩, ?_⟩⟩
          refine ⟨_, rfl, _, rfl, .inl ⟨_, rfl, _, _, rfl, rfl, (by show (_ : Int) ≠ 0; decide), _, _, rfl, rfl, _, rfl, s0, _, _, _, rfl, rfl, SqL.of upd_same, rfl, _, _, rfl, rfl, .inl ⟨by decide, by decide⟩, _, _, rfl, rfl, _, _, rfl, rfl, ?_⟩⟩
          refine ⟨_, rfl, .inl ⟨_, rfl, _, _, rfl, rfl, (by show (_ : Int) ≠ 0; decide), _, rfl, s0, _, _, _, rfl, rfl, upd_same, rfl, ?_⟩⟩
          refine ⟨_, rfl, s0, _, _, _, rfl, rfl, SqL.of upd_same, rfl, _, _, rfl, rfl, .inr ⟨by decide, by decide⟩, _, rfl, s0, _, _, _, rfl, rfl, SqL.of upd_same, rfl, _, _, rfl, rfl, .inl ⟨_, rfl, _, _, rfl, rfl, (by show (_ : Int) ≠ 0; decide), ?_⟩⟩
          refine ⟨_, rfl, _, _, rfl, rfl, ⟨by decide, by decide⟩, .inl ⟨_, rfl, _, rfl, _, _, rfl, rfl, (by show (_ : Int) ≠ 0; omega), ?_⟩⟩
          exact k _ _ (fmod0 n0) (fmod1 n0) (by repeat (first | exact Frm.refl _ _ | refine Frm.put' ?_ (by simp))) (hScr.frm (by repeat (first | exact Frm.refl _ _ | refine Frm.put' ?_ (by simp))) ⟨_, _, _, _, upd_same⟩)
        · -- state[2] = state[2] + 1; mixed = ..
          refine ⟨_, rfl, s0, _, _, _, rfl, rfl, SqL.of upd_same, rfl, _, _, rfl, rfl, _, rfl, s0, _, _, _, rfl, rfl, upd_same, rfl, ?_⟩
          refine ⟨_, rfl, s0, _, _, _, rfl, rfl, SqL.of upd_same, rfl, .inl ⟨_, rfl, _, _, rfl, rfl, (by show (_ : Int) ≠ 0; decide), _, _, rfl, rfl, .inr ⟨by decide, by decide⟩, ?_⟩⟩
          refine ⟨_, rfl, _, rfl, .inl ⟨_, rfl, _, _, rfl, rfl, (by show (_ : Int) ≠ 0; decide), _, _, rfl, rfl, _, rfl, s0, _, _, _, rfl, rfl, SqL.of upd_same, rfl, _, _, rfl, rfl, .inl ⟨by decide, by decide⟩, _, _, rfl, rfl, _, _, rfl, rfl, ?_⟩⟩
          refine ⟨_, rfl, .inl ⟨_, rfl, _, _, rfl, rfl, (by show (_ : Int) ≠ 0; decide), _, rfl, s0, _, _, _, rfl, rfl, upd_same, rfl, ?_⟩⟩
          refine ⟨_, rfl, s0, _, _, _, rfl, rfl, SqL.of upd_same, rfl, _, _, rfl, rfl, .inr ⟨by decide, by decide⟩, _, rfl, s0, _, _, _, rfl, rfl, SqL.of upd_same, rfl, _, _, rfl, rfl, .inl ⟨_, rfl, _, _, rfl, rfl, (by show (_ : Int) ≠ 0; decide), ?_⟩⟩
          refine ⟨_, rfl, _, _, rfl, rfl, ⟨by decide, by decide⟩, .inl ⟨_, rfl, _, rfl, _, _, rfl, rfl, (by show (_ : Int) ≠ 0; omega), ?_⟩⟩
          exact k _ _ (fmod0 n0) (fmod1 n0) (by repeat (first | exact Frm.refl _ _ | refine Frm.put' ?_ (by simp))) (hScr.frm (by repeat (first | exact Frm.refl _ _ | refine Frm.put' ?_ (by simp))) ⟨_, _, _, _, upd_same⟩)
    · refine ⟨_, rfl, s0, _, _, _, rfl, rfl, upd_same, rfl, ?_⟩
      refine ⟨_, rfl, a, _, rfl, .inl (hA _ (by repeat (first | exact Frm.refl _ _ | refine Frm.put' ?_ (by simp)))), _, _, rfl, rfl, _, rfl, ?_⟩
      refine ite2 (fun c => ?_) (fun c => ?_)
      · have hp : (0 : Int) < ns.length := by simpa using of_decide_eq_true c
        obtain ⟨z, hz⟩ := ints_at (ns := ns) (i := i2.fmod ((ns.map V.int).length : Nat)) (fmod0 (by simpa using hp)) (by simpa using fmod1 (a := i2) hp)
        refine ⟨_, rfl, _, rfl, s0, _, _, _, rfl, rfl, SqL.of upd_same, rfl, .inl ⟨_, rfl, _, rfl, a, _, rfl, .inl (hA _ (by repeat (first | exact Frm.refl _ _ | refine Frm.put' ?_ (by simp)))), _, _, rfl, rfl, (by show (((ns.map V.int).length : Nat) : Int) ≠ 0; rw [List.length_map]; omega), a, _, _, _, rfl, rfl, hA _ (by repeat (first | exact Frm.refl _ _ | refine Frm.put' ?_ (by simp))), hz, ?_⟩⟩
        -- state[2] = state[2] + 1; mixed = ..
        refine ⟨_, rfl, s0, _, _, _, rfl, rfl, SqL.of upd_same, rfl, _, _, rfl, rfl, _, rfl, s0, _, _, _, rfl, rfl, upd_same, rfl, ?_⟩
        refine ⟨_, rfl, s0, _, _, _, rfl, rfl, SqL.of upd_same, rfl, .inl ⟨_, rfl, _, _, rfl, rfl, (by show (_ : Int) ≠ 0; decide), _, _, rfl, rfl, .inr ⟨by decide, by decide⟩, ?_⟩⟩
        refine ⟨_, rfl, _, rfl, .inl ⟨_, rfl, _, _, rfl, rfl, (by show (_ : Int) ≠ 0; decide), _, _, rfl, rfl, _, rfl, s0, _, _, _, rfl, rfl, SqL.of upd_same, rfl, _, _, rfl, rfl, .inl ⟨by decide, by decide⟩, _, _, rfl, rfl, _, _, rfl, rfl, ?_⟩⟩
        refine ⟨_, rfl, .inl ⟨_, rfl, _, _, rfl, rfl, (by show (_ : Int) ≠ 0; decide), _, rfl, s0, _, _, _, rfl, rfl, upd_same, rfl, ?_⟩⟩
        refine ⟨_, rfl, s0, _, _, _, rfl, rfl, SqL.of upd_same, rfl, _, _, rfl, rfl, .inr ⟨by decide, by decide⟩, _, rfl, s0, _, _, _, rfl, rfl, SqL.of upd_same, rfl, _, _, rfl, rfl, .inl ⟨_, rfl, _, _, rfl, rfl, (by show (_ : Int) ≠ 0; decide), ?_⟩⟩
        refine ⟨_, rfl, _, _, rfl, rfl, ⟨by decide, by decide⟩, .inl ⟨_, rfl, _, rfl, _, _, rfl, rfl, (by show (_ : Int) ≠ 0; omega), ?_⟩⟩
        exact k _ _ (fmod0 n0) (fmod1 n0) (by repeat (first | exact Frm.refl _ _ | refine Frm.put' ?_ (by simp))) (hScr.frm (by repeat (first | exact Frm.refl _ _ | refine Frm.put' ?_ (by simp))) ⟨_, _, _, _, upd_same⟩)
      · -- state[2] = state[2] + 1; mixed = ..
        refine ⟨_, rfl, s0, _, _, _, rfl, rfl, SqL.of upd_same, rfl, _, _, rfl, rfl, _, rfl, s0, _, _, _, rfl, rfl, upd_same, rfl, ?_⟩
        refine ⟨_, rfl, s0, _, _, _, rfl, rfl, SqL.of upd_same, rfl, .inl ⟨_, rfl, _, _, rfl, rfl, (by show (_ : Int) ≠ 0; decide), _, _, rfl, rfl, .inr ⟨by decide, by decide⟩, ?_⟩⟩
        refine ⟨_, rfl, _, rfl, .inl ⟨_, rfl, _, _, rfl, rfl, (by show (_ : Int) ≠ 0; decide), _, _, rfl, rfl, _, rfl, s0, _, _, _, rfl, rfl, SqL.of upd_same, rfl, _, _, rfl, rfl, .inl ⟨by decide, by decide⟩, _, _, rfl, rfl, _, _, rfl, rfl, ?_⟩⟩
        refine ⟨_, rfl, .inl ⟨_, rfl, _, _, rfl, rfl, (by show (_ : Int) ≠ 0; decide), _, rfl, s0, _, _, _, rfl, rfl, upd_same, rfl, ?_⟩⟩
        refine ⟨_, rfl, s0, _, _, _, rfl, rfl, SqL.of upd_same, rfl, _, _, rfl, rfl, .inr ⟨by decide, by decide⟩, _, rfl, s0, _, _, _, rfl, rfl, SqL.of upd_same, rfl, _, _, rfl, rfl, .inl ⟨_, rfl, _, _, rfl, rfl, (by show (_ : Int) ≠ 0; decide), ?_⟩⟩
        refine ⟨_, rfl, _, _, rfl, rfl, ⟨by decide, by decide⟩, .inl ⟨_, rfl, _, rfl, _, _, rfl, rfl, (by show (_ : Int) ≠ 0; omega), ?_⟩⟩
        exact k _ _ (fmod0 n0) (fmod1 n0) (by repeat (first | exact Frm.refl _ _ | refine Frm.put' ?_ (by simp))) (hScr.frm (by repeat (first | exact Frm.refl _ _ | refine Frm.put' ?_ (by simp))) ⟨_, _, _, _, upd_same⟩)
end
section
variable {P : Program} {w : World} {K : PySem.W.Frag} {mg : Str → Option Value} {base : Heap}

theorem ok_shown {f : Addr} {fd : FuncData} (F : Fun K "_shown" "_shown" s_shown f fd) (T : Txt K mg) : FnOk P w K mg base CX0 1 f fd P_shown sp_shown := by
  refine F.ok sc_shown (fun vs H Q E h => ?_) (fun cdv A outer s H vs Q E hr h => ?_)
  · obtain ⟨x, rfl, hx, k⟩ := h
    rfl
  · obtain ⟨x, rfl, hx, k⟩ := h
    refine ⟨_, (pss_cons (ps_if (pt_val (pe_callB (id := "isinstance") call_isi (by rfl) T.b_isinstance (by decide +kernel) (pa_cons (pv 0) (pa_cons (pe_bltn (v := .ty "str") (by rfl) T.b_str (by decide +kernel) rfl) pa_nil))))
  (pss_one (ps_ret (pe_callB (id := "repr") call_repr_str (by rfl) T.b_repr (by decide +kernel) (pa_cons (pv 0) pa_nil))))
  pss_nil)
  (pss_cons (ps_if (PW.pt (pw_and (pt_val (pe_callB (id := "isinstance") call_isi (by rfl) T.b_isinstance (by decide +kernel) (pa_cons (pv 0) (pa_cons (pe_bltn (v := .ty "int") (by rfl) T.b_int (by decide +kernel) rfl) pa_nil)))) (pw_and1 (pt_chain op_ltM op_ltM (pe_un un_neg pe_int) (pv 0) pe_int))))
  (pss_one (ps_ret (pe_callTy (T := "str") call_str_ib (by rfl) T.b_str (by decide +kernel) (pa_cons (pv 0) pa_nil))))
  pss_nil)
  (pss_one (ps_ret pe_str)))), ?_⟩
    rcases hx with ⟨z, rfl, hz⟩ | ⟨i, rfl⟩ | rfl | ⟨b, rfl⟩
    · refine ⟨_, rfl, _, _, _, _, true, rfl, .ty _, .base (.str _), kit_ty (by decide +kernel), true, rfl, iteT ?_⟩
      exact ⟨_, rfl, z, rfl, Nat.le_trans hz (by rw [sizeLine_eq]; decide), k _ hz⟩
    · refine ⟨_, rfl, _, _, _, _, false, rfl, .ty _, .base (.int _), kit_ty (by decide +kernel), false, rfl, iteF ?_⟩
      refine ⟨_, rfl, _, _, _, _, true, rfl, .ty _, .base (.int _), kit_ty (by decide +kernel), true, rfl, iteT ?_⟩
      refine ⟨_, rfl, _, rfl, _, _, rfl, rfl, _, rfl, ?_⟩
      refine ite2 (fun c1 => ?_) (fun c1 => ?_)
      · have c1 := of_decide_eq_true c1
        refine ⟨_, _, rfl, rfl, _, rfl, ?_⟩
        refine ite2 (fun c2 => ?_) (fun c2 => ?_)
        · have c2 := of_decide_eq_true c2
          have hn : i.natAbs < 10 ^ 4 := by
            have e : (10 : Nat) ^ 4 = 10000 := by decide
            rw [e]
            omega
          refine ⟨_, rfl, .inl ⟨_, rfl, ?_, k _ ?_⟩⟩
          · have h2 : i.natAbs < 2 ^ 1920 := Nat.lt_of_lt_of_le hn (by decide)
            by_cases h0 : i.natAbs = 0
            · rw [h0]
              decide
            · exact (Nat.log2_lt h0).mpr h2
          · have e := int_text_length_le10 (k := 4) (by decide) hn
            show (Str.ofString (toString i)).length ≤ _
            rw [PySem.ofString_length]
            omega
        · exact k _ (by decide +kernel)
      · refine ⟨_, rfl, ite2 (fun z => absurd z (by decide)) (fun _ => ?_)⟩
        exact k _ (by decide +kernel)
    · refine ⟨_, rfl, _, _, _, _, false, rfl, .ty _, .base .non, kit_ty (by decide +kernel), false, rfl, iteF ?_⟩
      refine ⟨_, rfl, _, _, _, _, false, rfl, .ty _, .base .non, kit_ty (by decide +kernel), false, rfl, iteF ?_⟩
      exact k _ (by decide +kernel)
    · refine ⟨_, rfl, _, _, _, _, false, rfl, .ty _, .base (.bl _), kit_ty (by decide +kernel), false, rfl, iteF ?_⟩
      refine ⟨_, rfl, _, _, _, _, true, rfl, .ty _, .base (.bl _), kit_ty (by decide +kernel), true, rfl, iteT ?_⟩
      refine ⟨_, rfl, _, rfl, _, _, rfl, rfl, _, rfl, ?_⟩
      refine ite2 (fun c1 => ?_) (fun c1 => absurd (decide_eq_true (by cases b <;> decide)) c1)
      refine ⟨_, _, rfl, rfl, _, rfl, ?_⟩
      refine ite2 (fun c2 => ?_) (fun c2 => absurd (decide_eq_true (by cases b <;> decide)) c2)
      exact ⟨_, rfl, .inr ⟨b, rfl, k _ (by cases b <;> decide +kernel)⟩⟩

theorem okBadNumber___init__ {f C cda cc : Addr} {oc dV kV doc pm ct : Value} {an od : Option Addr} {osl : Array (Option Value)} (lk : K.lookup f = some ⟨oc, od, .func (PySem.W.fnX "__init__" "BadNumber.__init__" (defArgs sBadNumber___init__) (defBody sBadNumber___init__) (defScope sBadNumber___init__) [("__class__", cc)] dV kV doc pm an (.ref cda) ct), osl⟩) (EC : ErrC P K mg "BadNumber" "BadNumber.__init__" C f cda cc) (T : Txt K mg)
    (C_shown : Cal P w K mg base "_shown" P_shown 1 sp_shown) : FnOk P w K mg base CX0 2 f (PySem.W.fnX "__init__" "BadNumber.__init__" (defArgs sBadNumber___init__) (defBody sBadNumber___init__) (defScope sBadNumber___init__) [("__class__", cc)] dV kV doc pm an (.ref cda) ct) PBadNumber___init__ (spBadNumber C) := by
  obtain ⟨g_shown, gd_shown, G_shown, m_shown, k_shown, b_shown⟩ := C_shown.ex
  refine fn_super (N := NBadNumber___init__) lk EC.sup scBadNumber___init__ rfl rfl rfl rfl (fun vs H Q E h => ?_) (fun A outer s H vs Q E hr h => ?_)
  · obtain ⟨a, z, v, rfl, ha, hz, hv, k⟩ := h
    rfl
  · obtain ⟨a, z, v, rfl, ha, hz, hv, k⟩ := h
    refine ⟨_, _, (pa_cons (pe_joined (.cons pe_str (.cons (pe_fmt (pv 1)) (.cons pe_str (.cons (pe_fmt (pe_call G_shown (hr.mono (by decide)) (by rfl) m_shown k_shown b_shown .nil pass0 (pa_cons (pv 2) pa_nil))) .nil))))) pa_nil), (pss_cons (ps_ost (pv 0) (pv 1)) (pss_one (ps_ost (pv 0) (pv 2)))), ?_⟩
    have h1 : (Str.empty ++ ("bad number for " : Str)).length ≤ 15 := by decide +kernel
    have h2 : (Str.empty ++ ("bad number for " : Str) ++ z).length ≤ 1015 := by rw [PySem.Str.length_append]; omega
    have h3 : (Str.empty ++ ("bad number for " : Str) ++ z ++ (": " : Str)).length ≤ 1017 := by rw [PySem.Str.length_append]; rw [show (": " : Str).length = 2 by decide +kernel]; omega
    refine ⟨a, _, rfl, ha, ?_⟩
    refine ⟨_, rfl, Nat.le_trans h1 (by rw [sizeLine_eq]; decide), ?_⟩
    refine ⟨_, rfl, .inl ⟨z, rfl, Nat.le_trans hz (by rw [sizeLine_eq]; decide), z, rfl, Nat.le_trans h2 (by rw [sizeLine_eq]; decide), ?_⟩⟩
    refine ⟨_, rfl, Nat.le_trans h3 (by rw [sizeLine_eq]; decide), ?_⟩
    refine ⟨_, rfl, v, rfl, hv, fun y hy => .inl ⟨y, rfl, Nat.le_trans hy (by rw [sizeLine_eq]; decide), y, rfl, ?_, ?_⟩⟩
    · rw [PySem.Str.length_append, sizeLine_eq]
      omega
    refine ⟨(by show 1 ≤ 1000; decide), ha, ?_⟩
    refine ⟨_, rfl, _, rfl, a, C, rfl, EC.sup.oex, EC.noWhat, .inl ⟨ha, fun dx nd ne => ?_⟩⟩
    refine ⟨_, rfl, _, rfl, a, C, rfl, EC.sup.oex, EC.noValue, .inr ⟨dx, _, upd_same, (by rw [upd_ne ne]; exact upd_same), (by show 1 ≤ 900; decide), ?_⟩⟩
    exact init_leaves2 ha k nd ne
end
end Wb

namespace Wb
open PySem PySem.Spec PyProof.Rows L2 Wx NdefX RZ StX PyProof.Rows.FinIter
section
variable {P : Program} {w : World} {K : PySem.W.Frag} {mg : Str → Option Value} {base : Heap}

theorem take_snoc {α : Type} : ∀ {l : List α} {i : Nat} {x : α}, l[i]? = some x → l.take (i + 1) = l.take i ++ [x]
  | [], i, x, h => by simp at h
  | a :: l, 0, x, h => by
    have e : a = x := Option.some.inj h
    subst e
    rfl
  | a :: l, i + 1, x, h => by
    have ih := take_snoc (l := l) (i := i) (x := x) h
    show a :: l.take (i + 1) = a :: l.take i ++ [x]
    rw [ih]
    rfl
abbrev codes (z : Str) : List Nat := z.cps.toList
theorem codes_len (z : Str) : (codes z).length = z.length := Array.length_toList
theorem codes_app (x y : Str) : codes (x ++ y) = codes x ++ codes y := by
  show (x ++ y).cps.toList = _
  rw [PySem.Str.cps_append, Array.toList_append]
theorem bigN {n : Nat} (h : n ≤ 1000000) : n ≤ sizeLine := Nat.le_trans h (by rw [sizeLine_eq]; decide)
theorem lt1 {c d : Nat} : ([c] : List Nat) < [d] ↔ c < d := by
  rw [List.cons_lt_cons_iff]
  simp
theorem aS : ("a" : Str).cps.toList = [97] := by decide +kernel
theorem zS : ("z" : Str).cps.toList = [122] := by decide +kernel
def lowB (z : Str) : Bool := (codes z).all fun c => decide (97 ≤ c ∧ c ≤ 122)
def nameB : V → Bool
  | .str z => decide (1 ≤ z.length ∧ z.length ≤ 8) && lowB z
  | _ => false
def numB (v : V) (lo hi : Int) : Bool := match v with | .int i => decide (lo ≤ i ∧ i ≤ hi) | _ => false
/-- a value of one of the kinds that are asked -/
inductive OddV : V → Prop
  | str (z : Str) : z.length ≤ 1000 → (reprText z).length ≤ 20000 → OddV (.str z)
  | int (i : Int) : OddV (.int i)
  | non : OddV .non
  | bl (b : Bool) : OddV (.bl b)
theorem OddV.shows {x : V} (h : OddV x) : ShowOk x := by
  cases h with
  | str z h1 h2 => exact .inl ⟨z, rfl, h2⟩
  | int i => exact .inr (.inl ⟨i, rfl⟩)
  | non => exact .inr (.inr (.inl rfl))
  | bl b => exact .inr (.inr (.inr ⟨b, rfl⟩))
theorem OddV.self {x : V} (h : OddV x) : scal x x = true := by cases h <;> rfl
theorem OddV.text {x : V} (h : OddV x) (z : Str) : scal x (.str z) = true := by cases h <;> rfl
theorem OddV.tyOf {x : V} (h : OddV x) {K : PySem.W.Frag} {H : Hp} : ∃ T, TyOf K H x T ∧ True := by
  cases h with
  | str z h1 h2 => exact ⟨_, .str _, trivial⟩
  | int i => exact ⟨_, .int _, trivial⟩
  | non => exact ⟨_, .non, trivial⟩
  | bl b => exact ⟨_, .bl _, trivial⟩
def spis_name : Sp := fun vs H Q _ => ∃ x, vs = [x] ∧ OddV x ∧ ∀ H', Same H H' → Q (.bl (nameB x)) H'
def spcheck_name (C : Addr) : Sp := fun vs H Q E => ∃ x, vs = [x] ∧ OddV x ∧ (nameB x = true → ∀ H', Same H H' → Q x H') ∧
  (nameB x = false → ∀ (d : Addr) (H' : Hp), H d = none → Same H H' → H' d = some (.xd [("name", x)]) → E (.ref C) (some d) H')
def spcheck_number (C : Addr) : Sp := fun vs H Q E => ∃ (z : Str) (v : V) (lo hi : Int), vs = [.str z, v, .int lo, .int hi] ∧ z.length ≤ 1000 ∧ OddV v ∧ (numB v lo hi = true → Q v H) ∧
  (numB v lo hi = false → ∀ (d : Addr) (H' : Hp), H d = none → Same H H' → H' d = some (.xd [("value", v), ("what", .str z)]) → E (.ref C) (some d) H')
def sp_law_is_integer : Sp := fun vs H Q _ => ∃ i : Int, vs = [.int i] ∧ Q (.bl true) H
theorem look_val {v w : V} : ([("value", v), ("what", w)] : List (Str × V)).lookup ("value" : Str) = some v := by rw [lookup_put, if_pos rfl]
theorem look_what {v w : V} : ([("value", v), ("what", w)] : List (Str × V)).lookup ("what" : Str) = some w := by rw [lookup_put, if_neg (by decide +kernel), lookup_put, if_pos rfl]
theorem look_name {v : V} : ([("name", v)] : List (Str × V)).lookup ("name" : Str) = some v := by rw [lookup_put, if_pos rfl]
theorem ne_self {x : V} : ¬ (!decide (x = x)) = true := by rw [decide_eq_true rfl]; exact Bool.false_ne_true
theorem upd_upd {H : Hp} {a : Addr} {o o1 : HO} : upd (upd H a o) a o1 = upd H a o1 := by
  funext b
  by_cases h : b = a
  · rw [h, upd_same, upd_same]
  · rw [upd_ne h, upd_ne h, upd_ne h]
def TxtOk (n : Nat) (z : Str) : Prop := z.length ≤ n ∧ ∀ c, c ∈ codes z → c < 128
theorem TxtOk.repr {n : Nat} {z : Str} (h : TxtOk n z) (hn : n ≤ 1000) : (reprText z).length ≤ 20000 := by
  have := PySem.StrLaws.reprText_len z (fun c hc => Nat.lt_trans (h.2 c hc) (by decide))
  have := h.1
  omega
theorem TxtOk.mono {m n : Nat} {z : Str} (h : TxtOk m z) (hn : m ≤ n) : TxtOk n z := ⟨Nat.le_trans h.1 hn, h.2⟩
theorem TxtOk.app {m n : Nat} {x y : Str} (h1 : TxtOk m x) (h2 : TxtOk n y) : TxtOk (m + n) (x ++ y) := by
  refine ⟨by rw [PySem.Str.length_append]; have := h1.1; have := h2.1; omega, fun c hc => ?_⟩
  have e : codes (x ++ y) = codes x ++ codes y := by
    show (x ++ y).cps.toList = _
    rw [PySem.Str.cps_append, Array.toList_append]
  rw [e] at hc
  rcases List.mem_append.mp hc with q | q
  · exact h1.2 c q
  · exact h2.2 c q
theorem TxtOk.cut {n : Nat} {z : Str} {lo hi : Option Int} (h : TxtOk n z) : TxtOk n (cutS z lo hi) := by
  have e : codes (cutS z lo hi) = ((codes z).drop (HT.sIx z.length 0 lo)).take (HT.sIx z.length z.length hi - HT.sIx z.length 0 lo) := by
    unfold cutS codes
    simp
  refine ⟨?_, fun c hc => ?_⟩
  · rw [← codes_len, e, List.length_take, List.length_drop, codes_len]
    have := h.1
    omega
  · rw [e] at hc
    exact h.2 c (List.mem_of_mem_drop (List.mem_of_mem_take hc))
theorem TxtOk.one {c : Nat} (h : c < 128) : TxtOk 1 ⟨#[c]⟩ := ⟨Nat.le_refl _, fun d hd => by
  have : d = c := by simpa [codes] using hd
  omega⟩
theorem Str.odd {n : Nat} {z : Str} (h : TxtOk n z) (hn : n ≤ 1000) : OddV (.str z) := .str z (Nat.le_trans h.1 hn) (h.repr hn)
theorem scr_of {K : PySem.W.Frag} {H H' : Hp} {a s p : Addr} (h : Scr K H a s) (n : H p = none) (f : Frm [p, s] H H') (q : St4 H' s) : Scr K H' a s := by
  obtain ⟨⟨ns, h1, h2⟩, _⟩ := h
  refine ⟨⟨ns, Same.seq (fun b o e => ?_) h1, h2⟩, q⟩
  have nb : ¬ b ∈ [s] := fun y => by
    rw [show hid [s] H b = none from if_pos y] at e
    cases e
  rw [hid_eq nb] at e ⊢
  refine f b o (fun y => ?_) e
  rcases List.mem_cons.mp y with z | z
  · rw [z, n] at e
    cases e
  · exact nb z
theorem OddV.dp {x : V} (h : OddV x) (hs : ∀ z, x = .str z → PyData.strOk z = true) : ∃ d, (∀ K H, Dp K H x d) ∧ (∀ t : Str, PyData.strOk t = true → SeqAt.shaped (.tuple [.str t, d]) = true) := by
  cases h with
  | str z h1 h2 => exact ⟨_, fun _ _ => .str z, fun t ht => by simp [SeqAt.shaped, PyData.canLay0, PyData.canLayAll0, PyData.depth, PyData.depthAll, ht, hs z rfl]⟩
  | int i => exact ⟨_, fun _ _ => .int i, fun t ht => by simp [SeqAt.shaped, PyData.canLay0, PyData.canLayAll0, PyData.depth, PyData.depthAll, ht]⟩
  | non => exact ⟨_, fun _ _ => .non, fun t ht => by simp [SeqAt.shaped, PyData.canLay0, PyData.canLayAll0, PyData.depth, PyData.depthAll, ht]⟩
  | bl b => exact ⟨_, fun _ _ => .bl b, fun t ht => by simp [SeqAt.shaped, PyData.canLay0, PyData.canLayAll0, PyData.depth, PyData.depthAll, ht]⟩
theorem TxtOk.strOk {n : Nat} {z : Str} (h : TxtOk n z) : PyData.strOk z = true := by
  unfold PyData.strOk
  rw [Array.all_eq_true_iff_forall_mem]
  intro c hc
  exact decide_eq_true (Nat.lt_trans (h.2 c (by simpa [codes] using hc)) (by decide))
/-- the two told pairs are equal -/
theorem pair_eq {K : PySem.W.Frag} {H : Hp} {q r : Addr} {t : Str} {v : V} (ht : PyData.strOk t = true) (o : OddV v) (hs : ∀ z, v = .str z → PyData.strOk z = true) (h1 : H q = some (.tup [.str t, v])) (h2 : H r = some (.tup [.str t, v])) :
    ∃ d e, Dp K H (.ref q) d ∧ Dp K H (.ref r) e ∧ SeqAt.shaped d = true ∧ SeqAt.shaped e = true ∧ PyData.eqv d e = true := by
  obtain ⟨d, hd, sd⟩ := o.dp hs
  exact ⟨_, _, .tup (.inl (.inl h1)) (.cons (.str t) (.cons (hd K H) .nil)), .tup (.inl (.inl h2)) (.cons (.str t) (.cons (hd K H) .nil)), sd t ht, sd t ht, PySem.SeqAt.eqv_refl _ (PySem.SeqAt.canLay_of_shaped (sd t ht))⟩

/-- what is asked of a class with __init__ and __eq__ -/
structure DatC (K : PySem.W.Frag) (mg : Str → Option Value) (x : Str) (C fi fe : Addr) (fs : List Str) : Prop where
  g : mg x = some (.ref C)
  mkk : Mk K C fi
  cls : Cls K C
  no : ∀ f, f ∈ fs → NoAttr K C f
  eq : PySem.W.findIn K (.ref C) "__eq__" = some (some (.ref fe))
  fe : PySem.W.isFn K (.ref fe) = true
  ne : PySem.W.findIn K (.ref C) "__ne__" = some (some (.builtin "object.__ne__"))
  ob : PySem.W.subIn K (.ref C) (.type "object") = some true
  ha : PySem.W.findIn K (.ref C) "__class__" = some (some (.builtin "object.__class__"))
  hn : PySem.W.specialIn K (.builtin "object.__class__") "__get__" = some (some (.builtin "getset_descriptor.__get__"))
  htk : PySem.W.takesIn K (.builtin "object.__class__") = some true
  hm : PySem.W.mroIn K C (.type "object") = some true
  kit : PySem.W.kitOne K (.ref C) (.ref C) = some true
def splaw (K : PySem.W.Frag) : Sp := fun vs H Q _ => ∃ (a : Addr) (ns : List Int), vs = [.ref a] ∧ SqL K H a (ns.map V.int) ∧ ns.length ≤ 63 ∧ ∀ H', Q (.bl true) H'

theorem Same.seqT {K : PySem.W.Frag} {H H' : Hp} {a : Addr} {xs : List V} (e : Same H H') (h : SqT K H a xs) : SqT K H' a xs := by
  rcases h with h | h
  · exact .inl (h.imp (e a _) fun ⟨o, q⟩ => ⟨o, e a _ q⟩)
  · exact .inr h
def bad8 (x : V) : Bool := !numB x 0 8
theorem find_at {p : V → Bool} : ∀ {xs : List V} {i : Nat} {x : V}, xs[i]? = some x → (∀ y, y ∈ xs.take i → p y = false) → p x = true → xs.find? p = some x
  | [], i, x, h, _, _ => by simp at h
  | y :: ys, 0, x, h, _, q => by
    have e : y = x := Option.some.inj h
    subst e
    rw [List.find?_cons, q]
  | y :: ys, i + 1, x, h, k, q => by
    rw [List.find?_cons, k y (by rw [List.take_succ_cons]; exact List.mem_cons_self)]
    exact find_at (xs := ys) (i := i) h (fun z hz => k z (by rw [List.take_succ_cons]; exact List.mem_cons_of_mem _ hz)) q
theorem find_none {p : V → Bool} {xs : List V} (k : ∀ y, y ∈ xs → p y = false) : xs.find? p = none := List.find?_eq_none.mpr fun y hy => by rw [k y hy]; exact Bool.false_ne_true
def spcheck_units (K : PySem.W.Frag) (C : Addr) : Sp := fun vs H Q E => ∃ (z : Str) (a : Addr) (xs : List V), vs = [.str z, .ref a] ∧ z.length ≤ 1000 ∧ (SqL K H a xs ∨ SqT K H a xs) ∧ xs.length ≤ 1000 ∧ (∀ x, x ∈ xs → OddV x) ∧
  (xs.find? bad8 = none → ∀ (q : Addr) (H' : Hp), H q = none → H' q = some (.tup xs) → Same H H' → Q (.ref q) H') ∧
  (∀ x, xs.find? bad8 = some x → ∀ (d : Addr) (H' : Hp), H d = none → Same H H' → H' d = some (.xd [("value", x), ("what", .str z)]) → E (.ref C) (some d) H')

theorem okcheck_number {f : Addr} {fd : FuncData} (F : Fun K "check_number" "check_number" scheck_number f fd) (T : Txt K mg) {C_BadNumber f_BadNumber cda_BadNumber cc_BadNumber : Addr} {fd_BadNumber : FuncData} (E_BadNumber : ErrC P K mg "BadNumber" "BadNumber.__init__" C_BadNumber f_BadNumber cda_BadNumber cc_BadNumber) (G_BadNumber : FnOk P w K mg base CX0 2 f_BadNumber fd_BadNumber PBadNumber___init__ (spBadNumber C_BadNumber)) (b_BadNumber : Binds K fd_BadNumber PBadNumber___init__ []) : FnOk P w K mg base (L2.CX P w) 4 f fd Pcheck_number (spcheck_number C_BadNumber) := by
  refine F.okX sccheck_number (fun vs H Q E h => ?_) (fun cdv A outer s H vs Q E hr h => ?_)
  · obtain ⟨z, v, lo, hi, rfl, hz, hv, kT, kE⟩ := h
    rfl
  · obtain ⟨z, v, lo, hi, rfl, hz, hv, kT, kE⟩ := h
    refine ⟨_, (pss_cons (ps_if (PW.pt (pw_or (pt_val (pe_callB (id := "isinstance") call_isi (by rfl) T.b_isinstance (by decide +kernel) (pa_cons (pv 1) (pa_cons (pe_bltn (v := .ty "bool") (by rfl) T.b_bool (by decide +kernel) rfl) pa_nil)))) (pw_or1 (pt_not (pt_val (pe_callB (id := "isinstance") call_isi (by rfl) T.b_isinstance (by decide +kernel) (pa_cons (pv 1) (pa_cons (pe_bltn (v := .ty "int") (by rfl) T.b_int (by decide +kernel) rfl) pa_nil))))))))
  (pss_one (ps_raise rfl (takes_of rfl rfl rfl rfl) (pmk_oex E_BadNumber.sup.oex E_BadNumber.ini E_BadNumber.tyI G_BadNumber (hr.mono (by decide)) b_BadNumber .nil pass0 (by rfl) E_BadNumber.g (pa_cons (pv 0) (pa_cons (pv 1) pa_nil)))))
  pss_nil)
  (pss_cons (ps_if (PW.pt (pw_or (pt_cmpR op_lt (pv 1) (pv 2) (nomark _)) (pw_or1 (pt_cmpR op_gt (pv 1) (pv 3) (nomark _)))))
  (pss_one (ps_raise rfl (takes_of rfl rfl rfl rfl) (pmk_oex E_BadNumber.sup.oex E_BadNumber.ini E_BadNumber.tyI G_BadNumber (hr.mono (by decide)) b_BadNumber .nil pass0 (by rfl) E_BadNumber.g (pa_cons (pv 0) (pa_cons (pv 1) pa_nil)))))
  pss_nil)
  (pss_one (ps_ret (pv 1))))), ?_⟩
    have hv0 := hv
    cases hv with
    | int i =>
      refine ⟨_, rfl, _, _, _, _, false, rfl, .ty _, .base (.int _), kit_ty (by decide +kernel), false, rfl, iteF ?_⟩
      refine ⟨_, rfl, _, _, _, _, true, rfl, .ty _, .base (.int _), kit_ty (by decide +kernel), true, rfl, iteF ?_⟩
      refine ⟨_, rfl, _, rfl, _, _, rfl, rfl, _, rfl, ?_⟩
      refine ite2 (fun c1 => ?_) (fun c1 => ?_)
      · have c1 := of_decide_eq_true c1
        exact ⟨_, rfl, _, rfl, (by show 2 ≤ 1000; decide), fun a na => ⟨a, z, _, rfl, upd_same, hz, hv0.shows, made_of na fun d H' nd s' hd => kE (decide_eq_false (by omega)) d H' nd s' hd⟩⟩
      · have c1 : ¬ i < lo := fun q => c1 (decide_eq_true q)
        refine ⟨_, rfl, _, rfl, _, _, rfl, rfl, _, rfl, ?_⟩
        refine ite2 (fun c2 => ?_) (fun c2 => ?_)
        · have c2 := of_decide_eq_true c2
          exact ⟨_, rfl, _, rfl, (by show 2 ≤ 1000; decide), fun a na => ⟨a, z, _, rfl, upd_same, hz, hv0.shows, made_of na fun d H' nd s' hd => kE (decide_eq_false (by omega)) d H' nd s' hd⟩⟩
        · have c2 : ¬ hi < i := fun q => c2 (decide_eq_true q)
          exact ⟨_, rfl, kT (decide_eq_true (by omega))⟩
    | non =>
      refine ⟨_, rfl, _, _, _, _, false, rfl, .ty _, .base .non, kit_ty (by decide +kernel), false, rfl, iteF ?_⟩
      refine ⟨_, rfl, _, _, _, _, false, rfl, .ty _, .base .non, kit_ty (by decide +kernel), false, rfl, iteT ?_⟩
      exact ⟨_, rfl, _, rfl, (by show 2 ≤ 1000; decide), fun a na => ⟨a, z, _, rfl, upd_same, hz, hv0.shows, made_of na fun d H' nd s' hd => kE rfl d H' nd s' hd⟩⟩
    | bl b =>
      refine ⟨_, rfl, _, _, _, _, true, rfl, .ty _, .base (.bl _), kit_ty (by decide +kernel), true, rfl, iteT ?_⟩
      exact ⟨_, rfl, _, rfl, (by show 2 ≤ 1000; decide), fun a na => ⟨a, z, _, rfl, upd_same, hz, hv0.shows, made_of na fun d H' nd s' hd => kE rfl d H' nd s' hd⟩⟩
    | str y h1 h2 =>
      refine ⟨_, rfl, _, _, _, _, false, rfl, .ty _, .base (.str _), kit_ty (by decide +kernel), false, rfl, iteF ?_⟩
      refine ⟨_, rfl, _, _, _, _, false, rfl, .ty _, .base (.str _), kit_ty (by decide +kernel), false, rfl, iteT ?_⟩
      exact ⟨_, rfl, _, rfl, (by show 2 ≤ 1000; decide), fun a na => ⟨a, z, _, rfl, upd_same, hz, hv0.shows, made_of na fun d H' nd s' hd => kE rfl d H' nd s' hd⟩⟩

theorem okcheck_units {f : Addr} {fd : FuncData} (F : Fun K "check_units" "check_units" scheck_units f fd) (T : Txt K mg) {C_BadNumber : Addr} (C_xcheck_number : ∃ (g : Addr) (gd : FuncData), FnOk P w K mg base (L2.CX P w) 4 g gd Pcheck_number (spcheck_number C_BadNumber) ∧ mg "check_number" = some (.ref g) ∧ PySem.W.keepIn K (.ref g) = true ∧ Binds K gd Pcheck_number []) : FnOk P w K mg base (L2.CX P w) 5 f fd Pcheck_units (spcheck_units K C_BadNumber) := by
  obtain ⟨_, c_MOST_UNITS⟩ := T.c_MOST_UNITS
  obtain ⟨gcheck_number, gdcheck_number, Gcheck_number, mcheck_number, kcheck_number, bcheck_number⟩ := C_xcheck_number
  refine F.okX sccheck_units (fun vs H Q E h => ?_) (fun cdv A outer s H vs Q E hr h => ?_)
  · obtain ⟨z, a, xs, rfl, hz, hs, hl, ho, kT, kE⟩ := h
    rfl
  · obtain ⟨z, a, xs, rfl, hz, hs, hl, ho, kT, kE⟩ := h
    refine ⟨_, (pss_one (ps_ret (pe_callTy (T := "tuple") call_tuple_of (by rfl) T.b_tuple (by decide +kernel) (pa_cons (pe_lcX (own := [("value", 2)]) (fun σ => air_of (takes_of rfl rfl rfl rfl) rfl rfl) rfl sccheck_units.nd (pi_seq (pv 1)) (blkOk_by (own := [("value", 2)]) (N := Ncheck_units) (sc := defScope scheck_units) (by decide +kernel)) (fun _ _ _ _ _ => (pg_name (i := 2) sccheck_units.nd rfl (by first | exact Or.inl rfl | exact Or.inr rfl))) (fun _ _ _ _ _ => pts_nil) (fun _ _ _ _ _ _ _ air => (pe_callS Gcheck_number (hr.mono (by decide)) (by rfl) mcheck_number kcheck_number bcheck_number (fun σ => (air σ).pass) (pa_cons (pv 0) (pa_cons (pv 2) (pa_cons pe_int (pa_cons (pe_glob (v := .int 8) rfl c_MOST_UNITS ⟨_, rfl⟩) pa_nil))))))) pa_nil)))), ?_⟩
    refine ⟨_, rfl, a, xs, rfl, ?_⟩
    rcases hs with hs | hs
    · refine .inl ⟨hs, fun D hD => ?_⟩
      refine lc_it walk_list (fun i H1 => H1 D = some (.lst (xs.take i)) ∧ Same H H1 ∧ ∀ y, y ∈ xs.take i → bad8 y = false) ⟨upd_same, Same.new hD, fun y hy => by cases hy⟩ (fun i H1 _ q => Same.seq q.2.1 hs) ?_ ?_
      · rintro i x H1o H1 hi ⟨e1, s1, g1⟩ ⟨rfl, hx⟩
        refine ⟨rfl, ?_⟩
        refine ⟨_, rfl, _, rfl, z, x, 0, 8, rfl, hz, ho x (List.mem_of_getElem? hx), fun t => ?_, fun t d H' nd s' hd => ?_⟩
        · refine ⟨_, e1, small1000 (by rw [List.length_take]; omega), by rw [take_snoc hx]; exact upd_same, fun b o e => by rw [upd_ne (ne_of_none e hD)]; exact s1 _ _ e, fun y hy => ?_⟩
          rw [take_snoc hx] at hy
          rcases List.mem_append.mp hy with q | q
          · exact g1 y q
          · rw [List.mem_singleton.mp q]
            show (!numB x 0 8) = false
            rw [t]
            rfl
        · exact kE x (find_at hx g1 (by show (!numB x 0 8) = true; rw [t]; rfl)) d H' (s1.free nd) (s1.trans s') hd
      · rintro H1 ⟨e1, s1, g1⟩
        rw [List.take_length] at e1 g1
        refine ⟨D, _, rfl, .inl ⟨SqL.of e1, fun l hl => ?_⟩⟩
        exact kT (find_none g1) l _ (s1.free hl) upd_same (s1.trans (Same.new hl))
    · refine .inr ⟨hs, fun D hD => ?_⟩
      refine lc_it walk_tup (fun i H1 => H1 D = some (.lst (xs.take i)) ∧ Same H H1 ∧ ∀ y, y ∈ xs.take i → bad8 y = false) ⟨upd_same, Same.new hD, fun y hy => by cases hy⟩ (fun i H1 _ q => Same.seqT q.2.1 hs) ?_ ?_
      · rintro i x H1o H1 hi ⟨e1, s1, g1⟩ ⟨rfl, hx⟩
        refine ⟨rfl, ?_⟩
        refine ⟨_, rfl, _, rfl, z, x, 0, 8, rfl, hz, ho x (List.mem_of_getElem? hx), fun t => ?_, fun t d H' nd s' hd => ?_⟩
        · refine ⟨_, e1, small1000 (by rw [List.length_take]; omega), by rw [take_snoc hx]; exact upd_same, fun b o e => by rw [upd_ne (ne_of_none e hD)]; exact s1 _ _ e, fun y hy => ?_⟩
          rw [take_snoc hx] at hy
          rcases List.mem_append.mp hy with q | q
          · exact g1 y q
          · rw [List.mem_singleton.mp q]
            show (!numB x 0 8) = false
            rw [t]
            rfl
        · exact kE x (find_at hx g1 (by show (!numB x 0 8) = true; rw [t]; rfl)) d H' (s1.free nd) (s1.trans s') hd
      · rintro H1 ⟨e1, s1, g1⟩
        rw [List.take_length] at e1 g1
        refine ⟨D, _, rfl, .inl ⟨SqL.of e1, fun l hl => ?_⟩⟩
        exact kT (find_none g1) l _ (s1.free hl) upd_same (s1.trans (Same.new hl))
end
end Wb

namespace Wb
open PySem PySem.Spec PyProof.Rows L2 Wx NdefX RZ StX PyProof.Rows.FinIter
section
variable {P : Program} {w : World} {K : PySem.W.Frag} {mg : Str → Option Value} {base : Heap}

/-- all but p and dx is kept -/
def Fr2 (p dx : Addr) (H H' : Hp) : Prop := ∀ b o, b ≠ p → b ≠ dx → H b = some o → H' b = some o
theorem Fr2.same {p dx : Addr} {H H' : Hp} {o1 o2 : HO} (np : H p = none) (nd : H dx = none) (fr : Fr2 p dx (upd (upd H dx o1) p o2) H') : Same H H' := fun b o e => by
  have b1 := ne_of_none e np
  have b2 := ne_of_none e nd
  exact fr b o b1 b2 (by rw [upd_ne b1, upd_ne b2]; exact e)
/-- the first wrong part of a standing -/
def standRef (xs : List V) (t m : V) : Option (Str × V) :=
  if numB (.int xs.length) 1 4 = true then
    match xs.find? bad8 with
    | some x => some ("level", x)
    | none => if numB t 0 8 = true then if numB m 0 3 = true then none else some ("mood", m) else some ("tank", t)
  else some ("plots", .int xs.length)
def spStanding_init (K : PySem.W.Frag) (C CM : Addr) : Sp := fun vs H Q E => ∃ (p dx a : Addr) (xs : List V) (t m : V), vs = [.ref p, .ref a, t, m] ∧ H p = some (.ins C dx []) ∧ (SqL K H a xs ∨ SqT K H a xs) ∧ xs.length ≤ 1000 ∧ (∀ x, x ∈ xs → OddV x) ∧ OddV t ∧ OddV m ∧
  (standRef xs t m = none → ∀ (q : Addr) (H' : Hp), Fr2 p dx H H' → H q = none → H' q = some (.tup xs) → H' p = some (.ins C dx [("levels", .ref q), ("tank", t), ("mood", m)]) → Q .non H') ∧
  (∀ tag v, standRef xs t m = some (tag, v) → ∀ (d : Addr) (H' : Hp), H d = none → Fr2 p dx H H' → H' d = some (.xd [("value", v), ("what", .str tag)]) → E (.ref CM) (some d) H')
/-- a standing at p -/
def StandAt (C : Addr) (H : Hp) (p : Addr) (ls : List Int) (t m : Int) : Prop := ∃ dx q, H p = some (.ins C dx [("levels", .ref q), ("tank", .int t), ("mood", .int m)]) ∧ H q = some (.tup (ls.map V.int))
theorem StandAt.same {C : Addr} {H H' : Hp} {p : Addr} {ls : List Int} {t m : Int} (x : StandAt C H p ls t m) (s : Same H H') : StandAt C H' p ls t m := by
  obtain ⟨dx, q, e1, e2⟩ := x
  exact ⟨dx, q, s _ _ e1, s _ _ e2⟩
/-- the numbers of a standing are in their bounds -/
def VStand (ls : List Int) (t m : Int) : Prop := 1 ≤ ls.length ∧ ls.length ≤ 4 ∧ (∀ x, x ∈ ls → 0 ≤ x ∧ x ≤ 8) ∧ 0 ≤ t ∧ t ≤ 8 ∧ 0 ≤ m ∧ m ≤ 3
theorem find_ints {ls : List Int} (h : ∀ x, x ∈ ls → 0 ≤ x ∧ x ≤ 8) : (ls.map V.int).find? bad8 = none := find_none fun y hy => by
  obtain ⟨x, hx, rfl⟩ := List.mem_map.mp hy
  show (!decide (0 ≤ x ∧ x ≤ 8)) = false
  rw [decide_eq_true (h x hx)]
  rfl
theorem VStand.ref {ls : List Int} {t m : Int} (h : VStand ls t m) : standRef (ls.map V.int) (.int t) (.int m) = none := by
  obtain ⟨h1, h2, h3, h4, h5, h6, h7⟩ := h
  unfold standRef
  rw [if_pos (by show decide _ = true; rw [List.length_map]; exact decide_eq_true (by omega)), find_ints h3]
  show (if numB (.int t) 0 8 = true then _ else _) = none
  rw [if_pos (show numB (.int t) 0 8 = true from decide_eq_true ⟨h4, h5⟩), if_pos (show numB (.int m) 0 3 = true from decide_eq_true ⟨h6, h7⟩)]
theorem odd_ints {ls : List Int} : ∀ x, x ∈ ls.map V.int → OddV x := fun x hx => by
  obtain ⟨i, _, rfl⟩ := List.mem_map.mp hx
  exact .int i
theorem stand_make {K : PySem.W.Frag} {C CM : Addr} {H : Hp} {ls : List Int} {t m : Int} {a : Addr} {R : Hp → Prop} {E : XK} (hv : VStand ls t m) (hs : SqL K H a (ls.map V.int) ∨ SqT K H a (ls.map V.int))
    {x dx : Addr} (nx : H x = none) (nd : H dx = none) (k : ∀ H', Same H H' → StandAt C H' x ls t m → R H') : spStanding_init K C CM [.ref x, .ref a, .int t, .int m] (upd (upd H dx (.own x)) x (.ins C dx [])) (fun v H2 => v = .non ∧ R H2) E := by
  have sm : Same H (upd (upd H dx (.own x)) x (.ins C dx [])) := fun b o e => by rw [upd_ne (ne_of_none e nx), upd_ne (ne_of_none e nd)]; exact e
  refine ⟨x, dx, a, _, _, _, rfl, upd_same, hs.imp (Same.seq sm) (Same.seqT sm), by rw [List.length_map]; have := hv.2.1; omega, odd_ints, .int _, .int _, fun _ q H' fr nq eq ep => ⟨rfl, k H' (fr.same nx nd) ⟨dx, q, ep, eq⟩⟩, fun tag v e => ?_⟩
  rw [hv.ref] at e
  cases e
def eqS (l1 : List Int) (t1 m1 : Int) (l2 : List Int) (t2 m2 : Int) : Bool := decide (m1 = m2 ∧ l1 = l2 ∧ t1 = t2)
def spStanding_eq (C : Addr) : Sp := fun vs H Q _ => ∃ (p q : Addr) (l1 l2 : List Int) (t1 m1 t2 m2 : Int), vs = [.ref p, .ref q] ∧ StandAt C H p l1 t1 m1 ∧ StandAt C H q l2 t2 m2 ∧ Q (.bl (eqS l1 t1 m1 l2 t2 m2)) H
def leL : List Int → List Int → Bool
  | [], [] => true
  | a :: l, b :: m => decide (a ≤ b) && leL l m
  | _, _ => false
def leS (l1 : List Int) (t1 m1 : Int) (l2 : List Int) (t2 m2 : Int) : Bool := decide (m1 = m2) && decide (t1 ≤ t2) && leL l1 l2
def spStanding_le (C : Addr) : Sp := fun vs H Q _ => ∃ (p q : Addr) (l1 l2 : List Int) (t1 m1 t2 m2 : Int), vs = [.ref p, .ref q] ∧ StandAt C H p l1 t1 m1 ∧ StandAt C H q l2 t2 m2 ∧ l1.length ≤ 1000 ∧ ∀ H', Same H H' → Q (.bl (leS l1 t1 m1 l2 t2 m2)) H'
theorem leL_len : ∀ {l m : List Int}, l.length ≠ m.length → leL l m = false
  | [], [], h => absurd rfl h
  | [], _ :: _, _ => rfl
  | _ :: _, [], _ => rfl
  | a :: l, b :: m, h => by
    show (_ && leL l m) = false
    rw [leL_len (l := l) (m := m) (fun e => h (by simp [e])), Bool.and_false]
/-- the answers of the pairs, in order -/
def leBs : List Int → List Int → List Bool
  | a :: l, b :: m => decide (a ≤ b) :: leBs l m
  | _, _ => []
theorem leBs_all : ∀ {l m : List Int}, l.length = m.length → (leBs l m).all id = leL l m
  | [], [], _ => rfl
  | a :: l, b :: m, h => by
    show (decide (a ≤ b) && (leBs l m).all id) = (decide (a ≤ b) && leL l m)
    rw [leBs_all (l := l) (m := m) (by simpa using h)]
theorem leBs_len : ∀ {l m : List Int}, l.length = m.length → (leBs l m).length = l.length
  | [], [], _ => rfl
  | a :: l, b :: m, h => by
    show (leBs l m).length + 1 = l.length + 1
    rw [leBs_len (l := l) (m := m) (by simpa using h)]
theorem leBs_at : ∀ {l m : List Int} {i : Nat} {a b : Int}, l[i]? = some a → m[i]? = some b → (leBs l m)[i]? = some (decide (a ≤ b))
  | [], _, i, a, b, h, _ => by simp at h
  | _ :: _, [], i, a, b, _, h => by simp at h
  | x :: l, y :: m, 0, a, b, h1, h2 => by
    have e1 : x = a := Option.some.inj h1
    have e2 : y = b := Option.some.inj h2
    subst e1 e2
    rfl
  | x :: l, y :: m, i + 1, a, b, h1, h2 => leBs_at (l := l) (m := m) (i := i) h1 h2
theorem int_at {l : List Int} {i : Nat} {x : V} (h : (l.map V.int)[i]? = some x) : ∃ a, l[i]? = some a ∧ x = .int a := by
  rw [List.getElem?_map] at h
  cases q : l[i]? with
  | none => rw [q] at h; cases h
  | some a =>
    rw [q] at h
    exact ⟨a, rfl, (Option.some.inj h).symm⟩

theorem okStanding___init__ {f : Addr} {fd : FuncData} (F : Fun K "__init__" "Standing.__init__" sStanding___init__ f fd) (T : Txt K mg) {C_BadNumber C_Standing fi fe : Addr} (D_Standing : DatC K mg "Standing" C_Standing fi fe ["levels", "tank", "mood"]) (C_xcheck_number : ∃ (g : Addr) (gd : FuncData), FnOk P w K mg base (L2.CX P w) 4 g gd Pcheck_number (spcheck_number C_BadNumber) ∧ mg "check_number" = some (.ref g) ∧ PySem.W.keepIn K (.ref g) = true ∧ Binds K gd Pcheck_number []) (C_xcheck_units : ∃ (g : Addr) (gd : FuncData), FnOk P w K mg base (L2.CX P w) 5 g gd Pcheck_units (spcheck_units K C_BadNumber) ∧ mg "check_units" = some (.ref g) ∧ PySem.W.keepIn K (.ref g) = true ∧ Binds K gd Pcheck_units []) : FnOk P w K mg base (L2.CX P w) 6 f fd PStanding___init__ (spStanding_init K C_Standing C_BadNumber) := by
  obtain ⟨_, c_MOST_MOODS⟩ := T.c_MOST_MOODS
  obtain ⟨_, c_MOST_PLOTS⟩ := T.c_MOST_PLOTS
  obtain ⟨_, c_MOST_UNITS⟩ := T.c_MOST_UNITS
  obtain ⟨gcheck_number, gdcheck_number, Gcheck_number, mcheck_number, kcheck_number, bcheck_number⟩ := C_xcheck_number
  obtain ⟨gcheck_units, gdcheck_units, Gcheck_units, mcheck_units, kcheck_units, bcheck_units⟩ := C_xcheck_units
  refine F.okX scStanding___init__ (fun vs H Q E h => ?_) (fun cdv A outer s H vs Q E hr h => ?_)
  · obtain ⟨p, dx, a, xs, t, m, rfl, hp, hs, hl, ho, ht, hm, kOk, kE⟩ := h
    rfl
  · obtain ⟨p, dx, a, xs, t, m, rfl, hp, hs, hl, ho, ht, hm, kOk, kE⟩ := h
    refine ⟨_, (pss_cons (ps_expr (pe_callS Gcheck_number (hr.mono (by decide)) (by rfl) mcheck_number kcheck_number bcheck_number (fun σ => passAt (takes_of rfl rfl rfl rfl) σ) (pa_cons pe_str (pa_cons (pe_callB call_len_seq (by rfl) T.b_len PySem.boot_len (pa_cons (pv 1) pa_nil)) (pa_cons pe_int (pa_cons (pe_glob (v := .int 4) rfl c_MOST_PLOTS ⟨_, rfl⟩) pa_nil))))))
  (pss_cons (ps_fld (pv 0) (pe_callS Gcheck_units (hr.mono (by decide)) (by rfl) mcheck_units kcheck_units bcheck_units (fun σ => passAt (takes_of rfl rfl rfl rfl) σ) (pa_cons pe_str (pa_cons (pv 1) pa_nil))) rfl)
  (pss_cons (ps_fld (pv 0) (pe_callS Gcheck_number (hr.mono (by decide)) (by rfl) mcheck_number kcheck_number bcheck_number (fun σ => passAt (takes_of rfl rfl rfl rfl) σ) (pa_cons pe_str (pa_cons (pv 2) (pa_cons pe_int (pa_cons (pe_glob (v := .int 8) rfl c_MOST_UNITS ⟨_, rfl⟩) pa_nil))))) rfl)
  (pss_one (ps_fld (pv 0) (pe_callS Gcheck_number (hr.mono (by decide)) (by rfl) mcheck_number kcheck_number bcheck_number (fun σ => passAt (takes_of rfl rfl rfl rfl) σ) (pa_cons pe_str (pa_cons (pv 3) (pa_cons pe_int (pa_cons (pe_op op_sub (pe_glob (v := .int 4) rfl c_MOST_MOODS ⟨_, rfl⟩) pe_int) pa_nil))))) rfl))))), ?_⟩
    have frs : ∀ {H1 : Hp}, Same H H1 → Fr2 p dx H H1 := fun s1 b o _ _ e => s1 b o e
    refine ⟨_, rfl, a, _, rfl, hs, "plots", .int xs.length, 1, 4, rfl, (by decide +kernel), .int _, fun t0 => ?_, fun t0 d H1 nd s1 hd => ?_⟩
    case refine_2 =>
      exact kE "plots" _ (by unfold standRef; rw [if_neg (by rw [t0]; exact Bool.false_ne_true)]) d H1 nd (frs s1) hd
    refine ⟨_, rfl, "level", a, xs, rfl, (by decide +kernel), hs, hl, ho, fun t1 q H1 nq eq s1 => ?_, fun x t1 d H1 nd s1 hd => ?_⟩
    case refine_2 =>
      exact kE "level" x (by unfold standRef; rw [if_pos t0, t1]) d H1 nd (frs s1) hd
    refine ⟨_, rfl, p, C_Standing, dx, [], rfl, s1 _ _ hp, D_Standing.cls, D_Standing.no "levels" (by decide), (by decide), ?_⟩
    have free : ∀ {o : HO} {d : Addr}, upd H1 p o d = none → H d = none := fun {o d} e => by
      have ne : d ≠ p := fun q => by rw [q, upd_same] at e; cases e
      rw [upd_ne ne] at e
      exact s1.free e
    have fr1 : ∀ {o : HO} {H2 : Hp}, Same (upd H1 p o) H2 → Fr2 p dx H H2 := fun s2 b o nb _ e => s2 b o (by rw [upd_ne nb]; exact s1 b o e)
    refine ⟨_, rfl, "tank", t, 0, 8, rfl, (by decide +kernel), ht, fun t2 => ?_, fun t2 d H2 nd s2 hd => ?_⟩
    case refine_2 =>
      exact kE "tank" t (by unfold standRef; rw [if_pos t0, t1]; show (if numB t 0 8 = true then _ else _) = _; rw [if_neg (by rw [t2]; exact Bool.false_ne_true)]) d H2 (free nd) (fr1 s2) hd
    refine ⟨_, rfl, p, C_Standing, dx, _, rfl, upd_same, D_Standing.cls, D_Standing.no "tank" (by decide), (by show 1 < 1000; decide), ?_⟩
    rw [upd_upd]
    refine ⟨_, rfl, _, _, rfl, rfl, "mood", m, 0, 3, rfl, (by decide +kernel), hm, fun t3 => ?_, fun t3 d H2 nd s2 hd => ?_⟩
    case refine_2 =>
      exact kE "mood" m (by unfold standRef; rw [if_pos t0, t1]; show (if numB t 0 8 = true then _ else _) = _; rw [if_pos t2, if_neg (by rw [t3]; exact Bool.false_ne_true)]) d H2 (free nd) (fr1 s2) hd
    refine ⟨_, rfl, p, C_Standing, dx, _, rfl, upd_same, D_Standing.cls, D_Standing.no "mood" (by decide), (by show 2 < 1000; decide), ?_⟩
    rw [upd_upd]
    have npq : q ≠ p := fun y => by rw [y, hp] at nq; cases nq
    refine kOk (by unfold standRef; rw [if_pos t0, t1]; show (if numB t 0 8 = true then _ else _) = _; rw [if_pos t2, if_pos t3]) q _ (fun b o nb _ e => by rw [upd_ne nb]; exact s1 b o e) nq (by rw [upd_ne npq]; exact eq) upd_same

theorem okStanding___eq__ {f : Addr} {fd : FuncData} (F : Fun K "__eq__" "Standing.__eq__" sStanding___eq__ f fd) (T : Txt K mg) {C_BadNumber C_Standing fi fe : Addr} (D_Standing : DatC K mg "Standing" C_Standing fi fe ["levels", "tank", "mood"]) : FnOk P w K mg base CX0 1 f fd PStanding___eq__ (spStanding_eq C_Standing) := by
  refine F.ok scStanding___eq__ (fun vs H Q E h => ?_) (fun cdv A outer s H vs Q E hr h => ?_)
  · obtain ⟨p, q, l1, l2, t1, m1, t2, m2, rfl, hp, hq, k⟩ := h
    rfl
  · obtain ⟨p, q, l1, l2, t1, m1, t2, m2, rfl, hp, hq, k⟩ := h
    refine ⟨_, (pss_one (ps_ret (pe_and (pe_callB (id := "isinstance") call_isi (by rfl) T.b_isinstance (by decide +kernel) (pa_cons (pv 1) (pa_cons (pe_glob (v := .ref C_Standing) rfl D_Standing.g rfl) pa_nil))) (pe_and (pe_cmpR op_eq (pe_fld (pv 0) rfl) (pe_fld (pv 1) rfl) (nomark _)) (pe_and (pe_cmpR (op_eqD hr.units) (pe_fld (pv 0) rfl) (pe_fld (pv 1) rfl) (nomark _)) (pe_one (pe_cmpR op_eq (pe_fld (pv 0) rfl) (pe_fld (pv 1) rfl) (nomark _)))))))), ?_⟩
    obtain ⟨dx, qx, e1, f1⟩ := hp
    obtain ⟨dy, qy, e2, f2⟩ := hq
    refine ⟨_, rfl, _, _, _, _, true, rfl, .own _, .base (.ins e2 D_Standing.cls D_Standing.ha D_Standing.hn D_Standing.htk D_Standing.hm), D_Standing.kit, true, rfl, iteT ?_⟩
    have no := fun f (h : f ∈ (["levels", "tank", "mood"] : List Str)) => D_Standing.no f h
    refine ⟨_, rfl, p, C_Standing, dx, _, _, rfl, e1, D_Standing.cls, no _ (by decide), rfl, _, rfl, q, C_Standing, dy, _, _, rfl, e2, D_Standing.cls, no _ (by decide), rfl, rfl, _, rfl, ?_⟩
    refine ite2 (fun c1 => ?_) (fun c1 => ?_)
    · have c1 : m1 = m2 := by injection of_decide_eq_true c1
      refine ⟨_, rfl, p, C_Standing, dx, _, _, rfl, e1, D_Standing.cls, no _ (by decide), rfl, _, rfl, q, C_Standing, dy, _, _, rfl, e2, D_Standing.cls, no _ (by decide), rfl, _, _, dp_intsT (SqT.of f1), dp_intsT (SqT.of f2), shaped_intsT _, shaped_intsT _, _, rfl, ?_⟩
      rw [eqv_intsT]
      refine ite2 (fun c2 => ?_) (fun c2 => ?_)
      · have c2 : l1 = l2 := of_decide_eq_true c2
        refine ⟨_, rfl, p, C_Standing, dx, _, _, rfl, e1, D_Standing.cls, no _ (by decide), rfl, _, rfl, q, C_Standing, dy, _, _, rfl, e2, D_Standing.cls, no _ (by decide), rfl, rfl, ?_⟩
        have e : decide (V.int t1 = V.int t2) = eqS l1 t1 m1 l2 t2 m2 := by
          unfold eqS
          simp [c1, c2]
        show Q (.bl (decide (V.int t1 = V.int t2))) H
        rw [e]
        exact k
      · have e : eqS l1 t1 m1 l2 t2 m2 = false := by
          have c2 : ¬ l1 = l2 := fun q => c2 (decide_eq_true q)
          unfold eqS
          rw [decide_eq_false (fun q => c2 q.2.1)]
        rw [e] at k
        exact k
    · have c1 : ¬ m1 = m2 := fun q => c1 (decide_eq_true (by rw [q]))
      have e : eqS l1 t1 m1 l2 t2 m2 = false := decide_eq_false (fun q => c1 q.1)
      rw [e] at k
      exact k

theorem okStanding___le__ {f : Addr} {fd : FuncData} (F : Fun K "__le__" "Standing.__le__" sStanding___le__ f fd) (T : Txt K mg) {C_BadNumber C_Standing fi fe : Addr} (D_Standing : DatC K mg "Standing" C_Standing fi fe ["levels", "tank", "mood"]) : FnOk P w K mg base CX0 1 f fd PStanding___le__ (spStanding_le C_Standing) := by
  refine F.ok scStanding___le__ (fun vs H Q E h => ?_) (fun cdv A outer s H vs Q E hr h => ?_)
  · obtain ⟨p, q, l1, l2, t1, m1, t2, m2, rfl, hp, hq, hl1, k⟩ := h
    rfl
  · obtain ⟨p, q, l1, l2, t1, m1, t2, m2, rfl, hp, hq, hl1, k⟩ := h
    refine ⟨_, (pss_cons (ps_if (pt_not (pt_val (pe_callB (id := "isinstance") call_isi (by rfl) T.b_isinstance (by decide +kernel) (pa_cons (pv 1) (pa_cons (pe_glob (v := .ref C_Standing) rfl D_Standing.g rfl) pa_nil)))))
  (pss_one ps_never)
  pss_nil)
  (pss_cons (ps_if (PW.pt (pw_or (pt_cmpR op_ne (pe_fld (pv 0) rfl) (pe_fld (pv 1) rfl) (nomark _)) (pw_or (pt_cmpR op_ne (pe_callB call_len_seq (by rfl) T.b_len PySem.boot_len (pa_cons (pe_fld (pv 0) rfl) pa_nil)) (pe_callB call_len_seq (by rfl) T.b_len PySem.boot_len (pa_cons (pe_fld (pv 1) rfl) pa_nil)) (nomark _)) (pw_or1 (pt_cmpR op_gt (pe_fld (pv 0) rfl) (pe_fld (pv 1) rfl) (nomark _))))))
  (pss_one (ps_ret pe_bl))
  pss_nil)
  (pss_one (ps_ret (pe_callB (id := "all") (cr_all rfl) (by rfl) T.b_all (by decide +kernel) (pa_cons (pe_lc (g := gTup K 2 (gCons (gName 2) (gCons (gName 3) gNil))) (own := [("mine", 2), ("its", 3)]) rfl scStanding___le__.nd (pi_zipA (by rfl) T.b_zip (pa_cons (pe_fld (pv 0) rfl) (pa_cons (pe_fld (pv 1) rfl) pa_nil))) (blkOk_by (own := [("mine", 2), ("its", 3)]) (N := NStanding___le__) (sc := defScope sStanding___le__) (by decide +kernel)) (fun _ _ _ _ _ => (pg_tup rfl (pgs_cons (pg_name (i := 2) scStanding___le__.nd rfl (by first | exact Or.inl rfl | exact Or.inr rfl)) (pgs_cons (pg_name (i := 3) scStanding___le__.nd rfl (by first | exact Or.inl rfl | exact Or.inr rfl)) pgs_nil)))) (fun _ _ _ _ _ => pts_nil) (fun _ _ _ _ _ => (pe_cmpR op_le (pv 2) (pv 3) (nomark _)))) pa_nil)))))), ?_⟩
    obtain ⟨dx, qx, e1, f1⟩ := hp
    obtain ⟨dy, qy, e2, f2⟩ := hq
    refine ⟨_, rfl, _, _, _, _, true, rfl, .own _, .base (.ins e2 D_Standing.cls D_Standing.ha D_Standing.hn D_Standing.htk D_Standing.hm), D_Standing.kit, true, rfl, iteF ?_⟩
    have no := fun f (h : f ∈ (["levels", "tank", "mood"] : List Str)) => D_Standing.no f h
    refine ⟨_, rfl, p, C_Standing, dx, _, _, rfl, e1, D_Standing.cls, no _ (by decide), rfl, _, rfl, q, C_Standing, dy, _, _, rfl, e2, D_Standing.cls, no _ (by decide), rfl, rfl, _, rfl, ?_⟩
    refine ite2 (fun c1 => ?_) (fun c1 => ?_)
    · have c1 : ¬ m1 = m2 := fun q => by rw [q] at c1; exact ne_self c1
      have e : leS l1 t1 m1 l2 t2 m2 = false := by unfold leS; rw [decide_eq_false c1]; rfl
      rw [e] at k
      exact k _ (Same.refl _)
    have c1 : m1 = m2 := by
      by_cases q : m1 = m2
      · exact q
      · exact absurd (by rw [decide_eq_false (fun y => q (by injection y))]; rfl) c1
    refine ⟨_, rfl, p, C_Standing, dx, _, _, rfl, e1, D_Standing.cls, no _ (by decide), rfl, _, _, rfl, .inr (SqT.of f1), _, rfl, q, C_Standing, dy, _, _, rfl, e2, D_Standing.cls, no _ (by decide), rfl, _, _, rfl, .inr (SqT.of f2), rfl, _, rfl, ?_⟩
    refine ite2 (fun c2 => ?_) (fun c2 => ?_)
    · have e : leS l1 t1 m1 l2 t2 m2 = false := by
        unfold leS
        rw [leL_len (fun q => by rw [List.length_map, List.length_map, q] at c2; exact ne_self c2), Bool.and_false]
      rw [e] at k
      exact k _ (Same.refl _)
    have c2 : l1.length = l2.length := by
      by_cases q : l1.length = l2.length
      · exact q
      · exact absurd (by rw [List.length_map, List.length_map, decide_eq_false (fun y => q (by injection y with y; omega))]; rfl) c2
    refine ⟨_, rfl, p, C_Standing, dx, _, _, rfl, e1, D_Standing.cls, no _ (by decide), rfl, _, rfl, q, C_Standing, dy, _, _, rfl, e2, D_Standing.cls, no _ (by decide), rfl, _, _, rfl, rfl, _, rfl, ?_⟩
    refine ite2 (fun c3 => ?_) (fun c3 => ?_)
    · have c3 := of_decide_eq_true c3
      have e : leS l1 t1 m1 l2 t2 m2 = false := by unfold leS; rw [decide_eq_false (p := t1 ≤ t2) (by omega), Bool.and_false]; rfl
      rw [e] at k
      exact k _ (Same.refl _)
    have c3 : t1 ≤ t2 := by
      by_cases q : t1 ≤ t2
      · exact q
      · exact absurd (decide_eq_true (by omega)) c3
    refine ⟨_, rfl, p, C_Standing, dx, _, _, rfl, e1, D_Standing.cls, no _ (by decide), rfl, _, rfl, q, C_Standing, dy, _, _, rfl, e2, D_Standing.cls, no _ (by decide), rfl, qx, qy, _, _, rfl, .inr ⟨SqT.of f1, SqT.of f2, fun D hD => ?_⟩⟩
    refine lc_it (walk_zipT rfl) (fun i H1 => H1 D = some (.lst (((leBs l1 l2).take i).map V.bl)) ∧ Same H H1) ⟨upd_same, Same.new hD⟩ (fun i H1 _ q => ⟨SqT.of (q.2 _ _ f1), SqT.of (q.2 _ _ f2)⟩) ?_ ?_
    · rintro i x H1o H1 hi ⟨g1, s1⟩ ⟨T, x, y, rfl, hT, rfl, hx, hy⟩
      obtain ⟨a, ha, rfl⟩ := int_at hx
      obtain ⟨b, hb, rfl⟩ := int_at hy
      refine ⟨T, _, rfl, SqT.of upd_same, rfl, _, _, rfl, _, _, rfl, rfl, rfl, ?_⟩
      refine ⟨_, rfl, _, rfl, _, _, rfl, rfl, ?_⟩
      have nTD : D ≠ T := ne_of_none g1 hT
      refine ⟨_, by rw [upd_ne nTD]; exact g1, small1000 (by rw [List.length_map, List.length_take]; have := leBs_len c2; omega), ?_, fun z o e => ?_⟩
      · rw [upd_same, take_snoc (leBs_at ha hb), List.map_append]
        rfl
      · have n1 : z ≠ D := ne_of_none e hD
        rw [upd_ne n1, upd_ne (ne_of_none (s1 _ _ e) hT)]
        exact s1 _ _ e
    · rintro H1 ⟨g1, s1⟩
      rw [List.take_of_length_le (by rw [leBs_len c2]; simp only [List.length_map]; omega)] at g1
      refine ⟨D, _, rfl, SqL.of g1, ?_⟩
      have e : leS l1 t1 m1 l2 t2 m2 = (leBs l1 l2).all id := by
        rw [leBs_all c2]
        unfold leS
        rw [decide_eq_true c1, decide_eq_true c3]
        rfl
      rw [← e]
      exact k _ s1
end
end Wb

namespace Wb
open PySem PySem.Spec PyProof.Rows L2 Wx NdefX RZ StX PyProof.Rows.FinIter
section
variable {P : Program} {w : World} {K : PySem.W.Frag} {mg : Str → Option Value} {base : Heap}

def itxt (i : Int) : Str := Str.ofString (toString i)
theorem itxt_len {i : Int} (h : i.natAbs < 10 ^ 4) : (itxt i).length ≤ 5 := by
  have e := int_text_length_le10 (k := 4) (by decide) h
  show (Str.ofString (toString i)).length ≤ 5
  rw [PySem.ofString_length]
  omega
theorem itxt_log {i : Int} (h : i.natAbs < 10 ^ 4) : i.natAbs.log2 < 1920 := by
  have h2 : i.natAbs < 2 ^ 14 := Nat.lt_trans h (by decide)
  by_cases h0 : i.natAbs = 0
  · rw [h0]
    decide
  · exact Nat.lt_trans ((Nat.log2_lt h0).mpr h2) (by decide)
theorem small9 {i : Int} (h : 0 ≤ i ∧ i ≤ 9999) : i.natAbs < 10 ^ 4 := by
  have e : (10 : Nat) ^ 4 = 10000 := by decide
  rw [e]
  omega
theorem sum_len_le {b : Nat} : ∀ {ys : List Str}, (∀ y, y ∈ ys → y.length ≤ b) → (ys.map (·.length)).sum ≤ b * ys.length
  | [], _ => Nat.zero_le _
  | y :: ys, h => by
    have h1 := h y List.mem_cons_self
    have h2 := sum_len_le (b := b) (ys := ys) fun z hz => h z (List.mem_cons_of_mem _ hz)
    simp only [List.map_cons, List.sum_cons, List.length_cons, Nat.mul_add, Nat.mul_one]
    omega
theorem join_more {s a : Str} {l : List Str} (h : l ≠ []) : Txt.join s (l ++ [a]) = Txt.join s l ++ s ++ a := by
  have e := join_snoc s a l
  rw [if_neg h] at e
  show Builtin.Str.glued s (l ++ [a]) = Builtin.Str.glued s l ++ s ++ a
  rw [PySem.StrLaws.glued_eq_join, PySem.StrLaws.glued_eq_join]
  exact e
def headText (m : Int) : Str := itxt m ++ (":" : Str)
def standText (ls : List Int) (t m : Int) : Str := Txt.join (" " : Str) ((headText m :: ls.map itxt) ++ [("/" : Str)] ++ [itxt t])
def spStanding_str (C : Addr) : Sp := fun vs H Q _ => ∃ (p : Addr) (ls : List Int) (t m : Int), vs = [.ref p] ∧ StandAt C H p ls t m ∧ VStand ls t m ∧ ∀ H', Same H H' → Q (.str (standText ls t m)) H'
theorem empty_app (d : Str) : Str.empty ++ d = d := Str.ext' (by rw [PySem.Str.cps_append]; exact Array.empty_append)

theorem okStanding___str__ {f : Addr} {fd : FuncData} (F : Fun K "__str__" "Standing.__str__" sStanding___str__ f fd) (T : Txt K mg) {C_BadNumber C_Standing fi fe : Addr} (D_Standing : DatC K mg "Standing" C_Standing fi fe ["levels", "tank", "mood"]) : FnOk P w K mg base CX0 1 f fd PStanding___str__ (spStanding_str C_Standing) := by
  refine F.ok scStanding___str__ (fun vs H Q E h => ?_) (fun cdv A outer s H vs Q E hr h => ?_)
  · obtain ⟨p, ls, t, m, rfl, hp, hv, k⟩ := h
    rfl
  · obtain ⟨p, ls, t, m, rfl, hp, hv, k⟩ := h
    refine ⟨_, (pss_cons (ps_setLc (i := 1) (own := [("level", 2)]) rfl scStanding___str__.nd rfl rfl (sw_true rfl rfl rfl (by decide +kernel)) (pi_tup (pe_fld (pv 0) rfl)) (blkOk_by (own := [("level", 2)]) (N := NStanding___str__) (sc := defScope sStanding___str__) (by decide +kernel)) (fun _ _ _ _ _ => (pg_name (i := 2) scStanding___str__.nd rfl (by first | exact Or.inl rfl | exact Or.inr rfl))) (fun _ _ _ _ _ => pts_nil) (fun _ _ _ _ _ => (pe_callTy (T := "str") call_str_int (by rfl) T.b_str (by decide +kernel) (pa_cons (pv 2) pa_nil))))
  (pss_one (ps_ret (pe_join pe_str (pe_lst (pa_cons (pe_joined (.cons (pe_fmt (pe_fld (pv 0) rfl)) (.cons pe_str .nil))) (pa_star (pv 1) (pa_cons pe_str (pa_cons (pe_callTy (T := "str") call_str_int (by rfl) T.b_str (by decide +kernel) (pa_cons (pe_fld (pv 0) rfl) pa_nil)) pa_nil))))))))), ?_⟩
    obtain ⟨dx, q, e1, f1⟩ := hp
    obtain ⟨v1, v2, v3, v4, v5, v6, v7⟩ := hv
    have no := fun f (h : f ∈ (["levels", "tank", "mood"] : List Str)) => D_Standing.no f h
    have lg : ∀ x, x ∈ ls → x.natAbs < 10 ^ 4 := fun x hx => small9 (by have := v3 x hx; omega)
    have tg := small9 (i := t) (by omega)
    have mg' := small9 (i := m) (by omega)
    refine ⟨_, rfl, p, C_Standing, dx, _, _, rfl, e1, D_Standing.cls, no _ (by decide), rfl, q, rfl, ⟨_, SqT.of f1⟩, fun D hD => ?_⟩
    refine lc_it walk_tup (fun i H1 => H1 D = some (.lst (((ls.take i).map itxt).map V.str)) ∧ Same H H1) ⟨upd_same, Same.new hD⟩ (fun i H1 _ q => SqT.of (q.2 _ _ f1)) ?_ ?_
    · rintro i x H1o H1 hi ⟨g1, s1⟩ ⟨rfl, hx⟩
      obtain ⟨a, ha, rfl⟩ := int_at hx
      refine ⟨rfl, ?_⟩
      refine ⟨_, rfl, a, rfl, itxt_log (lg a (List.mem_of_getElem? ha)), ?_⟩
      refine ⟨_, g1, small1000 (by simp only [List.length_map, List.length_take]; omega), ?_, fun z o e => by rw [upd_ne (ne_of_none e hD)]; exact s1 _ _ e⟩
      rw [upd_same, take_snoc ha, List.map_append, List.map_append]
      rfl
    rintro H1 ⟨g1, s1⟩
    have g1 : H1 D = some (.lst ((ls.map itxt).map V.str)) := by
      rw [List.take_of_length_le (by simp only [List.length_map]; exact Nat.le_refl _)] at g1
      exact g1
    have e1' := s1 _ _ e1
    have hc : (Str.empty ++ itxt m).length ≤ 5 := by rw [empty_app]; exact itxt_len mg'
    have hc2 : (Str.empty ++ itxt m ++ (":" : Str)).length ≤ 6 := by
      rw [PySem.Str.length_append]
      have : (":" : Str).length = 1 := by decide +kernel
      omega
    refine ⟨⟨_, rfl⟩, _, rfl, p, C_Standing, dx, _, _, rfl, e1', D_Standing.cls, no _ (by decide), rfl, .inr ⟨m, rfl, itxt_log mg', _, rfl, bigN (by show (Str.empty ++ itxt m).length ≤ 1000000; omega), _, rfl, bigN (by show (Str.empty ++ itxt m ++ (":" : Str)).length ≤ 1000000; omega), _, rfl, D, _, rfl, .inr (SqL.of g1), _, rfl, p, C_Standing, dx, _, _, rfl, e1', D_Standing.cls, no _ (by decide), rfl, t, rfl, itxt_log tg, bigN (by simp only [List.length_append, List.length_cons, List.length_map, List.length_nil]; omega), fun z hz => ?_⟩⟩
    have ee : (V.str (Str.empty ++ itxt m ++ (":" : Str)) :: ((ls.map itxt).map V.str ++ [V.str ("/" : Str), V.str (itxt t)])) = ((headText m :: ls.map itxt) ++ [("/" : Str)] ++ [itxt t]).map V.str := by
      rw [empty_app]
      simp [headText]
    refine ⟨_, z, (headText m :: ls.map itxt) ++ [("/" : Str)] ++ [itxt t], rfl, rfl, .inl (SqL.of (by rw [← ee]; exact upd_same)), ?_, k _ (s1.trans (Same.new hz))⟩
    have l1 : (" " : Str).length = 1 := by decide +kernel
    have hb := sum_len_le (b := 6) (ys := (headText m :: ls.map itxt) ++ [("/" : Str)] ++ [itxt t]) (fun y hy => by
      simp only [List.mem_append, List.mem_cons, List.mem_map, List.not_mem_nil, or_false] at hy
      rcases hy with ((rfl | ⟨x, hx, rfl⟩) | rfl) | rfl
      · rw [empty_app] at hc2
        exact hc2
      · exact Nat.le_trans (itxt_len (lg x hx)) (by decide)
      · exact (by decide +kernel : ("/" : Str).length ≤ 6)
      · exact Nat.le_trans (itxt_len tg) (by decide))
    rw [l1]
    have hl : ((headText m :: ls.map itxt) ++ [("/" : Str)] ++ [itxt t]).length ≤ 7 := by simp only [List.length_append, List.length_cons, List.length_map, List.length_nil]; omega
    omega

/-- (levels, tank, mood) at p, the levels a list -/
def RowAt (H : Hp) (p : Addr) (ls : List Int) (t m : Int) : Prop := ∃ l, H p = some (.tup [.ref l, .int t, .int m]) ∧ H l = some (.lst (ls.map V.int))
theorem RowAt.same {H H' : Hp} {p : Addr} {ls : List Int} {t m : Int} (x : RowAt H p ls t m) (s : Same H H') : RowAt H' p ls t m := by
  obtain ⟨l, e1, e2⟩ := x
  exact ⟨l, s _ _ e1, s _ _ e2⟩
def rowD (ls : List Int) (t m : Int) : PyData := .tuple [.list (ls.map PyData.int), .int t, .int m]
theorem RowAt.dp {K : PySem.W.Frag} {H : Hp} {p : Addr} {ls : List Int} {t m : Int} (x : RowAt H p ls t m) : Dp K H (.ref p) (rowD ls t m) := by
  obtain ⟨l, e1, e2⟩ := x
  exact .tup (SqT.of e1) (.cons (dp_intsL (SqL.of e2)) (.cons (.int t) (.cons (.int m) .nil)))
theorem rowD_shaped (ls : List Int) (t m : Int) : SeqAt.shaped (rowD ls t m) = true := by
  have h := depth_ints ls
  show (PyData.canLay0 (rowD ls t m) && decide ((rowD ls t m).depth ≤ 64)) = true
  rw [Bool.and_eq_true]
  refine ⟨?_, decide_eq_true ?_⟩
  · unfold rowD
    simp only [PyData.canLay0, PyData.canLayAll0, lay_ints]
    rfl
  · unfold rowD
    simp only [PyData.depth, PyData.depthAll]
    omega
theorem rowD_eqv (l1 : List Int) (t1 m1 : Int) (l2 : List Int) (t2 m2 : Int) : PyData.eqv (rowD l1 t1 m1) (rowD l2 t2 m2) = eqS l1 t1 m1 l2 t2 m2 := by
  have e : PyData.eqv (rowD l1 t1 m1) (rowD l2 t2 m2) = (PyData.eqvAll (l1.map PyData.int) (l2.map PyData.int) && ((t1 == t2) && ((m1 == m2) && true))) := by
    unfold rowD
    simp only [PyData.eqv, PyData.eqvAll]
  rw [e, eqvAll_ints]
  unfold eqS
  by_cases h1 : l1 = l2
  · by_cases h2 : t1 = t2
    · by_cases h3 : m1 = m2
      · simp [h1, h2, h3]
      · have q : (m1 == m2) = false := beq_eq_false_iff_ne.mpr h3
        rw [q, decide_eq_false (p := m1 = m2 ∧ l1 = l2 ∧ t1 = t2) (fun y => h3 y.1), Bool.false_and, Bool.and_false, Bool.and_false]
    · have q : (t1 == t2) = false := beq_eq_false_iff_ne.mpr h2
      rw [q, decide_eq_false (p := m1 = m2 ∧ l1 = l2 ∧ t1 = t2) (fun y => h2 y.2.2), Bool.false_and, Bool.and_false]
  · rw [decide_eq_false h1, decide_eq_false (fun y => h1 y.2.1), Bool.false_and]
def sp_law_text : Sp := fun vs H Q _ => ∃ (p : Addr) (ls : List Int) (t m : Int), vs = [.ref p] ∧ RowAt H p ls t m ∧ VStand ls t m ∧ Q (.str (standText ls t m)) H
def sp_law_below : Sp := fun vs H Q _ => ∃ (p q : Addr) (l1 l2 : List Int) (t1 m1 t2 m2 : Int), vs = [.ref p, .ref q] ∧ RowAt H p l1 t1 m1 ∧ RowAt H q l2 t2 m2 ∧ l1.length ≤ 1000 ∧ ∀ H', Same H H' → Q (.bl (leS l1 t1 m1 l2 t2 m2)) H'
/-- the places where the first is above -/
def overs (bs : List Bool) (n : Nat) : List Nat := (List.range n).filter fun k => !(bs.getD k true)
theorem overs_snoc {bs : List Bool} {n : Nat} {b : Bool} (h : bs[n]? = some b) : overs bs (n + 1) = overs bs n ++ if b = true then [] else [n] := by
  unfold overs
  rw [List.range_succ, List.filter_append, List.filter_cons, List.filter_nil]
  have e : bs.getD n true = b := by rw [List.getD_eq_getElem?_getD, h]; rfl
  rw [e]
  cases b <;> rfl
theorem overs_nil {bs : List Bool} : decide (overs bs bs.length = []) = bs.all id := by
  by_cases h : overs bs bs.length = []
  · rw [decide_eq_true h]
    refine (List.all_eq_true.mpr fun b hb => ?_).symm
    obtain ⟨i, hi, e⟩ := List.getElem_of_mem hb
    unfold overs at h
    have q := List.filter_eq_nil_iff.mp h i (List.mem_range.mpr hi)
    have e2 : bs.getD i true = b := by rw [List.getD_eq_getElem?_getD, List.getElem?_eq_getElem hi, e]; rfl
    rw [e2] at q
    cases b
    · exact absurd rfl q
    · rfl
  · rw [decide_eq_false h]
    cases q : bs.all id with
    | false => rfl
    | true =>
      refine absurd (List.filter_eq_nil_iff.mpr fun i hi => ?_) h
      have hi' := List.mem_range.mp hi
      have e2 : bs.getD i true = bs[i] := by rw [List.getD_eq_getElem?_getD, List.getElem?_eq_getElem hi']; rfl
      have e3 : bs[i] = true := List.all_eq_true.mp q _ (List.getElem_mem hi')
      rw [e2, e3]
      exact Bool.false_ne_true

theorem ok_law_text {f : Addr} {fd : FuncData} (F : Fun K "_law_text" "_law_text" s_law_text f fd) (T : Txt K mg) : FnOk P w K mg base CX0 1 f fd P_law_text sp_law_text := by
  refine F.ok sc_law_text (fun vs H Q E h => ?_) (fun cdv A outer s H vs Q E hr h => ?_)
  · obtain ⟨p, ls, t, m, rfl, hr', hv, k⟩ := h
    rfl
  · obtain ⟨p, ls, t, m, rfl, hr', hv, k⟩ := h
    refine ⟨_, (pss_cons (ps_set (i := 1) sc_law_text.nd rfl (by first | exact Or.inl rfl | exact Or.inr rfl) (pe_op op_add_str (pe_callTy (T := "str") call_str_int (by rfl) T.b_str (by decide +kernel) (pa_cons (pe_ix ix_tup (pv 0) pe_int (fun _ _ => rfl)) pa_nil)) pe_str))
  (pss_cons (ps_for PassesOwn.never rfl (pi_list (pe_ix ix_tup (pv 0) pe_int (fun _ _ => rfl))) (pg_name (i := 2) sc_law_text.nd rfl (by first | exact Or.inl rfl | exact Or.inr rfl))
  (pss_one (ps_set (i := 1) sc_law_text.nd rfl (by first | exact Or.inl rfl | exact Or.inr rfl) (pe_op op_add_str (pe_op op_add_str (pv 1) pe_str) (pe_callTy (T := "str") call_str_int (by rfl) T.b_str (by decide +kernel) (pa_cons (pv 2) pa_nil))))))
  (pss_one (ps_ret (pe_op op_add_str (pe_op op_add_str (pv 1) pe_str) (pe_callTy (T := "str") call_str_int (by rfl) T.b_str (by decide +kernel) (pa_cons (pe_ix ix_tup (pv 0) pe_int (fun _ _ => rfl)) pa_nil))))))), ?_⟩
    obtain ⟨l, e1, e2⟩ := hr'
    obtain ⟨v1, v2, v3, v4, v5, v6, v7⟩ := hv
    have lg : ∀ x, x ∈ ls → x.natAbs < 10 ^ 4 := fun x hx => small9 (by have := v3 x hx; omega)
    have tg := small9 (i := t) (by omega)
    have mg' := small9 (i := m) (by omega)
    have c1 : (":" : Str).length = 1 := by decide +kernel
    have b1 : (" " : Str).length = 1 := by decide +kernel
    have b3 : (" / " : Str).length = 3 := by decide +kernel
    have hm5 := itxt_len mg'
    refine ⟨_, rfl, p, _, _, _, rfl, rfl, SqT.of e1, rfl, m, rfl, itxt_log mg', _, _, rfl, rfl, bigN (by show (itxt m).length + _ ≤ 1000000; rw [c1]; omega), ?_⟩
    refine ⟨_, rfl, p, _, _, _, rfl, rfl, SqT.of e1, rfl, l, rfl, ⟨_, SqL.of e2⟩, ?_⟩
    refine for_it walk_list (fun i σ H1 => ∃ w : Option V, σ = [some (.ref p), some (.str (Txt.join (" " : Str) (headText m :: (ls.take i).map itxt))), w] ∧ H1 = H ∧ (Txt.join (" " : Str) (headText m :: (ls.take i).map itxt)).length ≤ 6 + 6 * i)
      ⟨_, rfl, rfl, by show (itxt m ++ (":" : Str)).length ≤ 6; rw [PySem.Str.length_append, c1]; omega⟩ (fun i σ H1 _ ⟨_, _, q, _⟩ => by rw [q]; exact SqL.of e2) ?_ ?_
    · rintro i x σ H1o H1 hi ⟨w, rfl, rfl, hj⟩ ⟨rfl, hx⟩
      obtain ⟨a, ha, rfl⟩ := int_at hx
      have ia := itxt_len (lg a (List.mem_of_getElem? ha))
      have hi4 : i < 4 := by
        have : i < ls.length := by simpa using hi
        omega
      refine ⟨_, rfl, _, _, rfl, rfl, bigN (by rw [b1]; omega), _, rfl, a, rfl, itxt_log (lg a (List.mem_of_getElem? ha)), _, _, rfl, rfl, bigN (by show _ + (itxt a).length ≤ 1000000; rw [PySem.Str.length_append, b1]; omega), ?_⟩
      have ej : Txt.join (" " : Str) (headText m :: (ls.take (i + 1)).map itxt) = Txt.join (" " : Str) (headText m :: (ls.take i).map itxt) ++ (" " : Str) ++ itxt a := by
        rw [take_snoc ha, List.map_append]
        exact join_more (l := headText m :: (ls.take i).map itxt) (by simp)
      refine ⟨_, by rw [ej]; rfl, rfl, ?_⟩
      rw [ej, PySem.Str.length_append, PySem.Str.length_append, b1]
      omega
    rintro σ H1 ⟨w, rfl, rfl, hj⟩
    have ht : ls.take (ls.map V.int).length = ls := List.take_of_length_le (by simp)
    rw [ht] at hj ⊢
    have hlen : (ls.map V.int).length ≤ 4 := by simpa using v2
    refine ⟨_, rfl, _, _, rfl, rfl, bigN (by rw [b3]; omega), _, rfl, p, _, _, _, rfl, rfl, SqT.of e1, rfl, t, rfl, itxt_log tg, _, _, rfl, rfl, bigN (by show _ + (itxt t).length ≤ 1000000; have := itxt_len tg; rw [PySem.Str.length_append, b3]; omega), ?_⟩
    have ef : standText ls t m = Txt.join (" " : Str) (headText m :: ls.map itxt) ++ (" / " : Str) ++ itxt t := by
      unfold standText
      rw [join_more (by simp), join_more (by simp)]
      have e3 : (" / " : Str) = (" " : Str) ++ ("/" : Str) ++ (" " : Str) := by decide +kernel
      rw [e3]
      simp only [Str.append_assoc]
    show Q (.str (Txt.join (" " : Str) (headText m :: ls.map itxt) ++ (" / " : Str) ++ itxt t)) _
    rw [← ef]
    exact k

theorem ok_law_below {f : Addr} {fd : FuncData} (F : Fun K "_law_below" "_law_below" s_law_below f fd) (T : Txt K mg) : FnOk P w K mg base CX0 1 f fd P_law_below sp_law_below := by
  refine F.ok sc_law_below (fun vs H Q E h => ?_) (fun cdv A outer s H vs Q E hr h => ?_)
  · obtain ⟨p, q, l1, l2, t1, m1, t2, m2, rfl, h1', h2', hl1, k⟩ := h
    rfl
  · obtain ⟨p, q, l1, l2, t1, m1, t2, m2, rfl, h1', h2', hl1, k⟩ := h
    refine ⟨_, (pss_cons (ps_if (PW.pt (pw_or (pt_cmpR op_ne (pe_callB call_len_seq (by rfl) T.b_len PySem.boot_len (pa_cons (pe_ix ix_tup (pv 0) pe_int (fun _ _ => rfl)) pa_nil)) (pe_callB call_len_seq (by rfl) T.b_len PySem.boot_len (pa_cons (pe_ix ix_tup (pv 1) pe_int (fun _ _ => rfl)) pa_nil)) (nomark _)) (pw_or1 (pt_cmpR op_ne (pe_ix ix_tup (pv 0) pe_int (fun _ _ => rfl)) (pe_ix ix_tup (pv 1) pe_int (fun _ _ => rfl)) (nomark _)))))
  (pss_one (ps_ret pe_bl))
  pss_nil)
  (pss_one (ps_ret (pe_and (pe_cmpR (op_eqD hr.units) (pe_lc (g := gTup K 2 (gCons (gName 2) (gCons (gName 3) gNil))) (own := [("at", 2), ("level", 3)]) rfl sc_law_below.nd (pi_enum (by rfl) T.b_enumerate (pa_cons (pe_ix ix_tup (pv 0) pe_int (fun _ _ => rfl)) pa_nil)) (blkOk_by (own := [("at", 2), ("level", 3)]) (N := N_law_below) (sc := defScope s_law_below) (by decide +kernel)) (fun _ _ _ _ _ => (pg_tup rfl (pgs_cons (pg_name (i := 2) sc_law_below.nd rfl (by first | exact Or.inl rfl | exact Or.inr rfl)) (pgs_cons (pg_name (i := 3) sc_law_below.nd rfl (by first | exact Or.inl rfl | exact Or.inr rfl)) pgs_nil)))) (fun _ _ _ _ _ => (pts_one (pt_cmpR op_gt (pv 3) (pe_ix (r := rIxL K) ix_list (pe_ix (r := rIxT K) ix_tup (pv 1) pe_int (fun _ _ => rfl)) (pv 2) (fun _ _ => rfl)) (nomark _)))) (fun _ _ _ _ _ => (pv 2))) (pe_lst pa_nil) (nomark _)) (pe_one (pe_cmpR op_le (pe_ix ix_tup (pv 0) pe_int (fun _ _ => rfl)) (pe_ix ix_tup (pv 1) pe_int (fun _ _ => rfl)) (nomark _))))))), ?_⟩
    obtain ⟨a, e1, f1⟩ := h1'
    obtain ⟨b, e2, f2⟩ := h2'
    refine ⟨_, rfl, p, _, _, _, rfl, rfl, SqT.of e1, rfl, _, _, rfl, .inl (SqL.of f1), _, rfl, q, _, _, _, rfl, rfl, SqT.of e2, rfl, _, _, rfl, .inl (SqL.of f2), rfl, _, rfl, ?_⟩
    refine ite2 (fun c1 => ?_) (fun c1 => ?_)
    · have e : leS l1 t1 m1 l2 t2 m2 = false := by
        unfold leS
        rw [leL_len (fun q => by rw [List.length_map, List.length_map, q] at c1; exact ne_self c1), Bool.and_false]
      rw [e] at k
      exact k _ (Same.refl _)
    have c1 : l1.length = l2.length := by
      by_cases q : l1.length = l2.length
      · exact q
      · exact absurd (by rw [List.length_map, List.length_map, decide_eq_false (fun y => q (by injection y with y; omega))]; rfl) c1
    refine ⟨_, rfl, p, _, _, _, rfl, rfl, SqT.of e1, rfl, _, rfl, q, _, _, _, rfl, rfl, SqT.of e2, rfl, rfl, _, rfl, ?_⟩
    refine ite2 (fun c2 => ?_) (fun c2 => ?_)
    · have c2 : ¬ m1 = m2 := fun q => by rw [q] at c2; exact ne_self c2
      have e : leS l1 t1 m1 l2 t2 m2 = false := by unfold leS; rw [decide_eq_false c2]; rfl
      rw [e] at k
      exact k _ (Same.refl _)
    have c2 : m1 = m2 := by
      by_cases q : m1 = m2
      · exact q
      · exact absurd (by rw [decide_eq_false (fun y => q (by injection y))]; rfl) c2
    refine ⟨_, rfl, p, _, _, _, rfl, rfl, SqT.of e1, rfl, a, _, rfl, SqL.of f1, fun D hD => ?_⟩
    refine lc_it walk_enum (fun i H1 => H1 D = some (.lst (((overs (leBs l1 l2) i).map Int.ofNat).map V.int)) ∧ Same H H1) ⟨upd_same, Same.new hD⟩ (fun i H1 _ q => SqL.of (q.2 _ _ f1)) ?_ ?_
    · rintro i x H1o H1 hi ⟨g1, s1⟩ ⟨T, x, y, rfl, hT, rfl, hx, hy⟩
      obtain rfl : x = V.int (i : Nat) := (Option.some.inj hx).symm
      obtain ⟨z, hz, rfl⟩ := int_at hy
      have hi1 : i < l1.length := by simpa using hi
      have hb : l2[i]? = some l2[i] := List.getElem?_eq_getElem (by omega)
      have hB := leBs_at hz hb
      have sT : Same H (upd H1o T (.tup [V.int (i : Nat), V.int z])) := s1.trans (Same.new hT)
      have nTD : D ≠ T := ne_of_none g1 hT
      have gD : (upd H1o T (.tup [V.int (i : Nat), V.int z])) D = some (.lst (((overs (leBs l1 l2) i).map Int.ofNat).map V.int)) := by rw [upd_ne nTD]; exact g1
      refine ⟨T, _, rfl, SqT.of upd_same, rfl, _, _, rfl, _, _, rfl, rfl, rfl, ?_⟩
      refine ⟨_, rfl, _, rfl, q, _, _, _, rfl, rfl, SqT.of (sT _ _ e2), rfl, _, rfl, b, _, _, _, rfl, rfl, SqL.of (sT _ _ f2), atI_nat (by rw [List.getElem?_map, hb]; rfl), _, _, rfl, rfl, _, rfl, ?_⟩
      have ov := overs_snoc hB
      refine ite2 (fun c => ?_) (fun c => ?_)
      · have c := of_decide_eq_true c
        rw [if_neg (by simp; omega)] at ov
        refine ⟨_, rfl, _, gD, small1000 (by simp only [List.length_map]; have : (overs (leBs l1 l2) i).length ≤ i := Nat.le_trans (List.length_filter_le _ _) (by simp); omega), ?_, fun z o e => ?_⟩
        · rw [upd_same, ov, List.map_append, List.map_append]
          rfl
        · rw [upd_ne (ne_of_none e hD)]
          exact sT _ _ e
      · have c : z ≤ l2[i] := by
          by_cases q : z ≤ l2[i]
          · exact q
          · exact absurd (decide_eq_true (by omega)) c
        rw [if_pos (by simp; omega), List.append_nil] at ov
        exact ⟨by rw [ov]; exact gD, sT⟩
    rintro H1 ⟨g1, s1⟩
    have hn : (l1.map V.int).length = (leBs l1 l2).length := by rw [leBs_len c1, List.length_map]
    rw [hn] at g1
    refine ⟨bigN (by show 0 ≤ _; exact Nat.zero_le _), fun z hz => ?_⟩
    have nz : D ≠ z := ne_of_none g1 hz
    refine ⟨_, _, dp_intsL (SqL.of (by rw [upd_ne nz]; exact g1)), dp_intsL (xs := []) (SqL.of upd_same), shaped_intsL _, shaped_intsL _, _, rfl, ?_⟩
    rw [eqv_intsL]
    have sz := s1.trans (Same.new (o := .lst []) hz)
    have eA : decide ((overs (leBs l1 l2) (leBs l1 l2).length).map Int.ofNat = []) = leL l1 l2 := by
      rw [← leBs_all c1, ← overs_nil]
      congr 1
      simp
    rw [eA]
    refine ite2 (fun c => ?_) (fun c => ?_)
    · refine ⟨_, rfl, p, _, _, _, rfl, rfl, SqT.of (sz _ _ e1), rfl, _, rfl, q, _, _, _, rfl, rfl, SqT.of (sz _ _ e2), rfl, _, _, rfl, rfl, ?_⟩
      have e : leS l1 t1 m1 l2 t2 m2 = decide (t1 ≤ t2) := by
        unfold leS
        rw [c, decide_eq_true c2, Bool.and_true, Bool.true_and]
      show Q (.bl (decide (t1 ≤ t2))) _
      rw [← e]
      exact k _ sz
    · have c : leL l1 l2 = false := Bool.eq_false_iff.mpr c
      have e : leS l1 t1 m1 l2 t2 m2 = false := by
        unfold leS
        rw [c, Bool.and_false]
      rw [e] at k
      exact k _ sz
end
end Wb

namespace Wb
open PySem PySem.Spec PyProof.Rows L2 Wx NdefX RZ StX PyProof.Rows.FinIter
section
variable {P : Program} {w : World} {K : PySem.W.Frag} {mg : Str → Option Value} {base : Heap}

def sp_law_refusalS (K : PySem.W.Frag) : Sp := fun vs H Q _ => ∃ (a : Addr) (xs : List V) (t m : V), vs = [.ref a, t, m] ∧ (SqL K H a xs ∨ SqT K H a xs) ∧ xs.length ≤ 1000 ∧ (∀ x, x ∈ xs → OddV x) ∧ OddV t ∧ OddV m ∧
  ∀ (tag : Str) (v : V), (standRef xs t m).getD ("none", .int 0) = (tag, v) → ∀ (q : Addr) (H' : Hp), H q = none → H' q = some (.tup [.str tag, v]) → Same H H' → Q (.ref q) H'
theorem Fr2.free {p dx : Addr} {H : Hp} {o1 o2 : HO} {d : Addr} (e : upd (upd H dx o1) p o2 d = none) : H d = none := by
  have b1 : d ≠ p := fun q => by rw [q, upd_same] at e; cases e
  rw [upd_ne b1] at e
  have b2 : d ≠ dx := fun q => by rw [q, upd_same] at e; cases e
  rw [upd_ne b2] at e
  exact e
theorem two_le : (2 : Nat) ≤ sizeLine := by rw [sizeLine_eq]; show 2 ≤ 16777216; decide

theorem ok_law_refusal {f : Addr} {fd : FuncData} (F : Fun K "_law_refusal" "_law_refusal" s_law_refusal f fd) (T : Txt K mg) {C_BadNumber f_BadNumber cda_BadNumber cc_BadNumber : Addr} {fd_BadNumber : FuncData} (E_BadNumber : ErrC P K mg "BadNumber" "BadNumber.__init__" C_BadNumber f_BadNumber cda_BadNumber cc_BadNumber) (G_BadNumber : FnOk P w K mg base CX0 2 f_BadNumber fd_BadNumber PBadNumber___init__ (spBadNumber C_BadNumber)) (b_BadNumber : Binds K fd_BadNumber PBadNumber___init__ []) {C_Standing fi fe : Addr} {fdi : FuncData} (D_Standing : DatC K mg "Standing" C_Standing fi fe ["levels", "tank", "mood"]) (GStanding___init__ : FnOk P w K mg base (L2.CX P w) 6 fi fdi PStanding___init__ (spStanding_init K C_Standing C_BadNumber)) (bStanding___init__ : Binds K fdi PStanding___init__ []) : FnOk P w K mg base CX0 8 f fd P_law_refusal (sp_law_refusalS K) := by
  refine F.ok sc_law_refusal (fun vs H Q E h => ?_) (fun cdv A outer s H vs Q E hr h => ?_)
  · obtain ⟨a, xs, t, m, rfl, hs, hl, ho, ht, hm, k⟩ := h
    rfl
  · obtain ⟨a, xs, t, m, rfl, hs, hl, ho, ht, hm, k⟩ := h
    refine ⟨_, (pss_cons (ps_try_ass (i := 3) rfl rfl rfl sc_law_refusal.nd rfl rfl takes0 (fun W pn xe tk _ => (pss_one (ps_expr (pe_makeS D_Standing.mkk GStanding___init__ (hr.mono (by decide)) (by rfl) D_Standing.g bStanding___init__ (fun σ => passAt tk σ) (pa_cons (pv 0) (pa_cons (pv 1) (pa_cons (pv 2) pa_nil))))))) (by exact (.cons ⟨rfl, by decide, Or.inl E_BadNumber.g⟩ (fun a oe cls d pn hz hf => (pss_one (ps_ret (pe_tup (pa_cons (pe_xf E_BadNumber.xf E_BadNumber.noWhat hz hf (pv 3)) (pa_cons (pe_xf E_BadNumber.xf E_BadNumber.noValue hz hf (pv 3)) pa_nil)))))) .nil)))
  (pss_one (ps_ret (pe_tup (pa_cons pe_str (pa_cons pe_int pa_nil)))))), ?_⟩
    refine ⟨_, rfl, _, rfl, _, rfl, fun p dx np nd ne => ?_⟩
    have sm : ∀ {o1 o2 : HO}, Same H (upd (upd H dx o1) p o2) := fun {o1 o2} b o e => by rw [upd_ne (ne_of_none e np), upd_ne (ne_of_none e nd)]; exact e
    refine ⟨p, dx, a, xs, t, m, rfl, upd_same, hs.imp (Same.seq sm) (Same.seqT sm), hl, ho, ht, hm, fun e q H2 fr nq eq ep => ⟨rfl, ?_⟩, fun tag v e d H2 nd2 fr hd => ⟨true, E_BadNumber.exm, fun _ a na => ?_, fun q => by cases q⟩⟩
    · have s2 := fr.same np nd
      refine ⟨two_le, fun q hq => ?_⟩
      exact k _ _ (by rw [e]; rfl) q _ (s2.free hq) upd_same (s2.trans (Same.new hq))
    · have s2 := fr.same np nd
      refine ⟨_, rfl, rfl, rfl, d, _, _, rfl, hd, look_what, _, rfl, rfl, rfl, d, _, _, rfl, hd, look_val, two_le, fun q hq => ?_⟩
      exact k _ _ (by rw [e]; rfl) q _ (s2.free hq) upd_same (s2.trans (Same.new hq))

def Row3 (H : Hp) (p : Addr) : Prop := ∃ ls t m, RowAt H p ls t m ∧ VStand ls t m
theorem Row3.same {H H' : Hp} {p : Addr} (x : Row3 H p) (s : Same H H') : Row3 H' p := by
  obtain ⟨ls, t, m, h1, h2⟩ := x
  exact ⟨ls, t, m, h1.same s, h2⟩
/-- a state is no row and no part of one -/
def RowF (s : Addr) (H : Hp) (p : Addr) (ls : List Int) (t m : Int) : Prop := ∃ l, H p = some (.tup [.ref l, .int t, .int m]) ∧ H l = some (.lst (ls.map V.int)) ∧ p ≠ s ∧ l ≠ s
theorem RowF.row {s : Addr} {H : Hp} {p : Addr} {ls : List Int} {t m : Int} (x : RowF s H p ls t m) : RowAt H p ls t m := by
  obtain ⟨l, e1, e2, _⟩ := x
  exact ⟨l, e1, e2⟩
theorem RowF.frm {s : Addr} {H H' : Hp} {p : Addr} {ls : List Int} {t m : Int} (x : RowF s H p ls t m) (f : Frm [s] H H') : RowF s H' p ls t m := by
  obtain ⟨l, e1, e2, n1, n2⟩ := x
  exact ⟨l, f _ _ (by simpa using n1) e1, f _ _ (by simpa using n2) e2, n1, n2⟩
theorem RowF.same {s : Addr} {H H' : Hp} {p : Addr} {ls : List Int} {t m : Int} (x : RowF s H p ls t m) (f : Same H H') : RowF s H' p ls t m := x.frm (Frm.of_same f)
theorem RowF.frmL {s L : Addr} {H H' : Hp} {p : Addr} {ls : List Int} {t m : Int} (x : RowF s H p ls t m) (n : H L = none) (f : Frm [L, s] H H') : RowF s H' p ls t m := by
  obtain ⟨l, e1, e2, n1, n2⟩ := x
  exact ⟨l, f _ _ (by simp [ne_of_none e1 n, n1]) e1, f _ _ (by simp [ne_of_none e2 n, n2]) e2, n1, n2⟩
/-- rows behind one another -/
def RowsF (s : Addr) (H : Hp) (ps : List Addr) : Prop := ∀ p, p ∈ ps → ∃ ls t m, RowF s H p ls t m ∧ VStand ls t m
theorem RowsF.frm {s : Addr} {H H' : Hp} {ps : List Addr} (x : RowsF s H ps) (f : Frm [s] H H') : RowsF s H' ps := fun p hp => by
  obtain ⟨ls, t, m, h1, h2⟩ := x p hp
  exact ⟨ls, t, m, h1.frm f, h2⟩
theorem RowsF.frmL {s L : Addr} {H H' : Hp} {ps : List Addr} (x : RowsF s H ps) (n : H L = none) (f : Frm [L, s] H H') : RowsF s H' ps := fun p hp => by
  obtain ⟨ls, t, m, h1, h2⟩ := x p hp
  exact ⟨ls, t, m, h1.frmL n f, h2⟩
def sp_law_rows (K : PySem.W.Frag) : Sp := fun vs H Q _ => ∃ (a s p : Addr) (ls : List Int) (t m many : Int), vs = [.ref a, .ref s, .ref p, .int many] ∧ Scr K H a s ∧ RowF s H p ls t m ∧ VStand ls t m ∧ (ls.length : Int) = many ∧
  ∀ (R : Addr) (H' : Hp) (ps : List Addr), H R = none → H' R = some (.lst (ps.map V.ref)) → ps ≠ [] → ps.length ≤ 10 → RowsF s H' ps → Frm [s] H H' → Scr K H' a s → Q (.ref R) H'
theorem VStand.set {ls : List Int} {t m : Int} {i : Nat} {z : Int} (h : VStand ls t m) (hz : 0 ≤ z ∧ z ≤ 8) : VStand (ls.set i z) t m := by
  obtain ⟨h1, h2, h3, h4⟩ := h
  refine ⟨by rw [List.length_set]; exact h1, by rw [List.length_set]; exact h2, fun x hx => ?_, h4⟩
  rcases List.mem_or_eq_of_mem_set hx with q | q
  · exact h3 x q
  · rw [q]
    exact hz

theorem ok_law_rows {f : Addr} {fd : FuncData} (F : Fun K "_law_rows" "_law_rows" s_law_rows f fd) (T : Txt K mg) (C_law_draw : Cal P w K mg base "_law_draw" P_law_draw 1 (sp_law_draw K)) : FnOk P w K mg base CX0 2 f fd P_law_rows (sp_law_rows K) := by
  obtain ⟨g_law_draw, gd_law_draw, G_law_draw, m_law_draw, k_law_draw, b_law_draw⟩ := C_law_draw.ex
  refine F.ok sc_law_rows (fun vs H Q E h => ?_) (fun cdv A outer s H vs Q E hr h => ?_)
  · obtain ⟨a, s0, p, ls, t, m, many, rfl, hS, hrow, hv, hmany, k⟩ := h
    rfl
  · obtain ⟨a, s0, p, ls, t, m, many, rfl, hS, hrow, hv, hmany, k⟩ := h
    refine ⟨_, (pss_cons (ps_set (i := 4) sc_law_rows.nd rfl (by first | exact Or.inl rfl | exact Or.inr rfl) (pe_lst (pa_cons (pv 2) pa_nil)))
  (pss_cons (ps_for PassesOwn.never rfl (pi_range1 rfl T.b_range (pa_cons pe_int pa_nil)) (pg_name (i := 5) sc_law_rows.nd rfl (by first | exact Or.inl rfl | exact Or.inr rfl))
  (pss_cons (ps_set (i := 6) sc_law_rows.nd rfl (by first | exact Or.inl rfl | exact Or.inr rfl) (pe_callTy (T := "list") call_list_of (by rfl) T.b_list (by decide +kernel) (pa_cons (pe_ix ix_tup (pv 2) pe_int (fun _ _ => rfl)) pa_nil)))
  (pss_cons (ps_for PassesOwn.never rfl (pi_range1 rfl T.b_range (pa_cons (pe_call G_law_draw (hr.mono (by decide)) (by rfl) m_law_draw k_law_draw b_law_draw .nil pass0 (pa_cons (pv 0) (pa_cons (pv 1) (pa_cons pe_int pa_nil)))) pa_nil)) (pg_name (i := 7) sc_law_rows.nd rfl (by first | exact Or.inl rfl | exact Or.inr rfl))
  (pss_cons (ps_set (i := 8) sc_law_rows.nd rfl (by first | exact Or.inl rfl | exact Or.inr rfl) (pe_call G_law_draw (hr.mono (by decide)) (by rfl) m_law_draw k_law_draw b_law_draw .nil pass0 (pa_cons (pv 0) (pa_cons (pv 1) (pa_cons (pv 3) pa_nil)))))
  (pss_one (ps_asg (pe_callB (id := "min") (call_min2 rfl) (by rfl) T.b_min (by decide +kernel) (pa_cons pe_int (pa_cons (pe_callTy (T := "int") call_int1 (by rfl) T.b_int (by decide +kernel) (pa_cons (pe_op op_add (pe_ix ix_list (pv 6) (pv 8) (fun _ _ => rfl)) pe_int) pa_nil)) pa_nil))) (pg_sub (pv 6) (pv 8) set_list)))))
  (pss_cons (ps_set (i := 9) sc_law_rows.nd rfl (by first | exact Or.inl rfl | exact Or.inr rfl) (pe_callB (id := "max") (call_max2 rfl) (by rfl) T.b_max (by decide +kernel) (pa_cons pe_int (pa_cons (pe_callTy (T := "int") call_int1 (by rfl) T.b_int (by decide +kernel) (pa_cons (pe_op op_sub (pe_op op_add (pe_ix ix_tup (pv 2) pe_int (fun _ _ => rfl)) pe_int) (pe_call G_law_draw (hr.mono (by decide)) (by rfl) m_law_draw k_law_draw b_law_draw .nil pass0 (pa_cons (pv 0) (pa_cons (pv 1) (pa_cons pe_int pa_nil))))) pa_nil)) pa_nil))))
  (pss_cons (ps_set (i := 10) sc_law_rows.nd rfl (by first | exact Or.inl rfl | exact Or.inr rfl) (pe_ix ix_tup (pv 2) pe_int (fun _ _ => rfl)))
  (C8.pss_cut (ps_if (pt_cmpR op_eq (pe_call G_law_draw (hr.mono (by decide)) (by rfl) m_law_draw k_law_draw b_law_draw .nil pass0 (pa_cons (pv 0) (pa_cons (pv 1) (pa_cons pe_int pa_nil)))) pe_int (nomark _))
  (pss_one (ps_set (i := 10) sc_law_rows.nd rfl (by first | exact Or.inl rfl | exact Or.inr rfl) (pe_op op_sub pe_int (pv 10))))
  pss_nil)
  (C8.pss_cut (ps_if (pt_cmpR op_eq (pe_call G_law_draw (hr.mono (by decide)) (by rfl) m_law_draw k_law_draw b_law_draw .nil pass0 (pa_cons (pv 0) (pa_cons (pv 1) (pa_cons pe_int pa_nil)))) pe_int (nomark _))
  (pss_one (ps_set (i := 6) sc_law_rows.nd rfl (by first | exact Or.inl rfl | exact Or.inr rfl) (pe_slice sl_list (pe_op op_cat (pv 6) (pe_lst (pa_cons pe_int pa_nil))) po_none (po_some pe_int))))
  pss_nil)
  (pss_one (ps_expr (pe_bm PySem.F.plainAttrs_list PySem.F.slot_list_append PySem.F.type_list_append mt_append (pv 4) (pa_cons (pe_tup (pa_cons (pv 6) (pa_cons (pe_callB (id := "min") (call_min2 rfl) (by rfl) T.b_min (by decide +kernel) (pa_cons pe_int (pa_cons (pe_callTy (T := "int") call_int1 (by rfl) T.b_int (by decide +kernel) (pa_cons (pv 9) pa_nil)) pa_nil))) (pa_cons (pv 10) pa_nil)))) pa_nil)))))))))))
  (pss_one (ps_ret (pv 4))))), ?_⟩
    obtain ⟨l0, e1, e2, n1, n2⟩ := id hrow
    obtain ⟨v1, v2, v3, v4, v5, v6, v7⟩ := id hv
    refine ⟨_, rfl, bigN (by show 1 ≤ _; decide), fun R hR => ?_⟩
    have nRs : ¬ R = s0 := hS.ne hR
    have sR : Same H (upd H R (.lst [.ref p])) := Same.new hR
    refine ⟨_, rfl, by omega, by omega, ?_⟩
    refine for_it walk_range (fun i σ H2 => ∃ (w5 w6 w7 w8 w9 w10 : Option V) (ps : List Addr), σ = [some (.ref a), some (.ref s0), some (.ref p), some (.int many), some (.ref R), w5, w6, w7, w8, w9, w10] ∧ H2 R = some (.lst (ps.map V.ref)) ∧ ps ≠ [] ∧ ps.length = i + 1 ∧ RowsF s0 H2 ps ∧ Frm [R, s0] (upd H R (.lst [.ref p])) H2 ∧ Scr K H2 a s0 ∧ RowF s0 H2 p ls t m)
      ⟨_, _, _, _, _, _, [p], rfl, upd_same, by simp, rfl, fun q hq => ⟨ls, t, m, by rw [List.mem_singleton.mp hq]; exact hrow.same sR, hv⟩, Frm.refl _ _, hS.same sR, hrow.same sR⟩ (fun _ _ _ _ _ => trivial) ?_ ?_
    case refine_2 =>
      rintro σ H2 ⟨w5, w6, w7, w8, w9, w10, ps, rfl, eR, pn, pl, hrs, f2, sc2, _⟩
      exact ⟨_, rfl, k R H2 ps hR eR pn (by rw [pl]; decide) hrs (Frm.drop hR (Frm.of_same sR) f2) sc2⟩
    rintro i x σ H2o H2 hi ⟨w5, w6, w7, w8, w9, w10, ps, rfl, eR, pn, pl, hrs, f2, sc2, hrow2⟩ ⟨rfl, rfl⟩
    have hi2 : i < 2 := by simpa using hi
    obtain ⟨l2, g1, g2, m1, m2⟩ := id hrow2
    refine ⟨_, rfl, p, _, _, _, rfl, rfl, SqT.of g1, rfl, l2, _, rfl, .inl (SqL.of g2), fun L hL => ?_⟩
    have nLs : ¬ L = s0 := sc2.ne hL
    have nLR : R ≠ L := ne_of_none eR hL
    have sL : Same H2 (upd H2 L (.lst (ls.map V.int))) := Same.new hL
    refine ⟨_, rfl, _, rfl, a, s0, 3, rfl, sc2.same sL, by decide, by decide, fun n H3 n0 n3 f3 sc3 => ⟨_, rfl, by omega, by omega, ?_⟩⟩
    have nL1 : ¬ L ∈ [s0] := fun y => nLs (by simpa using y)
    refine for_it walk_range (fun j σ H4 => ∃ (w7 w8 : Option V) (ks : List Int), σ = [some (.ref a), some (.ref s0), some (.ref p), some (.int many), some (.ref R), some (.int (0 + (i : Int))), some (.ref L), w7, w8, w9, w10] ∧ H4 L = some (.lst (ks.map V.int)) ∧ VStand ks t m ∧ ks.length = ls.length ∧ Frm [L, s0] H2 H4 ∧ Scr K H4 a s0)
      ⟨_, _, ls, rfl, f3 _ _ nL1 upd_same, hv, rfl, (Frm.of_same sL).trans (f3.mono (fun b h => List.mem_cons_of_mem _ h)), sc3⟩ (fun _ _ _ _ _ => trivial) ?_ ?_
    · rintro j x σ H4o H4 hj ⟨w7, w8, ks, rfl, eL, hvk, hkl, f4, sc4⟩ ⟨rfl, rfl⟩
      refine ⟨_, rfl, _, rfl, _, rfl, a, s0, many, rfl, sc4, by omega, by omega, fun at_ H5 a0 a1 f5 sc5 => ?_⟩
      obtain ⟨an, rfl⟩ : ∃ an : Nat, at_ = (an : Int) := ⟨at_.toNat, by omega⟩
      have han : an < ks.length := by omega
      have hz : ks[an]? = some ks[an] := List.getElem?_eq_getElem han
      have bz := hvk.2.2.1 _ (List.getElem_mem han)
      generalize ks[an] = z at hz bz
      have eL5 := f5 _ _ nL1 eL
      refine ⟨_, rfl, _, rfl, L, _, _, _, rfl, rfl, SqL.of eL5, atI_nat (by rw [List.getElem?_map, hz]; rfl), _, _, rfl, rfl, .inl ⟨_, rfl, _, _, rfl, ?_⟩⟩
      refine ⟨_, rfl, _, rfl, L, _, _, an, rfl, rfl, eL5, ?_, ?_⟩
      · unfold ixN
        rw [if_pos (by omega), if_pos (by rw [List.length_map]; omega)]
        rfl
      refine ⟨_, _, ks.set an (if z + 1 < 8 then z + 1 else 8), rfl, ?_, hvk.set (by split <;> omega), by rw [List.length_set]; exact hkl, (f4.trans (f5.mono (fun b h => List.mem_cons_of_mem _ h))).put' List.mem_cons_self, ?_⟩
      · rw [upd_same, List.map_set]
      · obtain ⟨i1, i2, i3, i4, e4⟩ := sc5.2
        have e0 : ∀ {o : HO}, (upd H5 L o) s0 = some (.lst [.int i1, .int i2, .int i3, .int i4]) := fun {o} => by rw [upd_ne (fun q => nLs q.symm)]; exact e4
        exact scr_of sc2 hL ((f4.trans (f5.mono (fun b h => List.mem_cons_of_mem _ h))).put' List.mem_cons_self) ⟨i1, i2, i3, i4, e0⟩
    rintro σ H4 ⟨w7, w8, ks, rfl, eL, hvk, hkl, f4, sc4⟩
    have up : ∀ {H5 H6 : Hp}, Frm [L, s0] H2 H5 → Frm [s0] H5 H6 → Frm [L, s0] H2 H6 := fun x y => x.trans (y.mono (fun b h => List.mem_cons_of_mem _ h))
    obtain ⟨l4, g41, _⟩ := hrow2.frmL hL f4
    refine ⟨_, rfl, p, _, _, _, rfl, rfl, SqT.of g41, rfl, _, _, rfl, rfl, _, rfl, _, rfl, a, s0, 3, rfl, sc4, by decide, by decide, fun d1 H5 d10 d11 f5 sc5 => ⟨_, _, rfl, rfl, .inl ⟨_, rfl, _, _, rfl, ?_⟩⟩⟩
    have htk : 0 ≤ (if t + 1 - d1 > 0 then t + 1 - d1 else 0) := by split <;> omega
    generalize (if t + 1 - d1 > 0 then t + 1 - d1 else 0) = tk at htk
    have f5' := up f4 f5
    obtain ⟨l5, g51, _⟩ := hrow2.frmL hL f5'
    refine ⟨_, rfl, p, _, _, _, rfl, rfl, SqT.of g51, rfl, ?_⟩
    refine ⟨fun σ H6 => ∃ mo : Int, (0 ≤ mo ∧ mo ≤ 3) ∧ σ = [some (.ref a), some (.ref s0), some (.ref p), some (.int many), some (.ref R), some (.int (0 + (i : Int))), some (.ref L), w7, w8, some (.int tk), some (.int mo)] ∧ H6 L = some (.lst (ks.map V.int)) ∧ Frm [L, s0] H2 H6 ∧ Scr K H6 a s0, ?_, ?_⟩
    · refine ⟨_, rfl, _, rfl, a, s0, 5, rfl, sc5, by decide, by decide, fun d2 H6 _ _ f6 sc6 => ⟨rfl, _, rfl, ?_⟩⟩
      have eL6 := f6 _ _ nL1 (f5 _ _ nL1 eL)
      refine ite2 (fun _ => ?_) (fun _ => ?_)
      · exact ⟨_, rfl, _, _, rfl, rfl, 3 - m, by omega, rfl, eL6, up f5' f6, sc6⟩
      · exact ⟨m, ⟨v6, v7⟩, rfl, eL6, up f5' f6, sc6⟩
    rintro σ H6 ⟨mo, hmo, rfl, eL6, f6, sc6⟩
    refine ⟨fun σ H7 => ∃ (Lx : Addr) (kx : List Int), σ = [some (.ref a), some (.ref s0), some (.ref p), some (.int many), some (.ref R), some (.int (0 + (i : Int))), some (.ref Lx), w7, w8, some (.int tk), some (.int mo)] ∧ H7 Lx = some (.lst (kx.map V.int)) ∧ Lx ≠ s0 ∧ VStand kx t m ∧ Frm [L, s0] H2 H7 ∧ Scr K H7 a s0, ?_, ?_⟩
    · refine ⟨_, rfl, _, rfl, a, s0, 6, rfl, sc6, by decide, by decide, fun d2 H7 _ _ f7 sc7 => ⟨rfl, _, rfl, ?_⟩⟩
      have eL7 := f7 _ _ nL1 eL6
      refine ite2 (fun _ => ?_) (fun _ => ?_)
      · refine ⟨_, rfl, bigN (by show 1 ≤ _; decide), fun z hz => ⟨L, z, _, _, rfl, rfl, by rw [upd_ne (ne_of_none eL7 hz)]; exact eL7, upd_same, bigN (by rw [List.length_map]; have := hvk.2.1; show _ + 1 ≤ _; omega), fun y hy => ⟨_, rfl, y, _, rfl, SqL.of upd_same, fun x hx => ?_⟩⟩⟩
        have s7 : Same H7 (upd (upd H7 z (.lst [.int 0])) y (.lst (ks.map V.int ++ [.int 0]))) := (Same.new hz).trans (Same.new hy)
        have s8 := s7.trans (Same.new (o := .lst (cutV (ks.map V.int ++ [.int 0]) none (some 4))) hx)
        refine ⟨x, (ks ++ [0]).take 4, rfl, ?_, (sc7.same s7).ne hx, ?_, (up f6 f7).trans (Frm.of_same s8), sc7.same s8⟩
        · rw [upd_same]
          unfold cutV HT.sIx
          simp [List.map_take]
        · obtain ⟨q1, q2, q3, q4⟩ := hvk
          refine ⟨by rw [List.length_take, List.length_append]; simp; omega, by rw [List.length_take]; omega, fun x hx => ?_, q4⟩
          rcases List.mem_append.mp (List.mem_of_mem_take hx) with q | q
          · exact q3 x q
          · rw [List.mem_singleton.mp q]
            decide
      · exact ⟨L, ks, rfl, eL7, nLs, hvk, up f6 f7, sc7⟩
    rintro σ H7 ⟨Lx, kx, rfl, eX, nX, hvx, f7, sc7⟩
    have eR7 : H7 R = some (.lst (ps.map V.ref)) := f7 _ _ (by simp [nLR, nRs]) eR
    refine ⟨_, rfl, .inl ⟨rfl, _, SqL.of eR7⟩, _, rfl, _, rfl, .inl ⟨_, rfl, _, _, rfl, _, rfl, bigN (by show 3 ≤ _; decide), fun T hT => ?_⟩⟩
    have nRT : R ≠ T := ne_of_none eR7 hT
    refine ⟨R, _, _, rfl, rfl, by rw [upd_ne nRT]; exact eR7, small1000 (by rw [List.length_map]; omega), ?_⟩
    have htk8 : 0 ≤ (if tk < 8 then tk else 8) ∧ (if tk < 8 then tk else 8) ≤ 8 := by split <;> omega
    generalize (if tk < 8 then tk else 8) = tx at htk8
    have sT : Same H7 (upd H7 T (.tup [.ref Lx, .int tx, .int mo])) := Same.new hT
    have rs7 := hrs.frmL hL f7
    have stay : ∀ {q : Addr} {o o2 : HO}, H7 q = some o → q ≠ R → (upd (upd H7 T (.tup [.ref Lx, .int tx, .int mo])) R o2) q = some o := fun e n => by rw [upd_ne n]; exact sT _ _ e
    have notR : ∀ {q : Addr} {o : HO}, H7 q = some o → (∀ xs : List V, o = .lst xs → ∀ rs : List Addr, xs ≠ rs.map V.ref ∨ rs = []) → q ≠ R := fun {q o} e h z => by
      rw [z, eR7] at e
      cases e
      rcases h _ rfl ps with y | y
      · exact y rfl
      · exact pn y
    have intsR : ∀ (ks : List Int) (xs : List V), HO.lst (ks.map V.int) = .lst xs → ks ≠ [] → ∀ rs : List Addr, xs ≠ rs.map V.ref ∨ rs = [] := fun ks xs e hk rs => by
      injection e with e
      cases rs with
      | nil => exact .inr rfl
      | cons r rs =>
        refine .inl fun y => ?_
        rw [← e] at y
        cases ks with
        | nil => exact hk rfl
        | cons k ks => cases y
    have nK : ∀ {ks : List Int} {t m : Int}, VStand ks t m → ks ≠ [] := fun h q => by
      have := h.1
      rw [q] at this
      exact absurd this (by decide)
    have keepRow : ∀ {q : Addr} {ls : List Int} {t m : Int}, RowF s0 H7 q ls t m → VStand ls t m → RowF s0 (upd (upd H7 T (.tup [.ref Lx, .int tx, .int mo])) R (.lst (ps.map V.ref ++ [.ref T]))) q ls t m := fun x hv => by
      obtain ⟨l, e1, e2, n1, n2⟩ := x
      exact ⟨l, stay e1 (notR e1 (fun xs e => by cases e)), stay e2 (notR e2 (fun xs e => intsR _ xs e (nK hv))), n1, n2⟩
    refine ⟨_, _, _, _, _, _, ps ++ [T], rfl, by rw [upd_same, List.map_append]; rfl, by simp, by rw [List.length_append, pl]; rfl, fun q hq => ?_, ?_, ?_, ?_⟩
    · rcases List.mem_append.mp hq with y | y
      · obtain ⟨ls', t', m', h1, h2⟩ := rs7 q y
        exact ⟨ls', t', m', keepRow h1 h2, h2⟩
      · rw [List.mem_singleton.mp y]
        have nTR : T ≠ R := fun z => nRT z.symm
        refine ⟨kx, tx, mo, ⟨Lx, by rw [upd_ne nTR]; exact upd_same, stay eX (notR eX (fun xs e => intsR _ xs e (nK hvx))), sc7.ne hT, nX⟩, ?_⟩
        obtain ⟨q1, q2, q3, _⟩ := hvx
        exact ⟨q1, q2, q3, htk8.1, htk8.2, hmo.1, hmo.2⟩
    · refine f2.trans ?_
      refine Frm.put' (Frm.trans ?_ (Frm.of_same sT)) List.mem_cons_self
      exact (Frm.drop hL (Frm.refl _ _) (f7.mono fun b h => by
        rcases List.mem_cons.mp h with y | y
        · rw [y]; exact List.mem_cons_self
        · exact List.mem_cons_of_mem _ (List.mem_cons_of_mem _ y)))
    · obtain ⟨i1, i2, i3, i4, e4⟩ := sc7.2
      have e0 : ∀ {o : HO}, (upd (upd H7 T (.tup [.ref Lx, .int tx, .int mo])) R o) s0 = some (.lst [.int i1, .int i2, .int i3, .int i4]) := fun {o} => by rw [upd_ne (fun q => nRs q.symm)]; exact sT _ _ e4
      refine scr_of hS hR ?_ ⟨i1, i2, i3, i4, e0⟩
      refine Frm.put' (Frm.trans ?_ (Frm.of_same sT)) List.mem_cons_self
      refine ((Frm.of_same sR).trans f2).trans ?_
      exact (Frm.drop hL (Frm.refl _ _) (f7.mono fun b h => by
        rcases List.mem_cons.mp h with y | y
        · rw [y]; exact List.mem_cons_self
        · exact List.mem_cons_of_mem _ (List.mem_cons_of_mem _ y)))
    · exact keepRow (hrow2.frmL hL f7) hv
end
end Wb

namespace Wb
open PySem PySem.Spec PyProof.Rows L2 Wx NdefX RZ StX PyProof.Rows.FinIter
section
variable {P : Program} {w : World} {K : PySem.W.Frag} {mg : Str → Option Value} {base : Heap}

/-- the standings of the rows, in order -/
def Twins (C : Addr) (H : Hp) (ps qs : List Addr) : Prop := ∀ (i : Nat) (p q : Addr), ps[i]? = some p → qs[i]? = some q → ∃ ls t m, RowAt H p ls t m ∧ VStand ls t m ∧ StandAt C H q ls t m
theorem Twins.same {C : Addr} {H H' : Hp} {ps qs : List Addr} (x : Twins C H ps qs) (s : Same H H') : Twins C H' ps qs := fun i p q h1 h2 => by
  obtain ⟨ls, t, m, a, b, c⟩ := x i p q h1 h2
  exact ⟨ls, t, m, a.same s, b, c.same s⟩
def sp_law_pairs_hold : Sp := fun vs H Q _ => ∃ (R : Addr) (ps : List Addr), vs = [.ref R] ∧ H R = some (.lst (ps.map V.ref)) ∧ ps ≠ [] ∧ ps.length ≤ 10 ∧ (∀ p, p ∈ ps → Row3 H p) ∧ ∀ H', Same H H' → Q (.bl true) H'
theorem ref_at {ps : List Addr} {i : Nat} {x : V} (h : (ps.map V.ref)[i]? = some x) : ∃ p, ps[i]? = some p ∧ x = .ref p := by
  rw [List.getElem?_map] at h
  cases q : ps[i]? with
  | none => rw [q] at h; cases h
  | some a =>
    rw [q] at h
    exact ⟨a, rfl, (Option.some.inj h).symm⟩
theorem at0 {xs : List V} {v : V} (h : xs[0]? = some v) : atI xs 0 = some v := atI_nat (j := 0) h
theorem eqS_self (ls : List Int) (t m : Int) : eqS ls t m ls t m = true := decide_eq_true ⟨rfl, rfl, rfl⟩

theorem ok_law_pairs_hold {f : Addr} {fd : FuncData} (F : Fun K "_law_pairs_hold" "_law_pairs_hold" s_law_pairs_hold f fd) (T : Txt K mg) (C_law_text : Cal P w K mg base "_law_text" P_law_text 1 sp_law_text) (C_law_below : Cal P w K mg base "_law_below" P_law_below 1 sp_law_below) {C_BadNumber C_Standing fi fe fl fs : Addr} {fdi fde fdl fds : FuncData} (D_Standing : DatC K mg "Standing" C_Standing fi fe ["levels", "tank", "mood"]) (L_Standing : PySem.W.findIn K (.ref C_Standing) "__le__" = some (some (.ref fl)) ∧ PySem.W.isFn K (.ref fl) = true) (S_Standing : PySem.W.findIn K (.ref C_Standing) "__str__" = some (some (.ref fs)) ∧ PySem.W.isFn K (.ref fs) = true) (GStanding___init__ : FnOk P w K mg base (L2.CX P w) 6 fi fdi PStanding___init__ (spStanding_init K C_Standing C_BadNumber)) (bStanding___init__ : Binds K fdi PStanding___init__ []) (GStanding___eq__ : FnOk P w K mg base CX0 1 fe fde PStanding___eq__ (spStanding_eq C_Standing)) (bStanding___eq__ : Binds K fde PStanding___eq__ []) (GStanding___le__ : FnOk P w K mg base CX0 1 fl fdl PStanding___le__ (spStanding_le C_Standing)) (bStanding___le__ : Binds K fdl PStanding___le__ []) (GStanding___str__ : FnOk P w K mg base CX0 1 fs fds PStanding___str__ (spStanding_str C_Standing)) (bStanding___str__ : Binds K fds PStanding___str__ []) : FnOk P w K mg base CX0 8 f fd P_law_pairs_hold sp_law_pairs_hold := by
  obtain ⟨g_law_text, gd_law_text, G_law_text, m_law_text, k_law_text, b_law_text⟩ := C_law_text.ex
  obtain ⟨g_law_below, gd_law_below, G_law_below, m_law_below, k_law_below, b_law_below⟩ := C_law_below.ex
  refine F.ok sc_law_pairs_hold (fun vs H Q E h => ?_) (fun cdv A outer s H vs Q E hr h => ?_)
  · obtain ⟨R, ps, rfl, eR, pn, pl, hrs, k⟩ := h
    rfl
  · obtain ⟨R, ps, rfl, eR, pn, pl, hrs, k⟩ := h
    refine ⟨_, (pss_cons (ps_setLc (i := 1) (own := [("row", 9)]) rfl sc_law_pairs_hold.nd rfl rfl (sw_true rfl rfl rfl (by decide +kernel)) (pi_list (pv 0)) (blkOk_by (own := [("row", 9)]) (N := N_law_pairs_hold) (sc := defScope s_law_pairs_hold) (by decide +kernel)) (fun _ _ _ _ _ => (pg_name (i := 9) sc_law_pairs_hold.nd rfl (by first | exact Or.inl rfl | exact Or.inr rfl))) (fun _ _ _ _ _ => pts_nil) (fun _ _ _ _ _ => (pe_makeS D_Standing.mkk GStanding___init__ (hr.mono (by decide)) (by rfl) D_Standing.g bStanding___init__ (fun σ => passNo σ) (pa_cons (pe_ix (r := rIxT K) ix_tup (pv 9) pe_int (fun _ _ => rfl)) (pa_cons (pe_ix (r := rIxT K) ix_tup (pv 9) pe_int (fun _ _ => rfl)) (pa_cons (pe_ix (r := rIxT K) ix_tup (pv 9) pe_int (fun _ _ => rfl)) pa_nil))))))
  (pss_cons (ps_for PassesOwn.never rfl (pi_enum (by rfl) T.b_enumerate (pa_cons (pv 0) pa_nil)) (pg_tup rfl (pgs_cons (pg_name (i := 2) sc_law_pairs_hold.nd rfl (by first | exact Or.inl rfl | exact Or.inr rfl)) (pgs_cons (pg_name (i := 3) sc_law_pairs_hold.nd rfl (by first | exact Or.inl rfl | exact Or.inr rfl)) pgs_nil)))
  (pss_cons (ps_set (i := 4) sc_law_pairs_hold.nd rfl (by first | exact Or.inl rfl | exact Or.inr rfl) (pe_ix ix_list (pv 1) (pv 2) (fun _ _ => rfl)))
  (pss_cons (ps_if (PW.pt (pw_or (pt_cmpR (op_neD hr.units) (pe_fld (pv 4) rfl) (pe_callTy (T := "tuple") call_tuple_of (by rfl) T.b_tuple (by decide +kernel) (pa_cons (pe_ix ix_tup (pv 3) pe_int (fun _ _ => rfl)) pa_nil)) (nomark _)) (pw_or (pt_cmpR op_ne (pe_fld (pv 4) rfl) (pe_ix ix_tup (pv 3) pe_int (fun _ _ => rfl)) (nomark _)) (pw_or1 (pt_cmpR op_ne (pe_fld (pv 4) rfl) (pe_ix ix_tup (pv 3) pe_int (fun _ _ => rfl)) (nomark _))))))
  (pss_one (ps_ret pe_bl))
  pss_nil)
  (pss_cons (ps_if (pt_cmpR op_ne (pe_callTy (T := "str") (call_strOwn GStanding___str__ (hr.mono (by decide)) S_Standing.1 S_Standing.2 bStanding___str__ pass0) (by rfl) T.b_str (by decide +kernel) (pa_cons (pv 4) pa_nil)) (pe_call G_law_text (hr.mono (by decide)) (by rfl) m_law_text k_law_text b_law_text .nil pass0 (pa_cons (pv 3) pa_nil)) (nomark _))
  (pss_one (ps_ret pe_bl))
  pss_nil)
  (pss_one (ps_for PassesOwn.never rfl (pi_enum (by rfl) T.b_enumerate (pa_cons (pv 0) pa_nil)) (pg_tup rfl (pgs_cons (pg_name (i := 5) sc_law_pairs_hold.nd rfl (by first | exact Or.inl rfl | exact Or.inr rfl)) (pgs_cons (pg_name (i := 6) sc_law_pairs_hold.nd rfl (by first | exact Or.inl rfl | exact Or.inr rfl)) pgs_nil)))
  (pss_cons (ps_if (pt_cmpR op_ne (pe_cmpR (op_leI GStanding___le__ (hr.mono (by decide)) L_Standing.1 L_Standing.2 bStanding___le__ pass0) (pv 4) (pe_ix ix_list (pv 1) (pv 5) (fun _ _ => rfl)) (nomark _)) (pe_call G_law_below (hr.mono (by decide)) (by rfl) m_law_below k_law_below b_law_below .nil pass0 (pa_cons (pv 3) (pa_cons (pv 6) pa_nil))) (nomark _))
  (pss_one (ps_ret pe_bl))
  pss_nil)
  (pss_one (ps_if (PW.pt (pw_or (pt_cmpR op_ne (pe_cmpR (op_eqI GStanding___eq__ (hr.mono (by decide)) D_Standing.eq D_Standing.fe bStanding___eq__ pass0) (pv 4) (pe_ix ix_list (pv 1) (pv 5) (fun _ _ => rfl)) (nomark _)) (pe_cmpR (op_eqD hr.units) (pv 3) (pv 6) (nomark _)) (nomark _)) (pw_or1 (pt_cmpR op_ne (pe_cmpR (op_neI GStanding___eq__ (hr.mono (by decide)) D_Standing.ne D_Standing.ob D_Standing.eq D_Standing.fe bStanding___eq__ pass0) (pv 4) (pe_ix ix_list (pv 1) (pv 5) (fun _ _ => rfl)) (nomark _)) (pe_cmpR (op_neD hr.units) (pv 3) (pv 6) (nomark _)) (nomark _)))))
  (pss_one (ps_ret pe_bl))
  pss_nil)))))))))
  (pss_cons (ps_set (i := 7) sc_law_pairs_hold.nd rfl (by first | exact Or.inl rfl | exact Or.inr rfl) (pe_callTy (T := "list") call_list_of (by rfl) T.b_list (by decide +kernel) (pa_cons (pe_ix ix_tup (pe_ix ix_list (pv 0) pe_int (fun _ _ => rfl)) pe_int (fun _ _ => rfl)) pa_nil)))
  (pss_cons (ps_set (i := 8) sc_law_pairs_hold.nd rfl (by first | exact Or.inl rfl | exact Or.inr rfl) (pe_makeS D_Standing.mkk GStanding___init__ (hr.mono (by decide)) (by rfl) D_Standing.g bStanding___init__ (fun σ => passAt takes0 σ) (pa_cons (pv 7) (pa_cons (pe_ix ix_tup (pe_ix ix_list (pv 0) pe_int (fun _ _ => rfl)) pe_int (fun _ _ => rfl)) (pa_cons (pe_ix ix_tup (pe_ix ix_list (pv 0) pe_int (fun _ _ => rfl)) pe_int (fun _ _ => rfl)) pa_nil)))))
  (pss_cons (ps_asg pe_int (pg_sub (pv 7) pe_int set_list))
  (pss_cons (ps_expr (pe_bm PySem.F.plainAttrs_list PySem.F.slot_list_append PySem.F.type_list_append mt_append (pv 7) (pa_cons pe_int pa_nil)))
  (pss_one (ps_ret (pe_and (pe_cmpR (op_eqI GStanding___eq__ (hr.mono (by decide)) D_Standing.eq D_Standing.fe bStanding___eq__ pass0) (pv 8) (pe_ix ix_list (pv 1) pe_int (fun _ _ => rfl)) (nomark _)) (pe_one (pe_cmpR (op_eqD hr.units) (pe_fld (pv 8) rfl) (pe_callTy (T := "tuple") call_tuple_of (by rfl) T.b_tuple (by decide +kernel) (pa_cons (pe_ix ix_tup (pe_ix ix_list (pv 0) pe_int (fun _ _ => rfl)) pe_int (fun _ _ => rfl)) pa_nil)) (nomark _)))))))))))), ?_⟩
    have no := fun f (h : f ∈ (["levels", "tank", "mood"] : List Str)) => D_Standing.no f h
    refine ⟨_, rfl, R, rfl, ⟨_, SqL.of eR⟩, fun D hD => ?_⟩
    refine lc_it walk_list (fun i H1 => ∃ qs : List Addr, H1 D = some (.lst (qs.map V.ref)) ∧ qs.length = i ∧ Twins C_Standing H1 ps qs ∧ Same H H1) ⟨[], upd_same, rfl, fun i p q _ h => by simp at h, Same.new hD⟩ (fun i H1 _ ⟨_, _, _, _, s⟩ => SqL.of (s _ _ eR)) ?_ ?_
    · rintro i x H1o H1 hi ⟨qs, g1, hq, tw, s1⟩ ⟨rfl, hx⟩
      obtain ⟨p, hp, rfl⟩ := ref_at hx
      obtain ⟨ls, t, m, hr3, hv⟩ := hrs p (List.mem_of_getElem? hp)
      obtain ⟨l, e1, e2⟩ := hr3.same s1
      refine ⟨rfl, ?_⟩
      refine ⟨_, rfl, p, _, _, _, rfl, rfl, SqT.of e1, rfl, _, rfl, p, _, _, _, rfl, rfl, SqT.of e1, rfl, _, rfl, p, _, _, _, rfl, rfl, SqT.of e1, rfl, fun y dy ny nd _ => stand_make hv (.inl (SqL.of e2)) ny nd fun H5 s5 st => ?_⟩
      have hi10 : i < 10 := by have : i < ps.length := by simpa using hi
                               omega
      have sD : ∀ {o : HO}, Same H (upd H5 D o) := fun {o} b o' e => by rw [upd_ne (ne_of_none e hD)]; exact s5 _ _ (s1 _ _ e)
      refine ⟨_, s5 _ _ g1, small1000 (by rw [List.length_map, hq]; omega), qs ++ [y], by rw [upd_same, List.map_append]; rfl, by rw [List.length_append, hq]; rfl, fun j p' q' h1 h2 => ?_, sD⟩
      -- the heap with the longer list
      have stay : ∀ {b : Addr} {o o2 : HO}, H5 b = some o → (∀ xs, o ≠ .lst (xs)) → (upd H5 D o2) b = some o := fun {b o o2} e n => by
        rw [upd_ne (fun z => by rw [z, s5 _ _ g1] at e; cases e; exact n _ rfl)]
        exact e
      have row : ∀ {p : Addr} {ls : List Int} {t m : Int} {o2 : HO}, Row3 H p → RowAt H1 p ls t m → RowAt (upd H5 D o2) p ls t m := fun {p ls t m o2} h0 h => by
        obtain ⟨l1, a1, a2⟩ := h
        obtain ⟨ls', t', m', ⟨l2, b1, b2⟩, _⟩ := h0
        have ee := s1 _ _ b1
        rw [a1] at ee
        cases ee
        exact ⟨l1, sD _ _ b1, by rw [upd_ne (ne_of_none b2 hD)]; exact s5 _ _ a2⟩
      have stn : ∀ {q : Addr} {ls : List Int} {t m : Int} {o2 : HO}, StandAt C_Standing H5 q ls t m → StandAt C_Standing (upd H5 D o2) q ls t m := fun h => by
        obtain ⟨dx, q2, a1, a2⟩ := h
        exact ⟨dx, q2, stay a1 (fun xs => by intro z; cases z), stay a2 (fun xs => by intro z; cases z)⟩
      by_cases hj : j < i
      · rw [List.getElem?_append_left (by omega)] at h2
        obtain ⟨ls', t', m', a, b, c⟩ := tw j p' q' h1 h2
        exact ⟨ls', t', m', row (hrs p' (List.mem_of_getElem? h1)) a, b, stn (c.same s5)⟩
      · rw [List.getElem?_append_right (by omega)] at h2
        have ej : j - qs.length = 0 := by
          cases q : j - qs.length with
          | zero => rfl
          | succ n => rw [q] at h2; simp at h2
        have ej2 : j = i := by omega
        rw [ej] at h2
        have e3 : y = q' := Option.some.inj h2
        subst e3 ej2
        rw [hp] at h1
        cases h1
        exact ⟨ls, t, m, row (hrs p (List.mem_of_getElem? hp)) ⟨l, e1, e2⟩, hv, stn st⟩
    rintro H1 ⟨qs, g1, hq, tw, s1⟩
    have hq : qs.length = ps.length := by rw [hq, List.length_map]
    refine ⟨_, rfl, R, _, rfl, SqL.of (s1 _ _ eR), ?_⟩
    refine for_it walk_enum (fun i σ H2 => ∃ w2 w3 w4 w5 w6 w7 w8 w9 : Option V, σ = [some (.ref R), some (.ref D), w2, w3, w4, w5, w6, w7, w8, w9] ∧ Same H1 H2) ⟨_, _, _, _, _, _, _, _, rfl, Same.refl _⟩ (fun i σ H2 _ ⟨_, _, _, _, _, _, _, _, _, s⟩ => SqL.of (s _ _ (s1 _ _ eR))) ?_ ?_
    · rintro i x σ H2o H2 hi ⟨w2, w3, w4, w5, w6, w7, w8, w9, rfl, s2⟩ ⟨T, x, y, rfl, hT, rfl, hx, hy⟩
      obtain rfl : x = V.int (i : Nat) := (Option.some.inj hx).symm
      obtain ⟨p, hp, rfl⟩ := ref_at hy
      have hi1 : i < ps.length := by simpa using hi
      have hqi : qs[i]? = some qs[i] := List.getElem?_eq_getElem (by omega)
      generalize qs[i] = q at hqi
      have s3 : Same H1 (upd H2o T (.tup [V.int (i : Nat), V.ref p])) := s2.trans (Same.new hT)
      obtain ⟨ls, t, m, hrow, hv, hst⟩ := (tw.same s3) i p q hp hqi
      obtain ⟨l, e1, e2⟩ := id hrow
      obtain ⟨dx, qq, f1, f2⟩ := id hst
      refine ⟨T, _, rfl, SqT.of upd_same, rfl, _, _, rfl, _, _, rfl, rfl, ?_⟩
      refine ⟨_, rfl, _, rfl, D, _, _, _, rfl, rfl, SqL.of (s3 _ _ g1), atI_nat (by rw [List.getElem?_map, hqi]; rfl), ?_⟩
      refine ⟨_, rfl, q, C_Standing, dx, _, _, rfl, f1, D_Standing.cls, no _ (by decide), rfl, _, rfl, p, _, _, _, rfl, rfl, SqT.of e1, rfl, l, _, rfl, .inl ⟨SqL.of e2, fun z hz => ?_⟩⟩
      have s4 : Same (upd H2o T (.tup [V.int (i : Nat), V.ref p])) (upd (upd H2o T (.tup [V.int (i : Nat), V.ref p])) z (.tup (ls.map V.int))) := Same.new hz
      have f1' := s4 _ _ f1
      have e1' := s4 _ _ e1
      refine ⟨_, _, dp_intsT (SqT.of (s4 _ _ f2)), dp_intsT (SqT.of upd_same), shaped_intsT _, shaped_intsT _, _, rfl, ?_⟩
      rw [eqv_intsT, decide_eq_true rfl]
      refine ite2 (fun y => absurd y (by simp)) (fun _ => ?_)
      refine ⟨_, rfl, q, C_Standing, dx, _, _, rfl, f1', D_Standing.cls, no _ (by decide), rfl, _, rfl, p, _, _, _, rfl, rfl, SqT.of e1', rfl, rfl, _, rfl, ite2 (fun y => absurd y ne_self) (fun _ => ?_)⟩
      refine ⟨_, rfl, q, C_Standing, dx, _, _, rfl, f1', D_Standing.cls, no _ (by decide), rfl, _, rfl, p, _, _, _, rfl, rfl, SqT.of e1', rfl, rfl, _, rfl, ite2 (fun y => absurd y ne_self) (fun _ => ?_)⟩
      refine ⟨_, rfl, q, dx, _, rfl, f1', q, ls, t, m, rfl, hst.same s4, hv, fun H5 s5 => ⟨_, rfl, _, rfl, p, ls, t, m, rfl, (hrow.same s4).same s5, hv, rfl, _, rfl, ite2 (fun y => absurd y ne_self) (fun _ => ?_)⟩⟩
      have s6 := (s3.trans s4).trans s5
      refine ⟨_, rfl, R, _, rfl, SqL.of (s6 _ _ (s1 _ _ eR)), ?_⟩
      refine for_it walk_enum (fun k σ H6 => ∃ w5 w6 : Option V, σ = [some (.ref R), some (.ref D), some (.int (i : Nat)), some (.ref p), some (.ref q), w5, w6, w7, w8, w9] ∧ Same H1 H6) ⟨_, _, rfl, s6⟩ (fun k σ H6 _ ⟨_, _, _, s⟩ => SqL.of (s _ _ (s1 _ _ eR))) ?_ ?_
      · rintro k' x σ H6o H6 hk ⟨w5, w6, rfl, s7⟩ ⟨T2, x, y, rfl, hT2, rfl, hx2, hy2⟩
        obtain rfl : x = V.int (k' : Nat) := (Option.some.inj hx2).symm
        obtain ⟨p2, hp2, rfl⟩ := ref_at hy2
        have hk1 : k' < ps.length := by simpa using hk
        have hqk : qs[k']? = some qs[k'] := List.getElem?_eq_getElem (by omega)
        generalize qs[k'] = q2 at hqk
        have s8 : Same H1 (upd H6o T2 (.tup [V.int (k' : Nat), V.ref p2])) := s7.trans (Same.new hT2)
        obtain ⟨ls1, t1, m1, hrow1, hv1, hst1⟩ := (tw.same s8) i p q hp hqi
        obtain ⟨ls2, t2, m2, hrow2, hv2, hst2⟩ := (tw.same s8) k' p2 q2 hp2 hqk
        obtain ⟨da, qa, a1, a2⟩ := id hst1
        obtain ⟨db, qb, b1, b2⟩ := id hst2
        refine ⟨T2, _, rfl, SqT.of upd_same, rfl, _, _, rfl, _, _, rfl, rfl, ?_⟩
        refine ⟨_, rfl, _, rfl, _, rfl, D, _, _, _, rfl, rfl, SqL.of (s8 _ _ g1), atI_nat (by rw [List.getElem?_map, hqk]; rfl), q, da, _, q2, db, _, rfl, rfl, a1, b1, q, q2, ls1, ls2, t1, m1, t2, m2, rfl, hst1, hst2, by have := hv1.2.1; omega, fun H7 s9 => ⟨_, rfl, ?_⟩⟩
        refine ⟨_, rfl, _, rfl, p, p2, ls1, ls2, t1, m1, t2, m2, rfl, hrow1.same s9, hrow2.same s9, by have := hv1.2.1; omega, fun H8 s10 => ⟨rfl, _, rfl, ite2 (fun y => absurd y ne_self) (fun _ => ?_)⟩⟩
        have s11 := s9.trans s10
        have sA := s8.trans s11
        refine ⟨_, rfl, _, rfl, _, rfl, D, _, _, _, rfl, rfl, SqL.of (sA _ _ g1), atI_nat (by rw [List.getElem?_map, hqk]; rfl), q, da, _, q2, db, _, rfl, rfl, s11 _ _ a1, s11 _ _ b1, q, q2, ls1, ls2, t1, m1, t2, m2, rfl, hst1.same s11, hst2.same s11, _, rfl, ?_⟩
        refine ⟨_, rfl, _, rfl, _, _, (hrow1.same s11).dp, (hrow2.same s11).dp, rowD_shaped _ _ _, rowD_shaped _ _ _, ?_⟩
        rw [rowD_eqv]
        refine ⟨rfl, _, rfl, ite2 (fun y => absurd y ne_self) (fun _ => ?_)⟩
        refine ⟨_, rfl, _, rfl, _, rfl, D, _, _, _, rfl, rfl, SqL.of (sA _ _ g1), atI_nat (by rw [List.getElem?_map, hqk]; rfl), q, da, _, q2, db, _, rfl, rfl, s11 _ _ a1, s11 _ _ b1, q, q2, ls1, ls2, t1, m1, t2, m2, rfl, hst1.same s11, hst2.same s11, _, rfl, ?_⟩
        refine ⟨_, rfl, _, rfl, _, _, (hrow1.same s11).dp, (hrow2.same s11).dp, rowD_shaped _ _ _, rowD_shaped _ _ _, ?_⟩
        rw [rowD_eqv]
        refine ⟨rfl, _, rfl, ite2 (fun y => absurd y ne_self) (fun _ => ?_)⟩
        exact ⟨_, _, rfl, sA⟩
      rintro σ H6 ⟨w5, w6, rfl, s7⟩
      exact ⟨_, _, _, _, _, _, _, _, rfl, s7⟩
    rintro σ H2 ⟨w2, w3, w4, w5, w6, w7, w8, w9, rfl, s2⟩
    obtain ⟨p0, ps', rfl⟩ : ∃ p0 ps', ps = p0 :: ps' := by
      cases ps with
      | nil => exact absurd rfl pn
      | cons p0 ps' => exact ⟨p0, ps', rfl⟩
    obtain ⟨q0, qs', rfl⟩ : ∃ q0 qs', qs = q0 :: qs' := by
      cases qs with
      | nil => simp at hq
      | cons q0 qs' => exact ⟨q0, qs', rfl⟩
    obtain ⟨ls, t, m, hrow, hv, hst⟩ := (tw.same s2) 0 p0 q0 rfl rfl
    obtain ⟨l, e1, e2⟩ := id hrow
    have eR2 := s2 _ _ (s1 _ _ eR)
    refine ⟨_, rfl, R, _, _, _, rfl, rfl, SqL.of eR2, at0 rfl, p0, _, _, _, rfl, rfl, SqT.of e1, rfl, l, _, rfl, .inl (SqL.of e2), fun L hL => ?_⟩
    have s3 : Same H2 (upd H2 L (.lst (ls.map V.int))) := Same.new hL
    have eR3 := s3 _ _ eR2
    have e13 := s3 _ _ e1
    refine ⟨_, rfl, _, rfl, R, _, _, _, rfl, rfl, SqL.of eR3, at0 rfl, p0, _, _, _, rfl, rfl, SqT.of e13, rfl, _, rfl, R, _, _, _, rfl, rfl, SqL.of eR3, at0 rfl, p0, _, _, _, rfl, rfl, SqT.of e13, rfl, fun y dy ny nd _ => stand_make hv (.inl (SqL.of upd_same)) ny nd fun H5 s5 st => ?_⟩
    have eL := s5 _ _ upd_same
    obtain ⟨v1, _⟩ := id hv
    refine ⟨_, rfl, L, _, _, 0, rfl, rfl, eL, by unfold ixN; rw [if_pos (by decide), if_pos (by rw [List.length_map]; omega)]; rfl, ?_⟩
    refine ⟨_, rfl, .inl ⟨rfl, _, SqL.of upd_same⟩, L, _, _, rfl, rfl, upd_same, small1000 (by rw [List.length_set, List.length_map]; have := hv.2.1; omega), ?_⟩
    rw [upd_upd]
    generalize hO : (HO.lst ((ls.map V.int).set 0 (V.int 99) ++ [V.int 1])) = oL
    have s4 : ∀ {b : Addr} {o : HO}, H2 b = some o → (upd H5 L oL) b = some o := fun {b o} e => by rw [upd_ne (ne_of_none e hL)]; exact s5 _ _ (s3 _ _ e)
    have stn : StandAt C_Standing (upd H5 L oL) y ls t m := by
      obtain ⟨dz, qz, a1, a2⟩ := st
      refine ⟨dz, qz, ?_, ?_⟩
      · rw [upd_ne (fun z => by rw [z, eL] at a1; cases a1)]
        exact a1
      · rw [upd_ne (fun z => by rw [z, eL] at a2; cases a2)]
        exact a2
    have st0 : StandAt C_Standing (upd H5 L oL) q0 ls t m := by
      obtain ⟨dz, qz, a1, a2⟩ := hst
      exact ⟨dz, qz, s4 a1, s4 a2⟩
    obtain ⟨da, qa, a1, a2⟩ := id stn
    obtain ⟨db, qb, b1, b2⟩ := id st0
    refine ⟨_, rfl, _, rfl, D, _, _, _, rfl, rfl, SqL.of (s4 (s2 _ _ g1)), at0 rfl, y, da, _, q0, db, _, rfl, rfl, a1, b1, y, q0, ls, ls, t, m, t, m, rfl, stn, st0, _, rfl, _, rfl, ?_⟩
    rw [eqS_self]
    refine ite2 (fun _ => ?_) (fun y => absurd rfl y)
    refine ⟨_, rfl, y, C_Standing, da, _, _, rfl, a1, D_Standing.cls, no _ (by decide), rfl, _, rfl, R, _, _, _, rfl, rfl, SqL.of (s4 eR2), at0 rfl, p0, _, _, _, rfl, rfl, SqT.of (s4 e1), rfl, l, _, rfl, .inl ⟨SqL.of (s4 e2), fun z hz => ?_⟩⟩
    refine ⟨_, _, dp_intsT (SqT.of (by rw [upd_ne (ne_of_none a2 hz)]; exact a2)), dp_intsT (SqT.of upd_same), shaped_intsT _, shaped_intsT _, ?_⟩
    rw [eqv_intsT, decide_eq_true rfl]
    refine k _ (fun b o e => ?_)
    have e5 := s4 (s2 _ _ (s1 _ _ e))
    rw [upd_ne (ne_of_none e5 hz)]
    exact e5
end
end Wb

namespace Wb
open PySem PySem.Spec PyProof.Rows L2 Wx NdefX RZ StX PyProof.Rows.FinIter
section
variable {P : Program} {w : World} {K : PySem.W.Frag} {mg : Str → Option Value} {base : Heap}

theorem cutV_pre (xs : List V) (k : Nat) : cutV xs none (some (k : Int)) = xs.take k := by
  unfold cutV
  rw [HT.sIx_nat, HT.sIx_none, List.drop_zero, Nat.sub_zero]
  by_cases h : k ≤ xs.length
  · rw [Nat.min_eq_left h]
  · rw [List.take_of_length_le (by omega), List.take_of_length_le (by omega)]
theorem cutV_suf (xs : List V) (k : Nat) : cutV xs (some (k : Int)) none = xs.drop k := by
  unfold cutV
  rw [HT.sIx_nat, HT.sIx_none]
  by_cases h : k ≤ xs.length
  · rw [Nat.min_eq_left h, List.take_of_length_le (by rw [List.length_drop]; exact Nat.le_refl _)]
  · rw [List.drop_of_length_le (by omega), List.drop_of_length_le (by omega), List.take_nil]
theorem len14 {xs : List V} (h1 : 1 ≤ xs.length) (h2 : xs.length ≤ 4) : numB (.int xs.length) 1 4 = true := decide_eq_true (by omega)
theorem ref_level {xs : List V} {t m x : V} (h1 : 1 ≤ xs.length) (h2 : xs.length ≤ 4) (h : xs.find? bad8 = some x) : standRef xs t m = some (("level" : Str), x) := by
  unfold standRef
  rw [if_pos (len14 h1 h2), h]
theorem ref_tank {xs : List V} {t m : V} (h1 : 1 ≤ xs.length) (h2 : xs.length ≤ 4) (h : xs.find? bad8 = none) (ht : numB t 0 8 = false) : standRef xs t m = some (("tank" : Str), t) := by
  unfold standRef
  rw [if_pos (len14 h1 h2), h]
  show (if numB t 0 8 = true then _ else _) = _
  rw [if_neg (by rw [ht]; exact Bool.false_ne_true)]
theorem ref_mood {xs : List V} {t m : V} (h1 : 1 ≤ xs.length) (h2 : xs.length ≤ 4) (h : xs.find? bad8 = none) (ht : numB t 0 8 = true) (hm : numB m 0 3 = false) : standRef xs t m = some (("mood" : Str), m) := by
  unfold standRef
  rw [if_pos (len14 h1 h2), h]
  show (if numB t 0 8 = true then _ else _) = _
  rw [if_pos ht, if_neg (by rw [hm]; exact Bool.false_ne_true)]
theorem ref_plots {xs : List V} {t m : V} (h : numB (.int xs.length) 1 4 = false) : standRef xs t m = some (("plots" : Str), .int xs.length) := by
  unfold standRef
  rw [if_neg (by rw [h]; exact Bool.false_ne_true)]
theorem find_mid {A B : List V} {x : V} (h : A.find? bad8 = none) (hx : bad8 x = true) : (A ++ [x] ++ B).find? bad8 = some x := by
  rw [List.find?_append, List.find?_append, h, List.find?_cons, hx]
  rfl
def sp_law_refusals_hold (K : PySem.W.Frag) : Sp := fun vs H Q _ => ∃ (a s p : Addr) (ls : List Int) (t m many : Int), vs = [.ref a, .ref s, .ref p, .int many] ∧ Scr K H a s ∧ RowF s H p ls t m ∧ VStand ls t m ∧ (ls.length : Int) = many ∧ ∀ H', Q (.bl true) H'

theorem ok_law_refusals_hold {f : Addr} {fd : FuncData} (F : Fun K "_law_refusals_hold" "_law_refusals_hold" s_law_refusals_hold f fd) (T : Txt K mg) (C_law_draw : Cal P w K mg base "_law_draw" P_law_draw 1 (sp_law_draw K)) (C_law_refusal : Cal P w K mg base "_law_refusal" P_law_refusal 8 (sp_law_refusalS K)) : FnOk P w K mg base CX0 9 f fd P_law_refusals_hold (sp_law_refusals_hold K) := by
  obtain ⟨g_law_draw, gd_law_draw, G_law_draw, m_law_draw, k_law_draw, b_law_draw⟩ := C_law_draw.ex
  obtain ⟨g_law_refusal, gd_law_refusal, G_law_refusal, m_law_refusal, k_law_refusal, b_law_refusal⟩ := C_law_refusal.ex
  refine F.ok sc_law_refusals_hold (fun vs H Q E h => ?_) (fun cdv A outer s H vs Q E hr h => ?_)
  · obtain ⟨a, s0, p, ls, t, m, many, rfl, hS, hrow, hv, hmany, k⟩ := h
    rfl
  · obtain ⟨a, s0, p, ls, t, m, many, rfl, hS, hrow, hv, hmany, k⟩ := h
    refine ⟨_, (pss_cons (ps_set (i := 4) sc_law_refusals_hold.nd rfl (by first | exact Or.inl rfl | exact Or.inr rfl) (pe_call G_law_draw (hr.mono (by decide)) (by rfl) m_law_draw k_law_draw b_law_draw .nil pass0 (pa_cons (pv 0) (pa_cons (pv 1) (pa_cons (pv 3) pa_nil)))))
  (pss_cons (ps_set (i := 5) sc_law_refusals_hold.nd rfl (by first | exact Or.inl rfl | exact Or.inr rfl) (pe_ix ix_list (pe_lst (pa_cons (pe_un un_neg pe_int) (pa_cons pe_int (pa_cons (pe_op op_pow pe_int pe_int) (pa_cons pe_bl (pa_cons pe_non pa_nil)))))) (pe_call G_law_draw (hr.mono (by decide)) (by rfl) m_law_draw k_law_draw b_law_draw .nil pass0 (pa_cons (pv 0) (pa_cons (pv 1) (pa_cons pe_int pa_nil)))) (fun _ _ => rfl)))
  (pss_cons (ps_set (i := 6) sc_law_refusals_hold.nd rfl (by first | exact Or.inl rfl | exact Or.inr rfl) (pe_op op_cat (pe_op op_cat (pe_slice sl_list (pe_ix ix_tup (pv 2) pe_int (fun _ _ => rfl)) po_none (po_some (pv 4))) (pe_lst (pa_cons (pv 5) pa_nil))) (pe_slice sl_list (pe_ix ix_tup (pv 2) pe_int (fun _ _ => rfl)) (po_some (pe_op op_add (pv 4) pe_int)) po_none)))
  (pss_cons (ps_if (pt_cmpR (op_neD hr.units) (pe_call G_law_refusal (hr.mono (by decide)) (by rfl) m_law_refusal k_law_refusal b_law_refusal .nil pass0 (pa_cons (pv 6) (pa_cons pe_int (pa_cons pe_int pa_nil)))) (pe_tup (pa_cons pe_str (pa_cons (pv 5) pa_nil))) (nomark _))
  (pss_one (ps_ret pe_bl))
  pss_nil)
  (pss_cons (ps_if (pt_cmpR (op_neD hr.units) (pe_call G_law_refusal (hr.mono (by decide)) (by rfl) m_law_refusal k_law_refusal b_law_refusal .nil pass0 (pa_cons (pe_ix ix_tup (pv 2) pe_int (fun _ _ => rfl)) (pa_cons (pv 5) (pa_cons pe_int pa_nil)))) (pe_tup (pa_cons pe_str (pa_cons (pv 5) pa_nil))) (nomark _))
  (pss_one (ps_ret pe_bl))
  pss_nil)
  (pss_cons (ps_if (PW.pt (pw_or (pt_cmpR (op_neD hr.units) (pe_call G_law_refusal (hr.mono (by decide)) (by rfl) m_law_refusal k_law_refusal b_law_refusal .nil pass0 (pa_cons (pe_lst pa_nil) (pa_cons pe_int (pa_cons pe_int pa_nil)))) (pe_tup (pa_cons pe_str (pa_cons pe_int pa_nil))) (nomark _)) (pw_or1 (pt_cmpR (op_neD hr.units) (pe_call G_law_refusal (hr.mono (by decide)) (by rfl) m_law_refusal k_law_refusal b_law_refusal .nil pass0 (pa_cons (pe_op op_rep (pe_lst (pa_cons pe_int pa_nil)) pe_int) (pa_cons pe_int (pa_cons pe_int pa_nil)))) (pe_tup (pa_cons pe_str (pa_cons pe_int pa_nil))) (nomark _)))))
  (pss_one (ps_ret pe_bl))
  pss_nil)
  (pss_cons (ps_if (pt_cmpR (op_neD hr.units) (pe_call G_law_refusal (hr.mono (by decide)) (by rfl) m_law_refusal k_law_refusal b_law_refusal .nil pass0 (pa_cons (pe_ix ix_tup (pv 2) pe_int (fun _ _ => rfl)) (pa_cons (pe_ix ix_tup (pv 2) pe_int (fun _ _ => rfl)) (pa_cons pe_int pa_nil)))) (pe_tup (pa_cons pe_str (pa_cons pe_int pa_nil))) (nomark _))
  (pss_one (ps_ret pe_bl))
  pss_nil)
  (pss_one (ps_ret (pe_cmpR (op_eqD hr.units) (pe_call G_law_refusal (hr.mono (by decide)) (by rfl) m_law_refusal k_law_refusal b_law_refusal .nil pass0 (pa_cons (pe_ix ix_tup (pv 2) pe_int (fun _ _ => rfl)) (pa_cons (pe_ix ix_tup (pv 2) pe_int (fun _ _ => rfl)) (pa_cons (pe_un un_neg pe_int) pa_nil)))) (pe_tup (pa_cons pe_str (pa_cons (pe_un un_neg pe_int) pa_nil))) (nomark _))))))))))), ?_⟩
    obtain ⟨l0, e1, e2, n1, n2⟩ := id hrow
    obtain ⟨v1, v2, v3, v4, v5, v6, v7⟩ := id hv
    refine ⟨_, rfl, _, rfl, _, rfl, a, s0, many, rfl, hS, by omega, by omega, fun at_ H1 a0 a1 f1 sc1 => ?_⟩
    obtain ⟨an, rfl⟩ : ∃ an : Nat, at_ = (an : Int) := ⟨at_.toNat, by omega⟩
    refine ⟨_, rfl, _, _, rfl, rfl, ⟨by decide, by decide, by decide⟩, bigN (by show 5 ≤ _; decide), fun l hl => ?_⟩
    refine ⟨_, rfl, _, rfl, a, s0, 5, rfl, sc1.same (Same.new hl), by decide, by decide, fun wi H2 w0 w1 f2 sc2 => ?_⟩
    have nls : ¬ l ∈ [s0] := fun y => sc1.ne hl (by simpa using y)
    have el := f2 l _ nls upd_same
    obtain ⟨W, wo, wn, wns, hw⟩ : ∃ W, OddV W ∧ numB W 0 8 = false ∧ (∀ z, W = .str z → PyData.strOk z = true) ∧ atI [V.int (-1), V.int 9, V.int (10 ^ Int.toNat 20), V.bl true, V.non] wi = some W := by
      have : wi = 0 ∨ wi = 1 ∨ wi = 2 ∨ wi = 3 ∨ wi = 4 := by omega
      have big : (8 : Int) < 10 ^ Int.toNat 20 := by decide
      rcases this with rfl | rfl | rfl | rfl | rfl
      · exact ⟨_, .int _, decide_eq_false (by omega), nofun, rfl⟩
      · exact ⟨_, .int _, decide_eq_false (by omega), nofun, rfl⟩
      · exact ⟨_, .int _, decide_eq_false (by omega), nofun, rfl⟩
      · exact ⟨_, .bl _, rfl, nofun, rfl⟩
      · exact ⟨_, .non, rfl, nofun, rfl⟩
    refine ⟨l, _, _, _, rfl, rfl, SqL.of el, hw, ?_⟩
    have row2 : RowF s0 H2 p ls t m := ((hrow.frm f1).same (Same.new hl)).frm f2
    obtain ⟨l2, g1, g2, _⟩ := id row2
    -- bad
    refine ⟨_, rfl, p, _, _, _, rfl, rfl, SqT.of g1, rfl, _, rfl, _, rfl, l2, _, rfl, SqL.of g2, fun x hx => ?_⟩
    have sx : Same H2 (upd H2 x (.lst (cutV (ls.map V.int) none (some (an : Int))))) := Same.new hx
    refine ⟨_, rfl, bigN (by show 1 ≤ _; decide), fun y hy => ?_⟩
    have cl := cutV_length (ls.map V.int)
    have lm : (ls.map V.int).length ≤ 4 := by rw [List.length_map]; exact v2
    refine ⟨x, y, _, _, rfl, rfl, by rw [upd_ne (ne_of_none upd_same hy)]; exact upd_same, upd_same, bigN (by have := cl none (some (an : Int)); show _ + 1 ≤ _; omega), fun z hz => ?_⟩
    have sz : Same H2 (upd (upd (upd H2 x (.lst (cutV (ls.map V.int) none (some (an : Int))))) y (.lst [W])) z (.lst (cutV (ls.map V.int) none (some (an : Int)) ++ [W]))) := (sx.trans (Same.new hy)).trans (Same.new hz)
    refine ⟨_, rfl, p, _, _, _, rfl, rfl, SqT.of (sz _ _ g1), rfl, _, rfl, _, _, rfl, rfl, _, rfl, l2, _, rfl, SqL.of (sz _ _ g2), fun x2 hx2 => ?_⟩
    refine ⟨z, x2, _, _, rfl, rfl, by rw [upd_ne (ne_of_none upd_same hx2)]; exact upd_same, upd_same, bigN (by have := cl none (some (an : Int)); have := cl (some ((an : Int) + 1)) none; rw [List.length_append]; show _ + 1 + _ ≤ _; omega), fun B hB => ?_⟩
    have ecut : cutV (ls.map V.int) none (some (an : Int)) ++ [W] ++ cutV (ls.map V.int) (some ((an : Int) + 1)) none = (ls.map V.int).take an ++ [W] ++ (ls.map V.int).drop (an + 1) := by
      rw [cutV_pre, show ((an : Int) + 1) = ((an + 1 : Nat) : Int) by omega, cutV_suf]
    rw [ecut]
    generalize hX : (ls.map V.int).take an ++ [W] ++ (ls.map V.int).drop (an + 1) = bad
    have hbl : bad.length = ls.length := by
      rw [← hX]
      simp only [List.length_append, List.length_take, List.length_drop, List.length_map, List.length_cons, List.length_nil]
      omega
    have hbo : ∀ x, x ∈ bad → OddV x := fun x hx => by
      rw [← hX] at hx
      simp only [List.mem_append, List.mem_cons, List.not_mem_nil, or_false] at hx
      rcases hx with (q | rfl) | q
      · exact odd_ints x (List.mem_of_mem_take q)
      · exact wo
      · exact odd_ints x (List.mem_of_mem_drop q)
    have hbf : bad.find? bad8 = some W := by
      rw [← hX]
      refine find_mid (find_none fun y hy => ?_) (by show (!numB W 0 8) = true; rw [wn]; rfl)
      obtain ⟨i, hi, rfl⟩ := List.mem_map.mp (List.mem_of_mem_take hy)
      show (!decide (0 ≤ i ∧ i ≤ 8)) = false
      rw [decide_eq_true (v3 i hi)]
      rfl
    have sB : Same H2 (upd (upd (upd (upd (upd H2 x (.lst (cutV (ls.map V.int) none (some (an : Int))))) y (.lst [W])) z (.lst (cutV (ls.map V.int) none (some (an : Int)) ++ [W]))) x2 (.lst (cutV (ls.map V.int) (some ((an : Int) + 1)) none))) B (.lst bad)) := (sz.trans (Same.new hx2)).trans (Same.new hB)
    have fi := find_ints v3
    have li1 : 1 ≤ (ls.map V.int).length := by rw [List.length_map]; exact v1
    have ln : (ls.map V.int).length ≤ 1000 := by omega
    refine ⟨_, rfl, B, bad, .int 9, .int 4, rfl, .inl (SqL.of upd_same), by omega, hbo, .int _, .int _, fun tag v he q1 G1 nq1 eq1 sq1 => ?_⟩
    have hsr := ref_level (t := .int 9) (m := .int 4) (by omega) (by omega) hbf
    rw [hsr] at he
    cases (show ((("level" : Str), (W : V)) : Str × V) = (tag, v) from he)
    refine ⟨_, rfl, two_le, fun r1 hr1 => ?_⟩
    obtain ⟨d, e, D1, D2, S1, S2, E⟩ := pair_eq (K := K) (H := upd G1 r1 (.tup [.str "level", W])) (q := q1) (r := r1) (t := "level") (v := W) (by decide +kernel) wo wns (by rw [upd_ne (ne_of_none eq1 hr1)]; exact eq1) upd_same
    refine ⟨d, e, D1, D2, S1, S2, _, rfl, ite2 (fun y => absurd y (by rw [E]; decide)) (fun _ => ?_)⟩
    have sG1 := (sB.trans sq1).trans (Same.new (o := .tup [.str "level", W]) hr1)
    have g11 := sG1 _ _ g1
    have g12 := sG1 _ _ g2
    refine ⟨_, rfl, p, _, _, _, rfl, rfl, SqT.of g11, rfl, _, rfl, l2, ls.map V.int, W, .int 4, rfl, .inl (SqL.of g12), ln, odd_ints, wo, .int _, fun tag v he q1 G2 nq1 eq1 sq1 => ?_⟩
    have hsr := ref_tank (t := W) (m := .int 4) li1 lm fi wn
    rw [hsr] at he
    cases (show ((("tank" : Str), (W : V)) : Str × V) = (tag, v) from he)
    refine ⟨_, rfl, two_le, fun r1 hr1 => ?_⟩
    obtain ⟨d, e, D1, D2, S1, S2, E⟩ := pair_eq (K := K) (H := upd G2 r1 (.tup [.str "tank", W])) (q := q1) (r := r1) (t := "tank") (v := W) (by decide +kernel) wo wns (by rw [upd_ne (ne_of_none eq1 hr1)]; exact eq1) upd_same
    refine ⟨d, e, D1, D2, S1, S2, _, rfl, ite2 (fun y => absurd y (by rw [E]; decide)) (fun _ => ?_)⟩
    have sG2 := (sG1.trans sq1).trans (Same.new (o := .tup [.str "tank", W]) hr1)
    refine ⟨bigN (by show 0 ≤ _; decide), fun z3 hz3 => ⟨z3, [], .int 9, .int 4, rfl, .inl (SqL.of upd_same), by decide, (fun x h => by cases h), .int _, .int _, fun tag v he q1 G3 nq1 eq1 sq1 => ?_⟩⟩
    have hsr := ref_plots (xs := []) (t := .int 9) (m := .int 4) rfl
    rw [hsr] at he
    cases (show ((("plots" : Str), (.int 0 : V)) : Str × V) = (tag, v) from he)
    refine ⟨two_le, fun r1 hr1 => ?_⟩
    obtain ⟨d, e, D1, D2, S1, S2, E⟩ := pair_eq (K := K) (H := upd G3 r1 (.tup [.str "plots", .int 0])) (q := q1) (r := r1) (t := "plots") (v := .int 0) (by decide +kernel) (.int 0) nofun (by rw [upd_ne (ne_of_none eq1 hr1)]; exact eq1) upd_same
    refine ⟨d, e, D1, D2, S1, S2, _, rfl, ite2 (fun y => absurd y (by rw [E]; decide)) (fun _ => ?_)⟩
    have sG3 := ((sG2.trans (Same.new (o := .lst []) hz3)).trans sq1).trans (Same.new (o := .tup [.str "plots", .int 0]) hr1)
    refine ⟨bigN (by show 1 ≤ _; decide), fun z4 hz4 => ⟨z4, 5, _, rfl, rfl, upd_same, by decide, by decide, bigN (by decide), fun y4 hy4 => ⟨y4, [.int 9, .int 9, .int 9, .int 9, .int 9], .int 9, .int 4, rfl, .inl (SqL.of upd_same), by decide, (fun x h => by simp at h; rw [h]; exact .int 9), .int _, .int _, fun tag v he q1 G4 nq1 eq1 sq1 => ?_⟩⟩⟩
    have hsr := ref_plots (xs := [.int 9, .int 9, .int 9, .int 9, .int 9]) (t := .int 9) (m := .int 4) rfl
    rw [hsr] at he
    cases (show ((("plots" : Str), (.int 5 : V)) : Str × V) = (tag, v) from he)
    refine ⟨two_le, fun r1 hr1 => ?_⟩
    obtain ⟨d, e, D1, D2, S1, S2, E⟩ := pair_eq (K := K) (H := upd G4 r1 (.tup [.str "plots", .int 5])) (q := q1) (r := r1) (t := "plots") (v := .int 5) (by decide +kernel) (.int 5) nofun (by rw [upd_ne (ne_of_none eq1 hr1)]; exact eq1) upd_same
    refine ⟨d, e, D1, D2, S1, S2, _, rfl, ite2 (fun y => absurd y (by rw [E]; decide)) (fun _ => ?_)⟩
    have sG4 := (((sG3.trans (Same.new (o := .lst [.int 9]) hz4)).trans (Same.new (o := .lst [.int 9, .int 9, .int 9, .int 9, .int 9]) hy4)).trans sq1).trans (Same.new (o := .tup [.str "plots", .int 5]) hr1)
    have g41 := sG4 _ _ g1
    have g42 := sG4 _ _ g2
    refine ⟨_, rfl, p, _, _, _, rfl, rfl, SqT.of g41, rfl, _, rfl, p, _, _, _, rfl, rfl, SqT.of g41, rfl, l2, ls.map V.int, .int t, .int 4, rfl, .inl (SqL.of g42), ln, odd_ints, .int _, .int _, fun tag v he q1 G5 nq1 eq1 sq1 => ?_⟩
    have hsr := ref_mood (t := .int t) (m := .int 4) li1 lm fi (decide_eq_true ⟨v4, v5⟩) rfl
    rw [hsr] at he
    cases (show ((("mood" : Str), (.int 4 : V)) : Str × V) = (tag, v) from he)
    refine ⟨two_le, fun r1 hr1 => ?_⟩
    obtain ⟨d, e, D1, D2, S1, S2, E⟩ := pair_eq (K := K) (H := upd G5 r1 (.tup [.str "mood", .int 4])) (q := q1) (r := r1) (t := "mood") (v := .int 4) (by decide +kernel) (.int 4) nofun (by rw [upd_ne (ne_of_none eq1 hr1)]; exact eq1) upd_same
    refine ⟨d, e, D1, D2, S1, S2, _, rfl, ite2 (fun y => absurd y (by rw [E]; decide)) (fun _ => ?_)⟩
    have sG5 := (sG4.trans sq1).trans (Same.new (o := .tup [.str "mood", .int 4]) hr1)
    have g51 := sG5 _ _ g1
    have g52 := sG5 _ _ g2
    refine ⟨_, rfl, p, _, _, _, rfl, rfl, SqT.of g51, rfl, _, rfl, p, _, _, _, rfl, rfl, SqT.of g51, rfl, _, rfl, l2, ls.map V.int, .int t, .int (-1), rfl, .inl (SqL.of g52), ln, odd_ints, .int _, .int _, fun tag v he q1 G6 nq1 eq1 sq1 => ?_⟩
    have hsr := ref_mood (t := .int t) (m := .int (-1)) li1 lm fi (decide_eq_true ⟨v4, v5⟩) rfl
    rw [hsr] at he
    cases (show ((("mood" : Str), (.int (-1) : V)) : Str × V) = (tag, v) from he)
    refine ⟨_, rfl, two_le, fun r1 hr1 => ?_⟩
    obtain ⟨d, e, D1, D2, S1, S2, E⟩ := pair_eq (K := K) (H := upd G6 r1 (.tup [.str "mood", .int (-1)])) (q := q1) (r := r1) (t := "mood") (v := .int (-1)) (by decide +kernel) (.int (-1)) nofun (by rw [upd_ne (ne_of_none eq1 hr1)]; exact eq1) upd_same
    refine ⟨d, e, D1, D2, S1, S2, ?_⟩
    rw [E]
    exact k _

theorem oklaw {f : Addr} {fd : FuncData} (F : Fun K "law" "law" slaw f fd) (T : Txt K mg) (C_law_start : Cal P w K mg base "_law_start" P_law_start 1 (sp_law_start K)) (C_law_draw : Cal P w K mg base "_law_draw" P_law_draw 1 (sp_law_draw K)) (C_law_rows : Cal P w K mg base "_law_rows" P_law_rows 2 (sp_law_rows K)) (C_law_pairs_hold : Cal P w K mg base "_law_pairs_hold" P_law_pairs_hold 8 sp_law_pairs_hold) (C_law_refusals_hold : Cal P w K mg base "_law_refusals_hold" P_law_refusals_hold 9 (sp_law_refusals_hold K)) : FnOk P w K mg base CX0 10 f fd Plaw (splaw K) := by
  obtain ⟨g_law_start, gd_law_start, G_law_start, m_law_start, k_law_start, b_law_start⟩ := C_law_start.ex
  obtain ⟨g_law_draw, gd_law_draw, G_law_draw, m_law_draw, k_law_draw, b_law_draw⟩ := C_law_draw.ex
  obtain ⟨g_law_rows, gd_law_rows, G_law_rows, m_law_rows, k_law_rows, b_law_rows⟩ := C_law_rows.ex
  obtain ⟨g_law_pairs_hold, gd_law_pairs_hold, G_law_pairs_hold, m_law_pairs_hold, k_law_pairs_hold, b_law_pairs_hold⟩ := C_law_pairs_hold.ex
  obtain ⟨g_law_refusals_hold, gd_law_refusals_hold, G_law_refusals_hold, m_law_refusals_hold, k_law_refusals_hold, b_law_refusals_hold⟩ := C_law_refusals_hold.ex
  refine F.ok sclaw (fun vs H Q E h => ?_) (fun cdv A outer s H vs Q E hr h => ?_)
  · obtain ⟨a, ns, rfl, hS, hlen, k⟩ := h
    rfl
  · obtain ⟨a, ns, rfl, hS, hlen, k⟩ := h
    refine ⟨_, (pss_cons (ps_set (i := 1) sclaw.nd rfl (by first | exact Or.inl rfl | exact Or.inr rfl) (pe_call G_law_start (hr.mono (by decide)) (by rfl) m_law_start k_law_start b_law_start .nil pass0 (pa_cons (pv 0) pa_nil)))
  (pss_cons (ps_set (i := 2) sclaw.nd rfl (by first | exact Or.inl rfl | exact Or.inr rfl) (pe_op op_add pe_int (pe_call G_law_draw (hr.mono (by decide)) (by rfl) m_law_draw k_law_draw b_law_draw .nil pass0 (pa_cons (pv 0) (pa_cons (pv 1) (pa_cons pe_int pa_nil))))))
  (pss_cons (ps_setLc (i := 3) (own := [("k", 5)]) rfl sclaw.nd rfl rfl (sw_true rfl rfl rfl (by decide +kernel)) (pi_range1 rfl T.b_range (pa_cons (pv 2) pa_nil)) (blkOk_by (own := [("k", 5)]) (N := Nlaw) (sc := defScope slaw) (by decide +kernel)) (fun _ _ _ _ _ => (pg_name (i := 5) sclaw.nd rfl (by first | exact Or.inl rfl | exact Or.inr rfl))) (fun _ _ _ _ _ => pts_nil) (fun _ _ _ _ _ => (pe_call G_law_draw (hr.mono (by decide)) (by rfl) m_law_draw k_law_draw b_law_draw .nil pass0 (pa_cons (pv 0) (pa_cons (pv 1) (pa_cons pe_int pa_nil))))))
  (pss_cons (ps_set (i := 4) sclaw.nd rfl (by first | exact Or.inl rfl | exact Or.inr rfl) (pe_tup (pa_cons (pv 3) (pa_cons (pe_call G_law_draw (hr.mono (by decide)) (by rfl) m_law_draw k_law_draw b_law_draw .nil pass0 (pa_cons (pv 0) (pa_cons (pv 1) (pa_cons pe_int pa_nil)))) (pa_cons (pe_call G_law_draw (hr.mono (by decide)) (by rfl) m_law_draw k_law_draw b_law_draw .nil pass0 (pa_cons (pv 0) (pa_cons (pv 1) (pa_cons pe_int pa_nil)))) pa_nil)))))
  (pss_one (ps_ret (pe_and (pe_call G_law_pairs_hold (hr.mono (by decide)) (by rfl) m_law_pairs_hold k_law_pairs_hold b_law_pairs_hold .nil pass0 (pa_cons (pe_call G_law_rows (hr.mono (by decide)) (by rfl) m_law_rows k_law_rows b_law_rows .nil pass0 (pa_cons (pv 0) (pa_cons (pv 1) (pa_cons (pv 4) (pa_cons (pv 2) pa_nil))))) pa_nil)) (pe_one (pe_call G_law_refusals_hold (hr.mono (by decide)) (by rfl) m_law_refusals_hold k_law_refusals_hold b_law_refusals_hold .nil pass0 (pa_cons (pv 0) (pa_cons (pv 1) (pa_cons (pv 4) (pa_cons (pv 2) pa_nil))))))))))))), ?_⟩
    refine ⟨_, rfl, a, ns, rfl, hS, hlen, fun s0 H1 s1 h0s sc1 => ?_⟩
    refine ⟨_, rfl, _, rfl, a, s0, 4, rfl, sc1, by decide, by decide, fun mn H2 n0 n1 f2 sc2 => ⟨_, _, rfl, rfl, ?_⟩⟩
    refine ⟨_, rfl, _, rfl, by omega, by omega, fun D hD => ?_⟩
    have nDs : ¬ D = s0 := sc2.ne hD
    have nD : ¬ D ∈ [s0] := fun y => nDs (by simpa using y)
    refine lc_it walk_range (fun i H3 => ∃ ks : List Int, H3 D = some (.lst (ks.map V.int)) ∧ ks.length = i ∧ (∀ x, x ∈ ks → 0 ≤ x ∧ x ≤ 8) ∧ Frm [D, s0] H2 H3 ∧ Scr K H3 a s0) ⟨[], upd_same, rfl, (fun x h => by cases h), (Frm.put List.mem_cons_self), sc2.same (Same.new hD)⟩ (fun _ _ _ _ => trivial) ?_ ?_
    · rintro i x H3o H3 hi ⟨ks, g3, hk, hb, f3, sc3⟩ ⟨rfl, rfl⟩
      refine ⟨rfl, ?_⟩
      refine ⟨_, rfl, _, rfl, a, s0, 9, rfl, sc3, by decide, by decide, fun d H4 d0 d1 f4 sc4 => ?_⟩
      have g4 := f4 _ _ nD g3
      have fr := (f3.trans (f4.mono (fun b h => List.mem_cons_of_mem _ h))).put' (o := .lst (ks.map V.int ++ [.int d])) (List.mem_cons_self (a := D) (l := [s0]))
      refine ⟨_, g4, small1000 (by rw [List.length_map, hk]; omega), ks ++ [d], by rw [upd_same, List.map_append]; rfl, by rw [List.length_append, hk]; rfl, fun x hx => ?_, fr, ?_⟩
      · rcases List.mem_append.mp hx with q | q
        · exact hb x q
        · rw [List.mem_singleton.mp q]
          omega
      · obtain ⟨i1, i2, i3, i4, e4⟩ := sc4.2
        exact scr_of sc2 hD fr ⟨i1, i2, i3, i4, by rw [upd_ne (fun q => nDs q.symm)]; exact e4⟩
    rintro H3 ⟨ls, g3, hk, hb, f3, sc3⟩
    refine ⟨_, rfl, _, rfl, _, rfl, a, s0, 9, rfl, sc3, by decide, by decide, fun t H4 t0 t1 f4 sc4 => ⟨_, rfl, _, rfl, a, s0, 4, rfl, sc4, by decide, by decide, fun m H5 m0 m1 f5 sc5 => ⟨bigN (by show 3 ≤ _; decide), fun p hp => ?_⟩⟩⟩
    have g5 := f5 _ _ nD (f4 _ _ nD g3)
    have hv : VStand ls t m := ⟨by omega, by omega, hb, by omega, by omega, by omega, by omega⟩
    have row : RowF s0 (upd H5 p (.tup [.ref D, .int t, .int m])) p ls t m := ⟨D, upd_same, by rw [upd_ne (ne_of_none g5 hp)]; exact g5, sc5.ne hp, nDs⟩
    have sc6 := sc5.same (Same.new (o := .tup [.ref D, .int t, .int m]) hp)
    have hln : (ls.length : Int) = 1 + mn := by rw [hk]; omega
    refine ⟨_, rfl, _, rfl, _, rfl, _, rfl, a, s0, p, ls, t, m, 1 + mn, rfl, sc6, row, hv, hln, fun R H7 ps nR eR pn pl rsF f7 sc7 => ?_⟩
    refine ⟨R, ps, rfl, eR, pn, pl, (fun q hq => by obtain ⟨ls, t, m, h1, h2⟩ := rsF q hq; exact ⟨ls, t, m, h1.row, h2⟩), fun H8 s8 => ⟨_, rfl, ite2 (fun _ => ?_) (fun y => absurd rfl y)⟩⟩
    exact ⟨_, rfl, _, rfl, _, rfl, _, rfl, a, s0, p, ls, t, m, 1 + mn, rfl, sc7.same s8, (row.frm f7).same s8, hv, hln, k⟩
end
end Wb

namespace Wb
open PySem PySem.Spec PyProof.Rows L2 Wx NdefX RZ StX PyProof.Rows.FinIter
section
theorem all_mk {l : PySem.W.OpenLaw} {w : World} {K : PySem.W.Frag} {h : Heap} {mg : Str → Option Value} {fa : Addr}
    {oc0 kV0 dc0 pm0 cd0 ct0 : Value} {od0 an0 : Option Addr} {sl0 : Array (Option Value)} {f0 : Addr}
    {oc1 kV1 dc1 pm1 cd1 ct1 : Value} {od1 an1 : Option Addr} {sl1 : Array (Option Value)} {f1 : Addr}
    {oc2 kV2 dc2 pm2 cd2 ct2 : Value} {od2 an2 : Option Addr} {sl2 : Array (Option Value)} {f2 : Addr}
    {oc3 kV3 dc3 pm3 cd3 ct3 : Value} {od3 an3 : Option Addr} {sl3 : Array (Option Value)} {f3 : Addr}
    {oc4 kV4 dc4 pm4 cd4 ct4 : Value} {od4 an4 : Option Addr} {sl4 : Array (Option Value)} {f4 : Addr}
    {oc5 kV5 dc5 pm5 cd5 ct5 : Value} {od5 an5 : Option Addr} {sl5 : Array (Option Value)} {f5 : Addr}
    {oc6 kV6 dc6 pm6 cd6 ct6 : Value} {od6 an6 : Option Addr} {sl6 : Array (Option Value)} {f6 : Addr}
    {oc7 kV7 dc7 pm7 cd7 ct7 : Value} {od7 an7 : Option Addr} {sl7 : Array (Option Value)} {f7 : Addr}
    {oc8 kV8 dc8 pm8 cd8 ct8 : Value} {od8 an8 : Option Addr} {sl8 : Array (Option Value)} {f8 : Addr}
    {oc9 kV9 dc9 pm9 cd9 ct9 : Value} {od9 an9 : Option Addr} {sl9 : Array (Option Value)} {f9 : Addr}
    {oc10 kV10 dc10 pm10 cd10 ct10 : Value} {od10 an10 : Option Addr} {sl10 : Array (Option Value)} {f10 : Addr}
    {oc11 kV11 dc11 pm11 cd11 ct11 : Value} {od11 an11 : Option Addr} {sl11 : Array (Option Value)} {f11 : Addr}
    {t_MOST_PLOTS : Tok}
    {t_MOST_UNITS : Tok}
    {t_MOST_MOODS : Tok}
    {nm_BadNumber qn_BadNumber fl_BadNumber : Str} {N_BadNumber C_BadNumber f_BadNumber cda_BadNumber cc_BadNumber : Addr} {bs_BadNumber sub_BadNumber bm_BadNumber : List Value} {sn_BadNumber : List Str} {ab_BadNumber : Bool} {col_BadNumber : Option Bool} {dd_BadNumber od_BadNumber an_BadNumber cdd_BadNumber cld_BadNumber : Option Addr} {m0_BadNumber m1_BadNumber m2_BadNumber m3_BadNumber m5_BadNumber : Option Value} {oc_BadNumber kV_BadNumber doc_BadNumber pm_BadNumber ct_BadNumber ccl_BadNumber clv_BadNumber : Value} {osl_BadNumber ccs_BadNumber csl_BadNumber : Array (Option Value)} {vs_BadNumber : Array Value} {tf_BadNumber : Tok}
    {C_Standing : Addr}
    {oc_Standing_init kV_Standing_init dc_Standing_init pm_Standing_init cd_Standing_init ct_Standing_init : Value} {od_Standing_init an_Standing_init : Option Addr} {sl_Standing_init : Array (Option Value)} {f_Standing_init : Addr}
    {oc_Standing_eq kV_Standing_eq dc_Standing_eq pm_Standing_eq cd_Standing_eq ct_Standing_eq : Value} {od_Standing_eq an_Standing_eq : Option Addr} {sl_Standing_eq : Array (Option Value)} {f_Standing_eq : Addr}
    {oc_Standing_le kV_Standing_le dc_Standing_le pm_Standing_le cd_Standing_le ct_Standing_le : Value} {od_Standing_le an_Standing_le : Option Addr} {sl_Standing_le : Array (Option Value)} {f_Standing_le : Addr}
    {oc_Standing_str kV_Standing_str dc_Standing_str pm_Standing_str cd_Standing_str ct_Standing_str : Value} {od_Standing_str an_Standing_str : Option Addr} {sl_Standing_str : Array (Option Value)} {f_Standing_str : Addr}
    (X : K.In h) (G : h.Ns mainGlobals mg) (hfa : mg "law" = some (.ref fa))
    (a0 : PySem.W.nsIn K mainGlobals "_shown" = some (some (.ref f0)))
    (l0 : K.lookup f0 = some ⟨oc0, od0, .func (PySem.W.fnOf "_shown" "_shown" (defArgs s_shown) (defBody s_shown) (defScope s_shown) .none kV0 dc0 pm0 an0 cd0 ct0), sl0⟩)
    (c0 : PySem.W.codeIn K cd0 "_shown" = true)
    (k0 : PySem.W.keepIn K (.ref f0) = true)
    (a1 : PySem.W.nsIn K mainGlobals "check_number" = some (some (.ref f1)))
    (l1 : K.lookup f1 = some ⟨oc1, od1, .func (PySem.W.fnOf "check_number" "check_number" (defArgs scheck_number) (defBody scheck_number) (defScope scheck_number) .none kV1 dc1 pm1 an1 cd1 ct1), sl1⟩)
    (c1 : PySem.W.codeIn K cd1 "check_number" = true)
    (k1 : PySem.W.keepIn K (.ref f1) = true)
    (a2 : PySem.W.nsIn K mainGlobals "check_units" = some (some (.ref f2)))
    (l2 : K.lookup f2 = some ⟨oc2, od2, .func (PySem.W.fnOf "check_units" "check_units" (defArgs scheck_units) (defBody scheck_units) (defScope scheck_units) .none kV2 dc2 pm2 an2 cd2 ct2), sl2⟩)
    (c2 : PySem.W.codeIn K cd2 "check_units" = true)
    (k2 : PySem.W.keepIn K (.ref f2) = true)
    (a3 : PySem.W.nsIn K mainGlobals "_law_start" = some (some (.ref f3)))
    (l3 : K.lookup f3 = some ⟨oc3, od3, .func (PySem.W.fnOf "_law_start" "_law_start" (defArgs s_law_start) (defBody s_law_start) (defScope s_law_start) .none kV3 dc3 pm3 an3 cd3 ct3), sl3⟩)
    (c3 : PySem.W.codeIn K cd3 "_law_start" = true)
    (k3 : PySem.W.keepIn K (.ref f3) = true)
    (a4 : PySem.W.nsIn K mainGlobals "_law_draw" = some (some (.ref f4)))
    (l4 : K.lookup f4 = some ⟨oc4, od4, .func (PySem.W.fnOf "_law_draw" "_law_draw" (defArgs s_law_draw) (defBody s_law_draw) (defScope s_law_draw) .none kV4 dc4 pm4 an4 cd4 ct4), sl4⟩)
    (c4 : PySem.W.codeIn K cd4 "_law_draw" = true)
    (k4 : PySem.W.keepIn K (.ref f4) = true)
    (a5 : PySem.W.nsIn K mainGlobals "_law_refusal" = some (some (.ref f5)))
    (l5 : K.lookup f5 = some ⟨oc5, od5, .func (PySem.W.fnOf "_law_refusal" "_law_refusal" (defArgs s_law_refusal) (defBody s_law_refusal) (defScope s_law_refusal) .none kV5 dc5 pm5 an5 cd5 ct5), sl5⟩)
    (c5 : PySem.W.codeIn K cd5 "_law_refusal" = true)
    (k5 : PySem.W.keepIn K (.ref f5) = true)
    (a6 : PySem.W.nsIn K mainGlobals "_law_below" = some (some (.ref f6)))
    (l6 : K.lookup f6 = some ⟨oc6, od6, .func (PySem.W.fnOf "_law_below" "_law_below" (defArgs s_law_below) (defBody s_law_below) (defScope s_law_below) .none kV6 dc6 pm6 an6 cd6 ct6), sl6⟩)
    (c6 : PySem.W.codeIn K cd6 "_law_below" = true)
    (k6 : PySem.W.keepIn K (.ref f6) = true)
    (a7 : PySem.W.nsIn K mainGlobals "_law_text" = some (some (.ref f7)))
    (l7 : K.lookup f7 = some ⟨oc7, od7, .func (PySem.W.fnOf "_law_text" "_law_text" (defArgs s_law_text) (defBody s_law_text) (defScope s_law_text) .none kV7 dc7 pm7 an7 cd7 ct7), sl7⟩)
    (c7 : PySem.W.codeIn K cd7 "_law_text" = true)
    (k7 : PySem.W.keepIn K (.ref f7) = true)
    (a8 : PySem.W.nsIn K mainGlobals "_law_rows" = some (some (.ref f8)))
    (l8 : K.lookup f8 = some ⟨oc8, od8, .func (PySem.W.fnOf "_law_rows" "_law_rows" (defArgs s_law_rows) (defBody s_law_rows) (defScope s_law_rows) .none kV8 dc8 pm8 an8 cd8 ct8), sl8⟩)
    (c8 : PySem.W.codeIn K cd8 "_law_rows" = true)
    (k8 : PySem.W.keepIn K (.ref f8) = true)
    (a9 : PySem.W.nsIn K mainGlobals "_law_pairs_hold" = some (some (.ref f9)))
    (l9 : K.lookup f9 = some ⟨oc9, od9, .func (PySem.W.fnOf "_law_pairs_hold" "_law_pairs_hold" (defArgs s_law_pairs_hold) (defBody s_law_pairs_hold) (defScope s_law_pairs_hold) .none kV9 dc9 pm9 an9 cd9 ct9), sl9⟩)
    (c9 : PySem.W.codeIn K cd9 "_law_pairs_hold" = true)
    (k9 : PySem.W.keepIn K (.ref f9) = true)
    (a10 : PySem.W.nsIn K mainGlobals "_law_refusals_hold" = some (some (.ref f10)))
    (l10 : K.lookup f10 = some ⟨oc10, od10, .func (PySem.W.fnOf "_law_refusals_hold" "_law_refusals_hold" (defArgs s_law_refusals_hold) (defBody s_law_refusals_hold) (defScope s_law_refusals_hold) .none kV10 dc10 pm10 an10 cd10 ct10), sl10⟩)
    (c10 : PySem.W.codeIn K cd10 "_law_refusals_hold" = true)
    (k10 : PySem.W.keepIn K (.ref f10) = true)
    (a11 : PySem.W.nsIn K mainGlobals "law" = some (some (.ref f11)))
    (l11 : K.lookup f11 = some ⟨oc11, od11, .func (PySem.W.fnOf "law" "law" (defArgs slaw) (defBody slaw) (defScope slaw) .none kV11 dc11 pm11 an11 cd11 ct11), sl11⟩)
    (c11 : PySem.W.codeIn K cd11 "law" = true)
    (k11 : PySem.W.keepIn K (.ref f11) = true)
    (z_len : PySem.W.nsIn K mainGlobals "len" = some none)
    (z_abs : PySem.W.nsIn K mainGlobals "abs" = some none)
    (z_int : PySem.W.nsIn K mainGlobals "int" = some none)
    (z_bool : PySem.W.nsIn K mainGlobals "bool" = some none)
    (z_str : PySem.W.nsIn K mainGlobals "str" = some none)
    (z_range : PySem.W.nsIn K mainGlobals "range" = some none)
    (z_all : PySem.W.nsIn K mainGlobals "all" = some none)
    (z_isinstance : PySem.W.nsIn K mainGlobals "isinstance" = some none)
    (z_repr : PySem.W.nsIn K mainGlobals "repr" = some none)
    (z_super : PySem.W.nsIn K mainGlobals "super" = some none)
    (z_tuple : PySem.W.nsIn K mainGlobals "tuple" = some none)
    (z_list : PySem.W.nsIn K mainGlobals "list" = some none)
    (z_zip : PySem.W.nsIn K mainGlobals "zip" = some none)
    (z_enumerate : PySem.W.nsIn K mainGlobals "enumerate" = some none)
    (z_max : PySem.W.nsIn K mainGlobals "max" = some none)
    (z_min : PySem.W.nsIn K mainGlobals "min" = some none)
    (g_MOST_PLOTS : PySem.W.nsIn K mainGlobals "MOST_PLOTS" = some (some (.int 4 t_MOST_PLOTS)))
    (g_MOST_UNITS : PySem.W.nsIn K mainGlobals "MOST_UNITS" = some (some (.int 8 t_MOST_UNITS)))
    (g_MOST_MOODS : PySem.W.nsIn K mainGlobals "MOST_MOODS" = some (some (.int 4 t_MOST_MOODS)))
    (g_BadNumber : PySem.W.nsIn K mainGlobals "BadNumber" = some (some (.ref C_BadNumber)))
    (x_BadNumber : K.lookup C_BadNumber = some (excClassObj nm_BadNumber qn_BadNumber C_BadNumber N_BadNumber bs_BadNumber bm_BadNumber true sn_BadNumber sub_BadNumber ab_BadNumber col_BadNumber dd_BadNumber m0_BadNumber m1_BadNumber m2_BadNumber m3_BadNumber m5_BadNumber "ValueError.__new__"))
    (r_BadNumber : PySem.HandSPX.refsVE bm_BadNumber = true)
    (sa_BadNumber : PySem.W.findIn K (.ref C_BadNumber) "__setattr__" = some (some (.builtin "object.__setattr__")))
    (ex_BadNumber : PySem.W.subIn K (.ref C_BadNumber) (.type "BaseException") = some true)
    (ty_BadNumber : PySem.W.typeIn K (.ref C_BadNumber) = some (.type "type"))
    (kp_BadNumber : PySem.W.keepIn K (.ref C_BadNumber) = true)
    (i_BadNumber : PySem.W.findIn K (.ref C_BadNumber) "__init__" = some (some (.ref f_BadNumber)))
    (l_BadNumber : K.lookup f_BadNumber = some ⟨oc_BadNumber, od_BadNumber, .func (PySem.W.fnX "__init__" "BadNumber.__init__" (defArgs sBadNumber___init__) (defBody sBadNumber___init__) (defScope sBadNumber___init__) [("__class__", cc_BadNumber)] .none kV_BadNumber doc_BadNumber pm_BadNumber an_BadNumber (.ref cda_BadNumber) ct_BadNumber), osl_BadNumber⟩)
    (cd_BadNumber : PySem.W.codeIn K (.ref cda_BadNumber) "BadNumber.__init__" = true)
    (cf_BadNumber : K.lookup cda_BadNumber = some ⟨ccl_BadNumber, cdd_BadNumber, .fields vs_BadNumber, ccs_BadNumber⟩)
    (v2_BadNumber : vs_BadNumber[2]? = some (.str fl_BadNumber tf_BadNumber))
    (fi_BadNumber : ((l.prog.main.file : Str) == fl_BadNumber) = true)
    (cl_BadNumber : K.lookup cc_BadNumber = some ⟨clv_BadNumber, cld_BadNumber, .cell (some (.ref C_BadNumber)), csl_BadNumber⟩)
    (mr_BadNumber : PySem.W.mroIn K C_BadNumber (.ref C_BadNumber) = some true)
    (sb_BadNumber : PySem.W.subIn K (.ref C_BadNumber) (.type "ValueError") = some true)
    (su_BadNumber : PySem.W.ks_superIn K C_BadNumber C_BadNumber "__init__" = some (some (.builtin "ValueError.__init__")))
    (ti_BadNumber : PySem.W.typeIn K (.ref f_BadNumber) = some (.type "function"))
    (ga_BadNumber : PySem.W.findIn K (.ref C_BadNumber) "__getattribute__" = some (some (.builtin "BaseException.__getattribute__")))
    (gg_BadNumber : PySem.W.findIn K (.ref C_BadNumber) "__getattr__" = some none)
    (hd_BadNumber : PySem.W.hasDictIn K C_BadNumber = true)
    (ha_BadNumber : PySem.W.findIn K (.ref C_BadNumber) "__class__" = some (some (.builtin "object.__class__")))
    (mo_BadNumber : PySem.W.mroIn K C_BadNumber (.type "object") = some true)
    (em_BadNumber : PySem.W.subIn K (.ref C_BadNumber) (.ref C_BadNumber) = some true)
    (nw_BadNumber : PySem.W.findIn K (.ref C_BadNumber) "what" = some none)
    (nv_BadNumber : PySem.W.findIn K (.ref C_BadNumber) "value" = some none)
    (nn_BadNumber : PySem.W.findIn K (.ref C_BadNumber) "name" = some none)
    (nt_BadNumber : PySem.W.findIn K (.ref C_BadNumber) "turn" = some none)
    (opq : PySem.W.nsIn K cStatics "thirdparty.any" = some none)
    (htop : (l.prog.main.scope.names.lookup ("super" : Str)).isSome = false)
    (spc : PySem.W.specialIn K (.builtin "object.__class__") "__get__" = some (some (.builtin "getset_descriptor.__get__")))
    (tks : PySem.W.takesIn K (.builtin "object.__class__") = some true)
    (g_Standing : PySem.W.nsIn K mainGlobals "Standing" = some (some (.ref C_Standing)))
    (mk_Standing : PySem.W.makesIn K C_Standing = true)
    (kp_Standing : PySem.W.keepIn K (.ref C_Standing) = true)
    (pg_Standing : PySem.W.plainGet K C_Standing Str.empty = true)
    (hd_Standing : PySem.W.hasDictIn K C_Standing = true)
    (po_Standing : PySem.W.plainOver K C_Standing = true)
    (sa_Standing : PySem.W.findIn K (.ref C_Standing) "__setattr__" = some (some (.builtin "object.__setattr__")))
    (ne_Standing : PySem.W.findIn K (.ref C_Standing) "__ne__" = some (some (.builtin "object.__ne__")))
    (ob_Standing : PySem.W.subIn K (.ref C_Standing) (.type "object") = some true)
    (ha_Standing : PySem.W.findIn K (.ref C_Standing) "__class__" = some (some (.builtin "object.__class__")))
    (hm_Standing : PySem.W.mroIn K C_Standing (.type "object") = some true)
    (kk_Standing : PySem.W.kitOne K (.ref C_Standing) (.ref C_Standing) = some true)
    (no_Standing_levels : PySem.W.findIn K (.ref C_Standing) "levels" = some none)
    (no_Standing_tank : PySem.W.findIn K (.ref C_Standing) "tank" = some none)
    (no_Standing_mood : PySem.W.findIn K (.ref C_Standing) "mood" = some none)
    (i_Standing_init : PySem.W.findIn K (.ref C_Standing) "__init__" = some (some (.ref f_Standing_init)))
    (fn_Standing_init : PySem.W.isFn K (.ref f_Standing_init) = true)
    (l_Standing_init : K.lookup f_Standing_init = some ⟨oc_Standing_init, od_Standing_init, .func (PySem.W.fnOf "__init__" "Standing.__init__" (defArgs sStanding___init__) (defBody sStanding___init__) (defScope sStanding___init__) .none kV_Standing_init dc_Standing_init pm_Standing_init an_Standing_init cd_Standing_init ct_Standing_init), sl_Standing_init⟩)
    (c_Standing_init : PySem.W.codeIn K cd_Standing_init "Standing.__init__" = true)
    (k_Standing_init : PySem.W.keepIn K (.ref f_Standing_init) = true)
    (i_Standing_eq : PySem.W.findIn K (.ref C_Standing) "__eq__" = some (some (.ref f_Standing_eq)))
    (fn_Standing_eq : PySem.W.isFn K (.ref f_Standing_eq) = true)
    (l_Standing_eq : K.lookup f_Standing_eq = some ⟨oc_Standing_eq, od_Standing_eq, .func (PySem.W.fnOf "__eq__" "Standing.__eq__" (defArgs sStanding___eq__) (defBody sStanding___eq__) (defScope sStanding___eq__) .none kV_Standing_eq dc_Standing_eq pm_Standing_eq an_Standing_eq cd_Standing_eq ct_Standing_eq), sl_Standing_eq⟩)
    (c_Standing_eq : PySem.W.codeIn K cd_Standing_eq "Standing.__eq__" = true)
    (k_Standing_eq : PySem.W.keepIn K (.ref f_Standing_eq) = true)
    (i_Standing_le : PySem.W.findIn K (.ref C_Standing) "__le__" = some (some (.ref f_Standing_le)))
    (fn_Standing_le : PySem.W.isFn K (.ref f_Standing_le) = true)
    (l_Standing_le : K.lookup f_Standing_le = some ⟨oc_Standing_le, od_Standing_le, .func (PySem.W.fnOf "__le__" "Standing.__le__" (defArgs sStanding___le__) (defBody sStanding___le__) (defScope sStanding___le__) .none kV_Standing_le dc_Standing_le pm_Standing_le an_Standing_le cd_Standing_le ct_Standing_le), sl_Standing_le⟩)
    (c_Standing_le : PySem.W.codeIn K cd_Standing_le "Standing.__le__" = true)
    (k_Standing_le : PySem.W.keepIn K (.ref f_Standing_le) = true)
    (i_Standing_str : PySem.W.findIn K (.ref C_Standing) "__str__" = some (some (.ref f_Standing_str)))
    (fn_Standing_str : PySem.W.isFn K (.ref f_Standing_str) = true)
    (l_Standing_str : K.lookup f_Standing_str = some ⟨oc_Standing_str, od_Standing_str, .func (PySem.W.fnOf "__str__" "Standing.__str__" (defArgs sStanding___str__) (defBody sStanding___str__) (defScope sStanding___str__) .none kV_Standing_str dc_Standing_str pm_Standing_str an_Standing_str cd_Standing_str ct_Standing_str), sl_Standing_str⟩)
    (c_Standing_str : PySem.W.codeIn K cd_Standing_str "Standing.__str__" = true)
    (k_Standing_str : PySem.W.keepIn K (.ref f_Standing_str) = true) :
    ∃ fd : FuncData, (∀ (s : Shared) (v : Value), BindsTo s fd ⟨[v], []⟩ [("script", v)]) ∧ ∀ base : Heap, K.In base → base.Ns mainGlobals mg → FnOk l.prog w K mg base CX0 10 fa fd ["script"] (splaw K) := by
  have e := hfa.symm.trans (PySem.W.mg_of X G a11)
  cases e
  have T : Txt K mg := ⟨PySem.W.mg_none_of X G z_len, PySem.W.mg_none_of X G z_abs, PySem.W.mg_none_of X G z_int, PySem.W.mg_none_of X G z_bool, PySem.W.mg_none_of X G z_str, PySem.W.mg_none_of X G z_range, PySem.W.mg_none_of X G z_all, PySem.W.mg_none_of X G z_isinstance, PySem.W.mg_none_of X G z_repr, PySem.W.mg_none_of X G z_super, PySem.W.mg_none_of X G z_tuple, PySem.W.mg_none_of X G z_list, PySem.W.mg_none_of X G z_zip, PySem.W.mg_none_of X G z_enumerate, PySem.W.mg_none_of X G z_max, PySem.W.mg_none_of X G z_min, ⟨_, PySem.W.mg_of X G g_MOST_PLOTS⟩, ⟨_, PySem.W.mg_of X G g_MOST_UNITS⟩, ⟨_, PySem.W.mg_of X G g_MOST_MOODS⟩⟩
  have E_BadNumber : ErrC l.prog K mg "BadNumber" "BadNumber.__init__" C_BadNumber f_BadNumber cda_BadNumber cc_BadNumber := ⟨PySem.W.mg_of X G g_BadNumber, ⟨⟨⟨_, _, _, _, _, _, _, _, _, _, _, _, _, _, _, x_BadNumber, r_BadNumber⟩, sa_BadNumber, ex_BadNumber, ty_BadNumber, kp_BadNumber⟩, cd_BadNumber, ⟨_, _, _, _, _, _, cf_BadNumber, v2_BadNumber, fi_BadNumber⟩, ⟨_, _, _, cl_BadNumber⟩, T.b_super, htop, mr_BadNumber, sb_BadNumber, su_BadNumber, opq⟩, i_BadNumber, ti_BadNumber, ⟨ga_BadNumber, gg_BadNumber, ex_BadNumber, hd_BadNumber⟩, ⟨ga_BadNumber, gg_BadNumber, ex_BadNumber, hd_BadNumber, ha_BadNumber, spc, tks, mo_BadNumber⟩, PySem.W.exm_ref ex_BadNumber hd_BadNumber ty_BadNumber em_BadNumber, nw_BadNumber, nv_BadNumber, nn_BadNumber, nt_BadNumber⟩
  have F_Standing_init := fun_mk (st := sStanding___init__) l_Standing_init c_Standing_init k_Standing_init
  have b_Standing_init := F_Standing_init.binds (ps := PStanding___init__) fun _ _ _ _ _ _ us hl => match us, hl with | [_, _, _, _], _ => rfl
  have F_Standing_eq := fun_mk (st := sStanding___eq__) l_Standing_eq c_Standing_eq k_Standing_eq
  have b_Standing_eq := F_Standing_eq.binds (ps := PStanding___eq__) fun _ _ _ _ _ _ us hl => match us, hl with | [_, _], _ => rfl
  have F_Standing_le := fun_mk (st := sStanding___le__) l_Standing_le c_Standing_le k_Standing_le
  have b_Standing_le := F_Standing_le.binds (ps := PStanding___le__) fun _ _ _ _ _ _ us hl => match us, hl with | [_, _], _ => rfl
  have F_Standing_str := fun_mk (st := sStanding___str__) l_Standing_str c_Standing_str k_Standing_str
  have b_Standing_str := F_Standing_str.binds (ps := PStanding___str__) fun _ _ _ _ _ _ us hl => match us, hl with | [_], _ => rfl
  have D_Standing : DatC K mg "Standing" C_Standing f_Standing_init f_Standing_eq ["levels", "tank", "mood"] := ⟨PySem.W.mg_of X G g_Standing, ⟨mk_Standing, i_Standing_init, fn_Standing_init, kp_Standing⟩, ⟨pg_Standing, hd_Standing, po_Standing, sa_Standing⟩, (fun f hf => by
    simp only [List.mem_cons, List.not_mem_nil, or_false] at hf
    rcases hf with rfl | rfl | rfl
    · exact no_Standing_levels
    · exact no_Standing_tank
    · exact no_Standing_mood), i_Standing_eq, fn_Standing_eq, ne_Standing, ob_Standing, ha_Standing, spc, tks, hm_Standing, kk_Standing⟩
  have F0 := fun_mk (st := s_shown) l0 c0 k0
  have b0 := F0.binds (ps := P_shown) fun _ _ _ _ _ _ us hl => match us, hl with | [_], _ => rfl
  have F1 := fun_mk (st := scheck_number) l1 c1 k1
  have b1 := F1.binds (ps := Pcheck_number) fun _ _ _ _ _ _ us hl => match us, hl with | [_, _, _, _], _ => rfl
  have F2 := fun_mk (st := scheck_units) l2 c2 k2
  have b2 := F2.binds (ps := Pcheck_units) fun _ _ _ _ _ _ us hl => match us, hl with | [_, _], _ => rfl
  have F3 := fun_mk (st := s_law_start) l3 c3 k3
  have b3 := F3.binds (ps := P_law_start) fun _ _ _ _ _ _ us hl => match us, hl with | [_], _ => rfl
  have F4 := fun_mk (st := s_law_draw) l4 c4 k4
  have b4 := F4.binds (ps := P_law_draw) fun _ _ _ _ _ _ us hl => match us, hl with | [_, _, _], _ => rfl
  have F5 := fun_mk (st := s_law_refusal) l5 c5 k5
  have b5 := F5.binds (ps := P_law_refusal) fun _ _ _ _ _ _ us hl => match us, hl with | [_, _, _], _ => rfl
  have F6 := fun_mk (st := s_law_below) l6 c6 k6
  have b6 := F6.binds (ps := P_law_below) fun _ _ _ _ _ _ us hl => match us, hl with | [_, _], _ => rfl
  have F7 := fun_mk (st := s_law_text) l7 c7 k7
  have b7 := F7.binds (ps := P_law_text) fun _ _ _ _ _ _ us hl => match us, hl with | [_], _ => rfl
  have F8 := fun_mk (st := s_law_rows) l8 c8 k8
  have b8 := F8.binds (ps := P_law_rows) fun _ _ _ _ _ _ us hl => match us, hl with | [_, _, _, _], _ => rfl
  have F9 := fun_mk (st := s_law_pairs_hold) l9 c9 k9
  have b9 := F9.binds (ps := P_law_pairs_hold) fun _ _ _ _ _ _ us hl => match us, hl with | [_], _ => rfl
  have F10 := fun_mk (st := s_law_refusals_hold) l10 c10 k10
  have b10 := F10.binds (ps := P_law_refusals_hold) fun _ _ _ _ _ _ us hl => match us, hl with | [_, _, _, _], _ => rfl
  have F11 := fun_mk (st := slaw) l11 c11 k11
  have bI_BadNumber : Binds K (PySem.W.fnX "__init__" "BadNumber.__init__" (defArgs sBadNumber___init__) (defBody sBadNumber___init__) (defScope sBadNumber___init__) [("__class__", cc_BadNumber)] .none kV_BadNumber doc_BadNumber pm_BadNumber an_BadNumber (.ref cda_BadNumber) ct_BadNumber) PBadNumber___init__ [] := .all fun us hl => match us, hl with | [_, _, _], _ => rfl
  refine ⟨PySem.W.fnOf "law" "law" (defArgs slaw) (defBody slaw) (defScope slaw) .none kV11 dc11 pm11 an11 cd11 ct11, fun s v => .of_eq rfl, fun base _ _ => ?_⟩
  have C_shown := Cal.mk (ok_shown (P := l.prog) (w := w) (base := base) F0 T) (PySem.W.mg_of X G a0) k0 b0
  have G_BadNumber := okBadNumber___init__ (P := l.prog) (w := w) (base := base) l_BadNumber E_BadNumber T C_shown
  have Gcheck_number := okcheck_number (P := l.prog) (w := w) (base := base) F1 T E_BadNumber G_BadNumber bI_BadNumber
  have Gcheck_units := okcheck_units (P := l.prog) (w := w) (base := base) F2 T (C_BadNumber := C_BadNumber) ⟨_, _, Gcheck_number, PySem.W.mg_of X G a1, k1, b1⟩
  have GStanding___init__ := okStanding___init__ (P := l.prog) (w := w) (base := base) F_Standing_init T (C_BadNumber := C_BadNumber) D_Standing ⟨_, _, Gcheck_number, PySem.W.mg_of X G a1, k1, b1⟩ ⟨_, _, Gcheck_units, PySem.W.mg_of X G a2, k2, b2⟩
  have GStanding___eq__ := okStanding___eq__ (P := l.prog) (w := w) (base := base) F_Standing_eq T (C_BadNumber := C_BadNumber) D_Standing
  have GStanding___le__ := okStanding___le__ (P := l.prog) (w := w) (base := base) F_Standing_le T (C_BadNumber := C_BadNumber) D_Standing
  have GStanding___str__ := okStanding___str__ (P := l.prog) (w := w) (base := base) F_Standing_str T (C_BadNumber := C_BadNumber) D_Standing
  have C_law_start := Cal.mk (ok_law_start (P := l.prog) (w := w) (base := base) F3 T) (PySem.W.mg_of X G a3) k3 b3
  have C_law_draw := Cal.mk (ok_law_draw (P := l.prog) (w := w) (base := base) F4 T) (PySem.W.mg_of X G a4) k4 b4
  have C_law_text := Cal.mk (ok_law_text (P := l.prog) (w := w) (base := base) F7 T) (PySem.W.mg_of X G a7) k7 b7
  have C_law_below := Cal.mk (ok_law_below (P := l.prog) (w := w) (base := base) F6 T) (PySem.W.mg_of X G a6) k6 b6
  have C_law_refusal := Cal.mk (ok_law_refusal (P := l.prog) (w := w) (base := base) F5 T E_BadNumber G_BadNumber bI_BadNumber D_Standing GStanding___init__ b_Standing_init) (PySem.W.mg_of X G a5) k5 b5
  have C_law_rows := Cal.mk (ok_law_rows (P := l.prog) (w := w) (base := base) F8 T C_law_draw) (PySem.W.mg_of X G a8) k8 b8
  have C_law_pairs_hold := Cal.mk (ok_law_pairs_hold (P := l.prog) (w := w) (base := base) F9 T C_law_text C_law_below D_Standing ⟨i_Standing_le, fn_Standing_le⟩ ⟨i_Standing_str, fn_Standing_str⟩ GStanding___init__ b_Standing_init GStanding___eq__ b_Standing_eq GStanding___le__ b_Standing_le GStanding___str__ b_Standing_str) (PySem.W.mg_of X G a9) k9 b9
  have C_law_refusals_hold := Cal.mk (ok_law_refusals_hold (P := l.prog) (w := w) (base := base) F10 T C_law_draw C_law_refusal) (PySem.W.mg_of X G a10) k10 b10
  exact oklaw (P := l.prog) (w := w) (base := base) F11 T C_law_start C_law_draw C_law_rows C_law_pairs_hold C_law_refusals_hold
theorem walk {l : PySem.W.OpenLaw} {q : Program} {loose : List Str} {XP : (Str → Option Value) → Heap → Prop} {YP : World → Heap → Prop} {d : DefRec} {K : Params → PySem.W.Frag} (hn : l.most = some 63) (hdf : d.params.defaults = [])
    (hY : ∀ (w : World) (h : Heap), YP w h → (K w.params).In h)
    (F : ∀ (w : World) (mg : Str → Option Value) (fa : Addr) (h : Heap), (K w.params).In h → h.Ns mainGlobals mg → mg d.name = some (.ref fa) →
      ∃ fd : FuncData, (∀ (s : Shared) (u : Value), BindsTo s fd ⟨[u], []⟩ [("script", u)]) ∧ ∀ base : Heap, (K w.params).In base → base.Ns mainGlobals mg → FnOk l.prog w (K w.params) mg base CX0 10 fa fd ["script"] (splaw (K w.params))) :
    PySem.W.WalkO q loose XP YP l.row.toRowW d [] (fun f vs => PySem.call f vs) :=
  L2.walk_of (n := 63) (k := 10) (x := "script") (CX := fun _ => CX0) (sp := fun w => splaw (K w.params)) hn (by decide) hdf ⟨rfl, by decide, by decide⟩ hY F (fun _ _ a ns hl _ hS => ⟨a, ns, rfl, hS, hl, fun _ => rfl⟩) fun _ _ _ _ _ z => z
end
end Wb
open PySem PySem.W PyProof.Rows in
set_option maxRecDepth 100000 in
set_option maxHeartbeats 0 in
theorem PySem.Challenge.cw_waterbyturns_k13_standings_holds : PySem.Challenge.rw_waterbyturns_k13_standings.Holds := by
  w_on; o_law; k_head; (case hw => w_witness2)
  k_fill
  refine Wb.walk (l := PySem.Challenge.rw_waterbyturns_k13_standings) rfl rfl (fun w h Y => PySem.W.kIn_of Y) ?F
  case F =>
    intro w mg fa h KX G hmg
    refine' Wb.all_mk KX G hmg ?a0 ?l0 ?c0 ?k0 ?a1 ?l1 ?c1 ?k1 ?a2 ?l2 ?c2 ?k2 ?a3 ?l3 ?c3 ?k3 ?a4 ?l4 ?c4 ?k4 ?a5 ?l5 ?c5 ?k5 ?a6 ?l6 ?c6 ?k6 ?a7 ?l7 ?c7 ?k7 ?a8 ?l8 ?c8 ?k8 ?a9 ?l9 ?c9 ?k9 ?a10 ?l10 ?c10 ?k10 ?a11 ?l11 ?c11 ?k11 ?z_len ?z_abs ?z_int ?z_bool ?z_str ?z_range ?z_all ?z_isinstance ?z_repr ?z_super ?z_tuple ?z_list ?z_zip ?z_enumerate ?z_max ?z_min ?g_MOST_PLOTS ?g_MOST_UNITS ?g_MOST_MOODS ?g_BadNumber ?x_BadNumber ?r_BadNumber ?sa_BadNumber ?ex_BadNumber ?ty_BadNumber ?kp_BadNumber ?i_BadNumber ?l_BadNumber ?cd_BadNumber ?cf_BadNumber ?v2_BadNumber ?fi_BadNumber ?cl_BadNumber ?mr_BadNumber ?sb_BadNumber ?su_BadNumber ?ti_BadNumber ?ga_BadNumber ?gg_BadNumber ?hd_BadNumber ?ha_BadNumber ?mo_BadNumber ?em_BadNumber ?nw_BadNumber ?nv_BadNumber ?nn_BadNumber ?nt_BadNumber ?opq ?htop ?spc ?tks ?g_Standing ?mk_Standing ?kp_Standing ?pg_Standing ?hd_Standing ?po_Standing ?sa_Standing ?ne_Standing ?ob_Standing ?ha_Standing ?hm_Standing ?kk_Standing ?no_Standing_levels ?no_Standing_tank ?no_Standing_mood ?i_Standing_init ?fn_Standing_init ?l_Standing_init ?c_Standing_init ?k_Standing_init ?i_Standing_eq ?fn_Standing_eq ?l_Standing_eq ?c_Standing_eq ?k_Standing_eq ?i_Standing_le ?fn_Standing_le ?l_Standing_le ?c_Standing_le ?k_Standing_le ?i_Standing_str ?fn_Standing_str ?l_Standing_str ?c_Standing_str ?k_Standing_str
    (case a0 => k_is)
    (case l0 => k_is)
    (case c0 => k_is)
    (case k0 => k_is)
    (case a1 => k_is)
    (case l1 => k_is)
    (case c1 => k_is)
    (case k1 => k_is)
    (case a2 => k_is)
    (case l2 => k_is)
    (case c2 => k_is)
    (case k2 => k_is)
    (case a3 => k_is)
    (case l3 => k_is)
    (case c3 => k_is)
    (case k3 => k_is)
    (case a4 => k_is)
    (case l4 => k_is)
    (case c4 => k_is)
    (case k4 => k_is)
    (case a5 => k_is)
    (case l5 => k_is)
    (case c5 => k_is)
    (case k5 => k_is)
    (case a6 => k_is)
    (case l6 => k_is)
    (case c6 => k_is)
    (case k6 => k_is)
    (case a7 => k_is)
    (case l7 => k_is)
    (case c7 => k_is)
    (case k7 => k_is)
    (case a8 => k_is)
    (case l8 => k_is)
    (case c8 => k_is)
    (case k8 => k_is)
    (case a9 => k_is)
    (case l9 => k_is)
    (case c9 => k_is)
    (case k9 => k_is)
    (case a10 => k_is)
    (case l10 => k_is)
    (case c10 => k_is)
    (case k10 => k_is)
    (case a11 => k_is)
    (case l11 => k_is)
    (case c11 => k_is)
    (case k11 => k_is)
    (case z_len => k_is)
    (case z_abs => k_is)
    (case z_int => k_is)
    (case z_bool => k_is)
    (case z_str => k_is)
    (case z_range => k_is)
    (case z_all => k_is)
    (case z_isinstance => k_is)
    (case z_repr => k_is)
    (case z_super => k_is)
    (case z_tuple => k_is)
    (case z_list => k_is)
    (case z_zip => k_is)
    (case z_enumerate => k_is)
    (case z_max => k_is)
    (case z_min => k_is)
    (case g_MOST_PLOTS => k_is)
    (case g_MOST_UNITS => k_is)
    (case g_MOST_MOODS => k_is)
    (case g_BadNumber => k_is)
    (case x_BadNumber => k_is)
    (case r_BadNumber => first | rfl | decide +kernel)
    (case sa_BadNumber => k_is)
    (case ex_BadNumber => k_is)
    (case ty_BadNumber => k_is)
    (case kp_BadNumber => k_is)
    (case i_BadNumber => k_is)
    (case l_BadNumber => k_is)
    (case cd_BadNumber => k_is)
    (case cf_BadNumber => k_is)
    (case v2_BadNumber => first | rfl | decide +kernel)
    (case fi_BadNumber => first | rfl | decide +kernel)
    (case cl_BadNumber => k_is)
    (case mr_BadNumber => k_is)
    (case sb_BadNumber => k_is)
    (case su_BadNumber => ks_is)
    (case ti_BadNumber => k_is)
    (case ga_BadNumber => k_is)
    (case gg_BadNumber => k_is)
    (case hd_BadNumber => k_is)
    (case ha_BadNumber => k_is)
    (case mo_BadNumber => k_is)
    (case em_BadNumber => k_is)
    (case nw_BadNumber => k_is)
    (case nv_BadNumber => k_is)
    (case nn_BadNumber => k_is)
    (case nt_BadNumber => k_is)
    (case opq => k_is)
    (case htop => first | rfl | decide +kernel)
    (case spc => k_is)
    (case tks => k_is)
    (case g_Standing => k_is)
    (case mk_Standing => k_is)
    (case kp_Standing => k_is)
    (case pg_Standing => k_is)
    (case hd_Standing => k_is)
    (case po_Standing => k_is)
    (case sa_Standing => k_is)
    (case ne_Standing => k_is)
    (case ob_Standing => k_is)
    (case ha_Standing => k_is)
    (case hm_Standing => k_is)
    (case kk_Standing => first | k_is | kit_is)
    (case no_Standing_levels => k_is)
    (case no_Standing_tank => k_is)
    (case no_Standing_mood => k_is)
    (case i_Standing_init => k_is)
    (case fn_Standing_init => k_is)
    (case l_Standing_init => k_is)
    (case c_Standing_init => k_is)
    (case k_Standing_init => k_is)
    (case i_Standing_eq => k_is)
    (case fn_Standing_eq => k_is)
    (case l_Standing_eq => k_is)
    (case c_Standing_eq => k_is)
    (case k_Standing_eq => k_is)
    (case i_Standing_le => k_is)
    (case fn_Standing_le => k_is)
    (case l_Standing_le => k_is)
    (case c_Standing_le => k_is)
    (case k_Standing_le => k_is)
    (case i_Standing_str => k_is)
    (case fn_Standing_str => k_is)
    (case l_Standing_str => k_is)
    (case c_Standing_str => k_is)
    (case k_Standing_str => k_is)

