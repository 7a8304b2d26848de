import PyProof.Rows.All
import Wide.All
import OpenK.AllK
import Wide.FinOn
import HandS.ForMost
import HandS.Exc
import HandS.ExcInit
import HandS.Nested
import HandS.WordsExc
import KE.KExcSuper
import HandS.ExcIs
import HandS.ExcField
import HandS.IsInst
import HandS.FStr
import HandS.RaiseMore
import KE.KExcIs
import PyProof.NeKinds
import PyProof.CallStr
import HandS.Text
import PyProof.InstNe
import HandS.SlotsOwn
import HandS.OwnEq
import HandS.Walk
import KE.IntTextLaws
import HandS.Codes
import PySem.Challenge.RW_waterbyturns_k03_plots
set_option Elab.async false
set_option linter.all false
set_option maxRecDepth 100000
set_option maxHeartbeats 4000000
namespace Wx
open PySem PySem.Spec PyProof.Rows L2 NdefX
/-! super().__init__(..) in the __init__ of an own exception class whose line goes over own classes to ValueError -/
section
variable {prog : Program} {w : World} {A : Around} {E : Value → Shared → Prop} {hp : Heap} {g : Array GenState} {d : Drawn} {t : Nat} {os : OsState}
theorem mw_called {u x t0 : Addr} {us : List Value} {Q : Value → Shared → Prop} {C N : Addr} {nm q : Str} {bs bm : List Value} {hdct : Bool} {sn : List Str} {sub : List Value} {ab : Bool} {col : Option Bool} {dd : Option Addr} {k0 k1 k2 k3 k5 : Option Value}
    (cC : hp.get? C = some (excClassObj nm q C N bs bm hdct sn sub ab col dd k0 k1 k2 k3 k5 "ValueError.__new__")) (cx : hp.get? x = some (PySem.HandSPX.excO C t0)) (cu : hp.get? u = some (PySem.W.kxs_mw "ValueError.__init__" x)) (hl : us.length ≤ sizeLine)
    (fin : ∀ h' t1, (∀ b o, b ≠ x → hp.get? b = some o → h'.get? b = some o) → h'.get? x = some (PySem.HandSPX.excO C t1) → Q .none ⟨h', g, d, t, os⟩) : wpAny (model prog w) A (call (.ref u) us) Q E ⟨hp, g, d, t, os⟩ := by
  refine wpAny_call (codeAny_of_tree ?_)
  show wpAny _ A.in1 (callAny (Value.ref u) (Args.mk us [])) _ _ _
  unfold callAny
  dsimp only
  refine wpAny_bind (wpAny_load cu ?_)
  have mt : (Value.type "method-wrapper" == Value.type "method" || Value.type "method-wrapper" == Value.type "builtin_function_or_method" || Value.type "method-wrapper" == Value.type "method-wrapper") = true := by decide
  simp only [PySem.W.kxs_mw, mt, if_true]
  refine PySem.W.KFB.if_so (by decide) (wpAny_bind (PySem.W.check_bound_init F.excBase_ValueError.toExcCallFacts cC cx rfl (wpAny_bind (wpAny_pure (wpAny_pure ?_)))))
  refine And.intro (plainId_quiet F.excBase_ValueError.init.plain _) (codeAny_builtin F.excBase_ValueError.initEntry ?_)
  exact PySem.W.exc_init_tree (cls := Value.ref C) (t0 := t0) (dv := Option.none) (c2 := Value.none) (c3 := Value.none) (b4 := Value.bool false) cx hl fun h' k e _ => fin h' _ k e
end
/-- the first statement: super().__init__(e, ..) -/
abbrev stSuper (p0 p1 p2 p3 p4 : Pos) (e : Expr) (es : List Expr) : Stmt := .Expr (.Call (.Attribute (.Call (.Name "super" p0) [] [] p1) "__init__" p2) (e :: es) [] p3) p4
abbrev nfS (name qual : Str) (params : Arguments) (body : List Stmt) (scope : Scope) (cc cda : Addr) : NF := ⟨name, qual, params, body, scope, [("__class__", cc)], cda⟩
/-- what the written part says -/
structure SupTxt (P : Program) (K : PySem.W.Frag) (mg : Str → Option Value) (C cda cc : Addr) (qual : Str) : Prop where
  oex : OexC K C
  code : PySem.W.codeIn K (.ref cda) qual = true
  file : ∃ (ccl : Value) (cdd : Option Addr) (vs : Array Value) (ccs : Array (Option Value)) (fl : Str) (tf : Tok), K.lookup cda = some ⟨ccl, cdd, .fields vs, ccs⟩ ∧ vs[2]? = some (.str fl tf) ∧ ((P.main.file : Str) == fl) = true
  cell : ∃ (cl : Value) (cld : Option Addr) (csl : Array (Option Value)), K.lookup cc = some ⟨cl, cld, .cell (some (.ref C)), csl⟩
  sup : mg "super" = none
  top : (P.main.scope.names.lookup ("super" : Str)).isSome = false
  mro : PySem.W.mroIn K C (.ref C) = some true
  subB : PySem.W.subIn K (.ref C) (.type "ValueError") = some true
  ini : PySem.W.ks_superIn K C C "__init__" = some (some (.builtin "ValueError.__init__"))
  opq : PySem.W.nsIn K cStatics "thirdparty.any" = some none
theorem exo_upd {H : Hp} {a C : Addr} {d : Option Addr} (e : H a = some (exo a C d)) : upd H a (exo a C d) = H := by
  funext b
  by_cases hb : b = a
  · rw [hb, upd_same, e]
  · rw [upd_ne hb]
section
variable {CX : CXT} {P : Program} {w : World} {K : PySem.W.Frag} {mg : Str → Option Value} {base : Heap} {name qual : Str} {params : Arguments} {scope : Scope} {dV kV doc pm ct oc : Value} {an od : Option Addr} {osl : Array (Option Value)} {f cda cc C : Addr}
  {N ps : List Str} {k : Nat} {sp : Sp} {e : Expr} {es : List Expr} {rest : List Stmt} {p0 p1 p2 p3 p4 : Pos} {ar : Arg}
theorem fn_super (lk : K.lookup f = some ⟨oc, od, .func (PySem.W.fnX name qual params (stSuper p0 p1 p2 p3 p4 e es :: rest) scope [("__class__", cc)] dV kV doc pm an (.ref cda) ct), osl⟩)
    (T : SupTxt P K mg C cda cc qual) (S : NScope N ps ["__class__"] scope) (hp : (params.posonlyargs ++ params.args).head? = some ar) (har : N[0]? = some ar.arg) (hal : scope.names.lookup ar.arg = some .local) (hks : scope.names.lookup ("super" : Str) = some .globalImplicit)
    (len : ∀ vs H Q E, sp vs H Q E → vs.length = ps.length)
    (hbody : ∀ (A : Around) (outer : List Env) (s : Shared) (H : Hp) (vs : List V) (Q : VK) (E : XK), Room k (A.deeper (envF (nfS name qual params (stSuper p0 p1 p2 p3 p4 e es :: rest) scope cc cda) f s.heap.objs.size)) → sp vs H Q E →
      ∃ ta tr, PA (ncx CX P w K mg base N (nfS name qual params (stSuper p0 p1 p2 p3 p4 e es :: rest) scope cc cda) f A outer s H E) (e :: es) ta ∧ PSs (ncx CX P w K mg base N (nfS name qual params (stSuper p0 p1 p2 p3 p4 e es :: rest) scope cc cda) f A outer s H E) rest tr ∧ ∃ (a : Addr) (vr : List V), vs = .ref a :: vr ∧ H a = some (exo a C none) ∧
        ta (startF N vs [some (.ref C)]) H fun ws H1 => ws.length ≤ 1000 ∧ H1 a = some (exo a C none) ∧ tr { nx := fun _ H' => Q .non H', rt := Q } (startF N vs [some (.ref C)]) H1)
    (hi : ∀ L : Addr, interactive (envF (nfS name qual params (stSuper p0 p1 p2 p3 p4 e es :: rest) scope cc cda) f L) = false := by intros; rfl)
    (hs : ∀ L : Addr, swapsWith (.Call (.Attribute (.Call (.Name "super" p0) [] [] p1) "__init__" p2) (e :: es) [] p3) none p4.line (envF (nfS name qual params (stSuper p0 p1 p2 p3 p4 e es :: rest) scope cc cda) f L) = pure false := by intros; rfl)
    (he : ∀ L : Addr, starEach (e :: es) (envF (nfS name qual params (stSuper p0 p1 p2 p3 p4 e es :: rest) scope cc cda) f L) = (false, eval e (envF (nfS name qual params (stSuper p0 p1 p2 p3 p4 e es :: rest) scope cc cda) f L)) :: starEach es (envF (nfS name qual params (stSuper p0 p1 p2 p3 p4 e es :: rest) scope cc cda) f L) := by intros; rfl)
    (hpl : ∀ L : Addr, (backTo p3 (starEach es (envF (nfS name qual params (stSuper p0 p1 p2 p3 p4 e es :: rest) scope cc cda) f L))).any (·.1) = false := by intros; rfl)
    (hev : ∀ L : Addr, ∃ pl, eval (.Call (.Attribute (.Call (.Name "super" p0) [] [] p1) "__init__" p2) (e :: es) [] p3) (envF (nfS name qual params (stSuper p0 p1 p2 p3 p4 e es :: rest) scope cc cda) f L) = (do
      let ov ← attributeBase (.Call (.Name "super" p0) [] [] p1) "__init__" (envF (nfS name qual params (stSuper p0 p1 p2 p3 p4 e es :: rest) scope cc cda) f L) (eval (.Call (.Name "super" p0) [] [] p1) (envF (nfS name qual params (stSuper p0 p1 p2 p3 p4 e es :: rest) scope cc cda) f L))
      standAt p2.atName
      let r ← holding [ov] (getMethod ov "__init__" pl)
      callWith p3 r.1 r.2 (backTo p3 (starEach (e :: es) (envF (nfS name qual params (stSuper p0 p1 p2 p3 p4 e es :: rest) scope cc cda) f L))) []) := by intros; exact ⟨_, rfl⟩) :
    FnOk P w K mg base CX (k + 1) f (PySem.W.fnX name qual params (stSuper p0 p1 p2 p3 p4 e es :: rest) scope [("__class__", cc)] dV kV doc pm an (.ref cda) ct) ps sp := by
  obtain ⟨clv, cld, csl, hcell⟩ := T.cell
  obtain ⟨ccl, cdd, vsC, ccs, flC, tfC, hcode, hvsC, hfile⟩ := T.file
  refine ⟨len, fun A outer s H args us vs Q E hr e0 hbind r hsp => ?_⟩
  have hl := len _ _ _ _ hsp
  have KX : K.In s.heap := e0.mod.kin.keeps fun b o z => (e0.bs b o z).1
  have lim : s.heap.NoLimit := e0.mod.nolimit.keeps fun b o z => (e0.bs b o z).1
  let F : NF := (nfS name qual params (stSuper p0 p1 p2 p3 p4 e es :: rest) scope cc cda)
  have Hc : H cc = none := (e0.bs cc _ (e0.mod.kin _ _ hcell)).2
  have CA : CellsAt F.cl ["__class__"] [some (V.ref C)] s.heap H := by
    have key : ∀ y c, F.cl.lookup y = some c → y = "__class__" ∧ c = cc := fun y c z => by
      by_cases q : y = "__class__"
      · subst q
        have z : some cc = some c := by simpa [F, List.lookup] using z
        exact ⟨rfl, (Option.some.inj z).symm⟩
      · have : (y == ("__class__" : Str)) = false := by simpa using q
        simp [F, List.lookup, this] at z
    refine ⟨rfl, fun y c z => ?_, fun x y c z z' => ?_, fun i y z => ?_⟩
    · obtain ⟨_, rfl⟩ := key y c z
      exact ⟨Hc, _, _, KX _ _ hcell, rfl⟩
    · rw [(key x c z).1, (key y c z').1]
    · have hi : i = 0 ∧ y = "__class__" := by
        cases i with
        | zero => exact ⟨rfl, (Option.some.inj z).symm⟩
        | succ i => simp at z
      obtain ⟨rfl, rfl⟩ := hi
      refine ⟨cc, by simp [F, List.lookup], fun v hv => ?_⟩
      have hv : V.ref C = v := Option.some.inj (Option.some.inj hv)
      subst hv
      exact ⟨.ref C, rfl, _, KX _ _ hcell, rfl⟩
  refine PySem.ks_codeAny_call_defAt (fd := PySem.W.fnX name qual params (stSuper p0 p1 p2 p3 p4 e es :: rest) scope [("__class__", cc)] dV kV doc pm an (.ref cda) ct) (body := stSuper p0 p1 p2 p3 p4 e es :: rest) (binds := ps.zip us) hr.depth (KX _ _ lk) rfl lim
    (PySem.W.codeRec_of KX T.code) rfl hbind S.nocell (fun y hy => S.par y.1 (List.of_mem_zip hy).1) (fun h₁ hns kp => ?_) S.co S.gen S.kind
  show PySem.wpAt (model P w) (A.deeper (envF F f s.heap.objs.size)) (.func (stSuper p0 p1 p2 p3 p4 e es :: rest) (envF F f s.heap.objs.size)) (execs (stSuper p0 p1 p2 p3 p4 e es :: rest) (envF F f s.heap.objs.size)) _ _ _
  have I : Inv (ncx CX P w K mg base N F f A outer s H E) [] (startF N vs [some (.ref C)]) H { s with heap := h₁, toks := s.toks + (ps.zip us).length } := inv_startN (F := F) S hr.hd e0 hl r CA hns kp
  obtain ⟨ta, tr, hA, hR, a, vr, rfl, ea, hq⟩ := hbody A outer s H vs Q E (hr.deeper _) hsp
  obtain ⟨nm, qn, Nn, bs, bm, sn, sub, ab, col, dd, k0, k1, k2, k3, k5, hC, hbm⟩ := T.oex.cls
  have hcl : PySem.W.clsIn K C = some { name := nm, bases := bs, mro := .ref C :: bm, ns := Nn, qualname := qn, hasDict := true, slotNames := sn, subclasses := sub, abstract := ab, collection := col, hasDel := false } := by unfold PySem.W.clsIn; rw [hC] <;> rfl
  -- the local that holds the object
  have self : ∀ {s1 : Shared} {H1 : Hp} {pins : List (Addr × Obj)}, Inv (ncx CX P w K mg base N F f A outer s H E) pins (startF N (.ref a :: vr) [some (.ref C)]) H1 s1 → ∃ m, s1.heap.Ns (envF F f s.heap.objs.size).locals m ∧ m ar.arg = some (.ref a) := fun J => by
    obtain ⟨m, hm, hl⟩ := J.loc
    obtain ⟨u, ru, hk⟩ := hl 0 ar.arg (.ref a) har rfl (.inl hal)
    refine ⟨m, hm, ?_⟩
    rcases hk with ⟨_, hk⟩ | ⟨hk, _⟩
    · rw [hk]
      exact congrArg some ru
    · exfalso
      have hk : scope.names.lookup ar.arg = some .cell ∨ scope.names.lookup ar.arg = some .free := hk
      rw [hal] at hk
      rcases hk with z | z <;> cases z
  have fin : ∀ {fl : Flow} {s' : Shared}, SP (ncx CX P w K mg base N F f A outer s H E) [] { nx := fun _ H' => Q .non H', rt := Q } fl s' → CR CX outer P w H s Q E (.ok (.ret (match fl with | .ret v => v | _ => .none))) s' := fun {fl s'} hs' => by
    have out : ∀ {σ' : L2.St} {H' : Hp} {v : V} {u : Value}, Inv (ncx CX P w K mg base N F f A outer s H E) [] σ' H' s' → L2.RelV v u → Q v H' → CE outer P w H s Q u s' := fun {σ' H' v u} J rv q => ⟨v, H', J.os, J.bare, J.base, J.hok, rv, q⟩
    cases fl with
    | ret u =>
      obtain ⟨v, σ', H', J, rv, q⟩ := hs'
      exact out J rv q
    | next =>
      obtain ⟨σ', H', J, q⟩ := hs'
      exact out (v := V.non) (u := Value.none) J rfl q
    | brk =>
      obtain ⟨_, _, _, q⟩ := hs'
      exact q.elim
    | cont =>
      obtain ⟨_, _, _, q⟩ := hs'
      exact q.elim
  obtain ⟨pl, hev⟩ := hev s.heap.objs.size
  refine PySem.ks_wpAt_execs_cons (PySem.ks_wpAt_Expr_any (PySem.ks_wpAt_MethodCall (pl := pl) ?_ hev) (hi _) (hs _))
  · obtain ⟨m, hm, hma⟩ := self I
    obtain ⟨oD, hD1, hD2⟩ : ∃ oD, h₁.get? C = some oD ∧ oD.data = .cls { name := nm, bases := bs, mro := .ref C :: bm, ns := Nn, qualname := qn, hasDict := true, slotNames := sn, subclasses := sub, abstract := ab, collection := col, hasDel := false } := ⟨_, I.kIn _ _ hC, rfl⟩
    refine PySem.ks_wpAt_super_base (env := envF F f s.heap.objs.size) hks (S.frk _ (by simp)) rfl rfl (I.kIn _ _ lk) rfl hp rfl (I.kIn _ _ hcode) rfl hvsC hfile T.top ?_
    obtain ⟨mb, hb1, hb2⟩ := I.mod.blt
    refine PySem.W.ks_loadName_global S.kind hks (Calls.loadGlobal_builtin (I.mod.glob.keeps I.bk) T.sup (hb1.keeps I.bk) ((hb2 "super" (by decide)).trans (by decide +kernel : bootBuiltins "super" = some (.type "super"))) ⟨rfl, ?_⟩)
    refine wpAny_loadName_free S.kind (S.frk _ (by simp)) rfl ⟨_, I.kIn _ _ hcell, rfl⟩ ?_
    refine wpAny_loadName_local S.kind hal hm hma ?_
    refine PySem.ks_wpAny_isType_cls hD1 hD2 ⟨rfl, ?_⟩
    obtain ⟨t1, ho⟩ := exo_at I.hok ea
    have IA : PySem.W.InstAt h₁ a { cls := .ref C, dict := none, data := .fields #[.ref t1, .none, .none, .none, .bool false, .none] } C none := ⟨ho, rfl, rfl, trivial⟩
    refine PySem.ks_wpAny_call_super hD1 hD2 ho rfl (fun c z => by cases z) (PySem.W.looks_mroIn I.kIn T.mro) (fun h2 e2 k2 => ?_)
    have J2 : Inv (ncx CX P w K mg base N F f A outer s H E) [] (startF N (.ref a :: vr) [some (.ref C)]) H { s with heap := h2, toks := s.toks + (ps.zip us).length } := I.kept k2
    have ni : PySem.W.alongIn K "__init__" (((Value.ref C :: bm).dropWhile (· != .ref C)).drop 1) = some (some (.builtin "ValueError.__init__")) := by
      have z := T.ini
      unfold PySem.W.ks_superIn at z
      rw [hcl] at z
      exact z
    have ho2 := k2 _ _ ho
    have hI : PySem.W.Looks (model P w) h2 (isInstance (.ref a) (.type "ValueError")) true := (show PySem.W.InstAt h2 a _ C none from ⟨ho2, rfl, rfl, trivial⟩).type.andThen (PySem.W.looks_subIn J2.kIn T.subB)
    refine PySem.W.kxs_getMethod PySem.W.kxs_ValueError e2 (PySem.W.looks_opaque J2.kIn T.opq) ((PySem.W.looks_clsIn J2.kIn hcl).andThen .now) rfl J2.kIn ni hI (PySem.W.ks_ne I.kIn IA hcl) (by decide) ?_
    have J3 : Inv (ncx CX P w K mg base N F f A outer s H E) [] (startF N (.ref a :: vr) [some (.ref C)]) H { s with heap := h2.push (PySem.W.kxs_mw "ValueError.__init__" a), toks := s.toks + (ps.zip us).length + 1 } := J2.kept fun b o z => Heap.get?_push_of_some _ z
    have hmw : (h2.push (PySem.W.kxs_mw "ValueError.__init__" a)).get? h2.objs.size = some (PySem.W.kxs_mw "ValueError.__init__" a) := Heap.get?_push_at rfl rfl
    have J4 : Inv (ncx CX P w K mg base N F f A outer s H E) [(h2.objs.size, PySem.W.kxs_mw "ValueError.__init__" a)] (startF N (.ref a :: vr) [some (.ref C)]) H { s with heap := h2.push (PySem.W.kxs_mw "ValueError.__init__" a), toks := s.toks + (ps.zip us).length + 1 } := by
      refine ⟨J3.ok, J3.os, J3.bare, J3.base, J3.loc, J3.cell, J3.free, J3.freeC, fun p hp => ?_, J3.hok, J3.len⟩
      have hp : p = (h2.objs.size, PySem.W.kxs_mw "ValueError.__init__" a) := by
        have z : p ∈ ([] : List (Addr × Obj)) ++ [(h2.objs.size, PySem.W.kxs_mw "ValueError.__init__" a)] := hp
        simpa using z
      subst hp
      refine ⟨hmw, J2.hok.fresh (Nat.le_refl _), fun z => absurd J2.lt ?_, fun z => ?_, fun v z => by cases z⟩
      · rw [← z]
        exact Nat.lt_irrefl _
      · obtain ⟨_, o1, ho1, _⟩ := J2.ok.funs.mem z
        obtain ⟨o2, ho2'⟩ := J2.base.there _ _ ho1 (fun y => absurd (show _ ∈ ([] : List Addr) from y) (by simp))
        exact absurd (Heap.lt_size ho2') (Nat.lt_irrefl _)
    rw [he s.heap.objs.size]
    refine PySem.W.kxs_callWith (i := "ValueError.__init__") (x := a) (by show (false || (backTo p3 (starEach es (envF F f s.heap.objs.size))).any fun y => y.1) = false; rw [hpl s.heap.objs.size]; rfl) ?_
    refine Calls.evalArgs_plain ?_
    have run := hA.run p3 _ _ _ _ _ J4 hq
    rw [show starEach (e :: es) (ncx CX P w K mg base N F f A outer s H E).env = _ from he s.heap.objs.size] at run
    refine thn run fun us4 s4 hap => ?_
    obtain ⟨ws, H4, I4, r4, hw, ea4, tr4⟩ := hap
    obtain ⟨cu4, _⟩ := I4.pin _ (List.mem_append_right _ List.mem_cons_self)
    refine ⟨cu4, ?_⟩
    obtain ⟨t4, ho4⟩ := exo_at I4.hok ea4
    have hlen4 : us4.length ≤ sizeLine := by
      rw [← Paired.length r4]
      exact Nat.le_of_lt (small1000 hw)
    obtain ⟨h4, g4, d4, tk4, os4⟩ := s4
    refine mw_called (I4.kIn _ _ hC) ho4 cu4 hlen4 fun h5 t5 k5 e5 => ?_
    have I5 := I4.write (t' := tk4) (x := a) (e := a) (o := exo a C none) (by rw [ea4]; exact True.intro) (.inl rfl) k5 ⟨_, e5⟩ (exo_ok e5)
    rw [exo_upd ea4] at I5
    have I6 : Inv (ncx CX P w K mg base N F f A outer s H E) [] (startF N (.ref a :: vr) [some (.ref C)]) H4 ⟨h5, g4, d4, tk4, os4⟩ := ⟨I5.ok, I5.os, I5.bare, I5.base, I5.loc, I5.cell, I5.free, I5.freeC, fun p hp => absurd (show p ∈ ([] : List (Addr × Obj)) ++ [] from hp) (by simp), I5.hok, I5.len⟩
    exact wpAt_of_wpAny (wpAny_mono (hR.run [] _ _ _ _ I6 tr4) (fun fl s' z => fin z) fun _ _ z => z)
end
end Wx

namespace Wx
open PySem PySem.Spec PyProof.Rows L2
/-! a caught exception that is kept behind its except suite -/
/-- at a: an exception of the class cls, its dict d -/
def exv (cls : Value) (d : Option Addr) (a : Addr) : HO := .ext fun h => ∃ (oe : Obj) (vs : Array Value), h.get? a = some oe ∧ Zc cls d oe ∧ oe.data = .fields vs
theorem exv_ok {P : Program} {w : World} {H : Hp} {h : Heap} {a : Addr} {cls : Value} {d : Option Addr} {oe : Obj} {vs : Array Value} (e : h.get? a = some oe) (z : Zc cls d oe) (q : oe.data = .fields vs) : ObjOk P w H h a (exv cls d a) :=
  ⟨⟨oe, vs, e, z, q⟩, ⟨oe, e⟩, fun _ _ ⟨o, v, x, y⟩ k => ⟨o, v, k o x, y⟩⟩
theorem exv_at {P : Program} {w : World} {H : Hp} {h : Heap} {a : Addr} {cls : Value} {d : Option Addr} (x : HOk P w H h) (e : H a = some (exv cls d a)) : ∃ (oe : Obj) (vs : Array Value), h.get? a = some oe ∧ Zc cls d oe ∧ oe.data = .fields vs := by
  have y : ObjOk P w H h a (.ext fun h => ∃ (oe : Obj) (vs : Array Value), h.get? a = some oe ∧ Zc cls d oe ∧ oe.data = .fields vs) := x a _ e
  exact y.1
section
variable {X : Cx} {pins : List (Addr × Obj)} {σ : L2.St} {H : Hp} {s : Shared}
theorem tracked {a : Addr} {oe : Obj} {vs : Array Value} {cls : Value} {d : Option Addr} (J : Inv X ((a, oe) :: pins) σ H s) (n0 : X.s_0.heap.get? a = none) (np : ∀ p, p ∈ X.pn ++ pins → p.1 ≠ a) (hz : Zc cls d oe) (hd : oe.data = .fields vs) :
    Inv X pins σ (upd H a (exv cls d a)) s := by
  obtain ⟨ga, na, nL, nF, nc⟩ := J.pin (a, oe) (List.mem_append_right _ List.mem_cons_self)
  have ga : s.heap.get? a = some oe := ga
  have na : H a = none := na
  have neS : ∀ {b : Addr} {o : HO}, H b = some o → b ≠ a := fun e => ne_of_none e na
  have ne0 : ∀ {b : Addr} {o : Obj}, X.s_0.heap.get? b = some o → b ≠ a := fun {b o} e z => by
    rw [z, n0] at e
    cases e
  refine ⟨J.ok, J.os, J.bare, ⟨J.base.keep, J.base.slot, fun b o e n x => ?_, J.base.there, fun b xs e => ?_, fun b o u e => ?_, fun b ps e => ?_⟩, J.loc, J.cell, ?_, fun y c e => ?_, fun p hp => ?_, fun b u e => ?_, J.len⟩
  · rw [upd_ne (ne0 e)]
    exact J.base.free b o e n x
  · have q := J.base.tups b xs e
    rw [upd_ne (neS q)]
    exact q
  · have q := J.base.frzs b o u e
    rw [upd_ne (neS q)]
    exact q
  · obtain ⟨ms, q⟩ := J.base.tbls b ps e
    exact ⟨ms, by rw [upd_ne (neS q)]; exact q⟩
  · rw [upd_ne (fun z => nL z.symm)]
    exact J.free
  · have nca : c ≠ a := fun z => by
      obtain ⟨v, o, q1, q2⟩ := J.cell y c e
      rw [z, ga] at q1
      cases q1
      exact nc _ q2
    rw [upd_ne nca]
    exact J.freeC y c e
  · have hm : p ∈ X.pn ++ (a, oe) :: pins := by
      rcases List.mem_append.mp hp with z | z
      · exact List.mem_append_left _ z
      · exact List.mem_append_right _ (List.mem_cons_of_mem _ z)
    obtain ⟨q1, q2, q3, q4, q5⟩ := J.pin p hm
    exact ⟨q1, by rw [upd_ne (np p hp)]; exact q2, q3, q4, q5⟩
  · by_cases hb : b = a
    · subst hb
      rw [upd_same] at e
      cases e
      exact exv_ok ga hz hd
    · rw [upd_ne hb] at e
      exact (J.hok b u e).stay (fun _ _ _ q => q) (fun c q => by rw [upd_ne (neS q)]; exact q) fun c xs q => by rw [upd_ne (neS q)]; exact q
end
/-- what 'except x as n: ..' wishes, the exception kept: slot i is n's -/
def wKeep (K : PySem.W.Frag) (c : Value) (i : Nat) (ts : Addr → Value → Option Addr → TS) (Wout : WX) (D : Ends) : WX := fun cls d σ H =>
  ∃ b, PySem.W.exmOne K cls c = some b ∧ (b = true → ∀ a, H a = none → ts a cls d { nx := fun σ1 H1 => D.nx (σ1.set i none) (upd H1 a (exv cls d a)), rt := fun v H1 => D.rt v (upd H1 a (exv cls d a)), bk := fun σ1 H1 => D.bk (σ1.set i none) (upd H1 a (exv cls d a)), ct := fun σ1 H1 => D.ct (σ1.set i none) (upd H1 a (exv cls d a)) } (σ.set i (some (.ref a))) H) ∧
    (b = false → Wout cls d σ H)
section
variable {X : Cx} {x n : Str} {c : Value} {i : Nat} {body suite : List Stmt} {b₀ : Stmt} {np pos pos' : Pos} {tb : WX → TS} {ts : Addr → Value → Option Addr → TS} {Wout : WX}
theorem ps_try_keep (hex : X.ex = []) (stk : X.stack = X.env :: X.outer) (frm : X.env.frame = some X.env.locals) (nd : X.N.Nodup) (atI : X.N[i]? = some n) (lcl : X.env.kindOf n = some .local) (nms : Names X x c) (tko : Takes X Wout)
    (hbody : ∀ (W : WX) (pn : List (Addr × Obj)) (xe : Value → Shared → Prop), Takes (X.tr pn xe) W → PassesOwn (model X.prog X.w) X.A X.env xe → PSs (X.tr pn xe) body (tb W))
    (hsuite : ∀ (a : Addr) (oe : Obj) (cls : Value) (d : Option Addr) (pn : List (Addr × Obj)), Zc cls d oe → (∃ vs, oe.data = .fields vs) → PSs (X.suite a ((a, oe) :: pn)) (b₀ :: suite) (ts a cls d)) :
    PS X (.Try body [.ExceptHandler (some (.Name x np)) (some n) (b₀ :: suite) pos'] [] [] pos) (fun D σ H => tb (wKeep X.K c i ts Wout D) D σ H) := by
  refine ⟨fun pins s σ H D I0 rd => ?_⟩
  have okX := I0.ok
  have frA : X.A.frames = some (X.env :: X.outer) := okX.frames.trans (congrArg some stk)
  have locN : Loc X.env.scope n := Or.inl lcl
  refine wpAny_Try_except (wpAny_mono ((hbody (wKeep X.K c i ts Wout D) (X.pn ++ pins) (fun e s₁ => wpAny (model X.prog X.w) X.A (noteFrame e X.env) (fun _ s₂ => wpAny (model X.prog X.w) X.A (setFlight e none) (fun _ s₃ =>
      wpAny (model X.prog X.w) X.A (handleBy e X.env [.ExceptHandler (some (.Name x np)) (some n) (b₀ :: suite) pos']) (SP X pins D) X.xe s₃) X.xe s₂) X.xe s₁) (fun u s' caught => ?_) PassesOwn.looking).run [] s σ H D (I0.toTry _) rd) (fun fl s1 done => ?_) (fun _ _ z => z))
  · obtain ⟨a, B, sI, pinsT, σT, HT, cls, d, rfl, JT, nb, upT, skyT, naT, osT, agT, b, hcl, hyes, hno⟩ := caught
    have JX : Inv X pins σT HT sI := Inv.ofTry JT okX
    have skyX : Sky B (X.env :: X.outer) a (Zc cls d) X.env.locals s'.heap := stk ▸ skyT
    show wpAny _ X.A (noteFrame (Value.ref a) X.env) _ _ _
    refine Sky.land Zc.steady frA frm skyX (fun hq flq upq => ?_)
    have Jq : Inv X pins σT HT { s' with heap := hq } := JX.landed nb flq.1 (upT.trans upq) osT agT
    obtain ⟨oeq, vsq, heq, hzq, hdq⟩ := flq.there
    have nfr : a ∉ frs (X.env :: X.outer) := fun hm => by
      obtain ⟨_, o', e', nf'⟩ := flq.2.2.1.mem hm
      have z := heq.symm.trans e'
      cases z
      exact nf' _ hdq
    have nLoc : a ≠ X.env.locals := fun z => nfr (List.mem_filterMap.mpr ⟨X.env, List.mem_cons_self, frm.trans (congrArg some z.symm)⟩)
    have nOut : a ∉ X.fs := fun hm => by
      obtain ⟨ev, hev, qv⟩ := List.mem_filterMap.mp hm
      exact nfr (List.mem_filterMap.mpr ⟨ev, List.mem_cons_of_mem _ hev, qv⟩)
    -- the exception is younger than the frame
    have sInone : sI.heap.get? a = none := by
      cases z : sI.heap.get? a with
      | none => rfl
      | some o =>
        have Bn : B.get? a = none := by
          rcases skyX with ⟨_, q, _⟩ | q | q
          · exact q
          · exact q.2.1
          · exact q.2.1
        have y := nb a o z (fun hm => nfr (by rw [← stk]; exact hm))
        rw [Bn] at y
        cases y
    have s0none : X.s_0.heap.get? a = none := by
      cases z : X.s_0.heap.get? a with
      | none => rfl
      | some o =>
        obtain ⟨o2, y⟩ := JX.base.there a o z (by rw [hex]; simp)
        rw [sInone] at y
        cases y
    have pinNe : ∀ p, p ∈ X.pn ++ pins → p.1 ≠ a := fun p hp z => by
      have y := (JX.pin p hp).1
      rw [z, sInone] at y
      cases y
    have Sq := Jq.suite heq hdq naT nLoc nOut
    refine wpAny_handleBy_cons (codeAny_handlers_test ?_) (by rintro ⟨⟩)
    have LTy : PySem.W.Looks (model X.prog X.w) hq (typeOf (.ref a)) cls := fun A Q E s k q => wpAny_typeOf_ref (k _ _ heq) (hzq.1 ▸ q)
    have LEx := PySem.W.exm_one (M := model X.prog X.w) Jq.kIn LTy hcl
    have tst : ∀ {Q : Value → Shared → Prop} {E : Value → Shared → Prop}, Q c { s' with heap := hq } → wpAny (model X.prog X.w) (X.A.mark (some (.ref a))) (eval (.Name x np) X.env) Q E { s' with heap := hq } := fun {Q E} q => by
      obtain ⟨g1, g2, g3 | ⟨g3, g4, g5⟩⟩ := nms
      · exact ld_glob (X := X.suite a ((a, oeq) :: (X.pn ++ pins))) Sq g1 g3 q g2
      · exact ld_blt (X := X.suite a ((a, oeq) :: (X.pn ++ pins))) Sq g1 g3 g4 q g5 g2
    refine tst (LEx.here ?_)
    cases b with
    | true =>
      refine codeAny_handlers_suite_as (HandSPX.lands_againZ flq fun hr flr upr => ?_)
      have Jr : Inv X pins σT HT { s' with heap := hr } := JX.landed nb flr.1 ((upT.trans upq).trans upr) osT agT
      obtain ⟨oer, vsr, her, hzr, hdr⟩ := flr.there
      have Sr := Jr.suite her hdr naT nLoc nOut
      refine store_ok (X := X.suite a ((a, oer) :: (X.pn ++ pins))) (v := V.ref a) Sr nd atI locN rfl (fun s5 S5 => ?_) (Or.inr lcl)
      refine wpAny_mono ((hsuite a oer cls d (X.pn ++ pins) hzr ⟨_, hdr⟩).run [] s5 _ HT _ S5 (hyes rfl a naT)) (fun fl s6 out => ?_) (fun _ _ z => z.elim)
      have leave : ∀ {σ6 : L2.St} {H6 : Hp} {Q : Shared → Prop}, Inv (X.suite a ((a, oer) :: (X.pn ++ pins))) [] σ6 H6 s6 → (∀ s7, Inv X pins (σ6.set i none) (upd H6 a (exv cls d a)) s7 → Q s7) →
          wpAny (model X.prog X.w) X.A (do bindName X.env n .none; unbindBehindTheSuite X.env n pos') (fun _ s7 => Q s7) X.xe s6 := fun {σ6 H6 Q} S6 hQ => by
        have S7 : Inv X ((a, oer) :: pins) σ6 H6 s6 := ⟨okX, S6.os, S6.bare, S6.base, S6.loc, S6.cell, S6.free, S6.freeC, fun p hp => S6.pin p (by
          rw [List.append_nil]
          rcases List.mem_append.mp hp with z | z
          · exact List.mem_cons_of_mem _ (List.mem_append_left _ z)
          · rcases List.mem_cons.mp z with y | y
            · rw [y]
              exact List.mem_cons_self
            · exact List.mem_cons_of_mem _ (List.mem_append_right _ y)), S6.hok, S6.len⟩
        exact gone_ok S7 nd atI lcl fun s7 J7 => hQ s7 (tracked J7 s0none pinNe hzr hdr)
      cases fl with
      | next =>
        obtain ⟨σ6, H6, S6, q6⟩ := out
        exact leave S6 fun s7 J7 => ⟨_, _, J7, q6⟩
      | brk =>
        obtain ⟨σ6, H6, S6, q6⟩ := out
        exact leave S6 fun s7 J7 => ⟨_, _, J7, q6⟩
      | cont =>
        obtain ⟨σ6, H6, S6, q6⟩ := out
        exact leave S6 fun s7 J7 => ⟨_, _, J7, q6⟩
      | ret u =>
        obtain ⟨v6, σ6, H6, S6, r6, q6⟩ := out
        exact leave S6 fun s7 J7 => ⟨_, _, _, J7, r6, q6⟩
    | false =>
      show wpAny _ X.A (handleBy (Value.ref a) X.env []) _ _ _
      refine wpAny_handleBy_nil ?_
      obtain ⟨z1, z2, z3, oe, vs, T1, oT1, tsT, he, hz, hd, h1, hr1⟩ := id flq
      unfold PySem.passOn
      refine wpAny_bind (wpAny_field he hd h1 ?_)
      rw [if_neg (show ¬ ((Value.ref T1 == Value.none) = true) by simp)]
      have fin : wpAny (model X.prog X.w) X.A (setFlight (.ref a) X.env.frame) (fun _ s4 => wpAny (model X.prog X.w) X.A (throw (.ref a) : Sem Flow) (SP X pins D) X.xe s4) X.xe { s' with heap := hq } := by
        rw [frm]
        exact HandSPX.setFlight_upZ flq fun h4 hh4 up4 => wpAny_throw (tko _ _ ⟨a, B, sI, pins, σT, HT, cls, d, rfl, JX, nb, (upT.trans upq).trans up4, .inr (.inr (by rw [stk]; exact hh4)), naT, osT, agT, hno rfl⟩)
      first
        | exact wpAny_bind (wpAny_pure (wpAny_bind fin))
        | exact wpAny_bind fin
  · cases fl with
    | next =>
      obtain ⟨σ1, H1, J1, q1⟩ := done
      exact wpAny_execs_nil ⟨σ1, H1, J1.ofTry okX, q1⟩
    | brk =>
      obtain ⟨σ1, H1, J1, q1⟩ := done
      exact ⟨σ1, H1, J1.ofTry okX, q1⟩
    | cont =>
      obtain ⟨σ1, H1, J1, q1⟩ := done
      exact ⟨σ1, H1, J1.ofTry okX, q1⟩
    | ret u =>
      obtain ⟨v1, σ1, H1, J1, r1, q1⟩ := done
      exact ⟨v1, σ1, H1, J1.ofTry okX, r1, q1⟩
end
end Wx

namespace Wx
open PySem PySem.Spec PyProof.Rows L2 NdefX
section
variable {X : Cx}
/-- e.n, e a kept exception of an own class -/
def tEv (K : PySem.W.Frag) (n : Str) (te : TE) : TE := fun σ H Q => te σ H fun x H1 => ∃ (a C dd : Addr) (fs : List (Str × V)) (v : V), x = .ref a ∧ XfC K C ∧ PySem.W.findIn K (.ref C) n = some none ∧ H1 a = some (exv (.ref C) (some dd) a) ∧ H1 dd = some (.xd fs) ∧ fs.lookup n = some v ∧ Q v H1
theorem pe_ev {e : Expr} {te : TE} {pos : Pos} {n : Str} (he : PE X e te) (hb : attributeBase e n X.env (eval e X.env) = eval e X.env := by rfl) : PE X (.Attribute e n pos) (tEv X.K n te) := by
  refine ⟨fun pins s σ H Q I h => attr_of hb (thn (he.run pins s σ H _ I h) fun u s1 got => ?_)⟩
  obtain ⟨x, H1, I1, rx, a, C, dd, fs, v, ex, T, hno, ea, ed, hl, q⟩ := got
  subst ex
  obtain rfl : u = Value.ref a := rx
  obtain ⟨oe, vs, ga, hz, hd⟩ := exv_at I1.hok ea
  obtain ⟨mA, hns, hr⟩ : ObjOk X.prog X.w H1 s1.heap dd (.xd fs) := I1.hok dd _ ed
  obtain ⟨od, ho, hlk⟩ := lookIn_ns hns
  obtain ⟨u, hu, ru⟩ := RelO.some_of (v := v) (o := mA n) (by rw [← hl]; exact hr n)
  have inst : PySem.W.InstAt s1.heap a oe C (some od) := ⟨ga, hz.1, by unfold PySem.W.notCls; rw [hd] <;> rfl, by rw [hz.2]; exact ho⟩
  exact HandSPX.exc_get I1.kIn inst T.ga T.gg T.exC (PySem.W.findObj_own T.hdC hno rfl (by rw [hlk, hu])) (handed_of ru) ⟨v, H1, I1.tok _, ru, q⟩
/-- isinstance(e, c), e a kept exception of an own class -/
def rIsX (K : PySem.W.Frag) : List V → Hp → VK → Prop := fun xs H Q => ∃ (a C : Addr) (d : Option Addr) (c : V) (u : Value) (b : Bool), xs = [.ref a, c] ∧ ClsV c u ∧ ExcC K C ∧ H a = some (exv (.ref C) d a) ∧ (∀ dd, d = some dd → ∃ fs, H dd = some (.xd fs)) ∧ PySem.W.kitOne K (.ref C) u = some b ∧ Q (.bl b) H
theorem call_isX : CallR X (.builtin "isinstance") (rIsX X.K) := by
  intro pins s σ H xs us Q I r h
  obtain ⟨a, C, d, c, u, b, rfl, hc, T, ea, hd, hk, q⟩ := h
  cases r with
  | cons r1 r2 =>
    cases r2 with
    | cons r3 r4 =>
      cases r4
      cases r1
      have eu := hc.eq r3
      subst eu
      obtain ⟨oe, vs, ga, hz, hf⟩ := exv_at I.hok ea
      have inst : ∃ od, PySem.W.InstAt s.heap a oe C od := by
        cases d with
        | none => exact ⟨none, ga, hz.1, by unfold PySem.W.notCls; rw [hf] <;> rfl, by rw [hz.2]; trivial⟩
        | some dd =>
          obtain ⟨fs, ed⟩ := hd dd rfl
          obtain ⟨mA, hns, _⟩ : ObjOk X.prog X.w H s.heap dd (.xd fs) := I.hok dd _ ed
          obtain ⟨od, ho, _⟩ := lookIn_ns hns
          exact ⟨some od, ga, hz.1, by unfold PySem.W.notCls; rw [hf] <;> rfl, by rw [hz.2]; exact ho⟩
      obtain ⟨od, inst⟩ := inst
      have hcl : (PySem.W.clsIn X.K C).isSome = true := by
        obtain ⟨cd, hcd, _⟩ := PySem.W.any_some T.hd
        rw [hcd]
        rfl
      exact PySem.W.kia_one (PySem.W.kitx_exc hcl T.hg T.hk T.hs T.ha T.hn T.ht T.hm) I.kIn inst hk (fun z => nomatch z) fun tk => ⟨.bl b, H, I.kept (t' := tk) fun _ _ z => z, rfl, q⟩
theorem call_repr_str : CallR X (.builtin "repr") (fun xs H Q => ∃ z, xs = [.str z] ∧ (reprText z).length ≤ sizeLine ∧ Q (.str (reprText z)) H) := by
  intro pins s σ H xs us Q I r h
  obtain ⟨z, rfl, hz, q⟩ := h
  obtain ⟨u, rfl, t, rfl⟩ := vals1 r
  exact PySem.P.repr_of_str ⟨.str (reprText z), H, I.tok _, ⟨_, rfl⟩, q⟩ hz
end
/-! ### what the errors' modules promise -/
/-- a value that a message can show -/
def ShowOk (x : V) : Prop := (∃ z, x = .str z ∧ (reprText z).length ≤ 20000) ∨ (∃ i, x = .int i) ∨ x = .non ∨ ∃ b, x = .bl b
def sp_shown : Sp := fun vs H Q _ => ∃ x, vs = [x] ∧ ShowOk x ∧ ∀ y : Str, y.length ≤ 20000 → Q (.str y) H
/-- __init__ of an own error: the object at a gets a dict of these fields -/
def InitLeaves (H : Hp) (a C : Addr) (fs : List (Str × V)) (Q : VK) : Prop := ∀ (dx : Addr) (H' : Hp), H dx = none → (∀ b o, b ≠ a → H b = some o → H' b = some o) → H' a = some (exo a C (some dx)) → H' dx = some (exd dx fs) → Q .non H'
def spBadNumber (C : Addr) : Sp := fun vs H Q _ => ∃ (a : Addr) (z : Str) (v : V), vs = [.ref a, .str z, v] ∧ H a = some (exo a C none) ∧ z.length ≤ 1000 ∧ ShowOk v ∧ InitLeaves H a C [("value", v), ("what", .str z)] Q
def spBadName (C : Addr) : Sp := fun vs H Q _ => ∃ (a : Addr) (v : V), vs = [.ref a, v] ∧ H a = some (exo a C none) ∧ ShowOk v ∧ InitLeaves H a C [("name", v)] Q
/-- all that is asked of an own error class -/
structure ErrC (P : Program) (K : PySem.W.Frag) (mg : Str → Option Value) (x qual : Str) (C f cda cc : Addr) : Prop where
  g : mg x = some (.ref C)
  sup : SupTxt P K mg C cda cc qual
  ini : PySem.W.findIn K (.ref C) "__init__" = some (some (.ref f))
  tyI : PySem.W.typeIn K (.ref f) = some (.type "function")
  xf : XfC K C
  isx : ExcC K C
  exm : PySem.W.exmOne K (.ref C) (.ref C) = some true
  noWhat : PySem.W.findIn K (.ref C) "what" = some none
  noValue : PySem.W.findIn K (.ref C) "value" = some none
  noName : PySem.W.findIn K (.ref C) "name" = some none
  noTurn : PySem.W.findIn K (.ref C) "turn" = some none
theorem init_leaves2 {H : Hp} {a C : Addr} {f1 f2 : Str} {v1 v2 : V} {Q : VK} (ha : H a = some (exo a C none)) (k : InitLeaves H a C [(f2, v2), (f1, v1)] Q) {dx : Addr} (nd : H dx = none) (ne : dx ≠ a) :
    Q .non (upd (upd (upd H dx (exd dx [(f1, v1)])) a (exo a C (some dx))) dx (exd dx [(f2, v2), (f1, v1)])) := by
  refine k dx _ nd (fun b o nb e => ?_) ?_ upd_same
  · have nbd : b ≠ dx := ne_of_none e nd
    rw [upd_ne nbd, upd_ne nb, upd_ne nbd]
    exact e
  · rw [upd_ne (Ne.symm ne)]
    exact upd_same
theorem init_leaves1 {H : Hp} {a C : Addr} {f1 : Str} {v1 : V} {Q : VK} (k : InitLeaves H a C [(f1, v1)] Q) {dx : Addr} (nd : H dx = none) (ne : dx ≠ a) : Q .non (upd (upd H dx (exd dx [(f1, v1)])) a (exo a C (some dx))) := by
  refine k dx _ nd (fun b o nb e => ?_) upd_same ?_
  · rw [upd_ne nb, upd_ne (ne_of_none e nd)]
    exact e
  · rw [upd_ne ne]
    exact upd_same
/-- C(..) made: its promise by what __init__ leaves; the exception itself goes, its dict stays -/
theorem made_of {H1 : Hp} {a C : Addr} {fs : List (Str × V)} {Q : XK} (na : H1 a = none) (k : ∀ (d : Addr) (H' : Hp), H1 d = none → Same H1 H' → H' d = some (.xd fs) → Q (.ref C) (some d) H') :
    InitLeaves (upd H1 a (exo a C none)) a C fs (fun v H2 => v = .non ∧ ∃ (d : Addr) (gs : List (Str × V)), H2 a = some (exo a C (some d)) ∧ H2 d = some (exd d gs) ∧ H1 d = none ∧ Q (.ref C) (some d) (upd (del H2 a) d (.xd gs))) := fun dx H' nd keep ha hd => by
  have nda : dx ≠ a := fun z => by
    rw [z, upd_same] at nd
    cases nd
  have nd1 : H1 dx = none := by
    rw [upd_ne nda] at nd
    exact nd
  refine ⟨rfl, dx, fs, ha, hd, nd1, k dx _ nd1 (fun b o e => ?_) upd_same⟩
  have nba : b ≠ a := ne_of_none e na
  rw [upd_ne (ne_of_none e nd1), del_ne nba]
  exact keep b o nba (by rw [upd_ne nba]; exact e)
end Wx

namespace Wx
open PySem PySem.Spec PyProof.Rows L2 NdefX
theorem gives_lt_ib (p : Bool) (b : Int) (u : Tok) : Gives (Builtin.«int.__lt__» ⟨[.bool p, .int b u], []⟩) (.val (Value.bool (decide ((if p = true then (1 : Int) else 0) < b)))) :=
  .of_wp fun M A E s Q h => by obtain ⟨hp, g, d, tk, os⟩ := s; wp_walk; exact ⟨_, rfl, h⟩
theorem gives_gt_ib (p : Bool) (b : Int) (u : Tok) : Gives (Builtin.«int.__gt__» ⟨[.bool p, .int b u], []⟩) (.val (Value.bool (decide ((if p = true then (1 : Int) else 0) > b)))) :=
  .of_wp fun M A E s Q h => by obtain ⟨hp, g, d, tk, os⟩ := s; wp_walk; exact ⟨_, rfl, h⟩
section
variable {prog : Program} {w : World} {A : Around} {E : Value → Shared → Prop} {s : Shared}
theorem lt_bool_int {p : Bool} {b : Int} {u : Tok} {Q : Value → Shared → Prop} (h : Q (.bool (decide (PyProof.Rows.b2i p < b))) s) : wpAny (model prog w) A (compareOp .Lt (.bool p) (.int b u)) Q E s := by
  show wpAny _ A (richCompare .Lt _ _) Q E s
  exact PySem.SeqAt.rc_left_or rfl (typeIs_int s b u) (by decide) F.sub_int_bool F.slot_bool_lt
    (call_gives F.slot_bool_lt rfl F.entry_int_lt (F.args_int_lt_2 _ _) (gives_lt_ib p b u) ⟨nofun, h⟩) (.inl rfl)
theorem lt_int_bool {p : Bool} {a : Int} {t : Tok} {Q : Value → Shared → Prop} (h : Q (.bool (decide (a < PyProof.Rows.b2i p))) s) : wpAny (model prog w) A (compareOp .Lt (.int a t) (.bool p)) Q E s := by
  show wpAny _ A (richCompare .Lt _ _) Q E s
  exact PySem.SeqAt.rc_sub_first_or (typeIs_int s a t) rfl (by decide) F.sub_bool_int F.slot_bool_gt
    (call_gives F.slot_bool_gt rfl F.entry_int_gt (F.args_int_gt_2 _ _) (gives_gt_ib p a t) ⟨nofun, h⟩) (.inl rfl)
end
def nV : V → Option Int | .int i => some i | .bl b => some (if b = true then 1 else 0) | _ => none
section
variable {X : Cx}
theorem op_ltM : OpR X (compareOp .Lt) (fun x y H Q => ∃ i j, nV x = some i ∧ nV y = some j ∧ Q (.bl (decide (i < j))) H) := by
  intro pins s σ H x y v u Q I rx ry h
  obtain ⟨i, j, hx, hy, q⟩ := h
  cases x with
  | int a =>
    obtain rfl : a = i := Option.some.inj hx
    obtain ⟨t, rfl⟩ := rx
    cases y with
    | int b =>
      obtain rfl : b = j := Option.some.inj hy
      obtain ⟨t', rfl⟩ := ry
      exact PyProof.Rows.lt_int (fin_bl I q rfl)
    | bl b =>
      obtain rfl : (if b = true then 1 else 0) = j := Option.some.inj hy
      cases ry
      exact lt_int_bool (fin_bl I q rfl)
    | _ => cases hy
  | bl a =>
    obtain rfl : (if a = true then 1 else 0) = i := Option.some.inj hx
    cases rx
    cases y with
    | int b =>
      obtain rfl : b = j := Option.some.inj hy
      obtain ⟨t', rfl⟩ := ry
      exact lt_bool_int (fin_bl I q rfl)
    | bl b =>
      obtain rfl : (if b = true then 1 else 0) = j := Option.some.inj hy
      cases ry
      exact PyProof.Rows.lt_bool (fin_bl I q rfl)
    | _ => cases hy
  | _ => cases hx
theorem call_str_ib : CallR X (.type "str") (fun xs H Q => (∃ i, xs = [.int i] ∧ i.natAbs.log2 < 1920 ∧ Q (.str (toString i)) H) ∨ ∃ b, xs = [.bl b] ∧ Q (.str (if b = true then "True" else "False")) H) := by
  intro pins s σ H xs us Q I r h
  rcases h with ⟨i, rfl, hz, q⟩ | ⟨b, rfl, q⟩
  · obtain ⟨u, rfl, t, rfl⟩ := vals1 r
    exact PySem.P.str_of_int hz ⟨.str _, H, I.tok _, ⟨_, rfl⟩, q⟩
  · obtain ⟨u, rfl, hu⟩ := vals1 r
    obtain rfl : u = Value.bool b := hu
    exact PySem.P.str_of_bool ⟨.str _, H, I.tok _, ⟨_, by cases b <;> rfl⟩, q⟩
end
end Wx

namespace Wx
open PySem PySem.Spec PyProof.Rows L2 NdefX
/-! == and != by an own __eq__, any answer; C(..) inside a try -/
section
variable {prog : Program} {w : World} {A : Around} {E : Value → Shared → Prop} {K : PySem.W.Frag} {s : Shared} {x C f : Addr} {ox : Obj} {od : Option Obj}
theorem ifBound_B {M : Model} {name : Str} {id : String} {args : List Value} {Q : Option Value → Shared → Prop} (X : K.In s.heap) (I : PySem.W.InstAt s.heap x ox C od) (hs : PySem.W.findIn K (.ref C) name = some (some (.builtin id)))
    (hb : ∀ self, bindSpecial (.builtin id) self = pure (.builtin id, [self]))
    (h : wpAny M A (call (.builtin id) (.ref x :: args)) (fun v => Q (some v)) E s) : wpAny M A (callSpecialIfBound? (.ref x) name args) Q E s := by
  simp only [callSpecialIfBound?, bindSpecialIfBound?]
  refine wpAny_holding (wpAny_bind (wpAny_bind (wpAny_bind (I.type.here ((PySem.W.looks_findIn X hs).here ?_)))))
  refine wpAny_bind (wpAny_askSetting (wpAny_ite ?_))
  have fin : wpAny M A (call (.builtin id) ([.ref x] ++ args) >>= fun v => pure (some v)) Q E s := wpAny_bind (wpAny_mono h (fun v s' h' => wpAny_pure h') fun _ _ h' => h')
  simp only [hb]
  split
  · exact wpAny_bind (wpAny_pure (wpAny_pure (by exact fin)))
  · exact wpAny_tryCatch (wpAny_bind (wpAny_pure (wpAny_pure (by exact fin))))
theorem objNe_K {b : Value} {Q : Fin → Shared → Prop} (X : K.In s.heap) (I : PySem.W.InstAt s.heap x ox C od) (hs : PySem.W.findIn K (.ref C) "__eq__" = some (some (.ref f))) (hf : PySem.W.isFn K (.ref f) = true) (hu : A.units < cLine)
    (h : wpAny (model prog w) A (call (.ref f) [.ref x, b]) (fun v s' => ∃ k, v = .bool k ∧ Q (.done (.ret (.bool (!k)))) s') E s) : wpAny (model prog w) A (Builtin.«object.__ne__» ⟨[.ref x, b], []⟩) Q E s := by
  unfold Builtin.«object.__ne__»
  repeat (first
    | with_reducible refine wpAny_cRoomFor hu ?_
    | (refine wpAny_bind (m := callSpecialIfBound? (.ref x) (Str.ofString "__eq__") [b])
        (PySem.W.ifBound_K X I hs hf (wpAny_mono h (fun r s' hr => by
          obtain ⟨k, rfl, hq⟩ := hr
          repeat (first | exact hq | exact wpAny_pure hq | exact wpAny_truthy_bool hq | (refine wpAny_bind (m := truthy (.bool _)) (wpAny_truthy_bool ?_)) | wp_step)) fun _ _ e => e)))
    | wp_step)
/-- x != y by the class's own __eq__ -/
theorem ne_K {L : Addr} {h₀ : Heap} {m : Str → Option Value} {b tb : Value} {Q : Value → Shared → Prop} (hu : A.units + 1 < cLine) (FR : Fr h₀ L s.heap m) (X₀ : K.In h₀) (I : PySem.W.InstAt s.heap x ox C od) (hb : PySem.W.Looks (model prog w) s.heap (typeOf b) tb) (hn : PySem.W.notFirst K C tb = true)
    (hne : PySem.W.findIn K (.ref C) "__ne__" = some (some (.builtin "object.__ne__"))) (ho : PySem.W.subIn K (.ref C) (.type "object") = some true)
    (hs : PySem.W.findIn K (.ref C) "__eq__" = some (some (.ref f))) (hf : PySem.W.isFn K (.ref f) = true)
    (h : wpAny (model prog w) A.in1 (call (.ref f) [.ref x, b]) (fun v s' => ∃ k, v = .bool k ∧ Q (.bool (!k)) s') E s) : wpAny (model prog w) A (richCompare .NotEq (.ref x) b) Q E s := by
  have X := X₀.keeps FR.keep
  have one : wpAny (model prog w) A (tryCompare (.ref x) "__ne__" b) (fun r s' => ∃ v, r = some v ∧ Q v s') E s := by
    simp only [tryCompare]
    refine wpAny_bind (ifBound_B X I hne F.cmp_object.ne.bind (wpAny_call (codeAny_call_builtin F.cmp_object.ne.plain F.cmpEntry_ne
      (@PySem.W.check_slot (model prog w) _ _ s "object.__ne__" "object" "__ne__" (.ref x) [b] [] _ F.cmpKind_ne F.cmpSplit_ne (I.type.andThen (PySem.W.looks_subIn X ho)) (F.cmpArgs_ne _ _)
        (objNe_K (A := A.in1) X I hs hf hu (wpAny_mono h (fun v s' hv => ?_) fun _ _ e => e))))))
    obtain ⟨k, rfl, hq⟩ := hv
    first | exact ⟨k, rfl, wpAny_pure ⟨_, rfl, hq⟩⟩ | exact ⟨k, rfl, wpAny_pure (wpAny_pure ⟨_, rfl, hq⟩)⟩ | exact ⟨k, rfl, _, rfl, hq⟩
  unfold richCompare
  simp only [oneThing_ref]
  refine wpAny_holding (wpAny_bind (wpAny_cRoomFor (Nat.lt_of_succ_lt hu) ?_))
  rw [cmpInfo_NotEq]
  dsimp only
  refine wpAny_bind (I.type.here (wpAny_bind (hb.here ?_)))
  split
  · rename_i q
    have e : PySem.W.subIn K tb (.ref C) = some false := by
      rcases Bool.or_eq_true_iff.mp hn with e | e
      · rw [beq_iff_eq.mp e] at q; simp at q
      · exact beq_iff_eq.mp e
    refine wpAny_bind ((PySem.W.looks_subIn X e).here ?_)
    simp only [Bool.false_eq_true, if_false]
    refine wpAny_bind (wpAny_mono one (fun r s' z => ?_) fun _ _ e => e)
    obtain ⟨v, rfl, hq⟩ := z
    exact wpAny_pure hq
  · refine wpAny_bind (wpAny_pure ?_)
    simp only [Bool.false_eq_true, if_false]
    refine wpAny_bind (wpAny_mono one (fun r s' z => ?_) fun _ _ e => e)
    obtain ⟨v, rfl, hq⟩ := z
    exact wpAny_pure hq
end
/-- two instances of the class at C -/
def rOwnI (K : PySem.W.Frag) (C : Addr) (sp : Sp) (E : XK) (g : Bool → Bool) : R2 := fun x y H Q => ∃ a dx fs b dy gs, x = .ref a ∧ y = .ref b ∧ H a = some (.ins C dx fs) ∧ H b = some (.ins C dy gs) ∧ sp [x, y] H (fun z H' => ∃ k, z = .bl k ∧ Q (.bl (g k)) H') E
section
variable {X : Cx} {CX : CXT} {C f : Addr} {n : Nat} {fd : FuncData} {ps : List Str} {sp : Sp} {E : XK}
theorem run_two {A : Around} {pins : List (Addr × Obj)} {σ : L2.St} {H : Hp} {s : Shared} {us : List Value} {vs : List V} {Q : VK} (F : FnOk X.prog X.w X.K X.mg X.base CX n f fd ps sp) (hr : Room n A) (e0 : Env0 X.prog X.w X.K X.mg X.base A X.stack s H) (hb : Binds X.K fd ps []) (hx : Passes CX X E)
    (I : Inv X pins σ H s) (r : Vals vs us) (h : sp vs H Q E) : wpAny (model X.prog X.w) A (call (.ref f) us) (EP X pins σ Q) X.xe s := by
  have hl : us.length = ps.length := by rw [← r.length]; exact F.len _ _ _ _ h
  refine wpAny_call (codeAny_mono (F.run A X.stack s H ⟨us, []⟩ us vs Q E hr e0 (by
    have := hb s us I.kIn (by simpa using hl)
    simpa using this) r h) fun r s' hq => ?_)
  cases r with
  | error e => exact hx pins σ H s e s' I hq
  | ok fl =>
    cases fl with
    | ret w => exact I.after hq
    | next => exact False.elim hq
    | brk => exact False.elim hq
    | cont => exact False.elim hq
theorem op_eqI (F : FnOk X.prog X.w X.K X.mg X.base CX n f fd ps sp) (hr : Room n X.A) (hs : PySem.W.findIn X.K (.ref C) "__eq__" = some (some (.ref f))) (hf : PySem.W.isFn X.K (.ref f) = true) (hb : Binds X.K fd ps []) (hx : Passes CX X E) : OpR X (compareOp .Eq) (rOwnI X.K C sp E id) := by
  intro pins s σ H x y v u Q I rx ry h
  obtain ⟨a, dx, fs, b, dy, gs, rfl, rfl, ha, hb', q⟩ := h
  cases (show v = Value.ref a from rx)
  cases (show u = Value.ref b from ry)
  obtain ⟨mA, J, _⟩ := ins_get I.hok ha
  obtain ⟨mB, J', _⟩ := ins_get I.hok hb'
  obtain ⟨od, J, _⟩ := J.look
  obtain ⟨od', J', _⟩ := J'.look
  obtain ⟨m, hF⟩ := I.fr
  show wpAny (model X.prog X.w) X.A (richCompare .Eq _ _) (EP X pins σ Q) X.xe s
  refine PySem.W.cmp_K (op := .Eq) (tb := .ref C) hr.units0 hF I.ok.mod.kin J J'.type (by simp [PySem.W.notFirst]) hs hf ?_
  refine wpAny_mono (run_two (us := [.ref a, .ref b]) (vs := [.ref a, .ref b]) F hr I.env0 hb hx I (.cons rfl (.cons rfl .nil)) q) (fun w s' z => ?_) fun _ _ x => x
  obtain ⟨z', H', I', rz, k, ez, qz⟩ := z
  subst ez
  cases (show w = Value.bool k from rz)
  exact ⟨.bl k, H', I', rfl, qz⟩
theorem op_neI (F : FnOk X.prog X.w X.K X.mg X.base CX n f fd ps sp) (hr : Room (n + 1) X.A) (hne : PySem.W.findIn X.K (.ref C) "__ne__" = some (some (.builtin "object.__ne__"))) (ho : PySem.W.subIn X.K (.ref C) (.type "object") = some true)
    (hs : PySem.W.findIn X.K (.ref C) "__eq__" = some (some (.ref f))) (hf : PySem.W.isFn X.K (.ref f) = true) (hb : Binds X.K fd ps []) (hx : Passes CX X E) : OpR X (compareOp .NotEq) (rOwnI X.K C sp E not) := by
  intro pins s σ H x y v u Q I rx ry h
  obtain ⟨a, dx, fs, b, dy, gs, rfl, rfl, ha, hb', q⟩ := h
  cases (show v = Value.ref a from rx)
  cases (show u = Value.ref b from ry)
  obtain ⟨mA, J, _⟩ := ins_get I.hok ha
  obtain ⟨mB, J', _⟩ := ins_get I.hok hb'
  obtain ⟨od, J, _⟩ := J.look
  obtain ⟨od', J', _⟩ := J'.look
  obtain ⟨m, hF⟩ := I.fr
  show wpAny (model X.prog X.w) X.A (richCompare .NotEq _ _) (EP X pins σ Q) X.xe s
  have hr1 : Room n X.A.in1 := hr.in1
  refine ne_K (tb := .ref C) hr1.units0 hF I.ok.mod.kin J J'.type (by simp [PySem.W.notFirst]) hne ho hs hf ?_
  refine wpAny_mono (run_two (us := [.ref a, .ref b]) (vs := [.ref a, .ref b]) F hr1 I.env0.in1 hb hx I (.cons rfl (.cons rfl .nil)) q) (fun w s' z => ?_) fun _ _ x => x
  obtain ⟨z', H', I', rz, k, ez, qz⟩ := z
  subst ez
  cases (show w = Value.bool k from rz)
  exact ⟨k, rfl, .bl (!k), H', I', rfl, qz⟩
end
section
variable {X : Cx} {CX : CXT} {k : Nat} {f C : Addr} {fd : FuncData} {ps : List Str} {sp : Sp} {E : L2.St → XK} {x : Str} {p pos : Pos} {e : Expr} {es : List Expr} {t : TA}
/-- C(..) where what is raised is wished for at the caller's slots -/
def tMakeS (C : Addr) (sp : Sp) (E : L2.St → XK) (t : TA) : TE := fun σ H Q => t σ H fun vs H1 => ∀ x dx, H1 x = none → H1 dx = none → dx ≠ x → sp (.ref x :: vs) (upd (upd H1 dx (.own x)) x (.ins C dx [])) (fun v H2 => v = .non ∧ Q (.ref x) H2) (E σ)
theorem pe_makeS (M : Mk X.K C f) (F : FnOk X.prog X.w X.K X.mg X.base CX k f fd ps sp) (hr : Room (k + 1) X.A) (hg : Gl X x) (hm : X.mg x = some (.ref C)) (hb : Binds X.K fd ps []) (hx : ∀ σ, PassesAt CX X σ (E σ))
    (ha : PA X (e :: es) t) (hdb : (x == ("__debug__" : Str)) = false := by decide) (he : starEach (e :: es) X.env = (false, eval e X.env) :: starEach es X.env := by rfl) (hpl : (backTo pos (starEach es X.env)).any (·.1) = false := by rfl) :
    PE X (.Call (.Name x p) (e :: es) [] pos) (tMakeS C sp E t) := by
  refine ⟨fun pins s σ H Q I h => ?_⟩
  refine wpAny_Call_Name_kw (ld_glob I hg hm ?_ hdb)
  refine PySem.W.callWith_K (h₀ := X.base) I.ok.mod.kin M.kp (thn (ha.run pos pins s σ H _ I h) fun us s1 ⟨vs, H1, I1, r, q⟩ => ⟨I1.kIn, ?_⟩) he hpl
  have hq := q (s1.heap.objs.size + 1) s1.heap.objs.size (I1.hok.fresh (Nat.le_succ _)) (I1.hok.fresh (Nat.le_refl _)) (Nat.ne_of_lt (Nat.lt_succ_self _))
  have I2 := Inv.made (C := C) I1
  have r2 : Vals (V.ref (s1.heap.objs.size + 1) :: vs) (Value.ref (s1.heap.objs.size + 1) :: us) := .cons rfl r
  have hl : (Value.ref (s1.heap.objs.size + 1) :: us).length = ps.length := by
    have e := r2.length
    rw [F.len _ _ _ _ hq] at e
    exact e.symm
  refine wpAny_call (make_map (f := f) I1.kIn M.makes M.init (beq_iff_eq.mp M.fn) (codeAny_mono (F.run _ X.stack _ _ ⟨Value.ref (s1.heap.objs.size + 1) :: us, []⟩ (Value.ref (s1.heap.objs.size + 1) :: us) _ _ (E σ) (hr.make C us [])
    (I2.env0.make C us []) (by
      have := hb _ (Value.ref (s1.heap.objs.size + 1) :: us) I2.kIn (by simpa using hl)
      simpa using this) r2 hq) fun r s' hq' => ?_))
  cases r with
  | error e => exact hx σ pins _ _ e s' I2 hq'
  | ok fl =>
    cases fl with
    | ret u =>
      obtain ⟨v, H', I3, rv, ev, q3⟩ := I2.after hq'
      subst ev
      exact ⟨rv, ⟨V.ref (s1.heap.objs.size + 1), H', I3, rfl, q3⟩⟩
    | next => exact False.elim hq'
    | brk => exact False.elim hq'
    | cont => exact False.elim hq'
end
end Wx

namespace Wx
open PySem PySem.Spec PyProof.Rows L2 NdefX
def wKeeps (K : PySem.W.Frag) (i : Nat) (Wout : WX) (D : Ends) : List (Value × (Addr → Value → Option Addr → TS)) → WX
  | [] => Wout
  | (c, ts) :: r => fun cls d σ H =>
    ∃ b, PySem.W.exmOne K cls c = some b ∧ (b = true → ∀ a, H a = none → ts a cls d { nx := fun σ1 H1 => D.nx (σ1.set i none) (upd H1 a (exv cls d a)), rt := fun v H1 => D.rt v (upd H1 a (exv cls d a)), bk := fun σ1 H1 => D.bk (σ1.set i none) (upd H1 a (exv cls d a)), ct := fun σ1 H1 => D.ct (σ1.set i none) (upd H1 a (exv cls d a)) } (σ.set i (some (.ref a))) H) ∧
      (b = false → wKeeps K i Wout D r cls d σ H)
inductive HdsKeep (X : Cx) (n : Str) : List ExceptHandler → List (Value × (Addr → Value → Option Addr → TS)) → Prop
  | nil : HdsKeep X n [] []
  | cons {x : Str} {c : Value} {ts : Addr → Value → Option Addr → TS} {b₀ : Stmt} {suite : List Stmt} {np pos' : Pos} {hds : List ExceptHandler} {l : List (Value × (Addr → Value → Option Addr → TS))} (hc : Names X x c)
      (hsu : ∀ (a : Addr) (oe : Obj) (cls : Value) (d : Option Addr) (pn : List (Addr × Obj)), Zc cls d oe → (∃ vs, oe.data = .fields vs) → PSs (X.suite a ((a, oe) :: pn)) (b₀ :: suite) (ts a cls d)) (r : HdsKeep X n hds l) :
      HdsKeep X n (.ExceptHandler (some (.Name x np)) (some n) (b₀ :: suite) pos' :: hds) ((c, ts) :: l)
section
variable {X : Cx} {n : Str} {i : Nat} {body : List Stmt} {h₀ : ExceptHandler} {hds : List ExceptHandler} {l : List (Value × (Addr → Value → Option Addr → TS))} {pos : Pos} {tb : WX → TS} {Wout : WX}
/-- several clauses, each one keeping its exception under the same name -/
theorem ps_try_keeps (hex : X.ex = []) (stk : X.stack = X.env :: X.outer) (frm : X.env.frame = some X.env.locals) (nd : X.N.Nodup) (atI : X.N[i]? = some n) (lcl : X.env.kindOf n = some .local) (tko : Takes X Wout)
    (hbody : ∀ (W : WX) (pn : List (Addr × Obj)) (xe : Value → Shared → Prop), Takes (X.tr pn xe) W → PassesOwn (model X.prog X.w) X.A X.env xe → PSs (X.tr pn xe) body (tb W))
    (hh : HdsKeep X n (h₀ :: hds) l) :
    PS X (.Try body (h₀ :: hds) [] [] pos) (fun D σ H => tb (wKeeps X.K i Wout D l) D σ H) := by
  refine ⟨fun pins s σ H D I0 rd => ?_⟩
  have okX := I0.ok
  have frA : X.A.frames = some (X.env :: X.outer) := okX.frames.trans (congrArg some stk)
  have locN : Loc X.env.scope n := Or.inl lcl
  refine wpAny_Try_except (wpAny_mono ((hbody (wKeeps X.K i Wout D l) (X.pn ++ pins) (fun e s₁ => wpAny (model X.prog X.w) X.A (noteFrame e X.env) (fun _ s₂ => wpAny (model X.prog X.w) X.A (setFlight e none) (fun _ s₃ =>
      wpAny (model X.prog X.w) X.A (handleBy e X.env (h₀ :: hds)) (SP X pins D) X.xe s₃) X.xe s₂) X.xe s₁) (fun u s' caught => ?_) PassesOwn.looking).run [] s σ H D (I0.toTry _) rd) (fun fl s1 done => ?_) (fun _ _ z => z))
  · obtain ⟨a, B, sI, pinsT, σT, HT, cls, d, rfl, JT, nb, upT, skyT, naT, osT, agT, wl⟩ := caught
    have JX : Inv X pins σT HT sI := Inv.ofTry JT okX
    have skyX : Sky B (X.env :: X.outer) a (Zc cls d) X.env.locals s'.heap := stk ▸ skyT
    show wpAny _ X.A (noteFrame (Value.ref a) X.env) _ _ _
    refine Sky.land Zc.steady frA frm skyX (fun hq flq upq => ?_)
    have Jq : Inv X pins σT HT { s' with heap := hq } := JX.landed nb flq.1 (upT.trans upq) osT agT
    obtain ⟨oeq, vsq, heq, hzq, hdq⟩ := flq.there
    have nfr : a ∉ frs (X.env :: X.outer) := fun hm => by
      obtain ⟨_, o', e', nf'⟩ := flq.2.2.1.mem hm
      have z := heq.symm.trans e'
      cases z
      exact nf' _ hdq
    have nLoc : a ≠ X.env.locals := fun z => nfr (List.mem_filterMap.mpr ⟨X.env, List.mem_cons_self, frm.trans (congrArg some z.symm)⟩)
    have nOut : a ∉ X.fs := fun hm => by
      obtain ⟨ev, hev, qv⟩ := List.mem_filterMap.mp hm
      exact nfr (List.mem_filterMap.mpr ⟨ev, List.mem_cons_of_mem _ hev, qv⟩)
    -- the exception is younger than the frame
    have sInone : sI.heap.get? a = none := by
      cases z : sI.heap.get? a with
      | none => rfl
      | some o =>
        have Bn : B.get? a = none := by
          rcases skyX with ⟨_, q, _⟩ | q | q
          · exact q
          · exact q.2.1
          · exact q.2.1
        have y := nb a o z (fun hm => nfr (by rw [← stk]; exact hm))
        rw [Bn] at y
        cases y
    have s0none : X.s_0.heap.get? a = none := by
      cases z : X.s_0.heap.get? a with
      | none => rfl
      | some o =>
        obtain ⟨o2, y⟩ := JX.base.there a o z (by rw [hex]; simp)
        rw [sInone] at y
        cases y
    have pinNe : ∀ p, p ∈ X.pn ++ pins → p.1 ≠ a := fun p hp z => by
      have y := (JX.pin p hp).1
      rw [z, sInone] at y
      cases y
    have Sq := Jq.suite heq hdq naT nLoc nOut
    have LTy : PySem.W.Looks (model X.prog X.w) hq (typeOf (.ref a)) cls := fun A Q E s k q => wpAny_typeOf_ref (k _ _ heq) (hzq.1 ▸ q)
    have go : ∀ (hs : List ExceptHandler) (l : List (Value × (Addr → Value → Option Addr → TS))), HdsKeep X n hs l → wKeeps X.K i Wout D l cls d σT HT → wpAny (model X.prog X.w) X.A (handleBy (Value.ref a) X.env hs) (SP X pins D) X.xe { s' with heap := hq } := by
      intro hs l hk
      induction hk with
      | nil =>
        intro wout
        refine wpAny_handleBy_nil ?_
        obtain ⟨z1, z2, z3, oe, vs, T1, oT1, tsT, he, hz, hd, h1, hr1⟩ := id flq
        unfold PySem.passOn
        refine wpAny_bind (wpAny_field he hd h1 ?_)
        rw [if_neg (show ¬ ((Value.ref T1 == Value.none) = true) by simp)]
        have fin : wpAny (model X.prog X.w) X.A (setFlight (.ref a) X.env.frame) (fun _ s4 => wpAny (model X.prog X.w) X.A (throw (.ref a) : Sem Flow) (SP X pins D) X.xe s4) X.xe { s' with heap := hq } := by
          rw [frm]
          exact HandSPX.setFlight_upZ flq fun h4 hh4 up4 => wpAny_throw (tko _ _ ⟨a, B, sI, pins, σT, HT, cls, d, rfl, JX, nb, (upT.trans upq).trans up4, .inr (.inr (by rw [stk]; exact hh4)), naT, osT, agT, wout⟩)
        first
          | exact wpAny_bind (wpAny_pure (wpAny_bind fin))
          | exact wpAny_bind fin
      | @cons x c ts b₀ suite np pos' hs l nms hsuite hrest ih =>
        intro wl
        obtain ⟨b, hcl, hyes, hno⟩ := wl
        refine wpAny_handleBy_cons (codeAny_handlers_test ?_) (by rintro ⟨⟩)
        have LEx := PySem.W.exm_one (M := model X.prog X.w) Jq.kIn LTy hcl
        have tst : ∀ {Q : Value → Shared → Prop} {E : Value → Shared → Prop}, Q c { s' with heap := hq } → wpAny (model X.prog X.w) (X.A.mark (some (.ref a))) (eval (.Name x np) X.env) Q E { s' with heap := hq } := fun {Q E} q => by
          obtain ⟨g1, g2, g3 | ⟨g3, g4, g5⟩⟩ := nms
          · exact ld_glob (X := X.suite a ((a, oeq) :: (X.pn ++ pins))) Sq g1 g3 q g2
          · exact ld_blt (X := X.suite a ((a, oeq) :: (X.pn ++ pins))) Sq g1 g3 g4 q g5 g2
        refine tst (LEx.here ?_)
        cases b with
        | true =>
          refine codeAny_handlers_suite_as (HandSPX.lands_againZ flq fun hr flr upr => ?_)
          have Jr : Inv X pins σT HT { s' with heap := hr } := JX.landed nb flr.1 ((upT.trans upq).trans upr) osT agT
          obtain ⟨oer, vsr, her, hzr, hdr⟩ := flr.there
          have Sr := Jr.suite her hdr naT nLoc nOut
          refine store_ok (X := X.suite a ((a, oer) :: (X.pn ++ pins))) (v := V.ref a) Sr nd atI locN rfl (fun s5 S5 => ?_) (Or.inr lcl)
          refine wpAny_mono ((hsuite a oer cls d (X.pn ++ pins) hzr ⟨_, hdr⟩).run [] s5 _ HT _ S5 (hyes rfl a naT)) (fun fl s6 out => ?_) (fun _ _ z => z.elim)
          have leave : ∀ {σ6 : L2.St} {H6 : Hp} {Q : Shared → Prop}, Inv (X.suite a ((a, oer) :: (X.pn ++ pins))) [] σ6 H6 s6 → (∀ s7, Inv X pins (σ6.set i none) (upd H6 a (exv cls d a)) s7 → Q s7) →
              wpAny (model X.prog X.w) X.A (do bindName X.env n .none; unbindBehindTheSuite X.env n pos') (fun _ s7 => Q s7) X.xe s6 := fun {σ6 H6 Q} S6 hQ => by
            have S7 : Inv X ((a, oer) :: pins) σ6 H6 s6 := ⟨okX, S6.os, S6.bare, S6.base, S6.loc, S6.cell, S6.free, S6.freeC, fun p hp => S6.pin p (by
              rw [List.append_nil]
              rcases List.mem_append.mp hp with z | z
              · exact List.mem_cons_of_mem _ (List.mem_append_left _ z)
              · rcases List.mem_cons.mp z with y | y
                · rw [y]
                  exact List.mem_cons_self
                · exact List.mem_cons_of_mem _ (List.mem_append_right _ y)), S6.hok, S6.len⟩
            exact gone_ok S7 nd atI lcl fun s7 J7 => hQ s7 (tracked J7 s0none pinNe hzr hdr)
          cases fl with
          | next =>
            obtain ⟨σ6, H6, S6, q6⟩ := out
            exact leave S6 fun s7 J7 => ⟨_, _, J7, q6⟩
          | brk =>
            obtain ⟨σ6, H6, S6, q6⟩ := out
            exact leave S6 fun s7 J7 => ⟨_, _, J7, q6⟩
          | cont =>
            obtain ⟨σ6, H6, S6, q6⟩ := out
            exact leave S6 fun s7 J7 => ⟨_, _, J7, q6⟩
          | ret u =>
            obtain ⟨v6, σ6, H6, S6, r6, q6⟩ := out
            exact leave S6 fun s7 J7 => ⟨_, _, _, J7, r6, q6⟩
        | false => exact ih (hno rfl)
    exact go _ _ hh wl
  · cases fl with
    | next =>
      obtain ⟨σ1, H1, J1, q1⟩ := done
      exact wpAny_execs_nil ⟨σ1, H1, J1.ofTry okX, q1⟩
    | brk =>
      obtain ⟨σ1, H1, J1, q1⟩ := done
      exact ⟨σ1, H1, J1.ofTry okX, q1⟩
    | cont =>
      obtain ⟨σ1, H1, J1, q1⟩ := done
      exact ⟨σ1, H1, J1.ofTry okX, q1⟩
    | ret u =>
      obtain ⟨v1, σ1, H1, J1, r1, q1⟩ := done
      exact ⟨v1, σ1, H1, J1.ofTry okX, r1, q1⟩
end
end Wx

namespace Wx
open PySem PySem.Spec PyProof.Rows L2 NdefX
theorem dropPin {X : Cx} {pins : List (Addr × Obj)} {σ : L2.St} {H : Hp} {s : Shared} {p : Addr × Obj} (J : Inv X (p :: pins) σ H s) : Inv X pins σ H s :=
  ⟨J.ok, J.os, J.bare, J.base, J.loc, J.cell, J.free, J.freeC, fun q hq => J.pin q (by
    rcases List.mem_append.mp hq with z | z
    · exact List.mem_append_left _ z
    · exact List.mem_append_right _ (List.mem_cons_of_mem _ z)), J.hok, J.len⟩
def wAss (K : PySem.W.Frag) (i : Nat) (Wout : WX) (D : Ends) : List (Value × (Addr → Value → Option Addr → TS)) → WX
  | [] => Wout
  | (c, ts) :: r => fun cls d σ H =>
    ∃ b, PySem.W.exmOne K cls c = some b ∧ (b = true → ∀ a, H a = none → ts a cls d { nx := fun σ1 H1 => D.nx (σ1.set i none) H1, rt := D.rt, bk := fun σ1 H1 => D.bk (σ1.set i none) H1, ct := fun σ1 H1 => D.ct (σ1.set i none) H1 } (σ.set i (some (.ref a))) H) ∧
      (b = false → wAss K i Wout D r cls d σ H)
inductive HdsAs (X : Cx) (n : Str) : List ExceptHandler → List (Value × (Addr → Value → Option Addr → TS)) → Prop
  | nil : HdsAs X n [] []
  | cons {x : Str} {c : Value} {ts : Addr → Value → Option Addr → TS} {b₀ : Stmt} {suite : List Stmt} {np pos' : Pos} {hds : List ExceptHandler} {l : List (Value × (Addr → Value → Option Addr → TS))} (hc : Names X x c)
      (hsu : ∀ (a : Addr) (oe : Obj) (cls : Value) (d : Option Addr) (pn : List (Addr × Obj)), Zc cls d oe → (∃ vs, oe.data = .fields vs) → PSs (X.suite a ((a, oe) :: pn)) (b₀ :: suite) (ts a cls d)) (r : HdsAs X n hds l) :
      HdsAs X n (.ExceptHandler (some (.Name x np)) (some n) (b₀ :: suite) pos' :: hds) ((c, ts) :: l)
section
variable {X : Cx} {n : Str} {i : Nat} {body : List Stmt} {h₀ : ExceptHandler} {hds : List ExceptHandler} {l : List (Value × (Addr → Value → Option Addr → TS))} {pos : Pos} {tb : WX → TS} {Wout : WX}
/-- several clauses with the same name; the exception is let go behind the suite -/
theorem ps_try_ass (hex : X.ex = []) (stk : X.stack = X.env :: X.outer) (frm : X.env.frame = some X.env.locals) (nd : X.N.Nodup) (atI : X.N[i]? = some n) (lcl : X.env.kindOf n = some .local) (tko : Takes X Wout)
    (hbody : ∀ (W : WX) (pn : List (Addr × Obj)) (xe : Value → Shared → Prop), Takes (X.tr pn xe) W → PassesOwn (model X.prog X.w) X.A X.env xe → PSs (X.tr pn xe) body (tb W))
    (hh : HdsAs X n (h₀ :: hds) l) :
    PS X (.Try body (h₀ :: hds) [] [] pos) (fun D σ H => tb (wAss X.K i Wout D l) D σ H) := by
  refine ⟨fun pins s σ H D I0 rd => ?_⟩
  have okX := I0.ok
  have frA : X.A.frames = some (X.env :: X.outer) := okX.frames.trans (congrArg some stk)
  have locN : Loc X.env.scope n := Or.inl lcl
  refine wpAny_Try_except (wpAny_mono ((hbody (wAss X.K i Wout D l) (X.pn ++ pins) (fun e s₁ => wpAny (model X.prog X.w) X.A (noteFrame e X.env) (fun _ s₂ => wpAny (model X.prog X.w) X.A (setFlight e none) (fun _ s₃ =>
      wpAny (model X.prog X.w) X.A (handleBy e X.env (h₀ :: hds)) (SP X pins D) X.xe s₃) X.xe s₂) X.xe s₁) (fun u s' caught => ?_) PassesOwn.looking).run [] s σ H D (I0.toTry _) rd) (fun fl s1 done => ?_) (fun _ _ z => z))
  · obtain ⟨a, B, sI, pinsT, σT, HT, cls, d, rfl, JT, nb, upT, skyT, naT, osT, agT, wl⟩ := caught
    have JX : Inv X pins σT HT sI := Inv.ofTry JT okX
    have skyX : Sky B (X.env :: X.outer) a (Zc cls d) X.env.locals s'.heap := stk ▸ skyT
    show wpAny _ X.A (noteFrame (Value.ref a) X.env) _ _ _
    refine Sky.land Zc.steady frA frm skyX (fun hq flq upq => ?_)
    have Jq : Inv X pins σT HT { s' with heap := hq } := JX.landed nb flq.1 (upT.trans upq) osT agT
    obtain ⟨oeq, vsq, heq, hzq, hdq⟩ := flq.there
    have nfr : a ∉ frs (X.env :: X.outer) := fun hm => by
      obtain ⟨_, o', e', nf'⟩ := flq.2.2.1.mem hm
      have z := heq.symm.trans e'
      cases z
      exact nf' _ hdq
    have nLoc : a ≠ X.env.locals := fun z => nfr (List.mem_filterMap.mpr ⟨X.env, List.mem_cons_self, frm.trans (congrArg some z.symm)⟩)
    have nOut : a ∉ X.fs := fun hm => by
      obtain ⟨ev, hev, qv⟩ := List.mem_filterMap.mp hm
      exact nfr (List.mem_filterMap.mpr ⟨ev, List.mem_cons_of_mem _ hev, qv⟩)
    -- the exception is younger than the frame
    have sInone : sI.heap.get? a = none := by
      cases z : sI.heap.get? a with
      | none => rfl
      | some o =>
        have Bn : B.get? a = none := by
          rcases skyX with ⟨_, q, _⟩ | q | q
          · exact q
          · exact q.2.1
          · exact q.2.1
        have y := nb a o z (fun hm => nfr (by rw [← stk]; exact hm))
        rw [Bn] at y
        cases y
    have s0none : X.s_0.heap.get? a = none := by
      cases z : X.s_0.heap.get? a with
      | none => rfl
      | some o =>
        obtain ⟨o2, y⟩ := JX.base.there a o z (by rw [hex]; simp)
        rw [sInone] at y
        cases y
    have pinNe : ∀ p, p ∈ X.pn ++ pins → p.1 ≠ a := fun p hp z => by
      have y := (JX.pin p hp).1
      rw [z, sInone] at y
      cases y
    have Sq := Jq.suite heq hdq naT nLoc nOut
    have LTy : PySem.W.Looks (model X.prog X.w) hq (typeOf (.ref a)) cls := fun A Q E s k q => wpAny_typeOf_ref (k _ _ heq) (hzq.1 ▸ q)
    have go : ∀ (hs : List ExceptHandler) (l : List (Value × (Addr → Value → Option Addr → TS))), HdsAs X n hs l → wAss X.K i Wout D l cls d σT HT → wpAny (model X.prog X.w) X.A (handleBy (Value.ref a) X.env hs) (SP X pins D) X.xe { s' with heap := hq } := by
      intro hs l hk
      induction hk with
      | nil =>
        intro wout
        refine wpAny_handleBy_nil ?_
        obtain ⟨z1, z2, z3, oe, vs, T1, oT1, tsT, he, hz, hd, h1, hr1⟩ := id flq
        unfold PySem.passOn
        refine wpAny_bind (wpAny_field he hd h1 ?_)
        rw [if_neg (show ¬ ((Value.ref T1 == Value.none) = true) by simp)]
        have fin : wpAny (model X.prog X.w) X.A (setFlight (.ref a) X.env.frame) (fun _ s4 => wpAny (model X.prog X.w) X.A (throw (.ref a) : Sem Flow) (SP X pins D) X.xe s4) X.xe { s' with heap := hq } := by
          rw [frm]
          exact HandSPX.setFlight_upZ flq fun h4 hh4 up4 => wpAny_throw (tko _ _ ⟨a, B, sI, pins, σT, HT, cls, d, rfl, JX, nb, (upT.trans upq).trans up4, .inr (.inr (by rw [stk]; exact hh4)), naT, osT, agT, wout⟩)
        first
          | exact wpAny_bind (wpAny_pure (wpAny_bind fin))
          | exact wpAny_bind fin
      | @cons x c ts b₀ suite np pos' hs l nms hsuite hrest ih =>
        intro wl
        obtain ⟨b, hcl, hyes, hno⟩ := wl
        refine wpAny_handleBy_cons (codeAny_handlers_test ?_) (by rintro ⟨⟩)
        have LEx := PySem.W.exm_one (M := model X.prog X.w) Jq.kIn LTy hcl
        have tst : ∀ {Q : Value → Shared → Prop} {E : Value → Shared → Prop}, Q c { s' with heap := hq } → wpAny (model X.prog X.w) (X.A.mark (some (.ref a))) (eval (.Name x np) X.env) Q E { s' with heap := hq } := fun {Q E} q => by
          obtain ⟨g1, g2, g3 | ⟨g3, g4, g5⟩⟩ := nms
          · exact ld_glob (X := X.suite a ((a, oeq) :: (X.pn ++ pins))) Sq g1 g3 q g2
          · exact ld_blt (X := X.suite a ((a, oeq) :: (X.pn ++ pins))) Sq g1 g3 g4 q g5 g2
        refine tst (LEx.here ?_)
        cases b with
        | true =>
          refine codeAny_handlers_suite_as (HandSPX.lands_againZ flq fun hr flr upr => ?_)
          have Jr : Inv X pins σT HT { s' with heap := hr } := JX.landed nb flr.1 ((upT.trans upq).trans upr) osT agT
          obtain ⟨oer, vsr, her, hzr, hdr⟩ := flr.there
          have Sr := Jr.suite her hdr naT nLoc nOut
          refine store_ok (X := X.suite a ((a, oer) :: (X.pn ++ pins))) (v := V.ref a) Sr nd atI locN rfl (fun s5 S5 => ?_) (Or.inr lcl)
          refine wpAny_mono ((hsuite a oer cls d (X.pn ++ pins) hzr ⟨_, hdr⟩).run [] s5 _ HT _ S5 (hyes rfl a naT)) (fun fl s6 out => ?_) (fun _ _ z => z.elim)
          have leave : ∀ {σ6 : L2.St} {H6 : Hp} {Q : Shared → Prop}, Inv (X.suite a ((a, oer) :: (X.pn ++ pins))) [] σ6 H6 s6 → (∀ s7, Inv X pins (σ6.set i none) H6 s7 → Q s7) →
              wpAny (model X.prog X.w) X.A (do bindName X.env n .none; unbindBehindTheSuite X.env n pos') (fun _ s7 => Q s7) X.xe s6 := fun {σ6 H6 Q} S6 hQ => by
            have S7 : Inv X ((a, oer) :: pins) σ6 H6 s6 := ⟨okX, S6.os, S6.bare, S6.base, S6.loc, S6.cell, S6.free, S6.freeC, fun p hp => S6.pin p (by
              rw [List.append_nil]
              rcases List.mem_append.mp hp with z | z
              · exact List.mem_cons_of_mem _ (List.mem_append_left _ z)
              · rcases List.mem_cons.mp z with y | y
                · rw [y]
                  exact List.mem_cons_self
                · exact List.mem_cons_of_mem _ (List.mem_append_right _ y)), S6.hok, S6.len⟩
            exact gone_ok S7 nd atI lcl fun s7 J7 => hQ s7 (dropPin J7)
          cases fl with
          | next =>
            obtain ⟨σ6, H6, S6, q6⟩ := out
            exact leave S6 fun s7 J7 => ⟨_, _, J7, q6⟩
          | brk =>
            obtain ⟨σ6, H6, S6, q6⟩ := out
            exact leave S6 fun s7 J7 => ⟨_, _, J7, q6⟩
          | cont =>
            obtain ⟨σ6, H6, S6, q6⟩ := out
            exact leave S6 fun s7 J7 => ⟨_, _, J7, q6⟩
          | ret u =>
            obtain ⟨v6, σ6, H6, S6, r6, q6⟩ := out
            exact leave S6 fun s7 J7 => ⟨_, _, _, J7, r6, q6⟩
        | false => exact ih (hno rfl)
    exact go _ _ hh wl
  · cases fl with
    | next =>
      obtain ⟨σ1, H1, J1, q1⟩ := done
      exact wpAny_execs_nil ⟨σ1, H1, J1.ofTry okX, q1⟩
    | brk =>
      obtain ⟨σ1, H1, J1, q1⟩ := done
      exact ⟨σ1, H1, J1.ofTry okX, q1⟩
    | cont =>
      obtain ⟨σ1, H1, J1, q1⟩ := done
      exact ⟨σ1, H1, J1.ofTry okX, q1⟩
    | ret u =>
      obtain ⟨v1, σ1, H1, J1, r1, q1⟩ := done
      exact ⟨v1, σ1, H1, J1.ofTry okX, r1, q1⟩
end
end Wx

namespace Wb
open PySem PySem.Spec PyProof.Rows L2 Wx NdefX
def top (i : Nat) : Stmt := PySem.Challenge.pw_waterbyturns_k03_plots.main.body.getD i (.Pass ⟨0, 0, 0, 0⟩)
/-! ### a def that stands, by its name: what a caller needs -/
structure Cal (P : Program) (w : World) (K : PySem.W.Frag) (mg : Str → Option Value) (base : Heap) (name : Str) (ps : List Str) (k : Nat) (sp : Sp) : Prop where
  mk0 ::
  ex : ∃ (g : Addr) (gd : FuncData), FnOk P w K mg base CX0 k g gd ps sp ∧ mg name = some (.ref g) ∧ PySem.W.keepIn K (.ref g) = true ∧ Binds K gd ps []
/-! ### frames -/
/-- what is tracked outside xs stays -/
def Frm (xs : List Addr) (H H' : Hp) : Prop := ∀ b o, ¬ b ∈ xs → H b = some o → H' b = some o
theorem Frm.refl (xs : List Addr) (H : Hp) : Frm xs H H := fun _ _ _ h => h
theorem Frm.trans {xs : List Addr} {H H1 H2 : Hp} (a : Frm xs H H1) (b : Frm xs H1 H2) : Frm xs H H2 := fun c o n h => b c o n (a c o n h)
theorem Frm.of_same {xs : List Addr} {H H' : Hp} (a : Same H H') : Frm xs H H' := fun b o _ h => a b o h
theorem Frm.mono {xs ys : List Addr} {H H' : Hp} (a : Frm xs H H') (h : ∀ b, b ∈ xs → b ∈ ys) : Frm ys H H' := fun b o n e => a b o (fun m => n (h b m)) e
theorem Frm.put {xs : List Addr} {H : Hp} {a : Addr} {o : HO} (m : a ∈ xs) : Frm xs H (upd H a o) := fun b p n e => by
  rw [upd_ne (fun q => n (by rw [q]; exact m))]
  exact e
theorem Same.new {H : Hp} {a : Addr} {o : HO} (n : H a = none) : Same H (upd H a o) := fun b p e => by
  rw [upd_ne (ne_of_none e n)]
  exact e
theorem Frm.new {xs : List Addr} {H : Hp} {a : Addr} {o : HO} (n : H a = none) : Frm xs H (upd H a o) := Frm.of_same (Same.new n)
theorem Frm.same {H H' : Hp} (a : Frm [] H H') : Same H H' := fun b o e => a b o (by simp) e
/-- an address that was new and may change behind its making is no part of the frame of what was there before -/
theorem Frm.drop {x : Addr} {xs : List Addr} {H0 H1 H2 : Hp} (n : H0 x = none) (a : Frm xs H0 H1) (b : Frm (x :: xs) H1 H2) : Frm xs H0 H2 := fun c o nc e => by
  refine b c o ?_ (a c o nc e)
  intro m
  rcases List.mem_cons.mp m with q | q
  · rw [q] at e
    rw [n] at e
    cases e
  · exact nc q
theorem Frm.none {xs : List Addr} {H H' : Hp} (a : Frm xs H H') {l : Addr} (nl : ¬ l ∈ xs) (h : H' l = Option.none) : H l = Option.none := by
  cases q : H l with
  | none => rfl
  | some o =>
    have := a l o nl q
    rw [this] at h
    cases h
/-- the heap without xs -/
def hid (xs : List Addr) (H : Hp) : Hp := fun b => if b ∈ xs then none else H b
theorem hid_same (xs : List Addr) (H : Hp) : Same (hid xs H) H := fun b o e => by
  unfold hid at e
  split at e
  · cases e
  · exact e
theorem hid_frm {xs : List Addr} {H H' : Hp} (a : Frm xs H H') : Same (hid xs H) (hid xs H') := fun b o e => by
  unfold hid at e ⊢
  split at e
  · cases e
  · rename_i n
    rw [if_neg n]
    exact a b o n e
theorem hid_eq {xs : List Addr} {H : Hp} {b : Addr} (n : ¬ b ∈ xs) : hid xs H b = H b := if_neg n
theorem hid_mono {xs ys : List Addr} {H : Hp} (h : ∀ b, b ∈ xs → b ∈ ys) : Same (hid ys H) (hid xs H) := fun b o e => by
  unfold hid at e ⊢
  split at e
  · cases e
  · rename_i n
    rw [if_neg (fun m => n (h b m))]
    exact e
theorem hid_nil (H : Hp) : hid [] H = H := by
  funext b
  exact if_neg (by simp)
theorem rd_same {H H' : Hp} (s : Same H H') {a : Addr} {o : HO} (h : Rd H a o) : Rd H' a o := by
  rcases h with h | ⟨x, h⟩
  · exact .inl (s _ _ h)
  · exact .inr ⟨x, s _ _ h⟩
theorem seqT {K : PySem.W.Frag} {H H' : Hp} {a : Addr} {xs : List V} (s : Same H H') (h : SqT K H a xs) : SqT K H' a xs := h.imp (rd_same s) id
/-! data in the heap, seen from a larger heap -/
mutual
theorem dp_same {K : PySem.W.Frag} {H H' : Hp} (s : Same H H') : ∀ {v : V} {d : PyData}, Dp K H v d → Dp K H' v d
  | _, _, .non => .non
  | _, _, .bl b => .bl b
  | _, _, .int i => .int i
  | _, _, .str x => .str x
  | _, _, .lst h r => .lst (s.seq h) (dpAll_same s r)
  | _, _, .tup h r => .tup (seqT s h) (dpAll_same s r)
theorem dpAll_same {K : PySem.W.Frag} {H H' : Hp} (s : Same H H') : ∀ {v : List V} {d : List PyData}, DpAll K H v d → DpAll K H' v d
  | _, _, .nil => .nil
  | _, _, .cons a b => .cons (dp_same s a) (dpAll_same s b)
end
theorem dpAll_get {K : PySem.W.Frag} {H : Hp} : ∀ {vs : List V} {ds : List PyData}, DpAll K H vs ds → ∀ {i : Nat} {v : V}, vs[i]? = some v → ∃ d, ds[i]? = some d ∧ Dp K H v d
  | _, _, .nil, i, v, h => by simp at h
  | _, _, .cons a b, 0, v, h => by
    have e := Option.some.inj h
    subst e
    exact ⟨_, rfl, a⟩
  | _, _, .cons a b, i + 1, v, h => dpAll_get b (i := i) h
theorem dpAll_len {K : PySem.W.Frag} {H : Hp} : ∀ {vs : List V} {ds : List PyData}, DpAll K H vs ds → vs.length = ds.length
  | _, _, .nil => rfl
  | _, _, .cons _ b => congrArg (· + 1) (dpAll_len b)
theorem dpAll_snoc {K : PySem.W.Frag} {H : Hp} : ∀ {vs : List V} {ds : List PyData} {v : V} {d : PyData}, DpAll K H vs ds → Dp K H v d → DpAll K H (vs ++ [v]) (ds ++ [d])
  | _, _, _, _, .nil, h => .cons h .nil
  | _, _, _, _, .cons a b, h => .cons a (dpAll_snoc b h)
theorem dpAll_ints {K : PySem.W.Frag} {H : Hp} : ∀ (l : List Int), DpAll K H (l.map V.int) (l.map PyData.int)
  | [] => .nil
  | i :: l => .cons (.int i) (dpAll_ints l)
theorem dpAll_ints_eq {K : PySem.W.Frag} {H : Hp} : ∀ {l : List Int} {vs : List V}, DpAll K H vs (l.map PyData.int) → vs = l.map V.int
  | [], _, .nil => rfl
  | i :: l, _, .cons (.int _) b => congrArg (V.int i :: ·) (dpAll_ints_eq b)
/-- o[i] of a list, for o[i] += e -/
theorem get_list {X : Cx} : PGet X (fun o i H Q => ∃ p xs k z, o = .ref p ∧ i = .int k ∧ SqL X.K H p xs ∧ 0 ≤ k ∧ xs[k.toNat]? = some z ∧ Q z H) := by
  intro pins s σ H o i ov iv Q I ro ri h
  obtain ⟨p, xs, k, z, rfl, rfl, hq, h0, hz, q⟩ := h
  cases ro
  obtain ⟨t, rfl⟩ := ri
  obtain ⟨its, r, pl, hs⟩ := I.list hq
  obtain ⟨w, ew, rw'⟩ := r.get hz
  have hl := r.length
  have hn := line63
  have hlt : k.toNat < xs.length := (List.getElem?_eq_some_iff.mp hz).1
  exact wpAny_getItem_list pl.isList h0 (by omega) (by simpa using ew) ⟨z, H, I, rw', q⟩
def rListOf (K : PySem.W.Frag) : List V → Hp → VK → Prop := fun xs H Q => ∃ p ys, xs = [.ref p] ∧ (SqL K H p ys ∨ SqT K H p ys) ∧ ∀ l, H l = none → Q (.ref l) (upd H l (.lst ys))
def rLenSeq (K : PySem.W.Frag) : List V → Hp → VK → Prop := fun xs H Q => ∃ p ys, xs = [.ref p] ∧ (SqL K H p ys ∨ SqT K H p ys) ∧ Q (.int ys.length) H
theorem Cal.mk {P : Program} {w : World} {K : PySem.W.Frag} {mg : Str → Option Value} {base : Heap} {name : Str} {ps : List Str} {k : Nat} {sp : Sp} {g : Addr} {gd : FuncData} (G : FnOk P w K mg base CX0 k g gd ps sp) (m : mg name = some (.ref g)) (kp : PySem.W.keepIn K (.ref g) = true) (b : Binds K gd ps []) : Cal P w K mg base name ps k sp := .mk0 ⟨g, gd, G, m, kp, b⟩
abbrev s_shown : Stmt := top 1
abbrev N_shown : List Str := ["value"]
abbrev P_shown : List Str := ["value"]
theorem sc_shown : FnScope N_shown P_shown (defScope s_shown) := ⟨rfl, rfl, rfl, by decide +kernel, rfl, by decide +kernel, by decide +kernel⟩
abbrev sBadName___init__ : Stmt := inClass (top 3) 0
abbrev NBadName___init__ : List Str := ["self", "name", "__class__"]
abbrev PBadName___init__ : List Str := ["self", "name"]
theorem scBadName___init__ : NScope NBadName___init__ PBadName___init__ ["__class__"] (defScope sBadName___init__) := nscope_by (by decide +kernel)
abbrev sBadNumber___init__ : Stmt := inClass (top 4) 0
abbrev NBadNumber___init__ : List Str := ["self", "what", "value", "__class__"]
abbrev PBadNumber___init__ : List Str := ["self", "what", "value"]
theorem scBadNumber___init__ : NScope NBadNumber___init__ PBadNumber___init__ ["__class__"] (defScope sBadNumber___init__) := nscope_by (by decide +kernel)
abbrev sis_name : Stmt := top 8
abbrev Nis_name : List Str := ["text", "letter"]
abbrev Pis_name : List Str := ["text"]
theorem scis_name : FnScope Nis_name Pis_name (defScope sis_name) := ⟨rfl, rfl, rfl, by decide +kernel, rfl, by decide +kernel, by decide +kernel⟩
abbrev scheck_name : Stmt := top 9
abbrev Ncheck_name : List Str := ["text"]
abbrev Pcheck_name : List Str := ["text"]
theorem sccheck_name : FnScope Ncheck_name Pcheck_name (defScope scheck_name) := ⟨rfl, rfl, rfl, by decide +kernel, rfl, by decide +kernel, by decide +kernel⟩
abbrev scheck_number : Stmt := top 10
abbrev Ncheck_number : List Str := ["what", "value", "low", "high"]
abbrev Pcheck_number : List Str := ["what", "value", "low", "high"]
theorem sccheck_number : FnScope Ncheck_number Pcheck_number (defScope scheck_number) := ⟨rfl, rfl, rfl, by decide +kernel, rfl, by decide +kernel, by decide +kernel⟩
abbrev sPlot___init__ : Stmt := inClass (top 12) 0
abbrev NPlot___init__ : List Str := ["self", "name", "hold", "drink"]
abbrev PPlot___init__ : List Str := ["self", "name", "hold", "drink"]
theorem scPlot___init__ : FnScope NPlot___init__ PPlot___init__ (defScope sPlot___init__) := ⟨rfl, rfl, rfl, by decide +kernel, rfl, by decide +kernel, by decide +kernel⟩
abbrev sPlot___eq__ : Stmt := inClass (top 12) 1
abbrev NPlot___eq__ : List Str := ["self", "other"]
abbrev PPlot___eq__ : List Str := ["self", "other"]
theorem scPlot___eq__ : FnScope NPlot___eq__ PPlot___eq__ (defScope sPlot___eq__) := ⟨rfl, rfl, rfl, by decide +kernel, rfl, by decide +kernel, by decide +kernel⟩
abbrev s_law_start : Stmt := top 14
abbrev N_law_start : List Str := ["script", "first"]
abbrev P_law_start : List Str := ["script"]
theorem sc_law_start : FnScope N_law_start P_law_start (defScope s_law_start) := ⟨rfl, rfl, rfl, by decide +kernel, rfl, by decide +kernel, by decide +kernel⟩
abbrev s_law_draw : Stmt := top 15
abbrev N_law_draw : List Str := ["script", "state", "limit", "number", "cell", "mixed"]
abbrev P_law_draw : List Str := ["script", "state", "limit"]
theorem sc_law_draw : FnScope N_law_draw P_law_draw (defScope s_law_draw) := ⟨rfl, rfl, rfl, by decide +kernel, rfl, by decide +kernel, by decide +kernel⟩
abbrev s_law_names : Stmt := top 16
abbrev N_law_names : List Str := ["script", "state", "many", "letters", "shift", "names", "k", "name", "j"]
abbrev P_law_names : List Str := ["script", "state", "many"]
theorem sc_law_names : FnScope N_law_names P_law_names (defScope s_law_names) := ⟨rfl, rfl, rfl, by decide +kernel, rfl, by decide +kernel, by decide +kernel⟩
abbrev s_law_is_integer : Stmt := top 17
abbrev N_law_is_integer : List Str := ["actual"]
abbrev P_law_is_integer : List Str := ["actual"]
theorem sc_law_is_integer : FnScope N_law_is_integer P_law_is_integer (defScope s_law_is_integer) := ⟨rfl, rfl, rfl, by decide +kernel, rfl, by decide +kernel, by decide +kernel⟩
abbrev s_law_refusal : Stmt := top 18
abbrev N_law_refusal : List Str := ["name", "hold", "drink", "e"]
abbrev P_law_refusal : List Str := ["name", "hold", "drink"]
theorem sc_law_refusal : FnScope N_law_refusal P_law_refusal (defScope s_law_refusal) := ⟨rfl, rfl, rfl, by decide +kernel, rfl, by decide +kernel, by decide +kernel⟩
abbrev slaw : Stmt := top 19
abbrev Nlaw : List Str := ["script", "state", "name", "hold", "drink", "plot", "far", "wrong", "bad", "late"]
abbrev Plaw : List Str := ["script"]
theorem sclaw : FnScope Nlaw Plaw (defScope slaw) := ⟨rfl, rfl, rfl, by decide +kernel, rfl, by decide +kernel, by decide +kernel⟩
/-- what the top has written -/
structure Txt (K : PySem.W.Frag) (mg : Str → Option Value) : Prop where
  b_len : mg "len" = none
  b_abs : mg "abs" = none
  b_int : mg "int" = none
  b_bool : mg "bool" = none
  b_str : mg "str" = none
  b_range : mg "range" = none
  b_all : mg "all" = none
  b_isinstance : mg "isinstance" = none
  b_repr : mg "repr" = none
  b_super : mg "super" = none
  c_MOST_UNITS : ∃ t, mg "MOST_UNITS" = some (.int 8 t)
  c__LONGEST_NAME : ∃ t, mg "_LONGEST_NAME" = some (.int 8 t)
end Wb

namespace Wb
open PySem PySem.Spec PyProof.Rows L2 Wx NdefX
section
variable {P : Program} {w : World} {K : PySem.W.Frag} {mg : Str → Option Value} {base : Heap}

/-- a state: four ints -/
def St4 (H : Hp) (a : Addr) : Prop := ∃ i j k l : Int, H a = some (.lst [.int i, .int j, .int k, .int l])
/-- the script at a and the state at s -/
def Scr (K : PySem.W.Frag) (H : Hp) (a s : Addr) : Prop := (∃ ns : List Int, SqL K (hid [s] H) a (ns.map V.int) ∧ ns.length ≤ 63) ∧ St4 H s
theorem Frm.put' {xs : List Addr} {H H1 : Hp} {a : Addr} {o : HO} (f : Frm xs H H1) (m : a ∈ xs) : Frm xs H (upd H1 a o) := f.trans (Frm.put m)
theorem Scr.frm {K : PySem.W.Frag} {H H' : Hp} {a s : Addr} (h : Scr K H a s) (f : Frm [s] H H') (q : St4 H' s) : Scr K H' a s := by
  obtain ⟨⟨ns, h1, h2⟩, _⟩ := h
  exact ⟨⟨ns, (hid_frm f).seq h1, h2⟩, q⟩
/-- what else is made or changed is not the state -/
theorem Scr.same {K : PySem.W.Frag} {H H' : Hp} {a s : Addr} (h : Scr K H a s) (f : Same H H') : Scr K H' a s := by
  obtain ⟨i, j, k, l, e⟩ := h.2
  exact h.frm (Frm.of_same f) ⟨i, j, k, l, f _ _ e⟩
theorem Scr.ne {K : PySem.W.Frag} {H : Hp} {a s p : Addr} (h : Scr K H a s) (n : H p = none) : ¬ p = s := by
  rintro rfl
  obtain ⟨_, _, _, _, e⟩ := h.2
  rw [n] at e
  cases e
theorem Scr.made {K : PySem.W.Frag} {H : Hp} {a p : Addr} {ns : List Int} (hS : SqL K H a (ns.map V.int)) (hl : ns.length ≤ 63) (n : H p = none) {i j k l : Int} : Scr K (upd H p (.lst [.int i, .int j, .int k, .int l])) a p := by
  refine ⟨⟨ns, Same.seq (H := H) (fun b o e => ?_) hS, hl⟩, i, j, k, l, upd_same⟩
  have nb : b ≠ p := ne_of_none e n
  rw [hid_eq (by simpa using nb), upd_ne nb]
  exact e
theorem ints_at {ns : List Int} {i : Int} (h0 : 0 ≤ i) (h1 : i < ns.length) : ∃ z : Int, atI (ns.map V.int) i = some (.int z) := by
  obtain ⟨j, rfl⟩ : ∃ j : Nat, i = (j : Int) := ⟨i.toNat, by omega⟩
  have hj : j < ns.length := by omega
  exact ⟨ns[j], atI_nat (by simp [hj])⟩
theorem fmod0 {a b : Int} (h : 0 < b) : 0 ≤ a.fmod b := by
  rw [Int.fmod_eq_emod_of_nonneg _ (by omega)]
  exact Int.emod_nonneg _ (by omega)
theorem fmod1 {a b : Int} (h : 0 < b) : a.fmod b < b := by
  rw [Int.fmod_eq_emod_of_nonneg _ (by omega)]
  exact Int.emod_lt_of_pos _ h
def sp_law_start (K : PySem.W.Frag) : Sp := fun vs H Q _ => ∃ (a : Addr) (ns : List Int), vs = [.ref a] ∧ SqL K H a (ns.map V.int) ∧ ns.length ≤ 63 ∧ ∀ p H', Same H H' → H p = none → Scr K H' a p → Q (.ref p) H'
def sp_law_draw (K : PySem.W.Frag) : Sp := fun vs H Q _ => ∃ (a s : Addr) (n : Int), vs = [.ref a, .ref s, .int n] ∧ Scr K H a s ∧ 0 < n ∧ n < 1073741824 ∧ ∀ (r : Int) (H' : Hp), 0 ≤ r → r < n → Frm [s] H H' → Scr K H' a s → Q (.int r) H'

theorem ok_law_start {f : Addr} {fd : FuncData} (F : Fun K "_law_start" "_law_start" s_law_start f fd) (T : Txt K mg) : FnOk P w K mg base CX0 1 f fd P_law_start (sp_law_start K) := by
  refine F.ok sc_law_start (fun vs H Q E h => ?_) (fun cdv A outer s H vs Q E hr h => ?_)
  · obtain ⟨a, ns, rfl, hS, hlen, k⟩ := h
    rfl
  · obtain ⟨a, ns, rfl, hS, hlen, k⟩ := h
    refine ⟨_, (pss_cons (ps_set (i := 1) sc_law_start.nd rfl (by first | exact Or.inl rfl | exact Or.inr rfl) pe_int)
  (pss_cons (ps_if (pt_cmpR op_gt (pe_callB call_len_seq (by rfl) T.b_len PySem.boot_len (pa_cons (pv 0) pa_nil)) pe_int (nomark _))
  (pss_one (ps_set (i := 1) sc_law_start.nd rfl (by first | exact Or.inl rfl | exact Or.inr rfl) (pe_ix ix_list (pv 0) pe_int (fun _ _ => rfl))))
  pss_nil)
  (pss_one (ps_ret (pe_lst (pa_cons (pe_callB (id := "abs") call_abs (by rfl) T.b_abs (by decide +kernel) (pa_cons (pe_callTy (T := "int") call_int1 (by rfl) T.b_int (by decide +kernel) (pa_cons (pv 1) pa_nil)) pa_nil)) (pa_cons (pe_callTy (T := "int") call_int1 (by rfl) T.b_int (by decide +kernel) (pa_cons (pe_cmpR op_ge (pe_callB (id := "abs") call_abs (by rfl) T.b_abs (by decide +kernel) (pa_cons (pe_callTy (T := "int") call_int1 (by rfl) T.b_int (by decide +kernel) (pa_cons (pv 1) pa_nil)) pa_nil)) (pe_op op_pow pe_int pe_int) (nomark _)) pa_nil)) (pa_cons pe_int (pa_cons pe_int pa_nil))))))))), ?_⟩
    refine ⟨_, rfl, a, _, rfl, .inl hS, _, _, rfl, rfl, _, rfl, ?_⟩
    refine ite2 (fun c => ?_) (fun c => ?_)
    · have hp : (0 : Int) < ns.length := by simpa using of_decide_eq_true c
      obtain ⟨z, hz⟩ := ints_at (ns := ns) (i := 0) (by omega) hp
      refine ⟨_, rfl, a, _, _, _, rfl, rfl, hS, hz, ?_⟩
      refine ⟨_, rfl, .inl ⟨_, rfl, _, rfl, _, rfl, .inl ⟨_, rfl, _, rfl, _, _, rfl, rfl, ⟨by decide, by decide, by decide⟩, _, _, rfl, rfl, .inr ⟨_, rfl, (by show 4 ≤ sizeLine; decide), fun l hl => k _ _ (Same.new hl) hl (Scr.made hS hlen hl)⟩⟩⟩⟩
    · refine ⟨_, rfl, .inl ⟨_, rfl, _, rfl, _, rfl, .inl ⟨_, rfl, _, rfl, _, _, rfl, rfl, ⟨by decide, by decide, by decide⟩, _, _, rfl, rfl, .inr ⟨_, rfl, (by show 4 ≤ sizeLine; decide), fun l hl => k _ _ (Same.new hl) hl (Scr.made hS hlen hl)⟩⟩⟩⟩

theorem ok_law_draw {f : Addr} {fd : FuncData} (F : Fun K "_law_draw" "_law_draw" s_law_draw f fd) (T : Txt K mg) : FnOk P w K mg base CX0 1 f fd P_law_draw (sp_law_draw K) := by
  refine F.ok sc_law_draw (fun vs H Q E h => ?_) (fun cdv A outer s H vs Q E hr h => ?_)
  · obtain ⟨a, s0, n, rfl, hScr, n0, n1, k⟩ := h
    rfl
  · obtain ⟨a, s0, n, rfl, hScr, n0, n1, k⟩ := h
    refine ⟨_, (pss_cons (ps_asg (pe_op op_add (pe_ix ix_list (pv 1) pe_int (fun _ _ => rfl)) pe_int) (pg_sub (pv 1) pe_int set_list))
  (pss_cons (ps_if (PW.pt (pw_and (pt_cmpR op_eq (pe_ix ix_list (pv 1) pe_int (fun _ _ => rfl)) pe_int (nomark _)) (pw_and1 (pt_cmpR op_gt (pe_ix ix_list (pv 1) pe_int (fun _ _ => rfl)) pe_int (nomark _)))))
  (pss_cons (ps_set (i := 3) sc_law_draw.nd rfl (by first | exact Or.inl rfl | exact Or.inr rfl) (pe_op op_modN (pe_callTy (T := "int") call_int1 (by rfl) T.b_int (by decide +kernel) (pa_cons (pe_ix ix_list (pv 1) pe_int (fun _ _ => rfl)) pa_nil)) (pv 2)))
  (pss_cons (ps_asg (pe_op op_fdivN (pe_ix ix_list (pv 1) pe_int (fun _ _ => rfl)) (pv 2)) (pg_sub (pv 1) pe_int set_list))
  (pss_one (ps_ret (pv 3)))))
  pss_nil)
  (pss_cons (ps_asg pe_int (pg_sub (pv 1) pe_int set_list))
  (pss_cons (ps_set (i := 4) sc_law_draw.nd rfl (by first | exact Or.inl rfl | exact Or.inr rfl) pe_int)
  (pss_cons (ps_if (pt_cmpR op_gt (pe_callB call_len_seq (by rfl) T.b_len PySem.boot_len (pa_cons (pv 0) pa_nil)) pe_int (nomark _))
  (pss_one (ps_set (i := 4) sc_law_draw.nd rfl (by first | exact Or.inl rfl | exact Or.inr rfl) (pe_ix ix_list (pv 0) (pe_op op_modN (pe_callTy (T := "int") call_int1 (by rfl) T.b_int (by decide +kernel) (pa_cons (pe_ix ix_list (pv 1) pe_int (fun _ _ => rfl)) pa_nil)) (pe_callB call_len_seq (by rfl) T.b_len PySem.boot_len (pa_cons (pv 0) pa_nil))) (fun _ _ => rfl))))
  pss_nil)
  (pss_cons (ps_asg (pe_op op_add (pe_ix ix_list (pv 1) pe_int (fun _ _ => rfl)) pe_int) (pg_sub (pv 1) pe_int set_list))
  (pss_cons (ps_set (i := 5) sc_law_draw.nd rfl (by first | exact Or.inl rfl | exact Or.inr rfl) (pe_op op_mul (pe_op op_modN (pe_callTy (T := "int") call_int1 (by rfl) T.b_int (by decide +kernel) (pa_cons (pe_ix ix_list (pv 1) pe_int (fun _ _ => rfl)) pa_nil)) pe_int) pe_int))
  (pss_cons (ps_set (i := 5) sc_law_draw.nd rfl (by first | exact Or.inl rfl | exact Or.inr rfl) (pe_op op_add (pe_op op_add (pe_op op_add (pv 5) (pe_op op_modN (pe_callTy (T := "int") call_int1 (by rfl) T.b_int (by decide +kernel) (pa_cons (pv 4) pa_nil)) pe_int)) (pe_op op_mul pe_int (pe_ix ix_list (pv 1) pe_int (fun _ _ => rfl)))) pe_int))
  (pss_cons (ps_asg (pe_op op_modN (pe_callTy (T := "int") call_int1 (by rfl) T.b_int (by decide +kernel) (pa_cons (pv 5) pa_nil)) pe_int) (pg_sub (pv 1) pe_int set_list))
  (pss_cons (ps_set (i := 5) sc_law_draw.nd rfl (by first | exact Or.inl rfl | exact Or.inr rfl) (pe_op op_modN (pe_callTy (T := "int") call_int1 (by rfl) T.b_int (by decide +kernel) (pa_cons (pe_op op_add (pe_op op_mul (pe_ix ix_list (pv 1) pe_int (fun _ _ => rfl)) pe_int) (pe_ix ix_list (pv 1) pe_int (fun _ _ => rfl))) pa_nil)) pe_int))
  (pss_one (ps_ret (pe_op op_modN (pe_callTy (T := "int") call_int1 (by rfl) T.b_int (by decide +kernel) (pa_cons (pe_op op_fdivN (pv 5) pe_int) pa_nil)) (pv 2)))))))))))))), ?_⟩
    obtain ⟨⟨ns, hS, hl⟩, i0, i1, i2, i3, h4⟩ := id hScr
    have hA : ∀ H', Frm [s0] H H' → SqL K H' a (ns.map V.int) := fun H' fr => ((hid_frm fr).trans (hid_same _ _)).seq hS
    -- state[3] = state[3] + 1
    refine ⟨_, rfl, s0, _, _, _, rfl, rfl, SqL.of h4, rfl, _, _, rfl, rfl, _, rfl, s0, _, _, _, rfl, rfl, h4, rfl, ?_⟩
    refine ⟨_, rfl, s0, _, _, _, rfl, rfl, SqL.of upd_same, rfl, rfl, _, rfl, ?_⟩
    refine ite2 (fun c1 => ?_) (fun c1 => ?_)
    · refine ⟨_, rfl, s0, _, _, _, rfl, rfl, SqL.of upd_same, rfl, _, _, rfl, rfl, _, rfl, ?_⟩
      refine ite2 (fun c2 => ?_) (fun c2 => ?_)
      · refine ⟨_, rfl, s0, _, _, _, rfl, rfl, SqL.of upd_same, rfl, .inl ⟨_, rfl, _, rfl, _, _, rfl, rfl, (by show (_ : Int) ≠ 0; omega), ?_⟩⟩
        refine ⟨_, rfl, s0, _, _, _, rfl, rfl, SqL.of upd_same, rfl, _, rfl, _, _, rfl, rfl, ⟨by omega, by omega⟩, _, rfl, s0, _, _, _, rfl, rfl, upd_same, rfl, ?_⟩
        exact ⟨_, rfl, k _ _ (fmod0 n0) (fmod1 n0) (by repeat (first | exact Frm.refl _ _ | refine Frm.put' ?_ (by simp))) (hScr.frm (by repeat (first | exact Frm.refl _ _ | refine Frm.put' ?_ (by simp))) ⟨_, _, _, _, upd_same⟩)⟩
      · refine ⟨_, rfl, s0, _, _, _, rfl, rfl, upd_same, rfl, ?_⟩
        refine ⟨_, rfl, a, _, rfl, .inl (hA _ (by repeat (first | exact Frm.refl _ _ | refine Frm.put' ?_ (by simp)))), _, _, rfl, rfl, _, rfl, ?_⟩
        refine ite2 (fun c => ?_) (fun c => ?_)
        · have hp : (0 : Int) < ns.length := by simpa using of_decide_eq_true c
          obtain ⟨z, hz⟩ := ints_at (ns := ns) (i := i2.fmod ((ns.map V.int).length : Nat)) (fmod0 (by simpa using hp)) (by simpa using fmod1 (a := i2) hp)
          refine ⟨_, rfl, _, rfl, s0, _, _, _, rfl, rfl, SqL.of upd_same, rfl, .inl ⟨_, rfl, _, rfl, a, _, rfl, .inl (hA _ (by repeat (first | exact Frm.refl _ _ | refine Frm.put' ?_ (by simp)))), _, _, rfl, rfl, (by show (((ns.map V.int).length : Nat) : Int) ≠ 0; rw [List.length_map]; omega), a, _, _, _, rfl, rfl, hA _ (by repeat (first | exact Frm.refl _ _ | refine Frm.put' ?_ (by simp))), hz, ?_⟩⟩
          -- state[2] = state[2] + 1; mixed = ..
          refine ⟨_, rfl, s0, _, _, _, rfl, rfl, SqL.of upd_same, rfl, _, _, rfl, rfl, _, rfl, s0, _, _, _, rfl, rfl, upd_same, rfl, ?_⟩
          refine ⟨_, rfl, s0, _, _, _, rfl, rfl, SqL.of upd_same, rfl, .inl ⟨_, rfl, _, _, rfl, rfl, (by show (_ : Int) ≠ 0; decide), _, _, rfl, rfl, .inr ⟨by decide, by decide⟩, ?_⟩⟩
          refine ⟨_, rfl, _, rfl, .inl ⟨_, rfl, _, _, rfl, rfl, (by show (_ : Int) ≠ 0; decide), _, _, rfl, rfl, _, rfl, s0, _, _, _, rfl, rfl, SqL.of upd_same, rfl, _, _, rfl, rfl, .inl ⟨by decide, by decide⟩, _, _, rfl, rfl, _, _, rfl, rfl, ?_⟩⟩
          refine ⟨_, rfl, .inl ⟨_, rfl, _, _, rfl, rfl, (by show (_ : Int) ≠ 0; decide), _, rfl, s0, _, _, _, rfl, rfl, upd_same, rfl, ?_⟩⟩
          refine ⟨_, rfl, s0, _, _, _, rfl, rfl, SqL.of upd_same, rfl, _, _, rfl, rfl, .inr ⟨by decide, by decide⟩, _, rfl, s0, _, _, _, rfl, rfl, SqL.of upd_same, rfl, _, _, rfl, rfl, .inl ⟨_, rfl, _, _, rfl, rfl, (by show (_ : Int) ≠ 0; decide), ?_⟩⟩
          refine ⟨_, rfl, _, _, rfl, rfl, ⟨by decide, by decide⟩, .inl ⟨_, rfl, _, rfl, _, _, rfl, rfl, (by show (_ : Int) ≠ 0; omega), ?_⟩⟩
          exact k _ _ (fmod0 n0) (fmod1 n0) (by repeat (first | exact Frm.refl _ _ | refine Frm.put' ?_ (by simp))) (hScr.frm (by repeat (first | exact Frm.refl _ _ | refine Frm.put' ?_ (by simp))) ⟨_, _, _, _, upd_same⟩)
        · -- state[2] = state[2] + 1; mixed = ..
          refine ⟨_, rfl, s0, _, _, _, rfl, rfl, SqL.of upd_same, rfl, _, _, rfl, rfl, _, rfl, s0, _, _, _, rfl, rfl, upd_same, rfl, ?_⟩
          refine ⟨_, rfl, s0, _, _, _, rfl, rfl, SqL.of upd_same, rfl, .inl ⟨_, rfl, _, _, rfl, rfl, (by show (_ : Int) ≠ 0; decide), _, _, rfl, rfl, .inr ⟨by decide, by decide⟩, ?_⟩⟩
          refine ⟨_, rfl, _, rfl, .inl ⟨_, rfl, _, _, rfl, rfl, (by show (_ : Int) ≠ 0; decide), _, _, rfl, rfl, _, rfl, s0, _, _, _, rfl, rfl, SqL.of upd_same, rfl, _, _, rfl, rfl, .inl ⟨by decide, by decide⟩, _, _, rfl, rfl, _, _, rfl, rfl, ?_⟩⟩
          refine ⟨_, rfl, .inl ⟨_, rfl, _, _, rfl, rfl, (by show (_ : Int) ≠ 0; decide), _, rfl, s0, _, _, _, rfl, rfl, upd_same, rfl, ?_⟩⟩
          refine ⟨_, rfl, s0, _, _, _, rfl, rfl, SqL.of upd_same, rfl, _, _, rfl, rfl, .inr ⟨by decide, by decide⟩, _, rfl, s0, _, _, _, rfl, rfl, SqL.of upd_same, rfl, _, _, rfl, rfl, .inl ⟨_, rfl, _, _, rfl, rfl, (by show (_ : Int) ≠ 0; decide), ?_⟩⟩
          refine ⟨_, rfl, _, _, rfl, rfl, ⟨by decide, by decide⟩, .inl ⟨_, rfl, _, rfl, _, _, rfl, rfl, (by show (_ : Int) ≠ 0; omega), ?_⟩⟩
          exact k _ _ (fmod0 n0) (fmod1 n0) (by repeat (first | exact Frm.refl _ _ | refine Frm.put' ?_ (by simp))) (hScr.frm (by repeat (first | exact Frm.refl _ _ | refine Frm.put' ?_ (by simp))) ⟨_, _, _, _, upd_same⟩)
    · refine ⟨_, rfl, s0, _, _, _, rfl, rfl, upd_same, rfl, ?_⟩
      refine ⟨_, rfl, a, _, rfl, .inl (hA _ (by repeat (first | exact Frm.refl _ _ | refine Frm.put' ?_ (by simp)))), _, _, rfl, rfl, _, rfl, ?_⟩
      refine ite2 (fun c => ?_) (fun c => ?_)
      · have hp : (0 : Int) < ns.length := by simpa using of_decide_eq_true c
        obtain ⟨z, hz⟩ := ints_at (ns := ns) (i := i2.fmod ((ns.map V.int).length : Nat)) (fmod0 (by simpa using hp)) (by simpa using fmod1 (a := i2) hp)
        refine ⟨_, rfl, _, rfl, s0, _, _, _, rfl, rfl, SqL.of upd_same, rfl, .inl ⟨_, rfl, _, rfl, a, _, rfl, .inl (hA _ (by repeat (first | exact Frm.refl _ _ | refine Frm.put' ?_ (by simp)))), _, _, rfl, rfl, (by show (((ns.map V.int).length : Nat) : Int) ≠ 0; rw [List.length_map]; omega), a, _, _, _, rfl, rfl, hA _ (by repeat (first | exact Frm.refl _ _ | refine Frm.put' ?_ (by simp))), hz, ?_⟩⟩
        -- state[2] = state[2] + 1; mixed = ..
        refine ⟨_, rfl, s0, _, _, _, rfl, rfl, SqL.of upd_same, rfl, _, _, rfl, rfl, _, rfl, s0, _, _, _, rfl, rfl, upd_same, rfl, ?_⟩
        refine ⟨_, rfl, s0, _, _, _, rfl, rfl, SqL.of upd_same, rfl, .inl ⟨_, rfl, _, _, rfl, rfl, (by show (_ : Int) ≠ 0; decide), _, _, rfl, rfl, .inr ⟨by decide, by decide⟩, ?_⟩⟩
        refine ⟨_, rfl, _, rfl, .inl ⟨_, rfl, _, _, rfl, rfl, (by show (_ : Int) ≠ 0; decide), _, _, rfl, rfl, _, rfl, s0, _, _, _, rfl, rfl, SqL.of upd_same, rfl, _, _, rfl, rfl, .inl ⟨by decide, by decide⟩, _, _, rfl, rfl, _, _, rfl, rfl, ?_⟩⟩
        refine ⟨_, rfl, .inl ⟨_, rfl, _, _, rfl, rfl, (by show (_ : Int) ≠ 0; decide), _, rfl, s0, _, _, _, rfl, rfl, upd_same, rfl, ?_⟩⟩
        refine ⟨_, rfl, s0, _, _, _, rfl, rfl, SqL.of upd_same, rfl, _, _, rfl, rfl, .inr ⟨by decide, by decide⟩, _, rfl, s0, _, _, _, rfl, rfl, SqL.of upd_same, rfl, _, _, rfl, rfl, .inl ⟨_, rfl, _, _, rfl, rfl, (by show (_ : Int) ≠ 0; decide), ?_⟩⟩
        refine ⟨_, rfl, _, _, rfl, rfl, ⟨by decide, by decide⟩, .inl ⟨_, rfl, _, rfl, _, _, rfl, rfl, (by show (_ : Int) ≠ 0; omega), ?_⟩⟩
        exact k _ _ (fmod0 n0) (fmod1 n0) (by repeat (first | exact Frm.refl _ _ | refine Frm.put' ?_ (by simp))) (hScr.frm (by repeat (first | exact Frm.refl _ _ | refine Frm.put' ?_ (by simp))) ⟨_, _, _, _, upd_same⟩)
      · -- state[2] = state[2] + 1; mixed = ..
        refine ⟨_, rfl, s0, _, _, _, rfl, rfl, SqL.of upd_same, rfl, _, _, rfl, rfl, _, rfl, s0, _, _, _, rfl, rfl, upd_same, rfl, ?_⟩
        refine ⟨_, rfl, s0, _, _, _, rfl, rfl, SqL.of upd_same, rfl, .inl ⟨_, rfl, _, _, rfl, rfl, (by show (_ : Int) ≠ 0; decide), _, _, rfl, rfl, .inr ⟨by decide, by decide⟩, ?_⟩⟩
        refine ⟨_, rfl, _, rfl, .inl ⟨_, rfl, _, _, rfl, rfl, (by show (_ : Int) ≠ 0; decide), _, _, rfl, rfl, _, rfl, s0, _, _, _, rfl, rfl, SqL.of upd_same, rfl, _, _, rfl, rfl, .inl ⟨by decide, by decide⟩, _, _, rfl, rfl, _, _, rfl, rfl, ?_⟩⟩
        refine ⟨_, rfl, .inl ⟨_, rfl, _, _, rfl, rfl, (by show (_ : Int) ≠ 0; decide), _, rfl, s0, _, _, _, rfl, rfl, upd_same, rfl, ?_⟩⟩
        refine ⟨_, rfl, s0, _, _, _, rfl, rfl, SqL.of upd_same, rfl, _, _, rfl, rfl, .inr ⟨by decide, by decide⟩, _, rfl, s0, _, _, _, rfl, rfl, SqL.of upd_same, rfl, _, _, rfl, rfl, .inl ⟨_, rfl, _, _, rfl, rfl, (by show (_ : Int) ≠ 0; decide), ?_⟩⟩
        refine ⟨_, rfl, _, _, rfl, rfl, ⟨by decide, by decide⟩, .inl ⟨_, rfl, _, rfl, _, _, rfl, rfl, (by show (_ : Int) ≠ 0; omega), ?_⟩⟩
        exact k _ _ (fmod0 n0) (fmod1 n0) (by repeat (first | exact Frm.refl _ _ | refine Frm.put' ?_ (by simp))) (hScr.frm (by repeat (first | exact Frm.refl _ _ | refine Frm.put' ?_ (by simp))) ⟨_, _, _, _, upd_same⟩)
end
section
variable {P : Program} {w : World} {K : PySem.W.Frag} {mg : Str → Option Value} {base : Heap}

theorem ok_shown {f : Addr} {fd : FuncData} (F : Fun K "_shown" "_shown" s_shown f fd) (T : Txt K mg) : FnOk P w K mg base CX0 1 f fd P_shown sp_shown := by
  refine F.ok sc_shown (fun vs H Q E h => ?_) (fun cdv A outer s H vs Q E hr h => ?_)
  · obtain ⟨x, rfl, hx, k⟩ := h
    rfl
  · obtain ⟨x, rfl, hx, k⟩ := h
    refine ⟨_, (pss_cons (ps_if (pt_val (pe_callB (id := "isinstance") call_isi (by rfl) T.b_isinstance (by decide +kernel) (pa_cons (pv 0) (pa_cons (pe_bltn (v := .ty "str") (by rfl) T.b_str (by decide +kernel) rfl) pa_nil))))
  (pss_one (ps_ret (pe_callB (id := "repr") call_repr_str (by rfl) T.b_repr (by decide +kernel) (pa_cons (pv 0) pa_nil))))
  pss_nil)
  (pss_cons (ps_if (PW.pt (pw_and (pt_val (pe_callB (id := "isinstance") call_isi (by rfl) T.b_isinstance (by decide +kernel) (pa_cons (pv 0) (pa_cons (pe_bltn (v := .ty "int") (by rfl) T.b_int (by decide +kernel) rfl) pa_nil)))) (pw_and1 (pt_chain op_ltM op_ltM (pe_un un_neg pe_int) (pv 0) pe_int))))
  (pss_one (ps_ret (pe_callTy (T := "str") call_str_ib (by rfl) T.b_str (by decide +kernel) (pa_cons (pv 0) pa_nil))))
  pss_nil)
  (pss_one (ps_ret pe_str)))), ?_⟩
    rcases hx with ⟨z, rfl, hz⟩ | ⟨i, rfl⟩ | rfl | ⟨b, rfl⟩
    · refine ⟨_, rfl, _, _, _, _, true, rfl, .ty _, .base (.str _), kit_ty (by decide +kernel), true, rfl, iteT ?_⟩
      exact ⟨_, rfl, z, rfl, Nat.le_trans hz (by rw [sizeLine_eq]; decide), k _ hz⟩
    · refine ⟨_, rfl, _, _, _, _, false, rfl, .ty _, .base (.int _), kit_ty (by decide +kernel), false, rfl, iteF ?_⟩
      refine ⟨_, rfl, _, _, _, _, true, rfl, .ty _, .base (.int _), kit_ty (by decide +kernel), true, rfl, iteT ?_⟩
      refine ⟨_, rfl, _, rfl, _, _, rfl, rfl, _, rfl, ?_⟩
      refine ite2 (fun c1 => ?_) (fun c1 => ?_)
      · have c1 := of_decide_eq_true c1
        refine ⟨_, _, rfl, rfl, _, rfl, ?_⟩
        refine ite2 (fun c2 => ?_) (fun c2 => ?_)
        · have c2 := of_decide_eq_true c2
          have hn : i.natAbs < 10 ^ 4 := by
            have e : (10 : Nat) ^ 4 = 10000 := by decide
            rw [e]
            omega
          refine ⟨_, rfl, .inl ⟨_, rfl, ?_, k _ ?_⟩⟩
          · have h2 : i.natAbs < 2 ^ 1920 := Nat.lt_of_lt_of_le hn (by decide)
            by_cases h0 : i.natAbs = 0
            · rw [h0]
              decide
            · exact (Nat.log2_lt h0).mpr h2
          · have e := int_text_length_le10 (k := 4) (by decide) hn
            show (Str.ofString (toString i)).length ≤ _
            rw [PySem.ofString_length]
            omega
        · exact k _ (by decide +kernel)
      · refine ⟨_, rfl, ite2 (fun z => absurd z (by decide)) (fun _ => ?_)⟩
        exact k _ (by decide +kernel)
    · refine ⟨_, rfl, _, _, _, _, false, rfl, .ty _, .base .non, kit_ty (by decide +kernel), false, rfl, iteF ?_⟩
      refine ⟨_, rfl, _, _, _, _, false, rfl, .ty _, .base .non, kit_ty (by decide +kernel), false, rfl, iteF ?_⟩
      exact k _ (by decide +kernel)
    · refine ⟨_, rfl, _, _, _, _, false, rfl, .ty _, .base (.bl _), kit_ty (by decide +kernel), false, rfl, iteF ?_⟩
      refine ⟨_, rfl, _, _, _, _, true, rfl, .ty _, .base (.bl _), kit_ty (by decide +kernel), true, rfl, iteT ?_⟩
      refine ⟨_, rfl, _, rfl, _, _, rfl, rfl, _, rfl, ?_⟩
      refine ite2 (fun c1 => ?_) (fun c1 => absurd (decide_eq_true (by cases b <;> decide)) c1)
      refine ⟨_, _, rfl, rfl, _, rfl, ?_⟩
      refine ite2 (fun c2 => ?_) (fun c2 => absurd (decide_eq_true (by cases b <;> decide)) c2)
      exact ⟨_, rfl, .inr ⟨b, rfl, k _ (by cases b <;> decide +kernel)⟩⟩

theorem okBadNumber___init__ {f C cda cc : Addr} {oc dV kV doc pm ct : Value} {an od : Option Addr} {osl : Array (Option Value)} (lk : K.lookup f = some ⟨oc, od, .func (PySem.W.fnX "__init__" "BadNumber.__init__" (defArgs sBadNumber___init__) (defBody sBadNumber___init__) (defScope sBadNumber___init__) [("__class__", cc)] dV kV doc pm an (.ref cda) ct), osl⟩) (EC : ErrC P K mg "BadNumber" "BadNumber.__init__" C f cda cc) (T : Txt K mg)
    (C_shown : Cal P w K mg base "_shown" P_shown 1 sp_shown) : FnOk P w K mg base CX0 2 f (PySem.W.fnX "__init__" "BadNumber.__init__" (defArgs sBadNumber___init__) (defBody sBadNumber___init__) (defScope sBadNumber___init__) [("__class__", cc)] dV kV doc pm an (.ref cda) ct) PBadNumber___init__ (spBadNumber C) := by
  obtain ⟨g_shown, gd_shown, G_shown, m_shown, k_shown, b_shown⟩ := C_shown.ex
  refine fn_super (N := NBadNumber___init__) lk EC.sup scBadNumber___init__ rfl rfl rfl rfl (fun vs H Q E h => ?_) (fun A outer s H vs Q E hr h => ?_)
  · obtain ⟨a, z, v, rfl, ha, hz, hv, k⟩ := h
    rfl
  · obtain ⟨a, z, v, rfl, ha, hz, hv, k⟩ := h
    refine ⟨_, _, (pa_cons (pe_joined (.cons pe_str (.cons (pe_fmt (pv 1)) (.cons pe_str (.cons (pe_fmt (pe_call G_shown (hr.mono (by decide)) (by rfl) m_shown k_shown b_shown .nil pass0 (pa_cons (pv 2) pa_nil))) .nil))))) pa_nil), (pss_cons (ps_ost (pv 0) (pv 1)) (pss_one (ps_ost (pv 0) (pv 2)))), ?_⟩
    have h1 : (Str.empty ++ ("bad number for " : Str)).length ≤ 15 := by decide +kernel
    have h2 : (Str.empty ++ ("bad number for " : Str) ++ z).length ≤ 1015 := by rw [PySem.Str.length_append]; omega
    have h3 : (Str.empty ++ ("bad number for " : Str) ++ z ++ (": " : Str)).length ≤ 1017 := by rw [PySem.Str.length_append]; rw [show (": " : Str).length = 2 by decide +kernel]; omega
    refine ⟨a, _, rfl, ha, ?_⟩
    refine ⟨_, rfl, Nat.le_trans h1 (by rw [sizeLine_eq]; decide), ?_⟩
    refine ⟨_, rfl, .inl ⟨z, rfl, Nat.le_trans hz (by rw [sizeLine_eq]; decide), z, rfl, Nat.le_trans h2 (by rw [sizeLine_eq]; decide), ?_⟩⟩
    refine ⟨_, rfl, Nat.le_trans h3 (by rw [sizeLine_eq]; decide), ?_⟩
    refine ⟨_, rfl, v, rfl, hv, fun y hy => .inl ⟨y, rfl, Nat.le_trans hy (by rw [sizeLine_eq]; decide), y, rfl, ?_, ?_⟩⟩
    · rw [PySem.Str.length_append, sizeLine_eq]
      omega
    refine ⟨(by show 1 ≤ 1000; decide), ha, ?_⟩
    refine ⟨_, rfl, _, rfl, a, C, rfl, EC.sup.oex, EC.noWhat, .inl ⟨ha, fun dx nd ne => ?_⟩⟩
    refine ⟨_, rfl, _, rfl, a, C, rfl, EC.sup.oex, EC.noValue, .inr ⟨dx, _, upd_same, (by rw [upd_ne ne]; exact upd_same), (by show 1 ≤ 900; decide), ?_⟩⟩
    exact init_leaves2 ha k nd ne

theorem okBadName___init__ {f C cda cc : Addr} {oc dV kV doc pm ct : Value} {an od : Option Addr} {osl : Array (Option Value)} (lk : K.lookup f = some ⟨oc, od, .func (PySem.W.fnX "__init__" "BadName.__init__" (defArgs sBadName___init__) (defBody sBadName___init__) (defScope sBadName___init__) [("__class__", cc)] dV kV doc pm an (.ref cda) ct), osl⟩) (EC : ErrC P K mg "BadName" "BadName.__init__" C f cda cc) (T : Txt K mg)
    (C_shown : Cal P w K mg base "_shown" P_shown 1 sp_shown) : FnOk P w K mg base CX0 2 f (PySem.W.fnX "__init__" "BadName.__init__" (defArgs sBadName___init__) (defBody sBadName___init__) (defScope sBadName___init__) [("__class__", cc)] dV kV doc pm an (.ref cda) ct) PBadName___init__ (spBadName C) := by
  obtain ⟨g_shown, gd_shown, G_shown, m_shown, k_shown, b_shown⟩ := C_shown.ex
  refine fn_super (N := NBadName___init__) lk EC.sup scBadName___init__ rfl rfl rfl rfl (fun vs H Q E h => ?_) (fun A outer s H vs Q E hr h => ?_)
  · obtain ⟨a, v, rfl, ha, hv, k⟩ := h
    rfl
  · obtain ⟨a, v, rfl, ha, hv, k⟩ := h
    refine ⟨_, _, (pa_cons (pe_joined (.cons pe_str (.cons (pe_fmt (pe_call G_shown (hr.mono (by decide)) (by rfl) m_shown k_shown b_shown .nil pass0 (pa_cons (pv 1) pa_nil))) .nil))) pa_nil), (pss_one (ps_ost (pv 0) (pv 1))), ?_⟩
    have h1 : (Str.empty ++ ("bad name: " : Str)).length ≤ 10 := by decide +kernel
    refine ⟨a, _, rfl, ha, ?_⟩
    refine ⟨_, rfl, Nat.le_trans h1 (by rw [sizeLine_eq]; decide), ?_⟩
    refine ⟨_, rfl, v, rfl, hv, fun y hy => .inl ⟨y, rfl, Nat.le_trans hy (by rw [sizeLine_eq]; decide), y, rfl, ?_, ?_⟩⟩
    · rw [PySem.Str.length_append, sizeLine_eq]
      omega
    refine ⟨(by show 1 ≤ 1000; decide), ha, ?_⟩
    refine ⟨_, rfl, _, rfl, a, C, rfl, EC.sup.oex, EC.noName, .inl ⟨ha, fun dx nd ne => ?_⟩⟩
    exact init_leaves1 k nd ne
end
end Wb

namespace Wb
open PySem PySem.Spec PyProof.Rows L2 Wx NdefX
section
variable {P : Program} {w : World} {K : PySem.W.Frag} {mg : Str → Option Value} {base : Heap}

theorem take_snoc {α : Type} : ∀ {l : List α} {i : Nat} {x : α}, l[i]? = some x → l.take (i + 1) = l.take i ++ [x]
  | [], i, x, h => by simp at h
  | a :: l, 0, x, h => by
    have e : a = x := Option.some.inj h
    subst e
    rfl
  | a :: l, i + 1, x, h => by
    have ih := take_snoc (l := l) (i := i) (x := x) h
    show a :: l.take (i + 1) = a :: l.take i ++ [x]
    rw [ih]
    rfl
abbrev codes (z : Str) : List Nat := z.cps.toList
theorem codes_len (z : Str) : (codes z).length = z.length := Array.length_toList
theorem codes_app (x y : Str) : codes (x ++ y) = codes x ++ codes y := by
  show (x ++ y).cps.toList = _
  rw [PySem.Str.cps_append, Array.toList_append]
theorem bigN {n : Nat} (h : n ≤ 1000000) : n ≤ sizeLine := Nat.le_trans h (by rw [sizeLine_eq]; decide)
theorem lt1 {c d : Nat} : ([c] : List Nat) < [d] ↔ c < d := by
  rw [List.cons_lt_cons_iff]
  simp
theorem aS : ("a" : Str).cps.toList = [97] := by decide +kernel
theorem zS : ("z" : Str).cps.toList = [122] := by decide +kernel
def lowB (z : Str) : Bool := (codes z).all fun c => decide (97 ≤ c ∧ c ≤ 122)
def nameB : V → Bool
  | .str z => decide (1 ≤ z.length ∧ z.length ≤ 8) && lowB z
  | _ => false
def numB (v : V) (lo hi : Int) : Bool := match v with | .int i => decide (lo ≤ i ∧ i ≤ hi) | _ => false
/-- a value of one of the kinds that are asked -/
inductive OddV : V → Prop
  | str (z : Str) : z.length ≤ 1000 → (reprText z).length ≤ 20000 → OddV (.str z)
  | int (i : Int) : OddV (.int i)
  | non : OddV .non
  | bl (b : Bool) : OddV (.bl b)
theorem OddV.shows {x : V} (h : OddV x) : ShowOk x := by
  cases h with
  | str z h1 h2 => exact .inl ⟨z, rfl, h2⟩
  | int i => exact .inr (.inl ⟨i, rfl⟩)
  | non => exact .inr (.inr (.inl rfl))
  | bl b => exact .inr (.inr (.inr ⟨b, rfl⟩))
theorem OddV.self {x : V} (h : OddV x) : scal x x = true := by cases h <;> rfl
theorem OddV.text {x : V} (h : OddV x) (z : Str) : scal x (.str z) = true := by cases h <;> rfl
theorem OddV.tyOf {x : V} (h : OddV x) {K : PySem.W.Frag} {H : Hp} : ∃ T, TyOf K H x T ∧ True := by
  cases h with
  | str z h1 h2 => exact ⟨_, .str _, trivial⟩
  | int i => exact ⟨_, .int _, trivial⟩
  | non => exact ⟨_, .non, trivial⟩
  | bl b => exact ⟨_, .bl _, trivial⟩
def spis_name : Sp := fun vs H Q _ => ∃ x, vs = [x] ∧ OddV x ∧ ∀ H', Same H H' → Q (.bl (nameB x)) H'
def spcheck_name (C : Addr) : Sp := fun vs H Q E => ∃ x, vs = [x] ∧ OddV x ∧ (nameB x = true → ∀ H', Same H H' → Q x H') ∧
  (nameB x = false → ∀ (d : Addr) (H' : Hp), H d = none → Same H H' → H' d = some (.xd [("name", x)]) → E (.ref C) (some d) H')
def spcheck_number (C : Addr) : Sp := fun vs H Q E => ∃ (z : Str) (v : V) (lo hi : Int), vs = [.str z, v, .int lo, .int hi] ∧ z.length ≤ 1000 ∧ OddV v ∧ (numB v lo hi = true → Q v H) ∧
  (numB v lo hi = false → ∀ (d : Addr) (H' : Hp), H d = none → Same H H' → H' d = some (.xd [("value", v), ("what", .str z)]) → E (.ref C) (some d) H')
def sp_law_is_integer : Sp := fun vs H Q _ => ∃ i : Int, vs = [.int i] ∧ Q (.bl true) H

theorem okis_name {f : Addr} {fd : FuncData} (F : Fun K "is_name" "is_name" sis_name f fd) (T : Txt K mg) : FnOk P w K mg base CX0 1 f fd Pis_name spis_name := by
  obtain ⟨_, c__LONGEST_NAME⟩ := T.c__LONGEST_NAME
  refine F.ok scis_name (fun vs H Q E h => ?_) (fun cdv A outer s H vs Q E hr h => ?_)
  · obtain ⟨x, rfl, hx, k⟩ := h
    rfl
  · obtain ⟨x, rfl, hx, k⟩ := h
    refine ⟨_, (pss_cons (ps_if (PW.pt (pw_or (pt_not (pt_val (pe_callB (id := "isinstance") call_isi (by rfl) T.b_isinstance (by decide +kernel) (pa_cons (pv 0) (pa_cons (pe_bltn (v := .ty "str") (by rfl) T.b_str (by decide +kernel) rfl) pa_nil))))) (pw_or1 (pt_not (pt_chain op_le op_le pe_int (pe_callB call_len_str (by rfl) T.b_len PySem.boot_len (pa_cons (pv 0) pa_nil)) (pe_glob (v := .int 8) rfl c__LONGEST_NAME ⟨_, rfl⟩))))))
  (pss_one (ps_ret pe_bl))
  pss_nil)
  (pss_one (ps_ret (pe_callB (id := "all") (cr_all rfl) (by rfl) T.b_all (by decide +kernel) (pa_cons (pe_lc (own := [("letter", 1)]) rfl scis_name.nd (pi_str (pv 0)) (blkOk_by (own := [("letter", 1)]) (N := Nis_name) (sc := defScope sis_name) (by decide +kernel)) (fun _ _ _ _ _ => (pg_name (i := 1) scis_name.nd rfl (by first | exact Or.inl rfl | exact Or.inr rfl))) (fun _ _ _ _ _ => pts_nil) (fun _ _ _ _ _ => (pe_chain op_le_str op_le_str pe_str (pv 1) pe_str))) pa_nil))))), ?_⟩
    have oth : ∀ y, nameB x = false → y = V.bl false → Q y H := fun y e q => by rw [q, ← e]; exact k H (Same.refl H)
    cases hx with
    | int i =>
      refine ⟨_, rfl, _, _, _, _, false, rfl, .ty _, .base (.int _), kit_ty (by decide +kernel), false, rfl, iteT ?_⟩
      exact k H (Same.refl H)
    | non =>
      refine ⟨_, rfl, _, _, _, _, false, rfl, .ty _, .base .non, kit_ty (by decide +kernel), false, rfl, iteT ?_⟩
      exact k H (Same.refl H)
    | bl b =>
      refine ⟨_, rfl, _, _, _, _, false, rfl, .ty _, .base (.bl _), kit_ty (by decide +kernel), false, rfl, iteT ?_⟩
      exact k H (Same.refl H)
    | str z hz hr2 =>
      have hzl : z.length ≤ sizeLine := bigN (by omega)
      refine ⟨_, rfl, _, _, _, _, true, rfl, .ty _, .base (.str _), kit_ty (by decide +kernel), true, rfl, iteF ?_⟩
      have no : ¬ (1 ≤ z.length ∧ z.length ≤ 8) → nameB (.str z) = false := fun n => by show (decide (1 ≤ z.length ∧ z.length ≤ 8) && lowB z) = false; rw [decide_eq_false n]; rfl
      have kF : nameB (.str z) = false → Q (.bl false) H := fun e => oth _ e rfl
      refine ⟨_, rfl, z, rfl, hzl, _, _, rfl, rfl, _, rfl, ?_⟩
      refine ite2 (fun c1 => ?_) (fun c1 => ?_)
      · have c1 := of_decide_eq_true c1
        refine ⟨_, _, rfl, rfl, _, rfl, ?_⟩
        refine ite2 (fun c2 => ?_) (fun c2 => ?_)
        · have c2 : ¬ ((z.length : Nat) : Int) ≤ 8 := fun q => by
            rw [decide_eq_true q] at c2
            exact absurd c2 (by decide)
          exact kF (no (by omega))
        · have c2 : ((z.length : Nat) : Int) ≤ 8 := by
            by_cases q : ((z.length : Nat) : Int) ≤ 8
            · exact q
            · rw [decide_eq_false q] at c2
              exact absurd rfl c2
          have hl8 : 1 ≤ z.length ∧ z.length ≤ 8 := by omega
          refine ⟨_, rfl, _, rfl, fun D hD0 => ?_⟩
          refine lc_it walk_str (fun i H1 => H1 D = some (.lst ((((codes z).take i).map fun c => decide (97 ≤ c ∧ c ≤ 122)).map V.bl)) ∧ Same H H1) ⟨upd_same, Same.new hD0⟩ (fun _ _ _ _ => trivial) ?_ ?_
          · rintro i x H1o H1 hi ⟨e1, s1⟩ ⟨rfl, c, hc, rfl⟩
            have hc' : (codes z)[i]? = some c := by rw [Array.getElem?_toList]; exact hc
            have hi8 : i < 8 := Nat.lt_of_lt_of_le hi hl8.2
            have fin : ∀ b : Bool, b = decide (97 ≤ c ∧ c ≤ 122) → (∃ xs, H1 D = some (.lst xs) ∧ xs.length ≤ 1000 ∧ (upd H1 D (.lst (xs ++ [V.bl b]))) D = some (.lst ((((codes z).take (i + 1)).map fun c => decide (97 ≤ c ∧ c ≤ 122)).map V.bl)) ∧ Same H (upd H1 D (.lst (xs ++ [V.bl b])))) := fun b hb => by
              refine ⟨_, e1, by rw [List.length_map, List.length_map, List.length_take]; omega, ?_, fun b o e => by rw [upd_ne (ne_of_none e hD0)]; exact s1 _ _ e⟩
              rw [hb, take_snoc hc', List.map_append, List.map_append]
              exact upd_same
            refine ⟨rfl, ?_⟩
            refine ⟨_, rfl, _, _, rfl, rfl, _, rfl, ?_⟩
            refine ite2 (fun d1 => ?_) (fun d1 => ?_)
            · have d1 : 97 ≤ c := by
                by_cases q : c < 97
                · rw [aS, decide_eq_true (lt1.mpr q)] at d1
                  cases d1
                · omega
              refine ⟨_, _, rfl, rfl, ?_⟩
              obtain ⟨xs, f1, f2, f3, f4⟩ := fin (!decide (("z" : Str).cps.toList < [c])) (by
                rw [zS]
                by_cases q : 122 < c
                · rw [decide_eq_true (lt1.mpr q), decide_eq_false (by omega)]
                  rfl
                · rw [decide_eq_false (fun y => q (lt1.mp y)), decide_eq_true (by omega)]
                  rfl)
              exact ⟨_, f1, small1000 f2, f3, f4⟩
            · have d1 : ¬ 97 ≤ c := fun q => d1 (by rw [aS, decide_eq_false (fun y => absurd (lt1.mp y) (by omega))]; rfl)
              obtain ⟨xs, f1, f2, f3, f4⟩ := fin false (by rw [decide_eq_false (by omega)])
              exact ⟨_, f1, small1000 f2, f3, f4⟩
          · rintro H1 ⟨e1, s1⟩
            have ht : (codes z).take z.cps.size = codes z := List.take_of_length_le (by rw [codes_len]; exact Nat.le_refl _)
            rw [ht] at e1
            refine ⟨D, _, rfl, SqL.of e1, ?_⟩
            have e : (((codes z).map fun c => decide (97 ≤ c ∧ c ≤ 122)).all id) = nameB (.str z) := by
              rw [List.all_map]
              show _ = (decide (1 ≤ z.length ∧ z.length ≤ 8) && lowB z)
              rw [decide_eq_true hl8]
              rfl
            rw [e]
            exact k H1 s1
      · refine ⟨_, rfl, ite2 (fun _ => ?_) (fun y => absurd rfl y)⟩
        have c1 : ¬ (1 : Int) ≤ ((z.length : Nat) : Int) := fun q => c1 (decide_eq_true q)
        exact kF (no (by omega))

theorem okcheck_name {f : Addr} {fd : FuncData} (F : Fun K "check_name" "check_name" scheck_name f fd) (T : Txt K mg) {C_BadName f_BadName cda_BadName cc_BadName : Addr} {fd_BadName : FuncData} (E_BadName : ErrC P K mg "BadName" "BadName.__init__" C_BadName f_BadName cda_BadName cc_BadName) (G_BadName : FnOk P w K mg base CX0 2 f_BadName fd_BadName PBadName___init__ (spBadName C_BadName)) (b_BadName : Binds K fd_BadName PBadName___init__ []) (Cis_name : Cal P w K mg base "is_name" Pis_name 1 spis_name) : FnOk P w K mg base (L2.CX P w) 4 f fd Pcheck_name (spcheck_name C_BadName) := by
  obtain ⟨gis_name, gdis_name, Gis_name, mis_name, kis_name, bis_name⟩ := Cis_name.ex
  refine F.okX sccheck_name (fun vs H Q E h => ?_) (fun cdv A outer s H vs Q E hr h => ?_)
  · obtain ⟨x, rfl, hx, kT, kE⟩ := h
    rfl
  · obtain ⟨x, rfl, hx, kT, kE⟩ := h
    refine ⟨_, (pss_cons (ps_if (pt_not (pt_val (pe_call Gis_name (hr.mono (by decide)) (by rfl) mis_name kis_name bis_name .nil pass0 (pa_cons (pv 0) pa_nil))))
  (pss_one (ps_raise rfl (takes_of rfl rfl rfl rfl) (pmk_oex E_BadName.sup.oex E_BadName.ini E_BadName.tyI G_BadName (hr.mono (by decide)) b_BadName .nil pass0 (by rfl) E_BadName.g (pa_cons (pv 0) pa_nil))))
  pss_nil)
  (pss_one (ps_ret (pv 0)))), ?_⟩
    refine ⟨_, rfl, x, rfl, hx, fun H1 s1 => ⟨_, rfl, ?_⟩⟩
    cases hb : nameB x with
    | true =>
      refine iteF ?_
      exact ⟨_, rfl, kT hb H1 s1⟩
    | false =>
      refine iteT ?_
      refine ⟨_, rfl, (by show 1 ≤ 1000; decide), fun a na => ⟨a, x, rfl, upd_same, hx.shows, made_of na fun d H' nd s' hd => ?_⟩⟩
      exact kE hb d H' (s1.free nd) (s1.trans s') hd

theorem okcheck_number {f : Addr} {fd : FuncData} (F : Fun K "check_number" "check_number" scheck_number f fd) (T : Txt K mg) {C_BadNumber f_BadNumber cda_BadNumber cc_BadNumber : Addr} {fd_BadNumber : FuncData} (E_BadNumber : ErrC P K mg "BadNumber" "BadNumber.__init__" C_BadNumber f_BadNumber cda_BadNumber cc_BadNumber) (G_BadNumber : FnOk P w K mg base CX0 2 f_BadNumber fd_BadNumber PBadNumber___init__ (spBadNumber C_BadNumber)) (b_BadNumber : Binds K fd_BadNumber PBadNumber___init__ []) : FnOk P w K mg base (L2.CX P w) 4 f fd Pcheck_number (spcheck_number C_BadNumber) := by
  refine F.okX sccheck_number (fun vs H Q E h => ?_) (fun cdv A outer s H vs Q E hr h => ?_)
  · obtain ⟨z, v, lo, hi, rfl, hz, hv, kT, kE⟩ := h
    rfl
  · obtain ⟨z, v, lo, hi, rfl, hz, hv, kT, kE⟩ := h
    refine ⟨_, (pss_cons (ps_if (PW.pt (pw_or (pt_val (pe_callB (id := "isinstance") call_isi (by rfl) T.b_isinstance (by decide +kernel) (pa_cons (pv 1) (pa_cons (pe_bltn (v := .ty "bool") (by rfl) T.b_bool (by decide +kernel) rfl) pa_nil)))) (pw_or1 (pt_not (pt_val (pe_callB (id := "isinstance") call_isi (by rfl) T.b_isinstance (by decide +kernel) (pa_cons (pv 1) (pa_cons (pe_bltn (v := .ty "int") (by rfl) T.b_int (by decide +kernel) rfl) pa_nil))))))))
  (pss_one (ps_raise rfl (takes_of rfl rfl rfl rfl) (pmk_oex E_BadNumber.sup.oex E_BadNumber.ini E_BadNumber.tyI G_BadNumber (hr.mono (by decide)) b_BadNumber .nil pass0 (by rfl) E_BadNumber.g (pa_cons (pv 0) (pa_cons (pv 1) pa_nil)))))
  pss_nil)
  (pss_cons (ps_if (PW.pt (pw_or (pt_cmpR op_lt (pv 1) (pv 2) (nomark _)) (pw_or1 (pt_cmpR op_gt (pv 1) (pv 3) (nomark _)))))
  (pss_one (ps_raise rfl (takes_of rfl rfl rfl rfl) (pmk_oex E_BadNumber.sup.oex E_BadNumber.ini E_BadNumber.tyI G_BadNumber (hr.mono (by decide)) b_BadNumber .nil pass0 (by rfl) E_BadNumber.g (pa_cons (pv 0) (pa_cons (pv 1) pa_nil)))))
  pss_nil)
  (pss_one (ps_ret (pv 1))))), ?_⟩
    have hv0 := hv
    cases hv with
    | int i =>
      refine ⟨_, rfl, _, _, _, _, false, rfl, .ty _, .base (.int _), kit_ty (by decide +kernel), false, rfl, iteF ?_⟩
      refine ⟨_, rfl, _, _, _, _, true, rfl, .ty _, .base (.int _), kit_ty (by decide +kernel), true, rfl, iteF ?_⟩
      refine ⟨_, rfl, _, rfl, _, _, rfl, rfl, _, rfl, ?_⟩
      refine ite2 (fun c1 => ?_) (fun c1 => ?_)
      · have c1 := of_decide_eq_true c1
        exact ⟨_, rfl, _, rfl, (by show 2 ≤ 1000; decide), fun a na => ⟨a, z, _, rfl, upd_same, hz, hv0.shows, made_of na fun d H' nd s' hd => kE (decide_eq_false (by omega)) d H' nd s' hd⟩⟩
      · have c1 : ¬ i < lo := fun q => c1 (decide_eq_true q)
        refine ⟨_, rfl, _, rfl, _, _, rfl, rfl, _, rfl, ?_⟩
        refine ite2 (fun c2 => ?_) (fun c2 => ?_)
        · have c2 := of_decide_eq_true c2
          exact ⟨_, rfl, _, rfl, (by show 2 ≤ 1000; decide), fun a na => ⟨a, z, _, rfl, upd_same, hz, hv0.shows, made_of na fun d H' nd s' hd => kE (decide_eq_false (by omega)) d H' nd s' hd⟩⟩
        · have c2 : ¬ hi < i := fun q => c2 (decide_eq_true q)
          exact ⟨_, rfl, kT (decide_eq_true (by omega))⟩
    | non =>
      refine ⟨_, rfl, _, _, _, _, false, rfl, .ty _, .base .non, kit_ty (by decide +kernel), false, rfl, iteF ?_⟩
      refine ⟨_, rfl, _, _, _, _, false, rfl, .ty _, .base .non, kit_ty (by decide +kernel), false, rfl, iteT ?_⟩
      exact ⟨_, rfl, _, rfl, (by show 2 ≤ 1000; decide), fun a na => ⟨a, z, _, rfl, upd_same, hz, hv0.shows, made_of na fun d H' nd s' hd => kE rfl d H' nd s' hd⟩⟩
    | bl b =>
      refine ⟨_, rfl, _, _, _, _, true, rfl, .ty _, .base (.bl _), kit_ty (by decide +kernel), true, rfl, iteT ?_⟩
      exact ⟨_, rfl, _, rfl, (by show 2 ≤ 1000; decide), fun a na => ⟨a, z, _, rfl, upd_same, hz, hv0.shows, made_of na fun d H' nd s' hd => kE rfl d H' nd s' hd⟩⟩
    | str y h1 h2 =>
      refine ⟨_, rfl, _, _, _, _, false, rfl, .ty _, .base (.str _), kit_ty (by decide +kernel), false, rfl, iteF ?_⟩
      refine ⟨_, rfl, _, _, _, _, false, rfl, .ty _, .base (.str _), kit_ty (by decide +kernel), false, rfl, iteT ?_⟩
      exact ⟨_, rfl, _, rfl, (by show 2 ≤ 1000; decide), fun a na => ⟨a, z, _, rfl, upd_same, hz, hv0.shows, made_of na fun d H' nd s' hd => kE rfl d H' nd s' hd⟩⟩

theorem ok_law_is_integer {f : Addr} {fd : FuncData} (F : Fun K "_law_is_integer" "_law_is_integer" s_law_is_integer f fd) (T : Txt K mg) : FnOk P w K mg base CX0 1 f fd P_law_is_integer sp_law_is_integer := by
  refine F.ok sc_law_is_integer (fun vs H Q E h => ?_) (fun cdv A outer s H vs Q E hr h => ?_)
  · obtain ⟨i, rfl, k⟩ := h
    rfl
  · obtain ⟨i, rfl, k⟩ := h
    refine ⟨_, (pss_one (ps_ret (pe_and (pe_callB (id := "isinstance") call_isi (by rfl) T.b_isinstance (by decide +kernel) (pa_cons (pv 0) (pa_cons (pe_bltn (v := .ty "int") (by rfl) T.b_int (by decide +kernel) rfl) pa_nil))) (pe_one (pe_not (pe_callB (id := "isinstance") call_isi (by rfl) T.b_isinstance (by decide +kernel) (pa_cons (pv 0) (pa_cons (pe_bltn (v := .ty "bool") (by rfl) T.b_bool (by decide +kernel) rfl) pa_nil)))))))), ?_⟩
    refine ⟨_, rfl, _, _, _, _, true, rfl, .ty _, .base (.int _), kit_ty (by decide +kernel), true, rfl, iteT ?_⟩
    exact ⟨_, rfl, _, _, _, _, false, rfl, .ty _, .base (.int _), kit_ty (by decide +kernel), false, rfl, k⟩
end

/-- what is asked of a class with __init__ and __eq__ -/
structure DatC (K : PySem.W.Frag) (mg : Str → Option Value) (x : Str) (C fi fe : Addr) (fs : List Str) : Prop where
  g : mg x = some (.ref C)
  mkk : Mk K C fi
  cls : Cls K C
  no : ∀ f, f ∈ fs → NoAttr K C f
  eq : PySem.W.findIn K (.ref C) "__eq__" = some (some (.ref fe))
  fe : PySem.W.isFn K (.ref fe) = true
  ne : PySem.W.findIn K (.ref C) "__ne__" = some (some (.builtin "object.__ne__"))
  ob : PySem.W.subIn K (.ref C) (.type "object") = some true
  ha : PySem.W.findIn K (.ref C) "__class__" = some (some (.builtin "object.__class__"))
  hn : PySem.W.specialIn K (.builtin "object.__class__") "__get__" = some (some (.builtin "getset_descriptor.__get__"))
  htk : PySem.W.takesIn K (.builtin "object.__class__") = some true
  hm : PySem.W.mroIn K C (.type "object") = some true
  kit : PySem.W.kitOne K (.ref C) (.ref C) = some true
/-- a plot at p -/
def PlotAt (C : Addr) (H : Hp) (p : Addr) (z : Str) (h d : Int) : Prop := ∃ dx, H p = some (.ins C dx [("name", .str z), ("hold", .int h), ("drink", .int d)])
theorem PlotAt.same {C : Addr} {H H' : Hp} {p : Addr} {z : Str} {h d : Int} (x : PlotAt C H p z h d) (s : Same H H') : PlotAt C H' p z h d := by
  obtain ⟨dx, e⟩ := x
  exact ⟨dx, s _ _ e⟩
/-- C(name, hold, drink): the first wrong part is told -/
theorem upd_upd {H : Hp} {a : Addr} {o o1 : HO} : upd (upd H a o) a o1 = upd H a o1 := by
  funext b
  by_cases h : b = a
  · rw [h, upd_same, upd_same]
  · rw [upd_ne h, upd_ne h, upd_ne h]
def spPlot_init (C CN CM : Addr) : Sp := fun vs H Q E => ∃ (p dx : Addr) (x y z : V), vs = [.ref p, x, y, z] ∧ H p = some (.ins C dx []) ∧ OddV x ∧ OddV y ∧ OddV z ∧
  (nameB x = true → numB y 1 8 = true → numB z 1 8 = true → ∀ H', (∀ b o, b ≠ p → b ≠ dx → H b = some o → H' b = some o) → H' p = some (.ins C dx [("name", x), ("hold", y), ("drink", z)]) → Q .non H') ∧
  (nameB x = false → ∀ (d : Addr) (H' : Hp), H d = none → (∀ b o, b ≠ p → b ≠ dx → H b = some o → H' b = some o) → H' d = some (.xd [("name", x)]) → E (.ref CN) (some d) H') ∧
  (nameB x = true → numB y 1 8 = false → ∀ (d : Addr) (H' : Hp), H d = none → (∀ b o, b ≠ p → b ≠ dx → H b = some o → H' b = some o) → H' d = some (.xd [("value", y), ("what", .str "hold")]) → E (.ref CM) (some d) H') ∧
  (nameB x = true → numB y 1 8 = true → numB z 1 8 = false → ∀ (d : Addr) (H' : Hp), H d = none → (∀ b o, b ≠ p → b ≠ dx → H b = some o → H' b = some o) → H' d = some (.xd [("value", z), ("what", .str "drink")]) → E (.ref CM) (some d) H')
def spPlot_eq (C : Addr) : Sp := fun vs H Q _ => ∃ (p q : Addr) (z1 z2 : Str) (h1 h2 d1 d2 : Int), vs = [.ref p, .ref q] ∧ PlotAt C H p z1 h1 d1 ∧ PlotAt C H q z2 h2 d2 ∧ Q (.bl (decide (z1 = z2 ∧ h1 = h2 ∧ d1 = d2))) H
end Wb

namespace Wb
open PySem PySem.Spec PyProof.Rows L2 Wx NdefX
section
variable {P : Program} {w : World} {K : PySem.W.Frag} {mg : Str → Option Value} {base : Heap}

theorem okPlot___init__ {f : Addr} {fd : FuncData} (F : Fun K "__init__" "Plot.__init__" sPlot___init__ f fd) (T : Txt K mg) {C_BadName C_BadNumber C_Plot fi fe : Addr} (D_Plot : DatC K mg "Plot" C_Plot fi fe ["name", "hold", "drink"]) (C_xcheck_name : ∃ (g : Addr) (gd : FuncData), FnOk P w K mg base (L2.CX P w) 4 g gd Pcheck_name (spcheck_name C_BadName) ∧ mg "check_name" = some (.ref g) ∧ PySem.W.keepIn K (.ref g) = true ∧ Binds K gd Pcheck_name []) (C_xcheck_number : ∃ (g : Addr) (gd : FuncData), FnOk P w K mg base (L2.CX P w) 4 g gd Pcheck_number (spcheck_number C_BadNumber) ∧ mg "check_number" = some (.ref g) ∧ PySem.W.keepIn K (.ref g) = true ∧ Binds K gd Pcheck_number []) : FnOk P w K mg base (L2.CX P w) 5 f fd PPlot___init__ (spPlot_init C_Plot C_BadName C_BadNumber) := by
  obtain ⟨_, c_MOST_UNITS⟩ := T.c_MOST_UNITS
  obtain ⟨gcheck_name, gdcheck_name, Gcheck_name, mcheck_name, kcheck_name, bcheck_name⟩ := C_xcheck_name
  obtain ⟨gcheck_number, gdcheck_number, Gcheck_number, mcheck_number, kcheck_number, bcheck_number⟩ := C_xcheck_number
  refine F.okX scPlot___init__ (fun vs H Q E h => ?_) (fun cdv A outer s H vs Q E hr h => ?_)
  · obtain ⟨p, dx, x, y, z, rfl, hp, hx, hy, hz, kOk, kN, kH, kD⟩ := h
    rfl
  · obtain ⟨p, dx, x, y, z, rfl, hp, hx, hy, hz, kOk, kN, kH, kD⟩ := h
    refine ⟨_, (pss_cons (ps_fld (pv 0) (pe_callS Gcheck_name (hr.mono (by decide)) (by rfl) mcheck_name kcheck_name bcheck_name (fun σ => passAt (takes_of rfl rfl rfl rfl) σ) (pa_cons (pv 1) pa_nil)) rfl)
  (pss_cons (ps_fld (pv 0) (pe_callS Gcheck_number (hr.mono (by decide)) (by rfl) mcheck_number kcheck_number bcheck_number (fun σ => passAt (takes_of rfl rfl rfl rfl) σ) (pa_cons pe_str (pa_cons (pv 2) (pa_cons pe_int (pa_cons (pe_glob (v := .int 8) rfl c_MOST_UNITS ⟨_, rfl⟩) pa_nil))))) rfl)
  (pss_one (ps_fld (pv 0) (pe_callS Gcheck_number (hr.mono (by decide)) (by rfl) mcheck_number kcheck_number bcheck_number (fun σ => passAt (takes_of rfl rfl rfl rfl) σ) (pa_cons pe_str (pa_cons (pv 3) (pa_cons pe_int (pa_cons (pe_glob (v := .int 8) rfl c_MOST_UNITS ⟨_, rfl⟩) pa_nil))))) rfl)))), ?_⟩
    refine ⟨_, rfl, x, rfl, hx, fun t1 H1 s1 => ?_, fun t1 d H1 nd s1 hd => kN t1 d H1 nd (fun b o _ _ e => s1 b o e) hd⟩
    refine ⟨_, rfl, p, C_Plot, dx, [], rfl, s1 _ _ hp, D_Plot.cls, D_Plot.no "name" (by decide), (by decide), ?_⟩
    have free : ∀ {o : HO} {d : Addr}, upd H1 p o d = none → H d = none := fun {o d} e => by
      have ne : d ≠ p := fun q => by rw [q, upd_same] at e; cases e
      rw [upd_ne ne] at e
      exact s1.free e
    refine ⟨_, rfl, "hold", y, 1, 8, rfl, (by decide +kernel), hy, fun t2 => ?_, fun t2 d H2 nd s2 hd => kH t1 t2 d H2 (free nd) (fun b o nb _ e => s2 b o (by rw [upd_ne nb]; exact s1 b o e)) hd⟩
    refine ⟨_, rfl, p, C_Plot, dx, _, rfl, upd_same, D_Plot.cls, D_Plot.no "hold" (by decide), (by show 1 < 1000; decide), ?_⟩
    rw [upd_upd]
    refine ⟨_, rfl, "drink", z, 1, 8, rfl, (by decide +kernel), hz, fun t3 => ?_, fun t3 d H2 nd s2 hd => kD t1 t2 t3 d H2 (free nd) (fun b o nb _ e => s2 b o (by rw [upd_ne nb]; exact s1 b o e)) hd⟩
    refine ⟨_, rfl, p, C_Plot, dx, _, rfl, upd_same, D_Plot.cls, D_Plot.no "drink" (by decide), (by show 2 < 1000; decide), ?_⟩
    refine kOk t1 t2 t3 _ (fun b o nb _ e => ?_) upd_same
    rw [upd_upd, upd_ne nb]
    exact s1 b o e

theorem okPlot___eq__ {f : Addr} {fd : FuncData} (F : Fun K "__eq__" "Plot.__eq__" sPlot___eq__ f fd) (T : Txt K mg) {C_BadName C_BadNumber C_Plot fi fe : Addr} (D_Plot : DatC K mg "Plot" C_Plot fi fe ["name", "hold", "drink"]) : FnOk P w K mg base CX0 1 f fd PPlot___eq__ (spPlot_eq C_Plot) := by
  refine F.ok scPlot___eq__ (fun vs H Q E h => ?_) (fun cdv A outer s H vs Q E hr h => ?_)
  · obtain ⟨p, q, z1, z2, h1, h2, d1, d2, rfl, hp, hq, k⟩ := h
    rfl
  · obtain ⟨p, q, z1, z2, h1, h2, d1, d2, rfl, hp, hq, k⟩ := h
    refine ⟨_, (pss_one (ps_ret (pe_and (pe_callB (id := "isinstance") call_isi (by rfl) T.b_isinstance (by decide +kernel) (pa_cons (pv 1) (pa_cons (pe_glob (v := .ref C_Plot) rfl D_Plot.g rfl) pa_nil))) (pe_and (pe_cmpR op_eq (pe_fld (pv 0) rfl) (pe_fld (pv 1) rfl) (nomark _)) (pe_and (pe_cmpR op_eq (pe_fld (pv 0) rfl) (pe_fld (pv 1) rfl) (nomark _)) (pe_one (pe_cmpR op_eq (pe_fld (pv 0) rfl) (pe_fld (pv 1) rfl) (nomark _)))))))), ?_⟩
    obtain ⟨dx, e1⟩ := hp
    obtain ⟨dy, e2⟩ := hq
    refine ⟨_, rfl, _, _, _, _, true, rfl, .own _, .base (.ins e2 D_Plot.cls D_Plot.ha D_Plot.hn D_Plot.htk D_Plot.hm), D_Plot.kit, true, rfl, iteT ?_⟩
    have no := fun f (h : f ∈ (["name", "hold", "drink"] : List Str)) => D_Plot.no f h
    refine ⟨_, rfl, p, C_Plot, dx, _, _, rfl, e1, D_Plot.cls, no _ (by decide), rfl, _, rfl, q, C_Plot, dy, _, _, rfl, e2, D_Plot.cls, no _ (by decide), rfl, rfl, _, rfl, ?_⟩
    refine ite2 (fun c1 => ?_) (fun c1 => ?_)
    · have c1 : z1 = z2 := by injection of_decide_eq_true c1
      refine ⟨_, rfl, p, C_Plot, dx, _, _, rfl, e1, D_Plot.cls, no _ (by decide), rfl, _, rfl, q, C_Plot, dy, _, _, rfl, e2, D_Plot.cls, no _ (by decide), rfl, rfl, _, rfl, ?_⟩
      refine ite2 (fun c2 => ?_) (fun c2 => ?_)
      · have c2 : h1 = h2 := by injection of_decide_eq_true c2
        refine ⟨_, rfl, p, C_Plot, dx, _, _, rfl, e1, D_Plot.cls, no _ (by decide), rfl, _, rfl, q, C_Plot, dy, _, _, rfl, e2, D_Plot.cls, no _ (by decide), rfl, rfl, ?_⟩
        have e : decide (V.int d1 = V.int d2) = decide (z1 = z2 ∧ h1 = h2 ∧ d1 = d2) := by simp [c1, c2]
        show Q (.bl (decide (V.int d1 = V.int d2))) H
        rw [e]
        exact k
      · have c2 : ¬ h1 = h2 := fun q => c2 (decide_eq_true (by rw [q]))
        rw [decide_eq_false (fun q => c2 q.2.1)] at k
        exact k
    · have c1 : ¬ z1 = z2 := fun q => c1 (decide_eq_true (by rw [q]))
      rw [decide_eq_false (fun q => c1 q.1)] at k
      exact k
end
end Wb

namespace Wb
open PySem PySem.Spec PyProof.Rows L2 Wx NdefX
section
variable {P : Program} {w : World} {K : PySem.W.Frag} {mg : Str → Option Value} {base : Heap}

theorem look_val {v w : V} : ([("value", v), ("what", w)] : List (Str × V)).lookup ("value" : Str) = some v := by rw [lookup_put, if_pos rfl]
theorem look_what {v w : V} : ([("value", v), ("what", w)] : List (Str × V)).lookup ("what" : Str) = some w := by rw [lookup_put, if_neg (by decide +kernel), lookup_put, if_pos rfl]
theorem look_name {v : V} : ([("name", v)] : List (Str × V)).lookup ("name" : Str) = some v := by rw [lookup_put, if_pos rfl]
def TxtOk (n : Nat) (z : Str) : Prop := z.length ≤ n ∧ ∀ c, c ∈ codes z → c < 128
theorem TxtOk.repr {n : Nat} {z : Str} (h : TxtOk n z) (hn : n ≤ 1000) : (reprText z).length ≤ 20000 := by
  have := PySem.StrLaws.reprText_len z (fun c hc => Nat.lt_trans (h.2 c hc) (by decide))
  have := h.1
  omega
theorem TxtOk.mono {m n : Nat} {z : Str} (h : TxtOk m z) (hn : m ≤ n) : TxtOk n z := ⟨Nat.le_trans h.1 hn, h.2⟩
theorem TxtOk.app {m n : Nat} {x y : Str} (h1 : TxtOk m x) (h2 : TxtOk n y) : TxtOk (m + n) (x ++ y) := by
  refine ⟨by rw [PySem.Str.length_append]; have := h1.1; have := h2.1; omega, fun c hc => ?_⟩
  have e : codes (x ++ y) = codes x ++ codes y := by
    show (x ++ y).cps.toList = _
    rw [PySem.Str.cps_append, Array.toList_append]
  rw [e] at hc
  rcases List.mem_append.mp hc with q | q
  · exact h1.2 c q
  · exact h2.2 c q
theorem TxtOk.cut {n : Nat} {z : Str} {lo hi : Option Int} (h : TxtOk n z) : TxtOk n (cutS z lo hi) := by
  have e : codes (cutS z lo hi) = ((codes z).drop (HT.sIx z.length 0 lo)).take (HT.sIx z.length z.length hi - HT.sIx z.length 0 lo) := by
    unfold cutS codes
    simp
  refine ⟨?_, fun c hc => ?_⟩
  · rw [← codes_len, e, List.length_take, List.length_drop, codes_len]
    have := h.1
    omega
  · rw [e] at hc
    exact h.2 c (List.mem_of_mem_drop (List.mem_of_mem_take hc))
theorem TxtOk.one {c : Nat} (h : c < 128) : TxtOk 1 ⟨#[c]⟩ := ⟨Nat.le_refl _, fun d hd => by
  have : d = c := by simpa [codes] using hd
  omega⟩
/-- small letters, n of them or fewer, at least one -/
def NmOk (n : Nat) (z : Str) : Prop := 1 ≤ z.length ∧ z.length ≤ n ∧ ∀ c, c ∈ codes z → 97 ≤ c ∧ c ≤ 122
theorem NmOk.txt {n : Nat} {z : Str} (h : NmOk n z) : TxtOk n z := ⟨h.2.1, fun c hc => Nat.lt_of_le_of_lt (h.2.2 c hc).2 (by decide)⟩
theorem NmOk.mono {m n : Nat} {z : Str} (h : NmOk m z) (hn : m ≤ n) : NmOk n z := ⟨h.1, Nat.le_trans h.2.1 hn, h.2.2⟩
theorem NmOk.name {n : Nat} {z : Str} (h : NmOk n z) (hn : n ≤ 8) : nameB (.str z) = true := by
  show (decide (1 ≤ z.length ∧ z.length ≤ 8) && lowB z) = true
  rw [decide_eq_true ⟨h.1, Nat.le_trans h.2.1 hn⟩]
  exact List.all_eq_true.mpr fun c hc => decide_eq_true (h.2.2 c hc)
theorem NmOk.app {m n : Nat} {x y : Str} (h1 : NmOk m x) (h2 : NmOk n y) : NmOk (m + n) (x ++ y) := by
  refine ⟨by rw [PySem.Str.length_append]; have := h1.1; omega, by rw [PySem.Str.length_append]; have := h1.2.1; have := h2.2.1; omega, fun c hc => ?_⟩
  rw [codes_app] at hc
  rcases List.mem_append.mp hc with q | q
  · exact h1.2.2 c q
  · exact h2.2.2 c q
theorem Str.odd {n : Nat} {z : Str} (h : TxtOk n z) (hn : n ≤ 1000) : OddV (.str z) := .str z (Nat.le_trans h.1 hn) (h.repr hn)
theorem pick (r : Int) (h0 : 0 ≤ r) (h1 : r < 26) : ∃ c, atI (codes ("abcdefghijklmnopqrstuvwxyz" : Str)) r = some c ∧ NmOk 1 ⟨#[c]⟩ := by
  obtain ⟨rn, rfl⟩ : ∃ rn : Nat, r = (rn : Int) := ⟨r.toNat, by omega⟩
  have ll : ("abcdefghijklmnopqrstuvwxyz" : Str).length = 26 := by decide +kernel
  have lc : ∀ c, c ∈ codes ("abcdefghijklmnopqrstuvwxyz" : Str) → 97 ≤ c ∧ c ≤ 122 := by decide +kernel
  have hcod : (codes ("abcdefghijklmnopqrstuvwxyz" : Str)).length = 26 := by rw [codes_len, ll]
  have hj : (codes ("abcdefghijklmnopqrstuvwxyz" : Str))[rn]? = some (codes ("abcdefghijklmnopqrstuvwxyz" : Str))[rn] := List.getElem?_eq_getElem (by omega)
  refine ⟨_, atI_nat hj, Nat.le_refl _, Nat.le_refl _, fun c hc => ?_⟩
  have : c = (codes ("abcdefghijklmnopqrstuvwxyz" : Str))[rn] := by simpa [codes] using hc
  rw [this]
  exact lc _ (List.mem_of_getElem? hj)
theorem lettersLen : ("abcdefghijklmnopqrstuvwxyz" : Str).length ≤ sizeLine := bigN (by decide +kernel)
theorem scr_of {K : PySem.W.Frag} {H H' : Hp} {a s p : Addr} (h : Scr K H a s) (n : H p = none) (f : Frm [p, s] H H') (q : St4 H' s) : Scr K H' a s := by
  obtain ⟨⟨ns, h1, h2⟩, _⟩ := h
  refine ⟨⟨ns, Same.seq (fun b o e => ?_) h1, h2⟩, q⟩
  have nb : ¬ b ∈ [s] := fun y => by
    rw [show hid [s] H b = none from if_pos y] at e
    cases e
  rw [hid_eq nb] at e ⊢
  refine f b o (fun y => ?_) e
  rcases List.mem_cons.mp y with z | z
  · rw [z, n] at e
    cases e
  · exact nb z
def sp_law_names (K : PySem.W.Frag) : Sp := fun vs H Q _ => ∃ (a s : Addr) (m : Int), vs = [.ref a, .ref s, .int m] ∧ Scr K H a s ∧ 0 ≤ m ∧ m ≤ 100 ∧
  ∀ (p : Addr) (H' : Hp) (zs : List Str), H p = none → H' p = some (.lst (zs.map V.str)) → (zs.length : Int) = m → (∀ z, z ∈ zs → NmOk 4 z) → Frm [s] H H' → Scr K H' a s → Q (.ref p) H'
/-- what is told of the first wrong part -/
def refV (x y z : V) : Str × V := if nameB x = true then if numB y 1 8 = true then if numB z 1 8 = true then ("none", .int 0) else ("drink", z) else ("hold", y) else ("name", x)
def sp_law_refusal : Sp := fun vs H Q _ => ∃ x y z, vs = [x, y, z] ∧ OddV x ∧ OddV y ∧ OddV z ∧ ∀ (q : Addr) (H' : Hp), H q = none → H' q = some (.tup [.str (refV x y z).1, (refV x y z).2]) → Same H H' → Q (.ref q) H'

theorem ok_law_names {f : Addr} {fd : FuncData} (F : Fun K "_law_names" "_law_names" s_law_names f fd) (T : Txt K mg) (C_law_draw : Cal P w K mg base "_law_draw" P_law_draw 1 (sp_law_draw K)) : FnOk P w K mg base CX0 2 f fd P_law_names (sp_law_names K) := by
  obtain ⟨g_law_draw, gd_law_draw, G_law_draw, m_law_draw, k_law_draw, b_law_draw⟩ := C_law_draw.ex
  refine F.ok sc_law_names (fun vs H Q E h => ?_) (fun cdv A outer s H vs Q E hr h => ?_)
  · obtain ⟨a, s0, m, rfl, hS, hm0, hm1, k⟩ := h
    rfl
  · obtain ⟨a, s0, m, rfl, hS, hm0, hm1, k⟩ := h
    refine ⟨_, (pss_cons (ps_set (i := 3) sc_law_names.nd rfl (by first | exact Or.inl rfl | exact Or.inr rfl) pe_str)
  (pss_cons (ps_set (i := 4) sc_law_names.nd rfl (by first | exact Or.inl rfl | exact Or.inr rfl) (pe_call G_law_draw (hr.mono (by decide)) (by rfl) m_law_draw k_law_draw b_law_draw .nil pass0 (pa_cons (pv 0) (pa_cons (pv 1) (pa_cons pe_int pa_nil)))))
  (pss_cons (ps_set (i := 5) sc_law_names.nd rfl (by first | exact Or.inl rfl | exact Or.inr rfl) (pe_lst pa_nil))
  (pss_cons (ps_for PassesOwn.never rfl (pi_range1 rfl T.b_range (pa_cons (pv 2) pa_nil)) (pg_name (i := 6) sc_law_names.nd rfl (by first | exact Or.inl rfl | exact Or.inr rfl))
  (pss_cons (ps_set (i := 7) sc_law_names.nd rfl (by first | exact Or.inl rfl | exact Or.inr rfl) (pe_ix ix_str (pv 3) (pe_op op_modN (pe_callTy (T := "int") call_int1 (by rfl) T.b_int (by decide +kernel) (pa_cons (pe_op op_add (pv 4) (pe_op op_mul pe_int (pv 6))) pa_nil)) pe_int) (fun _ _ => rfl)))
  (pss_cons (ps_for PassesOwn.never rfl (pi_range1 rfl T.b_range (pa_cons (pe_call G_law_draw (hr.mono (by decide)) (by rfl) m_law_draw k_law_draw b_law_draw .nil pass0 (pa_cons (pv 0) (pa_cons (pv 1) (pa_cons pe_int pa_nil)))) pa_nil)) (pg_name (i := 8) sc_law_names.nd rfl (by first | exact Or.inl rfl | exact Or.inr rfl))
  (pss_one (ps_set (i := 7) sc_law_names.nd rfl (by first | exact Or.inl rfl | exact Or.inr rfl) (pe_op op_add_str (pe_ix ix_str (pv 3) (pe_call G_law_draw (hr.mono (by decide)) (by rfl) m_law_draw k_law_draw b_law_draw .nil pass0 (pa_cons (pv 0) (pa_cons (pv 1) (pa_cons pe_int pa_nil)))) (fun _ _ => rfl)) (pv 7)))))
  (pss_one (ps_expr (pe_bm PySem.F.plainAttrs_list PySem.F.slot_list_append PySem.F.type_list_append mt_append (pv 5) (pa_cons (pv 7) pa_nil)))))))
  (pss_one (ps_ret (pv 5))))))), ?_⟩
    refine ⟨_, rfl, _, rfl, a, s0, 26, rfl, hS, by decide, by decide, fun sh H1 h0 h1 f1 sc1 => ?_⟩
    refine ⟨(by rw [sizeLine_eq]; decide), fun p hp => ?_⟩
    have nps : ¬ p = s0 := sc1.ne hp
    have npm : ¬ p ∈ [s0] := fun y => nps (by simpa using y)
    have p0 : H p = none := f1.none npm hp
    refine ⟨_, rfl, _, rfl, by omega, by omega, ?_⟩
    refine for_it walk_range (fun i σ H2 => ∃ (w6 w7 w8 : Option V) (zs : List Str), σ = [some (.ref a), some (.ref s0), some (.int m), some (.str "abcdefghijklmnopqrstuvwxyz"), some (.int sh), some (.ref p), w6, w7, w8] ∧ H2 p = some (.lst (zs.map V.str)) ∧ zs.length = i ∧ (∀ z, z ∈ zs → NmOk 4 z) ∧ Frm [p, s0] H1 H2 ∧ Scr K H2 a s0)
      ⟨_, _, _, [], rfl, upd_same, rfl, (fun z hz => by cases hz), Frm.put (List.mem_cons_self), sc1.same (Same.new hp)⟩ (fun _ _ _ _ _ => trivial) ?_ ?_
    · rintro i x σ H2o H2 hi ⟨w6, w7, w8, zs, rfl, ep, hzl, hzs, f2, sc2⟩ ⟨rfl, rfl⟩
      obtain ⟨c, hc, nc⟩ := pick ((sh + 7 * (0 + (i : Int))).fmod 26) (fmod0 (by decide)) (fmod1 (by decide))
      refine ⟨_, rfl, _, rfl, _, rfl, _, _, rfl, rfl, .inl ⟨by decide, by decide⟩, _, _, rfl, rfl, .inl ⟨_, rfl, _, _, rfl, rfl, (by show (26 : Int) ≠ 0; decide), _, _, c, rfl, rfl, lettersLen, hc, ?_⟩⟩
      refine ⟨_, rfl, _, rfl, a, s0, 4, rfl, sc2, by decide, by decide, fun m2 H3 m20 m21 f3 sc3 => ⟨_, rfl, by omega, by omega, ?_⟩⟩
      refine for_it walk_range (fun j σ H4 => ∃ (w8 : Option V) (z : Str), σ = [some (.ref a), some (.ref s0), some (.int m), some (.str "abcdefghijklmnopqrstuvwxyz"), some (.int sh), some (.ref p), some (.int (0 + (i : Int))), some (.str z), w8] ∧ NmOk (1 + j) z ∧ Frm [s0] H2 H4 ∧ Scr K H4 a s0)
        ⟨_, _, rfl, nc, f3, sc3⟩ (fun _ _ _ _ _ => trivial) ?_ ?_
      · rintro j x σ H4o H4 hj ⟨w8, z, rfl, hz, f4, sc4⟩ ⟨rfl, rfl⟩
        refine ⟨_, rfl, _, rfl, _, rfl, a, s0, 26, rfl, sc4, by decide, by decide, fun r H5 r0 r1 f5 sc5 => ?_⟩
        obtain ⟨c2, hc2, nc2⟩ := pick r r0 r1
        have l1 := hz.2.1
        have l2 := nc2.2.1
        refine ⟨_, _, c2, rfl, rfl, lettersLen, hc2, _, rfl, _, _, rfl, rfl, bigN (by omega), ?_⟩
        exact ⟨_, _, rfl, by have := nc2.app hz; rw [show 1 + (j + 1) = 1 + (1 + j) by omega]; exact this, f4.trans f5, sc5⟩
      rintro σ H4 ⟨w8, z, rfl, hz, f4, sc4⟩
      have ep4 : H4 p = some (.lst (zs.map V.str)) := f4 p _ npm ep
      refine ⟨_, rfl, .inl ⟨rfl, _, SqL.of ep4⟩, _, rfl, p, _, _, rfl, rfl, ep4, (by rw [List.length_map, sizeLine_eq]; omega), ?_⟩
      refine ⟨_, _, _, zs ++ [z], rfl, by rw [upd_same, List.map_append]; rfl, by rw [List.length_append, hzl]; rfl, fun y hy => ?_, (f2.trans (f4.mono (fun b h => List.mem_cons_of_mem _ h))).put' List.mem_cons_self, ?_⟩
      · rcases List.mem_append.mp hy with q | q
        · exact hzs y q
        · rw [List.mem_singleton.mp q]
          exact hz.mono (by omega)
      · obtain ⟨i1, i2, i3, i4, e4⟩ := sc4.2
        have e0 : (upd H4 p (.lst (zs.map V.str ++ [V.str z]))) s0 = some (.lst [.int i1, .int i2, .int i3, .int i4]) := by rw [upd_ne (fun q => nps q.symm)]; exact e4
        exact scr_of sc1 hp ((f2.trans (f4.mono (fun b h => List.mem_cons_of_mem _ h))).put' List.mem_cons_self) ⟨i1, i2, i3, i4, e0⟩
    rintro σ H2 ⟨w6, w7, w8, zs, rfl, ep, hzl, hzs, f2, sc2⟩
    exact ⟨_, rfl, k p H2 zs p0 ep (by omega) hzs (Frm.drop p0 f1 f2) sc2⟩

theorem ok_law_refusal {f : Addr} {fd : FuncData} (F : Fun K "_law_refusal" "_law_refusal" s_law_refusal f fd) (T : Txt K mg) {C_BadName f_BadName cda_BadName cc_BadName : Addr} {fd_BadName : FuncData} (E_BadName : ErrC P K mg "BadName" "BadName.__init__" C_BadName f_BadName cda_BadName cc_BadName) (G_BadName : FnOk P w K mg base CX0 2 f_BadName fd_BadName PBadName___init__ (spBadName C_BadName)) (b_BadName : Binds K fd_BadName PBadName___init__ []) {C_BadNumber f_BadNumber cda_BadNumber cc_BadNumber : Addr} {fd_BadNumber : FuncData} (E_BadNumber : ErrC P K mg "BadNumber" "BadNumber.__init__" C_BadNumber f_BadNumber cda_BadNumber cc_BadNumber) (G_BadNumber : FnOk P w K mg base CX0 2 f_BadNumber fd_BadNumber PBadNumber___init__ (spBadNumber C_BadNumber)) (b_BadNumber : Binds K fd_BadNumber PBadNumber___init__ []) {C_Plot fi fe : Addr} {fdi : FuncData} (D_Plot : DatC K mg "Plot" C_Plot fi fe ["name", "hold", "drink"]) (GPlot___init__ : FnOk P w K mg base (L2.CX P w) 5 fi fdi PPlot___init__ (spPlot_init C_Plot C_BadName C_BadNumber)) (bPlot___init__ : Binds K fdi PPlot___init__ []) (kMN : PySem.W.exmOne K (.ref C_BadNumber) (.ref C_BadName) = some false) : FnOk P w K mg base CX0 7 f fd P_law_refusal sp_law_refusal := by
  refine F.ok sc_law_refusal (fun vs H Q E h => ?_) (fun cdv A outer s H vs Q E hr h => ?_)
  · obtain ⟨x, y, z, rfl, hx, hy, hz, k⟩ := h
    rfl
  · obtain ⟨x, y, z, rfl, hx, hy, hz, k⟩ := h
    refine ⟨_, (pss_cons (ps_try_ass (i := 3) rfl rfl rfl sc_law_refusal.nd rfl rfl takes0 (fun W pn xe tk _ => (pss_one (ps_expr (pe_makeS D_Plot.mkk GPlot___init__ (hr.mono (by decide)) (by rfl) D_Plot.g bPlot___init__ (fun σ => passAt tk σ) (pa_cons (pv 0) (pa_cons (pv 1) (pa_cons (pv 2) pa_nil))))))) (by exact (.cons ⟨rfl, by decide, Or.inl E_BadName.g⟩ (fun a oe cls d pn hz hf => (pss_one (ps_ret (pe_tup (pa_cons pe_str (pa_cons (pe_xf E_BadName.xf E_BadName.noName hz hf (pv 3)) pa_nil)))))) (.cons ⟨rfl, by decide, Or.inl E_BadNumber.g⟩ (fun a oe cls d pn hz hf => (pss_one (ps_ret (pe_tup (pa_cons (pe_xf E_BadNumber.xf E_BadNumber.noWhat hz hf (pv 3)) (pa_cons (pe_xf E_BadNumber.xf E_BadNumber.noValue hz hf (pv 3)) pa_nil)))))) .nil))))
  (pss_one (ps_ret (pe_tup (pa_cons pe_str (pa_cons pe_int pa_nil)))))), ?_⟩
    have SP : ∀ {H2 : Hp} {p dx : Addr} {o1 o2 : HO}, H p = none → H dx = none → (∀ b o, b ≠ p → b ≠ dx → upd (upd H dx o1) p o2 b = some o → H2 b = some o) → Same H H2 := fun {H2 p dx o1 o2} np nd fr b o e => by
      have b1 := ne_of_none e np
      have b2 := ne_of_none e nd
      exact fr b o b1 b2 (by rw [upd_ne b1, upd_ne b2]; exact e)
    have FR : ∀ {d p dx : Addr} {o1 o2 : HO}, upd (upd H dx o1) p o2 d = none → H d = none := fun {d p dx o1 o2} e => by
      have b1 : d ≠ p := fun q => by rw [q, upd_same] at e; cases e
      rw [upd_ne b1] at e
      have b2 : d ≠ dx := fun q => by rw [q, upd_same] at e; cases e
      rw [upd_ne b2] at e
      exact e
    refine ⟨_, rfl, _, rfl, _, rfl, fun p dx np nd ne => ⟨p, dx, x, y, z, rfl, upd_same, hx, hy, hz, fun t1 t2 t3 H2 fr hp => ⟨rfl, ?_⟩, fun t1 d H2 nd2 fr hd => ⟨true, E_BadName.exm, fun _ a na => ⟨_, rfl, ?_⟩, fun q => by cases q⟩, fun t1 t2 d H2 nd2 fr hd => ⟨false, kMN, (fun q => nomatch q), (fun _ => ⟨true, E_BadNumber.exm, fun _ a na => ?_, fun q => by cases q⟩)⟩, fun t1 t2 t3 d H2 nd2 fr hd => ⟨false, kMN, (fun q => nomatch q), (fun _ => ⟨true, E_BadNumber.exm, fun _ a na => ?_, fun q => by cases q⟩)⟩⟩⟩
    · have e : refV x y z = (("none" : Str), (.int 0 : V)) := by
        unfold refV
        rw [if_pos t1, if_pos t2, if_pos t3]
      have sm := SP np nd fr
      refine ⟨(by rw [sizeLine_eq]; show 2 ≤ 16777216; decide), fun q hq => ?_⟩
      exact k q _ (sm.free hq) (by rw [e]; exact upd_same) (sm.trans (Same.new hq))
    · have e : refV x y z = (("name" : Str), (x : V)) := by
        unfold refV
        rw [if_neg (by rw [t1]; exact Bool.false_ne_true)]
      have sm := SP np nd fr
      refine ⟨rfl, rfl, d, _, _, rfl, hd, look_name, (by rw [sizeLine_eq]; show 2 ≤ 16777216; decide), fun q hq => ?_⟩
      exact k q _ (sm.free hq) (by rw [e]; exact upd_same) (sm.trans (Same.new hq))
    · have e : refV x y z = (("hold" : Str), (y : V)) := by
        unfold refV
        rw [if_pos t1, if_neg (by rw [t2]; exact Bool.false_ne_true)]
      have sm := SP np nd fr
      refine ⟨_, rfl, rfl, rfl, d, _, _, rfl, hd, look_what, _, rfl, rfl, rfl, d, _, _, rfl, hd, look_val, (by rw [sizeLine_eq]; show 2 ≤ 16777216; decide), fun q hq => ?_⟩
      exact k q _ (sm.free hq) (by rw [e]; exact upd_same) (sm.trans (Same.new hq))
    · have e : refV x y z = (("drink" : Str), (z : V)) := by
        unfold refV
        rw [if_pos t1, if_pos t2, if_neg (by rw [t3]; exact Bool.false_ne_true)]
      have sm := SP np nd fr
      refine ⟨_, rfl, rfl, rfl, d, _, _, rfl, hd, look_what, _, rfl, rfl, rfl, d, _, _, rfl, hd, look_val, (by rw [sizeLine_eq]; show 2 ≤ 16777216; decide), fun q hq => ?_⟩
      exact k q _ (sm.free hq) (by rw [e]; exact upd_same) (sm.trans (Same.new hq))
end
end Wb

namespace Wb
open PySem PySem.Spec PyProof.Rows L2 Wx NdefX
section
variable {P : Program} {w : World} {K : PySem.W.Frag} {mg : Str → Option Value} {base : Heap}

theorem plot_make {C CN CM : Addr} {H : Hp} {z : Str} {h d : Int} {R : Hp → Prop} {E : XK} (nz : nameB (.str z) = true) (oz : OddV (.str z)) (hh : 1 ≤ h ∧ h ≤ 8) (hd : 1 ≤ d ∧ d ≤ 8)
    {x dx : Addr} (nx : H x = none) (nd : H dx = none) (k : ∀ H', Same H H' → PlotAt C H' x z h d → R H') : spPlot_init C CN CM [.ref x, .str z, .int h, .int d] (upd (upd H dx (.own x)) x (.ins C dx [])) (fun v H2 => v = .non ∧ R H2) E := by
  have b1 : numB (.int h) 1 8 = true := decide_eq_true hh
  have b2 : numB (.int d) 1 8 = true := decide_eq_true hd
  refine ⟨x, dx, _, _, _, rfl, upd_same, oz, .int _, .int _, fun _ _ _ H5 fr hp => ⟨rfl, k H5 (fun b o e => ?_) ⟨dx, hp⟩⟩, fun t => ?_, fun _ t => ?_, fun _ _ t => ?_⟩
  · have c1 := ne_of_none e nx
    have c2 := ne_of_none e nd
    exact fr b o c1 c2 (by rw [upd_ne c1, upd_ne c2]; exact e)
  · rw [nz] at t; cases t
  · rw [b1] at t; cases t
  · rw [b2] at t; cases t
theorem OddV.dp {x : V} (h : OddV x) (hs : ∀ z, x = .str z → PyData.strOk z = true) : ∃ d, (∀ K H, Dp K H x d) ∧ (∀ t : Str, PyData.strOk t = true → SeqAt.shaped (.tuple [.str t, d]) = true) := by
  cases h with
  | str z h1 h2 => exact ⟨_, fun _ _ => .str z, fun t ht => by simp [SeqAt.shaped, PyData.canLay0, PyData.canLayAll0, PyData.depth, PyData.depthAll, ht, hs z rfl]⟩
  | int i => exact ⟨_, fun _ _ => .int i, fun t ht => by simp [SeqAt.shaped, PyData.canLay0, PyData.canLayAll0, PyData.depth, PyData.depthAll, ht]⟩
  | non => exact ⟨_, fun _ _ => .non, fun t ht => by simp [SeqAt.shaped, PyData.canLay0, PyData.canLayAll0, PyData.depth, PyData.depthAll, ht]⟩
  | bl b => exact ⟨_, fun _ _ => .bl b, fun t ht => by simp [SeqAt.shaped, PyData.canLay0, PyData.canLayAll0, PyData.depth, PyData.depthAll, ht]⟩
theorem TxtOk.strOk {n : Nat} {z : Str} (h : TxtOk n z) : PyData.strOk z = true := by
  unfold PyData.strOk
  rw [Array.all_eq_true_iff_forall_mem]
  intro c hc
  exact decide_eq_true (Nat.lt_trans (h.2 c (by simpa [codes] using hc)) (by decide))
/-- the two told pairs are equal -/
theorem pair_eq {K : PySem.W.Frag} {H : Hp} {q r : Addr} {t : Str} {v : V} (ht : PyData.strOk t = true) (o : OddV v) (hs : ∀ z, v = .str z → PyData.strOk z = true) (h1 : H q = some (.tup [.str t, v])) (h2 : H r = some (.tup [.str t, v])) :
    ∃ d e, Dp K H (.ref q) d ∧ Dp K H (.ref r) e ∧ SeqAt.shaped d = true ∧ SeqAt.shaped e = true ∧ PyData.eqv d e = true := by
  obtain ⟨d, hd, sd⟩ := o.dp hs
  exact ⟨_, _, .tup (.inl (.inl h1)) (.cons (.str t) (.cons (hd K H) .nil)), .tup (.inl (.inl h2)) (.cons (.str t) (.cons (hd K H) .nil)), sd t ht, sd t ht, PySem.SeqAt.eqv_refl _ (PySem.SeqAt.canLay_of_shaped (sd t ht))⟩
theorem ref_name {x y z : V} (h : nameB x = false) : refV x y z = (("name" : Str), x) := by
  unfold refV
  rw [if_neg (by rw [h]; exact Bool.false_ne_true)]
theorem ref_hold {x y z : V} (h : nameB x = true) (h2 : numB y 1 8 = false) : refV x y z = (("hold" : Str), y) := by
  unfold refV
  rw [if_pos h, if_neg (by rw [h2]; exact Bool.false_ne_true)]
theorem ref_drink {x y z : V} (h : nameB x = true) (h2 : numB y 1 8 = true) (h3 : numB z 1 8 = false) : refV x y z = (("drink" : Str), z) := by
  unfold refV
  rw [if_pos h, if_pos h2, if_neg (by rw [h3]; exact Bool.false_ne_true)]
theorem ref_none {x y z : V} (h : nameB x = true) (h2 : numB y 1 8 = true) (h3 : numB z 1 8 = true) : refV x y z = (("none" : Str), (.int 0 : V)) := by
  unfold refV
  rw [if_pos h, if_pos h2, if_pos h3]
theorem nameB_not {z : Str} {c : Nat} (h : c ∈ codes z) (n : ¬ (97 ≤ c ∧ c ≤ 122)) : nameB (.str z) = false := by
  have e : lowB z = false := List.all_eq_false.mpr ⟨c, h, by simp only [decide_eq_true_eq]; exact n⟩
  show (decide (1 ≤ z.length ∧ z.length ≤ 8) && lowB z) = false
  rw [e]
  exact Bool.and_false _
theorem ne_self {x : V} : ¬ (!decide (x = x)) = true := by rw [decide_eq_true rfl]; exact Bool.false_ne_true
def splaw (K : PySem.W.Frag) : Sp := fun vs H Q _ => ∃ (a : Addr) (ns : List Int), vs = [.ref a] ∧ SqL K H a (ns.map V.int) ∧ ns.length ≤ 63 ∧ ∀ H', Q (.bl true) H'

theorem oklaw {f : Addr} {fd : FuncData} (F : Fun K "law" "law" slaw f fd) (T : Txt K mg) (C_law_start : Cal P w K mg base "_law_start" P_law_start 1 (sp_law_start K)) (C_law_draw : Cal P w K mg base "_law_draw" P_law_draw 1 (sp_law_draw K)) (C_law_names : Cal P w K mg base "_law_names" P_law_names 2 (sp_law_names K)) (C_law_is_integer : Cal P w K mg base "_law_is_integer" P_law_is_integer 1 sp_law_is_integer) (C_law_refusal : Cal P w K mg base "_law_refusal" P_law_refusal 7 sp_law_refusal) {C_BadName C_BadNumber C_Plot fi fe : Addr} {fdi fde : FuncData} (D_Plot : DatC K mg "Plot" C_Plot fi fe ["name", "hold", "drink"]) (GPlot___init__ : FnOk P w K mg base (L2.CX P w) 5 fi fdi PPlot___init__ (spPlot_init C_Plot C_BadName C_BadNumber)) (bPlot___init__ : Binds K fdi PPlot___init__ []) (GPlot___eq__ : FnOk P w K mg base CX0 1 fe fde PPlot___eq__ (spPlot_eq C_Plot)) (bPlot___eq__ : Binds K fde PPlot___eq__ []) : FnOk P w K mg base CX0 9 f fd Plaw (splaw K) := by
  obtain ⟨g_law_start, gd_law_start, G_law_start, m_law_start, k_law_start, b_law_start⟩ := C_law_start.ex
  obtain ⟨g_law_draw, gd_law_draw, G_law_draw, m_law_draw, k_law_draw, b_law_draw⟩ := C_law_draw.ex
  obtain ⟨g_law_names, gd_law_names, G_law_names, m_law_names, k_law_names, b_law_names⟩ := C_law_names.ex
  obtain ⟨g_law_is_integer, gd_law_is_integer, G_law_is_integer, m_law_is_integer, k_law_is_integer, b_law_is_integer⟩ := C_law_is_integer.ex
  obtain ⟨g_law_refusal, gd_law_refusal, G_law_refusal, m_law_refusal, k_law_refusal, b_law_refusal⟩ := C_law_refusal.ex
  refine F.ok sclaw (fun vs H Q E h => ?_) (fun cdv A outer s H vs Q E hr h => ?_)
  · obtain ⟨a, ns, rfl, hS, hlen, k⟩ := h
    rfl
  · obtain ⟨a, ns, rfl, hS, hlen, k⟩ := h
    refine ⟨_, (pss_cons (ps_set (i := 1) sclaw.nd rfl (by first | exact Or.inl rfl | exact Or.inr rfl) (pe_call G_law_start (hr.mono (by decide)) (by rfl) m_law_start k_law_start b_law_start .nil pass0 (pa_cons (pv 0) pa_nil)))
  (pss_cons (ps_set (i := 2) sclaw.nd rfl (by first | exact Or.inl rfl | exact Or.inr rfl) (pe_ix ix_list (pe_call G_law_names (hr.mono (by decide)) (by rfl) m_law_names k_law_names b_law_names .nil pass0 (pa_cons (pv 0) (pa_cons (pv 1) (pa_cons pe_int pa_nil)))) pe_int (fun _ _ => rfl)))
  (pss_cons (ps_set (i := 3) sclaw.nd rfl (by first | exact Or.inl rfl | exact Or.inr rfl) (pe_op op_add pe_int (pe_call G_law_draw (hr.mono (by decide)) (by rfl) m_law_draw k_law_draw b_law_draw .nil pass0 (pa_cons (pv 0) (pa_cons (pv 1) (pa_cons pe_int pa_nil))))))
  (pss_cons (ps_set (i := 4) sclaw.nd rfl (by first | exact Or.inl rfl | exact Or.inr rfl) (pe_op op_add pe_int (pe_call G_law_draw (hr.mono (by decide)) (by rfl) m_law_draw k_law_draw b_law_draw .nil pass0 (pa_cons (pv 0) (pa_cons (pv 1) (pa_cons pe_int pa_nil))))))
  (pss_cons (ps_set (i := 5) sclaw.nd rfl (by first | exact Or.inl rfl | exact Or.inr rfl) (pe_makeS D_Plot.mkk GPlot___init__ (hr.mono (by decide)) (by rfl) D_Plot.g bPlot___init__ (fun σ => passAt takes0 σ) (pa_cons (pv 2) (pa_cons (pv 3) (pa_cons (pv 4) pa_nil)))))
  (pss_cons (ps_if (PW.pt (pw_or (pt_cmpR op_ne (pe_fld (pv 5) rfl) (pv 2) (nomark _)) (pw_or (pt_cmpR op_ne (pe_fld (pv 5) rfl) (pv 3) (nomark _)) (pw_or1 (pt_cmpR op_ne (pe_fld (pv 5) rfl) (pv 4) (nomark _))))))
  (pss_one (ps_ret pe_bl))
  pss_nil)
  (pss_cons (ps_if (PW.pt (pw_or (pt_not (pt_val (pe_call G_law_is_integer (hr.mono (by decide)) (by rfl) m_law_is_integer k_law_is_integer b_law_is_integer .nil pass0 (pa_cons (pe_fld (pv 5) rfl) pa_nil)))) (pw_or1 (pt_not (pt_val (pe_call G_law_is_integer (hr.mono (by decide)) (by rfl) m_law_is_integer k_law_is_integer b_law_is_integer .nil pass0 (pa_cons (pe_fld (pv 5) rfl) pa_nil)))))))
  (pss_one (ps_ret pe_bl))
  pss_nil)
  (pss_cons (ps_if (PW.pt (pw_or (pt_not (pt_cmpR (op_eqI GPlot___eq__ (hr.mono (by decide)) D_Plot.eq D_Plot.fe bPlot___eq__ pass0) (pv 5) (pe_makeS D_Plot.mkk GPlot___init__ (hr.mono (by decide)) (by rfl) D_Plot.g bPlot___init__ (fun σ => passAt takes0 σ) (pa_cons (pv 2) (pa_cons (pv 3) (pa_cons (pv 4) pa_nil)))) (nomark _))) (pw_or1 (pt_cmpR (op_neI GPlot___eq__ (hr.mono (by decide)) D_Plot.ne D_Plot.ob D_Plot.eq D_Plot.fe bPlot___eq__ pass0) (pv 5) (pe_makeS D_Plot.mkk GPlot___init__ (hr.mono (by decide)) (by rfl) D_Plot.g bPlot___init__ (fun σ => passAt takes0 σ) (pa_cons (pv 2) (pa_cons (pv 3) (pa_cons (pv 4) pa_nil)))) (nomark _)))))
  (pss_one (ps_ret pe_bl))
  pss_nil)
  (pss_cons (ps_if (PW.pt (pw_or (pt_cmpR (op_eqI GPlot___eq__ (hr.mono (by decide)) D_Plot.eq D_Plot.fe bPlot___eq__ pass0) (pv 5) (pe_makeS D_Plot.mkk GPlot___init__ (hr.mono (by decide)) (by rfl) D_Plot.g bPlot___init__ (fun σ => passAt takes0 σ) (pa_cons (pe_op op_add_str (pv 2) pe_str) (pa_cons (pv 3) (pa_cons (pv 4) pa_nil)))) (nomark _)) (pw_or1 (pt_cmpR (op_eqI GPlot___eq__ (hr.mono (by decide)) D_Plot.eq D_Plot.fe bPlot___eq__ pass0) (pv 5) (pe_makeS D_Plot.mkk GPlot___init__ (hr.mono (by decide)) (by rfl) D_Plot.g bPlot___init__ (fun σ => passAt takes0 σ) (pa_cons (pv 2) (pa_cons (pe_op op_sub pe_int (pv 3)) (pa_cons (pv 4) pa_nil)))) (nomark _)))))
  (pss_one (ps_ret pe_bl))
  pss_nil)
  (pss_cons (ps_if (pt_cmpR (op_eqI GPlot___eq__ (hr.mono (by decide)) D_Plot.eq D_Plot.fe bPlot___eq__ pass0) (pv 5) (pe_makeS D_Plot.mkk GPlot___init__ (hr.mono (by decide)) (by rfl) D_Plot.g bPlot___init__ (fun σ => passAt takes0 σ) (pa_cons (pv 2) (pa_cons (pv 3) (pa_cons (pe_op op_sub pe_int (pv 4)) pa_nil)))) (nomark _))
  (pss_one (ps_ret pe_bl))
  pss_nil)
  (pss_cons (ps_set (i := 6) sclaw.nd rfl (by first | exact Or.inl rfl | exact Or.inr rfl) (pe_op op_add (pe_op op_pow pe_int pe_int) (pe_call G_law_draw (hr.mono (by decide)) (by rfl) m_law_draw k_law_draw b_law_draw .nil pass0 (pa_cons (pv 0) (pa_cons (pv 1) (pa_cons (pe_op op_pow pe_int pe_int) pa_nil))))))
  (pss_cons (ps_set (i := 7) sclaw.nd rfl (by first | exact Or.inl rfl | exact Or.inr rfl) (pe_ix ix_list (pe_lst (pa_cons pe_int (pa_cons pe_int (pa_cons (pe_un un_neg pe_int) (pa_cons (pv 6) (pa_cons (pe_un un_neg (pv 6)) (pa_cons pe_bl pa_nil))))))) (pe_call G_law_draw (hr.mono (by decide)) (by rfl) m_law_draw k_law_draw b_law_draw .nil pass0 (pa_cons (pv 0) (pa_cons (pv 1) (pa_cons pe_int pa_nil)))) (fun _ _ => rfl)))
  (pss_cons (ps_set (i := 8) sclaw.nd rfl (by first | exact Or.inl rfl | exact Or.inr rfl) (pe_ix ix_list (pe_lst (pa_cons pe_str (pa_cons (pe_op op_add_str pe_str (pv 2)) (pa_cons (pe_op op_add_str (pv 2) pe_str) (pa_cons (pe_op op_add_str (pv 2) pe_str) (pa_cons pe_str pa_nil)))))) (pe_call G_law_draw (hr.mono (by decide)) (by rfl) m_law_draw k_law_draw b_law_draw .nil pass0 (pa_cons (pv 0) (pa_cons (pv 1) (pa_cons pe_int pa_nil)))) (fun _ _ => rfl)))
  (pss_cons (ps_if (pt_cmpR (op_neD hr.units) (pe_call G_law_refusal (hr.mono (by decide)) (by rfl) m_law_refusal k_law_refusal b_law_refusal .nil pass0 (pa_cons (pv 2) (pa_cons (pv 7) (pa_cons (pv 4) pa_nil)))) (pe_tup (pa_cons pe_str (pa_cons (pv 7) pa_nil))) (nomark _))
  (pss_one (ps_ret pe_bl))
  pss_nil)
  (pss_cons (ps_if (pt_cmpR (op_neD hr.units) (pe_call G_law_refusal (hr.mono (by decide)) (by rfl) m_law_refusal k_law_refusal b_law_refusal .nil pass0 (pa_cons (pv 2) (pa_cons (pv 3) (pa_cons (pv 7) pa_nil)))) (pe_tup (pa_cons pe_str (pa_cons (pv 7) pa_nil))) (nomark _))
  (pss_one (ps_ret pe_bl))
  pss_nil)
  (pss_cons (ps_for PassesOwn.never rfl (pi_list (pe_lst (pa_cons (pv 3) (pa_cons (pv 7) pa_nil)))) (pg_name (i := 9) sclaw.nd rfl (by first | exact Or.inl rfl | exact Or.inr rfl))
  (pss_cons (ps_if (pt_cmpR (op_neD hr.units) (pe_call G_law_refusal (hr.mono (by decide)) (by rfl) m_law_refusal k_law_refusal b_law_refusal .nil pass0 (pa_cons (pv 8) (pa_cons (pv 9) (pa_cons (pv 4) pa_nil)))) (pe_tup (pa_cons pe_str (pa_cons (pv 8) pa_nil))) (nomark _))
  (pss_one (ps_ret pe_bl))
  pss_nil)
  (pss_one (ps_if (pt_cmpR (op_neD hr.units) (pe_call G_law_refusal (hr.mono (by decide)) (by rfl) m_law_refusal k_law_refusal b_law_refusal .nil pass0 (pa_cons (pv 8) (pa_cons (pv 3) (pa_cons (pv 9) pa_nil)))) (pe_tup (pa_cons pe_str (pa_cons (pv 8) pa_nil))) (nomark _))
  (pss_one (ps_ret pe_bl))
  pss_nil))))
  (pss_cons (ps_if (pt_cmpR (op_neD hr.units) (pe_call G_law_refusal (hr.mono (by decide)) (by rfl) m_law_refusal k_law_refusal b_law_refusal .nil pass0 (pa_cons (pv 2) (pa_cons (pv 7) (pa_cons pe_int pa_nil)))) (pe_tup (pa_cons pe_str (pa_cons (pv 7) pa_nil))) (nomark _))
  (pss_one (ps_ret pe_bl))
  pss_nil)
  (pss_one (ps_ret (pe_and (pe_cmpR (op_eqD hr.units) (pe_call G_law_refusal (hr.mono (by decide)) (by rfl) m_law_refusal k_law_refusal b_law_refusal .nil pass0 (pa_cons (pv 2) (pa_cons pe_int (pa_cons pe_int pa_nil)))) (pe_tup (pa_cons pe_str (pa_cons pe_int pa_nil))) (nomark _)) (pe_one (pe_cmpR (op_eqD hr.units) (pe_call G_law_refusal (hr.mono (by decide)) (by rfl) m_law_refusal k_law_refusal b_law_refusal .nil pass0 (pa_cons (pv 2) (pa_cons pe_int (pa_cons pe_int pa_nil)))) (pe_tup (pa_cons pe_str (pa_cons pe_int pa_nil))) (nomark _))))))))))))))))))))))), ?_⟩
    refine ⟨_, rfl, a, ns, rfl, hS, hlen, fun s0 H1 s1 h0s sc1 => ?_⟩
    refine ⟨_, rfl, _, rfl, a, s0, 1, rfl, sc1, by decide, by decide, fun p H2 zs p0 ep hzl hzs f2 sc2 => ?_⟩
    obtain ⟨z, rfl⟩ : ∃ z, zs = [z] := by
      match zs, hzl with
      | [z], _ => exact ⟨z, rfl⟩
      | [], h => exact absurd h (by decide)
      | _ :: _ :: _, h => exact absurd h (by simp only [List.length_cons]; omega)
    have nz : NmOk 4 z := hzs z (by simp)
    have zn := nz.name (by decide)
    have zo := Str.odd nz.txt (by decide)
    have zl := nz.2.1
    refine ⟨p, _, _, _, rfl, rfl, SqL.of ep, rfl, ?_⟩
    refine ⟨_, rfl, _, rfl, a, s0, 8, rfl, sc2, by decide, by decide, fun ho H3 h0 h1 f3 sc3 => ⟨_, _, rfl, rfl, ?_⟩⟩
    refine ⟨_, rfl, _, rfl, a, s0, 8, rfl, sc3, by decide, by decide, fun dr H4 d0 d1 f4 sc4 => ⟨_, _, rfl, rfl, ?_⟩⟩
    have hh : 1 ≤ 1 + ho ∧ 1 + ho ≤ 8 := by omega
    have hd : 1 ≤ 1 + dr ∧ 1 + dr ≤ 8 := by omega
    refine ⟨_, rfl, _, rfl, _, rfl, fun p1 ddp1 np1 ndp1 _ => plot_make zn zo hh hd np1 ndp1 fun H5 s5 P1 => ?_⟩
    have no := fun f (h : f ∈ (["name", "hold", "drink"] : List Str)) => D_Plot.no f h
    have sc5 := sc4.same s5
    obtain ⟨dx, e1⟩ := id P1
    refine ⟨_, rfl, p1, C_Plot, dx, _, _, rfl, e1, D_Plot.cls, no _ (by decide), rfl, _, rfl, rfl, _, rfl, ite2 (fun y => absurd y ne_self) (fun _ => ?_)⟩
    refine ⟨_, rfl, p1, C_Plot, dx, _, _, rfl, e1, D_Plot.cls, no _ (by decide), rfl, _, rfl, rfl, _, rfl, ite2 (fun y => absurd y ne_self) (fun _ => ?_)⟩
    refine ⟨_, rfl, p1, C_Plot, dx, _, _, rfl, e1, D_Plot.cls, no _ (by decide), rfl, _, rfl, rfl, _, rfl, ite2 (fun y => absurd y ne_self) (fun _ => ?_)⟩
    refine ⟨_, rfl, p1, C_Plot, dx, _, _, rfl, e1, D_Plot.cls, no _ (by decide), rfl, _, rfl, _, rfl, iteF ?_⟩
    refine ⟨_, rfl, p1, C_Plot, dx, _, _, rfl, e1, D_Plot.cls, no _ (by decide), rfl, _, rfl, _, rfl, iteF ?_⟩
    -- == and != of an equal one
    refine ⟨_, rfl, _, rfl, _, rfl, _, rfl, fun p2 ddp2 np2 ndp2 _ => plot_make zn zo hh hd np2 ndp2 fun H6 s6 P2 => ?_⟩
    obtain ⟨dy, e2⟩ := id P2
    refine ⟨p1, dx, _, p2, dy, _, rfl, rfl, s6 _ _ e1, e2, p1, p2, z, z, _, _, _, _, rfl, P1.same s6, P2, _, rfl, _, rfl, ite2 (fun y => absurd y (by simp)) (fun _ => ?_)⟩
    refine ⟨_, rfl, _, rfl, _, rfl, _, rfl, fun p3 ddp3 np3 ndp3 _ => plot_make zn zo hh hd np3 ndp3 fun H7 s7 P3 => ?_⟩
    obtain ⟨dz, e3⟩ := id P3
    refine ⟨p1, dx, _, p3, dz, _, rfl, rfl, s7 _ _ (s6 _ _ e1), e3, p1, p3, z, z, _, _, _, _, rfl, (P1.same s6).same s7, P3, _, rfl, _, rfl, ite2 (fun y => absurd y (by simp)) (fun _ => ?_)⟩
    have P17 := (P1.same s6).same s7
    have sc7 := (sc5.same s6).same s7
    -- others
    have la : NmOk 1 ("a" : Str) := ⟨by decide +kernel, by decide +kernel, by decide +kernel⟩
    have nza := nz.app la
    refine ⟨_, rfl, _, rfl, _, _, rfl, rfl, bigN (by have := la.2.1; omega), _, rfl, _, rfl, fun p4 ddp4 np4 ndp4 _ => plot_make (nza.name (by decide)) (Str.odd nza.txt (by decide)) hh hd np4 ndp4 fun H8 s8 P4 => ?_⟩
    have P18 := P17.same s8
    obtain ⟨dw, e4⟩ := id P4
    obtain ⟨dx8, e18⟩ := id P18
    have ne4 : ¬ z = z ++ "a" := fun q => by
      have := congrArg PySem.Str.length q
      rw [PySem.Str.length_append] at this
      have l1 : ("a" : Str).length = 1 := by decide +kernel
      omega
    refine ⟨p1, dx8, _, p4, dw, _, rfl, rfl, e18, e4, p1, p4, z, _, _, _, _, _, rfl, P18, P4, _, rfl, _, rfl, ite2 (fun y => absurd y (by simp [ne4])) (fun _ => ?_)⟩
    refine ⟨_, rfl, _, rfl, _, rfl, _, _, rfl, rfl, _, rfl, fun p5 ddp5 np5 ndp5 _ => plot_make zn zo (by omega) hd np5 ndp5 fun H9 s9 P5 => ?_⟩
    have P19 := P18.same s9
    obtain ⟨dv, e5⟩ := id P5
    obtain ⟨dx9, e19⟩ := id P19
    refine ⟨p1, dx9, _, p5, dv, _, rfl, rfl, e19, e5, p1, p5, z, _, _, _, _, _, rfl, P19, P5, _, rfl, _, rfl, ite2 (fun y => absurd (of_decide_eq_true y).2.1 (by omega)) (fun _ => ?_)⟩
    refine ⟨_, rfl, _, rfl, _, rfl, _, rfl, _, _, rfl, rfl, fun p6 ddp6 np6 ndp6 _ => plot_make zn zo hh (by omega) np6 ndp6 fun H10 s10 P6 => ?_⟩
    have P110 := P19.same s10
    obtain ⟨du, e6⟩ := id P6
    obtain ⟨dx10, e110⟩ := id P110
    refine ⟨p1, dx10, _, p6, du, _, rfl, rfl, e110, e6, p1, p6, z, _, _, _, _, _, rfl, P110, P6, _, rfl, _, rfl, ite2 (fun y => absurd (of_decide_eq_true y).2.2 (by omega)) (fun _ => ?_)⟩
    have sc10 := ((sc7.same s8).same s9).same s10
    -- far, wrong, bad
    refine ⟨_, _, rfl, rfl, ⟨by decide, by decide, by decide⟩, _, rfl, _, rfl, _, _, rfl, rfl, ⟨by decide, by decide, by decide⟩, a, s0, _, rfl, sc10, by decide, by decide, fun fr H11 r0 r1 f11 sc11 => ⟨_, _, rfl, rfl, ?_⟩⟩
    have big : (8 : Int) < 10 ^ Int.toNat 21 := by decide
    refine ⟨_, rfl, _, rfl, _, rfl, _, rfl, (by rw [sizeLine_eq]; show 6 ≤ 16777216; decide), fun l hl => ?_⟩
    refine ⟨_, rfl, _, rfl, a, s0, 6, rfl, sc11.same (Same.new hl), by decide, by decide, fun wi H12 w0 w1 f12 sc12 => ?_⟩
    have nls : ¬ l ∈ [s0] := fun y => sc11.ne hl (by simpa using y)
    have el := f12 l _ nls upd_same
    obtain ⟨W, wo, wn, wns, hw⟩ : ∃ W, OddV W ∧ numB W 1 8 = false ∧ (∀ z, W = .str z → PyData.strOk z = true) ∧ atI [V.int 0, V.int 9, V.int (-1), V.int (10 ^ Int.toNat 21 + fr), V.int (-(10 ^ Int.toNat 21 + fr)), V.bl true] wi = some W := by
      have : wi = 0 ∨ wi = 1 ∨ wi = 2 ∨ wi = 3 ∨ wi = 4 ∨ wi = 5 := by omega
      rcases this with rfl | rfl | rfl | rfl | rfl | rfl
      · exact ⟨_, .int _, decide_eq_false (by omega), nofun, rfl⟩
      · exact ⟨_, .int _, decide_eq_false (by omega), nofun, rfl⟩
      · exact ⟨_, .int _, decide_eq_false (by omega), nofun, rfl⟩
      · exact ⟨_, .int _, decide_eq_false (by omega), nofun, rfl⟩
      · exact ⟨_, .int _, decide_eq_false (by omega), nofun, rfl⟩
      · exact ⟨_, .bl _, rfl, nofun, rfl⟩
    refine ⟨l, _, _, _, rfl, rfl, SqL.of el, hw, ?_⟩
    have tA : TxtOk 1 ("A" : Str) := ⟨by decide +kernel, by decide +kernel⟩
    have tS : TxtOk 1 (" " : Str) := ⟨by decide +kernel, by decide +kernel⟩
    have tL : TxtOk 8 ("abcdefgh" : Str) := ⟨by decide +kernel, by decide +kernel⟩
    have lA := tA.1
    have lS := tS.1
    have lL := tL.1
    refine ⟨_, rfl, _, _, rfl, rfl, bigN (by omega), _, rfl, _, _, rfl, rfl, bigN (by omega), _, rfl, _, _, rfl, rfl, bigN (by omega), (by rw [sizeLine_eq]; show 5 ≤ 16777216; decide), fun l2 hl2 => ?_⟩
    refine ⟨_, rfl, _, rfl, a, s0, 5, rfl, sc12.same (Same.new hl2), by decide, by decide, fun bi H13 b0 b1 f13 sc13 => ?_⟩
    have nls2 : ¬ l2 ∈ [s0] := fun y => sc12.ne hl2 (by simpa using y)
    have el2 := f13 l2 _ nls2 upd_same
    obtain ⟨B, tB, bn, hb⟩ : ∃ B : Str, TxtOk 20 B ∧ nameB (.str B) = false ∧ atI [V.str "", V.str ("A" ++ z), V.str (z ++ " "), V.str (z ++ "abcdefgh"), V.str "9"] bi = some (.str B) := by
      have : bi = 0 ∨ bi = 1 ∨ bi = 2 ∨ bi = 3 ∨ bi = 4 := by omega
      rcases this with rfl | rfl | rfl | rfl | rfl
      · exact ⟨_, ⟨by decide +kernel, by decide +kernel⟩, by decide +kernel, rfl⟩
      · exact ⟨_, (tA.app nz.txt).mono (by decide), nameB_not (c := 65) (by rw [codes_app]; exact List.mem_append_left _ (by decide +kernel)) (by decide), rfl⟩
      · exact ⟨_, (nz.txt.app tS).mono (by decide), nameB_not (c := 32) (by rw [codes_app]; exact List.mem_append_right _ (by decide +kernel)) (by decide), rfl⟩
      · refine ⟨_, (nz.txt.app tL).mono (by decide), ?_, rfl⟩
        have l8 : ("abcdefgh" : Str).length = 8 := by decide +kernel
        have z1 := nz.1
        show (decide (1 ≤ (z ++ "abcdefgh").length ∧ (z ++ "abcdefgh").length ≤ 8) && _) = false
        rw [decide_eq_false (by rw [PySem.Str.length_append, l8]; omega)]
        rfl
      · exact ⟨_, ⟨by decide +kernel, by decide +kernel⟩, by decide +kernel, rfl⟩
    have bo := Str.odd tB (by decide)
    have bs : ∀ z, V.str B = .str z → PyData.strOk z = true := fun z q => by
      injection q with q
      rw [← q]
      exact tB.strOk
    refine ⟨l2, _, _, _, rfl, rfl, SqL.of el2, hb, ?_⟩
    have nh : numB (.int (1 + ho)) 1 8 = true := decide_eq_true hh
    have nd : numB (.int (1 + dr)) 1 8 = true := decide_eq_true hd
    refine ⟨_, rfl, _, rfl, _, rfl, .str z, W, .int (1 + dr), rfl, zo, wo, .int _, fun q1 G1 nq1 eq1 sq1 => ?_⟩
    rw [ref_hold zn wn] at eq1
    refine ⟨_, rfl, (by rw [sizeLine_eq]; show 2 ≤ 16777216; decide), fun r1 hr1 => ?_⟩
    obtain ⟨d, e, D1, D2, S1, S2, E⟩ := pair_eq (K := K) (H := upd G1 r1 (.tup [.str "hold", W])) (q := q1) (r := r1) (t := "hold") (v := W) (by decide +kernel) wo wns (by rw [upd_ne (ne_of_none eq1 hr1)]; exact eq1) upd_same
    refine ⟨d, e, D1, D2, S1, S2, _, rfl, ite2 (fun y => absurd y (by rw [E]; decide)) (fun _ => ?_)⟩
    refine ⟨_, rfl, _, rfl, _, rfl, .str z, .int (1 + ho), W, rfl, zo, .int _, wo, fun q1 G1 nq1 eq1 sq1 => ?_⟩
    rw [ref_drink zn nh wn] at eq1
    refine ⟨_, rfl, (by rw [sizeLine_eq]; show 2 ≤ 16777216; decide), fun r1 hr1 => ?_⟩
    obtain ⟨d, e, D1, D2, S1, S2, E⟩ := pair_eq (K := K) (H := upd G1 r1 (.tup [.str "drink", W])) (q := q1) (r := r1) (t := "drink") (v := W) (by decide +kernel) wo wns (by rw [upd_ne (ne_of_none eq1 hr1)]; exact eq1) upd_same
    refine ⟨d, e, D1, D2, S1, S2, _, rfl, ite2 (fun y => absurd y (by rw [E]; decide)) (fun _ => ?_)⟩
    refine ⟨_, rfl, _, rfl, (by rw [sizeLine_eq]; show 2 ≤ 16777216; decide), fun l3 hl3 => ?_⟩
    refine ⟨l3, rfl, ⟨_, SqL.of upd_same⟩, ?_⟩
    refine for_it (walk_list (xs := [V.int (1 + ho), W])) (fun i σ H6 => ∃ (w9 : Option V), σ = [some (.ref a), some (.ref s0), some (.str z), some (.int (1 + ho)), some (.int (1 + dr)), some (.ref p1), some (.int (10 ^ Int.toNat 21 + fr)), some W, some (.str B), w9] ∧ SqL K H6 l3 [V.int (1 + ho), W])
      ⟨_, rfl, SqL.of (by rw [upd_same])⟩ (fun i σ H6 _ ⟨_, _, q⟩ => q) ?_ ?_
    · rintro i x σ H6o H6 hi ⟨w9, rfl, hq⟩ ⟨rfl, hx⟩
      have xo : OddV x := by
        have m := List.mem_of_getElem? hx
        simp only [List.mem_cons, List.not_mem_nil, or_false] at m
        rcases m with rfl | rfl
        · exact .int _
        · exact wo
      refine ⟨_, rfl, _, rfl, _, rfl, .str B, x, .int (1 + dr), rfl, bo, xo, .int _, fun q1 G1 nq1 eq1 sq1 => ?_⟩
      rw [ref_name bn] at eq1
      refine ⟨_, rfl, (by rw [sizeLine_eq]; show 2 ≤ 16777216; decide), fun r1 hr1 => ?_⟩
      obtain ⟨d, e, D1, D2, S1, S2, E⟩ := pair_eq (K := K) (H := upd G1 r1 (.tup [.str "name", .str B])) (q := q1) (r := r1) (t := "name") (v := .str B) (by decide +kernel) bo bs (by rw [upd_ne (ne_of_none eq1 hr1)]; exact eq1) upd_same
      refine ⟨d, e, D1, D2, S1, S2, _, rfl, ite2 (fun y => absurd y (by rw [E]; decide)) (fun _ => ?_)⟩
      refine ⟨_, rfl, _, rfl, _, rfl, .str B, .int (1 + ho), x, rfl, bo, .int _, xo, fun q2 G2 nq2 eq2 sq2 => ?_⟩
      rw [ref_name bn] at eq2
      refine ⟨_, rfl, (by rw [sizeLine_eq]; show 2 ≤ 16777216; decide), fun r2 hr2 => ?_⟩
      obtain ⟨d, e, D1, D2, S1, S2, E⟩ := pair_eq (K := K) (H := upd G2 r2 (.tup [.str "name", .str B])) (q := q2) (r := r2) (t := "name") (v := .str B) (by decide +kernel) bo bs (by rw [upd_ne (ne_of_none eq2 hr2)]; exact eq2) upd_same
      refine ⟨d, e, D1, D2, S1, S2, _, rfl, ite2 (fun y => absurd y (by rw [E]; decide)) (fun _ => ?_)⟩
      exact ⟨_, rfl, (((sq1.trans (Same.new hr1)).trans sq2).trans (Same.new hr2)).seq hq⟩
    rintro σ H6 ⟨w9, rfl, hq⟩
    refine ⟨_, rfl, _, rfl, .str z, W, .int 0, rfl, zo, wo, .int _, fun q1 G1 nq1 eq1 sq1 => ?_⟩
    rw [ref_hold zn wn] at eq1
    refine ⟨_, rfl, (by rw [sizeLine_eq]; show 2 ≤ 16777216; decide), fun r1 hr1 => ?_⟩
    obtain ⟨d, e, D1, D2, S1, S2, E⟩ := pair_eq (K := K) (H := upd G1 r1 (.tup [.str "hold", W])) (q := q1) (r := r1) (t := "hold") (v := W) (by decide +kernel) wo wns (by rw [upd_ne (ne_of_none eq1 hr1)]; exact eq1) upd_same
    refine ⟨d, e, D1, D2, S1, S2, _, rfl, ite2 (fun y => absurd y (by rw [E]; decide)) (fun _ => ?_)⟩
    refine ⟨_, rfl, .str z, .int 1, .int 8, rfl, zo, .int _, .int _, fun q1 G1 nq1 eq1 sq1 => ?_⟩
    rw [ref_none zn rfl rfl] at eq1
    refine ⟨(by rw [sizeLine_eq]; show 2 ≤ 16777216; decide), fun r1 hr1 => ?_⟩
    obtain ⟨d, e, D1, D2, S1, S2, E⟩ := pair_eq (K := K) (H := upd G1 r1 (.tup [.str "none", .int 0])) (q := q1) (r := r1) (t := "none") (v := .int 0) (by decide +kernel) (.int 0) nofun (by rw [upd_ne (ne_of_none eq1 hr1)]; exact eq1) upd_same
    refine ⟨d, e, D1, D2, S1, S2, _, rfl, ite2 (fun _ => ?_) (fun y => absurd E y)⟩
    refine ⟨_, rfl, .str z, .int 8, .int 1, rfl, zo, .int _, .int _, fun q2 G2 nq2 eq2 sq2 => ?_⟩
    rw [ref_none zn rfl rfl] at eq2
    refine ⟨(by rw [sizeLine_eq]; show 2 ≤ 16777216; decide), fun r2 hr2 => ?_⟩
    obtain ⟨d, e, D1, D2, S1, S2, E⟩ := pair_eq (K := K) (H := upd G2 r2 (.tup [.str "none", .int 0])) (q := q2) (r := r2) (t := "none") (v := .int 0) (by decide +kernel) (.int 0) nofun (by rw [upd_ne (ne_of_none eq2 hr2)]; exact eq2) upd_same
    refine ⟨d, e, D1, D2, S1, S2, ?_⟩
    rw [E]
    exact k _
end
end Wb

namespace Wb
open PySem PySem.Spec PyProof.Rows L2 Wx NdefX
section
theorem all_mk {l : PySem.W.OpenLaw} {w : World} {K : PySem.W.Frag} {h : Heap} {mg : Str → Option Value} {fa : Addr}
    {oc0 kV0 dc0 pm0 cd0 ct0 : Value} {od0 an0 : Option Addr} {sl0 : Array (Option Value)} {f0 : Addr}
    {oc1 kV1 dc1 pm1 cd1 ct1 : Value} {od1 an1 : Option Addr} {sl1 : Array (Option Value)} {f1 : Addr}
    {oc2 kV2 dc2 pm2 cd2 ct2 : Value} {od2 an2 : Option Addr} {sl2 : Array (Option Value)} {f2 : Addr}
    {oc3 kV3 dc3 pm3 cd3 ct3 : Value} {od3 an3 : Option Addr} {sl3 : Array (Option Value)} {f3 : Addr}
    {oc4 kV4 dc4 pm4 cd4 ct4 : Value} {od4 an4 : Option Addr} {sl4 : Array (Option Value)} {f4 : Addr}
    {oc5 kV5 dc5 pm5 cd5 ct5 : Value} {od5 an5 : Option Addr} {sl5 : Array (Option Value)} {f5 : Addr}
    {oc6 kV6 dc6 pm6 cd6 ct6 : Value} {od6 an6 : Option Addr} {sl6 : Array (Option Value)} {f6 : Addr}
    {oc7 kV7 dc7 pm7 cd7 ct7 : Value} {od7 an7 : Option Addr} {sl7 : Array (Option Value)} {f7 : Addr}
    {oc8 kV8 dc8 pm8 cd8 ct8 : Value} {od8 an8 : Option Addr} {sl8 : Array (Option Value)} {f8 : Addr}
    {oc9 kV9 dc9 pm9 cd9 ct9 : Value} {od9 an9 : Option Addr} {sl9 : Array (Option Value)} {f9 : Addr}
    {t_MOST_UNITS : Tok}
    {t__LONGEST_NAME : Tok}
    {nm_BadName qn_BadName fl_BadName : Str} {N_BadName C_BadName f_BadName cda_BadName cc_BadName : Addr} {bs_BadName sub_BadName bm_BadName : List Value} {sn_BadName : List Str} {ab_BadName : Bool} {col_BadName : Option Bool} {dd_BadName od_BadName an_BadName cdd_BadName cld_BadName : Option Addr} {m0_BadName m1_BadName m2_BadName m3_BadName m5_BadName : Option Value} {oc_BadName kV_BadName doc_BadName pm_BadName ct_BadName ccl_BadName clv_BadName : Value} {osl_BadName ccs_BadName csl_BadName : Array (Option Value)} {vs_BadName : Array Value} {tf_BadName : Tok}
    {nm_BadNumber qn_BadNumber fl_BadNumber : Str} {N_BadNumber C_BadNumber f_BadNumber cda_BadNumber cc_BadNumber : Addr} {bs_BadNumber sub_BadNumber bm_BadNumber : List Value} {sn_BadNumber : List Str} {ab_BadNumber : Bool} {col_BadNumber : Option Bool} {dd_BadNumber od_BadNumber an_BadNumber cdd_BadNumber cld_BadNumber : Option Addr} {m0_BadNumber m1_BadNumber m2_BadNumber m3_BadNumber m5_BadNumber : Option Value} {oc_BadNumber kV_BadNumber doc_BadNumber pm_BadNumber ct_BadNumber ccl_BadNumber clv_BadNumber : Value} {osl_BadNumber ccs_BadNumber csl_BadNumber : Array (Option Value)} {vs_BadNumber : Array Value} {tf_BadNumber : Tok}
    {C_Plot : Addr}
    {oc_Plot_init kV_Plot_init dc_Plot_init pm_Plot_init cd_Plot_init ct_Plot_init : Value} {od_Plot_init an_Plot_init : Option Addr} {sl_Plot_init : Array (Option Value)} {f_Plot_init : Addr}
    {oc_Plot_eq kV_Plot_eq dc_Plot_eq pm_Plot_eq cd_Plot_eq ct_Plot_eq : Value} {od_Plot_eq an_Plot_eq : Option Addr} {sl_Plot_eq : Array (Option Value)} {f_Plot_eq : Addr}
    (X : K.In h) (G : h.Ns mainGlobals mg) (hfa : mg "law" = some (.ref fa))
    (a0 : PySem.W.nsIn K mainGlobals "_shown" = some (some (.ref f0)))
    (l0 : K.lookup f0 = some ⟨oc0, od0, .func (PySem.W.fnOf "_shown" "_shown" (defArgs s_shown) (defBody s_shown) (defScope s_shown) .none kV0 dc0 pm0 an0 cd0 ct0), sl0⟩)
    (c0 : PySem.W.codeIn K cd0 "_shown" = true)
    (k0 : PySem.W.keepIn K (.ref f0) = true)
    (a1 : PySem.W.nsIn K mainGlobals "is_name" = some (some (.ref f1)))
    (l1 : K.lookup f1 = some ⟨oc1, od1, .func (PySem.W.fnOf "is_name" "is_name" (defArgs sis_name) (defBody sis_name) (defScope sis_name) .none kV1 dc1 pm1 an1 cd1 ct1), sl1⟩)
    (c1 : PySem.W.codeIn K cd1 "is_name" = true)
    (k1 : PySem.W.keepIn K (.ref f1) = true)
    (a2 : PySem.W.nsIn K mainGlobals "check_name" = some (some (.ref f2)))
    (l2 : K.lookup f2 = some ⟨oc2, od2, .func (PySem.W.fnOf "check_name" "check_name" (defArgs scheck_name) (defBody scheck_name) (defScope scheck_name) .none kV2 dc2 pm2 an2 cd2 ct2), sl2⟩)
    (c2 : PySem.W.codeIn K cd2 "check_name" = true)
    (k2 : PySem.W.keepIn K (.ref f2) = true)
    (a3 : PySem.W.nsIn K mainGlobals "check_number" = some (some (.ref f3)))
    (l3 : K.lookup f3 = some ⟨oc3, od3, .func (PySem.W.fnOf "check_number" "check_number" (defArgs scheck_number) (defBody scheck_number) (defScope scheck_number) .none kV3 dc3 pm3 an3 cd3 ct3), sl3⟩)
    (c3 : PySem.W.codeIn K cd3 "check_number" = true)
    (k3 : PySem.W.keepIn K (.ref f3) = true)
    (a4 : PySem.W.nsIn K mainGlobals "_law_start" = some (some (.ref f4)))
    (l4 : K.lookup f4 = some ⟨oc4, od4, .func (PySem.W.fnOf "_law_start" "_law_start" (defArgs s_law_start) (defBody s_law_start) (defScope s_law_start) .none kV4 dc4 pm4 an4 cd4 ct4), sl4⟩)
    (c4 : PySem.W.codeIn K cd4 "_law_start" = true)
    (k4 : PySem.W.keepIn K (.ref f4) = true)
    (a5 : PySem.W.nsIn K mainGlobals "_law_draw" = some (some (.ref f5)))
    (l5 : K.lookup f5 = some ⟨oc5, od5, .func (PySem.W.fnOf "_law_draw" "_law_draw" (defArgs s_law_draw) (defBody s_law_draw) (defScope s_law_draw) .none kV5 dc5 pm5 an5 cd5 ct5), sl5⟩)
    (c5 : PySem.W.codeIn K cd5 "_law_draw" = true)
    (k5 : PySem.W.keepIn K (.ref f5) = true)
    (a6 : PySem.W.nsIn K mainGlobals "_law_names" = some (some (.ref f6)))
    (l6 : K.lookup f6 = some ⟨oc6, od6, .func (PySem.W.fnOf "_law_names" "_law_names" (defArgs s_law_names) (defBody s_law_names) (defScope s_law_names) .none kV6 dc6 pm6 an6 cd6 ct6), sl6⟩)
    (c6 : PySem.W.codeIn K cd6 "_law_names" = true)
    (k6 : PySem.W.keepIn K (.ref f6) = true)
    (a7 : PySem.W.nsIn K mainGlobals "_law_is_integer" = some (some (.ref f7)))
    (l7 : K.lookup f7 = some ⟨oc7, od7, .func (PySem.W.fnOf "_law_is_integer" "_law_is_integer" (defArgs s_law_is_integer) (defBody s_law_is_integer) (defScope s_law_is_integer) .none kV7 dc7 pm7 an7 cd7 ct7), sl7⟩)
    (c7 : PySem.W.codeIn K cd7 "_law_is_integer" = true)
    (k7 : PySem.W.keepIn K (.ref f7) = true)
    (a8 : PySem.W.nsIn K mainGlobals "_law_refusal" = some (some (.ref f8)))
    (l8 : K.lookup f8 = some ⟨oc8, od8, .func (PySem.W.fnOf "_law_refusal" "_law_refusal" (defArgs s_law_refusal) (defBody s_law_refusal) (defScope s_law_refusal) .none kV8 dc8 pm8 an8 cd8 ct8), sl8⟩)
    (c8 : PySem.W.codeIn K cd8 "_law_refusal" = true)
    (k8 : PySem.W.keepIn K (.ref f8) = true)
    (a9 : PySem.W.nsIn K mainGlobals "law" = some (some (.ref f9)))
    (l9 : K.lookup f9 = some ⟨oc9, od9, .func (PySem.W.fnOf "law" "law" (defArgs slaw) (defBody slaw) (defScope slaw) .none kV9 dc9 pm9 an9 cd9 ct9), sl9⟩)
    (c9 : PySem.W.codeIn K cd9 "law" = true)
    (k9 : PySem.W.keepIn K (.ref f9) = true)
    (z_len : PySem.W.nsIn K mainGlobals "len" = some none)
    (z_abs : PySem.W.nsIn K mainGlobals "abs" = some none)
    (z_int : PySem.W.nsIn K mainGlobals "int" = some none)
    (z_bool : PySem.W.nsIn K mainGlobals "bool" = some none)
    (z_str : PySem.W.nsIn K mainGlobals "str" = some none)
    (z_range : PySem.W.nsIn K mainGlobals "range" = some none)
    (z_all : PySem.W.nsIn K mainGlobals "all" = some none)
    (z_isinstance : PySem.W.nsIn K mainGlobals "isinstance" = some none)
    (z_repr : PySem.W.nsIn K mainGlobals "repr" = some none)
    (z_super : PySem.W.nsIn K mainGlobals "super" = some none)
    (g_MOST_UNITS : PySem.W.nsIn K mainGlobals "MOST_UNITS" = some (some (.int 8 t_MOST_UNITS)))
    (g__LONGEST_NAME : PySem.W.nsIn K mainGlobals "_LONGEST_NAME" = some (some (.int 8 t__LONGEST_NAME)))
    (g_BadName : PySem.W.nsIn K mainGlobals "BadName" = some (some (.ref C_BadName)))
    (x_BadName : K.lookup C_BadName = some (excClassObj nm_BadName qn_BadName C_BadName N_BadName bs_BadName bm_BadName true sn_BadName sub_BadName ab_BadName col_BadName dd_BadName m0_BadName m1_BadName m2_BadName m3_BadName m5_BadName "ValueError.__new__"))
    (r_BadName : PySem.HandSPX.refsVE bm_BadName = true)
    (sa_BadName : PySem.W.findIn K (.ref C_BadName) "__setattr__" = some (some (.builtin "object.__setattr__")))
    (ex_BadName : PySem.W.subIn K (.ref C_BadName) (.type "BaseException") = some true)
    (ty_BadName : PySem.W.typeIn K (.ref C_BadName) = some (.type "type"))
    (kp_BadName : PySem.W.keepIn K (.ref C_BadName) = true)
    (i_BadName : PySem.W.findIn K (.ref C_BadName) "__init__" = some (some (.ref f_BadName)))
    (l_BadName : K.lookup f_BadName = some ⟨oc_BadName, od_BadName, .func (PySem.W.fnX "__init__" "BadName.__init__" (defArgs sBadName___init__) (defBody sBadName___init__) (defScope sBadName___init__) [("__class__", cc_BadName)] .none kV_BadName doc_BadName pm_BadName an_BadName (.ref cda_BadName) ct_BadName), osl_BadName⟩)
    (cd_BadName : PySem.W.codeIn K (.ref cda_BadName) "BadName.__init__" = true)
    (cf_BadName : K.lookup cda_BadName = some ⟨ccl_BadName, cdd_BadName, .fields vs_BadName, ccs_BadName⟩)
    (v2_BadName : vs_BadName[2]? = some (.str fl_BadName tf_BadName))
    (fi_BadName : ((l.prog.main.file : Str) == fl_BadName) = true)
    (cl_BadName : K.lookup cc_BadName = some ⟨clv_BadName, cld_BadName, .cell (some (.ref C_BadName)), csl_BadName⟩)
    (mr_BadName : PySem.W.mroIn K C_BadName (.ref C_BadName) = some true)
    (sb_BadName : PySem.W.subIn K (.ref C_BadName) (.type "ValueError") = some true)
    (su_BadName : PySem.W.ks_superIn K C_BadName C_BadName "__init__" = some (some (.builtin "ValueError.__init__")))
    (ti_BadName : PySem.W.typeIn K (.ref f_BadName) = some (.type "function"))
    (ga_BadName : PySem.W.findIn K (.ref C_BadName) "__getattribute__" = some (some (.builtin "BaseException.__getattribute__")))
    (gg_BadName : PySem.W.findIn K (.ref C_BadName) "__getattr__" = some none)
    (hd_BadName : PySem.W.hasDictIn K C_BadName = true)
    (ha_BadName : PySem.W.findIn K (.ref C_BadName) "__class__" = some (some (.builtin "object.__class__")))
    (mo_BadName : PySem.W.mroIn K C_BadName (.type "object") = some true)
    (em_BadName : PySem.W.subIn K (.ref C_BadName) (.ref C_BadName) = some true)
    (nw_BadName : PySem.W.findIn K (.ref C_BadName) "what" = some none)
    (nv_BadName : PySem.W.findIn K (.ref C_BadName) "value" = some none)
    (nn_BadName : PySem.W.findIn K (.ref C_BadName) "name" = some none)
    (nt_BadName : PySem.W.findIn K (.ref C_BadName) "turn" = some none)
    (g_BadNumber : PySem.W.nsIn K mainGlobals "BadNumber" = some (some (.ref C_BadNumber)))
    (x_BadNumber : K.lookup C_BadNumber = some (excClassObj nm_BadNumber qn_BadNumber C_BadNumber N_BadNumber bs_BadNumber bm_BadNumber true sn_BadNumber sub_BadNumber ab_BadNumber col_BadNumber dd_BadNumber m0_BadNumber m1_BadNumber m2_BadNumber m3_BadNumber m5_BadNumber "ValueError.__new__"))
    (r_BadNumber : PySem.HandSPX.refsVE bm_BadNumber = true)
    (sa_BadNumber : PySem.W.findIn K (.ref C_BadNumber) "__setattr__" = some (some (.builtin "object.__setattr__")))
    (ex_BadNumber : PySem.W.subIn K (.ref C_BadNumber) (.type "BaseException") = some true)
    (ty_BadNumber : PySem.W.typeIn K (.ref C_BadNumber) = some (.type "type"))
    (kp_BadNumber : PySem.W.keepIn K (.ref C_BadNumber) = true)
    (i_BadNumber : PySem.W.findIn K (.ref C_BadNumber) "__init__" = some (some (.ref f_BadNumber)))
    (l_BadNumber : K.lookup f_BadNumber = some ⟨oc_BadNumber, od_BadNumber, .func (PySem.W.fnX "__init__" "BadNumber.__init__" (defArgs sBadNumber___init__) (defBody sBadNumber___init__) (defScope sBadNumber___init__) [("__class__", cc_BadNumber)] .none kV_BadNumber doc_BadNumber pm_BadNumber an_BadNumber (.ref cda_BadNumber) ct_BadNumber), osl_BadNumber⟩)
    (cd_BadNumber : PySem.W.codeIn K (.ref cda_BadNumber) "BadNumber.__init__" = true)
    (cf_BadNumber : K.lookup cda_BadNumber = some ⟨ccl_BadNumber, cdd_BadNumber, .fields vs_BadNumber, ccs_BadNumber⟩)
    (v2_BadNumber : vs_BadNumber[2]? = some (.str fl_BadNumber tf_BadNumber))
    (fi_BadNumber : ((l.prog.main.file : Str) == fl_BadNumber) = true)
    (cl_BadNumber : K.lookup cc_BadNumber = some ⟨clv_BadNumber, cld_BadNumber, .cell (some (.ref C_BadNumber)), csl_BadNumber⟩)
    (mr_BadNumber : PySem.W.mroIn K C_BadNumber (.ref C_BadNumber) = some true)
    (sb_BadNumber : PySem.W.subIn K (.ref C_BadNumber) (.type "ValueError") = some true)
    (su_BadNumber : PySem.W.ks_superIn K C_BadNumber C_BadNumber "__init__" = some (some (.builtin "ValueError.__init__")))
    (ti_BadNumber : PySem.W.typeIn K (.ref f_BadNumber) = some (.type "function"))
    (ga_BadNumber : PySem.W.findIn K (.ref C_BadNumber) "__getattribute__" = some (some (.builtin "BaseException.__getattribute__")))
    (gg_BadNumber : PySem.W.findIn K (.ref C_BadNumber) "__getattr__" = some none)
    (hd_BadNumber : PySem.W.hasDictIn K C_BadNumber = true)
    (ha_BadNumber : PySem.W.findIn K (.ref C_BadNumber) "__class__" = some (some (.builtin "object.__class__")))
    (mo_BadNumber : PySem.W.mroIn K C_BadNumber (.type "object") = some true)
    (em_BadNumber : PySem.W.subIn K (.ref C_BadNumber) (.ref C_BadNumber) = some true)
    (nw_BadNumber : PySem.W.findIn K (.ref C_BadNumber) "what" = some none)
    (nv_BadNumber : PySem.W.findIn K (.ref C_BadNumber) "value" = some none)
    (nn_BadNumber : PySem.W.findIn K (.ref C_BadNumber) "name" = some none)
    (nt_BadNumber : PySem.W.findIn K (.ref C_BadNumber) "turn" = some none)
    (opq : PySem.W.nsIn K cStatics "thirdparty.any" = some none)
    (htop : (l.prog.main.scope.names.lookup ("super" : Str)).isSome = false)
    (spc : PySem.W.specialIn K (.builtin "object.__class__") "__get__" = some (some (.builtin "getset_descriptor.__get__")))
    (tks : PySem.W.takesIn K (.builtin "object.__class__") = some true)
    (g_Plot : PySem.W.nsIn K mainGlobals "Plot" = some (some (.ref C_Plot)))
    (mk_Plot : PySem.W.makesIn K C_Plot = true)
    (kp_Plot : PySem.W.keepIn K (.ref C_Plot) = true)
    (pg_Plot : PySem.W.plainGet K C_Plot Str.empty = true)
    (hd_Plot : PySem.W.hasDictIn K C_Plot = true)
    (po_Plot : PySem.W.plainOver K C_Plot = true)
    (sa_Plot : PySem.W.findIn K (.ref C_Plot) "__setattr__" = some (some (.builtin "object.__setattr__")))
    (ne_Plot : PySem.W.findIn K (.ref C_Plot) "__ne__" = some (some (.builtin "object.__ne__")))
    (ob_Plot : PySem.W.subIn K (.ref C_Plot) (.type "object") = some true)
    (ha_Plot : PySem.W.findIn K (.ref C_Plot) "__class__" = some (some (.builtin "object.__class__")))
    (hm_Plot : PySem.W.mroIn K C_Plot (.type "object") = some true)
    (kk_Plot : PySem.W.kitOne K (.ref C_Plot) (.ref C_Plot) = some true)
    (no_Plot_name : PySem.W.findIn K (.ref C_Plot) "name" = some none)
    (no_Plot_hold : PySem.W.findIn K (.ref C_Plot) "hold" = some none)
    (no_Plot_drink : PySem.W.findIn K (.ref C_Plot) "drink" = some none)
    (i_Plot_init : PySem.W.findIn K (.ref C_Plot) "__init__" = some (some (.ref f_Plot_init)))
    (fn_Plot_init : PySem.W.isFn K (.ref f_Plot_init) = true)
    (l_Plot_init : K.lookup f_Plot_init = some ⟨oc_Plot_init, od_Plot_init, .func (PySem.W.fnOf "__init__" "Plot.__init__" (defArgs sPlot___init__) (defBody sPlot___init__) (defScope sPlot___init__) .none kV_Plot_init dc_Plot_init pm_Plot_init an_Plot_init cd_Plot_init ct_Plot_init), sl_Plot_init⟩)
    (c_Plot_init : PySem.W.codeIn K cd_Plot_init "Plot.__init__" = true)
    (k_Plot_init : PySem.W.keepIn K (.ref f_Plot_init) = true)
    (i_Plot_eq : PySem.W.findIn K (.ref C_Plot) "__eq__" = some (some (.ref f_Plot_eq)))
    (fn_Plot_eq : PySem.W.isFn K (.ref f_Plot_eq) = true)
    (l_Plot_eq : K.lookup f_Plot_eq = some ⟨oc_Plot_eq, od_Plot_eq, .func (PySem.W.fnOf "__eq__" "Plot.__eq__" (defArgs sPlot___eq__) (defBody sPlot___eq__) (defScope sPlot___eq__) .none kV_Plot_eq dc_Plot_eq pm_Plot_eq an_Plot_eq cd_Plot_eq ct_Plot_eq), sl_Plot_eq⟩)
    (c_Plot_eq : PySem.W.codeIn K cd_Plot_eq "Plot.__eq__" = true)
    (k_Plot_eq : PySem.W.keepIn K (.ref f_Plot_eq) = true)
    (sb_no : PySem.W.subIn K (.ref C_BadNumber) (.ref C_BadName) = some false) :
    ∃ fd : FuncData, (∀ (s : Shared) (v : Value), BindsTo s fd ⟨[v], []⟩ [("script", v)]) ∧ ∀ base : Heap, K.In base → base.Ns mainGlobals mg → FnOk l.prog w K mg base CX0 9 fa fd ["script"] (splaw K) := by
  have e := hfa.symm.trans (PySem.W.mg_of X G a9)
  cases e
  have T : Txt K mg := ⟨PySem.W.mg_none_of X G z_len, PySem.W.mg_none_of X G z_abs, PySem.W.mg_none_of X G z_int, PySem.W.mg_none_of X G z_bool, PySem.W.mg_none_of X G z_str, PySem.W.mg_none_of X G z_range, PySem.W.mg_none_of X G z_all, PySem.W.mg_none_of X G z_isinstance, PySem.W.mg_none_of X G z_repr, PySem.W.mg_none_of X G z_super, ⟨_, PySem.W.mg_of X G g_MOST_UNITS⟩, ⟨_, PySem.W.mg_of X G g__LONGEST_NAME⟩⟩
  have E_BadName : ErrC l.prog K mg "BadName" "BadName.__init__" C_BadName f_BadName cda_BadName cc_BadName := ⟨PySem.W.mg_of X G g_BadName, ⟨⟨⟨_, _, _, _, _, _, _, _, _, _, _, _, _, _, _, x_BadName, r_BadName⟩, sa_BadName, ex_BadName, ty_BadName, kp_BadName⟩, cd_BadName, ⟨_, _, _, _, _, _, cf_BadName, v2_BadName, fi_BadName⟩, ⟨_, _, _, cl_BadName⟩, T.b_super, htop, mr_BadName, sb_BadName, su_BadName, opq⟩, i_BadName, ti_BadName, ⟨ga_BadName, gg_BadName, ex_BadName, hd_BadName⟩, ⟨ga_BadName, gg_BadName, ex_BadName, hd_BadName, ha_BadName, spc, tks, mo_BadName⟩, PySem.W.exm_ref ex_BadName hd_BadName ty_BadName em_BadName, nw_BadName, nv_BadName, nn_BadName, nt_BadName⟩
  have E_BadNumber : ErrC l.prog K mg "BadNumber" "BadNumber.__init__" C_BadNumber f_BadNumber cda_BadNumber cc_BadNumber := ⟨PySem.W.mg_of X G g_BadNumber, ⟨⟨⟨_, _, _, _, _, _, _, _, _, _, _, _, _, _, _, x_BadNumber, r_BadNumber⟩, sa_BadNumber, ex_BadNumber, ty_BadNumber, kp_BadNumber⟩, cd_BadNumber, ⟨_, _, _, _, _, _, cf_BadNumber, v2_BadNumber, fi_BadNumber⟩, ⟨_, _, _, cl_BadNumber⟩, T.b_super, htop, mr_BadNumber, sb_BadNumber, su_BadNumber, opq⟩, i_BadNumber, ti_BadNumber, ⟨ga_BadNumber, gg_BadNumber, ex_BadNumber, hd_BadNumber⟩, ⟨ga_BadNumber, gg_BadNumber, ex_BadNumber, hd_BadNumber, ha_BadNumber, spc, tks, mo_BadNumber⟩, PySem.W.exm_ref ex_BadNumber hd_BadNumber ty_BadNumber em_BadNumber, nw_BadNumber, nv_BadNumber, nn_BadNumber, nt_BadNumber⟩
  have F_Plot_init := fun_mk (st := sPlot___init__) l_Plot_init c_Plot_init k_Plot_init
  have b_Plot_init := F_Plot_init.binds (ps := PPlot___init__) fun _ _ _ _ _ _ us hl => match us, hl with | [_, _, _, _], _ => rfl
  have F_Plot_eq := fun_mk (st := sPlot___eq__) l_Plot_eq c_Plot_eq k_Plot_eq
  have b_Plot_eq := F_Plot_eq.binds (ps := PPlot___eq__) fun _ _ _ _ _ _ us hl => match us, hl with | [_, _], _ => rfl
  have D_Plot : DatC K mg "Plot" C_Plot f_Plot_init f_Plot_eq ["name", "hold", "drink"] := ⟨PySem.W.mg_of X G g_Plot, ⟨mk_Plot, i_Plot_init, fn_Plot_init, kp_Plot⟩, ⟨pg_Plot, hd_Plot, po_Plot, sa_Plot⟩, (fun f hf => by
    simp only [List.mem_cons, List.not_mem_nil, or_false] at hf
    rcases hf with rfl | rfl | rfl
    · exact no_Plot_name
    · exact no_Plot_hold
    · exact no_Plot_drink), i_Plot_eq, fn_Plot_eq, ne_Plot, ob_Plot, ha_Plot, spc, tks, hm_Plot, kk_Plot⟩
  have F0 := fun_mk (st := s_shown) l0 c0 k0
  have b0 := F0.binds (ps := P_shown) fun _ _ _ _ _ _ us hl => match us, hl with | [_], _ => rfl
  have F1 := fun_mk (st := sis_name) l1 c1 k1
  have b1 := F1.binds (ps := Pis_name) fun _ _ _ _ _ _ us hl => match us, hl with | [_], _ => rfl
  have F2 := fun_mk (st := scheck_name) l2 c2 k2
  have b2 := F2.binds (ps := Pcheck_name) fun _ _ _ _ _ _ us hl => match us, hl with | [_], _ => rfl
  have F3 := fun_mk (st := scheck_number) l3 c3 k3
  have b3 := F3.binds (ps := Pcheck_number) fun _ _ _ _ _ _ us hl => match us, hl with | [_, _, _, _], _ => rfl
  have F4 := fun_mk (st := s_law_start) l4 c4 k4
  have b4 := F4.binds (ps := P_law_start) fun _ _ _ _ _ _ us hl => match us, hl with | [_], _ => rfl
  have F5 := fun_mk (st := s_law_draw) l5 c5 k5
  have b5 := F5.binds (ps := P_law_draw) fun _ _ _ _ _ _ us hl => match us, hl with | [_, _, _], _ => rfl
  have F6 := fun_mk (st := s_law_names) l6 c6 k6
  have b6 := F6.binds (ps := P_law_names) fun _ _ _ _ _ _ us hl => match us, hl with | [_, _, _], _ => rfl
  have F7 := fun_mk (st := s_law_is_integer) l7 c7 k7
  have b7 := F7.binds (ps := P_law_is_integer) fun _ _ _ _ _ _ us hl => match us, hl with | [_], _ => rfl
  have F8 := fun_mk (st := s_law_refusal) l8 c8 k8
  have b8 := F8.binds (ps := P_law_refusal) fun _ _ _ _ _ _ us hl => match us, hl with | [_, _, _], _ => rfl
  have F9 := fun_mk (st := slaw) l9 c9 k9
  have bI_BadName : Binds K (PySem.W.fnX "__init__" "BadName.__init__" (defArgs sBadName___init__) (defBody sBadName___init__) (defScope sBadName___init__) [("__class__", cc_BadName)] .none kV_BadName doc_BadName pm_BadName an_BadName (.ref cda_BadName) ct_BadName) PBadName___init__ [] := .all fun us hl => match us, hl with | [_, _], _ => rfl
  have bI_BadNumber : Binds K (PySem.W.fnX "__init__" "BadNumber.__init__" (defArgs sBadNumber___init__) (defBody sBadNumber___init__) (defScope sBadNumber___init__) [("__class__", cc_BadNumber)] .none kV_BadNumber doc_BadNumber pm_BadNumber an_BadNumber (.ref cda_BadNumber) ct_BadNumber) PBadNumber___init__ [] := .all fun us hl => match us, hl with | [_, _, _], _ => rfl
  refine ⟨PySem.W.fnOf "law" "law" (defArgs slaw) (defBody slaw) (defScope slaw) .none kV9 dc9 pm9 an9 cd9 ct9, fun s v => .of_eq rfl, fun base _ _ => ?_⟩
  have C_shown := Cal.mk (ok_shown (P := l.prog) (w := w) (base := base) F0 T) (PySem.W.mg_of X G a0) k0 b0
  have G_BadName := okBadName___init__ (P := l.prog) (w := w) (base := base) l_BadName E_BadName T C_shown
  have G_BadNumber := okBadNumber___init__ (P := l.prog) (w := w) (base := base) l_BadNumber E_BadNumber T C_shown
  have C_is_name := Cal.mk (okis_name (P := l.prog) (w := w) (base := base) F1 T) (PySem.W.mg_of X G a1) k1 b1
  have Gcheck_name := okcheck_name (P := l.prog) (w := w) (base := base) F2 T E_BadName G_BadName bI_BadName C_is_name
  have Gcheck_number := okcheck_number (P := l.prog) (w := w) (base := base) F3 T E_BadNumber G_BadNumber bI_BadNumber
  have GPlot___init__ := okPlot___init__ (P := l.prog) (w := w) (base := base) F_Plot_init T D_Plot ⟨_, _, Gcheck_name, PySem.W.mg_of X G a2, k2, b2⟩ ⟨_, _, Gcheck_number, PySem.W.mg_of X G a3, k3, b3⟩
  have GPlot___eq__ := okPlot___eq__ (P := l.prog) (w := w) (base := base) (C_BadName := C_BadName) (C_BadNumber := C_BadNumber) F_Plot_eq T D_Plot
  have C_law_start := Cal.mk (ok_law_start (P := l.prog) (w := w) (base := base) F4 T) (PySem.W.mg_of X G a4) k4 b4
  have C_law_draw := Cal.mk (ok_law_draw (P := l.prog) (w := w) (base := base) F5 T) (PySem.W.mg_of X G a5) k5 b5
  have C_law_names := Cal.mk (ok_law_names (P := l.prog) (w := w) (base := base) F6 T C_law_draw) (PySem.W.mg_of X G a6) k6 b6
  have C_law_is_integer := Cal.mk (ok_law_is_integer (P := l.prog) (w := w) (base := base) F7 T) (PySem.W.mg_of X G a7) k7 b7
  have C_law_refusal := Cal.mk (ok_law_refusal (P := l.prog) (w := w) (base := base) F8 T E_BadName G_BadName bI_BadName E_BadNumber G_BadNumber bI_BadNumber D_Plot GPlot___init__ b_Plot_init (PySem.W.exm_ref ex_BadName hd_BadName ty_BadName sb_no)) (PySem.W.mg_of X G a8) k8 b8
  exact oklaw (P := l.prog) (w := w) (base := base) F9 T C_law_start C_law_draw C_law_names C_law_is_integer C_law_refusal D_Plot GPlot___init__ b_Plot_init GPlot___eq__ b_Plot_eq
theorem walk {l : PySem.W.OpenLaw} {q : Program} {loose : List Str} {XP : (Str → Option Value) → Heap → Prop} {YP : World → Heap → Prop} {d : DefRec} {K : Params → PySem.W.Frag} (hn : l.most = some 63) (hdf : d.params.defaults = [])
    (hY : ∀ (w : World) (h : Heap), YP w h → (K w.params).In h)
    (F : ∀ (w : World) (mg : Str → Option Value) (fa : Addr) (h : Heap), (K w.params).In h → h.Ns mainGlobals mg → mg d.name = some (.ref fa) →
      ∃ fd : FuncData, (∀ (s : Shared) (u : Value), BindsTo s fd ⟨[u], []⟩ [("script", u)]) ∧ ∀ base : Heap, (K w.params).In base → base.Ns mainGlobals mg → FnOk l.prog w (K w.params) mg base CX0 9 fa fd ["script"] (splaw (K w.params))) :
    PySem.W.WalkO q loose XP YP l.row.toRowW d [] (fun f vs => PySem.call f vs) :=
  L2.walk_of (n := 63) (k := 9) (x := "script") (CX := fun _ => CX0) (sp := fun w => splaw (K w.params)) hn (by decide) hdf ⟨rfl, by decide, by decide⟩ hY F (fun _ _ a ns hl _ hS => ⟨a, ns, rfl, hS, hl, fun _ => rfl⟩) fun _ _ _ _ _ z => z
end
end Wb
open PySem PySem.W PyProof.Rows in
set_option maxRecDepth 100000 in
set_option maxHeartbeats 0 in
theorem PySem.Challenge.cw_waterbyturns_k03_plots_holds : PySem.Challenge.rw_waterbyturns_k03_plots.Holds := by
  w_on; o_law; k_head; (case hw => w_witness2)
  k_fill
  refine Wb.walk (l := PySem.Challenge.rw_waterbyturns_k03_plots) rfl rfl (fun w h Y => PySem.W.kIn_of Y) ?F
  case F =>
    intro w mg fa h KX G hmg
    refine' Wb.all_mk KX G hmg ?a0 ?l0 ?c0 ?k0 ?a1 ?l1 ?c1 ?k1 ?a2 ?l2 ?c2 ?k2 ?a3 ?l3 ?c3 ?k3 ?a4 ?l4 ?c4 ?k4 ?a5 ?l5 ?c5 ?k5 ?a6 ?l6 ?c6 ?k6 ?a7 ?l7 ?c7 ?k7 ?a8 ?l8 ?c8 ?k8 ?a9 ?l9 ?c9 ?k9 ?z_len ?z_abs ?z_int ?z_bool ?z_str ?z_range ?z_all ?z_isinstance ?z_repr ?z_super ?g_MOST_UNITS ?g__LONGEST_NAME ?g_BadName ?x_BadName ?r_BadName ?sa_BadName ?ex_BadName ?ty_BadName ?kp_BadName ?i_BadName ?l_BadName ?cd_BadName ?cf_BadName ?v2_BadName ?fi_BadName ?cl_BadName ?mr_BadName ?sb_BadName ?su_BadName ?ti_BadName ?ga_BadName ?gg_BadName ?hd_BadName ?ha_BadName ?mo_BadName ?em_BadName ?nw_BadName ?nv_BadName ?nn_BadName ?nt_BadName ?g_BadNumber ?x_BadNumber ?r_BadNumber ?sa_BadNumber ?ex_BadNumber ?ty_BadNumber ?kp_BadNumber ?i_BadNumber ?l_BadNumber ?cd_BadNumber ?cf_BadNumber ?v2_BadNumber ?fi_BadNumber ?cl_BadNumber ?mr_BadNumber ?sb_BadNumber ?su_BadNumber ?ti_BadNumber ?ga_BadNumber ?gg_BadNumber ?hd_BadNumber ?ha_BadNumber ?mo_BadNumber ?em_BadNumber ?nw_BadNumber ?nv_BadNumber ?nn_BadNumber ?nt_BadNumber ?opq ?htop ?spc ?tks ?g_Plot ?mk_Plot ?kp_Plot ?pg_Plot ?hd_Plot ?po_Plot ?sa_Plot ?ne_Plot ?ob_Plot ?ha_Plot ?hm_Plot ?kk_Plot ?no_Plot_name ?no_Plot_hold ?no_Plot_drink ?i_Plot_init ?fn_Plot_init ?l_Plot_init ?c_Plot_init ?k_Plot_init ?i_Plot_eq ?fn_Plot_eq ?l_Plot_eq ?c_Plot_eq ?k_Plot_eq ?sb_no
    (case a0 => k_is)
    (case l0 => k_is)
    (case c0 => k_is)
    (case k0 => k_is)
    (case a1 => k_is)
    (case l1 => k_is)
    (case c1 => k_is)
    (case k1 => k_is)
    (case a2 => k_is)
    (case l2 => k_is)
    (case c2 => k_is)
    (case k2 => k_is)
    (case a3 => k_is)
    (case l3 => k_is)
    (case c3 => k_is)
    (case k3 => k_is)
    (case a4 => k_is)
    (case l4 => k_is)
    (case c4 => k_is)
    (case k4 => k_is)
    (case a5 => k_is)
    (case l5 => k_is)
    (case c5 => k_is)
    (case k5 => k_is)
    (case a6 => k_is)
    (case l6 => k_is)
    (case c6 => k_is)
    (case k6 => k_is)
    (case a7 => k_is)
    (case l7 => k_is)
    (case c7 => k_is)
    (case k7 => k_is)
    (case a8 => k_is)
    (case l8 => k_is)
    (case c8 => k_is)
    (case k8 => k_is)
    (case a9 => k_is)
    (case l9 => k_is)
    (case c9 => k_is)
    (case k9 => k_is)
    (case z_len => k_is)
    (case z_abs => k_is)
    (case z_int => k_is)
    (case z_bool => k_is)
    (case z_str => k_is)
    (case z_range => k_is)
    (case z_all => k_is)
    (case z_isinstance => k_is)
    (case z_repr => k_is)
    (case z_super => k_is)
    (case g_MOST_UNITS => k_is)
    (case g__LONGEST_NAME => k_is)
    (case g_BadName => k_is)
    (case x_BadName => k_is)
    (case r_BadName => first | rfl | decide +kernel)
    (case sa_BadName => k_is)
    (case ex_BadName => k_is)
    (case ty_BadName => k_is)
    (case kp_BadName => k_is)
    (case i_BadName => k_is)
    (case l_BadName => k_is)
    (case cd_BadName => k_is)
    (case cf_BadName => k_is)
    (case v2_BadName => first | rfl | decide +kernel)
    (case fi_BadName => first | rfl | decide +kernel)
    (case cl_BadName => k_is)
    (case mr_BadName => k_is)
    (case sb_BadName => k_is)
    (case su_BadName => ks_is)
    (case ti_BadName => k_is)
    (case ga_BadName => k_is)
    (case gg_BadName => k_is)
    (case hd_BadName => k_is)
    (case ha_BadName => k_is)
    (case mo_BadName => k_is)
    (case em_BadName => k_is)
    (case nw_BadName => k_is)
    (case nv_BadName => k_is)
    (case nn_BadName => k_is)
    (case nt_BadName => k_is)
    (case g_BadNumber => k_is)
    (case x_BadNumber => k_is)
    (case r_BadNumber => first | rfl | decide +kernel)
    (case sa_BadNumber => k_is)
    (case ex_BadNumber => k_is)
    (case ty_BadNumber => k_is)
    (case kp_BadNumber => k_is)
    (case i_BadNumber => k_is)
    (case l_BadNumber => k_is)
    (case cd_BadNumber => k_is)
    (case cf_BadNumber => k_is)
    (case v2_BadNumber => first | rfl | decide +kernel)
    (case fi_BadNumber => first | rfl | decide +kernel)
    (case cl_BadNumber => k_is)
    (case mr_BadNumber => k_is)
    (case sb_BadNumber => k_is)
    (case su_BadNumber => ks_is)
    (case ti_BadNumber => k_is)
    (case ga_BadNumber => k_is)
    (case gg_BadNumber => k_is)
    (case hd_BadNumber => k_is)
    (case ha_BadNumber => k_is)
    (case mo_BadNumber => k_is)
    (case em_BadNumber => k_is)
    (case nw_BadNumber => k_is)
    (case nv_BadNumber => k_is)
    (case nn_BadNumber => k_is)
    (case nt_BadNumber => k_is)
    (case opq => k_is)
    (case htop => first | rfl | decide +kernel)
    (case spc => k_is)
    (case tks => k_is)
    (case g_Plot => k_is)
    (case mk_Plot => k_is)
    (case kp_Plot => k_is)
    (case pg_Plot => k_is)
    (case hd_Plot => k_is)
    (case po_Plot => k_is)
    (case sa_Plot => k_is)
    (case ne_Plot => k_is)
    (case ob_Plot => k_is)
    (case ha_Plot => k_is)
    (case hm_Plot => k_is)
    (case kk_Plot => first | k_is | kit_is)
    (case no_Plot_name => k_is)
    (case no_Plot_hold => k_is)
    (case no_Plot_drink => k_is)
    (case i_Plot_init => k_is)
    (case fn_Plot_init => k_is)
    (case l_Plot_init => k_is)
    (case c_Plot_init => k_is)
    (case k_Plot_init => k_is)
    (case i_Plot_eq => k_is)
    (case fn_Plot_eq => k_is)
    (case l_Plot_eq => k_is)
    (case c_Plot_eq => k_is)
    (case k_Plot_eq => k_is)
    (case sb_no => k_is)

