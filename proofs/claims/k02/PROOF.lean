import PyProof.Rows.All
import Wide.All
import OpenK.AllK
import Wide.FinOn
import HandS.ForMost
import HandS.Exc
import HandS.ExcInit
import HandS.Nested
import HandS.WordsExc
import KE.KExcSuper
import HandS.ExcIs
import HandS.ExcField
import HandS.IsInst
import HandS.FStr
import HandS.RaiseMore
import KE.KExcIs
import HandS.Walk
import KE.IntTextLaws
import HandS.Codes
import PySem.Challenge.RW_waterbyturns_k02_read_number
set_option Elab.async false
set_option linter.all false
set_option maxRecDepth 100000
set_option maxHeartbeats 4000000
namespace Wx
open PySem PySem.Spec PyProof.Rows L2 NdefX
/-! super().__init__(..) in the __init__ of an own exception class whose line goes over own classes to ValueError -/
section
variable {prog : Program} {w : World} {A : Around} {E : Value → Shared → Prop} {hp : Heap} {g : Array GenState} {d : Drawn} {t : Nat} {os : OsState}
theorem mw_called {u x t0 : Addr} {us : List Value} {Q : Value → Shared → Prop} {C N : Addr} {nm q : Str} {bs bm : List Value} {hdct : Bool} {sn : List Str} {sub : List Value} {ab : Bool} {col : Option Bool} {dd : Option Addr} {k0 k1 k2 k3 k5 : Option Value}
    (cC : hp.get? C = some (excClassObj nm q C N bs bm hdct sn sub ab col dd k0 k1 k2 k3 k5 "ValueError.__new__")) (cx : hp.get? x = some (PySem.HandSPX.excO C t0)) (cu : hp.get? u = some (PySem.W.kxs_mw "ValueError.__init__" x)) (hl : us.length ≤ sizeLine)
    (fin : ∀ h' t1, (∀ b o, b ≠ x → hp.get? b = some o → h'.get? b = some o) → h'.get? x = some (PySem.HandSPX.excO C t1) → Q .none ⟨h', g, d, t, os⟩) : wpAny (model prog w) A (call (.ref u) us) Q E ⟨hp, g, d, t, os⟩ := by
  refine wpAny_call (codeAny_of_tree ?_)
  show wpAny _ A.in1 (callAny (Value.ref u) (Args.mk us [])) _ _ _
  unfold callAny
  dsimp only
  refine wpAny_bind (wpAny_load cu ?_)
  have mt : (Value.type "method-wrapper" == Value.type "method" || Value.type "method-wrapper" == Value.type "builtin_function_or_method" || Value.type "method-wrapper" == Value.type "method-wrapper") = true := by decide
  simp only [PySem.W.kxs_mw, mt, if_true]
  refine PySem.W.KFB.if_so (by decide) (wpAny_bind (PySem.W.check_bound_init F.excBase_ValueError.toExcCallFacts cC cx rfl (wpAny_bind (wpAny_pure (wpAny_pure ?_)))))
  refine And.intro (plainId_quiet F.excBase_ValueError.init.plain _) (codeAny_builtin F.excBase_ValueError.initEntry ?_)
  exact PySem.W.exc_init_tree (cls := Value.ref C) (t0 := t0) (dv := Option.none) (c2 := Value.none) (c3 := Value.none) (b4 := Value.bool false) cx hl fun h' k e _ => fin h' _ k e
end
/-- the first statement: super().__init__(e, ..) -/
abbrev stSuper (p0 p1 p2 p3 p4 : Pos) (e : Expr) (es : List Expr) : Stmt := .Expr (.Call (.Attribute (.Call (.Name "super" p0) [] [] p1) "__init__" p2) (e :: es) [] p3) p4
abbrev nfS (name qual : Str) (params : Arguments) (body : List Stmt) (scope : Scope) (cc cda : Addr) : NF := ⟨name, qual, params, body, scope, [("__class__", cc)], cda⟩
/-- what the written part says -/
structure SupTxt (P : Program) (K : PySem.W.Frag) (mg : Str → Option Value) (C cda cc : Addr) (qual : Str) : Prop where
  oex : OexC K C
  code : PySem.W.codeIn K (.ref cda) qual = true
  file : ∃ (ccl : Value) (cdd : Option Addr) (vs : Array Value) (ccs : Array (Option Value)) (fl : Str) (tf : Tok), K.lookup cda = some ⟨ccl, cdd, .fields vs, ccs⟩ ∧ vs[2]? = some (.str fl tf) ∧ ((P.main.file : Str) == fl) = true
  cell : ∃ (cl : Value) (cld : Option Addr) (csl : Array (Option Value)), K.lookup cc = some ⟨cl, cld, .cell (some (.ref C)), csl⟩
  sup : mg "super" = none
  top : (P.main.scope.names.lookup ("super" : Str)).isSome = false
  mro : PySem.W.mroIn K C (.ref C) = some true
  subB : PySem.W.subIn K (.ref C) (.type "ValueError") = some true
  ini : PySem.W.ks_superIn K C C "__init__" = some (some (.builtin "ValueError.__init__"))
  opq : PySem.W.nsIn K cStatics "thirdparty.any" = some none
theorem exo_upd {H : Hp} {a C : Addr} {d : Option Addr} (e : H a = some (exo a C d)) : upd H a (exo a C d) = H := by
  funext b
  by_cases hb : b = a
  · rw [hb, upd_same, e]
  · rw [upd_ne hb]
section
variable {CX : CXT} {P : Program} {w : World} {K : PySem.W.Frag} {mg : Str → Option Value} {base : Heap} {name qual : Str} {params : Arguments} {scope : Scope} {dV kV doc pm ct oc : Value} {an od : Option Addr} {osl : Array (Option Value)} {f cda cc C : Addr}
  {N ps : List Str} {k : Nat} {sp : Sp} {e : Expr} {es : List Expr} {rest : List Stmt} {p0 p1 p2 p3 p4 : Pos} {ar : Arg}
theorem fn_super (lk : K.lookup f = some ⟨oc, od, .func (PySem.W.fnX name qual params (stSuper p0 p1 p2 p3 p4 e es :: rest) scope [("__class__", cc)] dV kV doc pm an (.ref cda) ct), osl⟩)
    (T : SupTxt P K mg C cda cc qual) (S : NScope N ps ["__class__"] scope) (hp : (params.posonlyargs ++ params.args).head? = some ar) (har : N[0]? = some ar.arg) (hal : scope.names.lookup ar.arg = some .local) (hks : scope.names.lookup ("super" : Str) = some .globalImplicit)
    (len : ∀ vs H Q E, sp vs H Q E → vs.length = ps.length)
    (hbody : ∀ (A : Around) (outer : List Env) (s : Shared) (H : Hp) (vs : List V) (Q : VK) (E : XK), Room k (A.deeper (envF (nfS name qual params (stSuper p0 p1 p2 p3 p4 e es :: rest) scope cc cda) f s.heap.objs.size)) → sp vs H Q E →
      ∃ ta tr, PA (ncx CX P w K mg base N (nfS name qual params (stSuper p0 p1 p2 p3 p4 e es :: rest) scope cc cda) f A outer s H E) (e :: es) ta ∧ PSs (ncx CX P w K mg base N (nfS name qual params (stSuper p0 p1 p2 p3 p4 e es :: rest) scope cc cda) f A outer s H E) rest tr ∧ ∃ (a : Addr) (vr : List V), vs = .ref a :: vr ∧ H a = some (exo a C none) ∧
        ta (startF N vs [some (.ref C)]) H fun ws H1 => ws.length ≤ 1000 ∧ H1 a = some (exo a C none) ∧ tr { nx := fun _ H' => Q .non H', rt := Q } (startF N vs [some (.ref C)]) H1)
    (hi : ∀ L : Addr, interactive (envF (nfS name qual params (stSuper p0 p1 p2 p3 p4 e es :: rest) scope cc cda) f L) = false := by intros; rfl)
    (hs : ∀ L : Addr, swapsWith (.Call (.Attribute (.Call (.Name "super" p0) [] [] p1) "__init__" p2) (e :: es) [] p3) none p4.line (envF (nfS name qual params (stSuper p0 p1 p2 p3 p4 e es :: rest) scope cc cda) f L) = pure false := by intros; rfl)
    (he : ∀ L : Addr, starEach (e :: es) (envF (nfS name qual params (stSuper p0 p1 p2 p3 p4 e es :: rest) scope cc cda) f L) = (false, eval e (envF (nfS name qual params (stSuper p0 p1 p2 p3 p4 e es :: rest) scope cc cda) f L)) :: starEach es (envF (nfS name qual params (stSuper p0 p1 p2 p3 p4 e es :: rest) scope cc cda) f L) := by intros; rfl)
    (hpl : ∀ L : Addr, (backTo p3 (starEach es (envF (nfS name qual params (stSuper p0 p1 p2 p3 p4 e es :: rest) scope cc cda) f L))).any (·.1) = false := by intros; rfl)
    (hev : ∀ L : Addr, ∃ pl, eval (.Call (.Attribute (.Call (.Name "super" p0) [] [] p1) "__init__" p2) (e :: es) [] p3) (envF (nfS name qual params (stSuper p0 p1 p2 p3 p4 e es :: rest) scope cc cda) f L) = (do
      let ov ← attributeBase (.Call (.Name "super" p0) [] [] p1) "__init__" (envF (nfS name qual params (stSuper p0 p1 p2 p3 p4 e es :: rest) scope cc cda) f L) (eval (.Call (.Name "super" p0) [] [] p1) (envF (nfS name qual params (stSuper p0 p1 p2 p3 p4 e es :: rest) scope cc cda) f L))
      standAt p2.atName
      let r ← holding [ov] (getMethod ov "__init__" pl)
      callWith p3 r.1 r.2 (backTo p3 (starEach (e :: es) (envF (nfS name qual params (stSuper p0 p1 p2 p3 p4 e es :: rest) scope cc cda) f L))) []) := by intros; exact ⟨_, rfl⟩) :
    FnOk P w K mg base CX (k + 1) f (PySem.W.fnX name qual params (stSuper p0 p1 p2 p3 p4 e es :: rest) scope [("__class__", cc)] dV kV doc pm an (.ref cda) ct) ps sp := by
  obtain ⟨clv, cld, csl, hcell⟩ := T.cell
  obtain ⟨ccl, cdd, vsC, ccs, flC, tfC, hcode, hvsC, hfile⟩ := T.file
  refine ⟨len, fun A outer s H args us vs Q E hr e0 hbind r hsp => ?_⟩
  have hl := len _ _ _ _ hsp
  have KX : K.In s.heap := e0.mod.kin.keeps fun b o z => (e0.bs b o z).1
  have lim : s.heap.NoLimit := e0.mod.nolimit.keeps fun b o z => (e0.bs b o z).1
  let F : NF := (nfS name qual params (stSuper p0 p1 p2 p3 p4 e es :: rest) scope cc cda)
  have Hc : H cc = none := (e0.bs cc _ (e0.mod.kin _ _ hcell)).2
  have CA : CellsAt F.cl ["__class__"] [some (V.ref C)] s.heap H := by
    have key : ∀ y c, F.cl.lookup y = some c → y = "__class__" ∧ c = cc := fun y c z => by
      by_cases q : y = "__class__"
      · subst q
        have z : some cc = some c := by simpa [F, List.lookup] using z
        exact ⟨rfl, (Option.some.inj z).symm⟩
      · have : (y == ("__class__" : Str)) = false := by simpa using q
        simp [F, List.lookup, this] at z
    refine ⟨rfl, fun y c z => ?_, fun x y c z z' => ?_, fun i y z => ?_⟩
    · obtain ⟨_, rfl⟩ := key y c z
      exact ⟨Hc, _, _, KX _ _ hcell, rfl⟩
    · rw [(key x c z).1, (key y c z').1]
    · have hi : i = 0 ∧ y = "__class__" := by
        cases i with
        | zero => exact ⟨rfl, (Option.some.inj z).symm⟩
        | succ i => simp at z
      obtain ⟨rfl, rfl⟩ := hi
      refine ⟨cc, by simp [F, List.lookup], fun v hv => ?_⟩
      have hv : V.ref C = v := Option.some.inj (Option.some.inj hv)
      subst hv
      exact ⟨.ref C, rfl, _, KX _ _ hcell, rfl⟩
  refine PySem.ks_codeAny_call_defAt (fd := PySem.W.fnX name qual params (stSuper p0 p1 p2 p3 p4 e es :: rest) scope [("__class__", cc)] dV kV doc pm an (.ref cda) ct) (body := stSuper p0 p1 p2 p3 p4 e es :: rest) (binds := ps.zip us) hr.depth (KX _ _ lk) rfl lim
    (PySem.W.codeRec_of KX T.code) rfl hbind S.nocell (fun y hy => S.par y.1 (List.of_mem_zip hy).1) (fun h₁ hns kp => ?_) S.co S.gen S.kind
  show PySem.wpAt (model P w) (A.deeper (envF F f s.heap.objs.size)) (.func (stSuper p0 p1 p2 p3 p4 e es :: rest) (envF F f s.heap.objs.size)) (execs (stSuper p0 p1 p2 p3 p4 e es :: rest) (envF F f s.heap.objs.size)) _ _ _
  have I : Inv (ncx CX P w K mg base N F f A outer s H E) [] (startF N vs [some (.ref C)]) H { s with heap := h₁, toks := s.toks + (ps.zip us).length } := inv_startN (F := F) S hr.hd e0 hl r CA hns kp
  obtain ⟨ta, tr, hA, hR, a, vr, rfl, ea, hq⟩ := hbody A outer s H vs Q E (hr.deeper _) hsp
  obtain ⟨nm, qn, Nn, bs, bm, sn, sub, ab, col, dd, k0, k1, k2, k3, k5, hC, hbm⟩ := T.oex.cls
  have hcl : PySem.W.clsIn K C = some { name := nm, bases := bs, mro := .ref C :: bm, ns := Nn, qualname := qn, hasDict := true, slotNames := sn, subclasses := sub, abstract := ab, collection := col, hasDel := false } := by unfold PySem.W.clsIn; rw [hC] <;> rfl
  -- the local that holds the object
  have self : ∀ {s1 : Shared} {H1 : Hp} {pins : List (Addr × Obj)}, Inv (ncx CX P w K mg base N F f A outer s H E) pins (startF N (.ref a :: vr) [some (.ref C)]) H1 s1 → ∃ m, s1.heap.Ns (envF F f s.heap.objs.size).locals m ∧ m ar.arg = some (.ref a) := fun J => by
    obtain ⟨m, hm, hl⟩ := J.loc
    obtain ⟨u, ru, hk⟩ := hl 0 ar.arg (.ref a) har rfl (.inl hal)
    refine ⟨m, hm, ?_⟩
    rcases hk with ⟨_, hk⟩ | ⟨hk, _⟩
    · rw [hk]
      exact congrArg some ru
    · exfalso
      have hk : scope.names.lookup ar.arg = some .cell ∨ scope.names.lookup ar.arg = some .free := hk
      rw [hal] at hk
      rcases hk with z | z <;> cases z
  have fin : ∀ {fl : Flow} {s' : Shared}, SP (ncx CX P w K mg base N F f A outer s H E) [] { nx := fun _ H' => Q .non H', rt := Q } fl s' → CR CX outer P w H s Q E (.ok (.ret (match fl with | .ret v => v | _ => .none))) s' := fun {fl s'} hs' => by
    have out : ∀ {σ' : L2.St} {H' : Hp} {v : V} {u : Value}, Inv (ncx CX P w K mg base N F f A outer s H E) [] σ' H' s' → L2.RelV v u → Q v H' → CE outer P w H s Q u s' := fun {σ' H' v u} J rv q => ⟨v, H', J.os, J.bare, J.base, J.hok, rv, q⟩
    cases fl with
    | ret u =>
      obtain ⟨v, σ', H', J, rv, q⟩ := hs'
      exact out J rv q
    | next =>
      obtain ⟨σ', H', J, q⟩ := hs'
      exact out (v := V.non) (u := Value.none) J rfl q
    | brk =>
      obtain ⟨_, _, _, q⟩ := hs'
      exact q.elim
    | cont =>
      obtain ⟨_, _, _, q⟩ := hs'
      exact q.elim
  obtain ⟨pl, hev⟩ := hev s.heap.objs.size
  refine PySem.ks_wpAt_execs_cons (PySem.ks_wpAt_Expr_any (PySem.ks_wpAt_MethodCall (pl := pl) ?_ hev) (hi _) (hs _))
  · obtain ⟨m, hm, hma⟩ := self I
    obtain ⟨oD, hD1, hD2⟩ : ∃ oD, h₁.get? C = some oD ∧ oD.data = .cls { name := nm, bases := bs, mro := .ref C :: bm, ns := Nn, qualname := qn, hasDict := true, slotNames := sn, subclasses := sub, abstract := ab, collection := col, hasDel := false } := ⟨_, I.kIn _ _ hC, rfl⟩
    refine PySem.ks_wpAt_super_base (env := envF F f s.heap.objs.size) hks (S.frk _ (by simp)) rfl rfl (I.kIn _ _ lk) rfl hp rfl (I.kIn _ _ hcode) rfl hvsC hfile T.top ?_
    obtain ⟨mb, hb1, hb2⟩ := I.mod.blt
    refine PySem.W.ks_loadName_global S.kind hks (Calls.loadGlobal_builtin (I.mod.glob.keeps I.bk) T.sup (hb1.keeps I.bk) ((hb2 "super" (by decide)).trans (by decide +kernel : bootBuiltins "super" = some (.type "super"))) ⟨rfl, ?_⟩)
    refine wpAny_loadName_free S.kind (S.frk _ (by simp)) rfl ⟨_, I.kIn _ _ hcell, rfl⟩ ?_
    refine wpAny_loadName_local S.kind hal hm hma ?_
    refine PySem.ks_wpAny_isType_cls hD1 hD2 ⟨rfl, ?_⟩
    obtain ⟨t1, ho⟩ := exo_at I.hok ea
    have IA : PySem.W.InstAt h₁ a { cls := .ref C, dict := none, data := .fields #[.ref t1, .none, .none, .none, .bool false, .none] } C none := ⟨ho, rfl, rfl, trivial⟩
    refine PySem.ks_wpAny_call_super hD1 hD2 ho rfl (fun c z => by cases z) (PySem.W.looks_mroIn I.kIn T.mro) (fun h2 e2 k2 => ?_)
    have J2 : Inv (ncx CX P w K mg base N F f A outer s H E) [] (startF N (.ref a :: vr) [some (.ref C)]) H { s with heap := h2, toks := s.toks + (ps.zip us).length } := I.kept k2
    have ni : PySem.W.alongIn K "__init__" (((Value.ref C :: bm).dropWhile (· != .ref C)).drop 1) = some (some (.builtin "ValueError.__init__")) := by
      have z := T.ini
      unfold PySem.W.ks_superIn at z
      rw [hcl] at z
      exact z
    have ho2 := k2 _ _ ho
    have hI : PySem.W.Looks (model P w) h2 (isInstance (.ref a) (.type "ValueError")) true := (show PySem.W.InstAt h2 a _ C none from ⟨ho2, rfl, rfl, trivial⟩).type.andThen (PySem.W.looks_subIn J2.kIn T.subB)
    refine PySem.W.kxs_getMethod PySem.W.kxs_ValueError e2 (PySem.W.looks_opaque J2.kIn T.opq) ((PySem.W.looks_clsIn J2.kIn hcl).andThen .now) rfl J2.kIn ni hI (PySem.W.ks_ne I.kIn IA hcl) (by decide) ?_
    have J3 : Inv (ncx CX P w K mg base N F f A outer s H E) [] (startF N (.ref a :: vr) [some (.ref C)]) H { s with heap := h2.push (PySem.W.kxs_mw "ValueError.__init__" a), toks := s.toks + (ps.zip us).length + 1 } := J2.kept fun b o z => Heap.get?_push_of_some _ z
    have hmw : (h2.push (PySem.W.kxs_mw "ValueError.__init__" a)).get? h2.objs.size = some (PySem.W.kxs_mw "ValueError.__init__" a) := Heap.get?_push_at rfl rfl
    have J4 : Inv (ncx CX P w K mg base N F f A outer s H E) [(h2.objs.size, PySem.W.kxs_mw "ValueError.__init__" a)] (startF N (.ref a :: vr) [some (.ref C)]) H { s with heap := h2.push (PySem.W.kxs_mw "ValueError.__init__" a), toks := s.toks + (ps.zip us).length + 1 } := by
      refine ⟨J3.ok, J3.os, J3.bare, J3.base, J3.loc, J3.cell, J3.free, J3.freeC, fun p hp => ?_, J3.hok, J3.len⟩
      have hp : p = (h2.objs.size, PySem.W.kxs_mw "ValueError.__init__" a) := by
        have z : p ∈ ([] : List (Addr × Obj)) ++ [(h2.objs.size, PySem.W.kxs_mw "ValueError.__init__" a)] := hp
        simpa using z
      subst hp
      refine ⟨hmw, J2.hok.fresh (Nat.le_refl _), fun z => absurd J2.lt ?_, fun z => ?_, fun v z => by cases z⟩
      · rw [← z]
        exact Nat.lt_irrefl _
      · obtain ⟨_, o1, ho1, _⟩ := J2.ok.funs.mem z
        obtain ⟨o2, ho2'⟩ := J2.base.there _ _ ho1 (fun y => absurd (show _ ∈ ([] : List Addr) from y) (by simp))
        exact absurd (Heap.lt_size ho2') (Nat.lt_irrefl _)
    rw [he s.heap.objs.size]
    refine PySem.W.kxs_callWith (i := "ValueError.__init__") (x := a) (by show (false || (backTo p3 (starEach es (envF F f s.heap.objs.size))).any fun y => y.1) = false; rw [hpl s.heap.objs.size]; rfl) ?_
    refine Calls.evalArgs_plain ?_
    have run := hA.run p3 _ _ _ _ _ J4 hq
    rw [show starEach (e :: es) (ncx CX P w K mg base N F f A outer s H E).env = _ from he s.heap.objs.size] at run
    refine thn run fun us4 s4 hap => ?_
    obtain ⟨ws, H4, I4, r4, hw, ea4, tr4⟩ := hap
    obtain ⟨cu4, _⟩ := I4.pin _ (List.mem_append_right _ List.mem_cons_self)
    refine ⟨cu4, ?_⟩
    obtain ⟨t4, ho4⟩ := exo_at I4.hok ea4
    have hlen4 : us4.length ≤ sizeLine := by
      rw [← Paired.length r4]
      exact Nat.le_of_lt (small1000 hw)
    obtain ⟨h4, g4, d4, tk4, os4⟩ := s4
    refine mw_called (I4.kIn _ _ hC) ho4 cu4 hlen4 fun h5 t5 k5 e5 => ?_
    have I5 := I4.write (t' := tk4) (x := a) (e := a) (o := exo a C none) (by rw [ea4]; exact True.intro) (.inl rfl) k5 ⟨_, e5⟩ (exo_ok e5)
    rw [exo_upd ea4] at I5
    have I6 : Inv (ncx CX P w K mg base N F f A outer s H E) [] (startF N (.ref a :: vr) [some (.ref C)]) H4 ⟨h5, g4, d4, tk4, os4⟩ := ⟨I5.ok, I5.os, I5.bare, I5.base, I5.loc, I5.cell, I5.free, I5.freeC, fun p hp => absurd (show p ∈ ([] : List (Addr × Obj)) ++ [] from hp) (by simp), I5.hok, I5.len⟩
    exact wpAt_of_wpAny (wpAny_mono (hR.run [] _ _ _ _ I6 tr4) (fun fl s' z => fin z) fun _ _ z => z)
end
end Wx

namespace Wx
open PySem PySem.Spec PyProof.Rows L2
/-! a caught exception that is kept behind its except suite -/
/-- at a: an exception of the class cls, its dict d -/
def exv (cls : Value) (d : Option Addr) (a : Addr) : HO := .ext fun h => ∃ (oe : Obj) (vs : Array Value), h.get? a = some oe ∧ Zc cls d oe ∧ oe.data = .fields vs
theorem exv_ok {P : Program} {w : World} {H : Hp} {h : Heap} {a : Addr} {cls : Value} {d : Option Addr} {oe : Obj} {vs : Array Value} (e : h.get? a = some oe) (z : Zc cls d oe) (q : oe.data = .fields vs) : ObjOk P w H h a (exv cls d a) :=
  ⟨⟨oe, vs, e, z, q⟩, ⟨oe, e⟩, fun _ _ ⟨o, v, x, y⟩ k => ⟨o, v, k o x, y⟩⟩
theorem exv_at {P : Program} {w : World} {H : Hp} {h : Heap} {a : Addr} {cls : Value} {d : Option Addr} (x : HOk P w H h) (e : H a = some (exv cls d a)) : ∃ (oe : Obj) (vs : Array Value), h.get? a = some oe ∧ Zc cls d oe ∧ oe.data = .fields vs := by
  have y : ObjOk P w H h a (.ext fun h => ∃ (oe : Obj) (vs : Array Value), h.get? a = some oe ∧ Zc cls d oe ∧ oe.data = .fields vs) := x a _ e
  exact y.1
section
variable {X : Cx} {pins : List (Addr × Obj)} {σ : L2.St} {H : Hp} {s : Shared}
theorem tracked {a : Addr} {oe : Obj} {vs : Array Value} {cls : Value} {d : Option Addr} (J : Inv X ((a, oe) :: pins) σ H s) (n0 : X.s_0.heap.get? a = none) (np : ∀ p, p ∈ X.pn ++ pins → p.1 ≠ a) (hz : Zc cls d oe) (hd : oe.data = .fields vs) :
    Inv X pins σ (upd H a (exv cls d a)) s := by
  obtain ⟨ga, na, nL, nF, nc⟩ := J.pin (a, oe) (List.mem_append_right _ List.mem_cons_self)
  have ga : s.heap.get? a = some oe := ga
  have na : H a = none := na
  have neS : ∀ {b : Addr} {o : HO}, H b = some o → b ≠ a := fun e => ne_of_none e na
  have ne0 : ∀ {b : Addr} {o : Obj}, X.s_0.heap.get? b = some o → b ≠ a := fun {b o} e z => by
    rw [z, n0] at e
    cases e
  refine ⟨J.ok, J.os, J.bare, ⟨J.base.keep, J.base.slot, fun b o e n x => ?_, J.base.there, fun b xs e => ?_, fun b o u e => ?_, fun b ps e => ?_⟩, J.loc, J.cell, ?_, fun y c e => ?_, fun p hp => ?_, fun b u e => ?_, J.len⟩
  · rw [upd_ne (ne0 e)]
    exact J.base.free b o e n x
  · have q := J.base.tups b xs e
    rw [upd_ne (neS q)]
    exact q
  · have q := J.base.frzs b o u e
    rw [upd_ne (neS q)]
    exact q
  · obtain ⟨ms, q⟩ := J.base.tbls b ps e
    exact ⟨ms, by rw [upd_ne (neS q)]; exact q⟩
  · rw [upd_ne (fun z => nL z.symm)]
    exact J.free
  · have nca : c ≠ a := fun z => by
      obtain ⟨v, o, q1, q2⟩ := J.cell y c e
      rw [z, ga] at q1
      cases q1
      exact nc _ q2
    rw [upd_ne nca]
    exact J.freeC y c e
  · have hm : p ∈ X.pn ++ (a, oe) :: pins := by
      rcases List.mem_append.mp hp with z | z
      · exact List.mem_append_left _ z
      · exact List.mem_append_right _ (List.mem_cons_of_mem _ z)
    obtain ⟨q1, q2, q3, q4, q5⟩ := J.pin p hm
    exact ⟨q1, by rw [upd_ne (np p hp)]; exact q2, q3, q4, q5⟩
  · by_cases hb : b = a
    · subst hb
      rw [upd_same] at e
      cases e
      exact exv_ok ga hz hd
    · rw [upd_ne hb] at e
      exact (J.hok b u e).stay (fun _ _ _ q => q) (fun c q => by rw [upd_ne (neS q)]; exact q) fun c xs q => by rw [upd_ne (neS q)]; exact q
end
/-- what 'except x as n: ..' wishes, the exception kept: slot i is n's -/
def wKeep (K : PySem.W.Frag) (c : Value) (i : Nat) (ts : Addr → Value → Option Addr → TS) (Wout : WX) (D : Ends) : WX := fun cls d σ H =>
  ∃ b, PySem.W.exmOne K cls c = some b ∧ (b = true → ∀ a, H a = none → ts a cls d { nx := fun σ1 H1 => D.nx (σ1.set i none) (upd H1 a (exv cls d a)), rt := fun v H1 => D.rt v (upd H1 a (exv cls d a)), bk := fun σ1 H1 => D.bk (σ1.set i none) (upd H1 a (exv cls d a)), ct := fun σ1 H1 => D.ct (σ1.set i none) (upd H1 a (exv cls d a)) } (σ.set i (some (.ref a))) H) ∧
    (b = false → Wout cls d σ H)
section
variable {X : Cx} {x n : Str} {c : Value} {i : Nat} {body suite : List Stmt} {b₀ : Stmt} {np pos pos' : Pos} {tb : WX → TS} {ts : Addr → Value → Option Addr → TS} {Wout : WX}
theorem ps_try_keep (hex : X.ex = []) (stk : X.stack = X.env :: X.outer) (frm : X.env.frame = some X.env.locals) (nd : X.N.Nodup) (atI : X.N[i]? = some n) (lcl : X.env.kindOf n = some .local) (nms : Names X x c) (tko : Takes X Wout)
    (hbody : ∀ (W : WX) (pn : List (Addr × Obj)) (xe : Value → Shared → Prop), Takes (X.tr pn xe) W → PassesOwn (model X.prog X.w) X.A X.env xe → PSs (X.tr pn xe) body (tb W))
    (hsuite : ∀ (a : Addr) (oe : Obj) (cls : Value) (d : Option Addr) (pn : List (Addr × Obj)), Zc cls d oe → (∃ vs, oe.data = .fields vs) → PSs (X.suite a ((a, oe) :: pn)) (b₀ :: suite) (ts a cls d)) :
    PS X (.Try body [.ExceptHandler (some (.Name x np)) (some n) (b₀ :: suite) pos'] [] [] pos) (fun D σ H => tb (wKeep X.K c i ts Wout D) D σ H) := by
  refine ⟨fun pins s σ H D I0 rd => ?_⟩
  have okX := I0.ok
  have frA : X.A.frames = some (X.env :: X.outer) := okX.frames.trans (congrArg some stk)
  have locN : Loc X.env.scope n := Or.inl lcl
  refine wpAny_Try_except (wpAny_mono ((hbody (wKeep X.K c i ts Wout D) (X.pn ++ pins) (fun e s₁ => wpAny (model X.prog X.w) X.A (noteFrame e X.env) (fun _ s₂ => wpAny (model X.prog X.w) X.A (setFlight e none) (fun _ s₃ =>
      wpAny (model X.prog X.w) X.A (handleBy e X.env [.ExceptHandler (some (.Name x np)) (some n) (b₀ :: suite) pos']) (SP X pins D) X.xe s₃) X.xe s₂) X.xe s₁) (fun u s' caught => ?_) PassesOwn.looking).run [] s σ H D (I0.toTry _) rd) (fun fl s1 done => ?_) (fun _ _ z => z))
  · obtain ⟨a, B, sI, pinsT, σT, HT, cls, d, rfl, JT, nb, upT, skyT, naT, osT, agT, b, hcl, hyes, hno⟩ := caught
    have JX : Inv X pins σT HT sI := Inv.ofTry JT okX
    have skyX : Sky B (X.env :: X.outer) a (Zc cls d) X.env.locals s'.heap := stk ▸ skyT
    show wpAny _ X.A (noteFrame (Value.ref a) X.env) _ _ _
    refine Sky.land Zc.steady frA frm skyX (fun hq flq upq => ?_)
    have Jq : Inv X pins σT HT { s' with heap := hq } := JX.landed nb flq.1 (upT.trans upq) osT agT
    obtain ⟨oeq, vsq, heq, hzq, hdq⟩ := flq.there
    have nfr : a ∉ frs (X.env :: X.outer) := fun hm => by
      obtain ⟨_, o', e', nf'⟩ := flq.2.2.1.mem hm
      have z := heq.symm.trans e'
      cases z
      exact nf' _ hdq
    have nLoc : a ≠ X.env.locals := fun z => nfr (List.mem_filterMap.mpr ⟨X.env, List.mem_cons_self, frm.trans (congrArg some z.symm)⟩)
    have nOut : a ∉ X.fs := fun hm => by
      obtain ⟨ev, hev, qv⟩ := List.mem_filterMap.mp hm
      exact nfr (List.mem_filterMap.mpr ⟨ev, List.mem_cons_of_mem _ hev, qv⟩)
    -- the exception is younger than the frame
    have sInone : sI.heap.get? a = none := by
      cases z : sI.heap.get? a with
      | none => rfl
      | some o =>
        have Bn : B.get? a = none := by
          rcases skyX with ⟨_, q, _⟩ | q | q
          · exact q
          · exact q.2.1
          · exact q.2.1
        have y := nb a o z (fun hm => nfr (by rw [← stk]; exact hm))
        rw [Bn] at y
        cases y
    have s0none : X.s_0.heap.get? a = none := by
      cases z : X.s_0.heap.get? a with
      | none => rfl
      | some o =>
        obtain ⟨o2, y⟩ := JX.base.there a o z (by rw [hex]; simp)
        rw [sInone] at y
        cases y
    have pinNe : ∀ p, p ∈ X.pn ++ pins → p.1 ≠ a := fun p hp z => by
      have y := (JX.pin p hp).1
      rw [z, sInone] at y
      cases y
    have Sq := Jq.suite heq hdq naT nLoc nOut
    refine wpAny_handleBy_cons (codeAny_handlers_test ?_) (by rintro ⟨⟩)
    have LTy : PySem.W.Looks (model X.prog X.w) hq (typeOf (.ref a)) cls := fun A Q E s k q => wpAny_typeOf_ref (k _ _ heq) (hzq.1 ▸ q)
    have LEx := PySem.W.exm_one (M := model X.prog X.w) Jq.kIn LTy hcl
    have tst : ∀ {Q : Value → Shared → Prop} {E : Value → Shared → Prop}, Q c { s' with heap := hq } → wpAny (model X.prog X.w) (X.A.mark (some (.ref a))) (eval (.Name x np) X.env) Q E { s' with heap := hq } := fun {Q E} q => by
      obtain ⟨g1, g2, g3 | ⟨g3, g4, g5⟩⟩ := nms
      · exact ld_glob (X := X.suite a ((a, oeq) :: (X.pn ++ pins))) Sq g1 g3 q g2
      · exact ld_blt (X := X.suite a ((a, oeq) :: (X.pn ++ pins))) Sq g1 g3 g4 q g5 g2
    refine tst (LEx.here ?_)
    cases b with
    | true =>
      refine codeAny_handlers_suite_as (HandSPX.lands_againZ flq fun hr flr upr => ?_)
      have Jr : Inv X pins σT HT { s' with heap := hr } := JX.landed nb flr.1 ((upT.trans upq).trans upr) osT agT
      obtain ⟨oer, vsr, her, hzr, hdr⟩ := flr.there
      have Sr := Jr.suite her hdr naT nLoc nOut
      refine store_ok (X := X.suite a ((a, oer) :: (X.pn ++ pins))) (v := V.ref a) Sr nd atI locN rfl (fun s5 S5 => ?_) (Or.inr lcl)
      refine wpAny_mono ((hsuite a oer cls d (X.pn ++ pins) hzr ⟨_, hdr⟩).run [] s5 _ HT _ S5 (hyes rfl a naT)) (fun fl s6 out => ?_) (fun _ _ z => z.elim)
      have leave : ∀ {σ6 : L2.St} {H6 : Hp} {Q : Shared → Prop}, Inv (X.suite a ((a, oer) :: (X.pn ++ pins))) [] σ6 H6 s6 → (∀ s7, Inv X pins (σ6.set i none) (upd H6 a (exv cls d a)) s7 → Q s7) →
          wpAny (model X.prog X.w) X.A (do bindName X.env n .none; unbindBehindTheSuite X.env n pos') (fun _ s7 => Q s7) X.xe s6 := fun {σ6 H6 Q} S6 hQ => by
        have S7 : Inv X ((a, oer) :: pins) σ6 H6 s6 := ⟨okX, S6.os, S6.bare, S6.base, S6.loc, S6.cell, S6.free, S6.freeC, fun p hp => S6.pin p (by
          rw [List.append_nil]
          rcases List.mem_append.mp hp with z | z
          · exact List.mem_cons_of_mem _ (List.mem_append_left _ z)
          · rcases List.mem_cons.mp z with y | y
            · rw [y]
              exact List.mem_cons_self
            · exact List.mem_cons_of_mem _ (List.mem_append_right _ y)), S6.hok, S6.len⟩
        exact gone_ok S7 nd atI lcl fun s7 J7 => hQ s7 (tracked J7 s0none pinNe hzr hdr)
      cases fl with
      | next =>
        obtain ⟨σ6, H6, S6, q6⟩ := out
        exact leave S6 fun s7 J7 => ⟨_, _, J7, q6⟩
      | brk =>
        obtain ⟨σ6, H6, S6, q6⟩ := out
        exact leave S6 fun s7 J7 => ⟨_, _, J7, q6⟩
      | cont =>
        obtain ⟨σ6, H6, S6, q6⟩ := out
        exact leave S6 fun s7 J7 => ⟨_, _, J7, q6⟩
      | ret u =>
        obtain ⟨v6, σ6, H6, S6, r6, q6⟩ := out
        exact leave S6 fun s7 J7 => ⟨_, _, _, J7, r6, q6⟩
    | false =>
      show wpAny _ X.A (handleBy (Value.ref a) X.env []) _ _ _
      refine wpAny_handleBy_nil ?_
      obtain ⟨z1, z2, z3, oe, vs, T1, oT1, tsT, he, hz, hd, h1, hr1⟩ := id flq
      unfold PySem.passOn
      refine wpAny_bind (wpAny_field he hd h1 ?_)
      rw [if_neg (show ¬ ((Value.ref T1 == Value.none) = true) by simp)]
      have fin : wpAny (model X.prog X.w) X.A (setFlight (.ref a) X.env.frame) (fun _ s4 => wpAny (model X.prog X.w) X.A (throw (.ref a) : Sem Flow) (SP X pins D) X.xe s4) X.xe { s' with heap := hq } := by
        rw [frm]
        exact HandSPX.setFlight_upZ flq fun h4 hh4 up4 => wpAny_throw (tko _ _ ⟨a, B, sI, pins, σT, HT, cls, d, rfl, JX, nb, (upT.trans upq).trans up4, .inr (.inr (by rw [stk]; exact hh4)), naT, osT, agT, hno rfl⟩)
      first
        | exact wpAny_bind (wpAny_pure (wpAny_bind fin))
        | exact wpAny_bind fin
  · cases fl with
    | next =>
      obtain ⟨σ1, H1, J1, q1⟩ := done
      exact wpAny_execs_nil ⟨σ1, H1, J1.ofTry okX, q1⟩
    | brk =>
      obtain ⟨σ1, H1, J1, q1⟩ := done
      exact ⟨σ1, H1, J1.ofTry okX, q1⟩
    | cont =>
      obtain ⟨σ1, H1, J1, q1⟩ := done
      exact ⟨σ1, H1, J1.ofTry okX, q1⟩
    | ret u =>
      obtain ⟨v1, σ1, H1, J1, r1, q1⟩ := done
      exact ⟨v1, σ1, H1, J1.ofTry okX, r1, q1⟩
end
end Wx

namespace Wx
open PySem PySem.Spec PyProof.Rows L2 NdefX
section
variable {X : Cx}
/-- e.n, e a kept exception of an own class -/
def tEv (K : PySem.W.Frag) (n : Str) (te : TE) : TE := fun σ H Q => te σ H fun x H1 => ∃ (a C dd : Addr) (fs : List (Str × V)) (v : V), x = .ref a ∧ XfC K C ∧ PySem.W.findIn K (.ref C) n = some none ∧ H1 a = some (exv (.ref C) (some dd) a) ∧ H1 dd = some (.xd fs) ∧ fs.lookup n = some v ∧ Q v H1
theorem pe_ev {e : Expr} {te : TE} {pos : Pos} {n : Str} (he : PE X e te) (hb : attributeBase e n X.env (eval e X.env) = eval e X.env := by rfl) : PE X (.Attribute e n pos) (tEv X.K n te) := by
  refine ⟨fun pins s σ H Q I h => attr_of hb (thn (he.run pins s σ H _ I h) fun u s1 got => ?_)⟩
  obtain ⟨x, H1, I1, rx, a, C, dd, fs, v, ex, T, hno, ea, ed, hl, q⟩ := got
  subst ex
  obtain rfl : u = Value.ref a := rx
  obtain ⟨oe, vs, ga, hz, hd⟩ := exv_at I1.hok ea
  obtain ⟨mA, hns, hr⟩ : ObjOk X.prog X.w H1 s1.heap dd (.xd fs) := I1.hok dd _ ed
  obtain ⟨od, ho, hlk⟩ := lookIn_ns hns
  obtain ⟨u, hu, ru⟩ := RelO.some_of (v := v) (o := mA n) (by rw [← hl]; exact hr n)
  have inst : PySem.W.InstAt s1.heap a oe C (some od) := ⟨ga, hz.1, by unfold PySem.W.notCls; rw [hd] <;> rfl, by rw [hz.2]; exact ho⟩
  exact HandSPX.exc_get I1.kIn inst T.ga T.gg T.exC (PySem.W.findObj_own T.hdC hno rfl (by rw [hlk, hu])) (handed_of ru) ⟨v, H1, I1.tok _, ru, q⟩
/-- isinstance(e, c), e a kept exception of an own class -/
def rIsX (K : PySem.W.Frag) : List V → Hp → VK → Prop := fun xs H Q => ∃ (a C : Addr) (d : Option Addr) (c : V) (u : Value) (b : Bool), xs = [.ref a, c] ∧ ClsV c u ∧ ExcC K C ∧ H a = some (exv (.ref C) d a) ∧ (∀ dd, d = some dd → ∃ fs, H dd = some (.xd fs)) ∧ PySem.W.kitOne K (.ref C) u = some b ∧ Q (.bl b) H
theorem call_isX : CallR X (.builtin "isinstance") (rIsX X.K) := by
  intro pins s σ H xs us Q I r h
  obtain ⟨a, C, d, c, u, b, rfl, hc, T, ea, hd, hk, q⟩ := h
  cases r with
  | cons r1 r2 =>
    cases r2 with
    | cons r3 r4 =>
      cases r4
      cases r1
      have eu := hc.eq r3
      subst eu
      obtain ⟨oe, vs, ga, hz, hf⟩ := exv_at I.hok ea
      have inst : ∃ od, PySem.W.InstAt s.heap a oe C od := by
        cases d with
        | none => exact ⟨none, ga, hz.1, by unfold PySem.W.notCls; rw [hf] <;> rfl, by rw [hz.2]; trivial⟩
        | some dd =>
          obtain ⟨fs, ed⟩ := hd dd rfl
          obtain ⟨mA, hns, _⟩ : ObjOk X.prog X.w H s.heap dd (.xd fs) := I.hok dd _ ed
          obtain ⟨od, ho, _⟩ := lookIn_ns hns
          exact ⟨some od, ga, hz.1, by unfold PySem.W.notCls; rw [hf] <;> rfl, by rw [hz.2]; exact ho⟩
      obtain ⟨od, inst⟩ := inst
      have hcl : (PySem.W.clsIn X.K C).isSome = true := by
        obtain ⟨cd, hcd, _⟩ := PySem.W.any_some T.hd
        rw [hcd]
        rfl
      exact PySem.W.kia_one (PySem.W.kitx_exc hcl T.hg T.hk T.hs T.ha T.hn T.ht T.hm) I.kIn inst hk (fun z => nomatch z) fun tk => ⟨.bl b, H, I.kept (t' := tk) fun _ _ z => z, rfl, q⟩
theorem call_repr_str : CallR X (.builtin "repr") (fun xs H Q => ∃ z, xs = [.str z] ∧ (reprText z).length ≤ sizeLine ∧ Q (.str (reprText z)) H) := by
  intro pins s σ H xs us Q I r h
  obtain ⟨z, rfl, hz, q⟩ := h
  obtain ⟨u, rfl, t, rfl⟩ := vals1 r
  exact PySem.P.repr_of_str ⟨.str (reprText z), H, I.tok _, ⟨_, rfl⟩, q⟩ hz
end
/-! ### what the errors' modules promise -/
/-- a value that a message can show -/
def ShowOk (x : V) : Prop := (∃ z, x = .str z ∧ (reprText z).length ≤ 20000) ∨ (∃ i, x = .int i) ∨ x = .non
def sp_shown : Sp := fun vs H Q _ => ∃ x, vs = [x] ∧ ShowOk x ∧ ∀ y : Str, y.length ≤ 20000 → Q (.str y) H
/-- __init__ of an own error: the object at a gets a dict of these fields -/
def InitLeaves (H : Hp) (a C : Addr) (fs : List (Str × V)) (Q : VK) : Prop := ∀ (dx : Addr) (H' : Hp), H dx = none → (∀ b o, b ≠ a → H b = some o → H' b = some o) → H' a = some (exo a C (some dx)) → H' dx = some (exd dx fs) → Q .non H'
def spBadNumber (C : Addr) : Sp := fun vs H Q _ => ∃ (a : Addr) (z : Str) (v : V), vs = [.ref a, .str z, v] ∧ H a = some (exo a C none) ∧ z.length ≤ 1000 ∧ ShowOk v ∧ InitLeaves H a C [("value", v), ("what", .str z)] Q
def spBadName (C : Addr) : Sp := fun vs H Q _ => ∃ (a : Addr) (v : V), vs = [.ref a, v] ∧ H a = some (exo a C none) ∧ ShowOk v ∧ InitLeaves H a C [("name", v)] Q
/-- all that is asked of an own error class -/
structure ErrC (P : Program) (K : PySem.W.Frag) (mg : Str → Option Value) (x qual : Str) (C f cda cc : Addr) : Prop where
  g : mg x = some (.ref C)
  sup : SupTxt P K mg C cda cc qual
  ini : PySem.W.findIn K (.ref C) "__init__" = some (some (.ref f))
  tyI : PySem.W.typeIn K (.ref f) = some (.type "function")
  xf : XfC K C
  isx : ExcC K C
  exm : PySem.W.exmOne K (.ref C) (.ref C) = some true
  noWhat : PySem.W.findIn K (.ref C) "what" = some none
  noValue : PySem.W.findIn K (.ref C) "value" = some none
  noName : PySem.W.findIn K (.ref C) "name" = some none
  noTurn : PySem.W.findIn K (.ref C) "turn" = some none
theorem init_leaves2 {H : Hp} {a C : Addr} {f1 f2 : Str} {v1 v2 : V} {Q : VK} (ha : H a = some (exo a C none)) (k : InitLeaves H a C [(f2, v2), (f1, v1)] Q) {dx : Addr} (nd : H dx = none) (ne : dx ≠ a) :
    Q .non (upd (upd (upd H dx (exd dx [(f1, v1)])) a (exo a C (some dx))) dx (exd dx [(f2, v2), (f1, v1)])) := by
  refine k dx _ nd (fun b o nb e => ?_) ?_ upd_same
  · have nbd : b ≠ dx := ne_of_none e nd
    rw [upd_ne nbd, upd_ne nb, upd_ne nbd]
    exact e
  · rw [upd_ne (Ne.symm ne)]
    exact upd_same
theorem init_leaves1 {H : Hp} {a C : Addr} {f1 : Str} {v1 : V} {Q : VK} (k : InitLeaves H a C [(f1, v1)] Q) {dx : Addr} (nd : H dx = none) (ne : dx ≠ a) : Q .non (upd (upd H dx (exd dx [(f1, v1)])) a (exo a C (some dx))) := by
  refine k dx _ nd (fun b o nb e => ?_) upd_same ?_
  · rw [upd_ne nb, upd_ne (ne_of_none e nd)]
    exact e
  · rw [upd_ne ne]
    exact upd_same
/-- C(..) made: its promise by what __init__ leaves; the exception itself goes, its dict stays -/
theorem made_of {H1 : Hp} {a C : Addr} {fs : List (Str × V)} {Q : XK} (na : H1 a = none) (k : ∀ (d : Addr) (H' : Hp), H1 d = none → Same H1 H' → H' d = some (.xd fs) → Q (.ref C) (some d) H') :
    InitLeaves (upd H1 a (exo a C none)) a C fs (fun v H2 => v = .non ∧ ∃ (d : Addr) (gs : List (Str × V)), H2 a = some (exo a C (some d)) ∧ H2 d = some (exd d gs) ∧ H1 d = none ∧ Q (.ref C) (some d) (upd (del H2 a) d (.xd gs))) := fun dx H' nd keep ha hd => by
  have nda : dx ≠ a := fun z => by
    rw [z, upd_same] at nd
    cases nd
  have nd1 : H1 dx = none := by
    rw [upd_ne nda] at nd
    exact nd
  refine ⟨rfl, dx, fs, ha, hd, nd1, k dx _ nd1 (fun b o e => ?_) upd_same⟩
  have nba : b ≠ a := ne_of_none e na
  rw [upd_ne (ne_of_none e nd1), del_ne nba]
  exact keep b o nba (by rw [upd_ne nba]; exact e)
end Wx

namespace Wb
open PySem PySem.Spec PyProof.Rows L2 Wx NdefX
def top (i : Nat) : Stmt := PySem.Challenge.pw_waterbyturns_k02_read_number.main.body.getD i (.Pass ⟨0, 0, 0, 0⟩)
/-! ### a def that stands, by its name: what a caller needs -/
structure Cal (P : Program) (w : World) (K : PySem.W.Frag) (mg : Str → Option Value) (base : Heap) (name : Str) (ps : List Str) (k : Nat) (sp : Sp) : Prop where
  mk0 ::
  ex : ∃ (g : Addr) (gd : FuncData), FnOk P w K mg base CX0 k g gd ps sp ∧ mg name = some (.ref g) ∧ PySem.W.keepIn K (.ref g) = true ∧ Binds K gd ps []
/-! ### frames -/
/-- what is tracked outside xs stays -/
def Frm (xs : List Addr) (H H' : Hp) : Prop := ∀ b o, ¬ b ∈ xs → H b = some o → H' b = some o
theorem Frm.refl (xs : List Addr) (H : Hp) : Frm xs H H := fun _ _ _ h => h
theorem Frm.trans {xs : List Addr} {H H1 H2 : Hp} (a : Frm xs H H1) (b : Frm xs H1 H2) : Frm xs H H2 := fun c o n h => b c o n (a c o n h)
theorem Frm.of_same {xs : List Addr} {H H' : Hp} (a : Same H H') : Frm xs H H' := fun b o _ h => a b o h
theorem Frm.mono {xs ys : List Addr} {H H' : Hp} (a : Frm xs H H') (h : ∀ b, b ∈ xs → b ∈ ys) : Frm ys H H' := fun b o n e => a b o (fun m => n (h b m)) e
theorem Frm.put {xs : List Addr} {H : Hp} {a : Addr} {o : HO} (m : a ∈ xs) : Frm xs H (upd H a o) := fun b p n e => by
  rw [upd_ne (fun q => n (by rw [q]; exact m))]
  exact e
theorem Same.new {H : Hp} {a : Addr} {o : HO} (n : H a = none) : Same H (upd H a o) := fun b p e => by
  rw [upd_ne (ne_of_none e n)]
  exact e
theorem Frm.new {xs : List Addr} {H : Hp} {a : Addr} {o : HO} (n : H a = none) : Frm xs H (upd H a o) := Frm.of_same (Same.new n)
theorem Frm.same {H H' : Hp} (a : Frm [] H H') : Same H H' := fun b o e => a b o (by simp) e
/-- an address that was new and may change behind its making is no part of the frame of what was there before -/
theorem Frm.drop {x : Addr} {xs : List Addr} {H0 H1 H2 : Hp} (n : H0 x = none) (a : Frm xs H0 H1) (b : Frm (x :: xs) H1 H2) : Frm xs H0 H2 := fun c o nc e => by
  refine b c o ?_ (a c o nc e)
  intro m
  rcases List.mem_cons.mp m with q | q
  · rw [q] at e
    rw [n] at e
    cases e
  · exact nc q
theorem Frm.none {xs : List Addr} {H H' : Hp} (a : Frm xs H H') {l : Addr} (nl : ¬ l ∈ xs) (h : H' l = Option.none) : H l = Option.none := by
  cases q : H l with
  | none => rfl
  | some o =>
    have := a l o nl q
    rw [this] at h
    cases h
/-- the heap without xs -/
def hid (xs : List Addr) (H : Hp) : Hp := fun b => if b ∈ xs then none else H b
theorem hid_same (xs : List Addr) (H : Hp) : Same (hid xs H) H := fun b o e => by
  unfold hid at e
  split at e
  · cases e
  · exact e
theorem hid_frm {xs : List Addr} {H H' : Hp} (a : Frm xs H H') : Same (hid xs H) (hid xs H') := fun b o e => by
  unfold hid at e ⊢
  split at e
  · cases e
  · rename_i n
    rw [if_neg n]
    exact a b o n e
theorem hid_eq {xs : List Addr} {H : Hp} {b : Addr} (n : ¬ b ∈ xs) : hid xs H b = H b := if_neg n
theorem hid_mono {xs ys : List Addr} {H : Hp} (h : ∀ b, b ∈ xs → b ∈ ys) : Same (hid ys H) (hid xs H) := fun b o e => by
  unfold hid at e ⊢
  split at e
  · cases e
  · rename_i n
    rw [if_neg (fun m => n (h b m))]
    exact e
theorem hid_nil (H : Hp) : hid [] H = H := by
  funext b
  exact if_neg (by simp)
theorem rd_same {H H' : Hp} (s : Same H H') {a : Addr} {o : HO} (h : Rd H a o) : Rd H' a o := by
  rcases h with h | ⟨x, h⟩
  · exact .inl (s _ _ h)
  · exact .inr ⟨x, s _ _ h⟩
theorem seqT {K : PySem.W.Frag} {H H' : Hp} {a : Addr} {xs : List V} (s : Same H H') (h : SqT K H a xs) : SqT K H' a xs := h.imp (rd_same s) id
/-! data in the heap, seen from a larger heap -/
mutual
theorem dp_same {K : PySem.W.Frag} {H H' : Hp} (s : Same H H') : ∀ {v : V} {d : PyData}, Dp K H v d → Dp K H' v d
  | _, _, .non => .non
  | _, _, .bl b => .bl b
  | _, _, .int i => .int i
  | _, _, .str x => .str x
  | _, _, .lst h r => .lst (s.seq h) (dpAll_same s r)
  | _, _, .tup h r => .tup (seqT s h) (dpAll_same s r)
theorem dpAll_same {K : PySem.W.Frag} {H H' : Hp} (s : Same H H') : ∀ {v : List V} {d : List PyData}, DpAll K H v d → DpAll K H' v d
  | _, _, .nil => .nil
  | _, _, .cons a b => .cons (dp_same s a) (dpAll_same s b)
end
theorem dpAll_get {K : PySem.W.Frag} {H : Hp} : ∀ {vs : List V} {ds : List PyData}, DpAll K H vs ds → ∀ {i : Nat} {v : V}, vs[i]? = some v → ∃ d, ds[i]? = some d ∧ Dp K H v d
  | _, _, .nil, i, v, h => by simp at h
  | _, _, .cons a b, 0, v, h => by
    have e := Option.some.inj h
    subst e
    exact ⟨_, rfl, a⟩
  | _, _, .cons a b, i + 1, v, h => dpAll_get b (i := i) h
theorem dpAll_len {K : PySem.W.Frag} {H : Hp} : ∀ {vs : List V} {ds : List PyData}, DpAll K H vs ds → vs.length = ds.length
  | _, _, .nil => rfl
  | _, _, .cons _ b => congrArg (· + 1) (dpAll_len b)
theorem dpAll_snoc {K : PySem.W.Frag} {H : Hp} : ∀ {vs : List V} {ds : List PyData} {v : V} {d : PyData}, DpAll K H vs ds → Dp K H v d → DpAll K H (vs ++ [v]) (ds ++ [d])
  | _, _, _, _, .nil, h => .cons h .nil
  | _, _, _, _, .cons a b, h => .cons a (dpAll_snoc b h)
theorem dpAll_ints {K : PySem.W.Frag} {H : Hp} : ∀ (l : List Int), DpAll K H (l.map V.int) (l.map PyData.int)
  | [] => .nil
  | i :: l => .cons (.int i) (dpAll_ints l)
theorem dpAll_ints_eq {K : PySem.W.Frag} {H : Hp} : ∀ {l : List Int} {vs : List V}, DpAll K H vs (l.map PyData.int) → vs = l.map V.int
  | [], _, .nil => rfl
  | i :: l, _, .cons (.int _) b => congrArg (V.int i :: ·) (dpAll_ints_eq b)
/-- o[i] of a list, for o[i] += e -/
theorem get_list {X : Cx} : PGet X (fun o i H Q => ∃ p xs k z, o = .ref p ∧ i = .int k ∧ SqL X.K H p xs ∧ 0 ≤ k ∧ xs[k.toNat]? = some z ∧ Q z H) := by
  intro pins s σ H o i ov iv Q I ro ri h
  obtain ⟨p, xs, k, z, rfl, rfl, hq, h0, hz, q⟩ := h
  cases ro
  obtain ⟨t, rfl⟩ := ri
  obtain ⟨its, r, pl, hs⟩ := I.list hq
  obtain ⟨w, ew, rw'⟩ := r.get hz
  have hl := r.length
  have hn := line63
  have hlt : k.toNat < xs.length := (List.getElem?_eq_some_iff.mp hz).1
  exact wpAny_getItem_list pl.isList h0 (by omega) (by simpa using ew) ⟨z, H, I, rw', q⟩
def rListOf (K : PySem.W.Frag) : List V → Hp → VK → Prop := fun xs H Q => ∃ p ys, xs = [.ref p] ∧ (SqL K H p ys ∨ SqT K H p ys) ∧ ∀ l, H l = none → Q (.ref l) (upd H l (.lst ys))
def rLenSeq (K : PySem.W.Frag) : List V → Hp → VK → Prop := fun xs H Q => ∃ p ys, xs = [.ref p] ∧ (SqL K H p ys ∨ SqT K H p ys) ∧ Q (.int ys.length) H
theorem Cal.mk {P : Program} {w : World} {K : PySem.W.Frag} {mg : Str → Option Value} {base : Heap} {name : Str} {ps : List Str} {k : Nat} {sp : Sp} {g : Addr} {gd : FuncData} (G : FnOk P w K mg base CX0 k g gd ps sp) (m : mg name = some (.ref g)) (kp : PySem.W.keepIn K (.ref g) = true) (b : Binds K gd ps []) : Cal P w K mg base name ps k sp := .mk0 ⟨g, gd, G, m, kp, b⟩
abbrev s_shown : Stmt := top 1
abbrev N_shown : List Str := ["value"]
abbrev P_shown : List Str := ["value"]
theorem sc_shown : FnScope N_shown P_shown (defScope s_shown) := ⟨rfl, rfl, rfl, by decide +kernel, rfl, by decide +kernel, by decide +kernel⟩
abbrev sBadNumber___init__ : Stmt := inClass (top 4) 0
abbrev NBadNumber___init__ : List Str := ["self", "what", "value", "__class__"]
abbrev PBadNumber___init__ : List Str := ["self", "what", "value"]
theorem scBadNumber___init__ : NScope NBadNumber___init__ PBadNumber___init__ ["__class__"] (defScope sBadNumber___init__) := nscope_by (by decide +kernel)
abbrev sread_number : Stmt := top 8
abbrev Nread_number : List Str := ["text"]
abbrev Pread_number : List Str := ["text"]
theorem scread_number : FnScope Nread_number Pread_number (defScope sread_number) := ⟨rfl, rfl, rfl, by decide +kernel, rfl, by decide +kernel, by decide +kernel⟩
abbrev s_is_number : Stmt := top 9
abbrev N_is_number : List Str := ["text", "letter"]
abbrev P_is_number : List Str := ["text"]
theorem sc_is_number : FnScope N_is_number P_is_number (defScope s_is_number) := ⟨rfl, rfl, rfl, by decide +kernel, rfl, by decide +kernel, by decide +kernel⟩
abbrev s_law_start : Stmt := top 11
abbrev N_law_start : List Str := ["script", "first"]
abbrev P_law_start : List Str := ["script"]
theorem sc_law_start : FnScope N_law_start P_law_start (defScope s_law_start) := ⟨rfl, rfl, rfl, by decide +kernel, rfl, by decide +kernel, by decide +kernel⟩
abbrev s_law_draw : Stmt := top 12
abbrev N_law_draw : List Str := ["script", "state", "limit", "number", "cell", "mixed"]
abbrev P_law_draw : List Str := ["script", "state", "limit"]
theorem sc_law_draw : FnScope N_law_draw P_law_draw (defScope s_law_draw) := ⟨rfl, rfl, rfl, by decide +kernel, rfl, by decide +kernel, by decide +kernel⟩
abbrev s_law_is_integer : Stmt := top 13
abbrev N_law_is_integer : List Str := ["actual"]
abbrev P_law_is_integer : List Str := ["actual"]
theorem sc_law_is_integer : FnScope N_law_is_integer P_law_is_integer (defScope s_law_is_integer) := ⟨rfl, rfl, rfl, by decide +kernel, rfl, by decide +kernel, by decide +kernel⟩
abbrev s_law_due : Stmt := top 14
abbrev N_law_due : List Str := ["text", "number", "sign", "at"]
abbrev P_law_due : List Str := ["text"]
theorem sc_law_due : FnScope N_law_due P_law_due (defScope s_law_due) := ⟨rfl, rfl, rfl, by decide +kernel, rfl, by decide +kernel, by decide +kernel⟩
abbrev s_law_holds : Stmt := top 15
abbrev N_law_holds : List Str := ["text", "told", "fell", "e", "due"]
abbrev P_law_holds : List Str := ["text"]
theorem sc_law_holds : FnScope N_law_holds P_law_holds (defScope s_law_holds) := ⟨rfl, rfl, rfl, by decide +kernel, rfl, by decide +kernel, by decide +kernel⟩
abbrev slaw : Stmt := top 16
abbrev Nlaw : List Str := ["script", "state", "text", "k", "odd", "at", "case"]
abbrev Plaw : List Str := ["script"]
theorem sclaw : FnScope Nlaw Plaw (defScope slaw) := ⟨rfl, rfl, rfl, by decide +kernel, rfl, by decide +kernel, by decide +kernel⟩
/-- what the top has written -/
structure Txt (K : PySem.W.Frag) (mg : Str → Option Value) : Prop where
  b_len : mg "len" = none
  b_abs : mg "abs" = none
  b_int : mg "int" = none
  b_bool : mg "bool" = none
  b_str : mg "str" = none
  b_range : mg "range" = none
  b_all : mg "all" = none
  b_isinstance : mg "isinstance" = none
  b_repr : mg "repr" = none
  b_super : mg "super" = none
  c__LONGEST_NUMBER : ∃ t, mg "_LONGEST_NUMBER" = some (.int 4 t)
  c__DIGITS : ∃ t, mg "_DIGITS" = some (.str "0123456789" t)
end Wb

namespace Wb
open PySem PySem.Spec PyProof.Rows L2 Wx NdefX
section
variable {P : Program} {w : World} {K : PySem.W.Frag} {mg : Str → Option Value} {base : Heap}

/-- a state: four ints -/
def St4 (H : Hp) (a : Addr) : Prop := ∃ i j k l : Int, H a = some (.lst [.int i, .int j, .int k, .int l])
/-- the script at a and the state at s -/
def Scr (K : PySem.W.Frag) (H : Hp) (a s : Addr) : Prop := (∃ ns : List Int, SqL K (hid [s] H) a (ns.map V.int) ∧ ns.length ≤ 63) ∧ St4 H s
theorem Frm.put' {xs : List Addr} {H H1 : Hp} {a : Addr} {o : HO} (f : Frm xs H H1) (m : a ∈ xs) : Frm xs H (upd H1 a o) := f.trans (Frm.put m)
theorem Scr.frm {K : PySem.W.Frag} {H H' : Hp} {a s : Addr} (h : Scr K H a s) (f : Frm [s] H H') (q : St4 H' s) : Scr K H' a s := by
  obtain ⟨⟨ns, h1, h2⟩, _⟩ := h
  exact ⟨⟨ns, (hid_frm f).seq h1, h2⟩, q⟩
/-- what else is made or changed is not the state -/
theorem Scr.same {K : PySem.W.Frag} {H H' : Hp} {a s : Addr} (h : Scr K H a s) (f : Same H H') : Scr K H' a s := by
  obtain ⟨i, j, k, l, e⟩ := h.2
  exact h.frm (Frm.of_same f) ⟨i, j, k, l, f _ _ e⟩
theorem Scr.ne {K : PySem.W.Frag} {H : Hp} {a s p : Addr} (h : Scr K H a s) (n : H p = none) : ¬ p = s := by
  rintro rfl
  obtain ⟨_, _, _, _, e⟩ := h.2
  rw [n] at e
  cases e
theorem Scr.made {K : PySem.W.Frag} {H : Hp} {a p : Addr} {ns : List Int} (hS : SqL K H a (ns.map V.int)) (hl : ns.length ≤ 63) (n : H p = none) {i j k l : Int} : Scr K (upd H p (.lst [.int i, .int j, .int k, .int l])) a p := by
  refine ⟨⟨ns, Same.seq (H := H) (fun b o e => ?_) hS, hl⟩, i, j, k, l, upd_same⟩
  have nb : b ≠ p := ne_of_none e n
  rw [hid_eq (by simpa using nb), upd_ne nb]
  exact e
theorem ints_at {ns : List Int} {i : Int} (h0 : 0 ≤ i) (h1 : i < ns.length) : ∃ z : Int, atI (ns.map V.int) i = some (.int z) := by
  obtain ⟨j, rfl⟩ : ∃ j : Nat, i = (j : Int) := ⟨i.toNat, by omega⟩
  have hj : j < ns.length := by omega
  exact ⟨ns[j], atI_nat (by simp [hj])⟩
theorem fmod0 {a b : Int} (h : 0 < b) : 0 ≤ a.fmod b := by
  rw [Int.fmod_eq_emod_of_nonneg _ (by omega)]
  exact Int.emod_nonneg _ (by omega)
theorem fmod1 {a b : Int} (h : 0 < b) : a.fmod b < b := by
  rw [Int.fmod_eq_emod_of_nonneg _ (by omega)]
  exact Int.emod_lt_of_pos _ h
def sp_law_start (K : PySem.W.Frag) : Sp := fun vs H Q _ => ∃ (a : Addr) (ns : List Int), vs = [.ref a] ∧ SqL K H a (ns.map V.int) ∧ ns.length ≤ 63 ∧ ∀ p H', Same H H' → H p = none → Scr K H' a p → Q (.ref p) H'
def sp_law_draw (K : PySem.W.Frag) : Sp := fun vs H Q _ => ∃ (a s : Addr) (n : Int), vs = [.ref a, .ref s, .int n] ∧ Scr K H a s ∧ 0 < n ∧ n < 1073741824 ∧ ∀ (r : Int) (H' : Hp), 0 ≤ r → r < n → Frm [s] H H' → Scr K H' a s → Q (.int r) H'

theorem ok_law_start {f : Addr} {fd : FuncData} (F : Fun K "_law_start" "_law_start" s_law_start f fd) (T : Txt K mg) : FnOk P w K mg base CX0 1 f fd P_law_start (sp_law_start K) := by
  refine F.ok sc_law_start (fun vs H Q E h => ?_) (fun cdv A outer s H vs Q E hr h => ?_)
  · obtain ⟨a, ns, rfl, hS, hlen, k⟩ := h
    rfl
  · obtain ⟨a, ns, rfl, hS, hlen, k⟩ := h
    refine ⟨_, (pss_cons (ps_set (i := 1) sc_law_start.nd rfl (by first | exact Or.inl rfl | exact Or.inr rfl) pe_int)
  (pss_cons (ps_if (pt_cmpR op_gt (pe_callB call_len_seq (by rfl) T.b_len PySem.boot_len (pa_cons (pv 0) pa_nil)) pe_int (nomark _))
  (pss_one (ps_set (i := 1) sc_law_start.nd rfl (by first | exact Or.inl rfl | exact Or.inr rfl) (pe_ix ix_list (pv 0) pe_int (fun _ _ => rfl))))
  pss_nil)
  (pss_one (ps_ret (pe_lst (pa_cons (pe_callB (id := "abs") call_abs (by rfl) T.b_abs (by decide +kernel) (pa_cons (pe_callTy (T := "int") call_int1 (by rfl) T.b_int (by decide +kernel) (pa_cons (pv 1) pa_nil)) pa_nil)) (pa_cons (pe_callTy (T := "int") call_int1 (by rfl) T.b_int (by decide +kernel) (pa_cons (pe_cmpR op_ge (pe_callB (id := "abs") call_abs (by rfl) T.b_abs (by decide +kernel) (pa_cons (pe_callTy (T := "int") call_int1 (by rfl) T.b_int (by decide +kernel) (pa_cons (pv 1) pa_nil)) pa_nil)) (pe_op op_pow pe_int pe_int) (nomark _)) pa_nil)) (pa_cons pe_int (pa_cons pe_int pa_nil))))))))), ?_⟩
    refine ⟨_, rfl, a, _, rfl, .inl hS, _, _, rfl, rfl, _, rfl, ?_⟩
    refine ite2 (fun c => ?_) (fun c => ?_)
    · have hp : (0 : Int) < ns.length := by simpa using of_decide_eq_true c
      obtain ⟨z, hz⟩ := ints_at (ns := ns) (i := 0) (by omega) hp
      refine ⟨_, rfl, a, _, _, _, rfl, rfl, hS, hz, ?_⟩
      refine ⟨_, rfl, .inl ⟨_, rfl, _, rfl, _, rfl, .inl ⟨_, rfl, _, rfl, _, _, rfl, rfl, ⟨by decide, by decide, by decide⟩, _, _, rfl, rfl, .inr ⟨_, rfl, (by show 4 ≤ sizeLine; decide), fun l hl => k _ _ (Same.new hl) hl (Scr.made hS hlen hl)⟩⟩⟩⟩
    · refine ⟨_, rfl, .inl ⟨_, rfl, _, rfl, _, rfl, .inl ⟨_, rfl, _, rfl, _, _, rfl, rfl, ⟨by decide, by decide, by decide⟩, _, _, rfl, rfl, .inr ⟨_, rfl, (by show 4 ≤ sizeLine; decide), fun l hl => k _ _ (Same.new hl) hl (Scr.made hS hlen hl)⟩⟩⟩⟩

theorem ok_law_draw {f : Addr} {fd : FuncData} (F : Fun K "_law_draw" "_law_draw" s_law_draw f fd) (T : Txt K mg) : FnOk P w K mg base CX0 1 f fd P_law_draw (sp_law_draw K) := by
  refine F.ok sc_law_draw (fun vs H Q E h => ?_) (fun cdv A outer s H vs Q E hr h => ?_)
  · obtain ⟨a, s0, n, rfl, hScr, n0, n1, k⟩ := h
    rfl
  · obtain ⟨a, s0, n, rfl, hScr, n0, n1, k⟩ := h
    refine ⟨_, (pss_cons (ps_asg (pe_op op_add (pe_ix ix_list (pv 1) pe_int (fun _ _ => rfl)) pe_int) (pg_sub (pv 1) pe_int set_list))
  (pss_cons (ps_if (PW.pt (pw_and (pt_cmpR op_eq (pe_ix ix_list (pv 1) pe_int (fun _ _ => rfl)) pe_int (nomark _)) (pw_and1 (pt_cmpR op_gt (pe_ix ix_list (pv 1) pe_int (fun _ _ => rfl)) pe_int (nomark _)))))
  (pss_cons (ps_set (i := 3) sc_law_draw.nd rfl (by first | exact Or.inl rfl | exact Or.inr rfl) (pe_op op_modN (pe_callTy (T := "int") call_int1 (by rfl) T.b_int (by decide +kernel) (pa_cons (pe_ix ix_list (pv 1) pe_int (fun _ _ => rfl)) pa_nil)) (pv 2)))
  (pss_cons (ps_asg (pe_op op_fdivN (pe_ix ix_list (pv 1) pe_int (fun _ _ => rfl)) (pv 2)) (pg_sub (pv 1) pe_int set_list))
  (pss_one (ps_ret (pv 3)))))
  pss_nil)
  (pss_cons (ps_asg pe_int (pg_sub (pv 1) pe_int set_list))
  (pss_cons (ps_set (i := 4) sc_law_draw.nd rfl (by first | exact Or.inl rfl | exact Or.inr rfl) pe_int)
  (pss_cons (ps_if (pt_cmpR op_gt (pe_callB call_len_seq (by rfl) T.b_len PySem.boot_len (pa_cons (pv 0) pa_nil)) pe_int (nomark _))
  (pss_one (ps_set (i := 4) sc_law_draw.nd rfl (by first | exact Or.inl rfl | exact Or.inr rfl) (pe_ix ix_list (pv 0) (pe_op op_modN (pe_callTy (T := "int") call_int1 (by rfl) T.b_int (by decide +kernel) (pa_cons (pe_ix ix_list (pv 1) pe_int (fun _ _ => rfl)) pa_nil)) (pe_callB call_len_seq (by rfl) T.b_len PySem.boot_len (pa_cons (pv 0) pa_nil))) (fun _ _ => rfl))))
  pss_nil)
  (pss_cons (ps_asg (pe_op op_add (pe_ix ix_list (pv 1) pe_int (fun _ _ => rfl)) pe_int) (pg_sub (pv 1) pe_int set_list))
  (pss_cons (ps_set (i := 5) sc_law_draw.nd rfl (by first | exact Or.inl rfl | exact Or.inr rfl) (pe_op op_mul (pe_op op_modN (pe_callTy (T := "int") call_int1 (by rfl) T.b_int (by decide +kernel) (pa_cons (pe_ix ix_list (pv 1) pe_int (fun _ _ => rfl)) pa_nil)) pe_int) pe_int))
  (pss_cons (ps_set (i := 5) sc_law_draw.nd rfl (by first | exact Or.inl rfl | exact Or.inr rfl) (pe_op op_add (pe_op op_add (pe_op op_add (pv 5) (pe_op op_modN (pe_callTy (T := "int") call_int1 (by rfl) T.b_int (by decide +kernel) (pa_cons (pv 4) pa_nil)) pe_int)) (pe_op op_mul pe_int (pe_ix ix_list (pv 1) pe_int (fun _ _ => rfl)))) pe_int))
  (pss_cons (ps_asg (pe_op op_modN (pe_callTy (T := "int") call_int1 (by rfl) T.b_int (by decide +kernel) (pa_cons (pv 5) pa_nil)) pe_int) (pg_sub (pv 1) pe_int set_list))
  (pss_cons (ps_set (i := 5) sc_law_draw.nd rfl (by first | exact Or.inl rfl | exact Or.inr rfl) (pe_op op_modN (pe_callTy (T := "int") call_int1 (by rfl) T.b_int (by decide +kernel) (pa_cons (pe_op op_add (pe_op op_mul (pe_ix ix_list (pv 1) pe_int (fun _ _ => rfl)) pe_int) (pe_ix ix_list (pv 1) pe_int (fun _ _ => rfl))) pa_nil)) pe_int))
  (pss_one (ps_ret (pe_op op_modN (pe_callTy (T := "int") call_int1 (by rfl) T.b_int (by decide +kernel) (pa_cons (pe_op op_fdivN (pv 5) pe_int) pa_nil)) (pv 2)))))))))))))), ?_⟩
    obtain ⟨⟨ns, hS, hl⟩, i0, i1, i2, i3, h4⟩ := id hScr
    have hA : ∀ H', Frm [s0] H H' → SqL K H' a (ns.map V.int) := fun H' fr => ((hid_frm fr).trans (hid_same _ _)).seq hS
    -- state[3] = state[3] + 1
    refine ⟨_, rfl, s0, _, _, _, rfl, rfl, SqL.of h4, rfl, _, _, rfl, rfl, _, rfl, s0, _, _, _, rfl, rfl, h4, rfl, ?_⟩
    refine ⟨_, rfl, s0, _, _, _, rfl, rfl, SqL.of upd_same, rfl, rfl, _, rfl, ?_⟩
    refine ite2 (fun c1 => ?_) (fun c1 => ?_)
    · refine ⟨_, rfl, s0, _, _, _, rfl, rfl, SqL.of upd_same, rfl, _, _, rfl, rfl, _, rfl, ?_⟩
      refine ite2 (fun c2 => ?_) (fun c2 => ?_)
      · refine ⟨_, rfl, s0, _, _, _, rfl, rfl, SqL.of upd_same, rfl, .inl ⟨_, rfl, _, rfl, _, _, rfl, rfl, (by show (_ : Int) ≠ 0; omega), ?_⟩⟩
        refine ⟨_, rfl, s0, _, _, _, rfl, rfl, SqL.of upd_same, rfl, _, rfl, _, _, rfl, rfl, ⟨by omega, by omega⟩, _, rfl, s0, _, _, _, rfl, rfl, upd_same, rfl, ?_⟩
        exact ⟨_, rfl, k _ _ (fmod0 n0) (fmod1 n0) (by repeat (first | exact Frm.refl _ _ | refine Frm.put' ?_ (by simp))) (hScr.frm (by repeat (first | exact Frm.refl _ _ | refine Frm.put' ?_ (by simp))) ⟨_, _, _, _, upd_same⟩)⟩
      · refine ⟨_, rfl, s0, _, _, _, rfl, rfl, upd_same, rfl, ?_⟩
        refine ⟨_, rfl, a, _, rfl, .inl (hA _ (by repeat (first | exact Frm.refl _ _ | refine Frm.put' ?_ (by simp)))), _, _, rfl, rfl, _, rfl, ?_⟩
        refine ite2 (fun c => ?_) (fun c => ?_)
        · have hp : (0 : Int) < ns.length := by simpa using of_decide_eq_true c
          obtain ⟨z, hz⟩ := ints_at (ns := ns) (i := i2.fmod ((ns.map V.int).length : Nat)) (fmod0 (by simpa using hp)) (by simpa using fmod1 (a := i2) hp)
          refine ⟨_, rfl, _, rfl, s0, _, _, _, rfl, rfl, SqL.of upd_same, rfl, .inl ⟨_, rfl, _, rfl, a, _, rfl, .inl (hA _ (by repeat (first | exact Frm.refl _ _ | refine Frm.put' ?_ (by simp)))), _, _, rfl, rfl, (by show (((ns.map V.int).length : Nat) : Int) ≠ 0; rw [List.length_map]; omega), a, _, _, _, rfl, rfl, hA _ (by repeat (first | exact Frm.refl _ _ | refine Frm.put' ?_ (by simp))), hz, ?_⟩⟩
          -- state[2] = state[2] + 1; mixed = ..
          refine ⟨_, rfl, s0, _, _, _, rfl, rfl, SqL.of upd_same, rfl, _, _, rfl, rfl, _, rfl, s0, _, _, _, rfl, rfl, upd_same, rfl, ?_⟩
          refine ⟨_, rfl, s0, _, _, _, rfl, rfl, SqL.of upd_same, rfl, .inl ⟨_, rfl, _, _, rfl, rfl, (by show (_ : Int) ≠ 0; decide), _, _, rfl, rfl, .inr ⟨by decide, by decide⟩, ?_⟩⟩
          refine ⟨_, rfl, _, rfl, .inl ⟨_, rfl, _, _, rfl, rfl, (by show (_ : Int) ≠ 0; decide), _, _, rfl, rfl, _, rfl, s0, _, _, _, rfl, rfl, SqL.of upd_same, rfl, _, _, rfl, rfl, .inl ⟨by decide, by decide⟩, _, _, rfl, rfl, _, _, rfl, rfl, ?_⟩⟩
          refine ⟨_, rfl, .inl ⟨_, rfl, _, _, rfl, rfl, (by show (_ : Int) ≠ 0; decide), _, rfl, s0, _, _, _, rfl, rfl, upd_same, rfl, ?_⟩⟩
          refine ⟨_, rfl, s0, _, _, _, rfl, rfl, SqL.of upd_same, rfl, _, _, rfl, rfl, .inr ⟨by decide, by decide⟩, _, rfl, s0, _, _, _, rfl, rfl, SqL.of upd_same, rfl, _, _, rfl, rfl, .inl ⟨_, rfl, _, _, rfl, rfl, (by show (_ : Int) ≠ 0; decide), ?_⟩⟩
          refine ⟨_, rfl, _, _, rfl, rfl, ⟨by decide, by decide⟩, .inl ⟨_, rfl, _, rfl, _, _, rfl, rfl, (by show (_ : Int) ≠ 0; omega), ?_⟩⟩
          exact k _ _ (fmod0 n0) (fmod1 n0) (by repeat (first | exact Frm.refl _ _ | refine Frm.put' ?_ (by simp))) (hScr.frm (by repeat (first | exact Frm.refl _ _ | refine Frm.put' ?_ (by simp))) ⟨_, _, _, _, upd_same⟩)
        · -- state[2] = state[2] + 1; mixed = ..
          refine ⟨_, rfl, s0, _, _, _, rfl, rfl, SqL.of upd_same, rfl, _, _, rfl, rfl, _, rfl, s0, _, _, _, rfl, rfl, upd_same, rfl, ?_⟩
          refine ⟨_, rfl, s0, _, _, _, rfl, rfl, SqL.of upd_same, rfl, .inl ⟨_, rfl, _, _, rfl, rfl, (by show (_ : Int) ≠ 0; decide), _, _, rfl, rfl, .inr ⟨by decide, by decide⟩, ?_⟩⟩
          refine ⟨_, rfl, _, rfl, .inl ⟨_, rfl, _, _, rfl, rfl, (by show (_ : Int) ≠ 0; decide), _, _, rfl, rfl, _, rfl, s0, _, _, _, rfl, rfl, SqL.of upd_same, rfl, _, _, rfl, rfl, .inl ⟨by decide, by decide⟩, _, _, rfl, rfl, _, _, rfl, rfl, ?_⟩⟩
          refine ⟨_, rfl, .inl ⟨_, rfl, _, _, rfl, rfl, (by show (_ : Int) ≠ 0; decide), _, rfl, s0, _, _, _, rfl, rfl, upd_same, rfl, ?_⟩⟩
          refine ⟨_, rfl, s0, _, _, _, rfl, rfl, SqL.of upd_same, rfl, _, _, rfl, rfl, .inr ⟨by decide, by decide⟩, _, rfl, s0, _, _, _, rfl, rfl, SqL.of upd_same, rfl, _, _, rfl, rfl, .inl ⟨_, rfl, _, _, rfl, rfl, (by show (_ : Int) ≠ 0; decide), ?_⟩⟩
          refine ⟨_, rfl, _, _, rfl, rfl, ⟨by decide, by decide⟩, .inl ⟨_, rfl, _, rfl, _, _, rfl, rfl, (by show (_ : Int) ≠ 0; omega), ?_⟩⟩
          exact k _ _ (fmod0 n0) (fmod1 n0) (by repeat (first | exact Frm.refl _ _ | refine Frm.put' ?_ (by simp))) (hScr.frm (by repeat (first | exact Frm.refl _ _ | refine Frm.put' ?_ (by simp))) ⟨_, _, _, _, upd_same⟩)
    · refine ⟨_, rfl, s0, _, _, _, rfl, rfl, upd_same, rfl, ?_⟩
      refine ⟨_, rfl, a, _, rfl, .inl (hA _ (by repeat (first | exact Frm.refl _ _ | refine Frm.put' ?_ (by simp)))), _, _, rfl, rfl, _, rfl, ?_⟩
      refine ite2 (fun c => ?_) (fun c => ?_)
      · have hp : (0 : Int) < ns.length := by simpa using of_decide_eq_true c
        obtain ⟨z, hz⟩ := ints_at (ns := ns) (i := i2.fmod ((ns.map V.int).length : Nat)) (fmod0 (by simpa using hp)) (by simpa using fmod1 (a := i2) hp)
        refine ⟨_, rfl, _, rfl, s0, _, _, _, rfl, rfl, SqL.of upd_same, rfl, .inl ⟨_, rfl, _, rfl, a, _, rfl, .inl (hA _ (by repeat (first | exact Frm.refl _ _ | refine Frm.put' ?_ (by simp)))), _, _, rfl, rfl, (by show (((ns.map V.int).length : Nat) : Int) ≠ 0; rw [List.length_map]; omega), a, _, _, _, rfl, rfl, hA _ (by repeat (first | exact Frm.refl _ _ | refine Frm.put' ?_ (by simp))), hz, ?_⟩⟩
        -- state[2] = state[2] + 1; mixed = ..
        refine ⟨_, rfl, s0, _, _, _, rfl, rfl, SqL.of upd_same, rfl, _, _, rfl, rfl, _, rfl, s0, _, _, _, rfl, rfl, upd_same, rfl, ?_⟩
        refine ⟨_, rfl, s0, _, _, _, rfl, rfl, SqL.of upd_same, rfl, .inl ⟨_, rfl, _, _, rfl, rfl, (by show (_ : Int) ≠ 0; decide), _, _, rfl, rfl, .inr ⟨by decide, by decide⟩, ?_⟩⟩
        refine ⟨_, rfl, _, rfl, .inl ⟨_, rfl, _, _, rfl, rfl, (by show (_ : Int) ≠ 0; decide), _, _, rfl, rfl, _, rfl, s0, _, _, _, rfl, rfl, SqL.of upd_same, rfl, _, _, rfl, rfl, .inl ⟨by decide, by decide⟩, _, _, rfl, rfl, _, _, rfl, rfl, ?_⟩⟩
        refine ⟨_, rfl, .inl ⟨_, rfl, _, _, rfl, rfl, (by show (_ : Int) ≠ 0; decide), _, rfl, s0, _, _, _, rfl, rfl, upd_same, rfl, ?_⟩⟩
        refine ⟨_, rfl, s0, _, _, _, rfl, rfl, SqL.of upd_same, rfl, _, _, rfl, rfl, .inr ⟨by decide, by decide⟩, _, rfl, s0, _, _, _, rfl, rfl, SqL.of upd_same, rfl, _, _, rfl, rfl, .inl ⟨_, rfl, _, _, rfl, rfl, (by show (_ : Int) ≠ 0; decide), ?_⟩⟩
        refine ⟨_, rfl, _, _, rfl, rfl, ⟨by decide, by decide⟩, .inl ⟨_, rfl, _, rfl, _, _, rfl, rfl, (by show (_ : Int) ≠ 0; omega), ?_⟩⟩
        exact k _ _ (fmod0 n0) (fmod1 n0) (by repeat (first | exact Frm.refl _ _ | refine Frm.put' ?_ (by simp))) (hScr.frm (by repeat (first | exact Frm.refl _ _ | refine Frm.put' ?_ (by simp))) ⟨_, _, _, _, upd_same⟩)
      · -- state[2] = state[2] + 1; mixed = ..
        refine ⟨_, rfl, s0, _, _, _, rfl, rfl, SqL.of upd_same, rfl, _, _, rfl, rfl, _, rfl, s0, _, _, _, rfl, rfl, upd_same, rfl, ?_⟩
        refine ⟨_, rfl, s0, _, _, _, rfl, rfl, SqL.of upd_same, rfl, .inl ⟨_, rfl, _, _, rfl, rfl, (by show (_ : Int) ≠ 0; decide), _, _, rfl, rfl, .inr ⟨by decide, by decide⟩, ?_⟩⟩
        refine ⟨_, rfl, _, rfl, .inl ⟨_, rfl, _, _, rfl, rfl, (by show (_ : Int) ≠ 0; decide), _, _, rfl, rfl, _, rfl, s0, _, _, _, rfl, rfl, SqL.of upd_same, rfl, _, _, rfl, rfl, .inl ⟨by decide, by decide⟩, _, _, rfl, rfl, _, _, rfl, rfl, ?_⟩⟩
        refine ⟨_, rfl, .inl ⟨_, rfl, _, _, rfl, rfl, (by show (_ : Int) ≠ 0; decide), _, rfl, s0, _, _, _, rfl, rfl, upd_same, rfl, ?_⟩⟩
        refine ⟨_, rfl, s0, _, _, _, rfl, rfl, SqL.of upd_same, rfl, _, _, rfl, rfl, .inr ⟨by decide, by decide⟩, _, rfl, s0, _, _, _, rfl, rfl, SqL.of upd_same, rfl, _, _, rfl, rfl, .inl ⟨_, rfl, _, _, rfl, rfl, (by show (_ : Int) ≠ 0; decide), ?_⟩⟩
        refine ⟨_, rfl, _, _, rfl, rfl, ⟨by decide, by decide⟩, .inl ⟨_, rfl, _, rfl, _, _, rfl, rfl, (by show (_ : Int) ≠ 0; omega), ?_⟩⟩
        exact k _ _ (fmod0 n0) (fmod1 n0) (by repeat (first | exact Frm.refl _ _ | refine Frm.put' ?_ (by simp))) (hScr.frm (by repeat (first | exact Frm.refl _ _ | refine Frm.put' ?_ (by simp))) ⟨_, _, _, _, upd_same⟩)
end
section
variable {P : Program} {w : World} {K : PySem.W.Frag} {mg : Str → Option Value} {base : Heap}

theorem ok_shown {f : Addr} {fd : FuncData} (F : Fun K "_shown" "_shown" s_shown f fd) (T : Txt K mg) : FnOk P w K mg base CX0 1 f fd P_shown sp_shown := by
  refine F.ok sc_shown (fun vs H Q E h => ?_) (fun cdv A outer s H vs Q E hr h => ?_)
  · obtain ⟨x, rfl, hx, k⟩ := h
    rfl
  · obtain ⟨x, rfl, hx, k⟩ := h
    refine ⟨_, (pss_cons (ps_if (pt_val (pe_callB (id := "isinstance") call_isi (by rfl) T.b_isinstance (by decide +kernel) (pa_cons (pv 0) (pa_cons (pe_bltn (v := .ty "str") (by rfl) T.b_str (by decide +kernel) rfl) pa_nil))))
  (pss_one (ps_ret (pe_callB (id := "repr") call_repr_str (by rfl) T.b_repr (by decide +kernel) (pa_cons (pv 0) pa_nil))))
  pss_nil)
  (pss_cons (ps_if (PW.pt (pw_and (pt_val (pe_callB (id := "isinstance") call_isi (by rfl) T.b_isinstance (by decide +kernel) (pa_cons (pv 0) (pa_cons (pe_bltn (v := .ty "int") (by rfl) T.b_int (by decide +kernel) rfl) pa_nil)))) (pw_and1 (pt_chain op_lt op_lt (pe_un un_neg pe_int) (pv 0) pe_int))))
  (pss_one (ps_ret (pe_callTy (T := "str") call_str_int (by rfl) T.b_str (by decide +kernel) (pa_cons (pv 0) pa_nil))))
  pss_nil)
  (pss_one (ps_ret pe_str)))), ?_⟩
    rcases hx with ⟨z, rfl, hz⟩ | ⟨i, rfl⟩ | rfl
    · refine ⟨_, rfl, _, _, _, _, true, rfl, .ty _, .base (.str _), kit_ty (by decide +kernel), true, rfl, iteT ?_⟩
      exact ⟨_, rfl, z, rfl, Nat.le_trans hz (by rw [sizeLine_eq]; decide), k _ hz⟩
    · refine ⟨_, rfl, _, _, _, _, false, rfl, .ty _, .base (.int _), kit_ty (by decide +kernel), false, rfl, iteF ?_⟩
      refine ⟨_, rfl, _, _, _, _, true, rfl, .ty _, .base (.int _), kit_ty (by decide +kernel), true, rfl, iteT ?_⟩
      refine ⟨_, rfl, _, rfl, _, _, rfl, rfl, _, rfl, ?_⟩
      refine ite2 (fun c1 => ?_) (fun c1 => ?_)
      · have c1 := of_decide_eq_true c1
        refine ⟨_, _, rfl, rfl, _, rfl, ?_⟩
        refine ite2 (fun c2 => ?_) (fun c2 => ?_)
        · have c2 := of_decide_eq_true c2
          have hn : i.natAbs < 10 ^ 4 := by
            have e : (10 : Nat) ^ 4 = 10000 := by decide
            rw [e]
            omega
          refine ⟨_, rfl, _, rfl, ?_, k _ ?_⟩
          · have h2 : i.natAbs < 2 ^ 1920 := Nat.lt_of_lt_of_le hn (by decide)
            by_cases h0 : i.natAbs = 0
            · rw [h0]
              decide
            · exact (Nat.log2_lt h0).mpr h2
          · have e := int_text_length_le10 (k := 4) (by decide) hn
            show (Str.ofString (toString i)).length ≤ _
            rw [PySem.ofString_length]
            omega
        · exact k _ (by decide +kernel)
      · refine ⟨_, rfl, ite2 (fun z => absurd z (by decide)) (fun _ => ?_)⟩
        exact k _ (by decide +kernel)
    · refine ⟨_, rfl, _, _, _, _, false, rfl, .ty _, .base .non, kit_ty (by decide +kernel), false, rfl, iteF ?_⟩
      refine ⟨_, rfl, _, _, _, _, false, rfl, .ty _, .base .non, kit_ty (by decide +kernel), false, rfl, iteF ?_⟩
      exact k _ (by decide +kernel)

theorem okBadNumber___init__ {f C cda cc : Addr} {oc dV kV doc pm ct : Value} {an od : Option Addr} {osl : Array (Option Value)} (lk : K.lookup f = some ⟨oc, od, .func (PySem.W.fnX "__init__" "BadNumber.__init__" (defArgs sBadNumber___init__) (defBody sBadNumber___init__) (defScope sBadNumber___init__) [("__class__", cc)] dV kV doc pm an (.ref cda) ct), osl⟩) (EC : ErrC P K mg "BadNumber" "BadNumber.__init__" C f cda cc) (T : Txt K mg)
    (C_shown : Cal P w K mg base "_shown" P_shown 1 sp_shown) : FnOk P w K mg base CX0 2 f (PySem.W.fnX "__init__" "BadNumber.__init__" (defArgs sBadNumber___init__) (defBody sBadNumber___init__) (defScope sBadNumber___init__) [("__class__", cc)] dV kV doc pm an (.ref cda) ct) PBadNumber___init__ (spBadNumber C) := by
  obtain ⟨g_shown, gd_shown, G_shown, m_shown, k_shown, b_shown⟩ := C_shown.ex
  refine fn_super (N := NBadNumber___init__) lk EC.sup scBadNumber___init__ rfl rfl rfl rfl (fun vs H Q E h => ?_) (fun A outer s H vs Q E hr h => ?_)
  · obtain ⟨a, z, v, rfl, ha, hz, hv, k⟩ := h
    rfl
  · obtain ⟨a, z, v, rfl, ha, hz, hv, k⟩ := h
    refine ⟨_, _, (pa_cons (pe_joined (.cons pe_str (.cons (pe_fmt (pv 1)) (.cons pe_str (.cons (pe_fmt (pe_call G_shown (hr.mono (by decide)) (by rfl) m_shown k_shown b_shown .nil pass0 (pa_cons (pv 2) pa_nil))) .nil))))) pa_nil), (pss_cons (ps_ost (pv 0) (pv 1)) (pss_one (ps_ost (pv 0) (pv 2)))), ?_⟩
    have h1 : (Str.empty ++ ("bad number for " : Str)).length ≤ 15 := by decide +kernel
    have h2 : (Str.empty ++ ("bad number for " : Str) ++ z).length ≤ 1015 := by rw [PySem.Str.length_append]; omega
    have h3 : (Str.empty ++ ("bad number for " : Str) ++ z ++ (": " : Str)).length ≤ 1017 := by rw [PySem.Str.length_append]; rw [show (": " : Str).length = 2 by decide +kernel]; omega
    refine ⟨a, _, rfl, ha, ?_⟩
    refine ⟨_, rfl, Nat.le_trans h1 (by rw [sizeLine_eq]; decide), ?_⟩
    refine ⟨_, rfl, .inl ⟨z, rfl, Nat.le_trans hz (by rw [sizeLine_eq]; decide), z, rfl, Nat.le_trans h2 (by rw [sizeLine_eq]; decide), ?_⟩⟩
    refine ⟨_, rfl, Nat.le_trans h3 (by rw [sizeLine_eq]; decide), ?_⟩
    refine ⟨_, rfl, v, rfl, hv, fun y hy => .inl ⟨y, rfl, Nat.le_trans hy (by rw [sizeLine_eq]; decide), y, rfl, ?_, ?_⟩⟩
    · rw [PySem.Str.length_append, sizeLine_eq]
      omega
    refine ⟨(by show 1 ≤ 1000; decide), ha, ?_⟩
    refine ⟨_, rfl, _, rfl, a, C, rfl, EC.sup.oex, EC.noWhat, .inl ⟨ha, fun dx nd ne => ?_⟩⟩
    refine ⟨_, rfl, _, rfl, a, C, rfl, EC.sup.oex, EC.noValue, .inr ⟨dx, _, upd_same, (by rw [upd_ne ne]; exact upd_same), (by show 1 ≤ 900; decide), ?_⟩⟩
    exact init_leaves2 ha k nd ne
end
end Wb

namespace Wb
open PySem PySem.Spec PyProof.Rows L2 Wx NdefX
section
variable {P : Program} {w : World} {K : PySem.W.Frag} {mg : Str → Option Value} {base : Heap}

theorem take_snoc {α : Type} : ∀ {l : List α} {i : Nat} {x : α}, l[i]? = some x → l.take (i + 1) = l.take i ++ [x]
  | [], i, x, h => by simp at h
  | a :: l, 0, x, h => by
    have e : a = x := Option.some.inj h
    subst e
    rfl
  | a :: l, i + 1, x, h => by
    have ih := take_snoc (l := l) (i := i) (x := x) h
    show a :: l.take (i + 1) = a :: l.take i ++ [x]
    rw [ih]
    rfl
theorem drop_cons {α : Type} : ∀ {l : List α} {i : Nat} {x : α}, l[i]? = some x → l.drop i = x :: l.drop (i + 1)
  | [], i, x, h => by simp at h
  | a :: l, 0, x, h => by
    have e : a = x := Option.some.inj h
    subst e
    rfl
  | a :: l, i + 1, x, h => by
    show l.drop i = x :: l.drop (i + 1)
    exact drop_cons (l := l) (i := i) h
theorem map_at {α β : Type} {f : α → β} {l : List α} {i : Nat} {y : β} (h : (l.map f)[i]? = some y) : ∃ x, l[i]? = some x ∧ y = f x := by
  rw [List.getElem?_map] at h
  cases e : l[i]? with
  | none => rw [e] at h; cases h
  | some x => rw [e] at h; exact ⟨x, rfl, (Option.some.inj h).symm⟩
abbrev codes (z : Str) : List Nat := z.cps.toList
theorem codes_len (z : Str) : (codes z).length = z.length := Array.length_toList
def digS : Str := "0123456789"
theorem mem_dig {c : Nat} : c ∈ codes digS ↔ 48 ≤ c ∧ c ≤ 57 := by
  have e : codes digS = [48, 49, 50, 51, 52, 53, 54, 55, 56, 57] := by decide +kernel
  rw [e]
  simp only [List.mem_cons, List.not_mem_nil, or_false]
  omega
def isNumB (z : Str) : Bool := decide (1 ≤ z.length ∧ z.length ≤ 4) && ((codes z).all fun c => decide (48 ≤ c ∧ c ≤ 57)) && (decide (z = "0") || decide ((codes z)[0]? ≠ some 48))
theorem str1 {c d : Nat} : (⟨#[c]⟩ : Str) = ⟨#[d]⟩ ↔ c = d := by
  constructor
  · intro h
    injection h with h
    injection h with h
    injection h
  · intro h
    rw [h]
theorem zeroS : ("0" : Str) = ⟨#[48]⟩ := by decide +kernel
def sp_is_number : Sp := fun vs H Q _ => ∃ z : Str, vs = [.str z] ∧ z.length ≤ 1000 ∧ ∀ H', Same H H' → Q (.bl (isNumB z)) H'
def spread_number (C : Addr) : Sp := fun vs H Q E => ∃ z : Str, vs = [.str z] ∧ z.length ≤ 1000 ∧ (reprText z).length ≤ 20000 ∧ (isNumB z = true → ∀ H', Same H H' → Q (.int ((PySem.NumText.digitsVal (codes z) : Nat) : Int)) H') ∧
  (isNumB z = false → ∀ (d : Addr) (H' : Hp), H d = none → Same H H' → H' d = some (.xd [("value", .str z), ("what", .str "number")]) → E (.ref C) (some d) H')
def sp_law_is_integer : Sp := fun vs H Q _ => ∃ i : Int, vs = [.int i] ∧ Q (.bl true) H
def sp_law_due : Sp := fun vs H Q _ => ∃ z : Str, vs = [.str z] ∧ z.length ≤ 1000 ∧ (∀ c, c ∈ codes z → c < 128) ∧ Q (if isNumB z = true then .int ((PySem.NumText.digitsVal (codes z) : Nat) : Int) else .non) H
theorem item0 {z : Str} (h : 1 ≤ z.length) : ∃ c, (codes z)[0]? = some c ∧ atI (codes z) 0 = some c := by
  have hl : 0 < (codes z).length := by rw [codes_len]; exact h
  exact ⟨(codes z)[0], List.getElem?_eq_getElem hl, atI_nat (j := 0) (List.getElem?_eq_getElem hl)⟩
theorem bigN {n : Nat} (h : n ≤ 1000000) : n ≤ sizeLine := Nat.le_trans h (by rw [sizeLine_eq]; decide)

theorem ok_is_number {f : Addr} {fd : FuncData} (F : Fun K "is_number" "is_number" s_is_number f fd) (T : Txt K mg) : FnOk P w K mg base CX0 1 f fd P_is_number sp_is_number := by
  obtain ⟨_, c__DIGITS⟩ := T.c__DIGITS
  obtain ⟨_, c__LONGEST_NUMBER⟩ := T.c__LONGEST_NUMBER
  refine F.ok sc_is_number (fun vs H Q E h => ?_) (fun cdv A outer s H vs Q E hr h => ?_)
  · obtain ⟨z, rfl, hz, k⟩ := h
    rfl
  · obtain ⟨z, rfl, hz, k⟩ := h
    refine ⟨_, (pss_cons (ps_if (PW.pt (pw_or (pt_not (pt_val (pe_callB (id := "isinstance") call_isi (by rfl) T.b_isinstance (by decide +kernel) (pa_cons (pv 0) (pa_cons (pe_bltn (v := .ty "str") (by rfl) T.b_str (by decide +kernel) rfl) pa_nil))))) (pw_or1 (pt_not (pt_chain op_le op_le pe_int (pe_callB call_len_str (by rfl) T.b_len PySem.boot_len (pa_cons (pv 0) pa_nil)) (pe_glob (v := .int 4) rfl c__LONGEST_NUMBER ⟨_, rfl⟩))))))
  (pss_one (ps_ret pe_bl))
  pss_nil)
  (pss_cons (ps_if (pt_not (pt_val (pe_callB (id := "all") (cr_all rfl) (by rfl) T.b_all (by decide +kernel) (pa_cons (pe_lc (own := [("letter", 1)]) rfl sc_is_number.nd (pi_str (pv 0)) (blkOk_by (own := [("letter", 1)]) (N := N_is_number) (sc := defScope s_is_number) (by decide +kernel)) (fun _ _ _ _ _ => (pg_name (i := 1) sc_is_number.nd rfl (by first | exact Or.inl rfl | exact Or.inr rfl))) (fun _ _ _ _ _ => pts_nil) (fun _ _ _ _ _ => (pe_cmpR op_in_sign (pv 1) (pe_glob (v := .str "0123456789") rfl c__DIGITS ⟨_, rfl⟩) (by rfl)))) pa_nil))))
  (pss_one (ps_ret pe_bl))
  pss_nil)
  (pss_one (ps_ret (pe_or (pe_cmpR op_eq (pv 0) pe_str (nomark _)) (pe_one (pe_cmpR op_ne (pe_ix ix_str (pv 0) pe_int (fun _ _ => rfl)) pe_str (nomark _)))))))), ?_⟩
    have hzl : z.length ≤ sizeLine := bigN (by omega)
    refine ⟨_, rfl, _, _, _, _, true, rfl, .ty _, .base (.str _), kit_ty (by decide +kernel), true, rfl, iteF ?_⟩
    have no : ¬ (1 ≤ z.length ∧ z.length ≤ 4) → isNumB z = false := fun n => by unfold isNumB; rw [decide_eq_false n]; rfl
    have kF : isNumB z = false → ∀ H', Same H H' → Q (.bl false) H' := fun e => by rw [e] at k; exact k
    refine ⟨_, rfl, z, rfl, hzl, _, _, rfl, rfl, _, rfl, ?_⟩
    refine ite2 (fun c1 => ?_) (fun c1 => ?_)
    · have c1 := of_decide_eq_true c1
      refine ⟨_, _, rfl, rfl, _, rfl, ?_⟩
      refine ite2 (fun c2 => ?_) (fun c2 => ?_)
      · have c2 : ¬ ((z.length : Nat) : Int) ≤ 4 := fun q => by
          rw [decide_eq_true q] at c2
          exact absurd c2 (by decide)
        exact kF (no (by omega)) H (Same.refl H)
      · have c2 : ((z.length : Nat) : Int) ≤ 4 := by
          by_cases q : ((z.length : Nat) : Int) ≤ 4
          · exact q
          · rw [decide_eq_false q] at c2
            exact absurd rfl c2
        have hl4 : 1 ≤ z.length ∧ z.length ≤ 4 := by omega
        refine ⟨_, rfl, _, rfl, fun D hD0 => ?_⟩
        refine lc_it walk_str (fun i H1 => H1 D = some (.lst ((((codes z).take i).map fun c => decide (48 ≤ c ∧ c ≤ 57)).map V.bl)) ∧ Same H H1) ⟨upd_same, Same.new hD0⟩ (fun _ _ _ _ => trivial) ?_ ?_
        · rintro i x H1o H1 hi ⟨e1, s1⟩ ⟨rfl, c, hc, rfl⟩
          have hc' : (codes z)[i]? = some c := by rw [Array.getElem?_toList]; exact hc
          have hi4 : i < 4 := Nat.lt_of_lt_of_le hi hl4.2
          refine ⟨rfl, ?_⟩
          refine ⟨_, rfl, c, digS, rfl, rfl, _, e1, small1000 (by rw [List.length_map, List.length_map, List.length_take]; omega), ?_, fun b o e => by rw [upd_ne (ne_of_none e hD0)]; exact s1 _ _ e⟩
          have e : decide (c ∈ digS.cps.toList) = decide (48 ≤ c ∧ c ≤ 57) := by
            by_cases q : 48 ≤ c ∧ c ≤ 57
            · rw [decide_eq_true q, decide_eq_true (mem_dig.mpr q)]
            · rw [decide_eq_false q, decide_eq_false (fun y => q (mem_dig.mp y))]
          rw [e, take_snoc hc', List.map_append, List.map_append]
          exact upd_same
        · rintro H1 ⟨e1, s1⟩
          have ht : (codes z).take z.cps.size = codes z := List.take_of_length_le (by rw [codes_len]; exact Nat.le_refl _)
          rw [ht] at e1
          refine ⟨D, _, rfl, SqL.of e1, ?_⟩
          have e : (((codes z).map fun c => decide (48 ≤ c ∧ c ≤ 57)).all id) = (codes z).all fun c => decide (48 ≤ c ∧ c ≤ 57) := by rw [List.all_map]; rfl
          rw [e]
          refine ⟨_, rfl, ?_⟩
          cases hall : (codes z).all fun c => decide (48 ≤ c ∧ c ≤ 57) with
          | false =>
            refine iteT ?_
            exact kF (by unfold isNumB; rw [hall]; simp) H1 s1
          | true =>
            refine iteF ?_
            obtain ⟨c0, h0, h0'⟩ := item0 hl4.1
            have fin : isNumB z = (decide (z = "0") || decide (c0 ≠ 48)) := by
              unfold isNumB
              rw [hall, decide_eq_true hl4, h0]
              simp
            rw [fin] at k
            refine ⟨_, rfl, rfl, _, rfl, ?_⟩
            by_cases q : z = "0"
            · refine ite2 (fun _ => ?_) (fun y => absurd (decide_eq_true (by rw [q])) y)
              rw [decide_eq_true q] at k
              exact k H1 s1
            · refine ite2 (fun y => absurd (of_decide_eq_true y) (fun y => q (by injection y))) (fun _ => ?_)
              rw [decide_eq_false q] at k
              refine ⟨_, rfl, z, 0, c0, rfl, rfl, hzl, h0', rfl, ?_⟩
              have e2 : (!decide (V.str ⟨#[c0]⟩ = V.str "0")) = (false || decide (c0 ≠ 48)) := by
                by_cases y : c0 = 48
                · rw [y, decide_eq_true (show V.str ⟨#[48]⟩ = V.str "0" by rw [zeroS])]
                  simp
                · rw [decide_eq_false (fun w : V.str ⟨#[c0]⟩ = V.str "0" => y (by rw [zeroS] at w; injection w with w; exact str1.mp w))]
                  simp [y]
              show Q (V.bl (!decide (V.str ⟨#[c0]⟩ = V.str "0"))) H1
              rw [e2]
              exact k H1 s1
    · refine ⟨_, rfl, ite2 (fun _ => ?_) (fun y => absurd rfl y)⟩
      have c1 : ¬ (1 : Int) ≤ ((z.length : Nat) : Int) := fun q => c1 (decide_eq_true q)
      exact kF (no (by omega)) H (Same.refl H)

theorem okread_number {f : Addr} {fd : FuncData} (F : Fun K "read_number" "read_number" sread_number f fd) (T : Txt K mg) {C_BadNumber f_BadNumber cda_BadNumber cc_BadNumber : Addr} {fd_BadNumber : FuncData} (E_BadNumber : ErrC P K mg "BadNumber" "BadNumber.__init__" C_BadNumber f_BadNumber cda_BadNumber cc_BadNumber) (G_BadNumber : FnOk P w K mg base CX0 2 f_BadNumber fd_BadNumber PBadNumber___init__ (spBadNumber C_BadNumber)) (b_BadNumber : Binds K fd_BadNumber PBadNumber___init__ []) (C_is_number : Cal P w K mg base "is_number" P_is_number 1 sp_is_number) : FnOk P w K mg base (L2.CX P w) 4 f fd Pread_number (spread_number C_BadNumber) := by
  obtain ⟨g_is_number, gd_is_number, G_is_number, m_is_number, k_is_number, b_is_number⟩ := C_is_number.ex
  refine F.okX scread_number (fun vs H Q E h => ?_) (fun cdv A outer s H vs Q E hr h => ?_)
  · obtain ⟨z, rfl, hz, hr2, kT, kE⟩ := h
    rfl
  · obtain ⟨z, rfl, hz, hr2, kT, kE⟩ := h
    refine ⟨_, (pss_cons (ps_if (pt_not (pt_val (pe_call G_is_number (hr.mono (by decide)) (by rfl) m_is_number k_is_number b_is_number .nil pass0 (pa_cons (pv 0) pa_nil))))
  (pss_one (ps_raise rfl (takes_of rfl rfl rfl rfl) (pmk_oex E_BadNumber.sup.oex E_BadNumber.ini E_BadNumber.tyI G_BadNumber (hr.mono (by decide)) b_BadNumber .nil pass0 (by rfl) E_BadNumber.g (pa_cons pe_str (pa_cons (pv 0) pa_nil)))))
  pss_nil)
  (pss_one (ps_ret (pe_callTy (T := "int") call_int_str (by rfl) T.b_int (by decide +kernel) (pa_cons (pv 0) pa_nil))))), ?_⟩
    refine ⟨_, rfl, z, rfl, hz, fun H1 s1 => ⟨_, rfl, ?_⟩⟩
    cases hb : isNumB z with
    | true =>
      refine iteF ?_
      unfold isNumB at hb
      rw [Bool.and_eq_true, Bool.and_eq_true] at hb
      obtain ⟨⟨b1, b2⟩, b3⟩ := hb
      have b1 := of_decide_eq_true b1
      have hd : PySem.NumText.AllDigits (codes z) := fun c hc => of_decide_eq_true (List.all_eq_true.mp b2 c hc)
      have hne : codes z ≠ [] := fun q => by
        have := codes_len z
        rw [q] at this
        simp at this
        omega
      exact ⟨_, rfl, z, _, rfl, PySem.intText_digits hd hne (by omega), by omega, kT (by unfold isNumB; rw [decide_eq_true b1, b2, b3]; rfl) H1 s1⟩
    | false =>
      refine iteT ?_
      refine ⟨_, rfl, (by show 2 ≤ 1000; decide), fun a na => ⟨a, "number", .str z, rfl, upd_same, (by decide +kernel), .inl ⟨z, rfl, hr2⟩, made_of na fun d H' nd s' hd => ?_⟩⟩
      exact kE hb d H' (s1.free nd) (s1.trans s') hd

theorem ok_law_is_integer {f : Addr} {fd : FuncData} (F : Fun K "_law_is_integer" "_law_is_integer" s_law_is_integer f fd) (T : Txt K mg) : FnOk P w K mg base CX0 1 f fd P_law_is_integer sp_law_is_integer := by
  refine F.ok sc_law_is_integer (fun vs H Q E h => ?_) (fun cdv A outer s H vs Q E hr h => ?_)
  · obtain ⟨i, rfl, k⟩ := h
    rfl
  · obtain ⟨i, rfl, k⟩ := h
    refine ⟨_, (pss_one (ps_ret (pe_and (pe_callB (id := "isinstance") call_isi (by rfl) T.b_isinstance (by decide +kernel) (pa_cons (pv 0) (pa_cons (pe_bltn (v := .ty "int") (by rfl) T.b_int (by decide +kernel) rfl) pa_nil))) (pe_one (pe_not (pe_callB (id := "isinstance") call_isi (by rfl) T.b_isinstance (by decide +kernel) (pa_cons (pv 0) (pa_cons (pe_bltn (v := .ty "bool") (by rfl) T.b_bool (by decide +kernel) rfl) pa_nil)))))))), ?_⟩
    refine ⟨_, rfl, _, _, _, _, true, rfl, .ty _, .base (.int _), kit_ty (by decide +kernel), true, rfl, iteT ?_⟩
    exact ⟨_, rfl, _, _, _, _, false, rfl, .ty _, .base (.int _), kit_ty (by decide +kernel), false, rfl, k⟩
end
end Wb

namespace Wb
open PySem PySem.Spec PyProof.Rows L2 Wx NdefX
section
variable {P : Program} {w : World} {K : PySem.W.Frag} {mg : Str → Option Value} {base : Heap}

theorem find_dig : ∀ c, c < 128 → PySem.Txt.find digS ⟨#[c]⟩ = (if 48 ≤ c ∧ c ≤ 57 then (c : Int) - 48 else -1) := by decide +kernel
theorem val_snoc (l : List Nat) (c : Nat) : PySem.NumText.digitsVal (l ++ [c]) = PySem.NumText.digitsVal l * 10 + (c - 48) := by
  unfold PySem.NumText.digitsVal
  rw [List.foldl_append]
  rfl
theorem look_val {v w : V} : ([("value", v), ("what", w)] : List (Str × V)).lookup ("value" : Str) = some v := by rw [lookup_put, if_pos rfl]
theorem look_what {v w : V} : ([("value", v), ("what", w)] : List (Str × V)).lookup ("what" : Str) = some w := by rw [lookup_put, if_neg (by decide +kernel), lookup_put, if_pos rfl]
def TxtOk (n : Nat) (z : Str) : Prop := z.length ≤ n ∧ ∀ c, c ∈ codes z → c < 128
theorem TxtOk.repr {n : Nat} {z : Str} (h : TxtOk n z) (hn : n ≤ 1000) : (reprText z).length ≤ 20000 := by
  have := PySem.StrLaws.reprText_len z (fun c hc => Nat.lt_trans (h.2 c hc) (by decide))
  have := h.1
  omega
theorem TxtOk.mono {m n : Nat} {z : Str} (h : TxtOk m z) (hn : m ≤ n) : TxtOk n z := ⟨Nat.le_trans h.1 hn, h.2⟩
theorem TxtOk.app {m n : Nat} {x y : Str} (h1 : TxtOk m x) (h2 : TxtOk n y) : TxtOk (m + n) (x ++ y) := by
  refine ⟨by rw [PySem.Str.length_append]; have := h1.1; have := h2.1; omega, fun c hc => ?_⟩
  have e : codes (x ++ y) = codes x ++ codes y := by
    show (x ++ y).cps.toList = _
    rw [PySem.Str.cps_append, Array.toList_append]
  rw [e] at hc
  rcases List.mem_append.mp hc with q | q
  · exact h1.2 c q
  · exact h2.2 c q
theorem TxtOk.cut {n : Nat} {z : Str} {lo hi : Option Int} (h : TxtOk n z) : TxtOk n (cutS z lo hi) := by
  have e : codes (cutS z lo hi) = ((codes z).drop (HT.sIx z.length 0 lo)).take (HT.sIx z.length z.length hi - HT.sIx z.length 0 lo) := by
    unfold cutS codes
    simp
  refine ⟨?_, fun c hc => ?_⟩
  · rw [← codes_len, e, List.length_take, List.length_drop, codes_len]
    have := h.1
    omega
  · rw [e] at hc
    exact h.2 c (List.mem_of_mem_drop (List.mem_of_mem_take hc))
theorem TxtOk.one {c : Nat} (h : c < 128) : TxtOk 1 ⟨#[c]⟩ := ⟨Nat.le_refl _, fun d hd => by
  have : d = c := by simpa [codes] using hd
  omega⟩
theorem dig_text (r : Int) (h0 : 0 ≤ r) (h1 : r < 10) : TxtOk 1 (Str.ofString (toString r)) := by
  have : r = 0 ∨ r = 1 ∨ r = 2 ∨ r = 3 ∨ r = 4 ∨ r = 5 ∨ r = 6 ∨ r = 7 ∨ r = 8 ∨ r = 9 := by omega
  rcases this with rfl | rfl | rfl | rfl | rfl | rfl | rfl | rfl | rfl | rfl <;> exact ⟨by decide +kernel, by decide +kernel⟩
def sp_law_holds : Sp := fun vs H Q _ => ∃ z : Str, vs = [.str z] ∧ TxtOk 1000 z ∧ ∀ H', Same H H' → Q (.bl true) H'
def splaw (K : PySem.W.Frag) : Sp := fun vs H Q _ => ∃ (a : Addr) (ns : List Int), vs = [.ref a] ∧ SqL K H a (ns.map V.int) ∧ ns.length ≤ 63 ∧ ∀ H', Q (.bl true) H'

theorem ok_law_due {f : Addr} {fd : FuncData} (F : Fun K "_law_due" "_law_due" s_law_due f fd) (T : Txt K mg) : FnOk P w K mg base CX0 1 f fd P_law_due sp_law_due := by
  refine F.ok sc_law_due (fun vs H Q E h => ?_) (fun cdv A outer s H vs Q E hr h => ?_)
  · obtain ⟨z, rfl, hz, h128, k⟩ := h
    rfl
  · obtain ⟨z, rfl, hz, h128, k⟩ := h
    refine ⟨_, (pss_cons (ps_if (PW.pt (pw_or (pt_cmpR op_lt (pe_callB call_len_str (by rfl) T.b_len PySem.boot_len (pa_cons (pv 0) pa_nil)) pe_int (nomark _)) (pw_or (pt_cmpR op_gt (pe_callB call_len_str (by rfl) T.b_len PySem.boot_len (pa_cons (pv 0) pa_nil)) pe_int (nomark _)) (pw_or1 (PW.pt (pw_and (pt_cmpR op_gt (pe_callB call_len_str (by rfl) T.b_len PySem.boot_len (pa_cons (pv 0) pa_nil)) pe_int (nomark _)) (pw_and1 (pt_cmpR op_eq (pe_ix ix_str (pv 0) pe_int (fun _ _ => rfl)) pe_str (nomark _)))))))))
  (pss_one (ps_ret pe_non))
  pss_nil)
  (pss_cons (ps_set (i := 1) sc_law_due.nd rfl (by first | exact Or.inl rfl | exact Or.inr rfl) pe_int)
  (pss_cons (ps_for PassesOwn.never rfl (pi_str (pv 0)) (pg_name (i := 2) sc_law_due.nd rfl (by first | exact Or.inl rfl | exact Or.inr rfl))
  (pss_cons (ps_set (i := 3) sc_law_due.nd rfl (by first | exact Or.inl rfl | exact Or.inr rfl) (pe_m1 PySem.F.slot_str_find PySem.F.type_str_find mt_find pe_str (pv 2)))
  (pss_cons (ps_if (pt_cmpR op_lt (pv 3) pe_int (nomark _))
  (pss_one (ps_ret pe_non))
  pss_nil)
  (pss_one (ps_set (i := 1) sc_law_due.nd rfl (by first | exact Or.inl rfl | exact Or.inr rfl) (pe_op op_add (pe_op op_mul (pv 1) pe_int) (pv 3)))))))
  (pss_one (ps_ret (pv 1)))))), ?_⟩
    have hzl : z.length ≤ sizeLine := bigN (by omega)
    have no : ¬ (1 ≤ z.length ∧ z.length ≤ 4) → Q .non H := fun n => by
      have : isNumB z = false := by unfold isNumB; rw [decide_eq_false n]; rfl
      rw [this] at k
      exact k
    refine ⟨_, rfl, z, rfl, hzl, _, _, rfl, rfl, _, rfl, ?_⟩
    refine ite2 (fun c1 => no (by have := of_decide_eq_true c1; omega)) (fun c1 => ?_)
    have c1 : ¬ ((z.length : Nat) : Int) < 1 := fun q => c1 (decide_eq_true q)
    refine ⟨_, rfl, z, rfl, hzl, _, _, rfl, rfl, _, rfl, ?_⟩
    refine ite2 (fun c2 => no (by have := of_decide_eq_true c2; omega)) (fun c2 => ?_)
    have c2 : ¬ (4 : Int) < ((z.length : Nat) : Int) := fun q => c2 (decide_eq_true q)
    have hl4 : 1 ≤ z.length ∧ z.length ≤ 4 := by omega
    obtain ⟨c0, h0, h0'⟩ := item0 hl4.1
    refine ⟨_, rfl, z, rfl, hzl, _, _, rfl, rfl, _, rfl, ?_⟩
    refine ite2 (fun c3 => ?_) (fun c3 => ?_)
    · have c3 := of_decide_eq_true c3
      refine ⟨_, rfl, z, 0, c0, rfl, rfl, hzl, h0', rfl, _, rfl, ?_⟩
      have ne1 : ¬ z = "0" := fun q => by
        have e : ("0" : Str).length = 1 := by decide +kernel
        rw [q, e] at c3
        omega
      refine ite2 (fun c4 => ?_) (fun c4 => ?_)
      · have c4 : c0 = 48 := by have w := of_decide_eq_true c4; rw [zeroS] at w; injection w with w; exact str1.mp w
        have : isNumB z = false := by
          unfold isNumB
          rw [h0, decide_eq_false ne1, c4]
          simp
        rw [this] at k
        exact k
      · have hz0 : z = "0" ∨ c0 ≠ 48 := .inr fun q => c4 (decide_eq_true (by rw [q, zeroS]))
        have fin : isNumB z = (codes z).all fun c => decide (48 ≤ c ∧ c ≤ 57) := by
          unfold isNumB
          rw [decide_eq_true hl4, h0]
          rcases hz0 with q | q
          · rw [decide_eq_true q]
            simp
          · rw [decide_eq_true (show some c0 ≠ some 48 from fun y => q (Option.some.inj y))]
            simp
        refine ⟨_, rfl, _, rfl, ?_⟩
        refine for_it walk_str (fun i σ H1 => ∃ (w2 w3 : Option V), σ = [some (.str z), some (.int ((PySem.NumText.digitsVal ((codes z).take i) : Nat) : Int)), w2, w3] ∧ (∀ c, c ∈ (codes z).take i → 48 ≤ c ∧ c ≤ 57) ∧ H1 = H)
          ⟨_, _, rfl, by simp, rfl⟩ (fun _ _ _ _ _ => trivial) ?_ ?_
        · rintro i x σ H1o H1 hi ⟨w2, w3, rfl, hd, rfl⟩ ⟨rfl, c, hc, rfl⟩
          have hc' : (codes z)[i]? = some c := by rw [Array.getElem?_toList]; exact hc
          have hc128 := h128 c (List.mem_of_getElem? hc')
          have hfd := find_dig c hc128
          refine ⟨⟨_, rfl⟩, _, rfl, _, _, rfl, rfl, ?_⟩
          refine ⟨_, rfl, _, _, rfl, rfl, _, rfl, ?_⟩
          by_cases q : 48 ≤ c ∧ c ≤ 57
          · rw [if_pos q] at hfd
            refine ite2 (fun y => absurd (of_decide_eq_true y) (by show ¬ PySem.Txt.find digS ⟨#[c]⟩ < 0; rw [hfd]; omega)) (fun _ => ?_)
            refine ⟨_, rfl, _, _, rfl, rfl, .inr ⟨by decide, by decide⟩, _, rfl, _, _, rfl, rfl, ?_⟩
            refine ⟨some (.str ⟨#[c]⟩), some (.int (PySem.Txt.find digS ⟨#[c]⟩)), ?_, fun d hd' => ?_, rfl⟩
            · rw [take_snoc hc', val_snoc]
              show _ = [some (V.str z), some (V.int ((PySem.NumText.digitsVal ((codes z).take i) * 10 + (c - 48) : Nat) : Int)), _, _]
              have e : ((PySem.NumText.digitsVal ((codes z).take i) : Nat) : Int) * 10 + PySem.Txt.find digS ⟨#[c]⟩ = ((PySem.NumText.digitsVal ((codes z).take i) * 10 + (c - 48) : Nat) : Int) := by
                rw [hfd]
                omega
              rw [← e]
              rfl
            · rw [take_snoc hc'] at hd'
              rcases List.mem_append.mp hd' with y | y
              · exact hd d y
              · rw [List.mem_singleton.mp y]
                exact q
          · rw [if_neg q] at hfd
            refine ite2 (fun _ => ?_) (fun y => absurd (decide_eq_true (by show PySem.Txt.find digS ⟨#[c]⟩ < 0; rw [hfd]; decide)) y)
            have : isNumB z = false := by
              rw [fin]
              exact List.all_eq_false.mpr ⟨c, List.mem_of_getElem? hc', by simp only [decide_eq_true_eq]; exact q⟩
            rw [this] at k
            exact k
        · rintro σ H1 ⟨w2, w3, rfl, hd, rfl⟩
          have ht : (codes z).take z.cps.size = codes z := List.take_of_length_le (by rw [codes_len]; exact Nat.le_refl _)
          rw [ht] at hd ⊢
          have : isNumB z = true := by
            rw [fin]
            exact List.all_eq_true.mpr fun c hc => decide_eq_true (hd c hc)
          rw [if_pos this] at k
          exact ⟨_, rfl, k⟩
    · have hz0 : z = "0" ∨ c0 ≠ 48 := by
        by_cases q : c0 = 48
        · left
          have hl1 : z.length = 1 := by
            have : ¬ (1 : Int) < ((z.length : Nat) : Int) := fun y => c3 (decide_eq_true y)
            omega
          have hc1 : codes z = [48] := by
            have hl : (codes z).length = 1 := by rw [codes_len]; exact hl1
            match hcz : codes z, hl with
            | [c], _ =>
              rw [hcz] at h0
              have : c = c0 := Option.some.inj h0
              rw [this, q]
          rw [zeroS]
          exact PyProof.Rows.ext_toList hc1
        · exact .inr q
      have fin : isNumB z = (codes z).all fun c => decide (48 ≤ c ∧ c ≤ 57) := by
        unfold isNumB
        rw [decide_eq_true hl4, h0]
        rcases hz0 with q | q
        · rw [decide_eq_true q]
          simp
        · rw [decide_eq_true (show some c0 ≠ some 48 from fun y => q (Option.some.inj y))]
          simp
      refine ⟨_, rfl, _, rfl, ?_⟩
      refine for_it walk_str (fun i σ H1 => ∃ (w2 w3 : Option V), σ = [some (.str z), some (.int ((PySem.NumText.digitsVal ((codes z).take i) : Nat) : Int)), w2, w3] ∧ (∀ c, c ∈ (codes z).take i → 48 ≤ c ∧ c ≤ 57) ∧ H1 = H)
        ⟨_, _, rfl, by simp, rfl⟩ (fun _ _ _ _ _ => trivial) ?_ ?_
      · rintro i x σ H1o H1 hi ⟨w2, w3, rfl, hd, rfl⟩ ⟨rfl, c, hc, rfl⟩
        have hc' : (codes z)[i]? = some c := by rw [Array.getElem?_toList]; exact hc
        have hc128 := h128 c (List.mem_of_getElem? hc')
        have hfd := find_dig c hc128
        refine ⟨⟨_, rfl⟩, _, rfl, _, _, rfl, rfl, ?_⟩
        refine ⟨_, rfl, _, _, rfl, rfl, _, rfl, ?_⟩
        by_cases q : 48 ≤ c ∧ c ≤ 57
        · rw [if_pos q] at hfd
          refine ite2 (fun y => absurd (of_decide_eq_true y) (by show ¬ PySem.Txt.find digS ⟨#[c]⟩ < 0; rw [hfd]; omega)) (fun _ => ?_)
          refine ⟨_, rfl, _, _, rfl, rfl, .inr ⟨by decide, by decide⟩, _, rfl, _, _, rfl, rfl, ?_⟩
          refine ⟨some (.str ⟨#[c]⟩), some (.int (PySem.Txt.find digS ⟨#[c]⟩)), ?_, fun d hd' => ?_, rfl⟩
          · rw [take_snoc hc', val_snoc]
            show _ = [some (V.str z), some (V.int ((PySem.NumText.digitsVal ((codes z).take i) * 10 + (c - 48) : Nat) : Int)), _, _]
            have e : ((PySem.NumText.digitsVal ((codes z).take i) : Nat) : Int) * 10 + PySem.Txt.find digS ⟨#[c]⟩ = ((PySem.NumText.digitsVal ((codes z).take i) * 10 + (c - 48) : Nat) : Int) := by
              rw [hfd]
              omega
            rw [← e]
            rfl
          · rw [take_snoc hc'] at hd'
            rcases List.mem_append.mp hd' with y | y
            · exact hd d y
            · rw [List.mem_singleton.mp y]
              exact q
        · rw [if_neg q] at hfd
          refine ite2 (fun _ => ?_) (fun y => absurd (decide_eq_true (by show PySem.Txt.find digS ⟨#[c]⟩ < 0; rw [hfd]; decide)) y)
          have : isNumB z = false := by
            rw [fin]
            exact List.all_eq_false.mpr ⟨c, List.mem_of_getElem? hc', by simp only [decide_eq_true_eq]; exact q⟩
          rw [this] at k
          exact k
      · rintro σ H1 ⟨w2, w3, rfl, hd, rfl⟩
        have ht : (codes z).take z.cps.size = codes z := List.take_of_length_le (by rw [codes_len]; exact Nat.le_refl _)
        rw [ht] at hd ⊢
        have : isNumB z = true := by
          rw [fin]
          exact List.all_eq_true.mpr fun c hc => decide_eq_true (hd c hc)
        rw [if_pos this] at k
        exact ⟨_, rfl, k⟩

theorem ok_law_holds {f : Addr} {fd : FuncData} (F : Fun K "_law_holds" "_law_holds" s_law_holds f fd) (T : Txt K mg) {C_BadName : Addr} (g_BadName : mg "BadName" = some (.ref C_BadName)) {C_BadNumber f_BadNumber cda_BadNumber cc_BadNumber : Addr} {fd_BadNumber : FuncData} (E_BadNumber : ErrC P K mg "BadNumber" "BadNumber.__init__" C_BadNumber f_BadNumber cda_BadNumber cc_BadNumber) (G_BadNumber : FnOk P w K mg base CX0 2 f_BadNumber fd_BadNumber PBadNumber___init__ (spBadNumber C_BadNumber)) (b_BadNumber : Binds K fd_BadNumber PBadNumber___init__ []) (hNN : PySem.W.kitOne K (.ref C_BadNumber) (.ref C_BadName) = some false) (C_read : ∃ (g : Addr) (gd : FuncData), FnOk P w K mg base (L2.CX P w) 4 g gd Pread_number (spread_number C_BadNumber) ∧ mg "read_number" = some (.ref g) ∧ PySem.W.keepIn K (.ref g) = true ∧ Binds K gd Pread_number []) (C_law_is_integer : Cal P w K mg base "_law_is_integer" P_law_is_integer 1 sp_law_is_integer) (C_law_due : Cal P w K mg base "_law_due" P_law_due 1 sp_law_due) : FnOk P w K mg base CX0 5 f fd P_law_holds sp_law_holds := by
  obtain ⟨g_law_is_integer, gd_law_is_integer, G_law_is_integer, m_law_is_integer, k_law_is_integer, b_law_is_integer⟩ := C_law_is_integer.ex
  obtain ⟨g_law_due, gd_law_due, G_law_due, m_law_due, k_law_due, b_law_due⟩ := C_law_due.ex
  obtain ⟨gread, gdread, Gread_number, mread_number, kread_number, bread_number⟩ := C_read
  refine F.ok sc_law_holds (fun vs H Q E h => ?_) (fun cdv A outer s H vs Q E hr h => ?_)
  · obtain ⟨z, rfl, hz, k⟩ := h
    rfl
  · obtain ⟨z, rfl, hz, k⟩ := h
    refine ⟨_, (pss_cons (ps_set (i := 1) sc_law_holds.nd rfl (by first | exact Or.inl rfl | exact Or.inr rfl) pe_non)
  (pss_cons (ps_set (i := 2) sc_law_holds.nd rfl (by first | exact Or.inl rfl | exact Or.inr rfl) pe_non)
  (pss_cons (ps_try_keep (i := 3) rfl rfl rfl sc_law_holds.nd rfl rfl ⟨rfl, by decide, Or.inl E_BadNumber.g⟩ takes0 (fun W pn xe tk _ => (pss_one (ps_set (i := 1) sc_law_holds.nd rfl (by first | exact Or.inl rfl | exact Or.inr rfl) (pe_callS Gread_number (hr.mono (by decide)) (by rfl) mread_number kread_number bread_number (fun σ => passAt tk σ) (pa_cons (pv 0) pa_nil))))) (fun a oe cls d pn hz hf => (pss_one (ps_set (i := 2) sc_law_holds.nd rfl (by first | exact Or.inl rfl | exact Or.inr rfl) (pv 3)))))
  (pss_cons (ps_set (i := 4) sc_law_holds.nd rfl (by first | exact Or.inl rfl | exact Or.inr rfl) (pe_call G_law_due (hr.mono (by decide)) (by rfl) m_law_due k_law_due b_law_due .nil pass0 (pa_cons (pv 0) pa_nil)))
  (pss_cons (ps_if (pt_cmpR op_isN (pv 4) pe_non (nomark _))
  (pss_cons (ps_if (PW.pt (pw_or (pt_cmpR op_isN (pv 2) pe_non (nomark _)) (pw_or1 (pt_val (pe_callB (id := "isinstance") call_isX (by rfl) T.b_isinstance (by decide +kernel) (pa_cons (pv 2) (pa_cons (pe_glob (v := .ref C_BadName) rfl g_BadName rfl) pa_nil)))))))
  (pss_one (ps_ret pe_bl))
  pss_nil)
  (pss_one (ps_ret (pe_and (pe_cmpR op_eq (pe_ev (pv 2)) pe_str (nomark _)) (pe_one (pe_cmpR op_eq (pe_ev (pv 2)) (pv 0) (nomark _)))))))
  pss_nil)
  (pss_one (ps_ret (pe_and (pe_cmpR op_isN (pv 2) pe_non (nomark _)) (pe_and (pe_call G_law_is_integer (hr.mono (by decide)) (by rfl) m_law_is_integer k_law_is_integer b_law_is_integer .nil pass0 (pa_cons (pv 1) pa_nil)) (pe_one (pe_cmpR op_eq (pv 1) (pv 4) (nomark _)))))))))))), ?_⟩
    have hz1 := hz.1
    have hr20 := hz.repr (Nat.le_refl _)
    refine ⟨_, rfl, z, rfl, hz1, hr20, fun hT H1 s1 => ?_, fun hF d H1 nd s1 hd => ⟨true, E_BadNumber.exm, fun _ a na => ⟨_, rfl, ?_⟩, fun q => by cases q⟩⟩
    · refine ⟨_, rfl, z, rfl, hz1, hz.2, ?_⟩
      rw [if_pos hT]
      refine ⟨_, rfl, rfl, _, rfl, ?_⟩
      refine ite2 (fun y => absurd (of_decide_eq_true y) (by intro y; cases y)) (fun _ => ?_)
      refine ⟨_, rfl, rfl, _, rfl, ?_⟩
      refine ite2 (fun _ => ?_) (fun y => absurd (decide_eq_true rfl) y)
      refine ⟨_, rfl, _, rfl, _, rfl, iteT ?_⟩
      refine ⟨_, rfl, _, rfl, rfl, ?_⟩
      have e : decide (V.int ((PySem.NumText.digitsVal (codes z) : Nat) : Int) = V.int ((PySem.NumText.digitsVal (codes z) : Nat) : Int)) = true := decide_eq_true rfl
      show Q (.bl (decide (V.int ((PySem.NumText.digitsVal (codes z) : Nat) : Int) = V.int ((PySem.NumText.digitsVal (codes z) : Nat) : Int)))) _
      rw [e]
      exact k H1 s1
    · refine ⟨_, rfl, z, rfl, hz1, hz.2, ?_⟩
      rw [if_neg (by rw [hF]; exact Bool.false_ne_true)]
      have nda : d ≠ a := ne_of_none hd na
      have s2 : Same H (upd H1 a (exv (.ref C_BadNumber) (some d) a)) := s1.trans (Same.new na)
      have hd2 : (upd H1 a (exv (.ref C_BadNumber) (some d) a)) d = some (.xd [("value", .str z), ("what", .str "number")]) := by rw [upd_ne nda]; exact hd
      refine ⟨_, rfl, rfl, _, rfl, ?_⟩
      refine ite2 (fun _ => ?_) (fun y => absurd (decide_eq_true rfl) y)
      refine ⟨_, rfl, rfl, _, rfl, ?_⟩
      refine ite2 (fun y => absurd (of_decide_eq_true y) (by intro y; cases y)) (fun _ => ?_)
      refine ⟨_, rfl, a, C_BadNumber, some d, _, .ref C_BadName, false, rfl, .own _, E_BadNumber.isx, upd_same, (fun dd e => by cases e; exact ⟨_, hd2⟩), hNN, false, rfl, iteF ?_⟩
      refine ⟨_, rfl, a, C_BadNumber, d, _, _, rfl, E_BadNumber.xf, E_BadNumber.noWhat, upd_same, hd2, look_what, rfl, _, rfl, ?_⟩
      refine ite2 (fun _ => ?_) (fun y => absurd (decide_eq_true rfl) y)
      refine ⟨_, rfl, a, C_BadNumber, d, _, _, rfl, E_BadNumber.xf, E_BadNumber.noValue, upd_same, hd2, look_val, _, rfl, rfl, ?_⟩
      have e : decide (V.str z = V.str z) = true := decide_eq_true rfl
      show Q (.bl (decide (V.str z = V.str z))) _
      rw [e]
      exact k _ s2
end
end Wb

namespace Wb
open PySem PySem.Spec PyProof.Rows L2 Wx NdefX
section
variable {P : Program} {w : World} {K : PySem.W.Frag} {mg : Str → Option Value} {base : Heap}

theorem oklaw {f : Addr} {fd : FuncData} (F : Fun K "law" "law" slaw f fd) (T : Txt K mg) (C_law_start : Cal P w K mg base "_law_start" P_law_start 1 (sp_law_start K)) (C_law_draw : Cal P w K mg base "_law_draw" P_law_draw 1 (sp_law_draw K)) (C_law_holds : Cal P w K mg base "_law_holds" P_law_holds 5 sp_law_holds) : FnOk P w K mg base CX0 6 f fd Plaw (splaw K) := by
  obtain ⟨g_law_start, gd_law_start, G_law_start, m_law_start, k_law_start, b_law_start⟩ := C_law_start.ex
  obtain ⟨g_law_draw, gd_law_draw, G_law_draw, m_law_draw, k_law_draw, b_law_draw⟩ := C_law_draw.ex
  obtain ⟨g_law_holds, gd_law_holds, G_law_holds, m_law_holds, k_law_holds, b_law_holds⟩ := C_law_holds.ex
  refine F.ok sclaw (fun vs H Q E h => ?_) (fun cdv A outer s H vs Q E hr h => ?_)
  · obtain ⟨a, ns, rfl, hS, hlen, k⟩ := h
    rfl
  · obtain ⟨a, ns, rfl, hS, hlen, k⟩ := h
    refine ⟨_, (pss_cons (ps_set (i := 1) sclaw.nd rfl (by first | exact Or.inl rfl | exact Or.inr rfl) (pe_call G_law_start (hr.mono (by decide)) (by rfl) m_law_start k_law_start b_law_start .nil pass0 (pa_cons (pv 0) pa_nil)))
  (pss_cons (ps_set (i := 2) sclaw.nd rfl (by first | exact Or.inl rfl | exact Or.inr rfl) pe_str)
  (pss_cons (ps_for PassesOwn.never rfl (pi_range1 rfl T.b_range (pa_cons (pe_call G_law_draw (hr.mono (by decide)) (by rfl) m_law_draw k_law_draw b_law_draw .nil pass0 (pa_cons (pv 0) (pa_cons (pv 1) (pa_cons pe_int pa_nil)))) pa_nil)) (pg_name (i := 3) sclaw.nd rfl (by first | exact Or.inl rfl | exact Or.inr rfl))
  (pss_one (ps_set (i := 2) sclaw.nd rfl (by first | exact Or.inl rfl | exact Or.inr rfl) (pe_op op_add_str (pv 2) (pe_callTy (T := "str") call_str_int (by rfl) T.b_str (by decide +kernel) (pa_cons (pe_call G_law_draw (hr.mono (by decide)) (by rfl) m_law_draw k_law_draw b_law_draw .nil pass0 (pa_cons (pv 0) (pa_cons (pv 1) (pa_cons pe_int pa_nil)))) pa_nil))))))
  (C8.pss_cut (ps_if (pt_cmpR op_eq (pe_call G_law_draw (hr.mono (by decide)) (by rfl) m_law_draw k_law_draw b_law_draw .nil pass0 (pa_cons (pv 0) (pa_cons (pv 1) (pa_cons pe_int pa_nil)))) pe_int (nomark _))
  (pss_one (ps_set (i := 2) sclaw.nd rfl (by first | exact Or.inl rfl | exact Or.inr rfl) (pe_op op_add_str pe_str (pv 2))))
  pss_nil)
  (C8.pss_cut (ps_if (PW.pt (pw_and (pt_cmpR op_eq (pe_call G_law_draw (hr.mono (by decide)) (by rfl) m_law_draw k_law_draw b_law_draw .nil pass0 (pa_cons (pv 0) (pa_cons (pv 1) (pa_cons pe_int pa_nil)))) pe_int (nomark _)) (pw_and1 (pt_cmpR op_gt (pe_callB call_len_str (by rfl) T.b_len PySem.boot_len (pa_cons (pv 2) pa_nil)) pe_int (nomark _)))))
  (pss_cons (ps_set (i := 4) sclaw.nd rfl (by first | exact Or.inl rfl | exact Or.inr rfl) pe_str)
  (pss_cons (ps_set (i := 5) sclaw.nd rfl (by first | exact Or.inl rfl | exact Or.inr rfl) (pe_call G_law_draw (hr.mono (by decide)) (by rfl) m_law_draw k_law_draw b_law_draw .nil pass0 (pa_cons (pv 0) (pa_cons (pv 1) (pa_cons (pe_callB call_len_str (by rfl) T.b_len PySem.boot_len (pa_cons (pv 2) pa_nil)) pa_nil)))))
  (pss_one (ps_set (i := 2) sclaw.nd rfl (by first | exact Or.inl rfl | exact Or.inr rfl) (pe_op op_add_str (pe_op op_add_str (pe_slice sl_str (pv 2) po_none (po_some (pv 5))) (pe_ix ix_str (pv 4) (pe_call G_law_draw (hr.mono (by decide)) (by rfl) m_law_draw k_law_draw b_law_draw .nil pass0 (pa_cons (pv 0) (pa_cons (pv 1) (pa_cons (pe_callB call_len_str (by rfl) T.b_len PySem.boot_len (pa_cons (pv 4) pa_nil)) pa_nil)))) (fun _ _ => rfl))) (pe_slice sl_str (pv 2) (po_some (pe_op op_add (pv 5) pe_int)) po_none))))))
  pss_nil)
  (pss_cons (ps_set (i := 4) sclaw.nd rfl (by first | exact Or.inl rfl | exact Or.inr rfl) (pe_lst (pa_cons pe_str (pa_cons pe_str (pa_cons pe_str (pa_cons pe_str (pa_cons pe_str (pa_cons pe_str (pa_cons pe_str (pa_cons pe_str (pa_cons pe_str (pa_cons pe_str (pa_cons pe_str (pa_cons pe_str pa_nil))))))))))))))
  (pss_cons (ps_for PassesOwn.never rfl (pi_list (pe_op op_cat (pe_lst (pa_cons (pv 2) pa_nil)) (pv 4))) (pg_name (i := 6) sclaw.nd rfl (by first | exact Or.inl rfl | exact Or.inr rfl))
  (pss_one (ps_if (pt_not (pt_val (pe_call G_law_holds (hr.mono (by decide)) (by rfl) m_law_holds k_law_holds b_law_holds .nil pass0 (pa_cons (pv 6) pa_nil))))
  (pss_one (ps_ret pe_bl))
  pss_nil)))
  (pss_one (ps_ret pe_bl))))))))), ?_⟩
    have TEN : ∀ z : Str, TxtOk 17 z → TxtOk 1000 z := fun z h => h.mono (by decide)
    refine ⟨_, rfl, a, ns, rfl, hS, hlen, fun s0 H1 s1 h0s sc1 => ?_⟩
    refine ⟨_, rfl, _, rfl, a, s0, 7, rfl, sc1, by decide, by decide, fun m H2 m0 m1 f2 sc2 => ⟨_, rfl, by omega, by omega, ?_⟩⟩
    refine for_it walk_range (fun i σ H3 => ∃ (z : Str) (w3 : Option V), σ = [some (.ref a), some (.ref s0), some (.str z), w3, none, none, none] ∧ TxtOk i z ∧ Scr K H3 a s0)
      ⟨"", _, rfl, ⟨Nat.le_refl _, by intro c hc; cases hc⟩, sc2⟩ (fun _ _ _ _ _ => trivial) ?_ ?_
    · rintro i x σ H3o H3 hi ⟨z, w3, rfl, hz, sc3⟩ ⟨rfl, rfl⟩
      refine ⟨_, rfl, _, rfl, _, rfl, a, s0, 10, rfl, sc3, by decide, by decide, fun r H4 r0 r1 f4 sc4 => ?_⟩
      have dt := dig_text r r0 r1
      have hlog : r.natAbs.log2 < 1920 := by
        have : r = 0 ∨ r = 1 ∨ r = 2 ∨ r = 3 ∨ r = 4 ∨ r = 5 ∨ r = 6 ∨ r = 7 ∨ r = 8 ∨ r = 9 := by omega
        rcases this with rfl | rfl | rfl | rfl | rfl | rfl | rfl | rfl | rfl | rfl <;> decide
      refine ⟨_, rfl, hlog, _, _, rfl, rfl, bigN (by have := hz.1; have := dt.1; show z.length + (Str.ofString (toString r)).length ≤ _; omega), ?_⟩
      exact ⟨_, _, rfl, hz.app dt, sc4⟩
    rintro σ H3 ⟨z, w3, rfl, hz, sc3⟩
    have hz6 : TxtOk 7 z := hz.mono (by omega)
    -- if draw == 0: text = '0' + text
    refine ⟨fun σ H => ∃ (z : Str) (w3 : Option V), σ = [some (.ref a), some (.ref s0), some (.str z), w3, none, none, none] ∧ TxtOk 8 z ∧ Scr K H a s0, ?_, ?_⟩
    · refine ⟨_, rfl, _, rfl, a, s0, 4, rfl, sc3, by decide, by decide, fun r H4 r0 r1 f4 sc4 => ⟨rfl, _, rfl, ite2 (fun c => ?_) (fun c => ?_)⟩⟩
      · have t0 : TxtOk 1 ("0" : Str) := ⟨by decide +kernel, by decide +kernel⟩
        exact ⟨_, rfl, _, _, rfl, rfl, bigN (by have := hz6.1; have := t0.1; omega), ⟨_, _, rfl, (t0.app hz6).mono (by decide), sc4⟩⟩
      · exact ⟨z, _, rfl, hz6.mono (by decide), sc4⟩
    rintro σ H4 ⟨z, w3, rfl, hz8, sc4⟩
    -- one sign spoilt
    refine ⟨fun σ H => ∃ (z : Str) (w3 w4 w5 : Option V), σ = [some (.ref a), some (.ref s0), some (.str z), w3, w4, w5, none] ∧ TxtOk 17 z ∧ Scr K H a s0, ?_, ?_⟩
    · refine ⟨_, rfl, _, rfl, a, s0, 3, rfl, sc4, by decide, by decide, fun r H5 r0 r1 f5 sc5 => ⟨rfl, _, rfl, ite2 (fun c => ?_) (fun c => ?_)⟩⟩
      · have hzl : z.length ≤ sizeLine := bigN (by have := hz8.1; omega)
        refine ⟨_, rfl, z, rfl, hzl, _, _, rfl, rfl, _, rfl, ite2 (fun c2 => ?_) (fun c2 => ?_)⟩
        · have c2 := of_decide_eq_true c2
          have od : TxtOk 8 ("-+a .,_\n" : Str) := ⟨by decide +kernel, by decide +kernel⟩
          have odl : ("-+a .,_\n" : Str).length = 8 := by decide +kernel
          refine ⟨_, rfl, _, rfl, _, rfl, z, rfl, hzl, a, s0, _, rfl, sc5, c2, by have := hz8.1; omega, fun at_ H6 p0 p1 f6 sc6 => ?_⟩
          refine ⟨_, rfl, _, rfl, _, rfl, z, rfl, hzl, ?_⟩
          refine ⟨_, rfl, _, rfl, _, rfl, _, rfl, _, rfl, bigN (by rw [odl]; decide), a, s0, _, rfl, sc6, by rw [odl]; decide, by rw [odl]; decide, fun j H7 j0 j1 f7 sc7 => ?_⟩
          rw [odl] at j1
          obtain ⟨jn, rfl⟩ : ∃ jn : Nat, j = (jn : Int) := ⟨j.toNat, by omega⟩
          have hcod : (codes ("-+a .,_\n" : Str)).length = 8 := by rw [codes_len, odl]
          have hj : (codes ("-+a .,_\n" : Str))[jn]? = some (codes ("-+a .,_\n" : Str))[jn] := List.getElem?_eq_getElem (by omega)
          generalize (codes ("-+a .,_\n" : Str))[jn] = cj at hj
          have t1 : TxtOk 1 ⟨#[cj]⟩ := TxtOk.one (od.2 cj (List.mem_of_getElem? hj))
          have ta : TxtOk 9 (cutS z none (some at_) ++ ⟨#[cj]⟩) := hz8.cut.app t1
          have tb : TxtOk 17 (cutS z none (some at_) ++ ⟨#[cj]⟩ ++ cutS z (some (at_ + 1)) none) := ta.app hz8.cut
          have l1 := (hz8.cut (lo := none) (hi := some at_)).1
          have l2 := t1.1
          have l3 := ta.1
          have l4 := (hz8.cut (lo := some (at_ + 1)) (hi := none)).1
          refine ⟨_, _, cj, rfl, rfl, bigN (by rw [odl]; decide), atI_nat hj, _, _, rfl, rfl, bigN (by omega), ?_⟩
          refine ⟨_, rfl, _, rfl, _, _, rfl, rfl, _, rfl, z, rfl, hzl, _, _, rfl, rfl, bigN (by omega), ?_⟩
          exact ⟨_, _, _, _, rfl, tb, sc7⟩
        · exact ⟨z, _, _, _, rfl, hz8.mono (by decide), sc5⟩
      · exact ⟨z, _, _, _, rfl, hz8.mono (by decide), sc5⟩
    rintro σ H5 ⟨z, w3, w4, w5, rfl, hz17, sc5⟩
    refine ⟨(by rw [sizeLine_eq]; decide), fun l hl => ?_⟩
    refine ⟨_, rfl, (by rw [sizeLine_eq]; show 1 ≤ 16777216; decide), fun l1 hl1 => ?_⟩
    have nl : l ≠ l1 := fun e => by rw [← e, upd_same] at hl1; cases hl1
    refine ⟨_, rfl, l1, l, _, _, rfl, rfl, upd_same, (by rw [upd_ne nl]; exact upd_same), (by rw [sizeLine_eq]; show 1 + 12 ≤ 16777216; decide), fun p hp => ?_⟩
    refine ⟨p, rfl, ⟨_, SqL.of upd_same⟩, ?_⟩
    have allT : ∀ y, y ∈ ([z, "", "0", "00", "01", "9999", "10000", " 1", "1 ", "-1", "+1", "1\n", "1_0"] : List Str) → TxtOk 1000 y := fun y hy => by
      rcases List.mem_cons.mp hy with q | q
      · rw [q]
        exact TEN z hz17
      · have key : ∀ y, y ∈ (["", "0", "00", "01", "9999", "10000", " 1", "1 ", "-1", "+1", "1\n", "1_0"] : List Str) → y.length ≤ 17 ∧ ∀ c, c ∈ codes y → c < 128 := by decide +kernel
        exact TEN y (key y q)
    refine for_it (walk_list (xs := ([z, "", "0", "00", "01", "9999", "10000", " 1", "1 ", "-1", "+1", "1\n", "1_0"] : List Str).map V.str)) (fun i σ H6 => ∃ (w6 : Option V), σ = [some (.ref a), some (.ref s0), some (.str z), w3, some (.ref l), w5, w6] ∧ SqL K H6 p (([z, "", "0", "00", "01", "9999", "10000", " 1", "1 ", "-1", "+1", "1\n", "1_0"] : List Str).map V.str))
      ⟨_, rfl, SqL.of (by rw [upd_same]; rfl)⟩ (fun i σ H6 _ ⟨_, _, q⟩ => q) ?_ ?_
    · rintro i x σ H6o H6 hi ⟨w6, rfl, hq⟩ ⟨rfl, hx⟩
      obtain ⟨y, hy, rfl⟩ := map_at hx
      refine ⟨_, rfl, y, rfl, allT y (List.mem_of_getElem? hy), fun H7 s7 => ⟨_, rfl, iteF ?_⟩⟩
      exact ⟨_, rfl, s7.seq hq⟩
    · rintro σ H6 ⟨w6, rfl, hq⟩
      exact k _
end
end Wb

namespace Wb
open PySem PySem.Spec PyProof.Rows L2 Wx NdefX
section
theorem all_mk {l : PySem.W.OpenLaw} {w : World} {K : PySem.W.Frag} {h : Heap} {mg : Str → Option Value} {fa : Addr}
    {oc0 kV0 dc0 pm0 cd0 ct0 : Value} {od0 an0 : Option Addr} {sl0 : Array (Option Value)} {f0 : Addr}
    {oc1 kV1 dc1 pm1 cd1 ct1 : Value} {od1 an1 : Option Addr} {sl1 : Array (Option Value)} {f1 : Addr}
    {oc2 kV2 dc2 pm2 cd2 ct2 : Value} {od2 an2 : Option Addr} {sl2 : Array (Option Value)} {f2 : Addr}
    {oc3 kV3 dc3 pm3 cd3 ct3 : Value} {od3 an3 : Option Addr} {sl3 : Array (Option Value)} {f3 : Addr}
    {oc4 kV4 dc4 pm4 cd4 ct4 : Value} {od4 an4 : Option Addr} {sl4 : Array (Option Value)} {f4 : Addr}
    {oc5 kV5 dc5 pm5 cd5 ct5 : Value} {od5 an5 : Option Addr} {sl5 : Array (Option Value)} {f5 : Addr}
    {oc6 kV6 dc6 pm6 cd6 ct6 : Value} {od6 an6 : Option Addr} {sl6 : Array (Option Value)} {f6 : Addr}
    {oc7 kV7 dc7 pm7 cd7 ct7 : Value} {od7 an7 : Option Addr} {sl7 : Array (Option Value)} {f7 : Addr}
    {oc8 kV8 dc8 pm8 cd8 ct8 : Value} {od8 an8 : Option Addr} {sl8 : Array (Option Value)} {f8 : Addr}
    {t__LONGEST_NUMBER : Tok}
    {t__DIGITS : Tok}
    {nm_BadNumber qn_BadNumber fl_BadNumber : Str} {N_BadNumber C_BadNumber f_BadNumber cda_BadNumber cc_BadNumber : Addr} {bs_BadNumber sub_BadNumber bm_BadNumber : List Value} {sn_BadNumber : List Str} {ab_BadNumber : Bool} {col_BadNumber : Option Bool} {dd_BadNumber od_BadNumber an_BadNumber cdd_BadNumber cld_BadNumber : Option Addr} {m0_BadNumber m1_BadNumber m2_BadNumber m3_BadNumber m5_BadNumber : Option Value} {oc_BadNumber kV_BadNumber doc_BadNumber pm_BadNumber ct_BadNumber ccl_BadNumber clv_BadNumber : Value} {osl_BadNumber ccs_BadNumber csl_BadNumber : Array (Option Value)} {vs_BadNumber : Array Value} {tf_BadNumber : Tok}
    {C_BadName : Addr}
    (X : K.In h) (G : h.Ns mainGlobals mg) (hfa : mg "law" = some (.ref fa))
    (a0 : PySem.W.nsIn K mainGlobals "_shown" = some (some (.ref f0)))
    (l0 : K.lookup f0 = some ⟨oc0, od0, .func (PySem.W.fnOf "_shown" "_shown" (defArgs s_shown) (defBody s_shown) (defScope s_shown) .none kV0 dc0 pm0 an0 cd0 ct0), sl0⟩)
    (c0 : PySem.W.codeIn K cd0 "_shown" = true)
    (k0 : PySem.W.keepIn K (.ref f0) = true)
    (a1 : PySem.W.nsIn K mainGlobals "is_number" = some (some (.ref f1)))
    (l1 : K.lookup f1 = some ⟨oc1, od1, .func (PySem.W.fnOf "is_number" "is_number" (defArgs s_is_number) (defBody s_is_number) (defScope s_is_number) .none kV1 dc1 pm1 an1 cd1 ct1), sl1⟩)
    (c1 : PySem.W.codeIn K cd1 "is_number" = true)
    (k1 : PySem.W.keepIn K (.ref f1) = true)
    (a2 : PySem.W.nsIn K mainGlobals "read_number" = some (some (.ref f2)))
    (l2 : K.lookup f2 = some ⟨oc2, od2, .func (PySem.W.fnOf "read_number" "read_number" (defArgs sread_number) (defBody sread_number) (defScope sread_number) .none kV2 dc2 pm2 an2 cd2 ct2), sl2⟩)
    (c2 : PySem.W.codeIn K cd2 "read_number" = true)
    (k2 : PySem.W.keepIn K (.ref f2) = true)
    (a3 : PySem.W.nsIn K mainGlobals "_law_start" = some (some (.ref f3)))
    (l3 : K.lookup f3 = some ⟨oc3, od3, .func (PySem.W.fnOf "_law_start" "_law_start" (defArgs s_law_start) (defBody s_law_start) (defScope s_law_start) .none kV3 dc3 pm3 an3 cd3 ct3), sl3⟩)
    (c3 : PySem.W.codeIn K cd3 "_law_start" = true)
    (k3 : PySem.W.keepIn K (.ref f3) = true)
    (a4 : PySem.W.nsIn K mainGlobals "_law_draw" = some (some (.ref f4)))
    (l4 : K.lookup f4 = some ⟨oc4, od4, .func (PySem.W.fnOf "_law_draw" "_law_draw" (defArgs s_law_draw) (defBody s_law_draw) (defScope s_law_draw) .none kV4 dc4 pm4 an4 cd4 ct4), sl4⟩)
    (c4 : PySem.W.codeIn K cd4 "_law_draw" = true)
    (k4 : PySem.W.keepIn K (.ref f4) = true)
    (a5 : PySem.W.nsIn K mainGlobals "_law_is_integer" = some (some (.ref f5)))
    (l5 : K.lookup f5 = some ⟨oc5, od5, .func (PySem.W.fnOf "_law_is_integer" "_law_is_integer" (defArgs s_law_is_integer) (defBody s_law_is_integer) (defScope s_law_is_integer) .none kV5 dc5 pm5 an5 cd5 ct5), sl5⟩)
    (c5 : PySem.W.codeIn K cd5 "_law_is_integer" = true)
    (k5 : PySem.W.keepIn K (.ref f5) = true)
    (a6 : PySem.W.nsIn K mainGlobals "_law_due" = some (some (.ref f6)))
    (l6 : K.lookup f6 = some ⟨oc6, od6, .func (PySem.W.fnOf "_law_due" "_law_due" (defArgs s_law_due) (defBody s_law_due) (defScope s_law_due) .none kV6 dc6 pm6 an6 cd6 ct6), sl6⟩)
    (c6 : PySem.W.codeIn K cd6 "_law_due" = true)
    (k6 : PySem.W.keepIn K (.ref f6) = true)
    (a7 : PySem.W.nsIn K mainGlobals "_law_holds" = some (some (.ref f7)))
    (l7 : K.lookup f7 = some ⟨oc7, od7, .func (PySem.W.fnOf "_law_holds" "_law_holds" (defArgs s_law_holds) (defBody s_law_holds) (defScope s_law_holds) .none kV7 dc7 pm7 an7 cd7 ct7), sl7⟩)
    (c7 : PySem.W.codeIn K cd7 "_law_holds" = true)
    (k7 : PySem.W.keepIn K (.ref f7) = true)
    (a8 : PySem.W.nsIn K mainGlobals "law" = some (some (.ref f8)))
    (l8 : K.lookup f8 = some ⟨oc8, od8, .func (PySem.W.fnOf "law" "law" (defArgs slaw) (defBody slaw) (defScope slaw) .none kV8 dc8 pm8 an8 cd8 ct8), sl8⟩)
    (c8 : PySem.W.codeIn K cd8 "law" = true)
    (k8 : PySem.W.keepIn K (.ref f8) = true)
    (z_len : PySem.W.nsIn K mainGlobals "len" = some none)
    (z_abs : PySem.W.nsIn K mainGlobals "abs" = some none)
    (z_int : PySem.W.nsIn K mainGlobals "int" = some none)
    (z_bool : PySem.W.nsIn K mainGlobals "bool" = some none)
    (z_str : PySem.W.nsIn K mainGlobals "str" = some none)
    (z_range : PySem.W.nsIn K mainGlobals "range" = some none)
    (z_all : PySem.W.nsIn K mainGlobals "all" = some none)
    (z_isinstance : PySem.W.nsIn K mainGlobals "isinstance" = some none)
    (z_repr : PySem.W.nsIn K mainGlobals "repr" = some none)
    (z_super : PySem.W.nsIn K mainGlobals "super" = some none)
    (g__LONGEST_NUMBER : PySem.W.nsIn K mainGlobals "_LONGEST_NUMBER" = some (some (.int 4 t__LONGEST_NUMBER)))
    (g__DIGITS : PySem.W.nsIn K mainGlobals "_DIGITS" = some (some (.str "0123456789" t__DIGITS)))
    (g_BadNumber : PySem.W.nsIn K mainGlobals "BadNumber" = some (some (.ref C_BadNumber)))
    (x_BadNumber : K.lookup C_BadNumber = some (excClassObj nm_BadNumber qn_BadNumber C_BadNumber N_BadNumber bs_BadNumber bm_BadNumber true sn_BadNumber sub_BadNumber ab_BadNumber col_BadNumber dd_BadNumber m0_BadNumber m1_BadNumber m2_BadNumber m3_BadNumber m5_BadNumber "ValueError.__new__"))
    (r_BadNumber : PySem.HandSPX.refsVE bm_BadNumber = true)
    (sa_BadNumber : PySem.W.findIn K (.ref C_BadNumber) "__setattr__" = some (some (.builtin "object.__setattr__")))
    (ex_BadNumber : PySem.W.subIn K (.ref C_BadNumber) (.type "BaseException") = some true)
    (ty_BadNumber : PySem.W.typeIn K (.ref C_BadNumber) = some (.type "type"))
    (kp_BadNumber : PySem.W.keepIn K (.ref C_BadNumber) = true)
    (i_BadNumber : PySem.W.findIn K (.ref C_BadNumber) "__init__" = some (some (.ref f_BadNumber)))
    (l_BadNumber : K.lookup f_BadNumber = some ⟨oc_BadNumber, od_BadNumber, .func (PySem.W.fnX "__init__" "BadNumber.__init__" (defArgs sBadNumber___init__) (defBody sBadNumber___init__) (defScope sBadNumber___init__) [("__class__", cc_BadNumber)] .none kV_BadNumber doc_BadNumber pm_BadNumber an_BadNumber (.ref cda_BadNumber) ct_BadNumber), osl_BadNumber⟩)
    (cd_BadNumber : PySem.W.codeIn K (.ref cda_BadNumber) "BadNumber.__init__" = true)
    (cf_BadNumber : K.lookup cda_BadNumber = some ⟨ccl_BadNumber, cdd_BadNumber, .fields vs_BadNumber, ccs_BadNumber⟩)
    (v2_BadNumber : vs_BadNumber[2]? = some (.str fl_BadNumber tf_BadNumber))
    (fi_BadNumber : ((l.prog.main.file : Str) == fl_BadNumber) = true)
    (cl_BadNumber : K.lookup cc_BadNumber = some ⟨clv_BadNumber, cld_BadNumber, .cell (some (.ref C_BadNumber)), csl_BadNumber⟩)
    (mr_BadNumber : PySem.W.mroIn K C_BadNumber (.ref C_BadNumber) = some true)
    (sb_BadNumber : PySem.W.subIn K (.ref C_BadNumber) (.type "ValueError") = some true)
    (su_BadNumber : PySem.W.ks_superIn K C_BadNumber C_BadNumber "__init__" = some (some (.builtin "ValueError.__init__")))
    (ti_BadNumber : PySem.W.typeIn K (.ref f_BadNumber) = some (.type "function"))
    (ga_BadNumber : PySem.W.findIn K (.ref C_BadNumber) "__getattribute__" = some (some (.builtin "BaseException.__getattribute__")))
    (gg_BadNumber : PySem.W.findIn K (.ref C_BadNumber) "__getattr__" = some none)
    (hd_BadNumber : PySem.W.hasDictIn K C_BadNumber = true)
    (ha_BadNumber : PySem.W.findIn K (.ref C_BadNumber) "__class__" = some (some (.builtin "object.__class__")))
    (mo_BadNumber : PySem.W.mroIn K C_BadNumber (.type "object") = some true)
    (em_BadNumber : PySem.W.subIn K (.ref C_BadNumber) (.ref C_BadNumber) = some true)
    (nw_BadNumber : PySem.W.findIn K (.ref C_BadNumber) "what" = some none)
    (nv_BadNumber : PySem.W.findIn K (.ref C_BadNumber) "value" = some none)
    (nn_BadNumber : PySem.W.findIn K (.ref C_BadNumber) "name" = some none)
    (nt_BadNumber : PySem.W.findIn K (.ref C_BadNumber) "turn" = some none)
    (g_BadName : PySem.W.nsIn K mainGlobals "BadName" = some (some (.ref C_BadName)))
    (opq : PySem.W.nsIn K cStatics "thirdparty.any" = some none)
    (htop : (l.prog.main.scope.names.lookup ("super" : Str)).isSome = false)
    (spc : PySem.W.specialIn K (.builtin "object.__class__") "__get__" = some (some (.builtin "getset_descriptor.__get__")))
    (tks : PySem.W.takesIn K (.builtin "object.__class__") = some true)
    (kit0 : PySem.W.kitOne K (.ref C_BadNumber) (.ref C_BadName) = some false) :
    ∃ fd : FuncData, (∀ (s : Shared) (v : Value), BindsTo s fd ⟨[v], []⟩ [("script", v)]) ∧ ∀ base : Heap, K.In base → base.Ns mainGlobals mg → FnOk l.prog w K mg base CX0 6 fa fd ["script"] (splaw K) := by
  have e := hfa.symm.trans (PySem.W.mg_of X G a8)
  cases e
  have T : Txt K mg := ⟨PySem.W.mg_none_of X G z_len, PySem.W.mg_none_of X G z_abs, PySem.W.mg_none_of X G z_int, PySem.W.mg_none_of X G z_bool, PySem.W.mg_none_of X G z_str, PySem.W.mg_none_of X G z_range, PySem.W.mg_none_of X G z_all, PySem.W.mg_none_of X G z_isinstance, PySem.W.mg_none_of X G z_repr, PySem.W.mg_none_of X G z_super, ⟨_, PySem.W.mg_of X G g__LONGEST_NUMBER⟩, ⟨_, PySem.W.mg_of X G g__DIGITS⟩⟩
  have E_BadNumber : ErrC l.prog K mg "BadNumber" "BadNumber.__init__" C_BadNumber f_BadNumber cda_BadNumber cc_BadNumber := ⟨PySem.W.mg_of X G g_BadNumber, ⟨⟨⟨_, _, _, _, _, _, _, _, _, _, _, _, _, _, _, x_BadNumber, r_BadNumber⟩, sa_BadNumber, ex_BadNumber, ty_BadNumber, kp_BadNumber⟩, cd_BadNumber, ⟨_, _, _, _, _, _, cf_BadNumber, v2_BadNumber, fi_BadNumber⟩, ⟨_, _, _, cl_BadNumber⟩, T.b_super, htop, mr_BadNumber, sb_BadNumber, su_BadNumber, opq⟩, i_BadNumber, ti_BadNumber, ⟨ga_BadNumber, gg_BadNumber, ex_BadNumber, hd_BadNumber⟩, ⟨ga_BadNumber, gg_BadNumber, ex_BadNumber, hd_BadNumber, ha_BadNumber, spc, tks, mo_BadNumber⟩, PySem.W.exm_ref ex_BadNumber hd_BadNumber ty_BadNumber em_BadNumber, nw_BadNumber, nv_BadNumber, nn_BadNumber, nt_BadNumber⟩
  have F0 := fun_mk (st := s_shown) l0 c0 k0
  have b0 := F0.binds (ps := P_shown) fun _ _ _ _ _ _ us hl => match us, hl with | [_], _ => rfl
  have F1 := fun_mk (st := s_is_number) l1 c1 k1
  have b1 := F1.binds (ps := P_is_number) fun _ _ _ _ _ _ us hl => match us, hl with | [_], _ => rfl
  have F2 := fun_mk (st := sread_number) l2 c2 k2
  have b2 := F2.binds (ps := Pread_number) fun _ _ _ _ _ _ us hl => match us, hl with | [_], _ => rfl
  have F3 := fun_mk (st := s_law_start) l3 c3 k3
  have b3 := F3.binds (ps := P_law_start) fun _ _ _ _ _ _ us hl => match us, hl with | [_], _ => rfl
  have F4 := fun_mk (st := s_law_draw) l4 c4 k4
  have b4 := F4.binds (ps := P_law_draw) fun _ _ _ _ _ _ us hl => match us, hl with | [_, _, _], _ => rfl
  have F5 := fun_mk (st := s_law_is_integer) l5 c5 k5
  have b5 := F5.binds (ps := P_law_is_integer) fun _ _ _ _ _ _ us hl => match us, hl with | [_], _ => rfl
  have F6 := fun_mk (st := s_law_due) l6 c6 k6
  have b6 := F6.binds (ps := P_law_due) fun _ _ _ _ _ _ us hl => match us, hl with | [_], _ => rfl
  have F7 := fun_mk (st := s_law_holds) l7 c7 k7
  have b7 := F7.binds (ps := P_law_holds) fun _ _ _ _ _ _ us hl => match us, hl with | [_], _ => rfl
  have F8 := fun_mk (st := slaw) l8 c8 k8
  have bI_BadNumber : Binds K (PySem.W.fnX "__init__" "BadNumber.__init__" (defArgs sBadNumber___init__) (defBody sBadNumber___init__) (defScope sBadNumber___init__) [("__class__", cc_BadNumber)] .none kV_BadNumber doc_BadNumber pm_BadNumber an_BadNumber (.ref cda_BadNumber) ct_BadNumber) PBadNumber___init__ [] := .all fun us hl => match us, hl with | [_, _, _], _ => rfl
  refine ⟨PySem.W.fnOf "law" "law" (defArgs slaw) (defBody slaw) (defScope slaw) .none kV8 dc8 pm8 an8 cd8 ct8, fun s v => .of_eq rfl, fun base _ _ => ?_⟩
  have C_shown := Cal.mk (ok_shown (P := l.prog) (w := w) (base := base) F0 T) (PySem.W.mg_of X G a0) k0 b0
  have G_BadNumber := okBadNumber___init__ (P := l.prog) (w := w) (base := base) l_BadNumber E_BadNumber T C_shown
  have C_is_number := Cal.mk (ok_is_number (P := l.prog) (w := w) (base := base) F1 T) (PySem.W.mg_of X G a1) k1 b1
  have Gr := okread_number (P := l.prog) (w := w) (base := base) F2 T E_BadNumber G_BadNumber bI_BadNumber C_is_number
  have C_law_start := Cal.mk (ok_law_start (P := l.prog) (w := w) (base := base) F3 T) (PySem.W.mg_of X G a3) k3 b3
  have C_law_draw := Cal.mk (ok_law_draw (P := l.prog) (w := w) (base := base) F4 T) (PySem.W.mg_of X G a4) k4 b4
  have C_law_is_integer := Cal.mk (ok_law_is_integer (P := l.prog) (w := w) (base := base) F5 T) (PySem.W.mg_of X G a5) k5 b5
  have C_law_due := Cal.mk (ok_law_due (P := l.prog) (w := w) (base := base) F6 T) (PySem.W.mg_of X G a6) k6 b6
  have C_law_holds := Cal.mk (ok_law_holds (P := l.prog) (w := w) (base := base) F7 T (PySem.W.mg_of X G g_BadName) E_BadNumber G_BadNumber bI_BadNumber kit0 ⟨_, _, Gr, PySem.W.mg_of X G a2, k2, b2⟩ C_law_is_integer C_law_due) (PySem.W.mg_of X G a7) k7 b7
  exact oklaw (P := l.prog) (w := w) (base := base) F8 T C_law_start C_law_draw C_law_holds
theorem walk {l : PySem.W.OpenLaw} {q : Program} {loose : List Str} {XP : (Str → Option Value) → Heap → Prop} {YP : World → Heap → Prop} {d : DefRec} {K : Params → PySem.W.Frag} (hn : l.most = some 63) (hdf : d.params.defaults = [])
    (hY : ∀ (w : World) (h : Heap), YP w h → (K w.params).In h)
    (F : ∀ (w : World) (mg : Str → Option Value) (fa : Addr) (h : Heap), (K w.params).In h → h.Ns mainGlobals mg → mg d.name = some (.ref fa) →
      ∃ fd : FuncData, (∀ (s : Shared) (u : Value), BindsTo s fd ⟨[u], []⟩ [("script", u)]) ∧ ∀ base : Heap, (K w.params).In base → base.Ns mainGlobals mg → FnOk l.prog w (K w.params) mg base CX0 6 fa fd ["script"] (splaw (K w.params))) :
    PySem.W.WalkO q loose XP YP l.row.toRowW d [] (fun f vs => PySem.call f vs) :=
  L2.walk_of (n := 63) (k := 6) (x := "script") (CX := fun _ => CX0) (sp := fun w => splaw (K w.params)) hn (by decide) hdf ⟨rfl, by decide, by decide⟩ hY F (fun _ _ a ns hl _ hS => ⟨a, ns, rfl, hS, hl, fun _ => rfl⟩) fun _ _ _ _ _ z => z
end
end Wb
open PySem PySem.W PyProof.Rows in
set_option maxRecDepth 100000 in
set_option maxHeartbeats 0 in
theorem PySem.Challenge.cw_waterbyturns_k02_read_number_holds : PySem.Challenge.rw_waterbyturns_k02_read_number.Holds := by
  w_on; o_law; k_head; (case hw => w_witness2)
  k_fill
  refine Wb.walk (l := PySem.Challenge.rw_waterbyturns_k02_read_number) rfl rfl (fun w h Y => PySem.W.kIn_of Y) ?F
  case F =>
    intro w mg fa h KX G hmg
    refine' Wb.all_mk KX G hmg ?a0 ?l0 ?c0 ?k0 ?a1 ?l1 ?c1 ?k1 ?a2 ?l2 ?c2 ?k2 ?a3 ?l3 ?c3 ?k3 ?a4 ?l4 ?c4 ?k4 ?a5 ?l5 ?c5 ?k5 ?a6 ?l6 ?c6 ?k6 ?a7 ?l7 ?c7 ?k7 ?a8 ?l8 ?c8 ?k8 ?z_len ?z_abs ?z_int ?z_bool ?z_str ?z_range ?z_all ?z_isinstance ?z_repr ?z_super ?g__LONGEST_NUMBER ?g__DIGITS ?g_BadNumber ?x_BadNumber ?r_BadNumber ?sa_BadNumber ?ex_BadNumber ?ty_BadNumber ?kp_BadNumber ?i_BadNumber ?l_BadNumber ?cd_BadNumber ?cf_BadNumber ?v2_BadNumber ?fi_BadNumber ?cl_BadNumber ?mr_BadNumber ?sb_BadNumber ?su_BadNumber ?ti_BadNumber ?ga_BadNumber ?gg_BadNumber ?hd_BadNumber ?ha_BadNumber ?mo_BadNumber ?em_BadNumber ?nw_BadNumber ?nv_BadNumber ?nn_BadNumber ?nt_BadNumber ?g_BadName ?opq ?htop ?spc ?tks ?kit0
    (case a0 => k_is)
    (case l0 => k_is)
    (case c0 => k_is)
    (case k0 => k_is)
    (case a1 => k_is)
    (case l1 => k_is)
    (case c1 => k_is)
    (case k1 => k_is)
    (case a2 => k_is)
    (case l2 => k_is)
    (case c2 => k_is)
    (case k2 => k_is)
    (case a3 => k_is)
    (case l3 => k_is)
    (case c3 => k_is)
    (case k3 => k_is)
    (case a4 => k_is)
    (case l4 => k_is)
    (case c4 => k_is)
    (case k4 => k_is)
    (case a5 => k_is)
    (case l5 => k_is)
    (case c5 => k_is)
    (case k5 => k_is)
    (case a6 => k_is)
    (case l6 => k_is)
    (case c6 => k_is)
    (case k6 => k_is)
    (case a7 => k_is)
    (case l7 => k_is)
    (case c7 => k_is)
    (case k7 => k_is)
    (case a8 => k_is)
    (case l8 => k_is)
    (case c8 => k_is)
    (case k8 => k_is)
    (case z_len => k_is)
    (case z_abs => k_is)
    (case z_int => k_is)
    (case z_bool => k_is)
    (case z_str => k_is)
    (case z_range => k_is)
    (case z_all => k_is)
    (case z_isinstance => k_is)
    (case z_repr => k_is)
    (case z_super => k_is)
    (case g__LONGEST_NUMBER => k_is)
    (case g__DIGITS => k_is)
    (case g_BadNumber => k_is)
    (case x_BadNumber => k_is)
    (case r_BadNumber => first | rfl | decide +kernel)
    (case sa_BadNumber => k_is)
    (case ex_BadNumber => k_is)
    (case ty_BadNumber => k_is)
    (case kp_BadNumber => k_is)
    (case i_BadNumber => k_is)
    (case l_BadNumber => k_is)
    (case cd_BadNumber => k_is)
    (case cf_BadNumber => k_is)
    (case v2_BadNumber => first | rfl | decide +kernel)
    (case fi_BadNumber => first | rfl | decide +kernel)
    (case cl_BadNumber => k_is)
    (case mr_BadNumber => k_is)
    (case sb_BadNumber => k_is)
    (case su_BadNumber => ks_is)
    (case ti_BadNumber => k_is)
    (case ga_BadNumber => k_is)
    (case gg_BadNumber => k_is)
    (case hd_BadNumber => k_is)
    (case ha_BadNumber => k_is)
    (case mo_BadNumber => k_is)
    (case em_BadNumber => k_is)
    (case nw_BadNumber => k_is)
    (case nv_BadNumber => k_is)
    (case nn_BadNumber => k_is)
    (case nt_BadNumber => k_is)
    (case g_BadName => k_is)
    (case opq => k_is)
    (case htop => first | rfl | decide +kernel)
    (case spc => k_is)
    (case tks => k_is)
    (case kit0 => first | k_is | kit_is)

