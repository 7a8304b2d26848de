import PyProof.Rows.All
import Wide.All
import OpenK.AllK
import Wide.FinOn
import HandS.ForMost
import HandS.Exc
import HandS.ExcInit
import HandS.Nested
import HandS.WordsExc
import KE.KExcSuper
import HandS.ExcIs
import HandS.ExcField
import HandS.IsInst
import HandS.FStr
import HandS.RaiseMore
import KE.KExcIs
import PyProof.NeKinds
import PyProof.CallStr
import HandS.Text
import PyProof.InstNe
import HandS.SlotsOwn
import HandS.OwnEq
import KE.KCallOwn
import HandS.Zip
import HandS.Walk
import HandS.Star
import PyProof.Rows.FinIter
import KE.KOpsOwn
import OpenK.KMeth
import OpenK.KOps
import PyProof.TwoTypes
import PyProof.FactsAll.int_1
import KE.GoesMore
import PyProof.Draws
import PyProof.EnumMake
import HandS.Iter
import HandS.ClsMeth
import HandS.ExcOwn
import KE.IntTextLaws
import HandS.Codes
import PySem.Challenge.RW_waterbyturns_k83_kinds_of_errors
set_option Elab.async false
set_option linter.all false
set_option maxRecDepth 100000
set_option maxHeartbeats 4000000
namespace Wx
open PySem PySem.Spec PyProof.Rows L2 NdefX
/-! super().__init__(..) in the __init__ of an own exception class whose line goes over own classes to ValueError -/
section
variable {prog : Program} {w : World} {A : Around} {E : Value → Shared → Prop} {hp : Heap} {g : Array GenState} {d : Drawn} {t : Nat} {os : OsState}
theorem mw_called {u x t0 : Addr} {us : List Value} {Q : Value → Shared → Prop} {C N : Addr} {nm q : Str} {bs bm : List Value} {hdct : Bool} {sn : List Str} {sub : List Value} {ab : Bool} {col : Option Bool} {dd : Option Addr} {k0 k1 k2 k3 k5 : Option Value}
    (cC : hp.get? C = some (excClassObj nm q C N bs bm hdct sn sub ab col dd k0 k1 k2 k3 k5 "ValueError.__new__")) (cx : hp.get? x = some (PySem.HandSPX.excO C t0)) (cu : hp.get? u = some (PySem.W.kxs_mw "ValueError.__init__" x)) (hl : us.length ≤ sizeLine)
    (fin : ∀ h' t1, (∀ b o, b ≠ x → hp.get? b = some o → h'.get? b = some o) → h'.get? x = some (PySem.HandSPX.excO C t1) → Q .none ⟨h', g, d, t, os⟩) : wpAny (model prog w) A (call (.ref u) us) Q E ⟨hp, g, d, t, os⟩ := by
  refine wpAny_call (codeAny_of_tree ?_)
  show wpAny _ A.in1 (callAny (Value.ref u) (Args.mk us [])) _ _ _
  unfold callAny
  dsimp only
  refine wpAny_bind (wpAny_load cu ?_)
  have mt : (Value.type "method-wrapper" == Value.type "method" || Value.type "method-wrapper" == Value.type "builtin_function_or_method" || Value.type "method-wrapper" == Value.type "method-wrapper") = true := by decide
  simp only [PySem.W.kxs_mw, mt, if_true]
  refine PySem.W.KFB.if_so (by decide) (wpAny_bind (PySem.W.check_bound_init F.excBase_ValueError.toExcCallFacts cC cx rfl (wpAny_bind (wpAny_pure (wpAny_pure ?_)))))
  refine And.intro (plainId_quiet F.excBase_ValueError.init.plain _) (codeAny_builtin F.excBase_ValueError.initEntry ?_)
  exact PySem.W.exc_init_tree (cls := Value.ref C) (t0 := t0) (dv := Option.none) (c2 := Value.none) (c3 := Value.none) (b4 := Value.bool false) cx hl fun h' k e _ => fin h' _ k e
end
/-- the first statement: super().__init__(e, ..) -/
abbrev stSuper (p0 p1 p2 p3 p4 : Pos) (e : Expr) (es : List Expr) : Stmt := .Expr (.Call (.Attribute (.Call (.Name "super" p0) [] [] p1) "__init__" p2) (e :: es) [] p3) p4
abbrev nfS (name qual : Str) (params : Arguments) (body : List Stmt) (scope : Scope) (cc cda : Addr) : NF := ⟨name, qual, params, body, scope, [("__class__", cc)], cda⟩
/-- what the written part says -/
structure SupTxt (P : Program) (K : PySem.W.Frag) (mg : Str → Option Value) (C cda cc : Addr) (qual : Str) : Prop where
  oex : OexC K C
  code : PySem.W.codeIn K (.ref cda) qual = true
  file : ∃ (ccl : Value) (cdd : Option Addr) (vs : Array Value) (ccs : Array (Option Value)) (fl : Str) (tf : Tok), K.lookup cda = some ⟨ccl, cdd, .fields vs, ccs⟩ ∧ vs[2]? = some (.str fl tf) ∧ ((P.main.file : Str) == fl) = true
  cell : ∃ (cl : Value) (cld : Option Addr) (csl : Array (Option Value)), K.lookup cc = some ⟨cl, cld, .cell (some (.ref C)), csl⟩
  sup : mg "super" = none
  top : (P.main.scope.names.lookup ("super" : Str)).isSome = false
  mro : PySem.W.mroIn K C (.ref C) = some true
  subB : PySem.W.subIn K (.ref C) (.type "ValueError") = some true
  ini : PySem.W.ks_superIn K C C "__init__" = some (some (.builtin "ValueError.__init__"))
  opq : PySem.W.nsIn K cStatics "thirdparty.any" = some none
theorem exo_upd {H : Hp} {a C : Addr} {d : Option Addr} (e : H a = some (exo a C d)) : upd H a (exo a C d) = H := by
  funext b
  by_cases hb : b = a
  · rw [hb, upd_same, e]
  · rw [upd_ne hb]
section
variable {CX : CXT} {P : Program} {w : World} {K : PySem.W.Frag} {mg : Str → Option Value} {base : Heap} {name qual : Str} {params : Arguments} {scope : Scope} {dV kV doc pm ct oc : Value} {an od : Option Addr} {osl : Array (Option Value)} {f cda cc C : Addr}
  {N ps : List Str} {k : Nat} {sp : Sp} {e : Expr} {es : List Expr} {rest : List Stmt} {p0 p1 p2 p3 p4 : Pos} {ar : Arg}
theorem fn_super (lk : K.lookup f = some ⟨oc, od, .func (PySem.W.fnX name qual params (stSuper p0 p1 p2 p3 p4 e es :: rest) scope [("__class__", cc)] dV kV doc pm an (.ref cda) ct), osl⟩)
    (T : SupTxt P K mg C cda cc qual) (S : NScope N ps ["__class__"] scope) (hp : (params.posonlyargs ++ params.args).head? = some ar) (har : N[0]? = some ar.arg) (hal : scope.names.lookup ar.arg = some .local) (hks : scope.names.lookup ("super" : Str) = some .globalImplicit)
    (len : ∀ vs H Q E, sp vs H Q E → vs.length = ps.length)
    (hbody : ∀ (A : Around) (outer : List Env) (s : Shared) (H : Hp) (vs : List V) (Q : VK) (E : XK), Room k (A.deeper (envF (nfS name qual params (stSuper p0 p1 p2 p3 p4 e es :: rest) scope cc cda) f s.heap.objs.size)) → sp vs H Q E →
      ∃ ta tr, PA (ncx CX P w K mg base N (nfS name qual params (stSuper p0 p1 p2 p3 p4 e es :: rest) scope cc cda) f A outer s H E) (e :: es) ta ∧ PSs (ncx CX P w K mg base N (nfS name qual params (stSuper p0 p1 p2 p3 p4 e es :: rest) scope cc cda) f A outer s H E) rest tr ∧ ∃ (a : Addr) (vr : List V), vs = .ref a :: vr ∧ H a = some (exo a C none) ∧
        ta (startF N vs [some (.ref C)]) H fun ws H1 => ws.length ≤ 1000 ∧ H1 a = some (exo a C none) ∧ tr { nx := fun _ H' => Q .non H', rt := Q } (startF N vs [some (.ref C)]) H1)
    (hi : ∀ L : Addr, interactive (envF (nfS name qual params (stSuper p0 p1 p2 p3 p4 e es :: rest) scope cc cda) f L) = false := by intros; rfl)
    (hs : ∀ L : Addr, swapsWith (.Call (.Attribute (.Call (.Name "super" p0) [] [] p1) "__init__" p2) (e :: es) [] p3) none p4.line (envF (nfS name qual params (stSuper p0 p1 p2 p3 p4 e es :: rest) scope cc cda) f L) = pure false := by intros; rfl)
    (he : ∀ L : Addr, starEach (e :: es) (envF (nfS name qual params (stSuper p0 p1 p2 p3 p4 e es :: rest) scope cc cda) f L) = (false, eval e (envF (nfS name qual params (stSuper p0 p1 p2 p3 p4 e es :: rest) scope cc cda) f L)) :: starEach es (envF (nfS name qual params (stSuper p0 p1 p2 p3 p4 e es :: rest) scope cc cda) f L) := by intros; rfl)
    (hpl : ∀ L : Addr, (backTo p3 (starEach es (envF (nfS name qual params (stSuper p0 p1 p2 p3 p4 e es :: rest) scope cc cda) f L))).any (·.1) = false := by intros; rfl)
    (hev : ∀ L : Addr, ∃ pl, eval (.Call (.Attribute (.Call (.Name "super" p0) [] [] p1) "__init__" p2) (e :: es) [] p3) (envF (nfS name qual params (stSuper p0 p1 p2 p3 p4 e es :: rest) scope cc cda) f L) = (do
      let ov ← attributeBase (.Call (.Name "super" p0) [] [] p1) "__init__" (envF (nfS name qual params (stSuper p0 p1 p2 p3 p4 e es :: rest) scope cc cda) f L) (eval (.Call (.Name "super" p0) [] [] p1) (envF (nfS name qual params (stSuper p0 p1 p2 p3 p4 e es :: rest) scope cc cda) f L))
      standAt p2.atName
      let r ← holding [ov] (getMethod ov "__init__" pl)
      callWith p3 r.1 r.2 (backTo p3 (starEach (e :: es) (envF (nfS name qual params (stSuper p0 p1 p2 p3 p4 e es :: rest) scope cc cda) f L))) []) := by intros; exact ⟨_, rfl⟩) :
    FnOk P w K mg base CX (k + 1) f (PySem.W.fnX name qual params (stSuper p0 p1 p2 p3 p4 e es :: rest) scope [("__class__", cc)] dV kV doc pm an (.ref cda) ct) ps sp := by
  obtain ⟨clv, cld, csl, hcell⟩ := T.cell
  obtain ⟨ccl, cdd, vsC, ccs, flC, tfC, hcode, hvsC, hfile⟩ := T.file
  refine ⟨len, fun A outer s H args us vs Q E hr e0 hbind r hsp => ?_⟩
  have hl := len _ _ _ _ hsp
  have KX : K.In s.heap := e0.mod.kin.keeps fun b o z => (e0.bs b o z).1
  have lim : s.heap.NoLimit := e0.mod.nolimit.keeps fun b o z => (e0.bs b o z).1
  let F : NF := (nfS name qual params (stSuper p0 p1 p2 p3 p4 e es :: rest) scope cc cda)
  have Hc : H cc = none := (e0.bs cc _ (e0.mod.kin _ _ hcell)).2
  have CA : CellsAt F.cl ["__class__"] [some (V.ref C)] s.heap H := by
    have key : ∀ y c, F.cl.lookup y = some c → y = "__class__" ∧ c = cc := fun y c z => by
      by_cases q : y = "__class__"
      · subst q
        have z : some cc = some c := by simpa [F, List.lookup] using z
        exact ⟨rfl, (Option.some.inj z).symm⟩
      · have : (y == ("__class__" : Str)) = false := by simpa using q
        simp [F, List.lookup, this] at z
    refine ⟨rfl, fun y c z => ?_, fun x y c z z' => ?_, fun i y z => ?_⟩
    · obtain ⟨_, rfl⟩ := key y c z
      exact ⟨Hc, _, _, KX _ _ hcell, rfl⟩
    · rw [(key x c z).1, (key y c z').1]
    · have hi : i = 0 ∧ y = "__class__" := by
        cases i with
        | zero => exact ⟨rfl, (Option.some.inj z).symm⟩
        | succ i => simp at z
      obtain ⟨rfl, rfl⟩ := hi
      refine ⟨cc, by simp [F, List.lookup], fun v hv => ?_⟩
      have hv : V.ref C = v := Option.some.inj (Option.some.inj hv)
      subst hv
      exact ⟨.ref C, rfl, _, KX _ _ hcell, rfl⟩
  refine PySem.ks_codeAny_call_defAt (fd := PySem.W.fnX name qual params (stSuper p0 p1 p2 p3 p4 e es :: rest) scope [("__class__", cc)] dV kV doc pm an (.ref cda) ct) (body := stSuper p0 p1 p2 p3 p4 e es :: rest) (binds := ps.zip us) hr.depth (KX _ _ lk) rfl lim
    (PySem.W.codeRec_of KX T.code) rfl hbind S.nocell (fun y hy => S.par y.1 (List.of_mem_zip hy).1) (fun h₁ hns kp => ?_) S.co S.gen S.kind
  show PySem.wpAt (model P w) (A.deeper (envF F f s.heap.objs.size)) (.func (stSuper p0 p1 p2 p3 p4 e es :: rest) (envF F f s.heap.objs.size)) (execs (stSuper p0 p1 p2 p3 p4 e es :: rest) (envF F f s.heap.objs.size)) _ _ _
  have I : Inv (ncx CX P w K mg base N F f A outer s H E) [] (startF N vs [some (.ref C)]) H { s with heap := h₁, toks := s.toks + (ps.zip us).length } := inv_startN (F := F) S hr.hd e0 hl r CA hns kp
  obtain ⟨ta, tr, hA, hR, a, vr, rfl, ea, hq⟩ := hbody A outer s H vs Q E (hr.deeper _) hsp
  obtain ⟨nm, qn, Nn, bs, bm, sn, sub, ab, col, dd, k0, k1, k2, k3, k5, hC, hbm⟩ := T.oex.cls
  have hcl : PySem.W.clsIn K C = some { name := nm, bases := bs, mro := .ref C :: bm, ns := Nn, qualname := qn, hasDict := true, slotNames := sn, subclasses := sub, abstract := ab, collection := col, hasDel := false } := by unfold PySem.W.clsIn; rw [hC] <;> rfl
  -- the local that holds the object
  have self : ∀ {s1 : Shared} {H1 : Hp} {pins : List (Addr × Obj)}, Inv (ncx CX P w K mg base N F f A outer s H E) pins (startF N (.ref a :: vr) [some (.ref C)]) H1 s1 → ∃ m, s1.heap.Ns (envF F f s.heap.objs.size).locals m ∧ m ar.arg = some (.ref a) := fun J => by
    obtain ⟨m, hm, hl⟩ := J.loc
    obtain ⟨u, ru, hk⟩ := hl 0 ar.arg (.ref a) har rfl (.inl hal)
    refine ⟨m, hm, ?_⟩
    rcases hk with ⟨_, hk⟩ | ⟨hk, _⟩
    · rw [hk]
      exact congrArg some ru
    · exfalso
      have hk : scope.names.lookup ar.arg = some .cell ∨ scope.names.lookup ar.arg = some .free := hk
      rw [hal] at hk
      rcases hk with z | z <;> cases z
  have fin : ∀ {fl : Flow} {s' : Shared}, SP (ncx CX P w K mg base N F f A outer s H E) [] { nx := fun _ H' => Q .non H', rt := Q } fl s' → CR CX outer P w H s Q E (.ok (.ret (match fl with | .ret v => v | _ => .none))) s' := fun {fl s'} hs' => by
    have out : ∀ {σ' : L2.St} {H' : Hp} {v : V} {u : Value}, Inv (ncx CX P w K mg base N F f A outer s H E) [] σ' H' s' → L2.RelV v u → Q v H' → CE outer P w H s Q u s' := fun {σ' H' v u} J rv q => ⟨v, H', J.os, J.bare, J.base, J.hok, rv, q⟩
    cases fl with
    | ret u =>
      obtain ⟨v, σ', H', J, rv, q⟩ := hs'
      exact out J rv q
    | next =>
      obtain ⟨σ', H', J, q⟩ := hs'
      exact out (v := V.non) (u := Value.none) J rfl q
    | brk =>
      obtain ⟨_, _, _, q⟩ := hs'
      exact q.elim
    | cont =>
      obtain ⟨_, _, _, q⟩ := hs'
      exact q.elim
  obtain ⟨pl, hev⟩ := hev s.heap.objs.size
  refine PySem.ks_wpAt_execs_cons (PySem.ks_wpAt_Expr_any (PySem.ks_wpAt_MethodCall (pl := pl) ?_ hev) (hi _) (hs _))
  · obtain ⟨m, hm, hma⟩ := self I
    obtain ⟨oD, hD1, hD2⟩ : ∃ oD, h₁.get? C = some oD ∧ oD.data = .cls { name := nm, bases := bs, mro := .ref C :: bm, ns := Nn, qualname := qn, hasDict := true, slotNames := sn, subclasses := sub, abstract := ab, collection := col, hasDel := false } := ⟨_, I.kIn _ _ hC, rfl⟩
    refine PySem.ks_wpAt_super_base (env := envF F f s.heap.objs.size) hks (S.frk _ (by simp)) rfl rfl (I.kIn _ _ lk) rfl hp rfl (I.kIn _ _ hcode) rfl hvsC hfile T.top ?_
    obtain ⟨mb, hb1, hb2⟩ := I.mod.blt
    refine PySem.W.ks_loadName_global S.kind hks (Calls.loadGlobal_builtin (I.mod.glob.keeps I.bk) T.sup (hb1.keeps I.bk) ((hb2 "super" (by decide)).trans (by decide +kernel : bootBuiltins "super" = some (.type "super"))) ⟨rfl, ?_⟩)
    refine wpAny_loadName_free S.kind (S.frk _ (by simp)) rfl ⟨_, I.kIn _ _ hcell, rfl⟩ ?_
    refine wpAny_loadName_local S.kind hal hm hma ?_
    refine PySem.ks_wpAny_isType_cls hD1 hD2 ⟨rfl, ?_⟩
    obtain ⟨t1, ho⟩ := exo_at I.hok ea
    have IA : PySem.W.InstAt h₁ a { cls := .ref C, dict := none, data := .fields #[.ref t1, .none, .none, .none, .bool false, .none] } C none := ⟨ho, rfl, rfl, trivial⟩
    refine PySem.ks_wpAny_call_super hD1 hD2 ho rfl (fun c z => by cases z) (PySem.W.looks_mroIn I.kIn T.mro) (fun h2 e2 k2 => ?_)
    have J2 : Inv (ncx CX P w K mg base N F f A outer s H E) [] (startF N (.ref a :: vr) [some (.ref C)]) H { s with heap := h2, toks := s.toks + (ps.zip us).length } := I.kept k2
    have ni : PySem.W.alongIn K "__init__" (((Value.ref C :: bm).dropWhile (· != .ref C)).drop 1) = some (some (.builtin "ValueError.__init__")) := by
      have z := T.ini
      unfold PySem.W.ks_superIn at z
      rw [hcl] at z
      exact z
    have ho2 := k2 _ _ ho
    have hI : PySem.W.Looks (model P w) h2 (isInstance (.ref a) (.type "ValueError")) true := (show PySem.W.InstAt h2 a _ C none from ⟨ho2, rfl, rfl, trivial⟩).type.andThen (PySem.W.looks_subIn J2.kIn T.subB)
    refine PySem.W.kxs_getMethod PySem.W.kxs_ValueError e2 (PySem.W.looks_opaque J2.kIn T.opq) ((PySem.W.looks_clsIn J2.kIn hcl).andThen .now) rfl J2.kIn ni hI (PySem.W.ks_ne I.kIn IA hcl) (by decide) ?_
    have J3 : Inv (ncx CX P w K mg base N F f A outer s H E) [] (startF N (.ref a :: vr) [some (.ref C)]) H { s with heap := h2.push (PySem.W.kxs_mw "ValueError.__init__" a), toks := s.toks + (ps.zip us).length + 1 } := J2.kept fun b o z => Heap.get?_push_of_some _ z
    have hmw : (h2.push (PySem.W.kxs_mw "ValueError.__init__" a)).get? h2.objs.size = some (PySem.W.kxs_mw "ValueError.__init__" a) := Heap.get?_push_at rfl rfl
    have J4 : Inv (ncx CX P w K mg base N F f A outer s H E) [(h2.objs.size, PySem.W.kxs_mw "ValueError.__init__" a)] (startF N (.ref a :: vr) [some (.ref C)]) H { s with heap := h2.push (PySem.W.kxs_mw "ValueError.__init__" a), toks := s.toks + (ps.zip us).length + 1 } := by
      refine ⟨J3.ok, J3.os, J3.bare, J3.base, J3.loc, J3.cell, J3.free, J3.freeC, fun p hp => ?_, J3.hok, J3.len⟩
      have hp : p = (h2.objs.size, PySem.W.kxs_mw "ValueError.__init__" a) := by
        have z : p ∈ ([] : List (Addr × Obj)) ++ [(h2.objs.size, PySem.W.kxs_mw "ValueError.__init__" a)] := hp
        simpa using z
      subst hp
      refine ⟨hmw, J2.hok.fresh (Nat.le_refl _), fun z => absurd J2.lt ?_, fun z => ?_, fun v z => by cases z⟩
      · rw [← z]
        exact Nat.lt_irrefl _
      · obtain ⟨_, o1, ho1, _⟩ := J2.ok.funs.mem z
        obtain ⟨o2, ho2'⟩ := J2.base.there _ _ ho1 (fun y => absurd (show _ ∈ ([] : List Addr) from y) (by simp))
        exact absurd (Heap.lt_size ho2') (Nat.lt_irrefl _)
    rw [he s.heap.objs.size]
    refine PySem.W.kxs_callWith (i := "ValueError.__init__") (x := a) (by show (false || (backTo p3 (starEach es (envF F f s.heap.objs.size))).any fun y => y.1) = false; rw [hpl s.heap.objs.size]; rfl) ?_
    refine Calls.evalArgs_plain ?_
    have run := hA.run p3 _ _ _ _ _ J4 hq
    rw [show starEach (e :: es) (ncx CX P w K mg base N F f A outer s H E).env = _ from he s.heap.objs.size] at run
    refine thn run fun us4 s4 hap => ?_
    obtain ⟨ws, H4, I4, r4, hw, ea4, tr4⟩ := hap
    obtain ⟨cu4, _⟩ := I4.pin _ (List.mem_append_right _ List.mem_cons_self)
    refine ⟨cu4, ?_⟩
    obtain ⟨t4, ho4⟩ := exo_at I4.hok ea4
    have hlen4 : us4.length ≤ sizeLine := by
      rw [← Paired.length r4]
      exact Nat.le_of_lt (small1000 hw)
    obtain ⟨h4, g4, d4, tk4, os4⟩ := s4
    refine mw_called (I4.kIn _ _ hC) ho4 cu4 hlen4 fun h5 t5 k5 e5 => ?_
    have I5 := I4.write (t' := tk4) (x := a) (e := a) (o := exo a C none) (by rw [ea4]; exact True.intro) (.inl rfl) k5 ⟨_, e5⟩ (exo_ok e5)
    rw [exo_upd ea4] at I5
    have I6 : Inv (ncx CX P w K mg base N F f A outer s H E) [] (startF N (.ref a :: vr) [some (.ref C)]) H4 ⟨h5, g4, d4, tk4, os4⟩ := ⟨I5.ok, I5.os, I5.bare, I5.base, I5.loc, I5.cell, I5.free, I5.freeC, fun p hp => absurd (show p ∈ ([] : List (Addr × Obj)) ++ [] from hp) (by simp), I5.hok, I5.len⟩
    exact wpAt_of_wpAny (wpAny_mono (hR.run [] _ _ _ _ I6 tr4) (fun fl s' z => fin z) fun _ _ z => z)
end
end Wx

namespace Wx
open PySem PySem.Spec PyProof.Rows L2
/-! a caught exception that is kept behind its except suite -/
/-- at a: an exception of the class cls, its dict d -/
def exv (cls : Value) (d : Option Addr) (a : Addr) : HO := .ext fun h => ∃ (oe : Obj) (vs : Array Value), h.get? a = some oe ∧ Zc cls d oe ∧ oe.data = .fields vs
theorem exv_ok {P : Program} {w : World} {H : Hp} {h : Heap} {a : Addr} {cls : Value} {d : Option Addr} {oe : Obj} {vs : Array Value} (e : h.get? a = some oe) (z : Zc cls d oe) (q : oe.data = .fields vs) : ObjOk P w H h a (exv cls d a) :=
  ⟨⟨oe, vs, e, z, q⟩, ⟨oe, e⟩, fun _ _ ⟨o, v, x, y⟩ k => ⟨o, v, k o x, y⟩⟩
theorem exv_at {P : Program} {w : World} {H : Hp} {h : Heap} {a : Addr} {cls : Value} {d : Option Addr} (x : HOk P w H h) (e : H a = some (exv cls d a)) : ∃ (oe : Obj) (vs : Array Value), h.get? a = some oe ∧ Zc cls d oe ∧ oe.data = .fields vs := by
  have y : ObjOk P w H h a (.ext fun h => ∃ (oe : Obj) (vs : Array Value), h.get? a = some oe ∧ Zc cls d oe ∧ oe.data = .fields vs) := x a _ e
  exact y.1
section
variable {X : Cx} {pins : List (Addr × Obj)} {σ : L2.St} {H : Hp} {s : Shared}
theorem tracked {a : Addr} {oe : Obj} {vs : Array Value} {cls : Value} {d : Option Addr} (J : Inv X ((a, oe) :: pins) σ H s) (n0 : X.s_0.heap.get? a = none) (np : ∀ p, p ∈ X.pn ++ pins → p.1 ≠ a) (hz : Zc cls d oe) (hd : oe.data = .fields vs) :
    Inv X pins σ (upd H a (exv cls d a)) s := by
  obtain ⟨ga, na, nL, nF, nc⟩ := J.pin (a, oe) (List.mem_append_right _ List.mem_cons_self)
  have ga : s.heap.get? a = some oe := ga
  have na : H a = none := na
  have neS : ∀ {b : Addr} {o : HO}, H b = some o → b ≠ a := fun e => ne_of_none e na
  have ne0 : ∀ {b : Addr} {o : Obj}, X.s_0.heap.get? b = some o → b ≠ a := fun {b o} e z => by
    rw [z, n0] at e
    cases e
  refine ⟨J.ok, J.os, J.bare, ⟨J.base.keep, J.base.slot, fun b o e n x => ?_, J.base.there, fun b xs e => ?_, fun b o u e => ?_, fun b ps e => ?_⟩, J.loc, J.cell, ?_, fun y c e => ?_, fun p hp => ?_, fun b u e => ?_, J.len⟩
  · rw [upd_ne (ne0 e)]
    exact J.base.free b o e n x
  · have q := J.base.tups b xs e
    rw [upd_ne (neS q)]
    exact q
  · have q := J.base.frzs b o u e
    rw [upd_ne (neS q)]
    exact q
  · obtain ⟨ms, q⟩ := J.base.tbls b ps e
    exact ⟨ms, by rw [upd_ne (neS q)]; exact q⟩
  · rw [upd_ne (fun z => nL z.symm)]
    exact J.free
  · have nca : c ≠ a := fun z => by
      obtain ⟨v, o, q1, q2⟩ := J.cell y c e
      rw [z, ga] at q1
      cases q1
      exact nc _ q2
    rw [upd_ne nca]
    exact J.freeC y c e
  · have hm : p ∈ X.pn ++ (a, oe) :: pins := by
      rcases List.mem_append.mp hp with z | z
      · exact List.mem_append_left _ z
      · exact List.mem_append_right _ (List.mem_cons_of_mem _ z)
    obtain ⟨q1, q2, q3, q4, q5⟩ := J.pin p hm
    exact ⟨q1, by rw [upd_ne (np p hp)]; exact q2, q3, q4, q5⟩
  · by_cases hb : b = a
    · subst hb
      rw [upd_same] at e
      cases e
      exact exv_ok ga hz hd
    · rw [upd_ne hb] at e
      exact (J.hok b u e).stay (fun _ _ _ q => q) (fun c q => by rw [upd_ne (neS q)]; exact q) fun c xs q => by rw [upd_ne (neS q)]; exact q
end
/-- what 'except x as n: ..' wishes, the exception kept: slot i is n's -/
def wKeep (K : PySem.W.Frag) (c : Value) (i : Nat) (ts : Addr → Value → Option Addr → TS) (Wout : WX) (D : Ends) : WX := fun cls d σ H =>
  ∃ b, PySem.W.exmOne K cls c = some b ∧ (b = true → ∀ a, H a = none → ts a cls d { nx := fun σ1 H1 => D.nx (σ1.set i none) (upd H1 a (exv cls d a)), rt := fun v H1 => D.rt v (upd H1 a (exv cls d a)), bk := fun σ1 H1 => D.bk (σ1.set i none) (upd H1 a (exv cls d a)), ct := fun σ1 H1 => D.ct (σ1.set i none) (upd H1 a (exv cls d a)) } (σ.set i (some (.ref a))) H) ∧
    (b = false → Wout cls d σ H)
section
variable {X : Cx} {x n : Str} {c : Value} {i : Nat} {body suite : List Stmt} {b₀ : Stmt} {np pos pos' : Pos} {tb : WX → TS} {ts : Addr → Value → Option Addr → TS} {Wout : WX}
theorem ps_try_keep (hex : X.ex = []) (stk : X.stack = X.env :: X.outer) (frm : X.env.frame = some X.env.locals) (nd : X.N.Nodup) (atI : X.N[i]? = some n) (lcl : X.env.kindOf n = some .local) (nms : Names X x c) (tko : Takes X Wout)
    (hbody : ∀ (W : WX) (pn : List (Addr × Obj)) (xe : Value → Shared → Prop), Takes (X.tr pn xe) W → PassesOwn (model X.prog X.w) X.A X.env xe → PSs (X.tr pn xe) body (tb W))
    (hsuite : ∀ (a : Addr) (oe : Obj) (cls : Value) (d : Option Addr) (pn : List (Addr × Obj)), Zc cls d oe → (∃ vs, oe.data = .fields vs) → PSs (X.suite a ((a, oe) :: pn)) (b₀ :: suite) (ts a cls d)) :
    PS X (.Try body [.ExceptHandler (some (.Name x np)) (some n) (b₀ :: suite) pos'] [] [] pos) (fun D σ H => tb (wKeep X.K c i ts Wout D) D σ H) := by
  refine ⟨fun pins s σ H D I0 rd => ?_⟩
  have okX := I0.ok
  have frA : X.A.frames = some (X.env :: X.outer) := okX.frames.trans (congrArg some stk)
  have locN : Loc X.env.scope n := Or.inl lcl
  refine wpAny_Try_except (wpAny_mono ((hbody (wKeep X.K c i ts Wout D) (X.pn ++ pins) (fun e s₁ => wpAny (model X.prog X.w) X.A (noteFrame e X.env) (fun _ s₂ => wpAny (model X.prog X.w) X.A (setFlight e none) (fun _ s₃ =>
      wpAny (model X.prog X.w) X.A (handleBy e X.env [.ExceptHandler (some (.Name x np)) (some n) (b₀ :: suite) pos']) (SP X pins D) X.xe s₃) X.xe s₂) X.xe s₁) (fun u s' caught => ?_) PassesOwn.looking).run [] s σ H D (I0.toTry _) rd) (fun fl s1 done => ?_) (fun _ _ z => z))
  · obtain ⟨a, B, sI, pinsT, σT, HT, cls, d, rfl, JT, nb, upT, skyT, naT, osT, agT, b, hcl, hyes, hno⟩ := caught
    have JX : Inv X pins σT HT sI := Inv.ofTry JT okX
    have skyX : Sky B (X.env :: X.outer) a (Zc cls d) X.env.locals s'.heap := stk ▸ skyT
    show wpAny _ X.A (noteFrame (Value.ref a) X.env) _ _ _
    refine Sky.land Zc.steady frA frm skyX (fun hq flq upq => ?_)
    have Jq : Inv X pins σT HT { s' with heap := hq } := JX.landed nb flq.1 (upT.trans upq) osT agT
    obtain ⟨oeq, vsq, heq, hzq, hdq⟩ := flq.there
    have nfr : a ∉ frs (X.env :: X.outer) := fun hm => by
      obtain ⟨_, o', e', nf'⟩ := flq.2.2.1.mem hm
      have z := heq.symm.trans e'
      cases z
      exact nf' _ hdq
    have nLoc : a ≠ X.env.locals := fun z => nfr (List.mem_filterMap.mpr ⟨X.env, List.mem_cons_self, frm.trans (congrArg some z.symm)⟩)
    have nOut : a ∉ X.fs := fun hm => by
      obtain ⟨ev, hev, qv⟩ := List.mem_filterMap.mp hm
      exact nfr (List.mem_filterMap.mpr ⟨ev, List.mem_cons_of_mem _ hev, qv⟩)
    -- the exception is younger than the frame
    have sInone : sI.heap.get? a = none := by
      cases z : sI.heap.get? a with
      | none => rfl
      | some o =>
        have Bn : B.get? a = none := by
          rcases skyX with ⟨_, q, _⟩ | q | q
          · exact q
          · exact q.2.1
          · exact q.2.1
        have y := nb a o z (fun hm => nfr (by rw [← stk]; exact hm))
        rw [Bn] at y
        cases y
    have s0none : X.s_0.heap.get? a = none := by
      cases z : X.s_0.heap.get? a with
      | none => rfl
      | some o =>
        obtain ⟨o2, y⟩ := JX.base.there a o z (by rw [hex]; simp)
        rw [sInone] at y
        cases y
    have pinNe : ∀ p, p ∈ X.pn ++ pins → p.1 ≠ a := fun p hp z => by
      have y := (JX.pin p hp).1
      rw [z, sInone] at y
      cases y
    have Sq := Jq.suite heq hdq naT nLoc nOut
    refine wpAny_handleBy_cons (codeAny_handlers_test ?_) (by rintro ⟨⟩)
    have LTy : PySem.W.Looks (model X.prog X.w) hq (typeOf (.ref a)) cls := fun A Q E s k q => wpAny_typeOf_ref (k _ _ heq) (hzq.1 ▸ q)
    have LEx := PySem.W.exm_one (M := model X.prog X.w) Jq.kIn LTy hcl
    have tst : ∀ {Q : Value → Shared → Prop} {E : Value → Shared → Prop}, Q c { s' with heap := hq } → wpAny (model X.prog X.w) (X.A.mark (some (.ref a))) (eval (.Name x np) X.env) Q E { s' with heap := hq } := fun {Q E} q => by
      obtain ⟨g1, g2, g3 | ⟨g3, g4, g5⟩⟩ := nms
      · exact ld_glob (X := X.suite a ((a, oeq) :: (X.pn ++ pins))) Sq g1 g3 q g2
      · exact ld_blt (X := X.suite a ((a, oeq) :: (X.pn ++ pins))) Sq g1 g3 g4 q g5 g2
    refine tst (LEx.here ?_)
    cases b with
    | true =>
      refine codeAny_handlers_suite_as (HandSPX.lands_againZ flq fun hr flr upr => ?_)
      have Jr : Inv X pins σT HT { s' with heap := hr } := JX.landed nb flr.1 ((upT.trans upq).trans upr) osT agT
      obtain ⟨oer, vsr, her, hzr, hdr⟩ := flr.there
      have Sr := Jr.suite her hdr naT nLoc nOut
      refine store_ok (X := X.suite a ((a, oer) :: (X.pn ++ pins))) (v := V.ref a) Sr nd atI locN rfl (fun s5 S5 => ?_) (Or.inr lcl)
      refine wpAny_mono ((hsuite a oer cls d (X.pn ++ pins) hzr ⟨_, hdr⟩).run [] s5 _ HT _ S5 (hyes rfl a naT)) (fun fl s6 out => ?_) (fun _ _ z => z.elim)
      have leave : ∀ {σ6 : L2.St} {H6 : Hp} {Q : Shared → Prop}, Inv (X.suite a ((a, oer) :: (X.pn ++ pins))) [] σ6 H6 s6 → (∀ s7, Inv X pins (σ6.set i none) (upd H6 a (exv cls d a)) s7 → Q s7) →
          wpAny (model X.prog X.w) X.A (do bindName X.env n .none; unbindBehindTheSuite X.env n pos') (fun _ s7 => Q s7) X.xe s6 := fun {σ6 H6 Q} S6 hQ => by
        have S7 : Inv X ((a, oer) :: pins) σ6 H6 s6 := ⟨okX, S6.os, S6.bare, S6.base, S6.loc, S6.cell, S6.free, S6.freeC, fun p hp => S6.pin p (by
          rw [List.append_nil]
          rcases List.mem_append.mp hp with z | z
          · exact List.mem_cons_of_mem _ (List.mem_append_left _ z)
          · rcases List.mem_cons.mp z with y | y
            · rw [y]
              exact List.mem_cons_self
            · exact List.mem_cons_of_mem _ (List.mem_append_right _ y)), S6.hok, S6.len⟩
        exact gone_ok S7 nd atI lcl fun s7 J7 => hQ s7 (tracked J7 s0none pinNe hzr hdr)
      cases fl with
      | next =>
        obtain ⟨σ6, H6, S6, q6⟩ := out
        exact leave S6 fun s7 J7 => ⟨_, _, J7, q6⟩
      | brk =>
        obtain ⟨σ6, H6, S6, q6⟩ := out
        exact leave S6 fun s7 J7 => ⟨_, _, J7, q6⟩
      | cont =>
        obtain ⟨σ6, H6, S6, q6⟩ := out
        exact leave S6 fun s7 J7 => ⟨_, _, J7, q6⟩
      | ret u =>
        obtain ⟨v6, σ6, H6, S6, r6, q6⟩ := out
        exact leave S6 fun s7 J7 => ⟨_, _, _, J7, r6, q6⟩
    | false =>
      show wpAny _ X.A (handleBy (Value.ref a) X.env []) _ _ _
      refine wpAny_handleBy_nil ?_
      obtain ⟨z1, z2, z3, oe, vs, T1, oT1, tsT, he, hz, hd, h1, hr1⟩ := id flq
      unfold PySem.passOn
      refine wpAny_bind (wpAny_field he hd h1 ?_)
      rw [if_neg (show ¬ ((Value.ref T1 == Value.none) = true) by simp)]
      have fin : wpAny (model X.prog X.w) X.A (setFlight (.ref a) X.env.frame) (fun _ s4 => wpAny (model X.prog X.w) X.A (throw (.ref a) : Sem Flow) (SP X pins D) X.xe s4) X.xe { s' with heap := hq } := by
        rw [frm]
        exact HandSPX.setFlight_upZ flq fun h4 hh4 up4 => wpAny_throw (tko _ _ ⟨a, B, sI, pins, σT, HT, cls, d, rfl, JX, nb, (upT.trans upq).trans up4, .inr (.inr (by rw [stk]; exact hh4)), naT, osT, agT, hno rfl⟩)
      first
        | exact wpAny_bind (wpAny_pure (wpAny_bind fin))
        | exact wpAny_bind fin
  · cases fl with
    | next =>
      obtain ⟨σ1, H1, J1, q1⟩ := done
      exact wpAny_execs_nil ⟨σ1, H1, J1.ofTry okX, q1⟩
    | brk =>
      obtain ⟨σ1, H1, J1, q1⟩ := done
      exact ⟨σ1, H1, J1.ofTry okX, q1⟩
    | cont =>
      obtain ⟨σ1, H1, J1, q1⟩ := done
      exact ⟨σ1, H1, J1.ofTry okX, q1⟩
    | ret u =>
      obtain ⟨v1, σ1, H1, J1, r1, q1⟩ := done
      exact ⟨v1, σ1, H1, J1.ofTry okX, r1, q1⟩
end
end Wx

namespace Wx
open PySem PySem.Spec PyProof.Rows L2 NdefX
section
variable {X : Cx}
/-- e.n, e a kept exception of an own class -/
def tEv (K : PySem.W.Frag) (n : Str) (te : TE) : TE := fun σ H Q => te σ H fun x H1 => ∃ (a C dd : Addr) (fs : List (Str × V)) (v : V), x = .ref a ∧ XfC K C ∧ PySem.W.findIn K (.ref C) n = some none ∧ H1 a = some (exv (.ref C) (some dd) a) ∧ H1 dd = some (.xd fs) ∧ fs.lookup n = some v ∧ Q v H1
theorem pe_ev {e : Expr} {te : TE} {pos : Pos} {n : Str} (he : PE X e te) (hb : attributeBase e n X.env (eval e X.env) = eval e X.env := by rfl) : PE X (.Attribute e n pos) (tEv X.K n te) := by
  refine ⟨fun pins s σ H Q I h => attr_of hb (thn (he.run pins s σ H _ I h) fun u s1 got => ?_)⟩
  obtain ⟨x, H1, I1, rx, a, C, dd, fs, v, ex, T, hno, ea, ed, hl, q⟩ := got
  subst ex
  obtain rfl : u = Value.ref a := rx
  obtain ⟨oe, vs, ga, hz, hd⟩ := exv_at I1.hok ea
  obtain ⟨mA, hns, hr⟩ : ObjOk X.prog X.w H1 s1.heap dd (.xd fs) := I1.hok dd _ ed
  obtain ⟨od, ho, hlk⟩ := lookIn_ns hns
  obtain ⟨u, hu, ru⟩ := RelO.some_of (v := v) (o := mA n) (by rw [← hl]; exact hr n)
  have inst : PySem.W.InstAt s1.heap a oe C (some od) := ⟨ga, hz.1, by unfold PySem.W.notCls; rw [hd] <;> rfl, by rw [hz.2]; exact ho⟩
  exact HandSPX.exc_get I1.kIn inst T.ga T.gg T.exC (PySem.W.findObj_own T.hdC hno rfl (by rw [hlk, hu])) (handed_of ru) ⟨v, H1, I1.tok _, ru, q⟩
/-- isinstance(e, c), e a kept exception of an own class -/
def rIsX (K : PySem.W.Frag) : List V → Hp → VK → Prop := fun xs H Q => ∃ (a C : Addr) (d : Option Addr) (c : V) (u : Value) (b : Bool), xs = [.ref a, c] ∧ ClsV c u ∧ ExcC K C ∧ H a = some (exv (.ref C) d a) ∧ (∀ dd, d = some dd → ∃ fs, H dd = some (.xd fs)) ∧ PySem.W.kitOne K (.ref C) u = some b ∧ Q (.bl b) H
theorem call_isX : CallR X (.builtin "isinstance") (rIsX X.K) := by
  intro pins s σ H xs us Q I r h
  obtain ⟨a, C, d, c, u, b, rfl, hc, T, ea, hd, hk, q⟩ := h
  cases r with
  | cons r1 r2 =>
    cases r2 with
    | cons r3 r4 =>
      cases r4
      cases r1
      have eu := hc.eq r3
      subst eu
      obtain ⟨oe, vs, ga, hz, hf⟩ := exv_at I.hok ea
      have inst : ∃ od, PySem.W.InstAt s.heap a oe C od := by
        cases d with
        | none => exact ⟨none, ga, hz.1, by unfold PySem.W.notCls; rw [hf] <;> rfl, by rw [hz.2]; trivial⟩
        | some dd =>
          obtain ⟨fs, ed⟩ := hd dd rfl
          obtain ⟨mA, hns, _⟩ : ObjOk X.prog X.w H s.heap dd (.xd fs) := I.hok dd _ ed
          obtain ⟨od, ho, _⟩ := lookIn_ns hns
          exact ⟨some od, ga, hz.1, by unfold PySem.W.notCls; rw [hf] <;> rfl, by rw [hz.2]; exact ho⟩
      obtain ⟨od, inst⟩ := inst
      have hcl : (PySem.W.clsIn X.K C).isSome = true := by
        obtain ⟨cd, hcd, _⟩ := PySem.W.any_some T.hd
        rw [hcd]
        rfl
      exact PySem.W.kia_one (PySem.W.kitx_exc hcl T.hg T.hk T.hs T.ha T.hn T.ht T.hm) I.kIn inst hk (fun z => nomatch z) fun tk => ⟨.bl b, H, I.kept (t' := tk) fun _ _ z => z, rfl, q⟩
theorem call_repr_str : CallR X (.builtin "repr") (fun xs H Q => ∃ z, xs = [.str z] ∧ (reprText z).length ≤ sizeLine ∧ Q (.str (reprText z)) H) := by
  intro pins s σ H xs us Q I r h
  obtain ⟨z, rfl, hz, q⟩ := h
  obtain ⟨u, rfl, t, rfl⟩ := vals1 r
  exact PySem.P.repr_of_str ⟨.str (reprText z), H, I.tok _, ⟨_, rfl⟩, q⟩ hz
end
/-! ### what the errors' modules promise -/
/-- a value that a message can show -/
def ShowOk (x : V) : Prop := (∃ z, x = .str z ∧ (reprText z).length ≤ 20000) ∨ (∃ i, x = .int i) ∨ x = .non ∨ ∃ b, x = .bl b
def sp_shown : Sp := fun vs H Q _ => ∃ x, vs = [x] ∧ ShowOk x ∧ ∀ y : Str, y.length ≤ 20000 → Q (.str y) H
/-- __init__ of an own error: the object at a gets a dict of these fields -/
def InitLeaves (H : Hp) (a C : Addr) (fs : List (Str × V)) (Q : VK) : Prop := ∀ (dx : Addr) (H' : Hp), H dx = none → (∀ b o, b ≠ a → H b = some o → H' b = some o) → H' a = some (exo a C (some dx)) → H' dx = some (exd dx fs) → Q .non H'
def spBadNumber (C : Addr) : Sp := fun vs H Q _ => ∃ (a : Addr) (z : Str) (v : V), vs = [.ref a, .str z, v] ∧ H a = some (exo a C none) ∧ z.length ≤ 1000 ∧ ShowOk v ∧ InitLeaves H a C [("value", v), ("what", .str z)] Q
def spBadName (C : Addr) : Sp := fun vs H Q _ => ∃ (a : Addr) (v : V), vs = [.ref a, v] ∧ H a = some (exo a C none) ∧ ShowOk v ∧ InitLeaves H a C [("name", v)] Q
/-- all that is asked of an own error class -/
structure ErrC (P : Program) (K : PySem.W.Frag) (mg : Str → Option Value) (x qual : Str) (C f cda cc : Addr) : Prop where
  g : mg x = some (.ref C)
  sup : SupTxt P K mg C cda cc qual
  ini : PySem.W.findIn K (.ref C) "__init__" = some (some (.ref f))
  tyI : PySem.W.typeIn K (.ref f) = some (.type "function")
  xf : XfC K C
  isx : ExcC K C
  exm : PySem.W.exmOne K (.ref C) (.ref C) = some true
  noWhat : PySem.W.findIn K (.ref C) "what" = some none
  noValue : PySem.W.findIn K (.ref C) "value" = some none
  noName : PySem.W.findIn K (.ref C) "name" = some none
  noTurn : PySem.W.findIn K (.ref C) "turn" = some none
theorem init_leaves2 {H : Hp} {a C : Addr} {f1 f2 : Str} {v1 v2 : V} {Q : VK} (ha : H a = some (exo a C none)) (k : InitLeaves H a C [(f2, v2), (f1, v1)] Q) {dx : Addr} (nd : H dx = none) (ne : dx ≠ a) :
    Q .non (upd (upd (upd H dx (exd dx [(f1, v1)])) a (exo a C (some dx))) dx (exd dx [(f2, v2), (f1, v1)])) := by
  refine k dx _ nd (fun b o nb e => ?_) ?_ upd_same
  · have nbd : b ≠ dx := ne_of_none e nd
    rw [upd_ne nbd, upd_ne nb, upd_ne nbd]
    exact e
  · rw [upd_ne (Ne.symm ne)]
    exact upd_same
theorem init_leaves1 {H : Hp} {a C : Addr} {f1 : Str} {v1 : V} {Q : VK} (k : InitLeaves H a C [(f1, v1)] Q) {dx : Addr} (nd : H dx = none) (ne : dx ≠ a) : Q .non (upd (upd H dx (exd dx [(f1, v1)])) a (exo a C (some dx))) := by
  refine k dx _ nd (fun b o nb e => ?_) upd_same ?_
  · rw [upd_ne nb, upd_ne (ne_of_none e nd)]
    exact e
  · rw [upd_ne ne]
    exact upd_same
/-- C(..) made: its promise by what __init__ leaves; the exception itself goes, its dict stays -/
theorem made_of {H1 : Hp} {a C : Addr} {fs : List (Str × V)} {Q : XK} (na : H1 a = none) (k : ∀ (d : Addr) (H' : Hp), H1 d = none → Same H1 H' → H' d = some (.xd fs) → Q (.ref C) (some d) H') :
    InitLeaves (upd H1 a (exo a C none)) a C fs (fun v H2 => v = .non ∧ ∃ (d : Addr) (gs : List (Str × V)), H2 a = some (exo a C (some d)) ∧ H2 d = some (exd d gs) ∧ H1 d = none ∧ Q (.ref C) (some d) (upd (del H2 a) d (.xd gs))) := fun dx H' nd keep ha hd => by
  have nda : dx ≠ a := fun z => by
    rw [z, upd_same] at nd
    cases nd
  have nd1 : H1 dx = none := by
    rw [upd_ne nda] at nd
    exact nd
  refine ⟨rfl, dx, fs, ha, hd, nd1, k dx _ nd1 (fun b o e => ?_) upd_same⟩
  have nba : b ≠ a := ne_of_none e na
  rw [upd_ne (ne_of_none e nd1), del_ne nba]
  exact keep b o nba (by rw [upd_ne nba]; exact e)
end Wx

namespace Wx
open PySem PySem.Spec PyProof.Rows L2 NdefX
theorem gives_lt_ib (p : Bool) (b : Int) (u : Tok) : Gives (Builtin.«int.__lt__» ⟨[.bool p, .int b u], []⟩) (.val (Value.bool (decide ((if p = true then (1 : Int) else 0) < b)))) :=
  .of_wp fun M A E s Q h => by obtain ⟨hp, g, d, tk, os⟩ := s; wp_walk; exact ⟨_, rfl, h⟩
theorem gives_gt_ib (p : Bool) (b : Int) (u : Tok) : Gives (Builtin.«int.__gt__» ⟨[.bool p, .int b u], []⟩) (.val (Value.bool (decide ((if p = true then (1 : Int) else 0) > b)))) :=
  .of_wp fun M A E s Q h => by obtain ⟨hp, g, d, tk, os⟩ := s; wp_walk; exact ⟨_, rfl, h⟩
section
variable {prog : Program} {w : World} {A : Around} {E : Value → Shared → Prop} {s : Shared}
theorem lt_bool_int {p : Bool} {b : Int} {u : Tok} {Q : Value → Shared → Prop} (h : Q (.bool (decide (PyProof.Rows.b2i p < b))) s) : wpAny (model prog w) A (compareOp .Lt (.bool p) (.int b u)) Q E s := by
  show wpAny _ A (richCompare .Lt _ _) Q E s
  exact PySem.SeqAt.rc_left_or rfl (typeIs_int s b u) (by decide) F.sub_int_bool F.slot_bool_lt
    (call_gives F.slot_bool_lt rfl F.entry_int_lt (F.args_int_lt_2 _ _) (gives_lt_ib p b u) ⟨nofun, h⟩) (.inl rfl)
theorem lt_int_bool {p : Bool} {a : Int} {t : Tok} {Q : Value → Shared → Prop} (h : Q (.bool (decide (a < PyProof.Rows.b2i p))) s) : wpAny (model prog w) A (compareOp .Lt (.int a t) (.bool p)) Q E s := by
  show wpAny _ A (richCompare .Lt _ _) Q E s
  exact PySem.SeqAt.rc_sub_first_or (typeIs_int s a t) rfl (by decide) F.sub_bool_int F.slot_bool_gt
    (call_gives F.slot_bool_gt rfl F.entry_int_gt (F.args_int_gt_2 _ _) (gives_gt_ib p a t) ⟨nofun, h⟩) (.inl rfl)
end
def nV : V → Option Int | .int i => some i | .bl b => some (if b = true then 1 else 0) | _ => none
section
variable {X : Cx}
theorem op_ltM : OpR X (compareOp .Lt) (fun x y H Q => ∃ i j, nV x = some i ∧ nV y = some j ∧ Q (.bl (decide (i < j))) H) := by
  intro pins s σ H x y v u Q I rx ry h
  obtain ⟨i, j, hx, hy, q⟩ := h
  cases x with
  | int a =>
    obtain rfl : a = i := Option.some.inj hx
    obtain ⟨t, rfl⟩ := rx
    cases y with
    | int b =>
      obtain rfl : b = j := Option.some.inj hy
      obtain ⟨t', rfl⟩ := ry
      exact PyProof.Rows.lt_int (fin_bl I q rfl)
    | bl b =>
      obtain rfl : (if b = true then 1 else 0) = j := Option.some.inj hy
      cases ry
      exact lt_int_bool (fin_bl I q rfl)
    | _ => cases hy
  | bl a =>
    obtain rfl : (if a = true then 1 else 0) = i := Option.some.inj hx
    cases rx
    cases y with
    | int b =>
      obtain rfl : b = j := Option.some.inj hy
      obtain ⟨t', rfl⟩ := ry
      exact lt_bool_int (fin_bl I q rfl)
    | bl b =>
      obtain rfl : (if b = true then 1 else 0) = j := Option.some.inj hy
      cases ry
      exact PyProof.Rows.lt_bool (fin_bl I q rfl)
    | _ => cases hy
  | _ => cases hx
theorem call_str_ib : CallR X (.type "str") (fun xs H Q => (∃ i, xs = [.int i] ∧ i.natAbs.log2 < 1920 ∧ Q (.str (toString i)) H) ∨ ∃ b, xs = [.bl b] ∧ Q (.str (if b = true then "True" else "False")) H) := by
  intro pins s σ H xs us Q I r h
  rcases h with ⟨i, rfl, hz, q⟩ | ⟨b, rfl, q⟩
  · obtain ⟨u, rfl, t, rfl⟩ := vals1 r
    exact PySem.P.str_of_int hz ⟨.str _, H, I.tok _, ⟨_, rfl⟩, q⟩
  · obtain ⟨u, rfl, hu⟩ := vals1 r
    obtain rfl : u = Value.bool b := hu
    exact PySem.P.str_of_bool ⟨.str _, H, I.tok _, ⟨_, by cases b <;> rfl⟩, q⟩
end
end Wx

namespace Wx
open PySem PySem.Spec PyProof.Rows L2 NdefX
/-! == and != by an own __eq__, any answer; C(..) inside a try -/
section
variable {prog : Program} {w : World} {A : Around} {E : Value → Shared → Prop} {K : PySem.W.Frag} {s : Shared} {x C f : Addr} {ox : Obj} {od : Option Obj}
theorem ifBound_B {M : Model} {name : Str} {id : String} {args : List Value} {Q : Option Value → Shared → Prop} (X : K.In s.heap) (I : PySem.W.InstAt s.heap x ox C od) (hs : PySem.W.findIn K (.ref C) name = some (some (.builtin id)))
    (hb : ∀ self, bindSpecial (.builtin id) self = pure (.builtin id, [self]))
    (h : wpAny M A (call (.builtin id) (.ref x :: args)) (fun v => Q (some v)) E s) : wpAny M A (callSpecialIfBound? (.ref x) name args) Q E s := by
  simp only [callSpecialIfBound?, bindSpecialIfBound?]
  refine wpAny_holding (wpAny_bind (wpAny_bind (wpAny_bind (I.type.here ((PySem.W.looks_findIn X hs).here ?_)))))
  refine wpAny_bind (wpAny_askSetting (wpAny_ite ?_))
  have fin : wpAny M A (call (.builtin id) ([.ref x] ++ args) >>= fun v => pure (some v)) Q E s := wpAny_bind (wpAny_mono h (fun v s' h' => wpAny_pure h') fun _ _ h' => h')
  simp only [hb]
  split
  · exact wpAny_bind (wpAny_pure (wpAny_pure (by exact fin)))
  · exact wpAny_tryCatch (wpAny_bind (wpAny_pure (wpAny_pure (by exact fin))))
theorem objNe_K {b : Value} {Q : Fin → Shared → Prop} (X : K.In s.heap) (I : PySem.W.InstAt s.heap x ox C od) (hs : PySem.W.findIn K (.ref C) "__eq__" = some (some (.ref f))) (hf : PySem.W.isFn K (.ref f) = true) (hu : A.units < cLine)
    (h : wpAny (model prog w) A (call (.ref f) [.ref x, b]) (fun v s' => ∃ k, v = .bool k ∧ Q (.done (.ret (.bool (!k)))) s') E s) : wpAny (model prog w) A (Builtin.«object.__ne__» ⟨[.ref x, b], []⟩) Q E s := by
  unfold Builtin.«object.__ne__»
  repeat (first
    | with_reducible refine wpAny_cRoomFor hu ?_
    | (refine wpAny_bind (m := callSpecialIfBound? (.ref x) (Str.ofString "__eq__") [b])
        (PySem.W.ifBound_K X I hs hf (wpAny_mono h (fun r s' hr => by
          obtain ⟨k, rfl, hq⟩ := hr
          repeat (first | exact hq | exact wpAny_pure hq | exact wpAny_truthy_bool hq | (refine wpAny_bind (m := truthy (.bool _)) (wpAny_truthy_bool ?_)) | wp_step)) fun _ _ e => e)))
    | wp_step)
/-- x != y by the class's own __eq__ -/
theorem ne_K {L : Addr} {h₀ : Heap} {m : Str → Option Value} {b tb : Value} {Q : Value → Shared → Prop} (hu : A.units + 1 < cLine) (FR : Fr h₀ L s.heap m) (X₀ : K.In h₀) (I : PySem.W.InstAt s.heap x ox C od) (hb : PySem.W.Looks (model prog w) s.heap (typeOf b) tb) (hn : PySem.W.notFirst K C tb = true)
    (hne : PySem.W.findIn K (.ref C) "__ne__" = some (some (.builtin "object.__ne__"))) (ho : PySem.W.subIn K (.ref C) (.type "object") = some true)
    (hs : PySem.W.findIn K (.ref C) "__eq__" = some (some (.ref f))) (hf : PySem.W.isFn K (.ref f) = true)
    (h : wpAny (model prog w) A.in1 (call (.ref f) [.ref x, b]) (fun v s' => ∃ k, v = .bool k ∧ Q (.bool (!k)) s') E s) : wpAny (model prog w) A (richCompare .NotEq (.ref x) b) Q E s := by
  have X := X₀.keeps FR.keep
  have one : wpAny (model prog w) A (tryCompare (.ref x) "__ne__" b) (fun r s' => ∃ v, r = some v ∧ Q v s') E s := by
    simp only [tryCompare]
    refine wpAny_bind (ifBound_B X I hne F.cmp_object.ne.bind (wpAny_call (codeAny_call_builtin F.cmp_object.ne.plain F.cmpEntry_ne
      (@PySem.W.check_slot (model prog w) _ _ s "object.__ne__" "object" "__ne__" (.ref x) [b] [] _ F.cmpKind_ne F.cmpSplit_ne (I.type.andThen (PySem.W.looks_subIn X ho)) (F.cmpArgs_ne _ _)
        (objNe_K (A := A.in1) X I hs hf hu (wpAny_mono h (fun v s' hv => ?_) fun _ _ e => e))))))
    obtain ⟨k, rfl, hq⟩ := hv
    first | exact ⟨k, rfl, wpAny_pure ⟨_, rfl, hq⟩⟩ | exact ⟨k, rfl, wpAny_pure (wpAny_pure ⟨_, rfl, hq⟩)⟩ | exact ⟨k, rfl, _, rfl, hq⟩
  unfold richCompare
  simp only [oneThing_ref]
  refine wpAny_holding (wpAny_bind (wpAny_cRoomFor (Nat.lt_of_succ_lt hu) ?_))
  rw [cmpInfo_NotEq]
  dsimp only
  refine wpAny_bind (I.type.here (wpAny_bind (hb.here ?_)))
  split
  · rename_i q
    have e : PySem.W.subIn K tb (.ref C) = some false := by
      rcases Bool.or_eq_true_iff.mp hn with e | e
      · rw [beq_iff_eq.mp e] at q; simp at q
      · exact beq_iff_eq.mp e
    refine wpAny_bind ((PySem.W.looks_subIn X e).here ?_)
    simp only [Bool.false_eq_true, if_false]
    refine wpAny_bind (wpAny_mono one (fun r s' z => ?_) fun _ _ e => e)
    obtain ⟨v, rfl, hq⟩ := z
    exact wpAny_pure hq
  · refine wpAny_bind (wpAny_pure ?_)
    simp only [Bool.false_eq_true, if_false]
    refine wpAny_bind (wpAny_mono one (fun r s' z => ?_) fun _ _ e => e)
    obtain ⟨v, rfl, hq⟩ := z
    exact wpAny_pure hq
end
/-- two instances of the class at C -/
def rOwnI (K : PySem.W.Frag) (C : Addr) (sp : Sp) (E : XK) (g : Bool → Bool) : R2 := fun x y H Q => ∃ a dx fs b dy gs, x = .ref a ∧ y = .ref b ∧ H a = some (.ins C dx fs) ∧ H b = some (.ins C dy gs) ∧ sp [x, y] H (fun z H' => ∃ k, z = .bl k ∧ Q (.bl (g k)) H') E
section
variable {X : Cx} {CX : CXT} {C f : Addr} {n : Nat} {fd : FuncData} {ps : List Str} {sp : Sp} {E : XK}
theorem run_two {A : Around} {pins : List (Addr × Obj)} {σ : L2.St} {H : Hp} {s : Shared} {us : List Value} {vs : List V} {Q : VK} (F : FnOk X.prog X.w X.K X.mg X.base CX n f fd ps sp) (hr : Room n A) (e0 : Env0 X.prog X.w X.K X.mg X.base A X.stack s H) (hb : Binds X.K fd ps []) (hx : Passes CX X E)
    (I : Inv X pins σ H s) (r : Vals vs us) (h : sp vs H Q E) : wpAny (model X.prog X.w) A (call (.ref f) us) (EP X pins σ Q) X.xe s := by
  have hl : us.length = ps.length := by rw [← r.length]; exact F.len _ _ _ _ h
  refine wpAny_call (codeAny_mono (F.run A X.stack s H ⟨us, []⟩ us vs Q E hr e0 (by
    have := hb s us I.kIn (by simpa using hl)
    simpa using this) r h) fun r s' hq => ?_)
  cases r with
  | error e => exact hx pins σ H s e s' I hq
  | ok fl =>
    cases fl with
    | ret w => exact I.after hq
    | next => exact False.elim hq
    | brk => exact False.elim hq
    | cont => exact False.elim hq
theorem op_eqI (F : FnOk X.prog X.w X.K X.mg X.base CX n f fd ps sp) (hr : Room n X.A) (hs : PySem.W.findIn X.K (.ref C) "__eq__" = some (some (.ref f))) (hf : PySem.W.isFn X.K (.ref f) = true) (hb : Binds X.K fd ps []) (hx : Passes CX X E) : OpR X (compareOp .Eq) (rOwnI X.K C sp E id) := by
  intro pins s σ H x y v u Q I rx ry h
  obtain ⟨a, dx, fs, b, dy, gs, rfl, rfl, ha, hb', q⟩ := h
  cases (show v = Value.ref a from rx)
  cases (show u = Value.ref b from ry)
  obtain ⟨mA, J, _⟩ := ins_get I.hok ha
  obtain ⟨mB, J', _⟩ := ins_get I.hok hb'
  obtain ⟨od, J, _⟩ := J.look
  obtain ⟨od', J', _⟩ := J'.look
  obtain ⟨m, hF⟩ := I.fr
  show wpAny (model X.prog X.w) X.A (richCompare .Eq _ _) (EP X pins σ Q) X.xe s
  refine PySem.W.cmp_K (op := .Eq) (tb := .ref C) hr.units0 hF I.ok.mod.kin J J'.type (by simp [PySem.W.notFirst]) hs hf ?_
  refine wpAny_mono (run_two (us := [.ref a, .ref b]) (vs := [.ref a, .ref b]) F hr I.env0 hb hx I (.cons rfl (.cons rfl .nil)) q) (fun w s' z => ?_) fun _ _ x => x
  obtain ⟨z', H', I', rz, k, ez, qz⟩ := z
  subst ez
  cases (show w = Value.bool k from rz)
  exact ⟨.bl k, H', I', rfl, qz⟩
theorem op_neI (F : FnOk X.prog X.w X.K X.mg X.base CX n f fd ps sp) (hr : Room (n + 1) X.A) (hne : PySem.W.findIn X.K (.ref C) "__ne__" = some (some (.builtin "object.__ne__"))) (ho : PySem.W.subIn X.K (.ref C) (.type "object") = some true)
    (hs : PySem.W.findIn X.K (.ref C) "__eq__" = some (some (.ref f))) (hf : PySem.W.isFn X.K (.ref f) = true) (hb : Binds X.K fd ps []) (hx : Passes CX X E) : OpR X (compareOp .NotEq) (rOwnI X.K C sp E not) := by
  intro pins s σ H x y v u Q I rx ry h
  obtain ⟨a, dx, fs, b, dy, gs, rfl, rfl, ha, hb', q⟩ := h
  cases (show v = Value.ref a from rx)
  cases (show u = Value.ref b from ry)
  obtain ⟨mA, J, _⟩ := ins_get I.hok ha
  obtain ⟨mB, J', _⟩ := ins_get I.hok hb'
  obtain ⟨od, J, _⟩ := J.look
  obtain ⟨od', J', _⟩ := J'.look
  obtain ⟨m, hF⟩ := I.fr
  show wpAny (model X.prog X.w) X.A (richCompare .NotEq _ _) (EP X pins σ Q) X.xe s
  have hr1 : Room n X.A.in1 := hr.in1
  refine ne_K (tb := .ref C) hr1.units0 hF I.ok.mod.kin J J'.type (by simp [PySem.W.notFirst]) hne ho hs hf ?_
  refine wpAny_mono (run_two (us := [.ref a, .ref b]) (vs := [.ref a, .ref b]) F hr1 I.env0.in1 hb hx I (.cons rfl (.cons rfl .nil)) q) (fun w s' z => ?_) fun _ _ x => x
  obtain ⟨z', H', I', rz, k, ez, qz⟩ := z
  subst ez
  cases (show w = Value.bool k from rz)
  exact ⟨k, rfl, .bl (!k), H', I', rfl, qz⟩
end
section
variable {X : Cx} {CX : CXT} {k : Nat} {f C : Addr} {fd : FuncData} {ps : List Str} {sp : Sp} {E : L2.St → XK} {x : Str} {p pos : Pos} {e : Expr} {es : List Expr} {t : TA}
/-- C(..) where what is raised is wished for at the caller's slots -/
def tMakeS (C : Addr) (sp : Sp) (E : L2.St → XK) (t : TA) : TE := fun σ H Q => t σ H fun vs H1 => ∀ x dx, H1 x = none → H1 dx = none → dx ≠ x → sp (.ref x :: vs) (upd (upd H1 dx (.own x)) x (.ins C dx [])) (fun v H2 => v = .non ∧ Q (.ref x) H2) (E σ)
theorem pe_makeS (M : Mk X.K C f) (F : FnOk X.prog X.w X.K X.mg X.base CX k f fd ps sp) (hr : Room (k + 1) X.A) (hg : Gl X x) (hm : X.mg x = some (.ref C)) (hb : Binds X.K fd ps []) (hx : ∀ σ, PassesAt CX X σ (E σ))
    (ha : PA X (e :: es) t) (hdb : (x == ("__debug__" : Str)) = false := by decide) (he : starEach (e :: es) X.env = (false, eval e X.env) :: starEach es X.env := by rfl) (hpl : (backTo pos (starEach es X.env)).any (·.1) = false := by rfl) :
    PE X (.Call (.Name x p) (e :: es) [] pos) (tMakeS C sp E t) := by
  refine ⟨fun pins s σ H Q I h => ?_⟩
  refine wpAny_Call_Name_kw (ld_glob I hg hm ?_ hdb)
  refine PySem.W.callWith_K (h₀ := X.base) I.ok.mod.kin M.kp (thn (ha.run pos pins s σ H _ I h) fun us s1 ⟨vs, H1, I1, r, q⟩ => ⟨I1.kIn, ?_⟩) he hpl
  have hq := q (s1.heap.objs.size + 1) s1.heap.objs.size (I1.hok.fresh (Nat.le_succ _)) (I1.hok.fresh (Nat.le_refl _)) (Nat.ne_of_lt (Nat.lt_succ_self _))
  have I2 := Inv.made (C := C) I1
  have r2 : Vals (V.ref (s1.heap.objs.size + 1) :: vs) (Value.ref (s1.heap.objs.size + 1) :: us) := .cons rfl r
  have hl : (Value.ref (s1.heap.objs.size + 1) :: us).length = ps.length := by
    have e := r2.length
    rw [F.len _ _ _ _ hq] at e
    exact e.symm
  refine wpAny_call (make_map (f := f) I1.kIn M.makes M.init (beq_iff_eq.mp M.fn) (codeAny_mono (F.run _ X.stack _ _ ⟨Value.ref (s1.heap.objs.size + 1) :: us, []⟩ (Value.ref (s1.heap.objs.size + 1) :: us) _ _ (E σ) (hr.make C us [])
    (I2.env0.make C us []) (by
      have := hb _ (Value.ref (s1.heap.objs.size + 1) :: us) I2.kIn (by simpa using hl)
      simpa using this) r2 hq) fun r s' hq' => ?_))
  cases r with
  | error e => exact hx σ pins _ _ e s' I2 hq'
  | ok fl =>
    cases fl with
    | ret u =>
      obtain ⟨v, H', I3, rv, ev, q3⟩ := I2.after hq'
      subst ev
      exact ⟨rv, ⟨V.ref (s1.heap.objs.size + 1), H', I3, rfl, q3⟩⟩
    | next => exact False.elim hq'
    | brk => exact False.elim hq'
    | cont => exact False.elim hq'
end
end Wx

namespace Wx
open PySem PySem.Spec PyProof.Rows L2 NdefX
def wKeeps (K : PySem.W.Frag) (i : Nat) (Wout : WX) (D : Ends) : List (Value × (Addr → Value → Option Addr → TS)) → WX
  | [] => Wout
  | (c, ts) :: r => fun cls d σ H =>
    ∃ b, PySem.W.exmOne K cls c = some b ∧ (b = true → ∀ a, H a = none → ts a cls d { nx := fun σ1 H1 => D.nx (σ1.set i none) (upd H1 a (exv cls d a)), rt := fun v H1 => D.rt v (upd H1 a (exv cls d a)), bk := fun σ1 H1 => D.bk (σ1.set i none) (upd H1 a (exv cls d a)), ct := fun σ1 H1 => D.ct (σ1.set i none) (upd H1 a (exv cls d a)) } (σ.set i (some (.ref a))) H) ∧
      (b = false → wKeeps K i Wout D r cls d σ H)
inductive HdsKeep (X : Cx) (n : Str) : List ExceptHandler → List (Value × (Addr → Value → Option Addr → TS)) → Prop
  | nil : HdsKeep X n [] []
  | cons {x : Str} {c : Value} {ts : Addr → Value → Option Addr → TS} {b₀ : Stmt} {suite : List Stmt} {np pos' : Pos} {hds : List ExceptHandler} {l : List (Value × (Addr → Value → Option Addr → TS))} (hc : Names X x c)
      (hsu : ∀ (a : Addr) (oe : Obj) (cls : Value) (d : Option Addr) (pn : List (Addr × Obj)), Zc cls d oe → (∃ vs, oe.data = .fields vs) → PSs (X.suite a ((a, oe) :: pn)) (b₀ :: suite) (ts a cls d)) (r : HdsKeep X n hds l) :
      HdsKeep X n (.ExceptHandler (some (.Name x np)) (some n) (b₀ :: suite) pos' :: hds) ((c, ts) :: l)
section
variable {X : Cx} {n : Str} {i : Nat} {body : List Stmt} {h₀ : ExceptHandler} {hds : List ExceptHandler} {l : List (Value × (Addr → Value → Option Addr → TS))} {pos : Pos} {tb : WX → TS} {Wout : WX}
/-- several clauses, each one keeping its exception under the same name -/
theorem ps_try_keeps (hex : X.ex = []) (stk : X.stack = X.env :: X.outer) (frm : X.env.frame = some X.env.locals) (nd : X.N.Nodup) (atI : X.N[i]? = some n) (lcl : X.env.kindOf n = some .local) (tko : Takes X Wout)
    (hbody : ∀ (W : WX) (pn : List (Addr × Obj)) (xe : Value → Shared → Prop), Takes (X.tr pn xe) W → PassesOwn (model X.prog X.w) X.A X.env xe → PSs (X.tr pn xe) body (tb W))
    (hh : HdsKeep X n (h₀ :: hds) l) :
    PS X (.Try body (h₀ :: hds) [] [] pos) (fun D σ H => tb (wKeeps X.K i Wout D l) D σ H) := by
  refine ⟨fun pins s σ H D I0 rd => ?_⟩
  have okX := I0.ok
  have frA : X.A.frames = some (X.env :: X.outer) := okX.frames.trans (congrArg some stk)
  have locN : Loc X.env.scope n := Or.inl lcl
  refine wpAny_Try_except (wpAny_mono ((hbody (wKeeps X.K i Wout D l) (X.pn ++ pins) (fun e s₁ => wpAny (model X.prog X.w) X.A (noteFrame e X.env) (fun _ s₂ => wpAny (model X.prog X.w) X.A (setFlight e none) (fun _ s₃ =>
      wpAny (model X.prog X.w) X.A (handleBy e X.env (h₀ :: hds)) (SP X pins D) X.xe s₃) X.xe s₂) X.xe s₁) (fun u s' caught => ?_) PassesOwn.looking).run [] s σ H D (I0.toTry _) rd) (fun fl s1 done => ?_) (fun _ _ z => z))
  · obtain ⟨a, B, sI, pinsT, σT, HT, cls, d, rfl, JT, nb, upT, skyT, naT, osT, agT, wl⟩ := caught
    have JX : Inv X pins σT HT sI := Inv.ofTry JT okX
    have skyX : Sky B (X.env :: X.outer) a (Zc cls d) X.env.locals s'.heap := stk ▸ skyT
    show wpAny _ X.A (noteFrame (Value.ref a) X.env) _ _ _
    refine Sky.land Zc.steady frA frm skyX (fun hq flq upq => ?_)
    have Jq : Inv X pins σT HT { s' with heap := hq } := JX.landed nb flq.1 (upT.trans upq) osT agT
    obtain ⟨oeq, vsq, heq, hzq, hdq⟩ := flq.there
    have nfr : a ∉ frs (X.env :: X.outer) := fun hm => by
      obtain ⟨_, o', e', nf'⟩ := flq.2.2.1.mem hm
      have z := heq.symm.trans e'
      cases z
      exact nf' _ hdq
    have nLoc : a ≠ X.env.locals := fun z => nfr (List.mem_filterMap.mpr ⟨X.env, List.mem_cons_self, frm.trans (congrArg some z.symm)⟩)
    have nOut : a ∉ X.fs := fun hm => by
      obtain ⟨ev, hev, qv⟩ := List.mem_filterMap.mp hm
      exact nfr (List.mem_filterMap.mpr ⟨ev, List.mem_cons_of_mem _ hev, qv⟩)
    -- the exception is younger than the frame
    have sInone : sI.heap.get? a = none := by
      cases z : sI.heap.get? a with
      | none => rfl
      | some o =>
        have Bn : B.get? a = none := by
          rcases skyX with ⟨_, q, _⟩ | q | q
          · exact q
          · exact q.2.1
          · exact q.2.1
        have y := nb a o z (fun hm => nfr (by rw [← stk]; exact hm))
        rw [Bn] at y
        cases y
    have s0none : X.s_0.heap.get? a = none := by
      cases z : X.s_0.heap.get? a with
      | none => rfl
      | some o =>
        obtain ⟨o2, y⟩ := JX.base.there a o z (by rw [hex]; simp)
        rw [sInone] at y
        cases y
    have pinNe : ∀ p, p ∈ X.pn ++ pins → p.1 ≠ a := fun p hp z => by
      have y := (JX.pin p hp).1
      rw [z, sInone] at y
      cases y
    have Sq := Jq.suite heq hdq naT nLoc nOut
    have LTy : PySem.W.Looks (model X.prog X.w) hq (typeOf (.ref a)) cls := fun A Q E s k q => wpAny_typeOf_ref (k _ _ heq) (hzq.1 ▸ q)
    have go : ∀ (hs : List ExceptHandler) (l : List (Value × (Addr → Value → Option Addr → TS))), HdsKeep X n hs l → wKeeps X.K i Wout D l cls d σT HT → wpAny (model X.prog X.w) X.A (handleBy (Value.ref a) X.env hs) (SP X pins D) X.xe { s' with heap := hq } := by
      intro hs l hk
      induction hk with
      | nil =>
        intro wout
        refine wpAny_handleBy_nil ?_
        obtain ⟨z1, z2, z3, oe, vs, T1, oT1, tsT, he, hz, hd, h1, hr1⟩ := id flq
        unfold PySem.passOn
        refine wpAny_bind (wpAny_field he hd h1 ?_)
        rw [if_neg (show ¬ ((Value.ref T1 == Value.none) = true) by simp)]
        have fin : wpAny (model X.prog X.w) X.A (setFlight (.ref a) X.env.frame) (fun _ s4 => wpAny (model X.prog X.w) X.A (throw (.ref a) : Sem Flow) (SP X pins D) X.xe s4) X.xe { s' with heap := hq } := by
          rw [frm]
          exact HandSPX.setFlight_upZ flq fun h4 hh4 up4 => wpAny_throw (tko _ _ ⟨a, B, sI, pins, σT, HT, cls, d, rfl, JX, nb, (upT.trans upq).trans up4, .inr (.inr (by rw [stk]; exact hh4)), naT, osT, agT, wout⟩)
        first
          | exact wpAny_bind (wpAny_pure (wpAny_bind fin))
          | exact wpAny_bind fin
      | @cons x c ts b₀ suite np pos' hs l nms hsuite hrest ih =>
        intro wl
        obtain ⟨b, hcl, hyes, hno⟩ := wl
        refine wpAny_handleBy_cons (codeAny_handlers_test ?_) (by rintro ⟨⟩)
        have LEx := PySem.W.exm_one (M := model X.prog X.w) Jq.kIn LTy hcl
        have tst : ∀ {Q : Value → Shared → Prop} {E : Value → Shared → Prop}, Q c { s' with heap := hq } → wpAny (model X.prog X.w) (X.A.mark (some (.ref a))) (eval (.Name x np) X.env) Q E { s' with heap := hq } := fun {Q E} q => by
          obtain ⟨g1, g2, g3 | ⟨g3, g4, g5⟩⟩ := nms
          · exact ld_glob (X := X.suite a ((a, oeq) :: (X.pn ++ pins))) Sq g1 g3 q g2
          · exact ld_blt (X := X.suite a ((a, oeq) :: (X.pn ++ pins))) Sq g1 g3 g4 q g5 g2
        refine tst (LEx.here ?_)
        cases b with
        | true =>
          refine codeAny_handlers_suite_as (HandSPX.lands_againZ flq fun hr flr upr => ?_)
          have Jr : Inv X pins σT HT { s' with heap := hr } := JX.landed nb flr.1 ((upT.trans upq).trans upr) osT agT
          obtain ⟨oer, vsr, her, hzr, hdr⟩ := flr.there
          have Sr := Jr.suite her hdr naT nLoc nOut
          refine store_ok (X := X.suite a ((a, oer) :: (X.pn ++ pins))) (v := V.ref a) Sr nd atI locN rfl (fun s5 S5 => ?_) (Or.inr lcl)
          refine wpAny_mono ((hsuite a oer cls d (X.pn ++ pins) hzr ⟨_, hdr⟩).run [] s5 _ HT _ S5 (hyes rfl a naT)) (fun fl s6 out => ?_) (fun _ _ z => z.elim)
          have leave : ∀ {σ6 : L2.St} {H6 : Hp} {Q : Shared → Prop}, Inv (X.suite a ((a, oer) :: (X.pn ++ pins))) [] σ6 H6 s6 → (∀ s7, Inv X pins (σ6.set i none) (upd H6 a (exv cls d a)) s7 → Q s7) →
              wpAny (model X.prog X.w) X.A (do bindName X.env n .none; unbindBehindTheSuite X.env n pos') (fun _ s7 => Q s7) X.xe s6 := fun {σ6 H6 Q} S6 hQ => by
            have S7 : Inv X ((a, oer) :: pins) σ6 H6 s6 := ⟨okX, S6.os, S6.bare, S6.base, S6.loc, S6.cell, S6.free, S6.freeC, fun p hp => S6.pin p (by
              rw [List.append_nil]
              rcases List.mem_append.mp hp with z | z
              · exact List.mem_cons_of_mem _ (List.mem_append_left _ z)
              · rcases List.mem_cons.mp z with y | y
                · rw [y]
                  exact List.mem_cons_self
                · exact List.mem_cons_of_mem _ (List.mem_append_right _ y)), S6.hok, S6.len⟩
            exact gone_ok S7 nd atI lcl fun s7 J7 => hQ s7 (tracked J7 s0none pinNe hzr hdr)
          cases fl with
          | next =>
            obtain ⟨σ6, H6, S6, q6⟩ := out
            exact leave S6 fun s7 J7 => ⟨_, _, J7, q6⟩
          | brk =>
            obtain ⟨σ6, H6, S6, q6⟩ := out
            exact leave S6 fun s7 J7 => ⟨_, _, J7, q6⟩
          | cont =>
            obtain ⟨σ6, H6, S6, q6⟩ := out
            exact leave S6 fun s7 J7 => ⟨_, _, J7, q6⟩
          | ret u =>
            obtain ⟨v6, σ6, H6, S6, r6, q6⟩ := out
            exact leave S6 fun s7 J7 => ⟨_, _, _, J7, r6, q6⟩
        | false => exact ih (hno rfl)
    exact go _ _ hh wl
  · cases fl with
    | next =>
      obtain ⟨σ1, H1, J1, q1⟩ := done
      exact wpAny_execs_nil ⟨σ1, H1, J1.ofTry okX, q1⟩
    | brk =>
      obtain ⟨σ1, H1, J1, q1⟩ := done
      exact ⟨σ1, H1, J1.ofTry okX, q1⟩
    | cont =>
      obtain ⟨σ1, H1, J1, q1⟩ := done
      exact ⟨σ1, H1, J1.ofTry okX, q1⟩
    | ret u =>
      obtain ⟨v1, σ1, H1, J1, r1, q1⟩ := done
      exact ⟨v1, σ1, H1, J1.ofTry okX, r1, q1⟩
end
end Wx

namespace Wx
open PySem PySem.Spec PyProof.Rows L2 NdefX
theorem dropPin {X : Cx} {pins : List (Addr × Obj)} {σ : L2.St} {H : Hp} {s : Shared} {p : Addr × Obj} (J : Inv X (p :: pins) σ H s) : Inv X pins σ H s :=
  ⟨J.ok, J.os, J.bare, J.base, J.loc, J.cell, J.free, J.freeC, fun q hq => J.pin q (by
    rcases List.mem_append.mp hq with z | z
    · exact List.mem_append_left _ z
    · exact List.mem_append_right _ (List.mem_cons_of_mem _ z)), J.hok, J.len⟩
def wAss (K : PySem.W.Frag) (i : Nat) (Wout : WX) (D : Ends) : List (Value × (Addr → Value → Option Addr → TS)) → WX
  | [] => Wout
  | (c, ts) :: r => fun cls d σ H =>
    ∃ b, PySem.W.exmOne K cls c = some b ∧ (b = true → ∀ a, H a = none → ts a cls d { nx := fun σ1 H1 => D.nx (σ1.set i none) H1, rt := D.rt, bk := fun σ1 H1 => D.bk (σ1.set i none) H1, ct := fun σ1 H1 => D.ct (σ1.set i none) H1 } (σ.set i (some (.ref a))) H) ∧
      (b = false → wAss K i Wout D r cls d σ H)
inductive HdsAs (X : Cx) (n : Str) : List ExceptHandler → List (Value × (Addr → Value → Option Addr → TS)) → Prop
  | nil : HdsAs X n [] []
  | cons {x : Str} {c : Value} {ts : Addr → Value → Option Addr → TS} {b₀ : Stmt} {suite : List Stmt} {np pos' : Pos} {hds : List ExceptHandler} {l : List (Value × (Addr → Value → Option Addr → TS))} (hc : Names X x c)
      (hsu : ∀ (a : Addr) (oe : Obj) (cls : Value) (d : Option Addr) (pn : List (Addr × Obj)), Zc cls d oe → (∃ vs, oe.data = .fields vs) → PSs (X.suite a ((a, oe) :: pn)) (b₀ :: suite) (ts a cls d)) (r : HdsAs X n hds l) :
      HdsAs X n (.ExceptHandler (some (.Name x np)) (some n) (b₀ :: suite) pos' :: hds) ((c, ts) :: l)
section
variable {X : Cx} {n : Str} {i : Nat} {body : List Stmt} {h₀ : ExceptHandler} {hds : List ExceptHandler} {l : List (Value × (Addr → Value → Option Addr → TS))} {pos : Pos} {tb : WX → TS} {Wout : WX}
/-- several clauses with the same name; the exception is let go behind the suite -/
theorem ps_try_ass (hex : X.ex = []) (stk : X.stack = X.env :: X.outer) (frm : X.env.frame = some X.env.locals) (nd : X.N.Nodup) (atI : X.N[i]? = some n) (lcl : X.env.kindOf n = some .local) (tko : Takes X Wout)
    (hbody : ∀ (W : WX) (pn : List (Addr × Obj)) (xe : Value → Shared → Prop), Takes (X.tr pn xe) W → PassesOwn (model X.prog X.w) X.A X.env xe → PSs (X.tr pn xe) body (tb W))
    (hh : HdsAs X n (h₀ :: hds) l) :
    PS X (.Try body (h₀ :: hds) [] [] pos) (fun D σ H => tb (wAss X.K i Wout D l) D σ H) := by
  refine ⟨fun pins s σ H D I0 rd => ?_⟩
  have okX := I0.ok
  have frA : X.A.frames = some (X.env :: X.outer) := okX.frames.trans (congrArg some stk)
  have locN : Loc X.env.scope n := Or.inl lcl
  refine wpAny_Try_except (wpAny_mono ((hbody (wAss X.K i Wout D l) (X.pn ++ pins) (fun e s₁ => wpAny (model X.prog X.w) X.A (noteFrame e X.env) (fun _ s₂ => wpAny (model X.prog X.w) X.A (setFlight e none) (fun _ s₃ =>
      wpAny (model X.prog X.w) X.A (handleBy e X.env (h₀ :: hds)) (SP X pins D) X.xe s₃) X.xe s₂) X.xe s₁) (fun u s' caught => ?_) PassesOwn.looking).run [] s σ H D (I0.toTry _) rd) (fun fl s1 done => ?_) (fun _ _ z => z))
  · obtain ⟨a, B, sI, pinsT, σT, HT, cls, d, rfl, JT, nb, upT, skyT, naT, osT, agT, wl⟩ := caught
    have JX : Inv X pins σT HT sI := Inv.ofTry JT okX
    have skyX : Sky B (X.env :: X.outer) a (Zc cls d) X.env.locals s'.heap := stk ▸ skyT
    show wpAny _ X.A (noteFrame (Value.ref a) X.env) _ _ _
    refine Sky.land Zc.steady frA frm skyX (fun hq flq upq => ?_)
    have Jq : Inv X pins σT HT { s' with heap := hq } := JX.landed nb flq.1 (upT.trans upq) osT agT
    obtain ⟨oeq, vsq, heq, hzq, hdq⟩ := flq.there
    have nfr : a ∉ frs (X.env :: X.outer) := fun hm => by
      obtain ⟨_, o', e', nf'⟩ := flq.2.2.1.mem hm
      have z := heq.symm.trans e'
      cases z
      exact nf' _ hdq
    have nLoc : a ≠ X.env.locals := fun z => nfr (List.mem_filterMap.mpr ⟨X.env, List.mem_cons_self, frm.trans (congrArg some z.symm)⟩)
    have nOut : a ∉ X.fs := fun hm => by
      obtain ⟨ev, hev, qv⟩ := List.mem_filterMap.mp hm
      exact nfr (List.mem_filterMap.mpr ⟨ev, List.mem_cons_of_mem _ hev, qv⟩)
    -- the exception is younger than the frame
    have sInone : sI.heap.get? a = none := by
      cases z : sI.heap.get? a with
      | none => rfl
      | some o =>
        have Bn : B.get? a = none := by
          rcases skyX with ⟨_, q, _⟩ | q | q
          · exact q
          · exact q.2.1
          · exact q.2.1
        have y := nb a o z (fun hm => nfr (by rw [← stk]; exact hm))
        rw [Bn] at y
        cases y
    have s0none : X.s_0.heap.get? a = none := by
      cases z : X.s_0.heap.get? a with
      | none => rfl
      | some o =>
        obtain ⟨o2, y⟩ := JX.base.there a o z (by rw [hex]; simp)
        rw [sInone] at y
        cases y
    have pinNe : ∀ p, p ∈ X.pn ++ pins → p.1 ≠ a := fun p hp z => by
      have y := (JX.pin p hp).1
      rw [z, sInone] at y
      cases y
    have Sq := Jq.suite heq hdq naT nLoc nOut
    have LTy : PySem.W.Looks (model X.prog X.w) hq (typeOf (.ref a)) cls := fun A Q E s k q => wpAny_typeOf_ref (k _ _ heq) (hzq.1 ▸ q)
    have go : ∀ (hs : List ExceptHandler) (l : List (Value × (Addr → Value → Option Addr → TS))), HdsAs X n hs l → wAss X.K i Wout D l cls d σT HT → wpAny (model X.prog X.w) X.A (handleBy (Value.ref a) X.env hs) (SP X pins D) X.xe { s' with heap := hq } := by
      intro hs l hk
      induction hk with
      | nil =>
        intro wout
        refine wpAny_handleBy_nil ?_
        obtain ⟨z1, z2, z3, oe, vs, T1, oT1, tsT, he, hz, hd, h1, hr1⟩ := id flq
        unfold PySem.passOn
        refine wpAny_bind (wpAny_field he hd h1 ?_)
        rw [if_neg (show ¬ ((Value.ref T1 == Value.none) = true) by simp)]
        have fin : wpAny (model X.prog X.w) X.A (setFlight (.ref a) X.env.frame) (fun _ s4 => wpAny (model X.prog X.w) X.A (throw (.ref a) : Sem Flow) (SP X pins D) X.xe s4) X.xe { s' with heap := hq } := by
          rw [frm]
          exact HandSPX.setFlight_upZ flq fun h4 hh4 up4 => wpAny_throw (tko _ _ ⟨a, B, sI, pins, σT, HT, cls, d, rfl, JX, nb, (upT.trans upq).trans up4, .inr (.inr (by rw [stk]; exact hh4)), naT, osT, agT, wout⟩)
        first
          | exact wpAny_bind (wpAny_pure (wpAny_bind fin))
          | exact wpAny_bind fin
      | @cons x c ts b₀ suite np pos' hs l nms hsuite hrest ih =>
        intro wl
        obtain ⟨b, hcl, hyes, hno⟩ := wl
        refine wpAny_handleBy_cons (codeAny_handlers_test ?_) (by rintro ⟨⟩)
        have LEx := PySem.W.exm_one (M := model X.prog X.w) Jq.kIn LTy hcl
        have tst : ∀ {Q : Value → Shared → Prop} {E : Value → Shared → Prop}, Q c { s' with heap := hq } → wpAny (model X.prog X.w) (X.A.mark (some (.ref a))) (eval (.Name x np) X.env) Q E { s' with heap := hq } := fun {Q E} q => by
          obtain ⟨g1, g2, g3 | ⟨g3, g4, g5⟩⟩ := nms
          · exact ld_glob (X := X.suite a ((a, oeq) :: (X.pn ++ pins))) Sq g1 g3 q g2
          · exact ld_blt (X := X.suite a ((a, oeq) :: (X.pn ++ pins))) Sq g1 g3 g4 q g5 g2
        refine tst (LEx.here ?_)
        cases b with
        | true =>
          refine codeAny_handlers_suite_as (HandSPX.lands_againZ flq fun hr flr upr => ?_)
          have Jr : Inv X pins σT HT { s' with heap := hr } := JX.landed nb flr.1 ((upT.trans upq).trans upr) osT agT
          obtain ⟨oer, vsr, her, hzr, hdr⟩ := flr.there
          have Sr := Jr.suite her hdr naT nLoc nOut
          refine store_ok (X := X.suite a ((a, oer) :: (X.pn ++ pins))) (v := V.ref a) Sr nd atI locN rfl (fun s5 S5 => ?_) (Or.inr lcl)
          refine wpAny_mono ((hsuite a oer cls d (X.pn ++ pins) hzr ⟨_, hdr⟩).run [] s5 _ HT _ S5 (hyes rfl a naT)) (fun fl s6 out => ?_) (fun _ _ z => z.elim)
          have leave : ∀ {σ6 : L2.St} {H6 : Hp} {Q : Shared → Prop}, Inv (X.suite a ((a, oer) :: (X.pn ++ pins))) [] σ6 H6 s6 → (∀ s7, Inv X pins (σ6.set i none) H6 s7 → Q s7) →
              wpAny (model X.prog X.w) X.A (do bindName X.env n .none; unbindBehindTheSuite X.env n pos') (fun _ s7 => Q s7) X.xe s6 := fun {σ6 H6 Q} S6 hQ => by
            have S7 : Inv X ((a, oer) :: pins) σ6 H6 s6 := ⟨okX, S6.os, S6.bare, S6.base, S6.loc, S6.cell, S6.free, S6.freeC, fun p hp => S6.pin p (by
              rw [List.append_nil]
              rcases List.mem_append.mp hp with z | z
              · exact List.mem_cons_of_mem _ (List.mem_append_left _ z)
              · rcases List.mem_cons.mp z with y | y
                · rw [y]
                  exact List.mem_cons_self
                · exact List.mem_cons_of_mem _ (List.mem_append_right _ y)), S6.hok, S6.len⟩
            exact gone_ok S7 nd atI lcl fun s7 J7 => hQ s7 (dropPin J7)
          cases fl with
          | next =>
            obtain ⟨σ6, H6, S6, q6⟩ := out
            exact leave S6 fun s7 J7 => ⟨_, _, J7, q6⟩
          | brk =>
            obtain ⟨σ6, H6, S6, q6⟩ := out
            exact leave S6 fun s7 J7 => ⟨_, _, J7, q6⟩
          | cont =>
            obtain ⟨σ6, H6, S6, q6⟩ := out
            exact leave S6 fun s7 J7 => ⟨_, _, J7, q6⟩
          | ret u =>
            obtain ⟨v6, σ6, H6, S6, r6, q6⟩ := out
            exact leave S6 fun s7 J7 => ⟨_, _, _, J7, r6, q6⟩
        | false => exact ih (hno rfl)
    exact go _ _ hh wl
  · cases fl with
    | next =>
      obtain ⟨σ1, H1, J1, q1⟩ := done
      exact wpAny_execs_nil ⟨σ1, H1, J1.ofTry okX, q1⟩
    | brk =>
      obtain ⟨σ1, H1, J1, q1⟩ := done
      exact ⟨σ1, H1, J1.ofTry okX, q1⟩
    | cont =>
      obtain ⟨σ1, H1, J1, q1⟩ := done
      exact ⟨σ1, H1, J1.ofTry okX, q1⟩
    | ret u =>
      obtain ⟨v1, σ1, H1, J1, r1, q1⟩ := done
      exact ⟨v1, σ1, H1, J1.ofTry okX, r1, q1⟩
end
end Wx

namespace Wx
open PySem PySem.Spec PyProof.Rows L2 NdefX
/-! a list comprehension from which an exception may leave -/
/-- in the air over the frames l, the frame L at work: sI is the state without it -/
def Aloft (stk : List Env) (L : Addr) (sI : Shared) (H : Hp) (E : XK) (u : Value) (s' : Shared) : Prop :=
  ∃ (a : Addr) (B : Heap) (cls : Value) (d : Option Addr), u = .ref a ∧ (∀ b o, sI.heap.get? b = some o → b ∉ frs stk → B.get? b = some o) ∧ sI.heap.UpToSlots s'.heap ∧
    Sky B stk a (Zc cls d) L s'.heap ∧ H a = none ∧ s'.os = sI.os ∧ AllBare s'.gens ∧ E cls d H
/-- what is let out at the slots σ is taken -/
structure Air (X : Cx) (σ : L2.St) (E : XK) : Prop where
  ex : ∃ (ev : Env) (outer : List Env) (L : Addr), X.stack = ev :: outer ∧ ev.frame = some L ∧ X.env.frame = some L ∧
    ∀ (pins : List (Addr × Obj)) (H : Hp) (sI : Shared) (u : Value) (s' : Shared), Inv X pins σ H sI → Aloft X.stack L sI H E u s' → X.xe u s'
section
variable {X : Cx} {pins : List (Addr × Obj)} {σ : L2.St} {H : Hp} {s s' : Shared} {E : XK} {W : WX}
theorem air_of {σ : L2.St} (tk : Takes X W) (hs : X.stack = X.env :: X.outer) (hf : X.env.frame = some X.env.locals) : Air X σ (WE W σ) :=
  ⟨X.env, X.outer, X.env.locals, hs, hf, hf, fun pins H sI u s' I ⟨a, B, cls, d, e, nb, up, sky, na, os, ag, w⟩ => tk u s' ⟨a, B, sI, pins, σ, H, cls, d, e, I, nb, up, sky, na, os, ag, w⟩⟩
theorem Air.pass (x : Air X σ E) : PassesAt (L2.CX X.prog X.w) X σ E := fun pins H s u s' I c => by
  obtain ⟨ev, outer, L, hs, hf, hg, k⟩ := x.ex
  obtain ⟨a, B, H', cls, d, rfl, fl, hok, ub, na, os, ag, hE⟩ := c
  obtain ⟨G, g1, g2⟩ := restrict s'.heap fun b => (B.get? b).isSome || decide (b ∈ frs X.stack)
  have st : B.StaysIn s'.heap := fl.1
  have gB : ∀ b o, B.get? b = some o → G.get? b = some o := fun b o e => by
    have q : ((B.get? b).isSome || decide (b ∈ frs X.stack)) = true := by rw [e]; rfl
    exact (g1 b q).trans (st b o e)
  have gF : ∀ b, b ∈ frs X.stack → G.get? b = s'.heap.get? b := fun b hb => g1 b (by rw [decide_eq_true hb, Bool.or_true])
  have back : ∀ b o, G.get? b = some o → s'.heap.get? b = some o ∧ ((B.get? b).isSome = true ∨ b ∈ frs X.stack) := fun b o e => by
    by_cases q : ((B.get? b).isSome || decide (b ∈ frs X.stack)) = true
    · rw [g1 b q] at e
      refine ⟨e, ?_⟩
      rcases Bool.or_eq_true_iff.mp q with y | y
      · exact .inl y
      · exact .inr (of_decide_eq_true y)
    · rw [g2 b (Bool.eq_false_iff.mpr q)] at e
      cases e
  have I1 : Inv X pins σ H' { s with heap := G, gens := s'.gens, drawn := s'.drawn, toks := s'.toks } := by
    refine I.call (ch := []) ⟨fun b o e n hb _ => gB b o (ub.keep b o e n hb), fun b o e n hb _ => ?_, fun b o e n _ => ub.free b o e n, fun b o e _ => ?_, ub.tups, ub.frzs, ub.tbls⟩ (hok.kept gB) ag (fun _ z => nomatch z)
    · obtain ⟨sl, q⟩ := ub.slot b o e hb
      exact ⟨sl, (gF b hb).trans q⟩
    · by_cases hb : b ∈ frs X.stack
      · obtain ⟨sl, q⟩ := ub.slot b o e hb
        exact ⟨_, (gF b hb).trans q⟩
      · obtain ⟨o', q⟩ := ub.there b o e hb
        exact ⟨o', gB b o' q⟩
  refine k pins H' _ _ _ I1 ⟨a, B, cls, d, rfl, fun b o e hb => ?_, Heap.UpToSlots.of_keeps fun b o e => (back b o e).1, .inr (.inl fl), na, os, ag, hE⟩
  obtain ⟨e1, e2 | e2⟩ := back b o e
  · obtain ⟨o', q⟩ := Option.isSome_iff_exists.mp e2
    have z := (st b o' q).symm.trans e1
    cases z
    exact q
  · exact absurd e2 hb
end
theorem passNo {X : Cx} (σ : L2.St) : PassesAt (L2.CX X.prog X.w) X σ ((fun _ _ _ _ => False : L2.St → XK) σ) := fun _ _ _ _ _ _ c => by
  obtain ⟨_, _, _, _, _, _, _, _, _, _, _, _, hE⟩ := c
  exact hE.elim
theorem funFrames_step {h h2 B B' : Heap} : ∀ {l : List Env}, h.FunFrames B l → (∀ b, B.get? b = none → B'.get? b = none) → (∀ b o, B.get? b = none → h.get? b = some o → h2.get? b = some o) → h2.FunFrames B' l
  | [], _, _, _ => trivial
  | env :: l, hl, k1, k2 => by
    obtain ⟨hk, ⟨L, o, hf, hn, ho, hd⟩, hr⟩ := hl
    exact ⟨hk, ⟨L, o, hf, k1 _ hn, k2 _ _ hn ho, hd⟩, funFrames_step hr k1 k2⟩
theorem note_same {e : Value} {e1 e2 : Env} (h : e1.frame = e2.frame) : noteFrame e e1 = noteFrame e e2 := by
  unfold noteFrame PySem.frameOf
  rw [h]
section
variable {M : Model} {A : Around} {E : Value → Shared → Prop} {s : Shared} {env : Env}
/-- behind a block: let go of its names; an exception goes on by the block's own environment -/
def postX (M : Model) (A : Around) (E : Value → Shared → Prop) (use : Option (Value → Sem Unit)) (Q : Value → Shared → Prop) (acc : Value) (cenv : Env) (r : Result) (s' : Shared) : Prop :=
  match r, use with
  | .ok _, none => ∃ m, s'.heap.Ns cenv.locals m ∧ ∀ h', Heap.SameBut cenv.locals s'.heap h' → Q acc { s' with heap := h' }
  | .ok _, some u => wpAny M A (u acc) (fun _ s'' => ∃ m, s''.heap.Ns cenv.locals m ∧ ∀ h', Heap.SameBut cenv.locals s''.heap h' → Q .none { s'' with heap := h' }) E s'
  | .error x, _ => ∃ m, s'.heap.Ns cenv.locals m ∧ ∀ h', Heap.SameBut cenv.locals s'.heap h' → wpAny M A (passOn "comprehension.variables-let-go" x cenv : Sem Value) (fun _ _ => False) E { s' with heap := h' }
theorem comprehension_freeX {e : Expr} {scope : Scope} {pos : Pos} {newAcc first : Sem Value} {g : Comprehension} {gs : List Comprehension} {cl : List (Str × Addr)} {use : Option (Value → Sem Unit)}
    {Q : Value → Shared → Prop}
    (hcl : clausesOf e = g :: gs) (hs : ∀ x, foldedSetIterable g.iter env x = pure x) (hclos : closureFor scope env = pure cl)
    (hkind : scope.kind = .function) (hnames : ∀ x ∈ scope.names, x.2 = .local → scope.names.lookup x.1 = some .local)
    (h : wpAny M A first (fun x s₁ => wpAny M A (pyIter x) (fun it s₂ => wpAny M A newAcc (fun acc s₃ =>
      wpAny M A (newFunctionEnv scope env.globals cl [] env.qual none .none (some env)) (fun cenv s₄ =>
        codeAny M A (.compStart e 0 it acc { cenv with scope := relabel scope env }) (postX M A E use Q acc { cenv with scope := relabel scope env }) s₄) E s₃) E s₂) E s₁) E s) :
    wpAny M A (comprehension e scope env pos newAcc false first use) Q E s := by
  unfold comprehension
  rw [hclos, hcl]
  refine wpAny_bind (wpAny_mono h (fun x s₁ h₁ => wpAny_bind (wpAny_standAt (wpAny_bind (wpAny_of_eq (hs x) (wpAny_bind (wpAny_holding (wpAny_mono h₁ (fun it s₂ h₂ =>
    wpAny_standIf (wpAny_bind (wpAny_mono h₂ (fun acc s₃ h₃ => wpAny_bind (wpAny_pure (wpAny_bind (wpAny_mono h₃ (fun cenv s₄ h₄ => ?_) fun _ _ h' => h')))) fun _ _ h' => h')))
      fun _ _ h' => h'))))))) fun _ _ h' => h')
  dsimp only
  have hv : ∀ x ∈ (scope.names.filter fun x => (x.2 == .local || x.2 == .cell) && x.1 != (".0" : Str)).reverse, x.2 = .local →
      Env.kindOf { cenv with scope := relabel scope env } x.1 = some .local := fun x hx hl => lookup_relabel_local (hnames x (List.mem_filter.mp (List.mem_reverse.mp hx)).1 hl)
  have hv' : ∀ x ∈ (scope.names.filter fun x => (x.2 == .local || x.2 == .cell) && x.1 != (".0" : Str)).reverse.drop 1 ++ (scope.names.filter fun x => (x.2 == .local || x.2 == .cell) && x.1 != (".0" : Str)).reverse.take 1,
      x.2 = .local → Env.kindOf { cenv with scope := relabel scope env } x.1 = some .local := fun x hx hl => by
    rcases List.mem_append.mp hx with h1 | h1
    · exact hv x (List.mem_of_mem_drop h1) hl
    · exact hv x (List.mem_of_mem_take h1) hl
  refine wpAny_holding (wpAny_bind (wpAny_attempt (wpAny_holding (wpAny_run (codeAny_mono h₄ fun r s' hr => ?_)))))
  cases r with
  | ok f =>
    cases use with
    | none =>
      obtain ⟨m, hn, hr⟩ := hr
      exact wpAny_bind (wpAny_holding (wpAny_comp_letGo (cenv := { cenv with scope := relabel scope env }) hkind _ s' m hv hn fun h' m' _ hs' => wpAny_pure (hr h' hs')))
    | some u =>
      refine wpAny_bind (wpAny_rule (wpAny_bind (wpAny_holding (wpAny_mono hr (fun _ s'' hr' => ?_) fun _ _ h' => h'))))
      obtain ⟨m, hn, hr'⟩ := hr'
      exact wpAny_bind (wpAny_comp_letGo (cenv := { cenv with scope := relabel scope env }) hkind _ s'' m hv' hn fun h' m' _ hs' => wpAny_pure (hr' h' hs'))
  | error x =>
    have hr' : ∃ m, s'.heap.Ns cenv.locals m ∧ ∀ h', Heap.SameBut cenv.locals s'.heap h' → wpAny M A (passOn "comprehension.variables-let-go" x { cenv with scope := relabel scope env } : Sem Value) (fun _ _ => False) E { s' with heap := h' } := by cases use <;> exact hr
    obtain ⟨m, hn, hr⟩ := hr'
    exact wpAny_bind (wpAny_holding (wpAny_comp_letGo (cenv := { cenv with scope := relabel scope env }) hkind _ s' m hv hn fun h' m' _ hs' => wpAny_mono (hr h' hs') (fun _ _ f => f.elim) fun _ _ y => y))
end
section
variable {X : Cx}
theorem lc_coreX {E : L2.St → XK} {pins : List (Addr × Obj)} {s : Shared} {σ : L2.St} {H : Hp} {Q : VK} {elt tg iter : Expr} {ifs : List Expr} {scope : Scope} {own : List (Str × Nat)} {pos pos' : Pos} {wi : TI} {g : TG} {tt : TT} {te : XK → TE} {Qf : Value → Shared → Prop}
    (hc : X.calm = true) (hN : X.N.Nodup) (I : Inv X pins σ H s) (hi : PI X tg iter wi) (ok : BlkOk X.N X.env.scope scope own)
    (hg : ∀ (s : Shared) (H : Hp) (C : Addr) (cl : List (Str × Addr)) (fp : List Addr), PG (X.blk s H scope (compEnvC scope cl C X.env) fp) tg g) (ht : ∀ (s : Shared) (H : Hp) (C : Addr) (cl : List (Str × Addr)) (fp : List Addr), PTs (X.blk s H scope (compEnvC scope cl C X.env) fp) ifs tt)
    (air : Air X σ (E σ)) (he : ∀ (s : Shared) (H : Hp) (C : Addr) (cl : List (Str × Addr)) (fp : List Addr) (xe : Value → Shared → Prop) (E1 : XK), (∀ σ1, Air ((X.blk s H scope (compEnvC scope cl C X.env) fp).wish xe) σ1 E1) → PE ((X.blk s H scope (compEnvC scope cl C X.env) fp).wish xe) elt (te E1)) (hs : ∀ x, foldedSetIterable iter X.env x = pure x)
    (h : tLc wi g tt (te (E σ)) (own.map (·.2)) σ H Q)
    (hRR : ∀ D C s' m H', Inv X pins σ H' s' → Q (.ref D) H' → s'.heap.Ns C m → FpOk X pins H' C → compPost (model X.prog X.w) X.A X.xe none Qf (.ref D) C (.ok .next) s') :
    wpAny (model X.prog X.w) X.A (comprehension (.ListComp elt [⟨tg, iter, ifs, 0⟩] scope pos) scope X.env pos' (newList []) false (eval iter X.env) none) Qf X.xe s := by
  have hfree : ∀ y ∈ scope.names, y.2 = .free → ∃ c, X.env.cells.lookup y.1 = some c := fun y hy e => by
    rcases ok.free y hy e with k | k
    · exact I.ok.has _ (.inl k)
    · exact I.ok.has _ (.inr k)
  refine comprehension_freeX (use := none) rfl hs (closure_ok hfree) ok.kind (fun y hy e => by rw [ok.uniq y hy, e])
    (thn (hi.run pins s σ H _ I h) fun xv s1 hx => thn hx fun itv s2 h2 => ?_)
  obtain ⟨it, fp, tn, J, H2, e, I2, T, st2, f2, q⟩ := h2
  subst e
  refine wpAny_newObj_type (newEnv_comp ?_) (by show 0 ≤ sizeLine; decide)
  generalize hD : s2.heap.objs.size = D
  have hDn : H2 D = none := I2.hok.fresh (Nat.le_of_eq hD)
  obtain ⟨W, ⟨m0, w0⟩, turn⟩ := q D hDn
  -- the new list
  generalize hs3 : ({ s2 with heap := s2.heap.push { cls := .type "list", data := .seq ([] : List Value).toArray } } : Shared) = s3
  have I3 : Inv X pins σ (upd H2 D (.lst [])) s3 := by
    rw [← hs3]
    refine I2.laid (t' := s2.toks) (fun b o e => Heap.get?_push_of_some _ e) (Nat.le_of_eq hD) ⟨Nat.zero_le _, [], 0, .nil, ?_⟩
    rw [← hD]
    exact Heap.get?_push_size _ rfl
  have h3 : s3.heap = s2.heap.push { cls := .type "list", data := .seq ([] : List Value).toArray } := by rw [← hs3]
  have sz : ∀ b ∈ fp, b < s2.heap.objs.size := fun b hb => by
    obtain ⟨o, e, _⟩ := T.obj _ _ st2 b hb
    exact Heap.lt_size e
  have f3 : ∀ b ∈ fp, FpOk X pins (upd H2 D (.lst [])) b ∧ b < s3.heap.objs.size := fun b hb => by
    have hlt := sz b hb
    refine ⟨⟨?_, (f2 b hb).2⟩, by rw [h3, Heap.size_push]; exact Nat.lt_succ_of_lt hlt⟩
    rw [upd_ne (by rw [← hD]; exact Nat.ne_of_lt hlt)]
    exact (f2 b hb).1
  have st3 : tn 0 s3.heap := T.keep _ _ _ st2 fun b _ o e => by rw [h3]; exact Heap.get?_push_of_some _ e
  have I4 := block_start I3 ok hN f3
  have pg := hg s3 (upd H2 D (.lst [])) s3.heap.objs.size (cellsFrom (s3.heap.objs.size + 1) scope.names (cloFrom X.env.cells scope.names [])) fp
  have pt := ht s3 (upd H2 D (.lst [])) s3.heap.objs.size (cellsFrom (s3.heap.objs.size + 1) scope.names (cloFrom X.env.cells scope.names [])) fp
  have pe := he s3 (upd H2 D (.lst [])) s3.heap.objs.size (cellsFrom (s3.heap.objs.size + 1) scope.names (cloFrom X.env.cells scope.names [])) fp
  have cF : (compEnvC scope (cellsFrom (s3.heap.objs.size + 1) scope.names (cloFrom X.env.cells scope.names [])) s3.heap.objs.size X.env).frame = X.env.frame := rfl
  show codeAny _ _ (.compStart (.ListComp elt [⟨tg, iter, ifs, 0⟩] scope pos) 0 (.ref it) (.ref D) (compEnvC scope (cellsFrom (s3.heap.objs.size + 1) scope.names (cloFrom X.env.cells scope.names [])) s3.heap.objs.size X.env)) (postX (model X.prog X.w) X.A X.xe none Qf (.ref D) (compEnvC scope (cellsFrom (s3.heap.objs.size + 1) scope.names (cloFrom X.env.cells scope.names [])) s3.heap.objs.size X.env)) { s3 with heap := pushCells (s3.heap.push { cls := .type "dict", data := .dict #[] }) scope.names }
  have nfp : ∀ b ∈ fp, (upd H2 D (.lst [])) b = none := fun b hb => (f3 b hb).1.1
  generalize hce : compEnvC scope (cellsFrom (s3.heap.objs.size + 1) scope.names (cloFrom X.env.cells scope.names [])) s3.heap.objs.size X.env = ce at I4 pg pt pe cF ⊢
  have cL : ce.locals = s3.heap.objs.size := by subst hce; rfl
  generalize hH3 : upd H2 D (.lst []) = H3 at I3 I4 pg pt pe w0 nfp f3
  generalize hs4 : ({ s3 with heap := pushCells (s3.heap.push { cls := .type "dict", data := .dict #[] }) scope.names } : Shared) = s4 at I4 ⊢
  have st4 : tn 0 s4.heap := T.keep _ _ _ st3 fun b _ o e => by rw [← hs4]; exact pushCells_keeps _ _ _ _ (Heap.get?_push_of_some _ e)
  have stat : ∀ {σ' : L2.St} {H' : Hp} {s' : Shared}, Inv (X.blk s3 H3 scope ce fp) [] σ' H' s' → (∀ b ∈ fp, H' b = none) → ∀ b ∈ fp, FpOk (X.blk s3 H3 scope ce fp) [] H' b := fun {σ' H' s'} I' hn b hb =>
    ⟨hn b hb, (I'.ok.exf b hb).1, I'.ok.exfs b hb, .inl hb, fun x c e => (I'.ok.exf b hb).2 x c e, fun p hp => absurd (show p ∈ ([] : List (Addr × Obj)) ++ [] from hp) (by simp)⟩
  have loop : codeAny (model X.prog X.w) X.A (.compLoop (.ListComp elt [⟨tg, iter, ifs, 0⟩] scope pos) 0 (.ref it) (.ref D) ce) (postX (model X.prog X.w) X.A X.xe none Qf (.ref D) ce) s4 := by
    refine compLoop_any (fun n s' => ∃ i H', Inv (X.blk s3 H3 scope ce fp) [] (wipe σ (own.map (·.2))) H' s' ∧ tn i s'.heap ∧ (∀ b ∈ fp, H' b = none) ∧ W i n H') ?_ m0 ⟨0, H3, I4, st4, nfp, w0⟩
    rintro n s5 ⟨i, H5, I5, st5, n5, w5⟩
    rcases turn i n H5 w5 with ⟨stop, qq⟩ | ⟨go, Nx, hNx, step⟩
    · have td := T.done (X.blk s3 H3 scope ce fp) rfl rfl rfl hc i [] s5 _ H5 (fun _ _ => False) I5 (stat I5 n5) st5 stop
      refine thnF td fun r s6 ⟨hr, I6⟩ => ?_
      subst hr
      -- back in the def's context
      have I7 : Inv X pins σ H5 s6 := I3.call' (ch := fp) I6.os I6.base I6.hok I6.bare fun b hb => ⟨(f3 b hb).1.2.2.2.1, (f3 b hb).1.2.1, (f3 b hb).1.2.2.2.2.1, (f3 b hb).1.2.2.2.2.2⟩
      have nC : H5 s3.heap.objs.size = none := by
        have z : H5 ce.locals = none := I6.free
        rw [cL] at z
        exact z
      obtain ⟨m, hn, _⟩ := I6.loc
      have hn : s6.heap.Ns ce.locals m := hn
      rw [cL] at hn
      have hR := hRR D s3.heap.objs.size s6 m H5 I7 qq hn (I3.fpOk (Nat.le_refl _) nC)
      rw [← cL] at hR
      exact hR
    · have ti := T.item (X.blk s3 H3 scope ce fp) rfl rfl rfl hc i [] s5 _ H5 (fun _ _ => False) I5 (stat I5 n5) st5 go
      refine thnF ti fun r s6 ⟨u, hr, h6⟩ => ?_
      subst hr
      refine thnF h6 fun _ s7 ⟨x, H7, I7, r7, y7, st7, n7⟩ => ?_
      have I7' := I7.pinned (stat I7 n7) (T.obj _ _ st7)
      refine thnF (pg.run _ s7 _ H7 x u _ I7' r7 (step x H7 y7)) fun _ s8 ⟨σ8, H8, I8, hw8, q8⟩ => ?_
      refine thnF (pt.run _ s8 σ8 H8 _ I8 q8) fun b s9 ⟨H9, I9, q9⟩ => ?_
      -- the turn's end
      have fin : ∀ {s' : Shared} {H' : Hp}, Inv (X.blk s3 H3 scope ce fp) ([] ++ pinsAt fp s7.heap) σ8 H' s' → Nx H' → ∃ m, m < n ∧ ∃ i H', Inv (X.blk s3 H3 scope ce fp) [] (wipe σ (own.map (·.2))) H' s' ∧ tn i s'.heap ∧ (∀ b ∈ fp, H' b = none) ∧ W i m H' := fun {s' H'} I' nx => by
        obtain ⟨m', hm, w'⟩ := hNx H' nx
        have pin' : ∀ b ∈ fp, ∀ o, s7.heap.get? b = some o → s'.heap.get? b = some o ∧ H' b = none := fun b hb o e =>
          let z := I'.pin (b, o) (List.mem_append_right _ (List.mem_append_right _ (mem_pinsAt hb e)))
          ⟨z.1, z.2.1⟩
        have hl : (wipe σ (own.map (·.2))).length = σ8.length := by rw [← hw8, wipe_length]
        refine ⟨m', hm, i + 1, H', (I'.unpinned (pins := [])).weak hl (fun j v e => ?_), T.keep _ _ _ st7 fun b hb o e => (pin' b hb o e).1, fun b hb => ?_, w'⟩
        · rw [← hw8] at e
          exact (wipe_some e).1
        · obtain ⟨o, e, _⟩ := T.obj _ _ st7 b hb
          exact (pin' b hb o e).2
      cases b with
      | false =>
        simp only [Bool.false_eq_true, if_false] at q9 ⊢
        exact fin I9 q9
      | true =>
        simp only [if_true] at q9 ⊢
        obtain ⟨ev, outer, L, hstk, hfr, hXf, kx⟩ := air.ex
        refine wpAny_mono ((pe (fun u s' => ∃ H' sI, Inv X pins σ H' sI ∧ (∃ m, sI.heap.Ns ce.locals m) ∧ H' ce.locals = none ∧ Aloft X.stack L sI H' (E σ) u s') (E σ) (fun σ1 => ⟨ev, outer, L, hstk, hfr, cF.trans hXf, fun pins1 H1 sI u s' I1 al => ?_⟩)).run _ s9 σ8 H9 _ (I9.wish _) q9) (fun z s10 ⟨yv, H10, I10, r10, acc, hD10, hz10, nx⟩ => ?_) (fun u s10 hx => ?_)
        · have I1' := I1.unwish
          obtain ⟨m, hn, _⟩ := I1'.loc
          exact ⟨H1, sI, I3.call' (ch := fp) I1'.os I1'.base I1'.hok I1'.bare fun b hb => ⟨(f3 b hb).1.2.2.2.1, (f3 b hb).1.2.1, (f3 b hb).1.2.2.2.2.1, (f3 b hb).1.2.2.2.2.2⟩, ⟨m, hn⟩, I1'.free, al⟩
        · exact app_ok (X := X.blk s3 H3 scope ce fp) I10.unwish hD10 hz10 r10 fun s11 I11 => fin I11 nx
        · obtain ⟨H', sI, JX, ⟨m, hn⟩, nC, a, B, cls, d, rfl, nb, up, sky, na, os, ag, w⟩ := hx
          have fpC : FpOk X pins H' ce.locals := I3.fpOk (by rw [cL]; exact Nat.le_refl _) nC
          obtain ⟨f0, f1, f2, f3', f4, f5⟩ := fpC
          have frA : X.A.frames = some (ev :: outer) := I3.ok.frames.trans (congrArg some hstk)
          have cNot : ce.locals ∉ frs X.stack := fun hm => by
            rcases List.mem_cons.mp (I3.stkSub _ hm) with z | z
            · exact f1 z
            · exact f2 z
          show wpAny _ X.A (noteFrame (Value.ref a) ce) _ _ _
          rw [note_same (e2 := ev) (by rw [cF, hXf, hfr])]
          -- noted by the frame
          have held : ∀ {Q : Unit → Shared → Prop} {E' : Value → Shared → Prop}, (∀ h1, HandSPX.HeldZ B (ev :: outer) a (Zc cls d) L h1 → s10.heap.UpToSlots h1 → Q () { s10 with heap := h1 }) → wpAny (model X.prog X.w) X.A (noteFrame (.ref a) ev) Q E' s10 := fun {Q E'} k => by
            rw [hstk] at sky
            rcases sky with ⟨hB, hn, hl, oe, vs, he, hz, hd, h1⟩ | fl | hh
            · exact HandSPX.look_newZ Zc.steady frA hl hfr he hB hn hd h1 hz k
            · exact HandSPX.looks_onZ Zc.steady frA hfr fl k
            · exact HandSPX.againZ hfr hh.2.2.2 (k s10.heap hh (Heap.UpToSlots.refl _))
          refine held fun h1 hh1 up1 => ?_
          have upH : sI.heap.UpToSlots h1 := up.trans up1
          refine ⟨m, upH.ns hn, fun h2 sb2 => ?_⟩
          -- the ground without the block's names
          obtain ⟨B', b1, b2⟩ := restrict B fun b => decide (b ≠ ce.locals)
          obtain ⟨G, g1, g2⟩ := restrict sI.heap fun b => decide (b ≠ ce.locals)
          have bB : ∀ b o, B'.get? b = some o → b ≠ ce.locals ∧ B.get? b = some o := fun b o e => by
            by_cases q : b = ce.locals
            · rw [b2 b (by simp [q])] at e
              cases e
            · exact ⟨q, by rw [b1 b (by simp [q])] at e; exact e⟩
          have gG : ∀ b o, G.get? b = some o → b ≠ ce.locals ∧ sI.heap.get? b = some o := fun b o e => by
            by_cases q : b = ce.locals
            · rw [g2 b (by simp [q])] at e
              cases e
            · exact ⟨q, by rw [g1 b (by simp [q])] at e; exact e⟩
          obtain ⟨k1, k2, k3, oe, vs, T1, oT1, ts, he1, hz1, hd1, hv1, hbT, hTa, hT1, hdT, hfl⟩ := hh1
          obtain ⟨oC, es, ep, hoC, hdC, _⟩ := hn
          have BC : B.get? ce.locals = some oC := nb _ _ hoC cNot
          have aC : a ≠ ce.locals := fun z => by rw [z] at k2; rw [k2] at BC; cases BC
          have TC : T1 ≠ ce.locals := fun z => by rw [z] at hbT; rw [hbT] at BC; cases BC
          have sb : ∀ b, b ≠ ce.locals → h2.get? b = h1.get? b := sb2.2
          have B'a : B'.get? a = none := by rw [b1 a (by simp [aC])]; exact k2
          have B'T : B'.get? T1 = none := by rw [b1 T1 (by simp [TC])]; exact hbT
          have fF : h2.FunFrames B' (ev :: outer) := funFrames_step k3 (fun b q => by
              cases z : B'.get? b with
              | none => rfl
              | some o =>
                rw [(bB b o z).2] at q
                cases q) fun b o q e => (sb b (fun z => by rw [z, BC] at q; cases q)).trans e
          have kB : B'.StaysIn h2 := fun b o e => (sb b (bB b o e).1).trans (k1 b o (bB b o e).2)
          have he2 : h2.get? a = some oe := (sb a aC).trans he1
          have hh2 : HandSPX.HeldZ B' (ev :: outer) a (Zc cls d) L h2 := ⟨kB, B'a, fF, oe, vs, T1, oT1, ts, he2, hz1, hd1, hv1, B'T, hTa, (sb T1 TC).trans hT1, hdT, hfl⟩
          unfold PySem.passOn
          refine wpAny_bind (wpAny_field he2 hd1 hv1 ?_)
          rw [if_neg (show ¬ ((Value.ref T1 == Value.none) = true) by simp)]
          have fin2 : wpAny (model X.prog X.w) X.A (setFlight (.ref a) ce.frame) (fun _ s4 => wpAny (model X.prog X.w) X.A (throw (.ref a) : Sem Value) (fun _ _ => False) X.xe s4) X.xe { s10 with heap := h2 } := by
            rw [cF, hXf]
            refine HandSPX.setFlight_onZ hh2 fun h4 hh4 up4 => wpAny_throw ?_
            refine kx pins H' { sI with heap := G } _ _ (JX.turned (t' := sI.toks) (fun b o hb e => (g1 b (by simp [hb])).trans e) f0 f1 f3' f4 f5) ⟨a, B', cls, d, rfl, fun b o e hb => ?_, ?_, ?_, na, os, ag, w⟩
            · obtain ⟨q1, q2⟩ := gG b o e
              exact (b1 b (by simp [q1])).trans (nb b o q2 hb)
            · refine Heap.UpToSlots.trans (fun b o e nf => ?_) up4
              obtain ⟨q1, q2⟩ := gG b o e
              obtain ⟨sl, q3⟩ := upH b o q2 nf
              exact ⟨sl, (sb b q1).trans q3⟩
            · rw [hstk]
              exact .inr (.inr hh4)
          first
            | exact wpAny_bind (wpAny_pure (wpAny_bind fin2))
            | exact wpAny_bind fin2
  exact codeAny_compStart_list loop (T.self X.A 0 _ _ _ st4 loop)
/-- [elt for target in iter if ..]; what elt lets out is let out -/
theorem pe_lcX {E : L2.St → XK} {elt tg iter : Expr} {ifs : List Expr} {scope : Scope} {own : List (Str × Nat)} {pos : Pos} {wi : TI} {g : TG} {tt : TT} {te : XK → TE} (air : ∀ σ, Air X σ (E σ)) (hc : X.calm = true) (hN : X.N.Nodup) (hi : PI X tg iter wi) (ok : BlkOk X.N X.env.scope scope own)
    (hg : ∀ (s : Shared) (H : Hp) (C : Addr) (cl : List (Str × Addr)) (fp : List Addr), PG (X.blk s H scope (compEnvC scope cl C X.env) fp) tg g) (ht : ∀ (s : Shared) (H : Hp) (C : Addr) (cl : List (Str × Addr)) (fp : List Addr), PTs (X.blk s H scope (compEnvC scope cl C X.env) fp) ifs tt)
    (he : ∀ (s : Shared) (H : Hp) (C : Addr) (cl : List (Str × Addr)) (fp : List Addr) (xe : Value → Shared → Prop) (E1 : XK), (∀ σ1, Air ((X.blk s H scope (compEnvC scope cl C X.env) fp).wish xe) σ1 E1) → PE ((X.blk s H scope (compEnvC scope cl C X.env) fp).wish xe) elt (te E1)) (hs : ∀ x, foldedSetIterable iter X.env x = pure x := by intro _; rfl) :
    PE X (.ListComp elt [⟨tg, iter, ifs, 0⟩] scope pos) (fun σ H Q => tLc wi g tt (te (E σ)) (own.map (·.2)) σ H Q) := by
  refine ⟨fun pins s σ H Q I h => ?_⟩
  rw [eval_ListComp]
  refine lc_coreX hc hN I hi ok hg ht (air σ) he hs h fun D C s' m H' I' q hn f => ⟨m, hn, fun h'' sb => ?_⟩
  obtain ⟨f0, f1, f2, f3, f4, f5⟩ := f
  exact ⟨.ref D, H', I'.turned (t' := s'.toks) (fun b o hb e => (sb.2 b hb).trans e) f0 f1 f3 f4 f5, rfl, q⟩
end
end Wx

namespace Wx
open PySem PySem.Spec PyProof.Rows L2 NdefX RZ
/-! walks over a list or a tuple; <= and str by own defs; tuples of ints compared -/
section
variable {X : Cx} {tg : Expr}
def iSeq (K : PySem.W.Frag) (tl : TE) : TI := fun σ H R => tl σ H fun x H1 => ∃ a xs, x = .ref a ∧ ((SqL K H1 a xs ∧ R (Itl K a) H1) ∨ (SqT K H1 a xs ∧ R (Itt K a) H1))
theorem pi_seq {l : Expr} {tl : TE} (hl : PE X l tl) : PI X tg l (iSeq X.K tl) := by
  refine ⟨fun pins s σ H R I h => ?_⟩
  refine thn (hl.run pins s σ H _ I h) fun v s1 ⟨x, H1, I1, r1, q1⟩ => ?_
  obtain ⟨a, xs, e, q⟩ := q1
  subst e
  cases r1
  have fresh : ∀ b ∈ [s1.heap.objs.size], FpOk X pins H1 b := fun b hb => by
    have e : b = s1.heap.objs.size := by simpa using hb
    subst e
    exact I1.fpOk (Nat.le_refl _) (I1.hok.fresh (Nat.le_refl _))
  rcases q with ⟨hq, q⟩ | ⟨hq, q⟩
  · obtain ⟨its, rv, p, hz⟩ := I1.list hq
    refine wpAny_pyIter_list p.isList ?_
    exact ⟨s1.heap.objs.size, [s1.heap.objs.size], _, _, H1, rfl, I1.kept (t' := s1.toks) fun b o e => Heap.get?_push_of_some _ e, turn_list a _, ⟨_, Heap.get?_push_size _ rfl, rfl, rfl⟩, fresh, q⟩
  · obtain ⟨its, rv, p, hz⟩ := I1.tuple hq
    refine wpAny_pyIter_tuple (show s1.heap.IsTuple a its.toArray from p) ?_
    exact ⟨s1.heap.objs.size, [s1.heap.objs.size], _, _, H1, rfl, I1.kept (t' := s1.toks) fun b o e => Heap.get?_push_of_some _ e, turn_tuple a _, ⟨_, Heap.get?_push_size _ rfl, rfl, rfl⟩, fresh, q⟩
end
section
variable {X : Cx} {CX : CXT} {C f : Addr} {n : Nat} {fd : FuncData} {ps : List Str} {sp : Sp} {E : XK}
theorem op_leI (F : FnOk X.prog X.w X.K X.mg X.base CX n f fd ps sp) (hr : Room n X.A) (hs : PySem.W.findIn X.K (.ref C) "__le__" = some (some (.ref f))) (hf : PySem.W.isFn X.K (.ref f) = true) (hb : Binds X.K fd ps []) (hx : Passes CX X E) : OpR X (compareOp .LtE) (rOwnI X.K C sp E id) := by
  intro pins s σ H x y v u Q I rx ry h
  obtain ⟨a, dx, fs, b, dy, gs, rfl, rfl, ha, hb', q⟩ := h
  cases (show v = Value.ref a from rx)
  cases (show u = Value.ref b from ry)
  obtain ⟨mA, J, _⟩ := ins_get I.hok ha
  obtain ⟨mB, J', _⟩ := ins_get I.hok hb'
  obtain ⟨od, J, _⟩ := J.look
  obtain ⟨od', J', _⟩ := J'.look
  obtain ⟨m, hF⟩ := I.fr
  show wpAny (model X.prog X.w) X.A (richCompare .LtE _ _) (EP X pins σ Q) X.xe s
  refine PySem.W.cmp_K (op := .LtE) (tb := .ref C) hr.units0 hF I.ok.mod.kin J J'.type (by simp [PySem.W.notFirst]) hs hf ?_
  refine wpAny_mono (run_two (us := [.ref a, .ref b]) (vs := [.ref a, .ref b]) F hr I.env0 hb hx I (.cons rfl (.cons rfl .nil)) q) (fun w s' z => ?_) fun _ _ x => x
  obtain ⟨z', H', I', rz, k, ez, qz⟩ := z
  subst ez
  cases (show w = Value.bool k from rz)
  exact ⟨.bl k, H', I', rfl, qz⟩
/-- str(x) by the class's own __str__ -/
theorem call_strOwn (F : FnOk X.prog X.w X.K X.mg X.base CX n f fd ps sp) (hr : Room (n + 2) X.A) (hs : PySem.W.findIn X.K (.ref C) "__str__" = some (some (.ref f))) (hf : PySem.W.isFn X.K (.ref f) = true) (hb : Binds X.K fd ps []) (hx : Passes CX X E) :
    CallR X (.type "str") (fun xs H Q => ∃ a dx fs, xs = [.ref a] ∧ H a = some (.ins C dx fs) ∧ sp xs H (fun z H' => ∃ t : Str, z = .str t ∧ Q z H') E) := by
  intro pins s σ H xs us Q I r h
  obtain ⟨a, dx, fs, rfl, ha, q⟩ := h
  obtain ⟨u, rfl, hu⟩ := vals1 r
  cases (show u = Value.ref a from hu)
  obtain ⟨mA, J, _⟩ := ins_get I.hok ha
  obtain ⟨od, J, _⟩ := J.look
  have hr1 : Room (n + 1) X.A.in1 := hr.in1
  have hr2 : Room n X.A.in1.in1 := hr1.in1
  refine PySem.W.kso_call hr2.units0 I.kIn J hs hf ?_
  refine wpAny_mono (run_two (us := [.ref a]) (vs := [.ref a]) F hr2 I.env0.in1.in1 hb hx I (.cons rfl .nil) q) (fun w s' z => ?_) fun _ _ x => x
  obtain ⟨z', H', I', rz, t, ez, qz⟩ := z
  subst ez
  obtain ⟨tk, rfl⟩ := rz
  exact ⟨.str t, H', I', ⟨_, rfl⟩, qz⟩
end
/-! ### data -/
theorem eqvAll_ints : ∀ (xs ys : List Int), PyData.eqvAll (xs.map PyData.int) (ys.map PyData.int) = decide (xs = ys)
  | [], [] => rfl
  | [], y :: ys => rfl
  | x :: xs, [] => rfl
  | x :: xs, y :: ys => by
    show (PyData.eqv (.int x) (.int y) && PyData.eqvAll (xs.map PyData.int) (ys.map PyData.int)) = _
    rw [eqvAll_ints xs ys]
    show ((x == y) && _) = _
    by_cases h : x = y
    · subst h
      by_cases h2 : xs = ys
      · subst h2
        simp
      · simp [h2]
    · have e : (x == y) = false := beq_eq_false_iff_ne.mpr h
      rw [e, Bool.false_and, decide_eq_false (fun q => h (by injection q))]
theorem eqv_intsT (xs ys : List Int) : PyData.eqv (.tuple (xs.map PyData.int)) (.tuple (ys.map PyData.int)) = decide (xs = ys) := eqvAll_ints xs ys
theorem eqv_intsL (xs ys : List Int) : PyData.eqv (.list (xs.map PyData.int)) (.list (ys.map PyData.int)) = decide (xs = ys) := eqvAll_ints xs ys
theorem lay_ints : ∀ xs : List Int, PyData.canLayAll0 (xs.map PyData.int) = true
  | [] => rfl
  | x :: xs => lay_ints xs
theorem depth_ints : ∀ xs : List Int, PyData.depthAll (xs.map PyData.int) ≤ 1
  | [] => by decide
  | x :: xs => by
    have ih := depth_ints xs
    simp only [List.map_cons, PyData.depthAll, PyData.depth]
    omega
theorem shaped_intsT (xs : List Int) : SeqAt.shaped (.tuple (xs.map PyData.int)) = true := by
  have h := depth_ints xs
  show (PyData.canLay0 (.tuple (xs.map PyData.int)) && decide ((PyData.tuple (xs.map PyData.int)).depth ≤ 64)) = true
  rw [Bool.and_eq_true]
  refine ⟨by simp only [PyData.canLay0]; exact lay_ints xs, decide_eq_true ?_⟩
  simp only [PyData.depth]
  omega
theorem shaped_intsL (xs : List Int) : SeqAt.shaped (.list (xs.map PyData.int)) = true := by
  have h := depth_ints xs
  show (PyData.canLay0 (.list (xs.map PyData.int)) && decide ((PyData.list (xs.map PyData.int)).depth ≤ 64)) = true
  rw [Bool.and_eq_true]
  refine ⟨by simp only [PyData.canLay0]; exact lay_ints xs, decide_eq_true ?_⟩
  simp only [PyData.depth]
  omega
theorem dpAll_ints {K : PySem.W.Frag} {H : Hp} : ∀ xs : List Int, DpAll K H (xs.map V.int) (xs.map PyData.int)
  | [] => .nil
  | x :: xs => .cons (.int x) (dpAll_ints xs)
theorem dp_intsT {K : PySem.W.Frag} {H : Hp} {a : Addr} {xs : List Int} (h : SqT K H a (xs.map V.int)) : Dp K H (.ref a) (.tuple (xs.map PyData.int)) := .tup h (dpAll_ints xs)
theorem dp_intsL {K : PySem.W.Frag} {H : Hp} {a : Addr} {xs : List Int} (h : SqL K H a (xs.map V.int)) : Dp K H (.ref a) (.list (xs.map PyData.int)) := .lst h (dpAll_ints xs)
theorem walk_zipT {K : PySem.W.Frag} {a b : Addr} {xs ys : List V} {n : Nat} (hn : n = min xs.length ys.length) : Walk (ItzT K a b) n (fun H => SqT K H a xs ∧ SqT K H b ys) (YPair (fun i => xs[i]?) (fun i => ys[i]?)) := by
  subst hn
  refine ⟨fun i _ hi q => ?_, fun _ q => ⟨xs, ys, q.1, q.2, by omega⟩, fun i H v H' _ q y => ?_⟩
  · have h1 : i < xs.length := by omega
    have h2 : i < ys.length := by omega
    exact ⟨xs, ys, xs[i], ys[i], q.1, q.2, by simp [h1], by simp [h2]⟩
  · obtain ⟨T, x, z, h1, h2, h3, h4, h5⟩ := y
    exact ⟨T, x, z, h1, h2, h3, h4 xs q.1, h5 ys q.2⟩
end Wx

namespace Wx
open PySem PySem.Spec PyProof.Rows L2 NdefX RZ
/-! own operators: an instance and a whole number, two instances of one class -/
theorem back_rel {Q : Value → Shared → Prop} {x : V} {v : Value} {s : Shared} (r : RelV x v) (h : Q v s) : PySem.W.CmpBack Q v s := by
  cases x with
  | non => cases (show v = Value.none from r); exact h
  | bl b => cases (show v = Value.bool b from r); exact h
  | int i => obtain ⟨t, rfl⟩ := r; exact h
  | str z => obtain ⟨t, rfl⟩ := r; exact h
  | byt b => obtain ⟨t, rfl⟩ := r; exact h
  | flt b => obtain ⟨t, rfl⟩ := r; exact h
  | ref a => cases (show v = Value.ref a from r); exact h
  | ty n => cases (show v = Value.type n from r); exact h
/-- what the class at C says of an own operator of the names nm, rn -/
structure OpC (K : PySem.W.Frag) (C f : Addr) (nm rn : Str) : Prop where
  first : PySem.W.selfFirst K C = true
  own : PySem.W.findIn K (.ref C) nm = some (some (.ref f))
  fn : PySem.W.isFn K (.ref f) = true
  back : ∃ rc, PySem.W.findIn K (.ref C) rn = some rc ∧ (rc = none ∨ ∃ g : Addr, rc = some (.ref g))
  i1 : ∃ fo, PySem.W.findIn K (.type "int") nm = some fo
  i2 : ∃ ro, PySem.W.findIn K (.type "int") rn = some ro
  isub : PySem.W.subIn K (.type "int") (.ref C) = some false
def tOwnN (C : Addr) (sp : Sp) (E : L2.St → XK) (ta tb : TE) : TE := fun σ H Q => ta σ H fun x H1 => tb σ H1 fun y H2 => ∃ a dx fs i, x = .ref a ∧ y = .int i ∧ H2 a = some (.ins C dx fs) ∧ sp [x, y] H2 Q (E σ)
def tOwnB (C : Addr) (sp : Sp) (E : L2.St → XK) (ta tb : TE) : TE := fun σ H Q => ta σ H fun x H1 => tb σ H1 fun y H2 => ∃ a dx fs b dy gs, x = .ref a ∧ y = .ref b ∧ H2 a = some (.ins C dx fs) ∧ H2 b = some (.ins C dy gs) ∧ sp [x, y] H2 Q (E σ)
section
variable {X : Cx} {CX : CXT} {C f : Addr} {n : Nat} {fd : FuncData} {ps : List Str} {sp : Sp} {E : L2.St → XK} {op : Operator} {a b : Expr} {ta tb : TE} {pos : Pos} {nm rn : Str}
theorem pe_ownN (F : FnOk X.prog X.w X.K X.mg X.base CX n f fd ps sp) (hr : Room n X.A) (O : OpC X.K C f nm rn) (hb : Binds X.K fd ps []) (hx : ∀ σ, PassesAt CX X σ (E σ)) (en : PySem.dunder op.info.2 = nm) (er : PySem.dunderR op.info.2 = rn) (ha : PE X a ta) (hb' : PE X b tb) : PE X (.BinOp a op b pos) (tOwnN C sp E ta tb) := by
  subst en er
  refine ⟨fun pins s σ H Q I h => ?_⟩
  refine wpAny_BinOp (binT ha hb' I h fun v u s2 x y H2 I2 rx ry q => ?_)
  obtain ⟨p, dx, fs, i, rfl, rfl, hp, q⟩ := q
  cases (show v = Value.ref p from rx)
  obtain ⟨t, rfl⟩ := id ry
  obtain ⟨mA, J, _⟩ := ins_get I2.hok hp
  obtain ⟨od, J, _⟩ := J.look
  obtain ⟨m, hF⟩ := I2.fr
  obtain ⟨rc, e1, e2⟩ := O.back
  obtain ⟨fo, e3⟩ := O.i1
  obtain ⟨ro, e4⟩ := O.i2
  refine PySem.W.ksp_binT (T := "int") hF I2.ok.mod.kin J rfl O.first O.own O.fn e1 e2 e3 e4 O.isub ?_
  exact wpAny_mono (run_fnS (us := [.ref p, .int i t]) (vs := [.ref p, .int i]) F hr hb (hx σ) I2 (.cons rfl (.cons ⟨t, rfl⟩ .nil)) q) (fun w s' z => by
    obtain ⟨z', H', I', rz, qz⟩ := z
    exact back_rel rz ⟨z', H', I', rz, qz⟩) fun _ _ x => x
theorem pe_ownB (F : FnOk X.prog X.w X.K X.mg X.base CX n f fd ps sp) (hr : Room n X.A) (O : OpC X.K C f nm rn) (hb : Binds X.K fd ps []) (hx : ∀ σ, PassesAt CX X σ (E σ)) (en : PySem.dunder op.info.2 = nm) (er : PySem.dunderR op.info.2 = rn) (ha : PE X a ta) (hb' : PE X b tb) : PE X (.BinOp a op b pos) (tOwnB C sp E ta tb) := by
  subst en er
  refine ⟨fun pins s σ H Q I h => ?_⟩
  refine wpAny_BinOp (binT ha hb' I h fun v u s2 x y H2 I2 rx ry q => ?_)
  obtain ⟨p, dx, fs, r, dy, gs, rfl, rfl, hp, hq, q⟩ := q
  cases (show v = Value.ref p from rx)
  cases (show u = Value.ref r from ry)
  obtain ⟨mA, J, _⟩ := ins_get I2.hok hp
  obtain ⟨mB, J', _⟩ := ins_get I2.hok hq
  obtain ⟨od, J, _⟩ := J.look
  obtain ⟨od', J', _⟩ := J'.look
  obtain ⟨m, hF⟩ := I2.fr
  refine PySem.W.binop_K hF I2.ok.mod.kin J J'.type O.first O.own O.fn ?_
  exact wpAny_mono (run_fnS (us := [.ref p, .ref r]) (vs := [.ref p, .ref r]) F hr hb (hx σ) I2 (.cons rfl (.cons rfl .nil)) q) (fun w s' z => by
    obtain ⟨z', H', I', rz, qz⟩ := z
    exact back_rel rz ⟨z', H', I', rz, qz⟩) fun _ _ x => x
end
end Wx

/-! == and != of lists and tuples whose items have an own ==, with either answer -/
namespace GB
open PySem PySem.SeqAt
open AutoSeq1 (wpAny_loadPart')
open MeetsSeq MeetsSeq2 MeetsSeq3 SeqRoads2
open GQ (FinOf call_here)
theorem all_take {e : Nat → Bool} {N i : Nat} (h : ((List.range N).take i).all e = true) (hi : i < N) (t : e i = true) : ((List.range N).take (i + 1)).all e = true := by
  have q : (List.range N).take (i + 1) = (List.range N).take i ++ [i] := by
    rw [List.take_add_one, List.getElem?_range hi]
    rfl
  rw [q, List.all_append, h]
  simp [t]
theorem all_no {e : Nat → Bool} {N i : Nat} (hi : i < N) (t : e i = false) : (List.range N).all e = false := by
  refine Bool.eq_false_iff.mpr fun h => ?_
  have := List.all_eq_true.mp h i (List.mem_range.mpr hi)
  rw [t] at this
  cases this
theorem all_end {e : Nat → Bool} {N i : Nat} (h : ((List.range N).take i).all e = true) (hi : N ≤ i) : (List.range N).all e = true := by
  rw [List.take_of_length_le (by simpa using hi)] at h
  exact h
section
variable {prog : Program} {w : World} {A : Around} {R : Result → Shared → Prop}
def ListB (prog : Program) (w : World) (A : Around) (E : Value → Shared → Prop) (l b : Addr) (N : Nat) (e : Nat → Bool) (I : Shared → Prop) : Prop :=
  ∀ s, I s → ∃ (items items2 : Array Value) (n n2 : Nat), s.heap.get? l = some { cls := .type "list", data := .seq items n } ∧ s.heap.get? b = some { cls := .type "list", data := .seq items2 n2 } ∧ items.size = N ∧ items2.size = N ∧
    ∀ i (h1 : i < items.size) (h2 : i < items2.size), wpAny (model prog w) A.in1 (eqBool items[i] items2[i]) (fun r s' => r = e i ∧ I s') E s

theorem eq_loopB (l b : Addr) (N : Nat) (e : Nat → Bool) (I : Shared → Prop) (hl : ListB prog w A (fun e s' => R (.error e) s') l b N e I)
    (fin : ∀ s, I s → R (.ok (.ret (.bool ((List.range N).all e)))) s) (k : Nat) :
    ∀ i : Nat, N - i = k → i ≤ N → ((List.range N).take i).all e = true → ∀ s, I s →
      wpAny (model prog w) A.in1 (Builtin.«list.__eq__.loop» ⟨[.ref l, .ref b, rawInt i, rawInt 2], []⟩) (FinOf prog w A R) (fun e s' => R (.error e) s') s := by
  induction k with
  | zero =>
    intro i hk hi ha s h
    obtain ⟨items, items2, n, n2, hl1, hb1, hs1, hs2, _⟩ := hl _ h
    have hi' : i = N := by omega
    have hR := fin s h
    rw [all_end ha (by omega)] at hR
    obtain ⟨hp, g, d, tk, os⟩ := s
    wp_walk using wpAny_loadPart' hl1, wpAny_loadPart' hb1
    have hi1 : items[((i : Nat) : Int).toNat]? = none := by simp; omega
    have hi2 : items2[((i : Nat) : Int).toNat]? = none := by simp; omega
    rw [hi1, hi2]
    wp_walk using wpAny_loadPart' hl1, wpAny_loadPart' hb1
    show R (.ok (.ret (.bool (items.size == items2.size)))) _
    rw [hs1, hs2]
    simpa using hR
  | succ k ih =>
    intro i hk hi ha s h
    obtain ⟨items, items2, n, n2, hl1, hb1, hs1, hs2, turn⟩ := hl _ h
    have hlt : i < items.size := by omega
    have hlt2 : i < items2.size := by omega
    have ht := turn i hlt hlt2
    obtain ⟨hp, g, d, tk, os⟩ := s
    wp_walk using wpAny_loadPart' hl1, wpAny_loadPart' hb1
    have hi1 : items[((i : Nat) : Int).toNat]? = some items[i] := by simp [hlt]
    have hi2 : items2[((i : Nat) : Int).toNat]? = some items2[i] := by simp [hlt2]
    have hc : ((i : Int) + 1) = ((i + 1 : Nat) : Int) := by omega
    rw [hi1, hi2]
    refine wpAny_bind (wpAny_mono ht (fun r s2 h2 => ?_) fun _ _ x => x)
    obtain ⟨hr, h2⟩ := h2
    subst hr
    cases hb' : e i with
    | true =>
      have hrec := ih (i + 1) (by omega) (by omega) (all_take ha (by omega) hb') s2 h2
      obtain ⟨hp2, g2, d2, tk2, os2⟩ := s2
      wp_walk
      rw [hc]
      exact ⟨plainId_quiet plain_eq_loop _, codeAny_builtin entry_eq_loop (by
        rw [Around.under_plainId plain_eq_loop _]
        exact hrec)⟩
    | false =>
      obtain ⟨items', items2', n', n2', hl1', hb1', hs1', hs2', _⟩ := hl _ h2
      have hR := fin s2 h2
      rw [all_no (by omega) hb'] at hR
      obtain ⟨hp2, g2, d2, tk2, os2⟩ := s2
      wp_walk using wpAny_loadPart' hl1', wpAny_loadPart' hb1'
      have hi1 : items'[((i : Nat) : Int).toNat]? = some (items'[i]'(by omega)) := by simp [show i < items'.size by omega]
      have hi2 : items2'[((i : Nat) : Int).toNat]? = some (items2'[i]'(by omega)) := by simp [show i < items2'.size by omega]
      rw [hi1, hi2]
      wp_walk
      simpa using hR
theorem list_eqB (l b : Addr) (N : Nat) (e : Nat → Bool) (I : Shared → Prop) (hl : ListB prog w A (fun e s' => R (.error e) s') l b N e I)
    (fin : ∀ s, I s → R (.ok (.ret (.bool ((List.range N).all e)))) s) {s : Shared} (h : I s) :
    wpAny (model prog w) A.in1 (Builtin.«list.__eq__» ⟨[.ref l, .ref b], []⟩) (FinOf prog w A R) (fun e s' => R (.error e) s') s := by
  obtain ⟨items, items2, n, n2, hl1, hb1, hs1, hs2, _⟩ := hl _ h
  have hrec := eq_loopB (A := A) (R := R) l b N e I hl fin _ 0 rfl (Nat.zero_le _) rfl s h
  obtain ⟨hp, g, d, tk, os⟩ := s
  have f3 := AutoSeq1.sub_list_list
  have hne : ¬ (items.size != items2.size) = true := by simp [hs1, hs2]
  wp_walk using wpAny_loadPart' hl1, wpAny_loadPart' hb1
  exact ⟨plainId_quiet plain_eq_loop _, codeAny_builtin entry_eq_loop (by
    rw [Around.under_plainId plain_eq_loop _]
    exact hrec)⟩
theorem list_eqD (l b : Addr) (items items2 : Array Value) (n n2 : Nat) (hc0 : (items.size != items2.size) = true) {s : Shared} (hl1 : s.heap.get? l = some { cls := .type "list", data := .seq items n }) (hb1 : s.heap.get? b = some { cls := .type "list", data := .seq items2 n2 })
    (fin : R (.ok (.ret (.bool false))) s) :
    wpAny (model prog w) A.in1 (Builtin.«list.__eq__» ⟨[.ref l, .ref b], []⟩) (FinOf prog w A R) (fun e s' => R (.error e) s') s := by
  obtain ⟨hp, g, d, tk, os⟩ := s
  have f3 := AutoSeq1.sub_list_list
  wp_walk using wpAny_loadPart' hl1, wpAny_loadPart' hb1
  exact fin
theorem tuple_eqB (l b : Addr) (items items2 : Array Value) (n n2 : Nat) (dd dd2 : Option Addr) (sl sl2 : Array (Option Value)) (e : Nat → Bool) (I : Shared → Prop)
    (turn : ∀ i (h1 : i < items.size) (h2 : i < items2.size) s, I s → wpAny (model prog w) A.in1 (eqBool items[i] items2[i]) (fun r s' => r = e i ∧ I s') (fun e s' => R (.error e) s') s)
    (fin : ∀ s, I s → R (.ok (.ret (.bool ((List.range (min items.size items2.size)).all e && items.size == items2.size)))) s) {s : Shared} (hl1 : s.heap.get? l = some { cls := .type "tuple", dict := dd, data := .seq items n, slots := sl }) (hb1 : s.heap.get? b = some { cls := .type "tuple", dict := dd2, data := .seq items2 n2, slots := sl2 }) (h : I s) :
    wpAny (model prog w) A.in1 (Builtin.«tuple.__eq__» ⟨[.ref l, .ref b], []⟩) (FinOf prog w A R) (fun e s' => R (.error e) s') s := by
  have f2 := AutoSeq1.sub_tuple_tuple
  have hZ : (items.toList.zip items2.toList).length = min items.size items2.size := by simp
  have h0 := h
  obtain ⟨hp, g, d, tk, os⟩ := s
  wp_walk using wpAny_loadPart' hl1, wpAny_loadPart' hb1, wpAny_forIn_list _ (fun rest b s' => b.1 = none ∧ ∃ i, rest = (items.toList.zip items2.toList).drop i ∧ ((List.range (min items.size items2.size)).take i).all e = true ∧ I s') _
  case turn =>
    rintro ⟨y, x⟩ rest b s' ⟨hb', i, hz, ha, hI⟩
    have hlt : i < (items.toList.zip items2.toList).length := by
      rcases Nat.lt_or_ge i (items.toList.zip items2.toList).length with h' | h'
      · exact h'
      · rw [List.drop_of_length_le h'] at hz; cases hz
    have hm : i < min items.size items2.size := hZ ▸ hlt
    have h1 : i < items.size := Nat.lt_of_lt_of_le hm (Nat.min_le_left _ _)
    have h2 : i < items2.size := Nat.lt_of_lt_of_le hm (Nat.min_le_right _ _)
    rw [List.drop_eq_getElem_cons hlt] at hz
    injection hz with hyx hrest
    have hy : y = items[i] := by have := congrArg Prod.fst hyx; simpa using this
    have hx : x = items2[i] := by have := congrArg Prod.snd hyx; simpa using this
    subst hy hx
    refine wpAny_bind (wpAny_mono (turn i h1 h2 s' hI) (fun r s2 q2 => ?_) fun _ _ x => x)
    obtain ⟨hr, q2⟩ := q2
    subst hr
    cases hy : e i with
    | true =>
      wp_walk
      exact ⟨rfl, i + 1, hrest, all_take ha hm hy, q2⟩
    | false =>
      have hR := fin s2 q2
      rw [all_no hm hy] at hR
      wp_walk
      simpa using hR
  case fin =>
    rintro ⟨b1, b2⟩ s' ⟨hb', i, hz, ha, hI⟩
    simp only at hb'
    subst hb'
    have hge : min items.size items2.size ≤ i := by
      rcases Nat.lt_or_ge i (items.toList.zip items2.toList).length with h' | h'
      · rw [List.drop_eq_getElem_cons h'] at hz; cases hz
      · exact hZ ▸ h'
    have hR := fin s' hI
    rw [all_end ha hge] at hR
    wp_walk
    simpa [Builtin.Tuple.tupleCompareSizes, bne] using hR
  case h =>
    exact ⟨rfl, 0, rfl, rfl, h0⟩
section
variable {E : Value → Shared → Prop} {s : Shared}
theorem rc_list_eq {l b : Addr} {N : Nat} {e : Nat → Bool} {Q : Value → Shared → Prop} (hu : A.units < cLine) (I : Shared → Prop) (hl : ListB prog w A E l b N e I)
    (fin : ∀ s, I s → Q (.bool ((List.range N).all e)) s) (h : I s) : wpAny (model prog w) A (richCompare .Eq (.ref l) (.ref b)) Q E s := by
  obtain ⟨items, items2, n, n2, hl1, hb1, _, _, _⟩ := hl _ h
  refine wpAny_richCompare_same_room (op := .Eq) ⟨_, hl1, rfl⟩ ⟨_, hb1, rfl⟩ F.slot_list_eq (call_here F.slot_list_eq ⟨_, hl1, rfl⟩ F.entry_list_eq (F.args_list_eq_2 _ _) ?_) hu
  exact list_eqB (R := wants (fun v s' => v ≠ .notImplemented ∧ Q v s') E) l b N e I hl (fun s' q => ⟨(fun x => nomatch x), fin s' q⟩) h
theorem rc_list_eqD {l b : Addr} {items items2 : Array Value} {n n2 : Nat} {Q : Value → Shared → Prop} (hu : A.units < cLine) (hc0 : (items.size != items2.size) = true) (hl1 : s.heap.get? l = some { cls := .type "list", data := .seq items n }) (hb1 : s.heap.get? b = some { cls := .type "list", data := .seq items2 n2 })
    (fin : Q (.bool false) s) : wpAny (model prog w) A (richCompare .Eq (.ref l) (.ref b)) Q E s := by
  refine wpAny_richCompare_same_room (op := .Eq) ⟨_, hl1, rfl⟩ ⟨_, hb1, rfl⟩ F.slot_list_eq (call_here F.slot_list_eq ⟨_, hl1, rfl⟩ F.entry_list_eq (F.args_list_eq_2 _ _) ?_) hu
  exact list_eqD (R := wants (fun v s' => v ≠ .notImplemented ∧ Q v s') E) l b items items2 n n2 hc0 hl1 hb1 ⟨(fun x => nomatch x), fin⟩
theorem rc_tup_eq {l b : Addr} {items items2 : Array Value} {e : Nat → Bool} {Q : Value → Shared → Prop} (hu : A.units < cLine) (I : Shared → Prop) (hl : s.heap.IsTuple l items) (hb : s.heap.IsTuple b items2)
    (turn : ∀ i (h1 : i < items.size) (h2 : i < items2.size) s, I s → wpAny (model prog w) A.in1 (eqBool items[i] items2[i]) (fun r s' => r = e i ∧ I s') E s)
    (fin : ∀ s, I s → Q (.bool ((List.range (min items.size items2.size)).all e && items.size == items2.size)) s) (h : I s) : wpAny (model prog w) A (richCompare .Eq (.ref l) (.ref b)) Q E s := by
  obtain ⟨⟨cls, dd, data, sl⟩, ho, hc, n, hd⟩ := id hl
  obtain ⟨⟨cls2, dd2, data2, sl2⟩, ho2, hc2, n2, hd2⟩ := id hb
  simp only at hc hd hc2 hd2
  subst hc hd hc2 hd2
  refine wpAny_richCompare_same_room (op := .Eq) ⟨_, ho, rfl⟩ ⟨_, ho2, rfl⟩ F.slot_tuple_eq (call_here F.slot_tuple_eq ⟨_, ho, rfl⟩ F.entry_tuple_eq (F.args_tuple_eq_2 _ _) ?_) hu
  exact tuple_eqB (R := wants (fun v s' => v ≠ .notImplemented ∧ Q v s') E) l b items items2 n n2 dd dd2 sl sl2 e I turn (fun s' q => ⟨(fun x => nomatch x), fin s' q⟩) ho ho2 h
end

theorem ne_loopB (l b : Addr) (N : Nat) (e : Nat → Bool) (I : Shared → Prop) (hl : ListB prog w A (fun e s' => R (.error e) s') l b N e I)
    (fin : ∀ s, I s → R (.ok (.ret (.bool (!(List.range N).all e)))) s) (k : Nat) :
    ∀ i : Nat, N - i = k → i ≤ N → ((List.range N).take i).all e = true → ∀ s, I s →
      wpAny (model prog w) A.in1 (Builtin.«list.__eq__.loop» ⟨[.ref l, .ref b, rawInt i, rawInt 3], []⟩) (FinOf prog w A R) (fun e s' => R (.error e) s') s := by
  induction k with
  | zero =>
    intro i hk hi ha s h
    obtain ⟨items, items2, n, n2, hl1, hb1, hs1, hs2, _⟩ := hl _ h
    have hi' : i = N := by omega
    have hR := fin s h
    rw [all_end ha (by omega)] at hR
    obtain ⟨hp, g, d, tk, os⟩ := s
    wp_walk using wpAny_loadPart' hl1, wpAny_loadPart' hb1
    have hi1 : items[((i : Nat) : Int).toNat]? = none := by simp; omega
    have hi2 : items2[((i : Nat) : Int).toNat]? = none := by simp; omega
    rw [hi1, hi2]
    wp_walk using wpAny_loadPart' hl1, wpAny_loadPart' hb1
    show R (.ok (.ret (.bool (items.size != items2.size)))) _
    rw [hs1, hs2]
    simpa using hR
  | succ k ih =>
    intro i hk hi ha s h
    obtain ⟨items, items2, n, n2, hl1, hb1, hs1, hs2, turn⟩ := hl _ h
    have hlt : i < items.size := by omega
    have hlt2 : i < items2.size := by omega
    have ht := turn i hlt hlt2
    obtain ⟨hp, g, d, tk, os⟩ := s
    wp_walk using wpAny_loadPart' hl1, wpAny_loadPart' hb1
    have hi1 : items[((i : Nat) : Int).toNat]? = some items[i] := by simp [hlt]
    have hi2 : items2[((i : Nat) : Int).toNat]? = some items2[i] := by simp [hlt2]
    have hc : ((i : Int) + 1) = ((i + 1 : Nat) : Int) := by omega
    rw [hi1, hi2]
    refine wpAny_bind (wpAny_mono ht (fun r s2 h2 => ?_) fun _ _ x => x)
    obtain ⟨hr, h2⟩ := h2
    subst hr
    cases hb' : e i with
    | true =>
      have hrec := ih (i + 1) (by omega) (by omega) (all_take ha (by omega) hb') s2 h2
      obtain ⟨hp2, g2, d2, tk2, os2⟩ := s2
      wp_walk
      rw [hc]
      exact ⟨plainId_quiet plain_eq_loop _, codeAny_builtin entry_eq_loop (by
        rw [Around.under_plainId plain_eq_loop _]
        exact hrec)⟩
    | false =>
      obtain ⟨items', items2', n', n2', hl1', hb1', hs1', hs2', _⟩ := hl _ h2
      have hR := fin s2 h2
      rw [all_no (by omega) hb'] at hR
      obtain ⟨hp2, g2, d2, tk2, os2⟩ := s2
      wp_walk using wpAny_loadPart' hl1', wpAny_loadPart' hb1'
      have hi1 : items'[((i : Nat) : Int).toNat]? = some (items'[i]'(by omega)) := by simp [show i < items'.size by omega]
      have hi2 : items2'[((i : Nat) : Int).toNat]? = some (items2'[i]'(by omega)) := by simp [show i < items2'.size by omega]
      rw [hi1, hi2]
      wp_walk
      simpa using hR
theorem list_neB (l b : Addr) (N : Nat) (e : Nat → Bool) (I : Shared → Prop) (hl : ListB prog w A (fun e s' => R (.error e) s') l b N e I)
    (fin : ∀ s, I s → R (.ok (.ret (.bool (!(List.range N).all e)))) s) {s : Shared} (h : I s) :
    wpAny (model prog w) A.in1 (Builtin.«list.__ne__» ⟨[.ref l, .ref b], []⟩) (FinOf prog w A R) (fun e s' => R (.error e) s') s := by
  obtain ⟨items, items2, n, n2, hl1, hb1, hs1, hs2, _⟩ := hl _ h
  have hrec := ne_loopB (A := A) (R := R) l b N e I hl fin _ 0 rfl (Nat.zero_le _) rfl s h
  obtain ⟨hp, g, d, tk, os⟩ := s
  have f3 := AutoSeq1.sub_list_list
  have hne : ¬ (items.size != items2.size) = true := by simp [hs1, hs2]
  wp_walk using wpAny_loadPart' hl1, wpAny_loadPart' hb1
  exact ⟨plainId_quiet plain_eq_loop _, codeAny_builtin entry_eq_loop (by
    rw [Around.under_plainId plain_eq_loop _]
    exact hrec)⟩
theorem list_neD (l b : Addr) (items items2 : Array Value) (n n2 : Nat) (hc0 : (items.size != items2.size) = true) {s : Shared} (hl1 : s.heap.get? l = some { cls := .type "list", data := .seq items n }) (hb1 : s.heap.get? b = some { cls := .type "list", data := .seq items2 n2 })
    (fin : R (.ok (.ret (.bool true))) s) :
    wpAny (model prog w) A.in1 (Builtin.«list.__ne__» ⟨[.ref l, .ref b], []⟩) (FinOf prog w A R) (fun e s' => R (.error e) s') s := by
  obtain ⟨hp, g, d, tk, os⟩ := s
  have f3 := AutoSeq1.sub_list_list
  wp_walk using wpAny_loadPart' hl1, wpAny_loadPart' hb1
  exact fin
theorem tuple_neB (l b : Addr) (items items2 : Array Value) (n n2 : Nat) (dd dd2 : Option Addr) (sl sl2 : Array (Option Value)) (e : Nat → Bool) (I : Shared → Prop)
    (turn : ∀ i (h1 : i < items.size) (h2 : i < items2.size) s, I s → wpAny (model prog w) A.in1 (eqBool items[i] items2[i]) (fun r s' => r = e i ∧ I s') (fun e s' => R (.error e) s') s)
    (fin : ∀ s, I s → R (.ok (.ret (.bool (!((List.range (min items.size items2.size)).all e && items.size == items2.size))))) s) {s : Shared} (hl1 : s.heap.get? l = some { cls := .type "tuple", dict := dd, data := .seq items n, slots := sl }) (hb1 : s.heap.get? b = some { cls := .type "tuple", dict := dd2, data := .seq items2 n2, slots := sl2 }) (h : I s) :
    wpAny (model prog w) A.in1 (Builtin.«tuple.__ne__» ⟨[.ref l, .ref b], []⟩) (FinOf prog w A R) (fun e s' => R (.error e) s') s := by
  have f2 := AutoSeq1.sub_tuple_tuple
  have hZ : (items.toList.zip items2.toList).length = min items.size items2.size := by simp
  have h0 := h
  obtain ⟨hp, g, d, tk, os⟩ := s
  wp_walk using wpAny_loadPart' hl1, wpAny_loadPart' hb1, wpAny_forIn_list _ (fun rest b s' => b.1 = none ∧ ∃ i, rest = (items.toList.zip items2.toList).drop i ∧ ((List.range (min items.size items2.size)).take i).all e = true ∧ I s') _
  case turn =>
    rintro ⟨y, x⟩ rest b s' ⟨hb', i, hz, ha, hI⟩
    have hlt : i < (items.toList.zip items2.toList).length := by
      rcases Nat.lt_or_ge i (items.toList.zip items2.toList).length with h' | h'
      · exact h'
      · rw [List.drop_of_length_le h'] at hz; cases hz
    have hm : i < min items.size items2.size := hZ ▸ hlt
    have h1 : i < items.size := Nat.lt_of_lt_of_le hm (Nat.min_le_left _ _)
    have h2 : i < items2.size := Nat.lt_of_lt_of_le hm (Nat.min_le_right _ _)
    rw [List.drop_eq_getElem_cons hlt] at hz
    injection hz with hyx hrest
    have hy : y = items[i] := by have := congrArg Prod.fst hyx; simpa using this
    have hx : x = items2[i] := by have := congrArg Prod.snd hyx; simpa using this
    subst hy hx
    refine wpAny_bind (wpAny_mono (turn i h1 h2 s' hI) (fun r s2 q2 => ?_) fun _ _ x => x)
    obtain ⟨hr, q2⟩ := q2
    subst hr
    cases hy : e i with
    | true =>
      wp_walk
      exact ⟨rfl, i + 1, hrest, all_take ha hm hy, q2⟩
    | false =>
      have hR := fin s2 q2
      rw [all_no hm hy] at hR
      wp_walk
      simpa using hR
  case fin =>
    rintro ⟨b1, b2⟩ s' ⟨hb', i, hz, ha, hI⟩
    simp only at hb'
    subst hb'
    have hge : min items.size items2.size ≤ i := by
      rcases Nat.lt_or_ge i (items.toList.zip items2.toList).length with h' | h'
      · rw [List.drop_eq_getElem_cons h'] at hz; cases hz
      · exact hZ ▸ h'
    have hR := fin s' hI
    rw [all_end ha hge] at hR
    wp_walk
    simpa [Builtin.Tuple.tupleCompareSizes, bne] using hR
  case h =>
    exact ⟨rfl, 0, rfl, rfl, h0⟩
section
variable {E : Value → Shared → Prop} {s : Shared}
theorem rc_list_ne {l b : Addr} {N : Nat} {e : Nat → Bool} {Q : Value → Shared → Prop} (hu : A.units < cLine) (I : Shared → Prop) (hl : ListB prog w A E l b N e I)
    (fin : ∀ s, I s → Q (.bool (!(List.range N).all e)) s) (h : I s) : wpAny (model prog w) A (richCompare .NotEq (.ref l) (.ref b)) Q E s := by
  obtain ⟨items, items2, n, n2, hl1, hb1, _, _, _⟩ := hl _ h
  refine wpAny_richCompare_same_room (op := .NotEq) ⟨_, hl1, rfl⟩ ⟨_, hb1, rfl⟩ F.slot_list_ne (call_here F.slot_list_ne ⟨_, hl1, rfl⟩ F.entry_list_ne (F.args_list_ne_2 _ _) ?_) hu
  exact list_neB (R := wants (fun v s' => v ≠ .notImplemented ∧ Q v s') E) l b N e I hl (fun s' q => ⟨(fun x => nomatch x), fin s' q⟩) h
theorem rc_list_neD {l b : Addr} {items items2 : Array Value} {n n2 : Nat} {Q : Value → Shared → Prop} (hu : A.units < cLine) (hc0 : (items.size != items2.size) = true) (hl1 : s.heap.get? l = some { cls := .type "list", data := .seq items n }) (hb1 : s.heap.get? b = some { cls := .type "list", data := .seq items2 n2 })
    (fin : Q (.bool true) s) : wpAny (model prog w) A (richCompare .NotEq (.ref l) (.ref b)) Q E s := by
  refine wpAny_richCompare_same_room (op := .NotEq) ⟨_, hl1, rfl⟩ ⟨_, hb1, rfl⟩ F.slot_list_ne (call_here F.slot_list_ne ⟨_, hl1, rfl⟩ F.entry_list_ne (F.args_list_ne_2 _ _) ?_) hu
  exact list_neD (R := wants (fun v s' => v ≠ .notImplemented ∧ Q v s') E) l b items items2 n n2 hc0 hl1 hb1 ⟨(fun x => nomatch x), fin⟩
theorem rc_tup_ne {l b : Addr} {items items2 : Array Value} {e : Nat → Bool} {Q : Value → Shared → Prop} (hu : A.units < cLine) (I : Shared → Prop) (hl : s.heap.IsTuple l items) (hb : s.heap.IsTuple b items2)
    (turn : ∀ i (h1 : i < items.size) (h2 : i < items2.size) s, I s → wpAny (model prog w) A.in1 (eqBool items[i] items2[i]) (fun r s' => r = e i ∧ I s') E s)
    (fin : ∀ s, I s → Q (.bool (!((List.range (min items.size items2.size)).all e && items.size == items2.size))) s) (h : I s) : wpAny (model prog w) A (richCompare .NotEq (.ref l) (.ref b)) Q E s := by
  obtain ⟨⟨cls, dd, data, sl⟩, ho, hc, n, hd⟩ := id hl
  obtain ⟨⟨cls2, dd2, data2, sl2⟩, ho2, hc2, n2, hd2⟩ := id hb
  simp only at hc hd hc2 hd2
  subst hc hd hc2 hd2
  refine wpAny_richCompare_same_room (op := .NotEq) ⟨_, ho, rfl⟩ ⟨_, ho2, rfl⟩ F.slot_tuple_ne (call_here F.slot_tuple_ne ⟨_, ho, rfl⟩ F.entry_tuple_ne (F.args_tuple_ne_2 _ _) ?_) hu
  exact tuple_neB (R := wants (fun v s' => v ≠ .notImplemented ∧ Q v s') E) l b items items2 n n2 dd dd2 sl sl2 e I turn (fun s' q => ⟨(fun x => nomatch x), fin s' q⟩) ho ho2 h
end
end
end GB
namespace Wx
open PySem PySem.Spec PyProof.Rows L2 NdefX RZ
/-! what a value stands for, and == by it -/
abbrev Rep (α : Type) := V → Hp → α → Prop
def RMon {α : Type} (R : Rep α) : Prop := ∀ x H H' a, Ext H H' → R x H a → R x H' a
def RFun {α : Type} (R : Rep α) : Prop := ∀ x H a a', R x H a → R x H a' → a = a'
def Reps {α : Type} (R : Rep α) (H : Hp) : List V → List α → Prop
  | [], [] => True
  | x :: xs, a :: as => R x H a ∧ Reps R H xs as
  | _, _ => False
section
variable {α : Type} {R : Rep α} {H H' : Hp}
theorem Reps.len : ∀ {xs : List V} {as : List α}, Reps R H xs as → xs.length = as.length
  | [], [], _ => rfl
  | _ :: xs, _ :: as, h => by rw [List.length_cons, List.length_cons, Reps.len h.2]
  | [], _ :: _, h => h.elim
  | _ :: _, [], h => h.elim
theorem Reps.mono (hR : RMon R) (e : Ext H H') : ∀ {xs : List V} {as : List α}, Reps R H xs as → Reps R H' xs as
  | [], [], _ => trivial
  | _ :: xs, _ :: as, h => ⟨hR _ _ _ _ e h.1, Reps.mono hR e h.2⟩
  | [], _ :: _, h => h.elim
  | _ :: _, [], h => h.elim
theorem Reps.imp {S : Rep α} (hR : ∀ x a, R x H a → S x H' a) : ∀ {xs : List V} {as : List α}, Reps R H xs as → Reps S H' xs as
  | [], [], _ => trivial
  | _ :: xs, _ :: as, h => ⟨hR _ _ h.1, Reps.imp hR h.2⟩
  | [], _ :: _, h => h.elim
  | _ :: _, [], h => h.elim
theorem Reps.fn (hR : RFun R) : ∀ {xs : List V} {as bs : List α}, Reps R H xs as → Reps R H xs bs → as = bs
  | [], [], [], _, _ => rfl
  | _ :: xs, _ :: as, _ :: bs, h, h' => by rw [hR _ _ _ _ h.1 h'.1, Reps.fn hR h.2 h'.2]
  | [], _ :: _, _, h, _ => h.elim
  | [], _, _ :: _, _, h => h.elim
  | _ :: _, [], _, h, _ => h.elim
  | _ :: _, _, [], _, h => h.elim
theorem Reps.get : ∀ {xs : List V} {as : List α} {i : Nat} {x : V} {a : α}, Reps R H xs as → xs[i]? = some x → as[i]? = some a → R x H a
  | _ :: xs, _ :: as, 0, x, a, h, h1, h2 => by
    have e1 := Option.some.inj h1
    have e2 := Option.some.inj h2
    subst e1 e2
    exact h.1
  | _ :: xs, _ :: as, i + 1, x, a, h, h1, h2 => Reps.get (i := i) h.2 h1 h2
  | [], _, _, _, _, _, h, _ => by simp at h
  | _ :: _, [], _, _, _, h, _, _ => h.elim
theorem Reps.at {xs : List V} {as : List α} {i : Nat} {x : V} (h : Reps R H xs as) (h1 : xs[i]? = some x) : ∃ a, as[i]? = some a ∧ R x H a := by
  have hi : i < as.length := by rw [← h.len]; exact (List.getElem?_eq_some_iff.mp h1).1
  exact ⟨_, List.getElem?_eq_getElem hi, h.get h1 (List.getElem?_eq_getElem hi)⟩
theorem Reps.at' {xs : List V} {as : List α} {i : Nat} {a : α} (h : Reps R H xs as) (h1 : as[i]? = some a) : ∃ x, xs[i]? = some x ∧ R x H a := by
  have hi : i < xs.length := by rw [h.len]; exact (List.getElem?_eq_some_iff.mp h1).1
  exact ⟨_, List.getElem?_eq_getElem hi, h.get (List.getElem?_eq_getElem hi) h1⟩
theorem Reps.app : ∀ {xs ys : List V} {as bs : List α}, Reps R H xs as → Reps R H ys bs → Reps R H (xs ++ ys) (as ++ bs)
  | [], _, [], _, _, h' => h'
  | _ :: xs, _, _ :: as, _, h, h' => ⟨h.1, Reps.app h.2 h'⟩
  | [], _, _ :: _, _, h, _ => h.elim
  | _ :: _, _, [], _, h, _ => h.elim
theorem Reps.one {x : V} {a : α} (h : R x H a) : Reps R H [x] [a] := ⟨h, trivial⟩
theorem Reps.rep {x : V} {a : α} (h : R x H a) : ∀ n, Reps R H (List.replicate n x) (List.replicate n a)
  | 0 => trivial
  | n + 1 => ⟨h, Reps.rep h n⟩
theorem Reps.take : ∀ {xs : List V} {as : List α} (n : Nat), Reps R H xs as → Reps R H (xs.take n) (as.take n)
  | _, _, 0, _ => by rw [List.take_zero, List.take_zero]; trivial
  | [], [], n + 1, _ => trivial
  | _ :: xs, _ :: as, n + 1, h => ⟨h.1, Reps.take n h.2⟩
  | [], _ :: _, _ + 1, h => h.elim
  | _ :: _, [], _ + 1, h => h.elim
theorem Reps.drop : ∀ {xs : List V} {as : List α} (n : Nat), Reps R H xs as → Reps R H (xs.drop n) (as.drop n)
  | _, _, 0, h => h
  | [], [], n + 1, _ => trivial
  | _ :: xs, _ :: as, n + 1, h => Reps.drop n h.2
  | [], _ :: _, _ + 1, h => h.elim
  | _ :: _, [], _ + 1, h => h.elim
theorem Reps.set : ∀ {xs : List V} {as : List α} (i : Nat) {x : V} {a : α}, Reps R H xs as → R x H a → Reps R H (xs.set i x) (as.set i a)
  | [], [], _, _, _, _, _ => trivial
  | _ :: xs, _ :: as, 0, _, _, h, h' => ⟨h', h.2⟩
  | _ :: xs, _ :: as, i + 1, _, _, h, h' => ⟨h.1, Reps.set i h.2 h'⟩
  | [], _ :: _, _, _, _, h, _ => h.elim
  | _ :: _, [], _, _, _, h, _ => h.elim
end
/-- a tuple, a list whose items stand for as -/
def repT {α : Type} (R : Rep α) : Rep (List α) := fun x H as => ∃ p xs, x = .ref p ∧ H p = some (.tup xs) ∧ Reps R H xs as
def repL {α : Type} (R : Rep α) : Rep (List α) := fun x H as => ∃ p xs, x = .ref p ∧ H p = some (.lst xs) ∧ Reps R H xs as
def repI : Rep Int := fun x _ i => x = .int i
section
variable {α : Type} {R : Rep α}
theorem repT_mono (hR : RMon R) : RMon (repT R) := fun x H H' a e h => by
  obtain ⟨p, xs, rfl, h1, h2⟩ := h
  exact ⟨p, xs, rfl, e _ _ h1, h2.mono hR e⟩
theorem repL_mono (hR : RMon R) : RMon (repL R) := fun x H H' a e h => by
  obtain ⟨p, xs, rfl, h1, h2⟩ := h
  exact ⟨p, xs, rfl, e _ _ h1, h2.mono hR e⟩
theorem repT_fn (hR : RFun R) : RFun (repT R) := fun x H a b h h' => by
  obtain ⟨p, xs, rfl, h1, h2⟩ := h
  obtain ⟨q, ys, e, h3, h4⟩ := h'
  cases e
  rw [h1] at h3
  cases h3
  exact h2.fn hR h4
theorem repL_fn (hR : RFun R) : RFun (repL R) := fun x H a b h h' => by
  obtain ⟨p, xs, rfl, h1, h2⟩ := h
  obtain ⟨q, ys, e, h3, h4⟩ := h'
  cases e
  rw [h1] at h3
  cases h3
  exact h2.fn hR h4
theorem repI_mono : RMon repI := fun _ _ _ _ _ h => h
theorem repI_fn : RFun repI := fun x H a b h h' => by rw [h] at h'; injection h'
end
theorem all_eqs {α : Type} [DecidableEq α] [Inhabited α] : ∀ (as bs : List α), ((List.range (min as.length bs.length)).all (fun i => decide (as[i]? = bs[i]?)) && as.length == bs.length) = decide (as = bs) := fun as bs => by
  rw [Bool.eq_iff_iff, Bool.and_eq_true, List.all_eq_true, decide_eq_true_iff, beq_iff_eq]
  constructor
  · rintro ⟨h, hl⟩
    apply List.ext_getElem?
    intro i
    by_cases hi : i < as.length
    · exact of_decide_eq_true (h i (List.mem_range.mpr (by omega)))
    · rw [List.getElem?_eq_none (by omega), List.getElem?_eq_none (by omega)]
  · rintro rfl
    exact ⟨fun i _ => decide_eq_true rfl, rfl⟩
def EqR {α : Type} [DecidableEq α] (X : Cx) (n : Nat) (R : Rep α) : Prop :=
  ∀ (A : Around) (pins : List (Addr × Obj)) (s : Shared) (σ : L2.St) (H : Hp) (x y : V) (u v : Value) (a b : α), Sub X n A → Inv X pins σ H s → RelV x u → RelV y v → R x H a → R y H b →
    wpAny (model X.prog X.w) A (eqBool u v) (fun r s' => r = decide (a = b) ∧ ∃ H', Inv X pins σ H' s' ∧ Ext H H') X.xe s
def RcR {α : Type} [DecidableEq α] (op : CmpOp) (g : Bool → Bool) (X : Cx) (n : Nat) (R : Rep α) : Prop :=
  ∀ (A : Around) (pins : List (Addr × Obj)) (s : Shared) (σ : L2.St) (H : Hp) (x y : V) (u v : Value) (a b : α), Sub X n A → Inv X pins σ H s → RelV x u → RelV y v → R x H a → R y H b →
    wpAny (model X.prog X.w) A (richCompare op u v) (fun r s' => r = .bool (g (decide (a = b))) ∧ ∃ H', Inv X pins σ H' s' ∧ Ext H H') X.xe s
section
variable {α : Type} [DecidableEq α] {R : Rep α} {X : Cx} {n m : Nat}
theorem EqR.mono (h : EqR X n R) (hn : n ≤ m) : EqR X m R := fun A pins s σ H x y u v a b sb => h A pins s σ H x y u v a b (sb.mono hn)
theorem eqR_int : EqR X 0 repI := by
  intro A pins s σ H x y u v a b sb I rx ry h1 h2
  cases h1
  cases h2
  have q := eqAt_V (A := A) (s := s) rx ry rfl rfl
  refine q X.prog X.w X.xe _ ⟨?_, H, I, Ext.rfl'⟩
  show eqV (.int a) (.int b) = decide (a = b)
  first | rfl | simp [eqV]
theorem RcR.eqR (h : RcR .Eq id X n R) (hr : ∀ x H a, R x H a → ∃ p, x = .ref p) (hf : RFun R) : EqR X n R := by
  intro A pins s σ H x y u v a b sb I rx ry h1 h2
  obtain ⟨p, rfl⟩ := hr _ _ _ h1
  obtain ⟨q, rfl⟩ := hr _ _ _ h2
  cases rx
  cases ry
  by_cases hab : p = q
  · subst hab
    have e := hf _ _ _ _ h1 h2
    subst e
    rw [decide_eq_true rfl]
    exact SeqAt.EqAt.same (A := A) (s := s) (.ref p) X.prog X.w X.xe _ ⟨rfl, H, I, Ext.rfl'⟩
  · refine GQ.eqBool_refG hab (wpAny_mono (h A pins s σ H (.ref p) (.ref q) _ _ a b sb I rfl rfl h1 h2) (fun r s' z => ?_) fun _ _ x => x)
    obtain ⟨hr', z⟩ := z
    exact ⟨_, hr', rfl, z⟩
theorem turnR (hM : RMon R) (h : EqR X n R) {A : Around} (sb : Sub X (n + 1) A) {pins : List (Addr × Obj)} {σ : L2.St} {H : Hp} {xs ys : List V} {as bs : List α} {its its2 : List Value} (p : Reps R H xs as) (q : Reps R H ys bs) (r : Vals xs its) (r2 : Vals ys its2)
    (i : Nat) (h1 : i < its.toArray.size) (h2 : i < its2.toArray.size) (s' : Shared) (l : LoopI X pins σ H s') :
    wpAny (model X.prog X.w) A.in1 (eqBool its.toArray[i] its2.toArray[i]) (fun r s2 => r = decide (as[i]? = bs[i]?) ∧ LoopI X pins σ H s2) X.xe s' := by
  obtain ⟨H1, I1, e1⟩ := l
  have g1 : its[i]? = some its.toArray[i] := by
    have h1' : i < its.length := by simpa using h1
    rw [List.getElem?_eq_getElem h1'] <;> simp
  have g2 : its2[i]? = some its2.toArray[i] := by
    have h2' : i < its2.length := by simpa using h2
    rw [List.getElem?_eq_getElem h2'] <;> simp
  have k1 : i < xs.length := by rw [r.length]; simpa using h1
  have k2 : i < ys.length := by rw [r2.length]; simpa using h2
  obtain ⟨u, hu, ru⟩ := r.get (List.getElem?_eq_getElem k1)
  obtain ⟨v, hv, rv⟩ := r2.get (List.getElem?_eq_getElem k2)
  rw [g1] at hu
  rw [g2] at hv
  rw [Option.some.inj hu, Option.some.inj hv]
  obtain ⟨a, ha, ra⟩ := p.at (List.getElem?_eq_getElem k1)
  obtain ⟨b, hb, rb⟩ := q.at (List.getElem?_eq_getElem k2)
  refine wpAny_mono (h A.in1 pins s' σ H1 _ _ u v a b sb.in1 I1 ru rv (hM _ _ _ _ e1 ra) (hM _ _ _ _ e1 rb)) (fun r s2 z => ?_) fun _ _ x => x
  obtain ⟨hr, H2, I2, e2⟩ := z
  refine ⟨?_, H2, I2, e1.trans e2⟩
  rw [hr, ha, hb]
  simp
theorem rc_T {op : CmpOp} {g : Bool → Bool} (hop : (op = .Eq ∧ g = id) ∨ (op = .NotEq ∧ g = not)) [Inhabited α] (hM : RMon R) (h : EqR X n R) : RcR op g X (n + 1) (repT R) := by
  intro A pins s σ H x y u v as bs sb I rx ry h1 h2
  obtain ⟨a, xs, rfl, ha, p⟩ := h1
  obtain ⟨b, ys, rfl, hb, q⟩ := h2
  cases rx
  cases ry
  obtain ⟨its, r, e, z⟩ := I.tuple (SqT.of (K := X.K) ha)
  obtain ⟨its2, r2, e2, z2⟩ := I.tuple (SqT.of (K := X.K) hb)
  have l1 : its.toArray.size = as.length := by rw [List.size_toArray, ← r.length]; exact p.len
  have l2 : its2.toArray.size = bs.length := by rw [List.size_toArray, ← r2.length]; exact q.len
  have ans : ((List.range (min its.toArray.size its2.toArray.size)).all (fun i => decide (as[i]? = bs[i]?)) && its.toArray.size == its2.toArray.size) = decide (as = bs) := by rw [l1, l2]; exact all_eqs as bs
  rcases hop with ⟨rfl, rfl⟩ | ⟨rfl, rfl⟩
  · exact GB.rc_tup_eq (e := fun i => decide (as[i]? = bs[i]?)) sb.room.units0 (fun s' => LoopI X pins σ H s') e e2 (fun i h1 h2 s' l => turnR hM h sb p q r r2 i h1 h2 s' l) (fun s' l => ⟨by rw [ans]; rfl, l⟩) ⟨H, I, Ext.rfl'⟩
  · exact GB.rc_tup_ne (e := fun i => decide (as[i]? = bs[i]?)) sb.room.units0 (fun s' => LoopI X pins σ H s') e e2 (fun i h1 h2 s' l => turnR hM h sb p q r r2 i h1 h2 s' l) (fun s' l => ⟨by rw [ans], l⟩) ⟨H, I, Ext.rfl'⟩
theorem rc_L {op : CmpOp} {g : Bool → Bool} (hop : (op = .Eq ∧ g = id) ∨ (op = .NotEq ∧ g = not)) [Inhabited α] (hM : RMon R) (h : EqR X n R) : RcR op g X (n + 1) (repL R) := by
  intro A pins s σ H x y u v as bs sb I rx ry h1 h2
  obtain ⟨a, xs, rfl, ha, p⟩ := h1
  obtain ⟨b, ys, rfl, hb, q⟩ := h2
  cases rx
  cases ry
  by_cases hl : as.length = bs.length
  · have ans : ((List.range xs.length).all (fun i => decide (as[i]? = bs[i]?))) = decide (as = bs) := by
      rw [← all_eqs as bs, p.len, hl]
      simp
    have LB : GB.ListB X.prog X.w A X.xe a b xs.length (fun i => decide (as[i]? = bs[i]?)) (fun s' => LoopI X pins σ H s') := fun s' l => by
      obtain ⟨H1, I1, e1⟩ := id l
      obtain ⟨z, its, k, r, e⟩ := I1.hok a _ (e1 _ _ ha)
      obtain ⟨z2, its2, k2, r2, e2⟩ := I1.hok b _ (e1 _ _ hb)
      refine ⟨its.toArray, its2.toArray, k, k2, e, e2, by rw [List.size_toArray, ← r.length], by rw [List.size_toArray, ← r2.length, q.len, p.len, hl], fun i h1 h2 => ?_⟩
      exact turnR hM h sb p q r r2 i h1 h2 s' l
    rcases hop with ⟨rfl, rfl⟩ | ⟨rfl, rfl⟩
    · exact GB.rc_list_eq sb.room.units0 _ LB (fun s' l => ⟨by rw [ans]; rfl, l⟩) ⟨H, I, Ext.rfl'⟩
    · exact GB.rc_list_ne sb.room.units0 _ LB (fun s' l => ⟨by rw [ans], l⟩) ⟨H, I, Ext.rfl'⟩
  · obtain ⟨z, its, k, r, e⟩ := I.hok a _ ha
    obtain ⟨z2, its2, k2, r2, e2⟩ := I.hok b _ hb
    have hc : (its.toArray.size != its2.toArray.size) = true := by
      rw [List.size_toArray, List.size_toArray, ← r.length, ← r2.length, p.len, q.len]
      simpa using hl
    have ans : decide (as = bs) = false := decide_eq_false (fun z => hl (by rw [z]))
    rcases hop with ⟨rfl, rfl⟩ | ⟨rfl, rfl⟩
    · exact GB.rc_list_eqD sb.room.units0 hc e e2 ⟨by rw [ans]; rfl, H, I, Ext.rfl'⟩
    · exact GB.rc_list_neD sb.room.units0 hc e e2 ⟨by rw [ans]; rfl, H, I, Ext.rfl'⟩
theorem eqR_T [Inhabited α] (hM : RMon R) (hF : RFun R) (h : EqR X n R) : EqR X (n + 1) (repT R) := (rc_T (.inl ⟨rfl, rfl⟩) hM h).eqR (fun _ _ _ d => let ⟨p, _, hx, _⟩ := d; ⟨p, hx⟩) (repT_fn hF)
theorem eqR_L [Inhabited α] (hM : RMon R) (hF : RFun R) (h : EqR X n R) : EqR X (n + 1) (repL R) := (rc_L (.inl ⟨rfl, rfl⟩) hM h).eqR (fun _ _ _ d => let ⟨p, _, hx, _⟩ := d; ⟨p, hx⟩) (repL_fn hF)
/-- x == y, x != y as expressions -/
def rEqR (R : Rep α) (g : Bool → Bool) : R2 := fun x y H Q => ∃ a b, R x H a ∧ R y H b ∧ ∀ H', Ext H H' → Q (.bl (g (decide (a = b)))) H'
theorem op_eqR {g : Bool → Bool} (h : RcR .Eq g X n R) (hr : Room n X.A) : OpR X (compareOp .Eq) (rEqR R g) := by
  intro pins s σ H x y v u Q I rx ry hq
  obtain ⟨a, b, ra, rb, q⟩ := hq
  show wpAny (model X.prog X.w) X.A (richCompare .Eq v u) (EP X pins σ Q) X.xe s
  refine wpAny_mono (h X.A pins s σ H x y v u a b ⟨hr, rfl⟩ I rx ry ra rb) (fun r s' z => ?_) fun _ _ x => x
  obtain ⟨hr', H', I', e⟩ := z
  subst hr'
  exact ⟨.bl _, H', I', rfl, q H' e⟩
theorem op_neR {g : Bool → Bool} (h : RcR .NotEq g X n R) (hr : Room n X.A) : OpR X (compareOp .NotEq) (rEqR R g) := by
  intro pins s σ H x y v u Q I rx ry hq
  obtain ⟨a, b, ra, rb, q⟩ := hq
  show wpAny (model X.prog X.w) X.A (richCompare .NotEq v u) (EP X pins σ Q) X.xe s
  refine wpAny_mono (h X.A pins s σ H x y v u a b ⟨hr, rfl⟩ I rx ry ra rb) (fun r s' z => ?_) fun _ _ x => x
  obtain ⟨hr', H', I', e⟩ := z
  subst hr'
  exact ⟨.bl _, H', I', rfl, q H' e⟩
/-- an own class: its __eq__ answers by what the instances stand for -/
theorem rcR_ins {CX : CXT} {C f : Addr} {fd : FuncData} {ps : List Str} {sp : Sp} {E : XK} (F : FnOk X.prog X.w X.K X.mg X.base CX n f fd ps sp)
    (hs : PySem.W.findIn X.K (.ref C) "__eq__" = some (some (.ref f))) (hf : PySem.W.isFn X.K (.ref f) = true) (hb : Binds X.K fd ps []) (hx : Passes CX X E)
    (hi : ∀ x H a, R x H a → ∃ p dx fs, x = .ref p ∧ H p = some (.ins C dx fs))
    (hsp : ∀ p q H a b (Q : VK), R (.ref p) H a → R (.ref q) H b → (∀ H', Ext H H' → Q (.bl (decide (a = b))) H') → sp [.ref p, .ref q] H Q E) : RcR .Eq id X n R := by
  intro A pins s σ H x y u v a b sb I rx ry h1 h2
  obtain ⟨p, dx, fs, rfl, ha⟩ := hi _ _ _ h1
  obtain ⟨q, dy, gs, rfl, hb'⟩ := hi _ _ _ h2
  cases rx
  cases ry
  obtain ⟨mA, J, _⟩ := ins_get I.hok ha
  obtain ⟨mB, J', _⟩ := ins_get I.hok hb'
  obtain ⟨od, J, _⟩ := J.look
  obtain ⟨od', J', _⟩ := J'.look
  obtain ⟨m, hF⟩ := I.fr
  refine PySem.W.cmp_K (op := .Eq) (tb := .ref C) sb.room.units0 hF I.ok.mod.kin J J'.type (by simp [PySem.W.notFirst]) hs hf ?_
  have h := hsp p q H a b (fun v H' => v = .bl (decide (a = b)) ∧ Ext H H') h1 h2 (fun H' e => ⟨rfl, e⟩)
  have e0 : Env0 X.prog X.w X.K X.mg X.base A X.stack s H := by
    have e := I.env0
    exact ⟨by rw [sb.fr]; exact e.frames, e.mod, e.bs, e.bsz, e.funs, e.frf, e.hok, e.bare⟩
  have hl := F.len _ _ _ _ h
  have r2 : Vals [V.ref p, V.ref q] [Value.ref p, Value.ref q] := .cons rfl (.cons rfl .nil)
  refine wpAny_call (codeAny_mono (F.run A X.stack s H ⟨[.ref p, .ref q], []⟩ [.ref p, .ref q] [.ref p, .ref q] _ E sb.room e0 (by
    have := hb s [.ref p, .ref q] I.kIn (by simpa using hl)
    simpa using this) r2 h) fun r s' hq => ?_)
  cases r with
  | error e => exact hx pins σ H s e s' I hq
  | ok fl =>
    cases fl with
    | ret w =>
      obtain ⟨z, H', I', rz, ez, ex⟩ := I.after hq
      subst ez
      cases rz
      exact ⟨rfl, H', I', ex⟩
    | next => exact False.elim hq
    | brk => exact False.elim hq
    | cont => exact False.elim hq
theorem eqR_ins {CX : CXT} {C f : Addr} {fd : FuncData} {ps : List Str} {sp : Sp} {E : XK} (F : FnOk X.prog X.w X.K X.mg X.base CX n f fd ps sp)
    (hs : PySem.W.findIn X.K (.ref C) "__eq__" = some (some (.ref f))) (hf : PySem.W.isFn X.K (.ref f) = true) (hb : Binds X.K fd ps []) (hx : Passes CX X E)
    (hi : ∀ x H a, R x H a → ∃ p dx fs, x = .ref p ∧ H p = some (.ins C dx fs))
    (hsp : ∀ p q H a b (Q : VK), R (.ref p) H a → R (.ref q) H b → (∀ H', Ext H H' → Q (.bl (decide (a = b))) H') → sp [.ref p, .ref q] H Q E) (hF : RFun R) : EqR X n R :=
  (rcR_ins F hs hf hb hx hi hsp).eqR (fun x H a h => let ⟨p, _, _, e, _⟩ := hi x H a h; ⟨p, e⟩) hF
end
end Wx

namespace Wx
open PySem PySem.Spec PyProof.Rows L2 NdefX RZ StX
/-! own [..] and len, a class made of a starred list, defs with a starred parameter that may raise -/
abbrev rTupOf (K : PySem.W.Frag) : List V → Hp → VK → Prop := fun xs H Q => ∃ p ys, xs = [.ref p] ∧ ((SqL K H p ys ∧ ∀ l, H l = none → Q (.ref l) (upd H l (.tup ys))) ∨ (SqT K H p ys ∧ Q (.ref p) H))
section
variable {X : Cx}
def rIxA (K : PySem.W.Frag) : R2 := fun x y H Q => ∃ p xs i v, x = .ref p ∧ y = .int i ∧ (SqL K H p xs ∨ SqT K H p xs) ∧ atI xs i = some v ∧ Q v H
theorem ix_lortu : IxR X (rIxA X.K) := by
  intro value slice pins s σ H x y v u Q I rx ry h hs
  obtain ⟨p, xs, i, z, hx, hy, hq, he, q⟩ := h
  rcases hq with hq | hq
  · exact ix_list value slice pins s σ H x y v u Q I rx ry ⟨p, xs, i, z, hx, hy, hq, he, q⟩ hs
  · exact ix_tup value slice pins s σ H x y v u Q I rx ry ⟨p, xs, i, z, hx, hy, hq, he, q⟩ hs
end
section
variable {X : Cx} {CX : CXT} {C f : Addr} {n k : Nat} {fd : FuncData} {ps : List Str} {sp : Sp} {E : L2.St → XK} {a b e : Expr} {es : List Expr} {ta tb te : TE} {t : TA} {x : Str} {pos p sp_ : Pos}
/-- a call in a deeper place, what is raised told at the slots -/
theorem run_inS {A : Around} {pins : List (Addr × Obj)} {σ : L2.St} {H : Hp} {s : Shared} {us : List Value} {vs : List V} {Q : VK} {E : XK} (F : FnOk X.prog X.w X.K X.mg X.base CX n f fd ps sp) (hr : Room n A) (e0 : Env0 X.prog X.w X.K X.mg X.base A X.stack s H) (hb : Binds X.K fd ps []) (hx : PassesAt CX X σ E)
    (I : Inv X pins σ H s) (r : Vals vs us) (h : sp vs H Q E) : wpAny (model X.prog X.w) A (call (.ref f) us) (EP X pins σ Q) X.xe s := by
  have hl : us.length = ps.length := by rw [← r.length]; exact F.len _ _ _ _ h
  refine wpAny_call (codeAny_mono (F.run A X.stack s H ⟨us, []⟩ us vs Q E hr e0 (by
    have := hb s us I.kIn (by simpa using hl)
    simpa using this) r h) fun r s' hq => ?_)
  cases r with
  | error e => exact hx pins H s e s' I hq
  | ok fl =>
    cases fl with
    | ret w => exact I.after hq
    | next => exact False.elim hq
    | brk => exact False.elim hq
    | cont => exact False.elim hq
theorem run_inR {A : Around} {pins : List (Addr × Obj)} {σ : L2.St} {H : Hp} {s : Shared} {us : List Value} {vs : List V} {Q : VK} {E : XK} (F : FnR X.prog X.w X.K X.mg X.base CX n f sp) (hr : Room n A) (e0 : Env0 X.prog X.w X.K X.mg X.base A X.stack s H) (hx : PassesAt CX X σ E)
    (I : Inv X pins σ H s) (r : Vals vs us) (h : sp vs H Q E) : codeAny (model X.prog X.w) A (.call (.ref f) ⟨us, []⟩) (fun r s' => match r with | .ok (.ret v) => EP X pins σ Q v s' | .ok _ => False | .error e => X.xe e s') s := by
  refine codeAny_mono (F A X.stack s H us vs Q E hr e0 r h) fun r s' hq => ?_
  cases r with
  | error e => exact hx pins H s e s' I hq
  | ok fl =>
    cases fl with
    | ret w => exact I.after hq
    | next => exact False.elim hq
    | brk => exact False.elim hq
    | cont => exact False.elim hq
def tIxOwn (C : Addr) (sp : Sp) (E : L2.St → XK) (ta tb : TE) : TE := fun σ H Q => ta σ H fun x H1 => tb σ H1 fun y H2 => ∃ a dx fs, x = .ref a ∧ H2 a = some (.ins C dx fs) ∧ sp [x, y] H2 Q (E σ)
/-- x[i] by an own __getitem__ -/
theorem pe_ixOwn (F : FnOk X.prog X.w X.K X.mg X.base CX n f fd ps sp) (hr : Room (n + 1) X.A) (hs : PySem.W.findIn X.K (.ref C) "__getitem__" = some (some (.ref f))) (hf : PySem.W.fnIn X.K f = true) (hfn : PySem.W.isFn X.K (.ref f) = true) (hb : Binds X.K fd ps []) (hx : ∀ σ, PassesAt CX X σ (E σ))
    (ha : PE X a ta) (hb' : PE X b tb) (hsl : ∀ v i, subscripted b true v i = runValue (.builtin "lifetime.subscript" ⟨[v, i], []⟩) := by intro _ _; with_unfolding_all rfl) : PE X (.Subscript a b pos) (tIxOwn C sp E ta tb) := by
  refine ⟨fun pins s σ H Q I h => ?_⟩
  refine Subscript_ (binT ha hb' I h fun v u s2 x y H2 I2 rx ry q => ?_)
  obtain ⟨p, dx, fs, rfl, hp, q⟩ := q
  cases (show v = Value.ref p from rx)
  obtain ⟨mA, J, _⟩ := ins_get I2.hok hp
  obtain ⟨od, J, _⟩ := J.look
  obtain ⟨m, hF⟩ := I2.fr
  refine PySem.W.sub_K hF I2.ok.mod.kin J hs hf hfn ?_ (hsl _ _)
  exact run_inS (us := [.ref p, u]) (vs := [.ref p, y]) F hr.in1 I2.env0.in1 hb (hx σ) I2 (.cons rfl (.cons ry .nil)) q
/-- len(x) by an own __len__ -/
theorem call_lenOwn {E : XK} (F : FnOk X.prog X.w X.K X.mg X.base CX n f fd ps sp) (hr : Room (n + 1) X.A) (hs : PySem.W.findIn X.K (.ref C) "__len__" = some (some (.ref f))) (hfn : PySem.W.isFn X.K (.ref f) = true) (hb : Binds X.K fd ps []) (hx : Passes CX X E) :
    CallR X (.builtin "len") (fun xs H Q => ∃ a dx fs, xs = [.ref a] ∧ H a = some (.ins C dx fs) ∧ sp xs H (fun z H' => ∃ n : Nat, z = .int n ∧ n ≤ 1000000 ∧ Q (.int n) H') E) := by
  intro pins s σ H xs us Q I r h
  obtain ⟨p, dx, fs, rfl, hp, q⟩ := h
  obtain ⟨u, rfl, rx⟩ := vals1 r
  cases (show u = Value.ref p from rx)
  obtain ⟨mA, J, _⟩ := ins_get I.hok hp
  obtain ⟨od, J, _⟩ := J.look
  obtain ⟨m, hF⟩ := I.fr
  refine PySem.W.len_K hF I.ok.mod.kin J hs hfn ?_
  refine wpAny_mono (run_inS (us := [.ref p]) (vs := [.ref p]) F hr.in1 I.env0.in1 hb (fun pins H s e s' I c => hx pins σ H s e s' I c) I (.cons rfl .nil) q) (fun w s' z => ?_) fun _ _ x => x
  obtain ⟨z', H', I', rz, k, ez, hk, qz⟩ := z
  subst ez
  obtain ⟨t, rfl⟩ := rz
  exact ⟨⟨by omega, by omega⟩, .int k, H', I'.tok _, ⟨_, rfl⟩, qz⟩
/-- the spec of a def with a starred last parameter, as it is called -/
def spStar (m : Nat) (sp : Sp) : Sp := fun vs H Q E => ∃ ws rest, vs = ws ++ rest ∧ ws.length = m ∧ rest.length ≤ sizeLine ∧ ∀ p, H p = Option.none → sp (ws ++ [V.ref p]) (upd H p (.tup rest)) Q E
theorem star1 {sp : Sp} {a : V} {rest : List V} {H : Hp} {Q : VK} {E : XK} (hl : rest.length ≤ sizeLine) (h : ∀ p, H p = Option.none → sp [a, .ref p] (upd H p (.tup rest)) Q E) : spStar 1 sp (a :: rest) H Q E := ⟨[a], rest, rfl, rfl, hl, h⟩
def tMakeRS (C : Addr) (sp : Sp) (E : L2.St → XK) (t : TA) : TE := fun σ H Q => t σ H fun vs H1 => ∀ x dx, H1 x = Option.none → H1 dx = Option.none → dx ≠ x →
  sp (V.ref x :: vs) (upd (upd H1 dx (.own x)) x (.ins C dx [])) (fun v H2 => v = .non ∧ Q (.ref x) H2) (E σ)
theorem run_makeRS {pins : List (Addr × Obj)} {σ : L2.St} {H : Hp} {s : Shared} {Q : VK} {us : List Value} {vs : List V} {E : XK} (M : Mk X.K C f) (F : FnR X.prog X.w X.K X.mg X.base CX k f sp) (hr : Room (k + 1) X.A) (hx : PassesAt CX X σ E) (I : Inv X pins σ H s) (r : Vals vs us)
    (h : ∀ x dx, H x = Option.none → H dx = Option.none → dx ≠ x → sp (V.ref x :: vs) (upd (upd H dx (.own x)) x (.ins C dx [])) (fun v H2 => v = .non ∧ Q (.ref x) H2) E) :
    wpAny (model X.prog X.w) X.A (call (.ref C) us) (EP X pins σ Q) X.xe s := by
  have hq := h (s.heap.objs.size + 1) s.heap.objs.size (I.hok.fresh (Nat.le_succ _)) (I.hok.fresh (Nat.le_refl _)) (Nat.ne_of_lt (Nat.lt_succ_self _))
  have I2 := Inv.made (C := C) I
  have r2 : Vals (V.ref (s.heap.objs.size + 1) :: vs) (Value.ref (s.heap.objs.size + 1) :: us) := .cons rfl r
  refine wpAny_call (make_map (f := f) I.kIn M.makes M.init (beq_iff_eq.mp M.fn) (codeAny_mono (F _ X.stack _ _ (Value.ref (s.heap.objs.size + 1) :: us) _ _ E (hr.make C us []) (I2.env0.make C us []) r2 hq) fun r s' hq' => ?_))
  cases r with
  | error e => exact hx pins _ _ e s' I2 hq'
  | ok fl =>
    cases fl with
    | ret u =>
      obtain ⟨v, H', I3, rv, ev, q3⟩ := I2.after hq'
      subst ev
      exact ⟨rv, ⟨V.ref (s.heap.objs.size + 1), H', I3, rfl, q3⟩⟩
    | next => exact False.elim hq'
    | brk => exact False.elim hq'
    | cont => exact False.elim hq'
/-- C(e, ..) -/
theorem pe_makeRS (M : Mk X.K C f) (F : FnR X.prog X.w X.K X.mg X.base CX k f sp) (hr : Room (k + 1) X.A) (hg : Gl X x) (hm : X.mg x = some (.ref C)) (hx : ∀ σ, PassesAt CX X σ (E σ)) (ha : PA X (e :: es) t) (hdb : (x == ("__debug__" : Str)) = false := by decide)
    (he : starEach (e :: es) X.env = (false, eval e X.env) :: starEach es X.env := by rfl) (hpl : (backTo pos (starEach es X.env)).any (·.1) = false := by rfl) : PE X (.Call (.Name x p) (e :: es) [] pos) (tMakeRS C sp E t) := by
  refine ⟨fun pins s σ H Q I h => ?_⟩
  refine wpAny_Call_Name_kw (ld_glob I hg hm ?_ hdb)
  refine PySem.W.callWith_K (h₀ := X.base) I.ok.mod.kin M.kp (thn (ha.run pos pins s σ H _ I h) fun us s1 ⟨vs, H1, I1, r, q⟩ => ⟨I1.kIn, ?_⟩) he hpl
  exact run_makeRS M F hr (hx σ) I1 r q
/-- C() -/
theorem pe_makeRS0 (M : Mk X.K C f) (F : FnR X.prog X.w X.K X.mg X.base CX k f sp) (hr : Room (k + 1) X.A) (hg : Gl X x) (hm : X.mg x = some (.ref C)) (hx : ∀ σ, PassesAt CX X σ (E σ)) (hdb : (x == ("__debug__" : Str)) = false := by decide) :
    PE X (.Call (.Name x p) [] [] pos) (tMakeRS C sp E (fun _ H Q => Q [] H)) := by
  refine ⟨fun pins s σ H Q I h => ?_⟩
  refine wpAny_Call_Name_kw (ld_glob I hg hm ?_ hdb)
  refine PySem.W.callWith_K0 I.kIn M.kp ?_
  exact run_makeRS (us := []) M F hr (hx σ) I .nil h
/-- C(*y) -/
def tMakeStar (K : PySem.W.Frag) (C : Addr) (sp : Sp) (E : L2.St → XK) (te : TE) : TE := fun σ H Q => te σ H fun y H1 => ∃ a xs, y = V.ref a ∧ (SqT K H1 a xs ∨ SqL K H1 a xs) ∧ ∀ x dx, H1 x = Option.none → H1 dx = Option.none → dx ≠ x →
  sp (V.ref x :: xs) (upd (upd H1 dx (.own x)) x (.ins C dx [])) (fun v H2 => v = .non ∧ Q (.ref x) H2) (E σ)
theorem pe_makeStar (M : Mk X.K C f) (F : FnR X.prog X.w X.K X.mg X.base CX k f sp) (hr : Room (k + 1) X.A) (hg : Gl X x) (hm : X.mg x = some (.ref C)) (hx : ∀ σ, PassesAt CX X σ (E σ)) (he : PE X e te) (hdb : (x == ("__debug__" : Str)) = false := by decide)
    (hst : starEach [.Starred e sp_] X.env = [(true, eval e X.env)] := by rfl) : PE X (.Call (.Name x p) [.Starred e sp_] [] pos) (tMakeStar X.K C sp E te) := by
  refine ⟨fun pins s σ H Q I h => ?_⟩
  refine wpAny_Call_Name_kw (ld_glob I hg hm ?_ hdb)
  refine PySem.W.callWith_S (h₀ := X.base) I.ok.mod.kin M.kp (thn (he.run pins s σ H _ I h) fun v s1 ⟨y, H1, I1, ry, a, xs, ey, hxs, q⟩ => ?_) hst
  subst ey
  obtain rfl : v = Value.ref a := ry
  exact star_any I1 hxs fun us s2 I2 rv => ⟨I2.kIn, run_makeRS M F hr (hx σ) I2 rv q⟩
end
section
variable {P : Program} {w : World} {K : PySem.W.Frag} {mg : Str → Option Value} {base : Heap}
/-- a def whose last parameter is starred -/
theorem okStar {x qual : Str} {st : Stmt} {f : Addr} {fd : FuncData} {N ps : List Str} {pv : Str} {k : Nat} {sp : Sp} (F : L2.Fun K x qual st f fd) (S : FnScope N (ps ++ [pv]) (defScope st))
    (hb : ∀ (kV doc pm : Value) (an : Option Addr) (cdv ct : Value) (us rest : List Value), us.length = ps.length → bindArgs (PySem.W.fnOf x qual (defArgs st) (defBody st) (defScope st) .none kV doc pm an cdv ct) ⟨us ++ rest, []⟩ = (newTuple rest >>= fun t => pure (ps.zip us ++ [(pv, t)])))
    (hbody : ∀ (cdv : Value) (A : Around) (outer : List Env) (s : Shared) (H : Hp) (vs : List V) (Q : VK) (E : XK), Room k (A.deeper (envOfC qual (defScope st) s.heap.objs.size f cdv)) → sp vs H Q E →
      ∃ t, PSs (cxOf (L2.CX P w) P w K mg base N qual (defScope st) f cdv A outer s H E) (defBody st) t ∧ t { nx := fun _ H' => Q .non H', rt := Q } (start N vs) H) : FnR P w K mg base (L2.CX P w) (k + 1) f (spStar ps.length sp) := by
  obtain ⟨oc, od, kV, doc, pm, an, cdv, ct, osl, rfl, lk, hcd⟩ := F.ex
  exact fn_star lk hcd S cxUp (hb kV doc pm an cdv ct) fun A outer s H vs Q E hr hsp => hbody cdv A outer s H vs Q E hr hsp
end
end Wx

namespace Wx
open PySem PySem.Spec PyProof.Rows L2 NdefX RZ StX
section
variable {X : Cx}
theorem lc_coreU {E : L2.St → XK} {pins : List (Addr × Obj)} {s : Shared} {σ : L2.St} {H : Hp} {Q : VK} {elt tg iter : Expr} {ifs : List Expr} {scope : Scope} {own : List (Str × Nat)} {pos pos' : Pos} {wi : TI} {g : TG} {tt : TT} {te : XK → TE} {Qf : Value → Shared → Prop} {us_ : Value → Sem Unit}
    (hc : X.calm = true) (hN : X.N.Nodup) (I : Inv X pins σ H s) (hi : PI X tg iter wi) (ok : BlkOk X.N X.env.scope scope own)
    (hg : ∀ (s : Shared) (H : Hp) (C : Addr) (cl : List (Str × Addr)) (fp : List Addr), PG (X.blk s H scope (compEnvC scope cl C X.env) fp) tg g) (ht : ∀ (s : Shared) (H : Hp) (C : Addr) (cl : List (Str × Addr)) (fp : List Addr), PTs (X.blk s H scope (compEnvC scope cl C X.env) fp) ifs tt)
    (air : Air X σ (E σ)) (he : ∀ (s : Shared) (H : Hp) (C : Addr) (cl : List (Str × Addr)) (fp : List Addr) (xe : Value → Shared → Prop) (E1 : XK), (∀ σ1, Air ((X.blk s H scope (compEnvC scope cl C X.env) fp).wish xe) σ1 E1) → PE ((X.blk s H scope (compEnvC scope cl C X.env) fp).wish xe) elt (te E1)) (hs : ∀ x, foldedSetIterable iter X.env x = pure x)
    (h : tLc wi g tt (te (E σ)) (own.map (·.2)) σ H Q)
    (hRR : ∀ D C s' m H', Inv X pins σ H' s' → Q (.ref D) H' → s'.heap.Ns C m → FpOk X pins H' C → compPost (model X.prog X.w) X.A X.xe (some us_) Qf (.ref D) C (.ok .next) s') :
    wpAny (model X.prog X.w) X.A (comprehension (.ListComp elt [⟨tg, iter, ifs, 0⟩] scope pos) scope X.env pos' (newList []) false (eval iter X.env) (some us_)) Qf X.xe s := by
  have hfree : ∀ y ∈ scope.names, y.2 = .free → ∃ c, X.env.cells.lookup y.1 = some c := fun y hy e => by
    rcases ok.free y hy e with k | k
    · exact I.ok.has _ (.inl k)
    · exact I.ok.has _ (.inr k)
  refine comprehension_freeX (use := some us_) rfl hs (closure_ok hfree) ok.kind (fun y hy e => by rw [ok.uniq y hy, e])
    (thn (hi.run pins s σ H _ I h) fun xv s1 hx => thn hx fun itv s2 h2 => ?_)
  obtain ⟨it, fp, tn, J, H2, e, I2, T, st2, f2, q⟩ := h2
  subst e
  refine wpAny_newObj_type (newEnv_comp ?_) (by show 0 ≤ sizeLine; decide)
  generalize hD : s2.heap.objs.size = D
  have hDn : H2 D = none := I2.hok.fresh (Nat.le_of_eq hD)
  obtain ⟨W, ⟨m0, w0⟩, turn⟩ := q D hDn
  -- the new list
  generalize hs3 : ({ s2 with heap := s2.heap.push { cls := .type "list", data := .seq ([] : List Value).toArray } } : Shared) = s3
  have I3 : Inv X pins σ (upd H2 D (.lst [])) s3 := by
    rw [← hs3]
    refine I2.laid (t' := s2.toks) (fun b o e => Heap.get?_push_of_some _ e) (Nat.le_of_eq hD) ⟨Nat.zero_le _, [], 0, .nil, ?_⟩
    rw [← hD]
    exact Heap.get?_push_size _ rfl
  have h3 : s3.heap = s2.heap.push { cls := .type "list", data := .seq ([] : List Value).toArray } := by rw [← hs3]
  have sz : ∀ b ∈ fp, b < s2.heap.objs.size := fun b hb => by
    obtain ⟨o, e, _⟩ := T.obj _ _ st2 b hb
    exact Heap.lt_size e
  have f3 : ∀ b ∈ fp, FpOk X pins (upd H2 D (.lst [])) b ∧ b < s3.heap.objs.size := fun b hb => by
    have hlt := sz b hb
    refine ⟨⟨?_, (f2 b hb).2⟩, by rw [h3, Heap.size_push]; exact Nat.lt_succ_of_lt hlt⟩
    rw [upd_ne (by rw [← hD]; exact Nat.ne_of_lt hlt)]
    exact (f2 b hb).1
  have st3 : tn 0 s3.heap := T.keep _ _ _ st2 fun b _ o e => by rw [h3]; exact Heap.get?_push_of_some _ e
  have I4 := block_start I3 ok hN f3
  have pg := hg s3 (upd H2 D (.lst [])) s3.heap.objs.size (cellsFrom (s3.heap.objs.size + 1) scope.names (cloFrom X.env.cells scope.names [])) fp
  have pt := ht s3 (upd H2 D (.lst [])) s3.heap.objs.size (cellsFrom (s3.heap.objs.size + 1) scope.names (cloFrom X.env.cells scope.names [])) fp
  have pe := he s3 (upd H2 D (.lst [])) s3.heap.objs.size (cellsFrom (s3.heap.objs.size + 1) scope.names (cloFrom X.env.cells scope.names [])) fp
  have cF : (compEnvC scope (cellsFrom (s3.heap.objs.size + 1) scope.names (cloFrom X.env.cells scope.names [])) s3.heap.objs.size X.env).frame = X.env.frame := rfl
  show codeAny _ _ (.compStart (.ListComp elt [⟨tg, iter, ifs, 0⟩] scope pos) 0 (.ref it) (.ref D) (compEnvC scope (cellsFrom (s3.heap.objs.size + 1) scope.names (cloFrom X.env.cells scope.names [])) s3.heap.objs.size X.env)) (postX (model X.prog X.w) X.A X.xe (some us_) Qf (.ref D) (compEnvC scope (cellsFrom (s3.heap.objs.size + 1) scope.names (cloFrom X.env.cells scope.names [])) s3.heap.objs.size X.env)) { s3 with heap := pushCells (s3.heap.push { cls := .type "dict", data := .dict #[] }) scope.names }
  have nfp : ∀ b ∈ fp, (upd H2 D (.lst [])) b = none := fun b hb => (f3 b hb).1.1
  generalize hce : compEnvC scope (cellsFrom (s3.heap.objs.size + 1) scope.names (cloFrom X.env.cells scope.names [])) s3.heap.objs.size X.env = ce at I4 pg pt pe cF ⊢
  have cL : ce.locals = s3.heap.objs.size := by subst hce; rfl
  generalize hH3 : upd H2 D (.lst []) = H3 at I3 I4 pg pt pe w0 nfp f3
  generalize hs4 : ({ s3 with heap := pushCells (s3.heap.push { cls := .type "dict", data := .dict #[] }) scope.names } : Shared) = s4 at I4 ⊢
  have st4 : tn 0 s4.heap := T.keep _ _ _ st3 fun b _ o e => by rw [← hs4]; exact pushCells_keeps _ _ _ _ (Heap.get?_push_of_some _ e)
  have stat : ∀ {σ' : L2.St} {H' : Hp} {s' : Shared}, Inv (X.blk s3 H3 scope ce fp) [] σ' H' s' → (∀ b ∈ fp, H' b = none) → ∀ b ∈ fp, FpOk (X.blk s3 H3 scope ce fp) [] H' b := fun {σ' H' s'} I' hn b hb =>
    ⟨hn b hb, (I'.ok.exf b hb).1, I'.ok.exfs b hb, .inl hb, fun x c e => (I'.ok.exf b hb).2 x c e, fun p hp => absurd (show p ∈ ([] : List (Addr × Obj)) ++ [] from hp) (by simp)⟩
  have loop : codeAny (model X.prog X.w) X.A (.compLoop (.ListComp elt [⟨tg, iter, ifs, 0⟩] scope pos) 0 (.ref it) (.ref D) ce) (postX (model X.prog X.w) X.A X.xe (some us_) Qf (.ref D) ce) s4 := by
    refine compLoop_any (fun n s' => ∃ i H', Inv (X.blk s3 H3 scope ce fp) [] (wipe σ (own.map (·.2))) H' s' ∧ tn i s'.heap ∧ (∀ b ∈ fp, H' b = none) ∧ W i n H') ?_ m0 ⟨0, H3, I4, st4, nfp, w0⟩
    rintro n s5 ⟨i, H5, I5, st5, n5, w5⟩
    rcases turn i n H5 w5 with ⟨stop, qq⟩ | ⟨go, Nx, hNx, step⟩
    · have td := T.done (X.blk s3 H3 scope ce fp) rfl rfl rfl hc i [] s5 _ H5 (fun _ _ => False) I5 (stat I5 n5) st5 stop
      refine thnF td fun r s6 ⟨hr, I6⟩ => ?_
      subst hr
      -- back in the def's context
      have I7 : Inv X pins σ H5 s6 := I3.call' (ch := fp) I6.os I6.base I6.hok I6.bare fun b hb => ⟨(f3 b hb).1.2.2.2.1, (f3 b hb).1.2.1, (f3 b hb).1.2.2.2.2.1, (f3 b hb).1.2.2.2.2.2⟩
      have nC : H5 s3.heap.objs.size = none := by
        have z : H5 ce.locals = none := I6.free
        rw [cL] at z
        exact z
      obtain ⟨m, hn, _⟩ := I6.loc
      have hn : s6.heap.Ns ce.locals m := hn
      rw [cL] at hn
      have hR := hRR D s3.heap.objs.size s6 m H5 I7 qq hn (I3.fpOk (Nat.le_refl _) nC)
      rw [← cL] at hR
      exact hR
    · have ti := T.item (X.blk s3 H3 scope ce fp) rfl rfl rfl hc i [] s5 _ H5 (fun _ _ => False) I5 (stat I5 n5) st5 go
      refine thnF ti fun r s6 ⟨u, hr, h6⟩ => ?_
      subst hr
      refine thnF h6 fun _ s7 ⟨x, H7, I7, r7, y7, st7, n7⟩ => ?_
      have I7' := I7.pinned (stat I7 n7) (T.obj _ _ st7)
      refine thnF (pg.run _ s7 _ H7 x u _ I7' r7 (step x H7 y7)) fun _ s8 ⟨σ8, H8, I8, hw8, q8⟩ => ?_
      refine thnF (pt.run _ s8 σ8 H8 _ I8 q8) fun b s9 ⟨H9, I9, q9⟩ => ?_
      -- the turn's end
      have fin : ∀ {s' : Shared} {H' : Hp}, Inv (X.blk s3 H3 scope ce fp) ([] ++ pinsAt fp s7.heap) σ8 H' s' → Nx H' → ∃ m, m < n ∧ ∃ i H', Inv (X.blk s3 H3 scope ce fp) [] (wipe σ (own.map (·.2))) H' s' ∧ tn i s'.heap ∧ (∀ b ∈ fp, H' b = none) ∧ W i m H' := fun {s' H'} I' nx => by
        obtain ⟨m', hm, w'⟩ := hNx H' nx
        have pin' : ∀ b ∈ fp, ∀ o, s7.heap.get? b = some o → s'.heap.get? b = some o ∧ H' b = none := fun b hb o e =>
          let z := I'.pin (b, o) (List.mem_append_right _ (List.mem_append_right _ (mem_pinsAt hb e)))
          ⟨z.1, z.2.1⟩
        have hl : (wipe σ (own.map (·.2))).length = σ8.length := by rw [← hw8, wipe_length]
        refine ⟨m', hm, i + 1, H', (I'.unpinned (pins := [])).weak hl (fun j v e => ?_), T.keep _ _ _ st7 fun b hb o e => (pin' b hb o e).1, fun b hb => ?_, w'⟩
        · rw [← hw8] at e
          exact (wipe_some e).1
        · obtain ⟨o, e, _⟩ := T.obj _ _ st7 b hb
          exact (pin' b hb o e).2
      cases b with
      | false =>
        simp only [Bool.false_eq_true, if_false] at q9 ⊢
        exact fin I9 q9
      | true =>
        simp only [if_true] at q9 ⊢
        obtain ⟨ev, outer, L, hstk, hfr, hXf, kx⟩ := air.ex
        refine wpAny_mono ((pe (fun u s' => ∃ H' sI, Inv X pins σ H' sI ∧ (∃ m, sI.heap.Ns ce.locals m) ∧ H' ce.locals = none ∧ Aloft X.stack L sI H' (E σ) u s') (E σ) (fun σ1 => ⟨ev, outer, L, hstk, hfr, cF.trans hXf, fun pins1 H1 sI u s' I1 al => ?_⟩)).run _ s9 σ8 H9 _ (I9.wish _) q9) (fun z s10 ⟨yv, H10, I10, r10, acc, hD10, hz10, nx⟩ => ?_) (fun u s10 hx => ?_)
        · have I1' := I1.unwish
          obtain ⟨m, hn, _⟩ := I1'.loc
          exact ⟨H1, sI, I3.call' (ch := fp) I1'.os I1'.base I1'.hok I1'.bare fun b hb => ⟨(f3 b hb).1.2.2.2.1, (f3 b hb).1.2.1, (f3 b hb).1.2.2.2.2.1, (f3 b hb).1.2.2.2.2.2⟩, ⟨m, hn⟩, I1'.free, al⟩
        · exact app_ok (X := X.blk s3 H3 scope ce fp) I10.unwish hD10 hz10 r10 fun s11 I11 => fin I11 nx
        · obtain ⟨H', sI, JX, ⟨m, hn⟩, nC, a, B, cls, d, rfl, nb, up, sky, na, os, ag, w⟩ := hx
          have fpC : FpOk X pins H' ce.locals := I3.fpOk (by rw [cL]; exact Nat.le_refl _) nC
          obtain ⟨f0, f1, f2, f3', f4, f5⟩ := fpC
          have frA : X.A.frames = some (ev :: outer) := I3.ok.frames.trans (congrArg some hstk)
          have cNot : ce.locals ∉ frs X.stack := fun hm => by
            rcases List.mem_cons.mp (I3.stkSub _ hm) with z | z
            · exact f1 z
            · exact f2 z
          show wpAny _ X.A (noteFrame (Value.ref a) ce) _ _ _
          rw [note_same (e2 := ev) (by rw [cF, hXf, hfr])]
          -- noted by the frame
          have held : ∀ {Q : Unit → Shared → Prop} {E' : Value → Shared → Prop}, (∀ h1, HandSPX.HeldZ B (ev :: outer) a (Zc cls d) L h1 → s10.heap.UpToSlots h1 → Q () { s10 with heap := h1 }) → wpAny (model X.prog X.w) X.A (noteFrame (.ref a) ev) Q E' s10 := fun {Q E'} k => by
            rw [hstk] at sky
            rcases sky with ⟨hB, hn, hl, oe, vs, he, hz, hd, h1⟩ | fl | hh
            · exact HandSPX.look_newZ Zc.steady frA hl hfr he hB hn hd h1 hz k
            · exact HandSPX.looks_onZ Zc.steady frA hfr fl k
            · exact HandSPX.againZ hfr hh.2.2.2 (k s10.heap hh (Heap.UpToSlots.refl _))
          refine held fun h1 hh1 up1 => ?_
          have upH : sI.heap.UpToSlots h1 := up.trans up1
          refine ⟨m, upH.ns hn, fun h2 sb2 => ?_⟩
          -- the ground without the block's names
          obtain ⟨B', b1, b2⟩ := restrict B fun b => decide (b ≠ ce.locals)
          obtain ⟨G, g1, g2⟩ := restrict sI.heap fun b => decide (b ≠ ce.locals)
          have bB : ∀ b o, B'.get? b = some o → b ≠ ce.locals ∧ B.get? b = some o := fun b o e => by
            by_cases q : b = ce.locals
            · rw [b2 b (by simp [q])] at e
              cases e
            · exact ⟨q, by rw [b1 b (by simp [q])] at e; exact e⟩
          have gG : ∀ b o, G.get? b = some o → b ≠ ce.locals ∧ sI.heap.get? b = some o := fun b o e => by
            by_cases q : b = ce.locals
            · rw [g2 b (by simp [q])] at e
              cases e
            · exact ⟨q, by rw [g1 b (by simp [q])] at e; exact e⟩
          obtain ⟨k1, k2, k3, oe, vs, T1, oT1, ts, he1, hz1, hd1, hv1, hbT, hTa, hT1, hdT, hfl⟩ := hh1
          obtain ⟨oC, es, ep, hoC, hdC, _⟩ := hn
          have BC : B.get? ce.locals = some oC := nb _ _ hoC cNot
          have aC : a ≠ ce.locals := fun z => by rw [z] at k2; rw [k2] at BC; cases BC
          have TC : T1 ≠ ce.locals := fun z => by rw [z] at hbT; rw [hbT] at BC; cases BC
          have sb : ∀ b, b ≠ ce.locals → h2.get? b = h1.get? b := sb2.2
          have B'a : B'.get? a = none := by rw [b1 a (by simp [aC])]; exact k2
          have B'T : B'.get? T1 = none := by rw [b1 T1 (by simp [TC])]; exact hbT
          have fF : h2.FunFrames B' (ev :: outer) := funFrames_step k3 (fun b q => by
              cases z : B'.get? b with
              | none => rfl
              | some o =>
                rw [(bB b o z).2] at q
                cases q) fun b o q e => (sb b (fun z => by rw [z, BC] at q; cases q)).trans e
          have kB : B'.StaysIn h2 := fun b o e => (sb b (bB b o e).1).trans (k1 b o (bB b o e).2)
          have he2 : h2.get? a = some oe := (sb a aC).trans he1
          have hh2 : HandSPX.HeldZ B' (ev :: outer) a (Zc cls d) L h2 := ⟨kB, B'a, fF, oe, vs, T1, oT1, ts, he2, hz1, hd1, hv1, B'T, hTa, (sb T1 TC).trans hT1, hdT, hfl⟩
          unfold PySem.passOn
          refine wpAny_bind (wpAny_field he2 hd1 hv1 ?_)
          rw [if_neg (show ¬ ((Value.ref T1 == Value.none) = true) by simp)]
          have fin2 : wpAny (model X.prog X.w) X.A (setFlight (.ref a) ce.frame) (fun _ s4 => wpAny (model X.prog X.w) X.A (throw (.ref a) : Sem Value) (fun _ _ => False) X.xe s4) X.xe { s10 with heap := h2 } := by
            rw [cF, hXf]
            refine HandSPX.setFlight_onZ hh2 fun h4 hh4 up4 => wpAny_throw ?_
            refine kx pins H' { sI with heap := G } _ _ (JX.turned (t' := sI.toks) (fun b o hb e => (g1 b (by simp [hb])).trans e) f0 f1 f3' f4 f5) ⟨a, B', cls, d, rfl, fun b o e hb => ?_, ?_, ?_, na, os, ag, w⟩
            · obtain ⟨q1, q2⟩ := gG b o e
              exact (b1 b (by simp [q1])).trans (nb b o q2 hb)
            · refine Heap.UpToSlots.trans (fun b o e nf => ?_) up4
              obtain ⟨q1, q2⟩ := gG b o e
              obtain ⟨sl, q3⟩ := upH b o q2 nf
              exact ⟨sl, (sb b q1).trans q3⟩
            · rw [hstk]
              exact .inr (.inr hh4)
          first
            | exact wpAny_bind (wpAny_pure (wpAny_bind fin2))
            | exact wpAny_bind fin2
  exact codeAny_compStart_list loop (T.self X.A 0 _ _ _ st4 loop)
/-- name = [..], what the element lets out is let out -/
theorem ps_setLcX {E : L2.St → XK} {i : Nat} {y : Str} {py : Pos} {elt tg iter : Expr} {ifs : List Expr} {scope : Scope} {own : List (Str × Nat)} {pos spos : Pos} {wi : TI} {g : TG} {tt : TT} {te : XK → TE} (air : ∀ σ, Air X σ (E σ)) (hc : X.calm = true) (hN : X.N.Nodup) (hy : X.N[i]? = some y) (hyl : X.env.scope.names.lookup y = some .local)
    (hsw : swapsWith (.ListComp elt [⟨tg, iter, ifs, 0⟩] scope pos) (some (.Name y py)) spos.line X.env = pure true) (hi : PI X tg iter wi) (ok : BlkOk X.N X.env.scope scope own)
    (hg : ∀ (s : Shared) (H : Hp) (C : Addr) (cl : List (Str × Addr)) (fp : List Addr), PG (X.blk s H scope (compEnvC scope cl C X.env) fp) tg g) (ht : ∀ (s : Shared) (H : Hp) (C : Addr) (cl : List (Str × Addr)) (fp : List Addr), PTs (X.blk s H scope (compEnvC scope cl C X.env) fp) ifs tt)
    (he : ∀ (s : Shared) (H : Hp) (C : Addr) (cl : List (Str × Addr)) (fp : List Addr) (xe : Value → Shared → Prop) (E1 : XK), (∀ σ1, Air ((X.blk s H scope (compEnvC scope cl C X.env) fp).wish xe) σ1 E1) → PE ((X.blk s H scope (compEnvC scope cl C X.env) fp).wish xe) elt (te E1)) (hs : ∀ x, foldedSetIterable iter X.env x = pure x := by intro _; rfl) :
    PS X (.Assign [.Name y py] (.ListComp elt [⟨tg, iter, ifs, 0⟩] scope pos) spos) (tAsg (fun σ H Q => tLc wi g tt (te (E σ)) (own.map (·.2)) σ H Q) (gName i)) := by
  refine ⟨fun pins s σ H D I h => ?_⟩
  rw [exec_Assign_Name_used _ _ _ _ hsw]
  refine wpAny_bind (wpAny_standAt (wpAny_bind ?_))
  show wpAny _ X.A (do let _ ← comprehension (.ListComp elt [⟨tg, iter, ifs, 0⟩] scope pos) scope X.env (firstIterPos [⟨tg, iter, ifs, 0⟩] pos) (newList []) false (eval iter X.env) (some (assign (.Name y py) X.env))) _ _ s
  have h : tLc wi g tt (te (E σ)) (own.map (·.2)) σ H (fun x H1 => gName i x σ H1 D.nx) := h
  refine wpAny_bind (thn (lc_coreU (Qf := fun _ s' => SP X pins D .next s') hc hN I hi ok hg ht (air σ) he hs h fun L C s' m H' I' q hn f => ?_) fun _ s' hq => wpAny_pure (wpAny_pure hq))
  show wpAny _ _ (assign (.Name y py) X.env (.ref L)) _ _ _
  refine wpAny_assign_Name (store_ok2 (v := V.ref L) I' hN hy (.inl hyl) rfl (fun s2 I2 ⟨a, sb, ha⟩ => ?_) (.inr hyl))
  obtain ⟨f0, f1, f2, f3, f4, f5⟩ := f
  have haC : C ≠ a := by
    rcases ha with z | z
    · rw [z]; exact f1
    · exact fun e => f4 y a z e.symm
  refine ⟨m, hn.sameBut sb haC, fun h3 sb3 => ?_⟩
  exact ⟨_, H', I2.turned (t' := s2.toks) (fun b o hb e => (sb3.2 b hb).trans e) f0 f1 f3 f4 f5, q⟩
end
end Wx

namespace Wx
open PySem PySem.Spec PyProof.Rows L2 NdefX RZ StX
/-! a whole number + an instance, by the instance's __radd__ -/
section
variable {prog : Program} {w : World} {A : Around} {E : Value → Shared → Prop} {s : Shared} {K : PySem.W.Frag} {x C f g : Addr} {ox : Obj} {od : Option Obj} {h₀ : Heap} {L : Addr} {m : Str → Option Value}
open AutoSeq1 (wpAny_loadPart')
theorem int_add_inst {i : Int} {t : Tok} {Q : Value → Shared → Prop} {cls : Value} {dd : Option Addr} {sl : Array (Option Value)} (hx : s.heap.get? x = some { cls := cls, dict := dd, data := .plain, slots := sl }) (q : Q .notImplemented s) :
    wpAny (model prog w) A (call (.builtin "int.__add__") [.int i t, .ref x]) Q E s := by
  refine wpAny_call (codeAny_call_builtin PySem.F.slot_int_add.plain PySem.F.entry_int_add (PySem.F.slot_int_add.check _ _ _ _ _ _ _ _ (by exact typeIs_int _ _ _) (PySem.F.args_int_add_2 _ _) ?_))
  obtain ⟨hp, g, d, tk, os⟩ := s
  wp_walk using wpAny_loadPart' hx
  exact q
theorem binop_rev {i : Int} {t : Tok} {Q : Value → Shared → Prop} {dd : Option Addr} {sl : Array (Option Value)} {cls : Value} (hx : s.heap.get? x = some { cls := cls, dict := dd, data := .plain, slots := sl }) (FR : Fr h₀ L s.heap m) (X₀ : K.In h₀) (I : PySem.W.InstAt s.heap x ox C od) (hc : PySem.W.selfFirst K C = true)
    (hs : PySem.W.findIn K (.ref C) (PySem.dunder "add") = some (some (.ref g))) (hr : PySem.W.findIn K (.ref C) (PySem.dunderR "add") = some (some (.ref f))) (hf : PySem.W.isFn K (.ref f) = true) (hsub : PySem.W.subIn K (.ref C) (.type "int") = some false)
    (h : wpAny (model prog w) A (call (.ref f) [.ref x, .int i t]) (PySem.W.CmpBack Q) E s) : wpAny (model prog w) A (binaryOp .Add (.int i t) (.ref x)) Q E s := by
  have X := X₀.keeps FR.keep
  obtain ⟨cd, rest, hcd, hm⟩ := PySem.W.ksp_first hc
  have one := PySem.W.ksp_try X I hr hf h
  have dec : ∀ {Q' : Option Value → Shared → Prop}, Q' none s → wpAny (model prog w) A (tryMethod (.int i t) (PySem.dunder "add") (.ref x)) Q' E s := fun q =>
    wpAny_tryMethod_declines (typeIs_int _ _ _) PySem.F.slot_int_add (int_add_inst hx ⟨rfl, q⟩)
  obtain ⟨hh, g, d, tt, os⟩ := s
  have L1 : PySem.W.Looks (model prog w) hh (typeOf (.int i t)) (.type "int") := PySem.W.Looks.of_pure rfl
  have L2 : PySem.W.Looks (model prog w) hh (typeOf (.ref x)) (.ref C) := I.type
  have L3 : PySem.W.Looks (model prog w) hh (fillsNumberSlot (.type "int") "add") true := PySem.W.Looks.of_pure (fillsNumberSlot_of PySem.F.slot_int_add.lookup (by kernel_rfl) PySem.F.slot_int_radd.lookup)
  have L4 : PySem.W.Looks (model prog w) hh (fillsNumberSlot (.ref C) "add") true := PySem.W.fills_K X hcd hm hs
  have L5 : PySem.W.Looks (model prog w) hh (isSubtype (.ref C) (.type "int")) false := PySem.W.looks_subIn X hsub
  have L7 : PySem.W.Looks (model prog w) hh (numberSlotInPython (.type "int") "add") false := PySem.W.Looks.of_pure rfl
  have hne : (Value.type "int" == Value.ref C) = false := Bool.eq_false_iff.mpr fun q => by cases beq_iff_eq.mp q
  have hi : Operator.Add.info = ("+", "add") := rfl
  simp only [binaryOp, hi]
  refine wpAny_holding (wpAny_bind ?_)
  unfold binaryOp1
  refine wpAny_bind (L1.at (wpAny_bind (L2.at (wpAny_bind (L3.at ?_)))))
  simp only [hne, Bool.false_eq_true, if_false]
  refine wpAny_bind (L4.at ?_)
  simp only [Bool.and_self, if_true]
  refine wpAny_bind (L5.at ?_)
  simp only [Bool.false_eq_true, if_false, Bool.not_false, Bool.and_self, if_true]
  refine wpAny_bind (L7.at ?_)
  simp only [Bool.false_eq_true, if_false]
  refine wpAny_bind (dec ?_)
  dsimp only
  refine wpAny_bind (wpAny_mono one (fun r s' hr' => ?_) fun _ _ e => e)
  obtain ⟨v, rfl, hq⟩ := hr'
  exact wpAny_bind (wpAny_rule (wpAny_pure (wpAny_pure hq)))
end
/-- what the class at C says of n + x -/
structure RevC (K : PySem.W.Frag) (C f : Addr) : Prop where
  first : PySem.W.selfFirst K C = true
  own : ∃ g : Addr, PySem.W.findIn K (.ref C) "__add__" = some (some (.ref g))
  back : PySem.W.findIn K (.ref C) "__radd__" = some (some (.ref f))
  fn : PySem.W.isFn K (.ref f) = true
  isub : PySem.W.subIn K (.ref C) (.type "int") = some false
def tRevN (C : Addr) (sp : Sp) (E : L2.St → XK) (ta tb : TE) : TE := fun σ H Q => ta σ H fun x H1 => tb σ H1 fun y H2 => ∃ i a dx fs, x = .int i ∧ y = .ref a ∧ H2 a = some (.ins C dx fs) ∧ sp [y, x] H2 Q (E σ)
section
variable {X : Cx} {CX : CXT} {C f : Addr} {n : Nat} {fd : FuncData} {ps : List Str} {sp : Sp} {E : L2.St → XK} {a b : Expr} {ta tb : TE} {pos : Pos}
theorem pe_revN (F : FnOk X.prog X.w X.K X.mg X.base CX n f fd ps sp) (hr : Room n X.A) (O : RevC X.K C f) (hb : Binds X.K fd ps []) (hx : ∀ σ, PassesAt CX X σ (E σ)) (ha : PE X a ta) (hb' : PE X b tb) : PE X (.BinOp a .Add b pos) (tRevN C sp E ta tb) := by
  refine ⟨fun pins s σ H Q I h => ?_⟩
  refine wpAny_BinOp (binT ha hb' I h fun v u s2 x y H2 I2 rx ry q => ?_)
  obtain ⟨i, p, dx, fs, rfl, rfl, hp, q⟩ := q
  obtain ⟨t, rfl⟩ := id rx
  cases (show u = Value.ref p from ry)
  obtain ⟨mA, J, _⟩ := ins_get I2.hok hp
  obtain ⟨od, J, _⟩ := J.look
  obtain ⟨m, hF⟩ := I2.fr
  obtain ⟨g, hg⟩ := O.own
  refine binop_rev J.at_ hF I2.ok.mod.kin J O.first hg O.back O.fn O.isub ?_
  exact wpAny_mono (run_fnS (us := [.ref p, .int i t]) (vs := [.ref p, .int i]) F hr hb (hx σ) I2 (.cons rfl (.cons ⟨t, rfl⟩ .nil)) q) (fun w s' z => by
    obtain ⟨z', H', I', rz, qz⟩ := z
    exact back_rel rz ⟨z', H', I', rz, qz⟩) fun _ _ x => x
end
end Wx

/-! enumerate of a tuple -/
namespace PySem
open AutoSeq1 (wpAny_loadPart')
theorem meets_enumerate_newTup (l : Addr) (items : Array Value) (n : Nat) (dct : Option Addr) (sl : Array (Option Value)) :
    Meets (Builtin.«enumerate.__new__» ⟨[.type "enumerate", .ref l], []⟩) (fun _ R s => s.heap.get? l = some { cls := .type "tuple", dict := dct, data := .seq items n, slots := sl } ∧
      R (.ok (.ret (.ref (s.heap.push { cls := .type "tuple_iterator", data := .fields #[.ref l, .int 0 0] }).objs.size)))
        { s with heap := (s.heap.push { cls := .type "tuple_iterator", data := .fields #[.ref l, .int 0 0] }).push { cls := .type "enumerate", data := .fields #[.none, .bool false, .ref s.heap.objs.size, rawInt 0, .none, .none] } }) :=
  .of_wp fun prog w A R s h => by
    obtain ⟨hp, g, d, tk, os⟩ := s; obtain ⟨hl, h⟩ := h
    have hsub := sub_enumerate
    have hL : Heap.IsTuple (Shared.heap ⟨hp, g, d, tk, os⟩) l items := ⟨_, hl, rfl, n, rfl⟩
    wp_walk using wpAny_loadPart' hl
    refine wpAny_stack_any fun st => wpAny_pure ?_
    split
    · rename_i c _ _ _ _ _
      cases (c == Value.type "enumerate")
      · wp_walk using wpAny_loadPart' hl, wpAny_pyIter_tuple hL
        exact ⟨_, rfl, h⟩
      · wp_walk using wpAny_loadPart' hl, wpAny_pyIter_tuple hL
        exact ⟨_, rfl, h⟩
    · wp_walk using wpAny_loadPart' hl, wpAny_pyIter_tuple hL
      exact ⟨_, rfl, h⟩
section
variable {prog : Program} {w : World} {A : Around} {E : Value → Shared → Prop} {s : Shared}
theorem call_enumerate_tuple {l : Addr} {items : Array Value} {Q : Value → Shared → Prop} (hL : s.heap.IsTuple l items)
    (h : ∀ h', IsEnum h' (s.heap.objs.size + 1) s.heap.objs.size 0 .none → h'.IsTupleIter s.heap.objs.size l 0 → h'.objs.size = s.heap.objs.size + 2 →
      (∀ b o, s.heap.get? b = some o → h'.get? b = some o) → Q (.ref (s.heap.objs.size + 1)) { s with heap := h' }) :
    wpAny (model prog w) A (call (.type "enumerate") [.ref l]) Q E s := by
  obtain ⟨⟨c, dct, dt, sl⟩, hl, hc, n, hd⟩ := hL
  replace hc : c = .type "tuple" := hc
  replace hd : dt = .seq items n := hd
  subst hc hd
  refine callType_new F.called_enumerate (by decide) (F.typeCall_enumerate_1 _) (F.newCall_enumerate_1 _) (fun obj => F.args_object_init_2 obj _) F.entry_enumerate_new
    (meets_enumerate_newTup l items n dct sl) ⟨hl, ?_⟩
  have hz : (s.heap.push { cls := .type "tuple_iterator", data := .fields #[.ref l, .int 0 0] }).objs.size = s.heap.objs.size + 1 := Heap.size_push ..
  show _ ∧ _
  rw [hz]
  have he : IsEnum ((s.heap.push { cls := .type "tuple_iterator", data := .fields #[.ref l, .int 0 0] }).push
      { cls := .type "enumerate", data := .fields #[.none, .bool false, .ref s.heap.objs.size, rawInt 0, .none, .none] }) (s.heap.objs.size + 1) s.heap.objs.size 0 .none := by
    have := Heap.get?_push_size (s.heap.push { cls := .type "tuple_iterator", data := .fields #[.ref l, .int 0 0] })
      (o := { cls := .type "enumerate", data := .fields #[.none, .bool false, .ref s.heap.objs.size, rawInt 0, .none, .none] }) rfl
    rw [hz] at this; exact this
  refine ⟨⟨_, he, rfl⟩, h _ he ⟨_, Heap.get?_push_of_some _ (Heap.get?_push_size _ rfl), rfl, rfl⟩ (by rw [Heap.size_push, hz]) fun b o x => Heap.get?_push_of_some _ (Heap.get?_push_of_some _ x)⟩
theorem wpAny_pyNext_enum_endT {e it l : Addr} {i : Nat} {items : Array Value} {old : Value} {c : Int} {Q : Option Value → Shared → Prop} (hh : A.handled = none)
    (he : IsEnum s.heap e it c old) (hit : s.heap.IsTupleIter it l i) (hl : s.heap.IsTuple l items) (hx : items[i]? = none)
    (hQ : ∀ h', Heap.ExtBut it s.heap h' → Q none { s with heap := h' }) : wpAny (model prog w) A (pyNext (.ref e)) Q E s := by
  have hTy : s.TypeIs (.ref e) "enumerate" := ⟨_, he, rfl⟩
  unfold pyNext
  refine wpAny_bind (wpAny_attempt (wpAny_callSpecial?_slot (name := Str.ofString "__next__") hTy F.slot_enumerate_next
    (wpAny_call_entry F.slot_enumerate_next hTy F.entry_enumerate_next ?_ (F.args_enumerate_next_1 _))))
  show wpAny _ _ (field (.ref e) 2 >>= _) _ _ _
  refine wpAny_bind (wpAny_field he rfl (x := .ref it) rfl ?_)
  refine wpAny_bind (wpAny_nextOf_tuple_end hh hit hl hx fun h' x he' hx' => ?_)
  obtain ⟨o, ho, hc⟩ := hx'
  refine wpAny_bind (wpAny_isInstance (T := "StopIteration") (b := true) ⟨o, ho, hc⟩ isSubtype_stop ?_)
  exact wpAny_pure (hQ _ he')
end
end PySem
namespace Wx
open PySem PySem.Spec PyProof.Rows L2 NdefX RZ StX
/-- the tuple at a as it stands at each turn, each item in a new pair -/
def IteT (K : PySem.W.Frag) (a : Addr) : It :=
  ⟨fun i H => ∃ (xs : List V) (x : V), SqT K H a xs ∧ xs[i]? = some x, fun i H v H' => ∃ T x, v = .ref T ∧ H T = none ∧ H' = upd H T (.tup [.int (i : Nat), x]) ∧ ∀ xs, SqT K H a xs → xs[i]? = some x, fun i H => ∃ xs : List V, SqT K H a xs ∧ xs.length ≤ i⟩
theorem turn_enumT {P : Program} {w : World} {K : PySem.W.Frag} {elts : List Expr} {kk : Nat} {tpos : Pos} (a e it : Addr) (nai : a ≠ it) (nae : a ≠ e) :
    Turn P w K (.Tuple elts kk tpos) (IteT K a) [e, it] e (fun i h => (∃ old, IsEnum h e it ((i : Nat) : Int) old) ∧ h.IsTupleIter it a i ∧ e ≠ it) where
  mem := by simp
  obj := fun i h st b hb => by
    obtain ⟨⟨old, he⟩, ⟨o, ho, hc, hd⟩, _⟩ := st
    have e' : b = e ∨ b = it := by simpa using hb
    rcases e' with z | z
    · rw [z]; exact ⟨_, he, fun v q => nomatch q⟩
    · rw [z]; exact ⟨o, ho, fun v q => by rw [hd] at q; cases q⟩
  keep := fun i h h' st k => let ⟨⟨old, he⟩, hi, hne⟩ := st; ⟨⟨old, k e (by simp) _ he⟩, hi.at fun o q => k it (by simp) o q, hne⟩
  item := by
    intro X hP hw hK hc i pins s σ H E I hf st hg
    subst hP hw hK
    obtain ⟨⟨old, he⟩, hit, hne⟩ := st
    obtain ⟨xs, x, hq, hx⟩ := hg
    obtain ⟨its, rv, p, hz⟩ := I.tuple hq
    obtain ⟨u, hu, ru⟩ := rv.get hx
    have hel : e < s.heap.objs.size := Heap.lt_size he
    have hil : it < s.heap.objs.size := by obtain ⟨_, q, _⟩ := hit; exact Heap.lt_size q
    have hpt : s.heap.IsTuple a its.toArray := p
    have hlt : i < its.toArray.size := by
      have := (List.getElem?_eq_some_iff.mp hu).1
      simpa using this
    refine wpAny_pyNext_enum_itemD (Draws.tuple (A := X.A.in1) (show X.A.in1.handled = none from I.ok.hd hc) it a nai its.toArray) he ⟨hit, hpt⟩ hlt hne (by simp [hne, Ne.symm nae]) fun x' h' tk hx' ho hit' hT hsz hk => ?_
    have ex : x' = u := by
      have z : its.toArray[i]? = some u := by simpa using hu
      rw [z] at hx'
      exact (Option.some.inj hx').symm
    subst ex
    refine ⟨_, rfl, wpAny_letOwnedTupleGo_enum (s := { s with heap := h', toks := tk + 1 }) ho fun h'' he' sb => ?_⟩
    have hT2 : h''.get? s.heap.objs.size = some { cls := .type "tuple", data := .seq #[.int i tk, x'] } := (sb.2 _ (Nat.ne_of_gt hel)).trans hT
    have new : ObjOk X.prog X.w (upd H s.heap.objs.size (.tup [.int (i : Nat), x])) h'' s.heap.objs.size (.tup [.int (i : Nat), x]) :=
      ⟨by show 2 ≤ sizeLine; decide, [.int i tk, x'], .cons ⟨_, rfl⟩ (.cons ru .nil), ⟨_, hT2, rfl, _, rfl⟩⟩
    have I1 : Inv X pins σ (upd H s.heap.objs.size (.tup [.int (i : Nat), x])) { s with heap := h'', toks := tk + 1 } :=
      I.turnedNew (ch := [e, it]) (fun b ob hb q => (sb.2 b (fun z => hb (by simp [z]))).trans (hk b ob (fun z => hb (by simp [z])) (fun z => hb (by simp [z])) q)) hf (Nat.le_refl _) new
    refine ⟨.ref s.heap.objs.size, _, I1, rfl, ⟨_, x, rfl, I.hok.fresh (Nat.le_refl _), rfl, fun ys hy => by rw [I.tuple_inj hy hq]; exact hx⟩, ⟨⟨x', ?_⟩, hit'.1.at fun o q => (sb.2 it (Ne.symm hne)).trans q, hne⟩, fun b hb => ?_⟩
    · have e1 : ((i + 1 : Nat) : Int) = (i : Int) + 1 := by omega
      rw [e1]; exact he'
    · have hb' : b < s.heap.objs.size := by
        have e' : b = e ∨ b = it := by simpa using hb
        rcases e' with z | z
        · rw [z]; exact hel
        · rw [z]; exact hil
      rw [upd_ne (Nat.ne_of_lt hb')]
      exact (hf b hb).1
  done := by
    intro X hP hw hK hc i pins s σ H E I hf st hg
    subst hP hw hK
    obtain ⟨⟨old, he⟩, hit, hne⟩ := st
    obtain ⟨xs, hq, hx⟩ := hg
    obtain ⟨its, rv, p, hz⟩ := I.tuple hq
    obtain ⟨f0, f1, f2, f3, f4, f5⟩ := hf it (by simp)
    have hl := rv.length
    exact wpAny_pyNext_enum_endT (I.ok.hd hc) he hit (show s.heap.IsTuple a its.toArray from p) (by simp; omega) fun h' eb => ⟨rfl, I.turned (t' := s.toks) (fun b o hb q => eb b o hb q) f0 f1 f3 f4 f5⟩
  self := fun A i s Q E st h => let ⟨⟨_, he⟩, _⟩ := st; wpAny_pyIter_enum he h
def iEnumT (K : PySem.W.Frag) (ta : TA) : TI := fun σ H R => ta σ H fun vs H1 => ∃ a xs, vs = [.ref a] ∧ SqT K H1 a xs ∧ R (IteT K a) H1
theorem pi_enumT {X : Cx} {e : Expr} {ta : TA} {p pos tpos : Pos} {elts : List Expr} {kk : Nat} (hg : Gl X "enumerate") (hm : X.mg "enumerate" = none) (ha : PA X [e] ta) (hs : starEach [e] X.env = [(false, eval e X.env)] := by rfl) :
    PI X (.Tuple elts kk tpos) (.Call (.Name "enumerate" p) [e] [] pos) (iEnumT X.K ta) := by
  refine ⟨fun pins s σ H R I h => ?_⟩
  refine Call_ (ld_blt I hg hm boot_enumerate (PyProof.Rows.callWith_type1 (thn (ha.run pos pins s σ H _ I h) fun us s1 ⟨vs, H1, I1, r1, q1⟩ => ?_) hs rfl))
  obtain ⟨a, xs, ex, hq, q⟩ := q1
  subst ex
  cases r1 with
  | cons r rr =>
    cases rr
    cases r
    obtain ⟨its, rv, p', hz⟩ := I1.tuple hq
    have hat : a < s1.heap.objs.size := by obtain ⟨_, z, _⟩ := id p'; exact Heap.lt_size z
    refine call_enumerate_tuple (show s1.heap.IsTuple a its.toArray from p') fun h' he hit hsz hk => wpAny_pyIter_enum he ?_
    have I2 : Inv X pins σ H1 { s1 with heap := h' } := I1.kept (t' := s1.toks) hk
    refine ⟨s1.heap.objs.size + 1, [s1.heap.objs.size + 1, s1.heap.objs.size], _, _, H1, rfl, I2, turn_enumT a (s1.heap.objs.size + 1) s1.heap.objs.size (Nat.ne_of_lt hat) (Nat.ne_of_lt (Nat.lt_succ_of_lt hat)), ⟨⟨.none, he⟩, hit, Nat.succ_ne_self _⟩, fun b hb => ?_, q⟩
    have e' : b = s1.heap.objs.size + 1 ∨ b = s1.heap.objs.size := by simpa using hb
    have hle : s1.heap.objs.size ≤ b := by
      rcases e' with z | z
      · rw [z]; exact Nat.le_add_right _ _
      · rw [z]; exact Nat.le_refl _
    exact I1.fpOk hle (I1.hok.fresh hle)
theorem walk_enumT {K : PySem.W.Frag} {a : Addr} {xs : List V} : Walk (IteT K a) xs.length (fun H => SqT K H a xs) (YPair (fun i => some (.int (i : Nat))) (fun i => xs[i]?)) := by
  refine ⟨fun i _ hi q => ⟨xs, xs[i], q, by simp [hi]⟩, fun _ q => ⟨xs, q, Nat.le_refl _⟩, fun i H v H' _ q y => ?_⟩
  obtain ⟨T, x, h1, h2, h3, h4⟩ := y
  exact ⟨T, .int (i : Nat), x, h1, h2, h3, rfl, h4 xs q⟩
end Wx

namespace Wx
open PySem PySem.Spec PyProof.Rows L2 NdefX RZ StX
/-! C.m(..) and C.m(), m a staticmethod that may raise -/
/-- C.m is a staticmethod: its record at p, its def at g -/
structure SMet (K : PySem.W.Frag) (C : Addr) (mc : Value) (m : Str) (p g : Addr) : Prop where
  at_ : PySem.W.findCls K (.ref C) mc m = some (.get (.builtin "staticmethod.__get__") (.ref p) .none (.ref C))
  rc : ∃ rest, PySem.W.recIn K p "staticmethod" = some (.ref g :: rest)
  kp : PySem.W.keepIn K (.ref g) = true
def tSMeth (C : Addr) (sp : Sp) (E : L2.St → XK) (ta : TE) (t : TA) : TE := fun σ H Q => ta σ H fun x H1 => x = .ref C ∧ t σ H1 fun vs H2 => sp vs H2 Q (E σ)
section
variable {X : Cx} {CX : CXT} {k : Nat} {C p g : Addr} {mc : Value} {fd : FuncData} {ps : List Str} {sp : Sp} {E : L2.St → XK} {o e : Expr} {es : List Expr} {m : Str} {pos apos : Pos} {ta : TE} {t : TA} {pl : Sem Bool}
theorem getsmet_ok {pins : List (Addr × Obj)} {σ : L2.St} {H : Hp} {s : Shared} {A : Around} {Q : Value × List Value → Shared → Prop} {Ex : Value → Shared → Prop} (I : Inv X pins σ H s) (r : ClX.CRead X.K C mc) (c : SMet X.K C mc m p g)
    (h : ∀ s', Inv X pins σ H s' → Q (.ref g, []) s') : wpAny (model X.prog X.w) A (getMethod (.ref C) m pl) Q Ex s := by
  refine PySem.W.method_cls I.kIn r.ga ?_
  obtain ⟨rest, hp⟩ := c.rc
  refine PySem.W.cls_bind I.kIn r.rd c.at_ ?_
  refine wpAny_call (PySem.W.sm_get (s := { s with toks := s.toks + 1 }) I.kIn hp (PySem.W.handed_on rfl ?_))
  exact h _ (I.tok _)
theorem run_fnRS {pins : List (Addr × Obj)} {σ : L2.St} {H : Hp} {s : Shared} {Q : VK} {us : List Value} {vs : List V} {E : XK} (F : FnR X.prog X.w X.K X.mg X.base CX k g sp) (hr : Room k X.A) (hx : PassesAt CX X σ E)
    (I : Inv X pins σ H s) (r : Vals vs us) (h : sp vs H Q E) : wpAny (model X.prog X.w) X.A (call (.ref g) us) (EP X pins σ Q) X.xe s := by
  refine wpAny_call (codeAny_mono (F X.A X.stack s H us vs Q E hr I.env0 r h) fun r s' hq => ?_)
  cases r with
  | error e => exact hx pins H s e s' I hq
  | ok fl =>
    cases fl with
    | ret u => exact I.after hq
    | next => exact False.elim hq
    | brk => exact False.elim hq
    | cont => exact False.elim hq
/-- C.m(..), a def -/
theorem pe_smeth (he : PE X o ta) (r : ClX.CRead X.K C mc) (c : SMet X.K C mc m p g) (F : FnOk X.prog X.w X.K X.mg X.base CX k g fd ps sp) (hr : Room k X.A) (hb : Binds X.K fd ps []) (hx : ∀ σ, PassesAt CX X σ (E σ)) (ha : PA X (e :: es) t)
    (hst : starEach (e :: es) X.env = (false, eval e X.env) :: starEach es X.env := by rfl) (hpl : (backTo pos (starEach es X.env)).any (·.1) = false := by rfl)
    (ht : eval (.Call (.Attribute o m apos) (e :: es) [] pos) X.env = (do
      let ov ← eval o X.env
      standAt apos.atName
      let (f, first) ← holding [ov] (getMethod ov m pl)
      callWith pos f first (backTo pos (starEach (e :: es) X.env)) (backToKw pos (keywordEach [] X.env))) := by rfl) :
    PE X (.Call (.Attribute o m apos) (e :: es) [] pos) (tSMeth C sp E ta t) := by
  refine ⟨fun pins s σ H Q I h => ?_⟩
  refine PySem.W.methodCall_KW (pl := pl) (thn (he.run pins s σ H _ I h) fun u s1 ⟨x, H1, I1, rx, ex, q⟩ => ?_) ht
  subst ex
  obtain rfl : u = Value.ref C := rx
  refine getsmet_ok I1 r c fun s2 I2 => ?_
  refine PySem.W.callWith_K (first := []) (h₀ := X.base) I.ok.mod.kin c.kp (thn (ha.run pos pins s2 σ H1 _ I2 q) fun us s3 ⟨vs, H2, I3, rv, q2⟩ => ⟨I3.kIn, ?_⟩) hst hpl
  exact run_fnS F hr hb (hx σ) I3 rv q2
/-- .. a def with a starred parameter -/
theorem pe_smethR (he : PE X o ta) (r : ClX.CRead X.K C mc) (c : SMet X.K C mc m p g) (F : FnR X.prog X.w X.K X.mg X.base CX k g sp) (hr : Room k X.A) (hx : ∀ σ, PassesAt CX X σ (E σ)) (ha : PA X (e :: es) t)
    (hst : starEach (e :: es) X.env = (false, eval e X.env) :: starEach es X.env := by rfl) (hpl : (backTo pos (starEach es X.env)).any (·.1) = false := by rfl)
    (ht : eval (.Call (.Attribute o m apos) (e :: es) [] pos) X.env = (do
      let ov ← eval o X.env
      standAt apos.atName
      let (f, first) ← holding [ov] (getMethod ov m pl)
      callWith pos f first (backTo pos (starEach (e :: es) X.env)) (backToKw pos (keywordEach [] X.env))) := by rfl) :
    PE X (.Call (.Attribute o m apos) (e :: es) [] pos) (tSMeth C sp E ta t) := by
  refine ⟨fun pins s σ H Q I h => ?_⟩
  refine PySem.W.methodCall_KW (pl := pl) (thn (he.run pins s σ H _ I h) fun u s1 ⟨x, H1, I1, rx, ex, q⟩ => ?_) ht
  subst ex
  obtain rfl : u = Value.ref C := rx
  refine getsmet_ok I1 r c fun s2 I2 => ?_
  refine PySem.W.callWith_K (first := []) (h₀ := X.base) I.ok.mod.kin c.kp (thn (ha.run pos pins s2 σ H1 _ I2 q) fun us s3 ⟨vs, H2, I3, rv, q2⟩ => ⟨I3.kIn, ?_⟩) hst hpl
  exact run_fnRS F hr (hx σ) I3 rv q2
/-- .. without arguments -/
theorem pe_smethR0 (he : PE X o ta) (r : ClX.CRead X.K C mc) (c : SMet X.K C mc m p g) (F : FnR X.prog X.w X.K X.mg X.base CX k g sp) (hr : Room k X.A) (hx : ∀ σ, PassesAt CX X σ (E σ))
    (ht : eval (.Call (.Attribute o m apos) [] [] pos) X.env = (do
      let ov ← eval o X.env
      standAt apos.atName
      let (f, first) ← holding [ov] (getMethod ov m pl)
      callWith pos f first (backTo pos (starEach [] X.env)) (backToKw pos (keywordEach [] X.env))) := by rfl) :
    PE X (.Call (.Attribute o m apos) [] [] pos) (tSMeth C sp E ta (fun _ H Q => Q [] H)) := by
  refine ⟨fun pins s σ H Q I h => ?_⟩
  refine PySem.W.methodCall_KW (pl := pl) (thn (he.run pins s σ H _ I h) fun u s1 ⟨x, H1, I1, rx, ex, q⟩ => ?_) ht
  subst ex
  obtain rfl : u = Value.ref C := rx
  refine getsmet_ok I1 r c fun s2 I2 => ?_
  exact PySem.W.callWith_K0 (first := []) I2.kIn c.kp (run_fnRS (us := []) F hr (hx σ) I2 .nil q)
end
end Wx

namespace Wx
open PySem PySem.Spec PyProof.Rows L2
section
variable {X : Cx} {C : Addr} {bmB : List Value} {B newId initId : String}
/-- X(), X an own exception class without own __init__ -/
theorem pmk_own0 {x : Str} {p pos : Pos} (F : ExcBaseFacts B newId initId bmB) (q : PySem.W.excIn X.K C bmB newId = true) (gC : X.mg x = some (.ref C)) (kC : PySem.W.keepIn X.K (.ref C) = true) (r : Raises X (.ref C)) (hg : Gl X x)
    (hdb : (x == ("__debug__" : Str)) = false := by decide) : PMk X (.Call (.Name x p) [] [] pos) (fun _ H Q => Q (.ref C) none H) := by
  intro pins s σ H Q I h
  refine wpAny_Call_Name_kw (ld_glob I hg gC ?_ hdb)
  refine PySem.W.callWith_K0 I.kIn kC ?_
  obtain ⟨bm, N, nm, qn, bs, hdct, sn, sub, ab, col, dd, k0, k1, k2, k3, k5, mN, hC, hN, hni, T⟩ := exc_obj I.kIn q
  show wpAny _ _ (call (.ref C) []) _ _ _
  refine wpAny_call_exc_subT F T hC hN hni (fun h' e hm => ?_) (by show 0 ≤ sizeLine; exact Nat.zero_le _)
  exact mk_of I hm r h (I.hok.gone hm.new)
end
end Wx

namespace Wb
open PySem PySem.Spec PyProof.Rows L2 Wx NdefX
def top (i : Nat) : Stmt := PySem.Challenge.pw_waterbyturns_k83_kinds_of_errors.main.body.getD i (.Pass ⟨0, 0, 0, 0⟩)
/-! ### a def that stands, by its name: what a caller needs -/
structure Cal (P : Program) (w : World) (K : PySem.W.Frag) (mg : Str → Option Value) (base : Heap) (name : Str) (ps : List Str) (k : Nat) (sp : Sp) : Prop where
  mk0 ::
  ex : ∃ (g : Addr) (gd : FuncData), FnOk P w K mg base CX0 k g gd ps sp ∧ mg name = some (.ref g) ∧ PySem.W.keepIn K (.ref g) = true ∧ Binds K gd ps []
/-! ### frames -/
/-- what is tracked outside xs stays -/
def Frm (xs : List Addr) (H H' : Hp) : Prop := ∀ b o, ¬ b ∈ xs → H b = some o → H' b = some o
theorem Frm.refl (xs : List Addr) (H : Hp) : Frm xs H H := fun _ _ _ h => h
theorem Frm.trans {xs : List Addr} {H H1 H2 : Hp} (a : Frm xs H H1) (b : Frm xs H1 H2) : Frm xs H H2 := fun c o n h => b c o n (a c o n h)
theorem Frm.of_same {xs : List Addr} {H H' : Hp} (a : Same H H') : Frm xs H H' := fun b o _ h => a b o h
theorem Frm.mono {xs ys : List Addr} {H H' : Hp} (a : Frm xs H H') (h : ∀ b, b ∈ xs → b ∈ ys) : Frm ys H H' := fun b o n e => a b o (fun m => n (h b m)) e
theorem Frm.put {xs : List Addr} {H : Hp} {a : Addr} {o : HO} (m : a ∈ xs) : Frm xs H (upd H a o) := fun b p n e => by
  rw [upd_ne (fun q => n (by rw [q]; exact m))]
  exact e
theorem Same.new {H : Hp} {a : Addr} {o : HO} (n : H a = none) : Same H (upd H a o) := fun b p e => by
  rw [upd_ne (ne_of_none e n)]
  exact e
theorem Frm.new {xs : List Addr} {H : Hp} {a : Addr} {o : HO} (n : H a = none) : Frm xs H (upd H a o) := Frm.of_same (Same.new n)
theorem Frm.same {H H' : Hp} (a : Frm [] H H') : Same H H' := fun b o e => a b o (by simp) e
/-- an address that was new and may change behind its making is no part of the frame of what was there before -/
theorem Frm.drop {x : Addr} {xs : List Addr} {H0 H1 H2 : Hp} (n : H0 x = none) (a : Frm xs H0 H1) (b : Frm (x :: xs) H1 H2) : Frm xs H0 H2 := fun c o nc e => by
  refine b c o ?_ (a c o nc e)
  intro m
  rcases List.mem_cons.mp m with q | q
  · rw [q] at e
    rw [n] at e
    cases e
  · exact nc q
theorem Frm.none {xs : List Addr} {H H' : Hp} (a : Frm xs H H') {l : Addr} (nl : ¬ l ∈ xs) (h : H' l = Option.none) : H l = Option.none := by
  cases q : H l with
  | none => rfl
  | some o =>
    have := a l o nl q
    rw [this] at h
    cases h
/-- the heap without xs -/
def hid (xs : List Addr) (H : Hp) : Hp := fun b => if b ∈ xs then none else H b
theorem hid_same (xs : List Addr) (H : Hp) : Same (hid xs H) H := fun b o e => by
  unfold hid at e
  split at e
  · cases e
  · exact e
theorem hid_frm {xs : List Addr} {H H' : Hp} (a : Frm xs H H') : Same (hid xs H) (hid xs H') := fun b o e => by
  unfold hid at e ⊢
  split at e
  · cases e
  · rename_i n
    rw [if_neg n]
    exact a b o n e
theorem hid_eq {xs : List Addr} {H : Hp} {b : Addr} (n : ¬ b ∈ xs) : hid xs H b = H b := if_neg n
theorem hid_mono {xs ys : List Addr} {H : Hp} (h : ∀ b, b ∈ xs → b ∈ ys) : Same (hid ys H) (hid xs H) := fun b o e => by
  unfold hid at e ⊢
  split at e
  · cases e
  · rename_i n
    rw [if_neg (fun m => n (h b m))]
    exact e
theorem hid_nil (H : Hp) : hid [] H = H := by
  funext b
  exact if_neg (by simp)
theorem rd_same {H H' : Hp} (s : Same H H') {a : Addr} {o : HO} (h : Rd H a o) : Rd H' a o := by
  rcases h with h | ⟨x, h⟩
  · exact .inl (s _ _ h)
  · exact .inr ⟨x, s _ _ h⟩
theorem seqT {K : PySem.W.Frag} {H H' : Hp} {a : Addr} {xs : List V} (s : Same H H') (h : SqT K H a xs) : SqT K H' a xs := h.imp (rd_same s) id
/-! data in the heap, seen from a larger heap -/
mutual
theorem dp_same {K : PySem.W.Frag} {H H' : Hp} (s : Same H H') : ∀ {v : V} {d : PyData}, Dp K H v d → Dp K H' v d
  | _, _, .non => .non
  | _, _, .bl b => .bl b
  | _, _, .int i => .int i
  | _, _, .str x => .str x
  | _, _, .lst h r => .lst (s.seq h) (dpAll_same s r)
  | _, _, .tup h r => .tup (seqT s h) (dpAll_same s r)
theorem dpAll_same {K : PySem.W.Frag} {H H' : Hp} (s : Same H H') : ∀ {v : List V} {d : List PyData}, DpAll K H v d → DpAll K H' v d
  | _, _, .nil => .nil
  | _, _, .cons a b => .cons (dp_same s a) (dpAll_same s b)
end
theorem dpAll_get {K : PySem.W.Frag} {H : Hp} : ∀ {vs : List V} {ds : List PyData}, DpAll K H vs ds → ∀ {i : Nat} {v : V}, vs[i]? = some v → ∃ d, ds[i]? = some d ∧ Dp K H v d
  | _, _, .nil, i, v, h => by simp at h
  | _, _, .cons a b, 0, v, h => by
    have e := Option.some.inj h
    subst e
    exact ⟨_, rfl, a⟩
  | _, _, .cons a b, i + 1, v, h => dpAll_get b (i := i) h
theorem dpAll_len {K : PySem.W.Frag} {H : Hp} : ∀ {vs : List V} {ds : List PyData}, DpAll K H vs ds → vs.length = ds.length
  | _, _, .nil => rfl
  | _, _, .cons _ b => congrArg (· + 1) (dpAll_len b)
theorem dpAll_snoc {K : PySem.W.Frag} {H : Hp} : ∀ {vs : List V} {ds : List PyData} {v : V} {d : PyData}, DpAll K H vs ds → Dp K H v d → DpAll K H (vs ++ [v]) (ds ++ [d])
  | _, _, _, _, .nil, h => .cons h .nil
  | _, _, _, _, .cons a b, h => .cons a (dpAll_snoc b h)
theorem dpAll_ints {K : PySem.W.Frag} {H : Hp} : ∀ (l : List Int), DpAll K H (l.map V.int) (l.map PyData.int)
  | [] => .nil
  | i :: l => .cons (.int i) (dpAll_ints l)
theorem dpAll_ints_eq {K : PySem.W.Frag} {H : Hp} : ∀ {l : List Int} {vs : List V}, DpAll K H vs (l.map PyData.int) → vs = l.map V.int
  | [], _, .nil => rfl
  | i :: l, _, .cons (.int _) b => congrArg (V.int i :: ·) (dpAll_ints_eq b)
/-- o[i] of a list, for o[i] += e -/
theorem get_list {X : Cx} : PGet X (fun o i H Q => ∃ p xs k z, o = .ref p ∧ i = .int k ∧ SqL X.K H p xs ∧ 0 ≤ k ∧ xs[k.toNat]? = some z ∧ Q z H) := by
  intro pins s σ H o i ov iv Q I ro ri h
  obtain ⟨p, xs, k, z, rfl, rfl, hq, h0, hz, q⟩ := h
  cases ro
  obtain ⟨t, rfl⟩ := ri
  obtain ⟨its, r, pl, hs⟩ := I.list hq
  obtain ⟨w, ew, rw'⟩ := r.get hz
  have hl := r.length
  have hn := line63
  have hlt : k.toNat < xs.length := (List.getElem?_eq_some_iff.mp hz).1
  exact wpAny_getItem_list pl.isList h0 (by omega) (by simpa using ew) ⟨z, H, I, rw', q⟩
def rListOf (K : PySem.W.Frag) : List V → Hp → VK → Prop := fun xs H Q => ∃ p ys, xs = [.ref p] ∧ (SqL K H p ys ∨ SqT K H p ys) ∧ ∀ l, H l = none → Q (.ref l) (upd H l (.lst ys))
def rLenSeq (K : PySem.W.Frag) : List V → Hp → VK → Prop := fun xs H Q => ∃ p ys, xs = [.ref p] ∧ (SqL K H p ys ∨ SqT K H p ys) ∧ Q (.int ys.length) H
theorem Cal.mk {P : Program} {w : World} {K : PySem.W.Frag} {mg : Str → Option Value} {base : Heap} {name : Str} {ps : List Str} {k : Nat} {sp : Sp} {g : Addr} {gd : FuncData} (G : FnOk P w K mg base CX0 k g gd ps sp) (m : mg name = some (.ref g)) (kp : PySem.W.keepIn K (.ref g) = true) (b : Binds K gd ps []) : Cal P w K mg base name ps k sp := .mk0 ⟨g, gd, G, m, kp, b⟩
abbrev s_shown : Stmt := top 1
abbrev N_shown : List Str := ["value"]
abbrev P_shown : List Str := ["value"]
theorem sc_shown : FnScope N_shown P_shown (defScope s_shown) := ⟨rfl, rfl, rfl, by decide +kernel, rfl, by decide +kernel, by decide +kernel⟩
abbrev sBadName___init__ : Stmt := inClass (top 3) 0
abbrev NBadName___init__ : List Str := ["self", "name", "__class__"]
abbrev PBadName___init__ : List Str := ["self", "name"]
theorem scBadName___init__ : NScope NBadName___init__ PBadName___init__ ["__class__"] (defScope sBadName___init__) := nscope_by (by decide +kernel)
abbrev sBadNumber___init__ : Stmt := inClass (top 4) 0
abbrev NBadNumber___init__ : List Str := ["self", "what", "value", "__class__"]
abbrev PBadNumber___init__ : List Str := ["self", "what", "value"]
theorem scBadNumber___init__ : NScope NBadNumber___init__ PBadNumber___init__ ["__class__"] (defScope sBadNumber___init__) := nscope_by (by decide +kernel)
abbrev sBadTurn___init__ : Stmt := inClass (top 5) 0
abbrev NBadTurn___init__ : List Str := ["self", "turn", "__class__"]
abbrev PBadTurn___init__ : List Str := ["self", "turn"]
theorem scBadTurn___init__ : NScope NBadTurn___init__ PBadTurn___init__ ["__class__"] (defScope sBadTurn___init__) := nscope_by (by decide +kernel)
abbrev sBadStanding___init__ : Stmt := inClass (top 6) 0
abbrev NBadStanding___init__ : List Str := ["self", "standing", "__class__"]
abbrev PBadStanding___init__ : List Str := ["self", "standing"]
theorem scBadStanding___init__ : NScope NBadStanding___init__ PBadStanding___init__ ["__class__"] (defScope sBadStanding___init__) := nscope_by (by decide +kernel)
abbrev sTooMany___init__ : Stmt := inClass (top 7) 0
abbrev NTooMany___init__ : List Str := ["self", "limit", "__class__"]
abbrev PTooMany___init__ : List Str := ["self", "limit"]
theorem scTooMany___init__ : NScope NTooMany___init__ PTooMany___init__ ["__class__"] (defScope sTooMany___init__) := nscope_by (by decide +kernel)
abbrev sDriedOut___init__ : Stmt := inClass (top 8) 0
abbrev NDriedOut___init__ : List Str := ["self", "plot", "day", "__class__"]
abbrev PDriedOut___init__ : List Str := ["self", "plot", "day"]
theorem scDriedOut___init__ : NScope NDriedOut___init__ PDriedOut___init__ ["__class__"] (defScope sDriedOut___init__) := nscope_by (by decide +kernel)
abbrev sNotSafe___init__ : Stmt := inClass (top 9) 0
abbrev NNotSafe___init__ : List Str := ["self", "standing", "__class__"]
abbrev PNotSafe___init__ : List Str := ["self", "standing"]
theorem scNotSafe___init__ : NScope NNotSafe___init__ PNotSafe___init__ ["__class__"] (defScope sNotSafe___init__) := nscope_by (by decide +kernel)
abbrev sBadPaper___init__ : Stmt := inClass (top 10) 0
abbrev NBadPaper___init__ : List Str := ["self", "row", "reason", "__class__"]
abbrev PBadPaper___init__ : List Str := ["self", "row", "reason"]
theorem scBadPaper___init__ : NScope NBadPaper___init__ PBadPaper___init__ ["__class__"] (defScope sBadPaper___init__) := nscope_by (by decide +kernel)
abbrev sNothingFits___init__ : Stmt := inClass (top 12) 0
abbrev NNothingFits___init__ : List Str := ["self", "day", "__class__"]
abbrev PNothingFits___init__ : List Str := ["self", "day"]
theorem scNothingFits___init__ : NScope NNothingFits___init__ PNothingFits___init__ ["__class__"] (defScope sNothingFits___init__) := nscope_by (by decide +kernel)
abbrev sBadText___init__ : Stmt := inClass (top 13) 0
abbrev NBadText___init__ : List Str := ["self", "line", "__class__"]
abbrev PBadText___init__ : List Str := ["self", "line"]
theorem scBadText___init__ : NScope NBadText___init__ PBadText___init__ ["__class__"] (defScope sBadText___init__) := nscope_by (by decide +kernel)
abbrev sBadDeed___init__ : Stmt := inClass (top 15) 0
abbrev NBadDeed___init__ : List Str := ["self", "place", "__class__"]
abbrev PBadDeed___init__ : List Str := ["self", "place"]
theorem scBadDeed___init__ : NScope NBadDeed___init__ PBadDeed___init__ ["__class__"] (defScope sBadDeed___init__) := nscope_by (by decide +kernel)
abbrev scheck_number : Stmt := top 20
abbrev Ncheck_number : List Str := ["what", "value", "low", "high"]
abbrev Pcheck_number : List Str := ["what", "value", "low", "high"]
theorem sccheck_number : FnScope Ncheck_number Pcheck_number (defScope scheck_number) := ⟨rfl, rfl, rfl, by decide +kernel, rfl, by decide +kernel, by decide +kernel⟩
abbrev scheck_units : Stmt := top 21
abbrev Ncheck_units : List Str := ["what", "values", "value"]
abbrev Pcheck_units : List Str := ["what", "values"]
theorem sccheck_units : FnScope Ncheck_units Pcheck_units (defScope scheck_units) := ⟨rfl, rfl, rfl, by decide +kernel, rfl, by decide +kernel, by decide +kernel⟩
abbrev sStanding___init__ : Stmt := inClass (top 23) 0
abbrev NStanding___init__ : List Str := ["self", "levels", "tank", "mood"]
abbrev PStanding___init__ : List Str := ["self", "levels", "tank", "mood"]
theorem scStanding___init__ : FnScope NStanding___init__ PStanding___init__ (defScope sStanding___init__) := ⟨rfl, rfl, rfl, by decide +kernel, rfl, by decide +kernel, by decide +kernel⟩
abbrev sStanding___eq__ : Stmt := inClass (top 23) 1
abbrev NStanding___eq__ : List Str := ["self", "other"]
abbrev PStanding___eq__ : List Str := ["self", "other"]
theorem scStanding___eq__ : FnScope NStanding___eq__ PStanding___eq__ (defScope sStanding___eq__) := ⟨rfl, rfl, rfl, by decide +kernel, rfl, by decide +kernel, by decide +kernel⟩
abbrev s_law_start : Stmt := top 25
abbrev N_law_start : List Str := ["script", "first"]
abbrev P_law_start : List Str := ["script"]
theorem sc_law_start : FnScope N_law_start P_law_start (defScope s_law_start) := ⟨rfl, rfl, rfl, by decide +kernel, rfl, by decide +kernel, by decide +kernel⟩
abbrev s_law_draw : Stmt := top 26
abbrev N_law_draw : List Str := ["script", "state", "limit", "number", "cell", "mixed"]
abbrev P_law_draw : List Str := ["script", "state", "limit"]
theorem sc_law_draw : FnScope N_law_draw P_law_draw (defScope s_law_draw) := ⟨rfl, rfl, rfl, by decide +kernel, rfl, by decide +kernel, by decide +kernel⟩
abbrev s_law_kinds : Stmt := top 27
abbrev N_law_kinds : List Str := ["fell", "kinds"]
abbrev P_law_kinds : List Str := ["fell"]
theorem sc_law_kinds : FnScope N_law_kinds P_law_kinds (defScope s_law_kinds) := ⟨rfl, rfl, rfl, by decide +kernel, rfl, by decide +kernel, by decide +kernel⟩
abbrev s_law_throw : Stmt := top 28
abbrev N_law_throw : List Str := ["kind", "values"]
abbrev P_law_throw : List Str := ["kind", "values"]
theorem sc_law_throw : FnScope N_law_throw P_law_throw (defScope s_law_throw) := ⟨rfl, rfl, rfl, by decide +kernel, rfl, by decide +kernel, by decide +kernel⟩
abbrev s_law_caught : Stmt := top 29
abbrev N_law_caught : List Str := ["kind", "values", "fell", "e"]
abbrev P_law_caught : List Str := ["kind", "values"]
theorem sc_law_caught : FnScope N_law_caught P_law_caught (defScope s_law_caught) := ⟨rfl, rfl, rfl, by decide +kernel, rfl, by decide +kernel, by decide +kernel⟩
abbrev s_law_holds : Stmt := top 30
abbrev N_law_holds : List Str := ["fell", "kind", "values", "kinds", "at"]
abbrev P_law_holds : List Str := ["fell", "kind", "values"]
theorem sc_law_holds : FnScope N_law_holds P_law_holds (defScope s_law_holds) := ⟨rfl, rfl, rfl, by decide +kernel, rfl, by decide +kernel, by decide +kernel⟩
abbrev s_law_values : Stmt := top 31
abbrev N_law_values : List Str := ["script", "state", "letters", "words", "k", "levels", "standing", "j"]
abbrev P_law_values : List Str := ["script", "state"]
theorem sc_law_values : FnScope N_law_values P_law_values (defScope s_law_values) := ⟨rfl, rfl, rfl, by decide +kernel, rfl, by decide +kernel, by decide +kernel⟩
abbrev slaw : Stmt := top 32
abbrev Nlaw : List Str := ["script", "state", "kind", "first", "second", "one", "two"]
abbrev Plaw : List Str := ["script"]
theorem sclaw : FnScope Nlaw Plaw (defScope slaw) := ⟨rfl, rfl, rfl, by decide +kernel, rfl, by decide +kernel, by decide +kernel⟩
/-- what the top has written -/
structure Txt (K : PySem.W.Frag) (mg : Str → Option Value) : Prop where
  b_len : mg "len" = none
  b_abs : mg "abs" = none
  b_int : mg "int" = none
  b_bool : mg "bool" = none
  b_str : mg "str" = none
  b_range : mg "range" = none
  b_all : mg "all" = none
  b_isinstance : mg "isinstance" = none
  b_repr : mg "repr" = none
  b_super : mg "super" = none
  b_tuple : mg "tuple" = none
  b_list : mg "list" = none
  b_zip : mg "zip" = none
  b_enumerate : mg "enumerate" = none
  b_max : mg "max" = none
  b_min : mg "min" = none
  b_ValueError : mg "ValueError" = none
  c_MOST_PLOTS : ∃ t, mg "MOST_PLOTS" = some (.int 4 t)
  c_MOST_UNITS : ∃ t, mg "MOST_UNITS" = some (.int 8 t)
  c_MOST_MOODS : ∃ t, mg "MOST_MOODS" = some (.int 4 t)
end Wb

namespace Wb
open PySem PySem.Spec PyProof.Rows L2 Wx NdefX RZ StX PyProof.Rows.FinIter
section
variable {P : Program} {w : World} {K : PySem.W.Frag} {mg : Str → Option Value} {base : Heap}

/-- a state: four ints -/
def St4 (H : Hp) (a : Addr) : Prop := ∃ i j k l : Int, H a = some (.lst [.int i, .int j, .int k, .int l])
/-- the script at a and the state at s -/
def Scr (K : PySem.W.Frag) (H : Hp) (a s : Addr) : Prop := (∃ ns : List Int, SqL K (hid [s] H) a (ns.map V.int) ∧ ns.length ≤ 63) ∧ St4 H s
theorem Frm.put' {xs : List Addr} {H H1 : Hp} {a : Addr} {o : HO} (f : Frm xs H H1) (m : a ∈ xs) : Frm xs H (upd H1 a o) := f.trans (Frm.put m)
theorem Scr.frm {K : PySem.W.Frag} {H H' : Hp} {a s : Addr} (h : Scr K H a s) (f : Frm [s] H H') (q : St4 H' s) : Scr K H' a s := by
  obtain ⟨⟨ns, h1, h2⟩, _⟩ := h
  exact ⟨⟨ns, (hid_frm f).seq h1, h2⟩, q⟩
/-- what else is made or changed is not the state -/
theorem Scr.same {K : PySem.W.Frag} {H H' : Hp} {a s : Addr} (h : Scr K H a s) (f : Same H H') : Scr K H' a s := by
  obtain ⟨i, j, k, l, e⟩ := h.2
  exact h.frm (Frm.of_same f) ⟨i, j, k, l, f _ _ e⟩
theorem Scr.ne {K : PySem.W.Frag} {H : Hp} {a s p : Addr} (h : Scr K H a s) (n : H p = none) : ¬ p = s := by
  rintro rfl
  obtain ⟨_, _, _, _, e⟩ := h.2
  rw [n] at e
  cases e
theorem Scr.made {K : PySem.W.Frag} {H : Hp} {a p : Addr} {ns : List Int} (hS : SqL K H a (ns.map V.int)) (hl : ns.length ≤ 63) (n : H p = none) {i j k l : Int} : Scr K (upd H p (.lst [.int i, .int j, .int k, .int l])) a p := by
  refine ⟨⟨ns, Same.seq (H := H) (fun b o e => ?_) hS, hl⟩, i, j, k, l, upd_same⟩
  have nb : b ≠ p := ne_of_none e n
  rw [hid_eq (by simpa using nb), upd_ne nb]
  exact e
theorem ints_at {ns : List Int} {i : Int} (h0 : 0 ≤ i) (h1 : i < ns.length) : ∃ z : Int, atI (ns.map V.int) i = some (.int z) := by
  obtain ⟨j, rfl⟩ : ∃ j : Nat, i = (j : Int) := ⟨i.toNat, by omega⟩
  have hj : j < ns.length := by omega
  exact ⟨ns[j], atI_nat (by simp [hj])⟩
theorem fmod0 {a b : Int} (h : 0 < b) : 0 ≤ a.fmod b := by
  rw [Int.fmod_eq_emod_of_nonneg _ (by omega)]
  exact Int.emod_nonneg _ (by omega)
theorem fmod1 {a b : Int} (h : 0 < b) : a.fmod b < b := by
  rw [Int.fmod_eq_emod_of_nonneg _ (by omega)]
  exact Int.emod_lt_of_pos _ h
def sp_law_start (K : PySem.W.Frag) : Sp := fun vs H Q _ => ∃ (a : Addr) (ns : List Int), vs = [.ref a] ∧ SqL K H a (ns.map V.int) ∧ ns.length ≤ 63 ∧ ∀ p H', Same H H' → H p = none → Scr K H' a p → Q (.ref p) H'
def sp_law_draw (K : PySem.W.Frag) : Sp := fun vs H Q _ => ∃ (a s : Addr) (n : Int), vs = [.ref a, .ref s, .int n] ∧ Scr K H a s ∧ 0 < n ∧ n < 1073741824 ∧ ∀ (r : Int) (H' : Hp), 0 ≤ r → r < n → Frm [s] H H' → Scr K H' a s → Q (.int r) H'

theorem ok_law_start {f : Addr} {fd : FuncData} (F : Fun K "_law_start" "_law_start" s_law_start f fd) (T : Txt K mg) : FnOk P w K mg base CX0 1 f fd P_law_start (sp_law_start K) := by
  refine F.ok sc_law_start (fun vs H Q E h => ?_) (fun cdv A outer s H vs Q E hr h => ?_)
  · obtain ⟨a, ns, rfl, hS, hlen, k⟩ := h
    rfl
  · obtain ⟨a, ns, rfl, hS, hlen, k⟩ := h
    refine ⟨_, (pss_cons (ps_set (i := 1) sc_law_start.nd rfl (by first | exact Or.inl rfl | exact Or.inr rfl) pe_int)
  (pss_cons (ps_if (pt_cmpR op_gt (pe_callB call_len_seq (by rfl) T.b_len PySem.boot_len (pa_cons (pv 0) pa_nil)) pe_int (nomark _))
  (pss_one (ps_set (i := 1) sc_law_start.nd rfl (by first | exact Or.inl rfl | exact Or.inr rfl) (pe_ix ix_list (pv 0) pe_int (fun _ _ => rfl))))
  pss_nil)
  (pss_one (ps_ret (pe_lst (pa_cons (pe_callB (id := "abs") call_abs (by rfl) T.b_abs (by decide +kernel) (pa_cons (pe_callTy (T := "int") call_int1 (by rfl) T.b_int (by decide +kernel) (pa_cons (pv 1) pa_nil)) pa_nil)) (pa_cons (pe_callTy (T := "int") call_int1 (by rfl) T.b_int (by decide +kernel) (pa_cons (pe_cmpR op_ge (pe_callB (id := "abs") call_abs (by rfl) T.b_abs (by decide +kernel) (pa_cons (pe_callTy (T := "int") call_int1 (by rfl) T.b_int (by decide +kernel) (pa_cons (pv 1) pa_nil)) pa_nil)) (pe_op op_pow pe_int pe_int) (nomark _)) pa_nil)) (pa_cons pe_int (pa_cons pe_int pa_nil))))))))), ?_⟩
    refine ⟨_, rfl, a, _, rfl, .inl hS, _, _, rfl, rfl, _, rfl, ?_⟩
    refine ite2 (fun c => ?_) (fun c => ?_)
    · have hp : (0 : Int) < ns.length := by simpa using of_decide_eq_true c
      obtain ⟨z, hz⟩ := ints_at (ns := ns) (i := 0) (by omega) hp
      refine ⟨_, rfl, a, _, _, _, rfl, rfl, hS, hz, ?_⟩
      refine ⟨_, rfl, .inl ⟨_, rfl, _, rfl, _, rfl, .inl ⟨_, rfl, _, rfl, _, _, rfl, rfl, ⟨by decide, by decide, by decide⟩, _, _, rfl, rfl, .inr ⟨_, rfl, (by show 4 ≤ sizeLine; decide), fun l hl => k _ _ (Same.new hl) hl (Scr.made hS hlen hl)⟩⟩⟩⟩
    · refine ⟨_, rfl, .inl ⟨_, rfl, _, rfl, _, rfl, .inl ⟨_, rfl, _, rfl, _, _, rfl, rfl, ⟨by decide, by decide, by decide⟩, _, _, rfl, rfl, .inr ⟨_, rfl, (by show 4 ≤ sizeLine; decide), fun l hl => k _ _ (Same.new hl) hl (Scr.made hS hlen hl)⟩⟩⟩⟩

theorem ok_law_draw {f : Addr} {fd : FuncData} (F : Fun K "_law_draw" "_law_draw" s_law_draw f fd) (T : Txt K mg) : FnOk P w K mg base CX0 1 f fd P_law_draw (sp_law_draw K) := by
  refine F.ok sc_law_draw (fun vs H Q E h => ?_) (fun cdv A outer s H vs Q E hr h => ?_)
  · obtain ⟨a, s0, n, rfl, hScr, n0, n1, k⟩ := h
    rfl
  · obtain ⟨a, s0, n, rfl, hScr, n0, n1, k⟩ := h
    refine ⟨_, (pss_cons (ps_asg (pe_op op_add (pe_ix ix_list (pv 1) pe_int (fun _ _ => rfl)) pe_int) (pg_sub (pv 1) pe_int set_list))
  (pss_cons (ps_if (PW.pt (pw_and (pt_cmpR op_eq (pe_ix ix_list (pv 1) pe_int (fun _ _ => rfl)) pe_int (nomark _)) (pw_and1 (pt_cmpR op_gt (pe_ix ix_list (pv 1) pe_int (fun _ _ => rfl)) pe_int (nomark _)))))
  (pss_cons (ps_set (i := 3) sc_law_draw.nd rfl (by first | exact Or.inl rfl | exact Or.inr rfl) (pe_op op_modN (pe_callTy (T := "int") call_int1 (by rfl) T.b_int (by decide +kernel) (pa_cons (pe_ix ix_list (pv 1) pe_int (fun _ _ => rfl)) pa_nil)) (pv 2)))
  (pss_cons (ps_asg (pe_op op_fdivN (pe_ix ix_list (pv 1) pe_int (fun _ _ => rfl)) (pv 2)) (pg_sub (pv 1) pe_int set_list))
  (pss_one (ps_ret (pv 3)))))
  pss_nil)
  (pss_cons (ps_asg pe_int (pg_sub (pv 1) pe_int set_list))
  (pss_cons (ps_set (i := 4) sc_law_draw.nd rfl (by first | exact Or.inl rfl | exact Or.inr rfl) pe_int)
  (pss_cons (ps_if (pt_cmpR op_gt (pe_callB call_len_seq (by rfl) T.b_len PySem.boot_len (pa_cons (pv 0) pa_nil)) pe_int (nomark _))
  (pss_one (ps_set (i := 4) sc_law_draw.nd rfl (by first | exact Or.inl rfl | exact Or.inr rfl) (pe_ix ix_list (pv 0) (pe_op op_modN (pe_callTy (T := "int") call_int1 (by rfl) T.b_int (by decide +kernel) (pa_cons (pe_ix ix_list (pv 1) pe_int (fun _ _ => rfl)) pa_nil)) (pe_callB call_len_seq (by rfl) T.b_len PySem.boot_len (pa_cons (pv 0) pa_nil))) (fun _ _ => rfl))))
  pss_nil)
  (pss_cons (ps_asg (pe_op op_add (pe_ix ix_list (pv 1) pe_int (fun _ _ => rfl)) pe_int) (pg_sub (pv 1) pe_int set_list))
  (pss_cons (ps_set (i := 5) sc_law_draw.nd rfl (by first | exact Or.inl rfl | exact Or.inr rfl) (pe_op op_mul (pe_op op_modN (pe_callTy (T := "int") call_int1 (by rfl) T.b_int (by decide +kernel) (pa_cons (pe_ix ix_list (pv 1) pe_int (fun _ _ => rfl)) pa_nil)) pe_int) pe_int))
  (pss_cons (ps_set (i := 5) sc_law_draw.nd rfl (by first | exact Or.inl rfl | exact Or.inr rfl) (pe_op op_add (pe_op op_add (pe_op op_add (pv 5) (pe_op op_modN (pe_callTy (T := "int") call_int1 (by rfl) T.b_int (by decide +kernel) (pa_cons (pv 4) pa_nil)) pe_int)) (pe_op op_mul pe_int (pe_ix ix_list (pv 1) pe_int (fun _ _ => rfl)))) pe_int))
  (pss_cons (ps_asg (pe_op op_modN (pe_callTy (T := "int") call_int1 (by rfl) T.b_int (by decide +kernel) (pa_cons (pv 5) pa_nil)) pe_int) (pg_sub (pv 1) pe_int set_list))
  (pss_cons (ps_set (i := 5) sc_law_draw.nd rfl (by first | exact Or.inl rfl | exact Or.inr rfl) (pe_op op_modN (pe_callTy (T := "int") call_int1 (by rfl) T.b_int (by decide +kernel) (pa_cons (pe_op op_add (pe_op op_mul (pe_ix ix_list (pv 1) pe_int (fun _ _ => rfl)) pe_int) (pe_ix ix_list (pv 1) pe_int (fun _ _ => rfl))) pa_nil)) pe_int))
  (pss_one (ps_ret (pe_op op_modN (pe_callTy (T := "int") call_int1 (by rfl) T.b_int (by decide +kernel) (pa_cons (pe_op op_fdivN (pv 5) pe_int) pa_nil)) (pv 2)))))))))))))), ?_⟩
    obtain ⟨⟨ns, hS, hl⟩, i0, i1, i2, i3, h4⟩ := id hScr
    have hA : ∀ H', Frm [s0] H H' → SqL K H' a (ns.map V.int) := fun H' fr => ((hid_frm fr).trans (hid_same _ _)).seq hS
    -- state[3] = state[3] + 1
    refine ⟨_, rfl, s0, _, _, _, rfl, rfl, SqL.of h4, rfl, _, _, rfl, rfl, _, rfl, s0, _, _, _, rfl, rfl, h4, rfl, ?_⟩
    refine ⟨_, rfl, s0, _, _, _, rfl, rfl, SqL.of upd_same, rfl, rfl, _, rfl, ?_⟩
    refine ite2 (fun c1 => ?_) (fun c1 => ?_)
    · refine ⟨_, rfl, s0, _, _, _, rfl, rfl, SqL.of upd_same, rfl, _, _, rfl, rfl, _, rfl, ?_⟩
      refine ite2 (fun c2 => ?_) (fun c2 => ?_)
      · refine ⟨_, rfl, s0, _, _, _, rfl, rfl, SqL.of upd_same, rfl, .inl ⟨_, rfl, _, rfl, _, _, rfl, rfl, (by show (_ : Int) ≠ 0; omega), ?_⟩⟩
        refine ⟨_, rfl, s0, _, _, _, rfl, rfl, SqL.of upd_same, rfl, _, rfl, _, _, rfl, rfl, ⟨by omega, by omega⟩, _, rfl, s0, _, _, _, rfl, rfl, upd_same, rfl, ?_⟩
        exact ⟨_, rfl, k _ _ (fmod0 n0) (fmod1 n0) (by repeat (first | exact Frm.refl _ _ | refine Frm.put' ?_ (by simp))) (hScr.frm (by repeat (first | exact Frm.refl _ _ | refine Frm.put' ?_ (by simp))) ⟨_, _, _, _, upd_same⟩)⟩
      · refine ⟨_, rfl, s0, _, _, _, rfl, rfl, upd_same, rfl, ?_⟩
        refine ⟨_, rfl, a, _, rfl, .inl (hA _ (by repeat (first | exact Frm.refl _ _ | refine Frm.put' ?_ (by simp)))), _, _, rfl, rfl, _, rfl, ?_⟩
        refine ite2 (fun c => ?_) (fun c => ?_)
        · have hp : (0 : Int) < ns.length := by simpa using of_decide_eq_true c
          obtain ⟨z, hz⟩ := ints_at (ns := ns) (i := i2.fmod ((ns.map V.int).length : Nat)) (fmod0 (by simpa using hp)) (by simpa using fmod1 (a := i2) hp)
          refine ⟨_, rfl, _, rfl, s0, _, _, _, rfl, rfl, SqL.of upd_same, rfl, .inl ⟨_, rfl, _, rfl, a, _, rfl, .inl (hA _ (by repeat (first | exact Frm.refl _ _ | refine Frm.put' ?_ (by simp)))), _, _, rfl, rfl, (by show (((ns.map V.int).length : Nat) : Int) ≠ 0; rw [List.length_map]; omega), a, _, _, _, rfl, rfl, hA _ (by repeat (first | exact Frm.refl _ _ | refine Frm.put' ?_ (by simp))), hz, ?_⟩⟩
          -- state[2] = state[2] + 1; mixed = ..
          refine ⟨_, rfl, s0, _, _, _, rfl, rfl, SqL.of upd_same, rfl, _, _, rfl, rfl, _, rfl, s0, _, _, _, rfl, rfl, upd_same, rfl, ?_⟩
          refine ⟨_, rfl, s0, _, _, _, rfl, rfl, SqL.of upd_same, rfl, .inl ⟨_, rfl, _, _, rfl, rfl, (by show (_ : Int) ≠ 0; decide), _, _, rfl, rfl, .inr ⟨by decide, by decide⟩, ?_⟩⟩
          refine ⟨_, rfl, _, rfl, .inl ⟨_, rfl, _, _, rfl, rfl, (by show (_ : Int) ≠ 0; decide), _, _, rfl, rfl, _, rfl, s0, _, _, _, rfl, rfl, SqL.of upd_same, rfl, _, _, rfl, rfl, .inl ⟨by decide, by decide⟩, _, _, rfl, rfl, _, _, rfl, rfl, ?_⟩⟩
          refine ⟨_, rfl, .inl ⟨_, rfl, _, _, rfl, rfl, (by show (_ : Int) ≠ 0; decide), _, rfl, s0, _, _, _, rfl, rfl, upd_same, rfl, ?_⟩⟩
          refine ⟨_, rfl, s0, _, _, _, rfl, rfl, SqL.of upd_same, rfl, _, _, rfl, rfl, .inr ⟨by decide, by decide⟩, _, rfl, s0, _, _, _, rfl, rfl, SqL.of upd_same, rfl, _, _, rfl, rfl, .inl ⟨_, rfl, _, _, rfl, rfl, (by show (_ : Int) ≠ 0; decide), ?_⟩⟩
          refine ⟨_, rfl, _, _, rfl, rfl, ⟨by decide, by decide⟩, .inl ⟨_, rfl, _, rfl, _, _, rfl, rfl, (by show (_ : Int) ≠ 0; omega), ?_⟩⟩
          exact k _ _ (fmod0 n0) (fmod1 n0) (by repeat (first | exact Frm.refl _ _ | refine Frm.put' ?_ (by simp))) (hScr.frm (by repeat (first | exact Frm.refl _ _ | refine Frm.put' ?_ (by simp))) ⟨_, _, _, _, upd_same⟩)
        · -- state[2] = state[2] + 1; mixed = ..
          refine ⟨_, rfl, s0, _, _, _, rfl, rfl, SqL.of upd_same, rfl, _, _, rfl, rfl, _, rfl, s0, _, _, _, rfl, rfl, upd_same, rfl, ?_⟩
          refine ⟨_, rfl, s0, _, _, _, rfl, rfl, SqL.of upd_same, rfl, .inl ⟨_, rfl, _, _, rfl, rfl, (by show (_ : Int) ≠ 0; decide), _, _, rfl, rfl, .inr ⟨by decide, by decide⟩, ?_⟩⟩
          refine ⟨_, rfl, _, rfl, .inl ⟨_, rfl, _, _, rfl, rfl, (by show (_ : Int) ≠ 0; decide), _, _, rfl, rfl, _, rfl, s0, _, _, _, rfl, rfl, SqL.of upd_same, rfl, _, _, rfl, rfl, .inl ⟨by decide, by decide⟩, _, _, rfl, rfl, _, _, rfl, rfl, ?_⟩⟩
          refine ⟨_, rfl, .inl ⟨_, rfl, _, _, rfl, rfl, (by show (_ : Int) ≠ 0; decide), _, rfl, s0, _, _, _, rfl, rfl, upd_same, rfl, ?_⟩⟩
          refine ⟨_, rfl, s0, _, _, _, rfl, rfl, SqL.of upd_same, rfl, _, _, rfl, rfl, .inr ⟨by decide, by decide⟩, _, rfl, s0, _, _, _, rfl, rfl, SqL.of upd_same, rfl, _, _, rfl, rfl, .inl ⟨_, rfl, _, _, rfl, rfl, (by show (_ : Int) ≠ 0; decide), ?_⟩⟩
          refine ⟨_, rfl, _, _, rfl, rfl, ⟨by decide, by decide⟩, .inl ⟨_, rfl, _, rfl, _, _, rfl, rfl, (by show (_ : Int) ≠ 0; omega), ?_⟩⟩
          exact k _ _ (fmod0 n0) (fmod1 n0) (by repeat (first | exact Frm.refl _ _ | refine Frm.put' ?_ (by simp))) (hScr.frm (by repeat (first | exact Frm.refl _ _ | refine Frm.put' ?_ (by simp))) ⟨_, _, _, _, upd_same⟩)
    · refine ⟨_, rfl, s0, _, _, _, rfl, rfl, upd_same, rfl, ?_⟩
      refine ⟨_, rfl, a, _, rfl, .inl (hA _ (by repeat (first | exact Frm.refl _ _ | refine Frm.put' ?_ (by simp)))), _, _, rfl, rfl, _, rfl, ?_⟩
      refine ite2 (fun c => ?_) (fun c => ?_)
      · have hp : (0 : Int) < ns.length := by simpa using of_decide_eq_true c
        obtain ⟨z, hz⟩ := ints_at (ns := ns) (i := i2.fmod ((ns.map V.int).length : Nat)) (fmod0 (by simpa using hp)) (by simpa using fmod1 (a := i2) hp)
        refine ⟨_, rfl, _, rfl, s0, _, _, _, rfl, rfl, SqL.of upd_same, rfl, .inl ⟨_, rfl, _, rfl, a, _, rfl, .inl (hA _ (by repeat (first | exact Frm.refl _ _ | refine Frm.put' ?_ (by simp)))), _, _, rfl, rfl, (by show (((ns.map V.int).length : Nat) : Int) ≠ 0; rw [List.length_map]; omega), a, _, _, _, rfl, rfl, hA _ (by repeat (first | exact Frm.refl _ _ | refine Frm.put' ?_ (by simp))), hz, ?_⟩⟩
        -- state[2] = state[2] + 1; mixed = ..
        refine ⟨_, rfl, s0, _, _, _, rfl, rfl, SqL.of upd_same, rfl, _, _, rfl, rfl, _, rfl, s0, _, _, _, rfl, rfl, upd_same, rfl, ?_⟩
        refine ⟨_, rfl, s0, _, _, _, rfl, rfl, SqL.of upd_same, rfl, .inl ⟨_, rfl, _, _, rfl, rfl, (by show (_ : Int) ≠ 0; decide), _, _, rfl, rfl, .inr ⟨by decide, by decide⟩, ?_⟩⟩
        refine ⟨_, rfl, _, rfl, .inl ⟨_, rfl, _, _, rfl, rfl, (by show (_ : Int) ≠ 0; decide), _, _, rfl, rfl, _, rfl, s0, _, _, _, rfl, rfl, SqL.of upd_same, rfl, _, _, rfl, rfl, .inl ⟨by decide, by decide⟩, _, _, rfl, rfl, _, _, rfl, rfl, ?_⟩⟩
        refine ⟨_, rfl, .inl ⟨_, rfl, _, _, rfl, rfl, (by show (_ : Int) ≠ 0; decide), _, rfl, s0, _, _, _, rfl, rfl, upd_same, rfl, ?_⟩⟩
        refine ⟨_, rfl, s0, _, _, _, rfl, rfl, SqL.of upd_same, rfl, _, _, rfl, rfl, .inr ⟨by decide, by decide⟩, _, rfl, s0, _, _, _, rfl, rfl, SqL.of upd_same, rfl, _, _, rfl, rfl, .inl ⟨_, rfl, _, _, rfl, rfl, (by show (_ : Int) ≠ 0; decide), ?_⟩⟩
        refine ⟨_, rfl, _, _, rfl, rfl, ⟨by decide, by decide⟩, .inl ⟨_, rfl, _, rfl, _, _, rfl, rfl, (by show (_ : Int) ≠ 0; omega), ?_⟩⟩
        exact k _ _ (fmod0 n0) (fmod1 n0) (by repeat (first | exact Frm.refl _ _ | refine Frm.put' ?_ (by simp))) (hScr.frm (by repeat (first | exact Frm.refl _ _ | refine Frm.put' ?_ (by simp))) ⟨_, _, _, _, upd_same⟩)
      · -- state[2] = state[2] + 1; mixed = ..
        refine ⟨_, rfl, s0, _, _, _, rfl, rfl, SqL.of upd_same, rfl, _, _, rfl, rfl, _, rfl, s0, _, _, _, rfl, rfl, upd_same, rfl, ?_⟩
        refine ⟨_, rfl, s0, _, _, _, rfl, rfl, SqL.of upd_same, rfl, .inl ⟨_, rfl, _, _, rfl, rfl, (by show (_ : Int) ≠ 0; decide), _, _, rfl, rfl, .inr ⟨by decide, by decide⟩, ?_⟩⟩
        refine ⟨_, rfl, _, rfl, .inl ⟨_, rfl, _, _, rfl, rfl, (by show (_ : Int) ≠ 0; decide), _, _, rfl, rfl, _, rfl, s0, _, _, _, rfl, rfl, SqL.of upd_same, rfl, _, _, rfl, rfl, .inl ⟨by decide, by decide⟩, _, _, rfl, rfl, _, _, rfl, rfl, ?_⟩⟩
        refine ⟨_, rfl, .inl ⟨_, rfl, _, _, rfl, rfl, (by show (_ : Int) ≠ 0; decide), _, rfl, s0, _, _, _, rfl, rfl, upd_same, rfl, ?_⟩⟩
        refine ⟨_, rfl, s0, _, _, _, rfl, rfl, SqL.of upd_same, rfl, _, _, rfl, rfl, .inr ⟨by decide, by decide⟩, _, rfl, s0, _, _, _, rfl, rfl, SqL.of upd_same, rfl, _, _, rfl, rfl, .inl ⟨_, rfl, _, _, rfl, rfl, (by show (_ : Int) ≠ 0; decide), ?_⟩⟩
        refine ⟨_, rfl, _, _, rfl, rfl, ⟨by decide, by decide⟩, .inl ⟨_, rfl, _, rfl, _, _, rfl, rfl, (by show (_ : Int) ≠ 0; omega), ?_⟩⟩
        exact k _ _ (fmod0 n0) (fmod1 n0) (by repeat (first | exact Frm.refl _ _ | refine Frm.put' ?_ (by simp))) (hScr.frm (by repeat (first | exact Frm.refl _ _ | refine Frm.put' ?_ (by simp))) ⟨_, _, _, _, upd_same⟩)
end
section
variable {P : Program} {w : World} {K : PySem.W.Frag} {mg : Str → Option Value} {base : Heap}

theorem ok_shown {f : Addr} {fd : FuncData} (F : Fun K "_shown" "_shown" s_shown f fd) (T : Txt K mg) : FnOk P w K mg base CX0 1 f fd P_shown sp_shown := by
  refine F.ok sc_shown (fun vs H Q E h => ?_) (fun cdv A outer s H vs Q E hr h => ?_)
  · obtain ⟨x, rfl, hx, k⟩ := h
    rfl
  · obtain ⟨x, rfl, hx, k⟩ := h
    refine ⟨_, (pss_cons (ps_if (pt_val (pe_callB (id := "isinstance") call_isi (by rfl) T.b_isinstance (by decide +kernel) (pa_cons (pv 0) (pa_cons (pe_bltn (v := .ty "str") (by rfl) T.b_str (by decide +kernel) rfl) pa_nil))))
  (pss_one (ps_ret (pe_callB (id := "repr") call_repr_str (by rfl) T.b_repr (by decide +kernel) (pa_cons (pv 0) pa_nil))))
  pss_nil)
  (pss_cons (ps_if (PW.pt (pw_and (pt_val (pe_callB (id := "isinstance") call_isi (by rfl) T.b_isinstance (by decide +kernel) (pa_cons (pv 0) (pa_cons (pe_bltn (v := .ty "int") (by rfl) T.b_int (by decide +kernel) rfl) pa_nil)))) (pw_and1 (pt_chain op_ltM op_ltM (pe_un un_neg pe_int) (pv 0) pe_int))))
  (pss_one (ps_ret (pe_callTy (T := "str") call_str_ib (by rfl) T.b_str (by decide +kernel) (pa_cons (pv 0) pa_nil))))
  pss_nil)
  (pss_one (ps_ret pe_str)))), ?_⟩
    rcases hx with ⟨z, rfl, hz⟩ | ⟨i, rfl⟩ | rfl | ⟨b, rfl⟩
    · refine ⟨_, rfl, _, _, _, _, true, rfl, .ty _, .base (.str _), kit_ty (by decide +kernel), true, rfl, iteT ?_⟩
      exact ⟨_, rfl, z, rfl, Nat.le_trans hz (by rw [sizeLine_eq]; decide), k _ hz⟩
    · refine ⟨_, rfl, _, _, _, _, false, rfl, .ty _, .base (.int _), kit_ty (by decide +kernel), false, rfl, iteF ?_⟩
      refine ⟨_, rfl, _, _, _, _, true, rfl, .ty _, .base (.int _), kit_ty (by decide +kernel), true, rfl, iteT ?_⟩
      refine ⟨_, rfl, _, rfl, _, _, rfl, rfl, _, rfl, ?_⟩
      refine ite2 (fun c1 => ?_) (fun c1 => ?_)
      · have c1 := of_decide_eq_true c1
        refine ⟨_, _, rfl, rfl, _, rfl, ?_⟩
        refine ite2 (fun c2 => ?_) (fun c2 => ?_)
        · have c2 := of_decide_eq_true c2
          have hn : i.natAbs < 10 ^ 4 := by
            have e : (10 : Nat) ^ 4 = 10000 := by decide
            rw [e]
            omega
          refine ⟨_, rfl, .inl ⟨_, rfl, ?_, k _ ?_⟩⟩
          · have h2 : i.natAbs < 2 ^ 1920 := Nat.lt_of_lt_of_le hn (by decide)
            by_cases h0 : i.natAbs = 0
            · rw [h0]
              decide
            · exact (Nat.log2_lt h0).mpr h2
          · have e := int_text_length_le10 (k := 4) (by decide) hn
            show (Str.ofString (toString i)).length ≤ _
            rw [PySem.ofString_length]
            omega
        · exact k _ (by decide +kernel)
      · refine ⟨_, rfl, ite2 (fun z => absurd z (by decide)) (fun _ => ?_)⟩
        exact k _ (by decide +kernel)
    · refine ⟨_, rfl, _, _, _, _, false, rfl, .ty _, .base .non, kit_ty (by decide +kernel), false, rfl, iteF ?_⟩
      refine ⟨_, rfl, _, _, _, _, false, rfl, .ty _, .base .non, kit_ty (by decide +kernel), false, rfl, iteF ?_⟩
      exact k _ (by decide +kernel)
    · refine ⟨_, rfl, _, _, _, _, false, rfl, .ty _, .base (.bl _), kit_ty (by decide +kernel), false, rfl, iteF ?_⟩
      refine ⟨_, rfl, _, _, _, _, true, rfl, .ty _, .base (.bl _), kit_ty (by decide +kernel), true, rfl, iteT ?_⟩
      refine ⟨_, rfl, _, rfl, _, _, rfl, rfl, _, rfl, ?_⟩
      refine ite2 (fun c1 => ?_) (fun c1 => absurd (decide_eq_true (by cases b <;> decide)) c1)
      refine ⟨_, _, rfl, rfl, _, rfl, ?_⟩
      refine ite2 (fun c2 => ?_) (fun c2 => absurd (decide_eq_true (by cases b <;> decide)) c2)
      exact ⟨_, rfl, .inr ⟨b, rfl, k _ (by cases b <;> decide +kernel)⟩⟩

theorem okBadNumber___init__ {f C cda cc : Addr} {oc dV kV doc pm ct : Value} {an od : Option Addr} {osl : Array (Option Value)} (lk : K.lookup f = some ⟨oc, od, .func (PySem.W.fnX "__init__" "BadNumber.__init__" (defArgs sBadNumber___init__) (defBody sBadNumber___init__) (defScope sBadNumber___init__) [("__class__", cc)] dV kV doc pm an (.ref cda) ct), osl⟩) (EC : ErrC P K mg "BadNumber" "BadNumber.__init__" C f cda cc) (T : Txt K mg)
    (C_shown : Cal P w K mg base "_shown" P_shown 1 sp_shown) : FnOk P w K mg base CX0 2 f (PySem.W.fnX "__init__" "BadNumber.__init__" (defArgs sBadNumber___init__) (defBody sBadNumber___init__) (defScope sBadNumber___init__) [("__class__", cc)] dV kV doc pm an (.ref cda) ct) PBadNumber___init__ (spBadNumber C) := by
  obtain ⟨g_shown, gd_shown, G_shown, m_shown, k_shown, b_shown⟩ := C_shown.ex
  refine fn_super (N := NBadNumber___init__) lk EC.sup scBadNumber___init__ rfl rfl rfl rfl (fun vs H Q E h => ?_) (fun A outer s H vs Q E hr h => ?_)
  · obtain ⟨a, z, v, rfl, ha, hz, hv, k⟩ := h
    rfl
  · obtain ⟨a, z, v, rfl, ha, hz, hv, k⟩ := h
    refine ⟨_, _, (pa_cons (pe_joined (.cons pe_str (.cons (pe_fmt (pv 1)) (.cons pe_str (.cons (pe_fmt (pe_call G_shown (hr.mono (by decide)) (by rfl) m_shown k_shown b_shown .nil pass0 (pa_cons (pv 2) pa_nil))) .nil))))) pa_nil), (pss_cons (ps_ost (pv 0) (pv 1)) (pss_one (ps_ost (pv 0) (pv 2)))), ?_⟩
    have h1 : (Str.empty ++ ("bad number for " : Str)).length ≤ 15 := by decide +kernel
    have h2 : (Str.empty ++ ("bad number for " : Str) ++ z).length ≤ 1015 := by rw [PySem.Str.length_append]; omega
    have h3 : (Str.empty ++ ("bad number for " : Str) ++ z ++ (": " : Str)).length ≤ 1017 := by rw [PySem.Str.length_append]; rw [show (": " : Str).length = 2 by decide +kernel]; omega
    refine ⟨a, _, rfl, ha, ?_⟩
    refine ⟨_, rfl, Nat.le_trans h1 (by rw [sizeLine_eq]; decide), ?_⟩
    refine ⟨_, rfl, .inl ⟨z, rfl, Nat.le_trans hz (by rw [sizeLine_eq]; decide), z, rfl, Nat.le_trans h2 (by rw [sizeLine_eq]; decide), ?_⟩⟩
    refine ⟨_, rfl, Nat.le_trans h3 (by rw [sizeLine_eq]; decide), ?_⟩
    refine ⟨_, rfl, v, rfl, hv, fun y hy => .inl ⟨y, rfl, Nat.le_trans hy (by rw [sizeLine_eq]; decide), y, rfl, ?_, ?_⟩⟩
    · rw [PySem.Str.length_append, sizeLine_eq]
      omega
    refine ⟨(by show 1 ≤ 1000; decide), ha, ?_⟩
    refine ⟨_, rfl, _, rfl, a, C, rfl, EC.sup.oex, EC.noWhat, .inl ⟨ha, fun dx nd ne => ?_⟩⟩
    refine ⟨_, rfl, _, rfl, a, C, rfl, EC.sup.oex, EC.noValue, .inr ⟨dx, _, upd_same, (by rw [upd_ne ne]; exact upd_same), (by show 1 ≤ 900; decide), ?_⟩⟩
    exact init_leaves2 ha k nd ne

theorem okBadName___init__ {f C cda cc : Addr} {oc dV kV doc pm ct : Value} {an od : Option Addr} {osl : Array (Option Value)} (lk : K.lookup f = some ⟨oc, od, .func (PySem.W.fnX "__init__" "BadName.__init__" (defArgs sBadName___init__) (defBody sBadName___init__) (defScope sBadName___init__) [("__class__", cc)] dV kV doc pm an (.ref cda) ct), osl⟩) (EC : ErrC P K mg "BadName" "BadName.__init__" C f cda cc) (T : Txt K mg)
    (C_shown : Cal P w K mg base "_shown" P_shown 1 sp_shown) : FnOk P w K mg base CX0 2 f (PySem.W.fnX "__init__" "BadName.__init__" (defArgs sBadName___init__) (defBody sBadName___init__) (defScope sBadName___init__) [("__class__", cc)] dV kV doc pm an (.ref cda) ct) PBadName___init__ (spBadName C) := by
  obtain ⟨g_shown, gd_shown, G_shown, m_shown, k_shown, b_shown⟩ := C_shown.ex
  refine fn_super (N := NBadName___init__) lk EC.sup scBadName___init__ rfl rfl rfl rfl (fun vs H Q E h => ?_) (fun A outer s H vs Q E hr h => ?_)
  · obtain ⟨a, v, rfl, ha, hv, k⟩ := h
    rfl
  · obtain ⟨a, v, rfl, ha, hv, k⟩ := h
    refine ⟨_, _, (pa_cons (pe_joined (.cons pe_str (.cons (pe_fmt (pe_call G_shown (hr.mono (by decide)) (by rfl) m_shown k_shown b_shown .nil pass0 (pa_cons (pv 1) pa_nil))) .nil))) pa_nil), (pss_one (ps_ost (pv 0) (pv 1))), ?_⟩
    have h1 : (Str.empty ++ ("bad name: " : Str)).length ≤ 10 := by decide +kernel
    refine ⟨a, _, rfl, ha, ?_⟩
    refine ⟨_, rfl, Nat.le_trans h1 (by rw [sizeLine_eq]; decide), ?_⟩
    refine ⟨_, rfl, v, rfl, hv, fun y hy => .inl ⟨y, rfl, Nat.le_trans hy (by rw [sizeLine_eq]; decide), y, rfl, ?_, ?_⟩⟩
    · rw [PySem.Str.length_append, sizeLine_eq]
      omega
    refine ⟨(by show 1 ≤ 1000; decide), ha, ?_⟩
    refine ⟨_, rfl, _, rfl, a, C, rfl, EC.sup.oex, EC.noName, .inl ⟨ha, fun dx nd ne => ?_⟩⟩
    exact init_leaves1 k nd ne
end
section
variable {P : Program} {w : World} {K : PySem.W.Frag} {mg : Str → Option Value} {base : Heap}

def spBadTurn (C : Addr) : Sp := fun vs H Q _ => ∃ (a t : Addr) (xs : List V), vs = [.ref a, .ref t] ∧ H a = some (exo a C none) ∧ H t = some (.tup xs) ∧ InitLeaves H a C [("turn", .ref t)] Q
def sp1any (f : Str) (C : Addr) : Sp := fun vs H Q _ => ∃ (a : Addr) (v : V), vs = [.ref a, v] ∧ H a = some (exo a C none) ∧ InitLeaves H a C [(f, v)] Q
def sp1show (f : Str) (C : Addr) : Sp := fun vs H Q _ => ∃ (a : Addr) (v : V), vs = [.ref a, v] ∧ H a = some (exo a C none) ∧ ShowOk v ∧ InitLeaves H a C [(f, v)] Q
def sp2show (f1 f2 : Str) (C : Addr) : Sp := fun vs H Q _ => ∃ (a : Addr) (v1 v2 : V), vs = [.ref a, v1, v2] ∧ H a = some (exo a C none) ∧ ShowOk v1 ∧ ShowOk v2 ∧ InitLeaves H a C [(f2, v2), (f1, v1)] Q
abbrev spBadStanding := sp1any "standing"
abbrev spNotSafe := sp1any "standing"
abbrev spTooMany := sp1show "limit"
abbrev spNothingFits := sp1show "day"
abbrev spBadText := sp1show "line"
abbrev spBadDeed := sp1show "place"
abbrev spDriedOut := sp2show "plot" "day"
abbrev spBadPaper := sp2show "row" "reason"

theorem okTooMany___init__ {f C cda cc : Addr} {oc dV kV doc pm ct : Value} {an od : Option Addr} {osl : Array (Option Value)} (lk : K.lookup f = some ⟨oc, od, .func (PySem.W.fnX "__init__" "TooMany.__init__" (defArgs sTooMany___init__) (defBody sTooMany___init__) (defScope sTooMany___init__) [("__class__", cc)] dV kV doc pm an (.ref cda) ct), osl⟩) (EC : ErrC P K mg "TooMany" "TooMany.__init__" C f cda cc) (T : Txt K mg) (nf : PySem.W.findIn K (.ref C) "limit" = some none)
    (C_shown : Cal P w K mg base "_shown" P_shown 1 sp_shown) : FnOk P w K mg base CX0 2 f (PySem.W.fnX "__init__" "TooMany.__init__" (defArgs sTooMany___init__) (defBody sTooMany___init__) (defScope sTooMany___init__) [("__class__", cc)] dV kV doc pm an (.ref cda) ct) PTooMany___init__ (spTooMany C) := by
  obtain ⟨g_shown, gd_shown, G_shown, m_shown, k_shown, b_shown⟩ := C_shown.ex
  refine fn_super (N := NTooMany___init__) lk EC.sup scTooMany___init__ rfl rfl rfl rfl (fun vs H Q E h => ?_) (fun A outer s H vs Q E hr h => ?_)
  · obtain ⟨a, v, rfl, ha, hv, k⟩ := h
    rfl
  · obtain ⟨a, v, rfl, ha, hv, k⟩ := h
    refine ⟨_, _, (pa_cons (pe_joined (.cons pe_str (.cons (pe_fmt (pe_call G_shown (hr.mono (by decide)) (by rfl) m_shown k_shown b_shown .nil pass0 (pa_cons (pv 1) pa_nil))) .nil))) pa_nil), (pss_one (ps_ost (pv 0) (pv 1))), ?_⟩
    refine ⟨a, _, rfl, ha, ?_⟩
    have l0 : (Str.empty).length = 0 := by decide +kernel
    have lc1 : ("more than " : Str).length = 10 := by decide +kernel
    have h1 : (Str.empty ++ ("more than " : Str)).length ≤ 10 := by simp only [PySem.Str.length_append]; omega
    refine ⟨_, rfl, Nat.le_trans h1 (by rw [sizeLine_eq]; decide), ?_⟩
    refine ⟨_, rfl, v, rfl, hv, fun y2 qy2 => .inl ⟨y2, rfl, Nat.le_trans qy2 (by rw [sizeLine_eq]; decide), y2, rfl, ?_, ?_⟩⟩
    · refine Nat.le_trans (m := 20010) ?_ (by rw [sizeLine_eq]; decide)
      show (Str.empty ++ ("more than " : Str) ++ y2).length ≤ 20010
      simp only [PySem.Str.length_append]
      omega
    refine ⟨(by show 1 ≤ 1000; decide), ha, ?_⟩
    refine ⟨_, rfl, _, rfl, a, C, rfl, EC.sup.oex, nf, .inl ⟨ha, fun dx nd ne => ?_⟩⟩
    exact init_leaves1 k nd ne

theorem okNothingFits___init__ {f C cda cc : Addr} {oc dV kV doc pm ct : Value} {an od : Option Addr} {osl : Array (Option Value)} (lk : K.lookup f = some ⟨oc, od, .func (PySem.W.fnX "__init__" "NothingFits.__init__" (defArgs sNothingFits___init__) (defBody sNothingFits___init__) (defScope sNothingFits___init__) [("__class__", cc)] dV kV doc pm an (.ref cda) ct), osl⟩) (EC : ErrC P K mg "NothingFits" "NothingFits.__init__" C f cda cc) (T : Txt K mg) (nf : PySem.W.findIn K (.ref C) "day" = some none)
    (C_shown : Cal P w K mg base "_shown" P_shown 1 sp_shown) : FnOk P w K mg base CX0 2 f (PySem.W.fnX "__init__" "NothingFits.__init__" (defArgs sNothingFits___init__) (defBody sNothingFits___init__) (defScope sNothingFits___init__) [("__class__", cc)] dV kV doc pm an (.ref cda) ct) PNothingFits___init__ (spNothingFits C) := by
  obtain ⟨g_shown, gd_shown, G_shown, m_shown, k_shown, b_shown⟩ := C_shown.ex
  refine fn_super (N := NNothingFits___init__) lk EC.sup scNothingFits___init__ rfl rfl rfl rfl (fun vs H Q E h => ?_) (fun A outer s H vs Q E hr h => ?_)
  · obtain ⟨a, v, rfl, ha, hv, k⟩ := h
    rfl
  · obtain ⟨a, v, rfl, ha, hv, k⟩ := h
    refine ⟨_, _, (pa_cons (pe_joined (.cons pe_str (.cons (pe_fmt (pe_call G_shown (hr.mono (by decide)) (by rfl) m_shown k_shown b_shown .nil pass0 (pa_cons (pv 1) pa_nil))) .nil))) pa_nil), (pss_one (ps_ost (pv 0) (pv 1))), ?_⟩
    refine ⟨a, _, rfl, ha, ?_⟩
    have l0 : (Str.empty).length = 0 := by decide +kernel
    have lc1 : ("no standing is left on day " : Str).length = 27 := by decide +kernel
    have h1 : (Str.empty ++ ("no standing is left on day " : Str)).length ≤ 27 := by simp only [PySem.Str.length_append]; omega
    refine ⟨_, rfl, Nat.le_trans h1 (by rw [sizeLine_eq]; decide), ?_⟩
    refine ⟨_, rfl, v, rfl, hv, fun y2 qy2 => .inl ⟨y2, rfl, Nat.le_trans qy2 (by rw [sizeLine_eq]; decide), y2, rfl, ?_, ?_⟩⟩
    · refine Nat.le_trans (m := 20027) ?_ (by rw [sizeLine_eq]; decide)
      show (Str.empty ++ ("no standing is left on day " : Str) ++ y2).length ≤ 20027
      simp only [PySem.Str.length_append]
      omega
    refine ⟨(by show 1 ≤ 1000; decide), ha, ?_⟩
    refine ⟨_, rfl, _, rfl, a, C, rfl, EC.sup.oex, nf, .inl ⟨ha, fun dx nd ne => ?_⟩⟩
    exact init_leaves1 k nd ne

theorem okBadText___init__ {f C cda cc : Addr} {oc dV kV doc pm ct : Value} {an od : Option Addr} {osl : Array (Option Value)} (lk : K.lookup f = some ⟨oc, od, .func (PySem.W.fnX "__init__" "BadText.__init__" (defArgs sBadText___init__) (defBody sBadText___init__) (defScope sBadText___init__) [("__class__", cc)] dV kV doc pm an (.ref cda) ct), osl⟩) (EC : ErrC P K mg "BadText" "BadText.__init__" C f cda cc) (T : Txt K mg) (nf : PySem.W.findIn K (.ref C) "line" = some none)
    (C_shown : Cal P w K mg base "_shown" P_shown 1 sp_shown) : FnOk P w K mg base CX0 2 f (PySem.W.fnX "__init__" "BadText.__init__" (defArgs sBadText___init__) (defBody sBadText___init__) (defScope sBadText___init__) [("__class__", cc)] dV kV doc pm an (.ref cda) ct) PBadText___init__ (spBadText C) := by
  obtain ⟨g_shown, gd_shown, G_shown, m_shown, k_shown, b_shown⟩ := C_shown.ex
  refine fn_super (N := NBadText___init__) lk EC.sup scBadText___init__ rfl rfl rfl rfl (fun vs H Q E h => ?_) (fun A outer s H vs Q E hr h => ?_)
  · obtain ⟨a, v, rfl, ha, hv, k⟩ := h
    rfl
  · obtain ⟨a, v, rfl, ha, hv, k⟩ := h
    refine ⟨_, _, (pa_cons (pe_joined (.cons pe_str (.cons (pe_fmt (pe_call G_shown (hr.mono (by decide)) (by rfl) m_shown k_shown b_shown .nil pass0 (pa_cons (pv 1) pa_nil))) (.cons pe_str .nil)))) pa_nil), (pss_one (ps_ost (pv 0) (pv 1))), ?_⟩
    refine ⟨a, _, rfl, ha, ?_⟩
    have l0 : (Str.empty).length = 0 := by decide +kernel
    have lc1 : ("line " : Str).length = 5 := by decide +kernel
    have h1 : (Str.empty ++ ("line " : Str)).length ≤ 5 := by simp only [PySem.Str.length_append]; omega
    refine ⟨_, rfl, Nat.le_trans h1 (by rw [sizeLine_eq]; decide), ?_⟩
    refine ⟨_, rfl, v, rfl, hv, fun y2 qy2 => .inl ⟨y2, rfl, Nat.le_trans qy2 (by rw [sizeLine_eq]; decide), y2, rfl, ?_, ?_⟩⟩
    · refine Nat.le_trans (m := 20005) ?_ (by rw [sizeLine_eq]; decide)
      show (Str.empty ++ ("line " : Str) ++ y2).length ≤ 20005
      simp only [PySem.Str.length_append]
      omega
    have lc3 : (" has a wrong form" : Str).length = 17 := by decide +kernel
    have h3 : (Str.empty ++ ("line " : Str) ++ y2 ++ (" has a wrong form" : Str)).length ≤ 20022 := by simp only [PySem.Str.length_append]; omega
    refine ⟨_, rfl, Nat.le_trans h3 (by rw [sizeLine_eq]; decide), ?_⟩
    refine ⟨(by show 1 ≤ 1000; decide), ha, ?_⟩
    refine ⟨_, rfl, _, rfl, a, C, rfl, EC.sup.oex, nf, .inl ⟨ha, fun dx nd ne => ?_⟩⟩
    exact init_leaves1 k nd ne

theorem okBadDeed___init__ {f C cda cc : Addr} {oc dV kV doc pm ct : Value} {an od : Option Addr} {osl : Array (Option Value)} (lk : K.lookup f = some ⟨oc, od, .func (PySem.W.fnX "__init__" "BadDeed.__init__" (defArgs sBadDeed___init__) (defBody sBadDeed___init__) (defScope sBadDeed___init__) [("__class__", cc)] dV kV doc pm an (.ref cda) ct), osl⟩) (EC : ErrC P K mg "BadDeed" "BadDeed.__init__" C f cda cc) (T : Txt K mg) (nf : PySem.W.findIn K (.ref C) "place" = some none)
    (C_shown : Cal P w K mg base "_shown" P_shown 1 sp_shown) : FnOk P w K mg base CX0 2 f (PySem.W.fnX "__init__" "BadDeed.__init__" (defArgs sBadDeed___init__) (defBody sBadDeed___init__) (defScope sBadDeed___init__) [("__class__", cc)] dV kV doc pm an (.ref cda) ct) PBadDeed___init__ (spBadDeed C) := by
  obtain ⟨g_shown, gd_shown, G_shown, m_shown, k_shown, b_shown⟩ := C_shown.ex
  refine fn_super (N := NBadDeed___init__) lk EC.sup scBadDeed___init__ rfl rfl rfl rfl (fun vs H Q E h => ?_) (fun A outer s H vs Q E hr h => ?_)
  · obtain ⟨a, v, rfl, ha, hv, k⟩ := h
    rfl
  · obtain ⟨a, v, rfl, ha, hv, k⟩ := h
    refine ⟨_, _, (pa_cons (pe_joined (.cons pe_str (.cons (pe_fmt (pe_call G_shown (hr.mono (by decide)) (by rfl) m_shown k_shown b_shown .nil pass0 (pa_cons (pv 1) pa_nil))) (.cons pe_str .nil)))) pa_nil), (pss_one (ps_ost (pv 0) (pv 1))), ?_⟩
    refine ⟨a, _, rfl, ha, ?_⟩
    have l0 : (Str.empty).length = 0 := by decide +kernel
    have lc1 : ("deed " : Str).length = 5 := by decide +kernel
    have h1 : (Str.empty ++ ("deed " : Str)).length ≤ 5 := by simp only [PySem.Str.length_append]; omega
    refine ⟨_, rfl, Nat.le_trans h1 (by rw [sizeLine_eq]; decide), ?_⟩
    refine ⟨_, rfl, v, rfl, hv, fun y2 qy2 => .inl ⟨y2, rfl, Nat.le_trans qy2 (by rw [sizeLine_eq]; decide), y2, rfl, ?_, ?_⟩⟩
    · refine Nat.le_trans (m := 20005) ?_ (by rw [sizeLine_eq]; decide)
      show (Str.empty ++ ("deed " : Str) ++ y2).length ≤ 20005
      simp only [PySem.Str.length_append]
      omega
    have lc3 : (" failed" : Str).length = 7 := by decide +kernel
    have h3 : (Str.empty ++ ("deed " : Str) ++ y2 ++ (" failed" : Str)).length ≤ 20012 := by simp only [PySem.Str.length_append]; omega
    refine ⟨_, rfl, Nat.le_trans h3 (by rw [sizeLine_eq]; decide), ?_⟩
    refine ⟨(by show 1 ≤ 1000; decide), ha, ?_⟩
    refine ⟨_, rfl, _, rfl, a, C, rfl, EC.sup.oex, nf, .inl ⟨ha, fun dx nd ne => ?_⟩⟩
    exact init_leaves1 k nd ne

theorem okDriedOut___init__ {f C cda cc : Addr} {oc dV kV doc pm ct : Value} {an od : Option Addr} {osl : Array (Option Value)} (lk : K.lookup f = some ⟨oc, od, .func (PySem.W.fnX "__init__" "DriedOut.__init__" (defArgs sDriedOut___init__) (defBody sDriedOut___init__) (defScope sDriedOut___init__) [("__class__", cc)] dV kV doc pm an (.ref cda) ct), osl⟩) (EC : ErrC P K mg "DriedOut" "DriedOut.__init__" C f cda cc) (T : Txt K mg) (nf : PySem.W.findIn K (.ref C) "plot" = some none) (nf2 : PySem.W.findIn K (.ref C) "day" = some none)
    (C_shown : Cal P w K mg base "_shown" P_shown 1 sp_shown) : FnOk P w K mg base CX0 2 f (PySem.W.fnX "__init__" "DriedOut.__init__" (defArgs sDriedOut___init__) (defBody sDriedOut___init__) (defScope sDriedOut___init__) [("__class__", cc)] dV kV doc pm an (.ref cda) ct) PDriedOut___init__ (spDriedOut C) := by
  obtain ⟨g_shown, gd_shown, G_shown, m_shown, k_shown, b_shown⟩ := C_shown.ex
  refine fn_super (N := NDriedOut___init__) lk EC.sup scDriedOut___init__ rfl rfl rfl rfl (fun vs H Q E h => ?_) (fun A outer s H vs Q E hr h => ?_)
  · obtain ⟨a, v1, v2, rfl, ha, hv1, hv2, k⟩ := h
    rfl
  · obtain ⟨a, v1, v2, rfl, ha, hv1, hv2, k⟩ := h
    refine ⟨_, _, (pa_cons (pe_joined (.cons pe_str (.cons (pe_fmt (pe_call G_shown (hr.mono (by decide)) (by rfl) m_shown k_shown b_shown .nil pass0 (pa_cons (pv 1) pa_nil))) (.cons pe_str (.cons (pe_fmt (pe_call G_shown (hr.mono (by decide)) (by rfl) m_shown k_shown b_shown .nil pass0 (pa_cons (pv 2) pa_nil))) .nil))))) pa_nil), (pss_cons (ps_ost (pv 0) (pv 1)) (pss_one (ps_ost (pv 0) (pv 2)))), ?_⟩
    refine ⟨a, _, rfl, ha, ?_⟩
    have l0 : (Str.empty).length = 0 := by decide +kernel
    have lc1 : ("plot " : Str).length = 5 := by decide +kernel
    have h1 : (Str.empty ++ ("plot " : Str)).length ≤ 5 := by simp only [PySem.Str.length_append]; omega
    refine ⟨_, rfl, Nat.le_trans h1 (by rw [sizeLine_eq]; decide), ?_⟩
    refine ⟨_, rfl, v1, rfl, hv1, fun y2 qy2 => .inl ⟨y2, rfl, Nat.le_trans qy2 (by rw [sizeLine_eq]; decide), y2, rfl, ?_, ?_⟩⟩
    · refine Nat.le_trans (m := 20005) ?_ (by rw [sizeLine_eq]; decide)
      show (Str.empty ++ ("plot " : Str) ++ y2).length ≤ 20005
      simp only [PySem.Str.length_append]
      omega
    have lc3 : (" dried out on day " : Str).length = 18 := by decide +kernel
    have h3 : (Str.empty ++ ("plot " : Str) ++ y2 ++ (" dried out on day " : Str)).length ≤ 20023 := by simp only [PySem.Str.length_append]; omega
    refine ⟨_, rfl, Nat.le_trans h3 (by rw [sizeLine_eq]; decide), ?_⟩
    refine ⟨_, rfl, v2, rfl, hv2, fun y4 qy4 => .inl ⟨y4, rfl, Nat.le_trans qy4 (by rw [sizeLine_eq]; decide), y4, rfl, ?_, ?_⟩⟩
    · refine Nat.le_trans (m := 40023) ?_ (by rw [sizeLine_eq]; decide)
      show (Str.empty ++ ("plot " : Str) ++ y2 ++ (" dried out on day " : Str) ++ y4).length ≤ 40023
      simp only [PySem.Str.length_append]
      omega
    refine ⟨(by show 1 ≤ 1000; decide), ha, ?_⟩
    refine ⟨_, rfl, _, rfl, a, C, rfl, EC.sup.oex, nf, .inl ⟨ha, fun dx nd ne => ?_⟩⟩
    refine ⟨_, rfl, _, rfl, a, C, rfl, EC.sup.oex, nf2, .inr ⟨dx, _, upd_same, (by rw [upd_ne ne]; exact upd_same), (by show 1 ≤ 900; decide), ?_⟩⟩
    exact init_leaves2 ha k nd ne

theorem okBadPaper___init__ {f C cda cc : Addr} {oc dV kV doc pm ct : Value} {an od : Option Addr} {osl : Array (Option Value)} (lk : K.lookup f = some ⟨oc, od, .func (PySem.W.fnX "__init__" "BadPaper.__init__" (defArgs sBadPaper___init__) (defBody sBadPaper___init__) (defScope sBadPaper___init__) [("__class__", cc)] dV kV doc pm an (.ref cda) ct), osl⟩) (EC : ErrC P K mg "BadPaper" "BadPaper.__init__" C f cda cc) (T : Txt K mg) (nf : PySem.W.findIn K (.ref C) "row" = some none) (nf2 : PySem.W.findIn K (.ref C) "reason" = some none)
    (C_shown : Cal P w K mg base "_shown" P_shown 1 sp_shown) : FnOk P w K mg base CX0 2 f (PySem.W.fnX "__init__" "BadPaper.__init__" (defArgs sBadPaper___init__) (defBody sBadPaper___init__) (defScope sBadPaper___init__) [("__class__", cc)] dV kV doc pm an (.ref cda) ct) PBadPaper___init__ (spBadPaper C) := by
  obtain ⟨g_shown, gd_shown, G_shown, m_shown, k_shown, b_shown⟩ := C_shown.ex
  refine fn_super (N := NBadPaper___init__) lk EC.sup scBadPaper___init__ rfl rfl rfl rfl (fun vs H Q E h => ?_) (fun A outer s H vs Q E hr h => ?_)
  · obtain ⟨a, v1, v2, rfl, ha, hv1, hv2, k⟩ := h
    rfl
  · obtain ⟨a, v1, v2, rfl, ha, hv1, hv2, k⟩ := h
    refine ⟨_, _, (pa_cons (pe_joined (.cons pe_str (.cons (pe_fmt (pe_call G_shown (hr.mono (by decide)) (by rfl) m_shown k_shown b_shown .nil pass0 (pa_cons (pv 1) pa_nil))) (.cons pe_str (.cons (pe_fmt (pe_call G_shown (hr.mono (by decide)) (by rfl) m_shown k_shown b_shown .nil pass0 (pa_cons (pv 2) pa_nil))) .nil))))) pa_nil), (pss_cons (ps_ost (pv 0) (pv 1)) (pss_one (ps_ost (pv 0) (pv 2)))), ?_⟩
    refine ⟨a, _, rfl, ha, ?_⟩
    have l0 : (Str.empty).length = 0 := by decide +kernel
    have lc1 : ("bad row " : Str).length = 8 := by decide +kernel
    have h1 : (Str.empty ++ ("bad row " : Str)).length ≤ 8 := by simp only [PySem.Str.length_append]; omega
    refine ⟨_, rfl, Nat.le_trans h1 (by rw [sizeLine_eq]; decide), ?_⟩
    refine ⟨_, rfl, v1, rfl, hv1, fun y2 qy2 => .inl ⟨y2, rfl, Nat.le_trans qy2 (by rw [sizeLine_eq]; decide), y2, rfl, ?_, ?_⟩⟩
    · refine Nat.le_trans (m := 20008) ?_ (by rw [sizeLine_eq]; decide)
      show (Str.empty ++ ("bad row " : Str) ++ y2).length ≤ 20008
      simp only [PySem.Str.length_append]
      omega
    have lc3 : (": " : Str).length = 2 := by decide +kernel
    have h3 : (Str.empty ++ ("bad row " : Str) ++ y2 ++ (": " : Str)).length ≤ 20010 := by simp only [PySem.Str.length_append]; omega
    refine ⟨_, rfl, Nat.le_trans h3 (by rw [sizeLine_eq]; decide), ?_⟩
    refine ⟨_, rfl, v2, rfl, hv2, fun y4 qy4 => .inl ⟨y4, rfl, Nat.le_trans qy4 (by rw [sizeLine_eq]; decide), y4, rfl, ?_, ?_⟩⟩
    · refine Nat.le_trans (m := 40010) ?_ (by rw [sizeLine_eq]; decide)
      show (Str.empty ++ ("bad row " : Str) ++ y2 ++ (": " : Str) ++ y4).length ≤ 40010
      simp only [PySem.Str.length_append]
      omega
    refine ⟨(by show 1 ≤ 1000; decide), ha, ?_⟩
    refine ⟨_, rfl, _, rfl, a, C, rfl, EC.sup.oex, nf, .inl ⟨ha, fun dx nd ne => ?_⟩⟩
    refine ⟨_, rfl, _, rfl, a, C, rfl, EC.sup.oex, nf2, .inr ⟨dx, _, upd_same, (by rw [upd_ne ne]; exact upd_same), (by show 1 ≤ 900; decide), ?_⟩⟩
    exact init_leaves2 ha k nd ne

theorem okBadStanding___init__ {f C cda cc : Addr} {oc dV kV doc pm ct : Value} {an od : Option Addr} {osl : Array (Option Value)} (lk : K.lookup f = some ⟨oc, od, .func (PySem.W.fnX "__init__" "BadStanding.__init__" (defArgs sBadStanding___init__) (defBody sBadStanding___init__) (defScope sBadStanding___init__) [("__class__", cc)] dV kV doc pm an (.ref cda) ct), osl⟩) (EC : ErrC P K mg "BadStanding" "BadStanding.__init__" C f cda cc) (T : Txt K mg) (nf : PySem.W.findIn K (.ref C) "standing" = some none)
    (C_shown : Cal P w K mg base "_shown" P_shown 1 sp_shown) : FnOk P w K mg base CX0 2 f (PySem.W.fnX "__init__" "BadStanding.__init__" (defArgs sBadStanding___init__) (defBody sBadStanding___init__) (defScope sBadStanding___init__) [("__class__", cc)] dV kV doc pm an (.ref cda) ct) PBadStanding___init__ (spBadStanding C) := by
  obtain ⟨g_shown, gd_shown, G_shown, m_shown, k_shown, b_shown⟩ := C_shown.ex
  refine fn_super (N := NBadStanding___init__) lk EC.sup scBadStanding___init__ rfl rfl rfl rfl (fun vs H Q E h => ?_) (fun A outer s H vs Q E hr h => ?_)
  · obtain ⟨a, v, rfl, ha, k⟩ := h
    rfl
  · obtain ⟨a, v, rfl, ha, k⟩ := h
    refine ⟨_, _, (pa_cons pe_str pa_nil), (pss_one (ps_ost (pv 0) (pv 1))), ?_⟩
    refine ⟨a, _, rfl, ha, ?_⟩
    refine ⟨(by show 1 ≤ 1000; decide), ha, ?_⟩
    refine ⟨_, rfl, _, rfl, a, C, rfl, EC.sup.oex, nf, .inl ⟨ha, fun dx nd ne => ?_⟩⟩
    exact init_leaves1 k nd ne

theorem okNotSafe___init__ {f C cda cc : Addr} {oc dV kV doc pm ct : Value} {an od : Option Addr} {osl : Array (Option Value)} (lk : K.lookup f = some ⟨oc, od, .func (PySem.W.fnX "__init__" "NotSafe.__init__" (defArgs sNotSafe___init__) (defBody sNotSafe___init__) (defScope sNotSafe___init__) [("__class__", cc)] dV kV doc pm an (.ref cda) ct), osl⟩) (EC : ErrC P K mg "NotSafe" "NotSafe.__init__" C f cda cc) (T : Txt K mg) (nf : PySem.W.findIn K (.ref C) "standing" = some none)
    (C_shown : Cal P w K mg base "_shown" P_shown 1 sp_shown) : FnOk P w K mg base CX0 2 f (PySem.W.fnX "__init__" "NotSafe.__init__" (defArgs sNotSafe___init__) (defBody sNotSafe___init__) (defScope sNotSafe___init__) [("__class__", cc)] dV kV doc pm an (.ref cda) ct) PNotSafe___init__ (spNotSafe C) := by
  obtain ⟨g_shown, gd_shown, G_shown, m_shown, k_shown, b_shown⟩ := C_shown.ex
  refine fn_super (N := NNotSafe___init__) lk EC.sup scNotSafe___init__ rfl rfl rfl rfl (fun vs H Q E h => ?_) (fun A outer s H vs Q E hr h => ?_)
  · obtain ⟨a, v, rfl, ha, k⟩ := h
    rfl
  · obtain ⟨a, v, rfl, ha, k⟩ := h
    refine ⟨_, _, (pa_cons pe_str pa_nil), (pss_one (ps_ost (pv 0) (pv 1))), ?_⟩
    refine ⟨a, _, rfl, ha, ?_⟩
    refine ⟨(by show 1 ≤ 1000; decide), ha, ?_⟩
    refine ⟨_, rfl, _, rfl, a, C, rfl, EC.sup.oex, nf, .inl ⟨ha, fun dx nd ne => ?_⟩⟩
    exact init_leaves1 k nd ne

theorem okBadTurn___init__ {f C cda cc : Addr} {oc dV kV doc pm ct : Value} {an od : Option Addr} {osl : Array (Option Value)} (lk : K.lookup f = some ⟨oc, od, .func (PySem.W.fnX "__init__" "BadTurn.__init__" (defArgs sBadTurn___init__) (defBody sBadTurn___init__) (defScope sBadTurn___init__) [("__class__", cc)] dV kV doc pm an (.ref cda) ct), osl⟩) (EC : ErrC P K mg "BadTurn" "BadTurn.__init__" C f cda cc) (T : Txt K mg) (nf : PySem.W.findIn K (.ref C) "turn" = some none)
    (C_shown : Cal P w K mg base "_shown" P_shown 1 sp_shown) : FnOk P w K mg base CX0 2 f (PySem.W.fnX "__init__" "BadTurn.__init__" (defArgs sBadTurn___init__) (defBody sBadTurn___init__) (defScope sBadTurn___init__) [("__class__", cc)] dV kV doc pm an (.ref cda) ct) PBadTurn___init__ (spBadTurn C) := by
  obtain ⟨g_shown, gd_shown, G_shown, m_shown, k_shown, b_shown⟩ := C_shown.ex
  refine fn_super (N := NBadTurn___init__) lk EC.sup scBadTurn___init__ rfl rfl rfl rfl (fun vs H Q E h => ?_) (fun A outer s H vs Q E hr h => ?_)
  · obtain ⟨a, t, xs, rfl, ha, ht, k⟩ := h
    rfl
  · obtain ⟨a, t, xs, rfl, ha, ht, k⟩ := h
    refine ⟨_, _, (pa_cons pe_str pa_nil), (pss_one (ps_ost (pv 0) (pe_callTy (T := "tuple") call_tuple_of (by rfl) T.b_tuple (by decide +kernel) (pa_cons (pv 1) pa_nil)))), ?_⟩
    refine ⟨a, _, rfl, ha, ?_⟩
    refine ⟨(by show 1 ≤ 1000; decide), ha, ?_⟩
    refine ⟨_, rfl, t, xs, rfl, .inr ⟨SqT.of ht, ?_⟩⟩
    refine ⟨_, rfl, a, C, rfl, EC.sup.oex, nf, .inl ⟨ha, fun dx nd ne => ?_⟩⟩
    exact init_leaves1 k nd ne
end
end Wb

namespace Wb
open PySem PySem.Spec PyProof.Rows L2 Wx NdefX RZ StX PyProof.Rows.FinIter
section
variable {P : Program} {w : World} {K : PySem.W.Frag} {mg : Str → Option Value} {base : Heap}

theorem take_snoc {α : Type} : ∀ {l : List α} {i : Nat} {x : α}, l[i]? = some x → l.take (i + 1) = l.take i ++ [x]
  | [], i, x, h => by simp at h
  | a :: l, 0, x, h => by
    have e : a = x := Option.some.inj h
    subst e
    rfl
  | a :: l, i + 1, x, h => by
    have ih := take_snoc (l := l) (i := i) (x := x) h
    show a :: l.take (i + 1) = a :: l.take i ++ [x]
    rw [ih]
    rfl
abbrev codes (z : Str) : List Nat := z.cps.toList
theorem codes_len (z : Str) : (codes z).length = z.length := Array.length_toList
theorem codes_app (x y : Str) : codes (x ++ y) = codes x ++ codes y := by
  show (x ++ y).cps.toList = _
  rw [PySem.Str.cps_append, Array.toList_append]
theorem bigN {n : Nat} (h : n ≤ 1000000) : n ≤ sizeLine := Nat.le_trans h (by rw [sizeLine_eq]; decide)
theorem lt1 {c d : Nat} : ([c] : List Nat) < [d] ↔ c < d := by
  rw [List.cons_lt_cons_iff]
  simp
theorem aS : ("a" : Str).cps.toList = [97] := by decide +kernel
theorem zS : ("z" : Str).cps.toList = [122] := by decide +kernel
def lowB (z : Str) : Bool := (codes z).all fun c => decide (97 ≤ c ∧ c ≤ 122)
def nameB : V → Bool
  | .str z => decide (1 ≤ z.length ∧ z.length ≤ 8) && lowB z
  | _ => false
def numB (v : V) (lo hi : Int) : Bool := match v with | .int i => decide (lo ≤ i ∧ i ≤ hi) | _ => false
/-- a value of one of the kinds that are asked -/
inductive OddV : V → Prop
  | str (z : Str) : z.length ≤ 1000 → (reprText z).length ≤ 20000 → OddV (.str z)
  | int (i : Int) : OddV (.int i)
  | non : OddV .non
  | bl (b : Bool) : OddV (.bl b)
theorem OddV.shows {x : V} (h : OddV x) : ShowOk x := by
  cases h with
  | str z h1 h2 => exact .inl ⟨z, rfl, h2⟩
  | int i => exact .inr (.inl ⟨i, rfl⟩)
  | non => exact .inr (.inr (.inl rfl))
  | bl b => exact .inr (.inr (.inr ⟨b, rfl⟩))
theorem OddV.self {x : V} (h : OddV x) : scal x x = true := by cases h <;> rfl
theorem OddV.text {x : V} (h : OddV x) (z : Str) : scal x (.str z) = true := by cases h <;> rfl
theorem OddV.tyOf {x : V} (h : OddV x) {K : PySem.W.Frag} {H : Hp} : ∃ T, TyOf K H x T ∧ True := by
  cases h with
  | str z h1 h2 => exact ⟨_, .str _, trivial⟩
  | int i => exact ⟨_, .int _, trivial⟩
  | non => exact ⟨_, .non, trivial⟩
  | bl b => exact ⟨_, .bl _, trivial⟩
def spis_name : Sp := fun vs H Q _ => ∃ x, vs = [x] ∧ OddV x ∧ ∀ H', Same H H' → Q (.bl (nameB x)) H'
def spcheck_name (C : Addr) : Sp := fun vs H Q E => ∃ x, vs = [x] ∧ OddV x ∧ (nameB x = true → ∀ H', Same H H' → Q x H') ∧
  (nameB x = false → ∀ (d : Addr) (H' : Hp), H d = none → Same H H' → H' d = some (.xd [("name", x)]) → E (.ref C) (some d) H')
def spcheck_number (C : Addr) : Sp := fun vs H Q E => ∃ (z : Str) (v : V) (lo hi : Int), vs = [.str z, v, .int lo, .int hi] ∧ z.length ≤ 1000 ∧ OddV v ∧ (numB v lo hi = true → Q v H) ∧
  (numB v lo hi = false → ∀ (d : Addr) (H' : Hp), H d = none → Same H H' → H' d = some (.xd [("value", v), ("what", .str z)]) → E (.ref C) (some d) H')
def sp_law_is_integer : Sp := fun vs H Q _ => ∃ i : Int, vs = [.int i] ∧ Q (.bl true) H
theorem look_val {v w : V} : ([("value", v), ("what", w)] : List (Str × V)).lookup ("value" : Str) = some v := by rw [lookup_put, if_pos rfl]
theorem look_what {v w : V} : ([("value", v), ("what", w)] : List (Str × V)).lookup ("what" : Str) = some w := by rw [lookup_put, if_neg (by decide +kernel), lookup_put, if_pos rfl]
theorem look_name {v : V} : ([("name", v)] : List (Str × V)).lookup ("name" : Str) = some v := by rw [lookup_put, if_pos rfl]
theorem ne_self {x : V} : ¬ (!decide (x = x)) = true := by rw [decide_eq_true rfl]; exact Bool.false_ne_true
theorem upd_upd {H : Hp} {a : Addr} {o o1 : HO} : upd (upd H a o) a o1 = upd H a o1 := by
  funext b
  by_cases h : b = a
  · rw [h, upd_same, upd_same]
  · rw [upd_ne h, upd_ne h, upd_ne h]
def TxtOk (n : Nat) (z : Str) : Prop := z.length ≤ n ∧ ∀ c, c ∈ codes z → c < 128
theorem TxtOk.repr {n : Nat} {z : Str} (h : TxtOk n z) (hn : n ≤ 1000) : (reprText z).length ≤ 20000 := by
  have := PySem.StrLaws.reprText_len z (fun c hc => Nat.lt_trans (h.2 c hc) (by decide))
  have := h.1
  omega
theorem TxtOk.mono {m n : Nat} {z : Str} (h : TxtOk m z) (hn : m ≤ n) : TxtOk n z := ⟨Nat.le_trans h.1 hn, h.2⟩
theorem TxtOk.app {m n : Nat} {x y : Str} (h1 : TxtOk m x) (h2 : TxtOk n y) : TxtOk (m + n) (x ++ y) := by
  refine ⟨by rw [PySem.Str.length_append]; have := h1.1; have := h2.1; omega, fun c hc => ?_⟩
  have e : codes (x ++ y) = codes x ++ codes y := by
    show (x ++ y).cps.toList = _
    rw [PySem.Str.cps_append, Array.toList_append]
  rw [e] at hc
  rcases List.mem_append.mp hc with q | q
  · exact h1.2 c q
  · exact h2.2 c q
theorem TxtOk.cut {n : Nat} {z : Str} {lo hi : Option Int} (h : TxtOk n z) : TxtOk n (cutS z lo hi) := by
  have e : codes (cutS z lo hi) = ((codes z).drop (HT.sIx z.length 0 lo)).take (HT.sIx z.length z.length hi - HT.sIx z.length 0 lo) := by
    unfold cutS codes
    simp
  refine ⟨?_, fun c hc => ?_⟩
  · rw [← codes_len, e, List.length_take, List.length_drop, codes_len]
    have := h.1
    omega
  · rw [e] at hc
    exact h.2 c (List.mem_of_mem_drop (List.mem_of_mem_take hc))
theorem TxtOk.one {c : Nat} (h : c < 128) : TxtOk 1 ⟨#[c]⟩ := ⟨Nat.le_refl _, fun d hd => by
  have : d = c := by simpa [codes] using hd
  omega⟩
theorem Str.odd {n : Nat} {z : Str} (h : TxtOk n z) (hn : n ≤ 1000) : OddV (.str z) := .str z (Nat.le_trans h.1 hn) (h.repr hn)
theorem scr_of {K : PySem.W.Frag} {H H' : Hp} {a s p : Addr} (h : Scr K H a s) (n : H p = none) (f : Frm [p, s] H H') (q : St4 H' s) : Scr K H' a s := by
  obtain ⟨⟨ns, h1, h2⟩, _⟩ := h
  refine ⟨⟨ns, Same.seq (fun b o e => ?_) h1, h2⟩, q⟩
  have nb : ¬ b ∈ [s] := fun y => by
    rw [show hid [s] H b = none from if_pos y] at e
    cases e
  rw [hid_eq nb] at e ⊢
  refine f b o (fun y => ?_) e
  rcases List.mem_cons.mp y with z | z
  · rw [z, n] at e
    cases e
  · exact nb z
theorem OddV.dp {x : V} (h : OddV x) (hs : ∀ z, x = .str z → PyData.strOk z = true) : ∃ d, (∀ K H, Dp K H x d) ∧ (∀ t : Str, PyData.strOk t = true → SeqAt.shaped (.tuple [.str t, d]) = true) := by
  cases h with
  | str z h1 h2 => exact ⟨_, fun _ _ => .str z, fun t ht => by simp [SeqAt.shaped, PyData.canLay0, PyData.canLayAll0, PyData.depth, PyData.depthAll, ht, hs z rfl]⟩
  | int i => exact ⟨_, fun _ _ => .int i, fun t ht => by simp [SeqAt.shaped, PyData.canLay0, PyData.canLayAll0, PyData.depth, PyData.depthAll, ht]⟩
  | non => exact ⟨_, fun _ _ => .non, fun t ht => by simp [SeqAt.shaped, PyData.canLay0, PyData.canLayAll0, PyData.depth, PyData.depthAll, ht]⟩
  | bl b => exact ⟨_, fun _ _ => .bl b, fun t ht => by simp [SeqAt.shaped, PyData.canLay0, PyData.canLayAll0, PyData.depth, PyData.depthAll, ht]⟩
theorem TxtOk.strOk {n : Nat} {z : Str} (h : TxtOk n z) : PyData.strOk z = true := by
  unfold PyData.strOk
  rw [Array.all_eq_true_iff_forall_mem]
  intro c hc
  exact decide_eq_true (Nat.lt_trans (h.2 c (by simpa [codes] using hc)) (by decide))
/-- the two told pairs are equal -/
theorem pair_eq {K : PySem.W.Frag} {H : Hp} {q r : Addr} {t : Str} {v : V} (ht : PyData.strOk t = true) (o : OddV v) (hs : ∀ z, v = .str z → PyData.strOk z = true) (h1 : H q = some (.tup [.str t, v])) (h2 : H r = some (.tup [.str t, v])) :
    ∃ d e, Dp K H (.ref q) d ∧ Dp K H (.ref r) e ∧ SeqAt.shaped d = true ∧ SeqAt.shaped e = true ∧ PyData.eqv d e = true := by
  obtain ⟨d, hd, sd⟩ := o.dp hs
  exact ⟨_, _, .tup (.inl (.inl h1)) (.cons (.str t) (.cons (hd K H) .nil)), .tup (.inl (.inl h2)) (.cons (.str t) (.cons (hd K H) .nil)), sd t ht, sd t ht, PySem.SeqAt.eqv_refl _ (PySem.SeqAt.canLay_of_shaped (sd t ht))⟩

/-- what is asked of a class with __init__ and __eq__ -/
structure DatC (K : PySem.W.Frag) (mg : Str → Option Value) (x : Str) (C fi fe : Addr) (fs : List Str) : Prop where
  g : mg x = some (.ref C)
  mkk : Mk K C fi
  cls : Cls K C
  no : ∀ f, f ∈ fs → NoAttr K C f
  eq : PySem.W.findIn K (.ref C) "__eq__" = some (some (.ref fe))
  fe : PySem.W.isFn K (.ref fe) = true
  ne : PySem.W.findIn K (.ref C) "__ne__" = some (some (.builtin "object.__ne__"))
  ob : PySem.W.subIn K (.ref C) (.type "object") = some true
  ha : PySem.W.findIn K (.ref C) "__class__" = some (some (.builtin "object.__class__"))
  hn : PySem.W.specialIn K (.builtin "object.__class__") "__get__" = some (some (.builtin "getset_descriptor.__get__"))
  htk : PySem.W.takesIn K (.builtin "object.__class__") = some true
  hm : PySem.W.mroIn K C (.type "object") = some true
  kit : PySem.W.kitOne K (.ref C) (.ref C) = some true
def splaw (K : PySem.W.Frag) : Sp := fun vs H Q _ => ∃ (a : Addr) (ns : List Int), vs = [.ref a] ∧ SqL K H a (ns.map V.int) ∧ ns.length ≤ 63 ∧ ∀ H', Q (.bl true) H'

theorem Same.seqT {K : PySem.W.Frag} {H H' : Hp} {a : Addr} {xs : List V} (e : Same H H') (h : SqT K H a xs) : SqT K H' a xs := by
  rcases h with h | h
  · exact .inl (h.imp (e a _) fun ⟨o, q⟩ => ⟨o, e a _ q⟩)
  · exact .inr h
def bad8 (x : V) : Bool := !numB x 0 8
theorem find_at {p : V → Bool} : ∀ {xs : List V} {i : Nat} {x : V}, xs[i]? = some x → (∀ y, y ∈ xs.take i → p y = false) → p x = true → xs.find? p = some x
  | [], i, x, h, _, _ => by simp at h
  | y :: ys, 0, x, h, _, q => by
    have e : y = x := Option.some.inj h
    subst e
    rw [List.find?_cons, q]
  | y :: ys, i + 1, x, h, k, q => by
    rw [List.find?_cons, k y (by rw [List.take_succ_cons]; exact List.mem_cons_self)]
    exact find_at (xs := ys) (i := i) h (fun z hz => k z (by rw [List.take_succ_cons]; exact List.mem_cons_of_mem _ hz)) q
theorem find_none {p : V → Bool} {xs : List V} (k : ∀ y, y ∈ xs → p y = false) : xs.find? p = none := List.find?_eq_none.mpr fun y hy => by rw [k y hy]; exact Bool.false_ne_true
def spcheck_units (K : PySem.W.Frag) (C : Addr) : Sp := fun vs H Q E => ∃ (z : Str) (a : Addr) (xs : List V), vs = [.str z, .ref a] ∧ z.length ≤ 1000 ∧ (SqL K H a xs ∨ SqT K H a xs) ∧ xs.length ≤ 1000 ∧ (∀ x, x ∈ xs → OddV x) ∧
  (xs.find? bad8 = none → ∀ (q : Addr) (H' : Hp), H q = none → H' q = some (.tup xs) → Same H H' → Q (.ref q) H') ∧
  (∀ x, xs.find? bad8 = some x → ∀ (d : Addr) (H' : Hp), H d = none → Same H H' → H' d = some (.xd [("value", x), ("what", .str z)]) → E (.ref C) (some d) H')

theorem okcheck_number {f : Addr} {fd : FuncData} (F : Fun K "check_number" "check_number" scheck_number f fd) (T : Txt K mg) {C_BadNumber f_BadNumber cda_BadNumber cc_BadNumber : Addr} {fd_BadNumber : FuncData} (E_BadNumber : ErrC P K mg "BadNumber" "BadNumber.__init__" C_BadNumber f_BadNumber cda_BadNumber cc_BadNumber) (G_BadNumber : FnOk P w K mg base CX0 2 f_BadNumber fd_BadNumber PBadNumber___init__ (spBadNumber C_BadNumber)) (b_BadNumber : Binds K fd_BadNumber PBadNumber___init__ []) : FnOk P w K mg base (L2.CX P w) 4 f fd Pcheck_number (spcheck_number C_BadNumber) := by
  refine F.okX sccheck_number (fun vs H Q E h => ?_) (fun cdv A outer s H vs Q E hr h => ?_)
  · obtain ⟨z, v, lo, hi, rfl, hz, hv, kT, kE⟩ := h
    rfl
  · obtain ⟨z, v, lo, hi, rfl, hz, hv, kT, kE⟩ := h
    refine ⟨_, (pss_cons (ps_if (PW.pt (pw_or (pt_val (pe_callB (id := "isinstance") call_isi (by rfl) T.b_isinstance (by decide +kernel) (pa_cons (pv 1) (pa_cons (pe_bltn (v := .ty "bool") (by rfl) T.b_bool (by decide +kernel) rfl) pa_nil)))) (pw_or1 (pt_not (pt_val (pe_callB (id := "isinstance") call_isi (by rfl) T.b_isinstance (by decide +kernel) (pa_cons (pv 1) (pa_cons (pe_bltn (v := .ty "int") (by rfl) T.b_int (by decide +kernel) rfl) pa_nil))))))))
  (pss_one (ps_raise rfl (takes_of rfl rfl rfl rfl) (pmk_oex E_BadNumber.sup.oex E_BadNumber.ini E_BadNumber.tyI G_BadNumber (hr.mono (by decide)) b_BadNumber .nil pass0 (by rfl) E_BadNumber.g (pa_cons (pv 0) (pa_cons (pv 1) pa_nil)))))
  pss_nil)
  (pss_cons (ps_if (PW.pt (pw_or (pt_cmpR op_lt (pv 1) (pv 2) (nomark _)) (pw_or1 (pt_cmpR op_gt (pv 1) (pv 3) (nomark _)))))
  (pss_one (ps_raise rfl (takes_of rfl rfl rfl rfl) (pmk_oex E_BadNumber.sup.oex E_BadNumber.ini E_BadNumber.tyI G_BadNumber (hr.mono (by decide)) b_BadNumber .nil pass0 (by rfl) E_BadNumber.g (pa_cons (pv 0) (pa_cons (pv 1) pa_nil)))))
  pss_nil)
  (pss_one (ps_ret (pv 1))))), ?_⟩
    have hv0 := hv
    cases hv with
    | int i =>
      refine ⟨_, rfl, _, _, _, _, false, rfl, .ty _, .base (.int _), kit_ty (by decide +kernel), false, rfl, iteF ?_⟩
      refine ⟨_, rfl, _, _, _, _, true, rfl, .ty _, .base (.int _), kit_ty (by decide +kernel), true, rfl, iteF ?_⟩
      refine ⟨_, rfl, _, rfl, _, _, rfl, rfl, _, rfl, ?_⟩
      refine ite2 (fun c1 => ?_) (fun c1 => ?_)
      · have c1 := of_decide_eq_true c1
        exact ⟨_, rfl, _, rfl, (by show 2 ≤ 1000; decide), fun a na => ⟨a, z, _, rfl, upd_same, hz, hv0.shows, made_of na fun d H' nd s' hd => kE (decide_eq_false (by omega)) d H' nd s' hd⟩⟩
      · have c1 : ¬ i < lo := fun q => c1 (decide_eq_true q)
        refine ⟨_, rfl, _, rfl, _, _, rfl, rfl, _, rfl, ?_⟩
        refine ite2 (fun c2 => ?_) (fun c2 => ?_)
        · have c2 := of_decide_eq_true c2
          exact ⟨_, rfl, _, rfl, (by show 2 ≤ 1000; decide), fun a na => ⟨a, z, _, rfl, upd_same, hz, hv0.shows, made_of na fun d H' nd s' hd => kE (decide_eq_false (by omega)) d H' nd s' hd⟩⟩
        · have c2 : ¬ hi < i := fun q => c2 (decide_eq_true q)
          exact ⟨_, rfl, kT (decide_eq_true (by omega))⟩
    | non =>
      refine ⟨_, rfl, _, _, _, _, false, rfl, .ty _, .base .non, kit_ty (by decide +kernel), false, rfl, iteF ?_⟩
      refine ⟨_, rfl, _, _, _, _, false, rfl, .ty _, .base .non, kit_ty (by decide +kernel), false, rfl, iteT ?_⟩
      exact ⟨_, rfl, _, rfl, (by show 2 ≤ 1000; decide), fun a na => ⟨a, z, _, rfl, upd_same, hz, hv0.shows, made_of na fun d H' nd s' hd => kE rfl d H' nd s' hd⟩⟩
    | bl b =>
      refine ⟨_, rfl, _, _, _, _, true, rfl, .ty _, .base (.bl _), kit_ty (by decide +kernel), true, rfl, iteT ?_⟩
      exact ⟨_, rfl, _, rfl, (by show 2 ≤ 1000; decide), fun a na => ⟨a, z, _, rfl, upd_same, hz, hv0.shows, made_of na fun d H' nd s' hd => kE rfl d H' nd s' hd⟩⟩
    | str y h1 h2 =>
      refine ⟨_, rfl, _, _, _, _, false, rfl, .ty _, .base (.str _), kit_ty (by decide +kernel), false, rfl, iteF ?_⟩
      refine ⟨_, rfl, _, _, _, _, false, rfl, .ty _, .base (.str _), kit_ty (by decide +kernel), false, rfl, iteT ?_⟩
      exact ⟨_, rfl, _, rfl, (by show 2 ≤ 1000; decide), fun a na => ⟨a, z, _, rfl, upd_same, hz, hv0.shows, made_of na fun d H' nd s' hd => kE rfl d H' nd s' hd⟩⟩

theorem okcheck_units {f : Addr} {fd : FuncData} (F : Fun K "check_units" "check_units" scheck_units f fd) (T : Txt K mg) {C_BadNumber : Addr} (C_xcheck_number : ∃ (g : Addr) (gd : FuncData), FnOk P w K mg base (L2.CX P w) 4 g gd Pcheck_number (spcheck_number C_BadNumber) ∧ mg "check_number" = some (.ref g) ∧ PySem.W.keepIn K (.ref g) = true ∧ Binds K gd Pcheck_number []) : FnOk P w K mg base (L2.CX P w) 5 f fd Pcheck_units (spcheck_units K C_BadNumber) := by
  obtain ⟨_, c_MOST_UNITS⟩ := T.c_MOST_UNITS
  obtain ⟨gcheck_number, gdcheck_number, Gcheck_number, mcheck_number, kcheck_number, bcheck_number⟩ := C_xcheck_number
  refine F.okX sccheck_units (fun vs H Q E h => ?_) (fun cdv A outer s H vs Q E hr h => ?_)
  · obtain ⟨z, a, xs, rfl, hz, hs, hl, ho, kT, kE⟩ := h
    rfl
  · obtain ⟨z, a, xs, rfl, hz, hs, hl, ho, kT, kE⟩ := h
    refine ⟨_, (pss_one (ps_ret (pe_callTy (T := "tuple") call_tuple_of (by rfl) T.b_tuple (by decide +kernel) (pa_cons (pe_lcX (own := [("value", 2)]) (fun σ => air_of (takes_of rfl rfl rfl rfl) rfl rfl) rfl sccheck_units.nd (pi_seq (pv 1)) (blkOk_by (own := [("value", 2)]) (N := Ncheck_units) (sc := defScope scheck_units) (by decide +kernel)) (fun _ _ _ _ _ => (pg_name (i := 2) sccheck_units.nd rfl (by first | exact Or.inl rfl | exact Or.inr rfl))) (fun _ _ _ _ _ => pts_nil) (fun _ _ _ _ _ _ _ air => (pe_callS Gcheck_number (hr.mono (by decide)) (by rfl) mcheck_number kcheck_number bcheck_number (fun σ => (air σ).pass) (pa_cons (pv 0) (pa_cons (pv 2) (pa_cons pe_int (pa_cons (pe_glob (v := .int 8) rfl c_MOST_UNITS ⟨_, rfl⟩) pa_nil))))))) pa_nil)))), ?_⟩
    refine ⟨_, rfl, a, xs, rfl, ?_⟩
    rcases hs with hs | hs
    · refine .inl ⟨hs, fun D hD => ?_⟩
      refine lc_it walk_list (fun i H1 => H1 D = some (.lst (xs.take i)) ∧ Same H H1 ∧ ∀ y, y ∈ xs.take i → bad8 y = false) ⟨upd_same, Same.new hD, fun y hy => by cases hy⟩ (fun i H1 _ q => Same.seq q.2.1 hs) ?_ ?_
      · rintro i x H1o H1 hi ⟨e1, s1, g1⟩ ⟨rfl, hx⟩
        refine ⟨rfl, ?_⟩
        refine ⟨_, rfl, _, rfl, z, x, 0, 8, rfl, hz, ho x (List.mem_of_getElem? hx), fun t => ?_, fun t d H' nd s' hd => ?_⟩
        · refine ⟨_, e1, small1000 (by rw [List.length_take]; omega), by rw [take_snoc hx]; exact upd_same, fun b o e => by rw [upd_ne (ne_of_none e hD)]; exact s1 _ _ e, fun y hy => ?_⟩
          rw [take_snoc hx] at hy
          rcases List.mem_append.mp hy with q | q
          · exact g1 y q
          · rw [List.mem_singleton.mp q]
            show (!numB x 0 8) = false
            rw [t]
            rfl
        · exact kE x (find_at hx g1 (by show (!numB x 0 8) = true; rw [t]; rfl)) d H' (s1.free nd) (s1.trans s') hd
      · rintro H1 ⟨e1, s1, g1⟩
        rw [List.take_length] at e1 g1
        refine ⟨D, _, rfl, .inl ⟨SqL.of e1, fun l hl => ?_⟩⟩
        exact kT (find_none g1) l _ (s1.free hl) upd_same (s1.trans (Same.new hl))
    · refine .inr ⟨hs, fun D hD => ?_⟩
      refine lc_it walk_tup (fun i H1 => H1 D = some (.lst (xs.take i)) ∧ Same H H1 ∧ ∀ y, y ∈ xs.take i → bad8 y = false) ⟨upd_same, Same.new hD, fun y hy => by cases hy⟩ (fun i H1 _ q => Same.seqT q.2.1 hs) ?_ ?_
      · rintro i x H1o H1 hi ⟨e1, s1, g1⟩ ⟨rfl, hx⟩
        refine ⟨rfl, ?_⟩
        refine ⟨_, rfl, _, rfl, z, x, 0, 8, rfl, hz, ho x (List.mem_of_getElem? hx), fun t => ?_, fun t d H' nd s' hd => ?_⟩
        · refine ⟨_, e1, small1000 (by rw [List.length_take]; omega), by rw [take_snoc hx]; exact upd_same, fun b o e => by rw [upd_ne (ne_of_none e hD)]; exact s1 _ _ e, fun y hy => ?_⟩
          rw [take_snoc hx] at hy
          rcases List.mem_append.mp hy with q | q
          · exact g1 y q
          · rw [List.mem_singleton.mp q]
            show (!numB x 0 8) = false
            rw [t]
            rfl
        · exact kE x (find_at hx g1 (by show (!numB x 0 8) = true; rw [t]; rfl)) d H' (s1.free nd) (s1.trans s') hd
      · rintro H1 ⟨e1, s1, g1⟩
        rw [List.take_length] at e1 g1
        refine ⟨D, _, rfl, .inl ⟨SqL.of e1, fun l hl => ?_⟩⟩
        exact kT (find_none g1) l _ (s1.free hl) upd_same (s1.trans (Same.new hl))
end
end Wb

namespace Wb
open PySem PySem.Spec PyProof.Rows L2 Wx NdefX RZ StX PyProof.Rows.FinIter
section
variable {P : Program} {w : World} {K : PySem.W.Frag} {mg : Str → Option Value} {base : Heap}

/-- all but p and dx is kept -/
def Fr2 (p dx : Addr) (H H' : Hp) : Prop := ∀ b o, b ≠ p → b ≠ dx → H b = some o → H' b = some o
theorem Fr2.same {p dx : Addr} {H H' : Hp} {o1 o2 : HO} (np : H p = none) (nd : H dx = none) (fr : Fr2 p dx (upd (upd H dx o1) p o2) H') : Same H H' := fun b o e => by
  have b1 := ne_of_none e np
  have b2 := ne_of_none e nd
  exact fr b o b1 b2 (by rw [upd_ne b1, upd_ne b2]; exact e)
/-- the first wrong part of a standing -/
def standRef (xs : List V) (t m : V) : Option (Str × V) :=
  if numB (.int xs.length) 1 4 = true then
    match xs.find? bad8 with
    | some x => some ("level", x)
    | none => if numB t 0 8 = true then if numB m 0 3 = true then none else some ("mood", m) else some ("tank", t)
  else some ("plots", .int xs.length)
def spStanding_init (K : PySem.W.Frag) (C CM : Addr) : Sp := fun vs H Q E => ∃ (p dx a : Addr) (xs : List V) (t m : V), vs = [.ref p, .ref a, t, m] ∧ H p = some (.ins C dx []) ∧ (SqL K H a xs ∨ SqT K H a xs) ∧ xs.length ≤ 1000 ∧ (∀ x, x ∈ xs → OddV x) ∧ OddV t ∧ OddV m ∧
  (standRef xs t m = none → ∀ (q : Addr) (H' : Hp), Fr2 p dx H H' → H q = none → H' q = some (.tup xs) → H' p = some (.ins C dx [("levels", .ref q), ("tank", t), ("mood", m)]) → Q .non H') ∧
  (∀ tag v, standRef xs t m = some (tag, v) → ∀ (d : Addr) (H' : Hp), H d = none → Fr2 p dx H H' → H' d = some (.xd [("value", v), ("what", .str tag)]) → E (.ref CM) (some d) H')
/-- a standing at p -/
def StandAt (C : Addr) (H : Hp) (p : Addr) (ls : List Int) (t m : Int) : Prop := ∃ dx q, H p = some (.ins C dx [("levels", .ref q), ("tank", .int t), ("mood", .int m)]) ∧ H q = some (.tup (ls.map V.int))
theorem StandAt.same {C : Addr} {H H' : Hp} {p : Addr} {ls : List Int} {t m : Int} (x : StandAt C H p ls t m) (s : Same H H') : StandAt C H' p ls t m := by
  obtain ⟨dx, q, e1, e2⟩ := x
  exact ⟨dx, q, s _ _ e1, s _ _ e2⟩
/-- the numbers of a standing are in their bounds -/
def VStand (ls : List Int) (t m : Int) : Prop := 1 ≤ ls.length ∧ ls.length ≤ 4 ∧ (∀ x, x ∈ ls → 0 ≤ x ∧ x ≤ 8) ∧ 0 ≤ t ∧ t ≤ 8 ∧ 0 ≤ m ∧ m ≤ 3
theorem find_ints {ls : List Int} (h : ∀ x, x ∈ ls → 0 ≤ x ∧ x ≤ 8) : (ls.map V.int).find? bad8 = none := find_none fun y hy => by
  obtain ⟨x, hx, rfl⟩ := List.mem_map.mp hy
  show (!decide (0 ≤ x ∧ x ≤ 8)) = false
  rw [decide_eq_true (h x hx)]
  rfl
theorem VStand.ref {ls : List Int} {t m : Int} (h : VStand ls t m) : standRef (ls.map V.int) (.int t) (.int m) = none := by
  obtain ⟨h1, h2, h3, h4, h5, h6, h7⟩ := h
  unfold standRef
  rw [if_pos (by show decide _ = true; rw [List.length_map]; exact decide_eq_true (by omega)), find_ints h3]
  show (if numB (.int t) 0 8 = true then _ else _) = none
  rw [if_pos (show numB (.int t) 0 8 = true from decide_eq_true ⟨h4, h5⟩), if_pos (show numB (.int m) 0 3 = true from decide_eq_true ⟨h6, h7⟩)]
theorem odd_ints {ls : List Int} : ∀ x, x ∈ ls.map V.int → OddV x := fun x hx => by
  obtain ⟨i, _, rfl⟩ := List.mem_map.mp hx
  exact .int i
theorem stand_make {K : PySem.W.Frag} {C CM : Addr} {H : Hp} {ls : List Int} {t m : Int} {a : Addr} {R : Hp → Prop} {E : XK} (hv : VStand ls t m) (hs : SqL K H a (ls.map V.int) ∨ SqT K H a (ls.map V.int))
    {x dx : Addr} (nx : H x = none) (nd : H dx = none) (k : ∀ H', Same H H' → StandAt C H' x ls t m → R H') : spStanding_init K C CM [.ref x, .ref a, .int t, .int m] (upd (upd H dx (.own x)) x (.ins C dx [])) (fun v H2 => v = .non ∧ R H2) E := by
  have sm : Same H (upd (upd H dx (.own x)) x (.ins C dx [])) := fun b o e => by rw [upd_ne (ne_of_none e nx), upd_ne (ne_of_none e nd)]; exact e
  refine ⟨x, dx, a, _, _, _, rfl, upd_same, hs.imp (Same.seq sm) (Same.seqT sm), by rw [List.length_map]; have := hv.2.1; omega, odd_ints, .int _, .int _, fun _ q H' fr nq eq ep => ⟨rfl, k H' (fr.same nx nd) ⟨dx, q, ep, eq⟩⟩, fun tag v e => ?_⟩
  rw [hv.ref] at e
  cases e
def eqS (l1 : List Int) (t1 m1 : Int) (l2 : List Int) (t2 m2 : Int) : Bool := decide (m1 = m2 ∧ l1 = l2 ∧ t1 = t2)
def spStanding_eq (C : Addr) : Sp := fun vs H Q _ => ∃ (p q : Addr) (l1 l2 : List Int) (t1 m1 t2 m2 : Int), vs = [.ref p, .ref q] ∧ StandAt C H p l1 t1 m1 ∧ StandAt C H q l2 t2 m2 ∧ Q (.bl (eqS l1 t1 m1 l2 t2 m2)) H
def leL : List Int → List Int → Bool
  | [], [] => true
  | a :: l, b :: m => decide (a ≤ b) && leL l m
  | _, _ => false
def leS (l1 : List Int) (t1 m1 : Int) (l2 : List Int) (t2 m2 : Int) : Bool := decide (m1 = m2) && decide (t1 ≤ t2) && leL l1 l2
def spStanding_le (C : Addr) : Sp := fun vs H Q _ => ∃ (p q : Addr) (l1 l2 : List Int) (t1 m1 t2 m2 : Int), vs = [.ref p, .ref q] ∧ StandAt C H p l1 t1 m1 ∧ StandAt C H q l2 t2 m2 ∧ l1.length ≤ 1000 ∧ ∀ H', Same H H' → Q (.bl (leS l1 t1 m1 l2 t2 m2)) H'
theorem leL_len : ∀ {l m : List Int}, l.length ≠ m.length → leL l m = false
  | [], [], h => absurd rfl h
  | [], _ :: _, _ => rfl
  | _ :: _, [], _ => rfl
  | a :: l, b :: m, h => by
    show (_ && leL l m) = false
    rw [leL_len (l := l) (m := m) (fun e => h (by simp [e])), Bool.and_false]
/-- the answers of the pairs, in order -/
def leBs : List Int → List Int → List Bool
  | a :: l, b :: m => decide (a ≤ b) :: leBs l m
  | _, _ => []
theorem leBs_all : ∀ {l m : List Int}, l.length = m.length → (leBs l m).all id = leL l m
  | [], [], _ => rfl
  | a :: l, b :: m, h => by
    show (decide (a ≤ b) && (leBs l m).all id) = (decide (a ≤ b) && leL l m)
    rw [leBs_all (l := l) (m := m) (by simpa using h)]
theorem leBs_len : ∀ {l m : List Int}, l.length = m.length → (leBs l m).length = l.length
  | [], [], _ => rfl
  | a :: l, b :: m, h => by
    show (leBs l m).length + 1 = l.length + 1
    rw [leBs_len (l := l) (m := m) (by simpa using h)]
theorem leBs_at : ∀ {l m : List Int} {i : Nat} {a b : Int}, l[i]? = some a → m[i]? = some b → (leBs l m)[i]? = some (decide (a ≤ b))
  | [], _, i, a, b, h, _ => by simp at h
  | _ :: _, [], i, a, b, _, h => by simp at h
  | x :: l, y :: m, 0, a, b, h1, h2 => by
    have e1 : x = a := Option.some.inj h1
    have e2 : y = b := Option.some.inj h2
    subst e1 e2
    rfl
  | x :: l, y :: m, i + 1, a, b, h1, h2 => leBs_at (l := l) (m := m) (i := i) h1 h2
theorem int_at {l : List Int} {i : Nat} {x : V} (h : (l.map V.int)[i]? = some x) : ∃ a, l[i]? = some a ∧ x = .int a := by
  rw [List.getElem?_map] at h
  cases q : l[i]? with
  | none => rw [q] at h; cases h
  | some a =>
    rw [q] at h
    exact ⟨a, rfl, (Option.some.inj h).symm⟩

theorem okStanding___init__ {f : Addr} {fd : FuncData} (F : Fun K "__init__" "Standing.__init__" sStanding___init__ f fd) (T : Txt K mg) {C_BadNumber C_Standing fi fe : Addr} (D_Standing : DatC K mg "Standing" C_Standing fi fe ["levels", "tank", "mood"]) (C_xcheck_number : ∃ (g : Addr) (gd : FuncData), FnOk P w K mg base (L2.CX P w) 4 g gd Pcheck_number (spcheck_number C_BadNumber) ∧ mg "check_number" = some (.ref g) ∧ PySem.W.keepIn K (.ref g) = true ∧ Binds K gd Pcheck_number []) (C_xcheck_units : ∃ (g : Addr) (gd : FuncData), FnOk P w K mg base (L2.CX P w) 5 g gd Pcheck_units (spcheck_units K C_BadNumber) ∧ mg "check_units" = some (.ref g) ∧ PySem.W.keepIn K (.ref g) = true ∧ Binds K gd Pcheck_units []) : FnOk P w K mg base (L2.CX P w) 6 f fd PStanding___init__ (spStanding_init K C_Standing C_BadNumber) := by
  obtain ⟨_, c_MOST_MOODS⟩ := T.c_MOST_MOODS
  obtain ⟨_, c_MOST_PLOTS⟩ := T.c_MOST_PLOTS
  obtain ⟨_, c_MOST_UNITS⟩ := T.c_MOST_UNITS
  obtain ⟨gcheck_number, gdcheck_number, Gcheck_number, mcheck_number, kcheck_number, bcheck_number⟩ := C_xcheck_number
  obtain ⟨gcheck_units, gdcheck_units, Gcheck_units, mcheck_units, kcheck_units, bcheck_units⟩ := C_xcheck_units
  refine F.okX scStanding___init__ (fun vs H Q E h => ?_) (fun cdv A outer s H vs Q E hr h => ?_)
  · obtain ⟨p, dx, a, xs, t, m, rfl, hp, hs, hl, ho, ht, hm, kOk, kE⟩ := h
    rfl
  · obtain ⟨p, dx, a, xs, t, m, rfl, hp, hs, hl, ho, ht, hm, kOk, kE⟩ := h
    refine ⟨_, (pss_cons (ps_expr (pe_callS Gcheck_number (hr.mono (by decide)) (by rfl) mcheck_number kcheck_number bcheck_number (fun σ => passAt (takes_of rfl rfl rfl rfl) σ) (pa_cons pe_str (pa_cons (pe_callB call_len_seq (by rfl) T.b_len PySem.boot_len (pa_cons (pv 1) pa_nil)) (pa_cons pe_int (pa_cons (pe_glob (v := .int 4) rfl c_MOST_PLOTS ⟨_, rfl⟩) pa_nil))))))
  (pss_cons (ps_fld (pv 0) (pe_callS Gcheck_units (hr.mono (by decide)) (by rfl) mcheck_units kcheck_units bcheck_units (fun σ => passAt (takes_of rfl rfl rfl rfl) σ) (pa_cons pe_str (pa_cons (pv 1) pa_nil))) rfl)
  (pss_cons (ps_fld (pv 0) (pe_callS Gcheck_number (hr.mono (by decide)) (by rfl) mcheck_number kcheck_number bcheck_number (fun σ => passAt (takes_of rfl rfl rfl rfl) σ) (pa_cons pe_str (pa_cons (pv 2) (pa_cons pe_int (pa_cons (pe_glob (v := .int 8) rfl c_MOST_UNITS ⟨_, rfl⟩) pa_nil))))) rfl)
  (pss_one (ps_fld (pv 0) (pe_callS Gcheck_number (hr.mono (by decide)) (by rfl) mcheck_number kcheck_number bcheck_number (fun σ => passAt (takes_of rfl rfl rfl rfl) σ) (pa_cons pe_str (pa_cons (pv 3) (pa_cons pe_int (pa_cons (pe_op op_sub (pe_glob (v := .int 4) rfl c_MOST_MOODS ⟨_, rfl⟩) pe_int) pa_nil))))) rfl))))), ?_⟩
    have frs : ∀ {H1 : Hp}, Same H H1 → Fr2 p dx H H1 := fun s1 b o _ _ e => s1 b o e
    refine ⟨_, rfl, a, _, rfl, hs, "plots", .int xs.length, 1, 4, rfl, (by decide +kernel), .int _, fun t0 => ?_, fun t0 d H1 nd s1 hd => ?_⟩
    case refine_2 =>
      exact kE "plots" _ (by unfold standRef; rw [if_neg (by rw [t0]; exact Bool.false_ne_true)]) d H1 nd (frs s1) hd
    refine ⟨_, rfl, "level", a, xs, rfl, (by decide +kernel), hs, hl, ho, fun t1 q H1 nq eq s1 => ?_, fun x t1 d H1 nd s1 hd => ?_⟩
    case refine_2 =>
      exact kE "level" x (by unfold standRef; rw [if_pos t0, t1]) d H1 nd (frs s1) hd
    refine ⟨_, rfl, p, C_Standing, dx, [], rfl, s1 _ _ hp, D_Standing.cls, D_Standing.no "levels" (by decide), (by decide), ?_⟩
    have free : ∀ {o : HO} {d : Addr}, upd H1 p o d = none → H d = none := fun {o d} e => by
      have ne : d ≠ p := fun q => by rw [q, upd_same] at e; cases e
      rw [upd_ne ne] at e
      exact s1.free e
    have fr1 : ∀ {o : HO} {H2 : Hp}, Same (upd H1 p o) H2 → Fr2 p dx H H2 := fun s2 b o nb _ e => s2 b o (by rw [upd_ne nb]; exact s1 b o e)
    refine ⟨_, rfl, "tank", t, 0, 8, rfl, (by decide +kernel), ht, fun t2 => ?_, fun t2 d H2 nd s2 hd => ?_⟩
    case refine_2 =>
      exact kE "tank" t (by unfold standRef; rw [if_pos t0, t1]; show (if numB t 0 8 = true then _ else _) = _; rw [if_neg (by rw [t2]; exact Bool.false_ne_true)]) d H2 (free nd) (fr1 s2) hd
    refine ⟨_, rfl, p, C_Standing, dx, _, rfl, upd_same, D_Standing.cls, D_Standing.no "tank" (by decide), (by show 1 < 1000; decide), ?_⟩
    rw [upd_upd]
    refine ⟨_, rfl, _, _, rfl, rfl, "mood", m, 0, 3, rfl, (by decide +kernel), hm, fun t3 => ?_, fun t3 d H2 nd s2 hd => ?_⟩
    case refine_2 =>
      exact kE "mood" m (by unfold standRef; rw [if_pos t0, t1]; show (if numB t 0 8 = true then _ else _) = _; rw [if_pos t2, if_neg (by rw [t3]; exact Bool.false_ne_true)]) d H2 (free nd) (fr1 s2) hd
    refine ⟨_, rfl, p, C_Standing, dx, _, rfl, upd_same, D_Standing.cls, D_Standing.no "mood" (by decide), (by show 2 < 1000; decide), ?_⟩
    rw [upd_upd]
    have npq : q ≠ p := fun y => by rw [y, hp] at nq; cases nq
    refine kOk (by unfold standRef; rw [if_pos t0, t1]; show (if numB t 0 8 = true then _ else _) = _; rw [if_pos t2, if_pos t3]) q _ (fun b o nb _ e => by rw [upd_ne nb]; exact s1 b o e) nq (by rw [upd_ne npq]; exact eq) upd_same

theorem okStanding___eq__ {f : Addr} {fd : FuncData} (F : Fun K "__eq__" "Standing.__eq__" sStanding___eq__ f fd) (T : Txt K mg) {C_BadNumber C_Standing fi fe : Addr} (D_Standing : DatC K mg "Standing" C_Standing fi fe ["levels", "tank", "mood"]) : FnOk P w K mg base CX0 1 f fd PStanding___eq__ (spStanding_eq C_Standing) := by
  refine F.ok scStanding___eq__ (fun vs H Q E h => ?_) (fun cdv A outer s H vs Q E hr h => ?_)
  · obtain ⟨p, q, l1, l2, t1, m1, t2, m2, rfl, hp, hq, k⟩ := h
    rfl
  · obtain ⟨p, q, l1, l2, t1, m1, t2, m2, rfl, hp, hq, k⟩ := h
    refine ⟨_, (pss_one (ps_ret (pe_and (pe_callB (id := "isinstance") call_isi (by rfl) T.b_isinstance (by decide +kernel) (pa_cons (pv 1) (pa_cons (pe_glob (v := .ref C_Standing) rfl D_Standing.g rfl) pa_nil))) (pe_and (pe_cmpR op_eq (pe_fld (pv 0) rfl) (pe_fld (pv 1) rfl) (nomark _)) (pe_and (pe_cmpR (op_eqD hr.units) (pe_fld (pv 0) rfl) (pe_fld (pv 1) rfl) (nomark _)) (pe_one (pe_cmpR op_eq (pe_fld (pv 0) rfl) (pe_fld (pv 1) rfl) (nomark _)))))))), ?_⟩
    obtain ⟨dx, qx, e1, f1⟩ := hp
    obtain ⟨dy, qy, e2, f2⟩ := hq
    refine ⟨_, rfl, _, _, _, _, true, rfl, .own _, .base (.ins e2 D_Standing.cls D_Standing.ha D_Standing.hn D_Standing.htk D_Standing.hm), D_Standing.kit, true, rfl, iteT ?_⟩
    have no := fun f (h : f ∈ (["levels", "tank", "mood"] : List Str)) => D_Standing.no f h
    refine ⟨_, rfl, p, C_Standing, dx, _, _, rfl, e1, D_Standing.cls, no _ (by decide), rfl, _, rfl, q, C_Standing, dy, _, _, rfl, e2, D_Standing.cls, no _ (by decide), rfl, rfl, _, rfl, ?_⟩
    refine ite2 (fun c1 => ?_) (fun c1 => ?_)
    · have c1 : m1 = m2 := by injection of_decide_eq_true c1
      refine ⟨_, rfl, p, C_Standing, dx, _, _, rfl, e1, D_Standing.cls, no _ (by decide), rfl, _, rfl, q, C_Standing, dy, _, _, rfl, e2, D_Standing.cls, no _ (by decide), rfl, _, _, dp_intsT (SqT.of f1), dp_intsT (SqT.of f2), shaped_intsT _, shaped_intsT _, _, rfl, ?_⟩
      rw [eqv_intsT]
      refine ite2 (fun c2 => ?_) (fun c2 => ?_)
      · have c2 : l1 = l2 := of_decide_eq_true c2
        refine ⟨_, rfl, p, C_Standing, dx, _, _, rfl, e1, D_Standing.cls, no _ (by decide), rfl, _, rfl, q, C_Standing, dy, _, _, rfl, e2, D_Standing.cls, no _ (by decide), rfl, rfl, ?_⟩
        have e : decide (V.int t1 = V.int t2) = eqS l1 t1 m1 l2 t2 m2 := by
          unfold eqS
          simp [c1, c2]
        show Q (.bl (decide (V.int t1 = V.int t2))) H
        rw [e]
        exact k
      · have e : eqS l1 t1 m1 l2 t2 m2 = false := by
          have c2 : ¬ l1 = l2 := fun q => c2 (decide_eq_true q)
          unfold eqS
          rw [decide_eq_false (fun q => c2 q.2.1)]
        rw [e] at k
        exact k
    · have c1 : ¬ m1 = m2 := fun q => c1 (decide_eq_true (by rw [q]))
      have e : eqS l1 t1 m1 l2 t2 m2 = false := decide_eq_false (fun q => c1 q.1)
      rw [e] at k
      exact k
end
end Wb

set_option pp.maxSteps 500
set_option pp.deepTerms false
namespace Wb
open PySem PySem.Spec PyProof.Rows L2 Wx NdefX RZ StX PyProof.Rows.FinIter
section
variable {P : Program} {w : World} {K : PySem.W.Frag} {mg : Str → Option Value} {base : Heap}

def fldsOf : Nat → List Str
  | 0 => ["name"]
  | 1 => ["what", "value"]
  | 2 => ["turn"]
  | 3 => ["standing"]
  | 4 => ["limit"]
  | 5 => ["plot", "day"]
  | 6 => ["standing"]
  | 7 => ["row", "reason"]
  | 9 => ["day"]
  | 10 => ["line"]
  | 12 => ["place"]
  | _ => []
/-- what is known of the class of kind k -/
structure KdF (K : PySem.W.Frag) (CW : Addr) (Cs : List Addr) (k : Nat) (C : Addr) : Prop where
  kits : ∀ (j : Nat) (D : Addr), Cs[j]? = some D → PySem.W.kitOne K (.ref C) (.ref D) = some (decide (j = k))
  kw : PySem.W.kitOne K (.ref C) (.ref CW) = some true
  kv : PySem.W.kitOne K (.ref C) (.type "ValueError") = some true
  isx : ExcC K C
  xf : XfC K C
  no : ∀ f, f ∈ fldsOf k → PySem.W.findIn K (.ref C) f = some none
  xm : PySem.W.exmOne K (.ref C) (.ref CW) = some true
/-- what a thrown error of kind k holds -/
inductive Thr (z0 z2 : Str) (n : Int) (p : Addr) : Nat → Option Addr → Hp → Prop
  | n0 {d : Addr} {H : Hp} : H d = some (.xd [("name", .str z0)]) → Thr z0 z2 n p 0 (some d) H
  | n1 {d : Addr} {H : Hp} : H d = some (.xd [("value", .int n), ("what", .str z0)]) → Thr z0 z2 n p 1 (some d) H
  | n2 {d t : Addr} {H : Hp} : H d = some (.xd [("turn", .ref t)]) → H t = some (.tup [.str z0, .str z2]) → Thr z0 z2 n p 2 (some d) H
  | n3 {d : Addr} {H : Hp} : H d = some (.xd [("standing", .ref p)]) → Thr z0 z2 n p 3 (some d) H
  | n4 {d : Addr} {H : Hp} : H d = some (.xd [("limit", .int n)]) → Thr z0 z2 n p 4 (some d) H
  | n5 {d : Addr} {H : Hp} : H d = some (.xd [("day", .int n), ("plot", .str z0)]) → Thr z0 z2 n p 5 (some d) H
  | n6 {d : Addr} {H : Hp} : H d = some (.xd [("standing", .ref p)]) → Thr z0 z2 n p 6 (some d) H
  | n7 {d : Addr} {H : Hp} : H d = some (.xd [("reason", .str z2), ("row", .int n)]) → Thr z0 z2 n p 7 (some d) H
  | n9 {d : Addr} {H : Hp} : H d = some (.xd [("day", .int n)]) → Thr z0 z2 n p 9 (some d) H
  | n10 {d : Addr} {H : Hp} : H d = some (.xd [("line", .int n)]) → Thr z0 z2 n p 10 (some d) H
  | n12 {d : Addr} {H : Hp} : H d = some (.xd [("place", .int n)]) → Thr z0 z2 n p 12 (some d) H
  | n8 {H : Hp} : Thr z0 z2 n p 8 none H
  | n11 {H : Hp} : Thr z0 z2 n p 11 none H
theorem Thr.same {z0 z2 : Str} {n : Int} {p : Addr} {k : Nat} {d : Option Addr} {H H' : Hp} (h : Thr z0 z2 n p k d H) (s : Same H H') : Thr z0 z2 n p k d H' := by
  cases h
  · rename_i a1
    exact .n0 (s _ _ a1)
  · rename_i a1
    exact .n1 (s _ _ a1)
  · rename_i a1 a2
    exact .n2 (s _ _ a1) (s _ _ a2)
  · rename_i a1
    exact .n3 (s _ _ a1)
  · rename_i a1
    exact .n4 (s _ _ a1)
  · rename_i a1
    exact .n5 (s _ _ a1)
  · rename_i a1
    exact .n6 (s _ _ a1)
  · rename_i a1
    exact .n7 (s _ _ a1)
  · rename_i a1
    exact .n9 (s _ _ a1)
  · rename_i a1
    exact .n10 (s _ _ a1)
  · rename_i a1
    exact .n12 (s _ _ a1)
  · exact .n8
  · exact .n11
theorem Thr.dict {z0 z2 : Str} {n : Int} {p : Addr} {k : Nat} {d : Option Addr} {H : Hp} (h : Thr z0 z2 n p k d H) : ∀ dd, d = some dd → ∃ fs, H dd = some (.xd fs) := by
  intro dd e
  cases h
  · rename_i a1
    cases e
    exact ⟨_, a1⟩
  · rename_i a1
    cases e
    exact ⟨_, a1⟩
  · rename_i a1 a2
    cases e
    exact ⟨_, a1⟩
  · rename_i a1
    cases e
    exact ⟨_, a1⟩
  · rename_i a1
    cases e
    exact ⟨_, a1⟩
  · rename_i a1
    cases e
    exact ⟨_, a1⟩
  · rename_i a1
    cases e
    exact ⟨_, a1⟩
  · rename_i a1
    cases e
    exact ⟨_, a1⟩
  · rename_i a1
    cases e
    exact ⟨_, a1⟩
  · rename_i a1
    cases e
    exact ⟨_, a1⟩
  · rename_i a1
    cases e
    exact ⟨_, a1⟩
  · cases e
  · cases e
theorem look_1 {f : Str} {v : V} : ([(f, v)] : List (Str × V)).lookup f = some v := by rw [lookup_put, if_pos rfl]
theorem look_a {f g : Str} {v w : V} : ([(f, v), (g, w)] : List (Str × V)).lookup f = some v := by rw [lookup_put, if_pos rfl]
theorem look_b {f g : Str} {v w : V} (h : g ≠ f) : ([(f, v), (g, w)] : List (Str × V)).lookup g = some w := by rw [lookup_put, if_neg (by first | exact h | exact Ne.symm h), lookup_put, if_pos rfl]
def kindsL (k : Nat) : List V := (List.range 13).map fun j => V.bl (decide (j = k))
theorem TxtOk.show {z : Str} (h : TxtOk 1000 z) : ShowOk (.str z) := .inl ⟨z, rfl, h.repr (Nat.le_refl _)⟩
def sp_law_throw (Cs : List Addr) : Sp := fun vs H Q E => ∃ (k : Nat) (q : Addr) (z0 z2 : Str) (n : Int) (p : Addr), vs = [.int k, .ref q] ∧ k ≤ 12 ∧ H q = some (.tup [.str z0, .int n, .str z2, .ref p]) ∧ TxtOk 1000 z0 ∧ TxtOk 1000 z2 ∧
  ∀ (C : Addr) (d : Option Addr) (H' : Hp), Cs[k]? = some C → Same H H' → Thr z0 z2 n p k d H' → E (.ref C) d H'
def sp_law_caught (Cs : List Addr) : Sp := fun vs H Q _ => ∃ (k : Nat) (q : Addr) (z0 z2 : Str) (n : Int) (p : Addr), vs = [.int k, .ref q] ∧ k ≤ 12 ∧ H q = some (.tup [.str z0, .int n, .str z2, .ref p]) ∧ TxtOk 1000 z0 ∧ TxtOk 1000 z2 ∧
  ∀ (C a : Addr) (d : Option Addr) (H' : Hp), Cs[k]? = some C → Same H H' → H' a = some (exv (.ref C) d a) → Thr z0 z2 n p k d H' → Q (.ref a) H'
def sp_law_kinds (K : PySem.W.Frag) (CW : Addr) (Cs : List Addr) : Sp := fun vs H Q _ => ∃ (a C : Addr) (k : Nat) (d : Option Addr), vs = [.ref a] ∧ KdF K CW Cs k C ∧ H a = some (exv (.ref C) d a) ∧ (∀ dd, d = some dd → ∃ fs, H dd = some (.xd fs)) ∧
  ∀ (l : Addr) (H' : Hp), Same H H' → H' l = some (.lst (kindsL k)) → Q (.ref l) H'
def sp_law_holds (K : PySem.W.Frag) (CW CS : Addr) (Cs : List Addr) : Sp := fun vs H Q _ => ∃ (a C : Addr) (k : Nat) (d : Option Addr) (q : Addr) (z0 z2 : Str) (n : Int) (p : Addr) (ls : List Int) (t m : Int), vs = [.ref a, .int k, .ref q] ∧ k ≤ 12 ∧ TxtOk 1000 z0 ∧ TxtOk 1000 z2 ∧ KdF K CW Cs k C ∧ H a = some (exv (.ref C) d a) ∧
  Thr z0 z2 n p k d H ∧ H q = some (.tup [.str z0, .int n, .str z2, .ref p]) ∧ StandAt CS H p ls t m ∧ ∀ H', Same H H' → Q (.bl true) H'
def sp_law_values (K : PySem.W.Frag) (CS : Addr) : Sp := fun vs H Q _ => ∃ (a s : Addr), vs = [.ref a, .ref s] ∧ Scr K H a s ∧
  ∀ (q : Addr) (z0 z2 : Str) (n : Int) (p : Addr) (ls : List Int) (t m : Int) (H' : Hp), Frm [s] H H' → Scr K H' a s → TxtOk 1000 z0 → TxtOk 1000 z2 → (hid [s] H') q = some (.tup [.str z0, .int n, .str z2, .ref p]) → StandAt CS (hid [s] H') p ls t m → Q (.ref q) H'
theorem pair_shaped {x y : Str} (hx : PyData.strOk x = true) (hy : PyData.strOk y = true) : SeqAt.shaped (.tuple [.str x, .str y]) = true := by
  show (PyData.canLay0 _ && decide (_ ≤ 64)) = true
  simp [PyData.canLay0, PyData.canLayAll0, PyData.depth, PyData.depthAll, hx, hy]
theorem pair_self (x y : Str) : PyData.eqv (.tuple [.str x, .str y]) (.tuple [.str x, .str y]) = true := by simp [PyData.eqv, PyData.eqvAll]
theorem filt13 : ∀ k : Nat, k ≤ 12 → (List.range 13).filter (fun j => decide (j = k)) = [k] := by decide

theorem ok_law_throw {f : Addr} {fd : FuncData} (F : Fun K "_law_throw" "_law_throw" s_law_throw f fd) (T : Txt K mg) {C_Unlike C_NothingToUndo : Addr} (U_Unlike : PySem.W.excIn K C_Unlike [.type "ValueError", .type "Exception", .type "BaseException", .type "object"] "ValueError.__new__" = true ∧ mg "Unlike" = some (.ref C_Unlike) ∧ PySem.W.keepIn K (.ref C_Unlike) = true ∧ PySem.W.subIn K (.ref C_Unlike) (.type "BaseException") = some true ∧ PySem.W.typeIn K (.ref C_Unlike) = some (.type "type")) (U_NothingToUndo : PySem.W.excIn K C_NothingToUndo [.type "ValueError", .type "Exception", .type "BaseException", .type "object"] "ValueError.__new__" = true ∧ mg "NothingToUndo" = some (.ref C_NothingToUndo) ∧ PySem.W.keepIn K (.ref C_NothingToUndo) = true ∧ PySem.W.subIn K (.ref C_NothingToUndo) (.type "BaseException") = some true ∧ PySem.W.typeIn K (.ref C_NothingToUndo) = some (.type "type")) {C_BadName f_BadName cda_BadName cc_BadName : Addr} {fd_BadName : FuncData} (E_BadName : ErrC P K mg "BadName" "BadName.__init__" C_BadName f_BadName cda_BadName cc_BadName) (G_BadName : FnOk P w K mg base CX0 2 f_BadName fd_BadName PBadName___init__ (spBadName C_BadName)) (b_BadName : Binds K fd_BadName PBadName___init__ []) {C_BadNumber f_BadNumber cda_BadNumber cc_BadNumber : Addr} {fd_BadNumber : FuncData} (E_BadNumber : ErrC P K mg "BadNumber" "BadNumber.__init__" C_BadNumber f_BadNumber cda_BadNumber cc_BadNumber) (G_BadNumber : FnOk P w K mg base CX0 2 f_BadNumber fd_BadNumber PBadNumber___init__ (spBadNumber C_BadNumber)) (b_BadNumber : Binds K fd_BadNumber PBadNumber___init__ []) {C_BadTurn f_BadTurn cda_BadTurn cc_BadTurn : Addr} {fd_BadTurn : FuncData} (E_BadTurn : ErrC P K mg "BadTurn" "BadTurn.__init__" C_BadTurn f_BadTurn cda_BadTurn cc_BadTurn) (G_BadTurn : FnOk P w K mg base CX0 2 f_BadTurn fd_BadTurn PBadTurn___init__ (spBadTurn C_BadTurn)) (b_BadTurn : Binds K fd_BadTurn PBadTurn___init__ []) {C_BadStanding f_BadStanding cda_BadStanding cc_BadStanding : Addr} {fd_BadStanding : FuncData} (E_BadStanding : ErrC P K mg "BadStanding" "BadStanding.__init__" C_BadStanding f_BadStanding cda_BadStanding cc_BadStanding) (G_BadStanding : FnOk P w K mg base CX0 2 f_BadStanding fd_BadStanding PBadStanding___init__ (spBadStanding C_BadStanding)) (b_BadStanding : Binds K fd_BadStanding PBadStanding___init__ []) {C_TooMany f_TooMany cda_TooMany cc_TooMany : Addr} {fd_TooMany : FuncData} (E_TooMany : ErrC P K mg "TooMany" "TooMany.__init__" C_TooMany f_TooMany cda_TooMany cc_TooMany) (G_TooMany : FnOk P w K mg base CX0 2 f_TooMany fd_TooMany PTooMany___init__ (spTooMany C_TooMany)) (b_TooMany : Binds K fd_TooMany PTooMany___init__ []) {C_DriedOut f_DriedOut cda_DriedOut cc_DriedOut : Addr} {fd_DriedOut : FuncData} (E_DriedOut : ErrC P K mg "DriedOut" "DriedOut.__init__" C_DriedOut f_DriedOut cda_DriedOut cc_DriedOut) (G_DriedOut : FnOk P w K mg base CX0 2 f_DriedOut fd_DriedOut PDriedOut___init__ (spDriedOut C_DriedOut)) (b_DriedOut : Binds K fd_DriedOut PDriedOut___init__ []) {C_NotSafe f_NotSafe cda_NotSafe cc_NotSafe : Addr} {fd_NotSafe : FuncData} (E_NotSafe : ErrC P K mg "NotSafe" "NotSafe.__init__" C_NotSafe f_NotSafe cda_NotSafe cc_NotSafe) (G_NotSafe : FnOk P w K mg base CX0 2 f_NotSafe fd_NotSafe PNotSafe___init__ (spNotSafe C_NotSafe)) (b_NotSafe : Binds K fd_NotSafe PNotSafe___init__ []) {C_BadPaper f_BadPaper cda_BadPaper cc_BadPaper : Addr} {fd_BadPaper : FuncData} (E_BadPaper : ErrC P K mg "BadPaper" "BadPaper.__init__" C_BadPaper f_BadPaper cda_BadPaper cc_BadPaper) (G_BadPaper : FnOk P w K mg base CX0 2 f_BadPaper fd_BadPaper PBadPaper___init__ (spBadPaper C_BadPaper)) (b_BadPaper : Binds K fd_BadPaper PBadPaper___init__ []) {C_NothingFits f_NothingFits cda_NothingFits cc_NothingFits : Addr} {fd_NothingFits : FuncData} (E_NothingFits : ErrC P K mg "NothingFits" "NothingFits.__init__" C_NothingFits f_NothingFits cda_NothingFits cc_NothingFits) (G_NothingFits : FnOk P w K mg base CX0 2 f_NothingFits fd_NothingFits PNothingFits___init__ (spNothingFits C_NothingFits)) (b_NothingFits : Binds K fd_NothingFits PNothingFits___init__ []) {C_BadText f_BadText cda_BadText cc_BadText : Addr} {fd_BadText : FuncData} (E_BadText : ErrC P K mg "BadText" "BadText.__init__" C_BadText f_BadText cda_BadText cc_BadText) (G_BadText : FnOk P w K mg base CX0 2 f_BadText fd_BadText PBadText___init__ (spBadText C_BadText)) (b_BadText : Binds K fd_BadText PBadText___init__ []) {C_BadDeed f_BadDeed cda_BadDeed cc_BadDeed : Addr} {fd_BadDeed : FuncData} (E_BadDeed : ErrC P K mg "BadDeed" "BadDeed.__init__" C_BadDeed f_BadDeed cda_BadDeed cc_BadDeed) (G_BadDeed : FnOk P w K mg base CX0 2 f_BadDeed fd_BadDeed PBadDeed___init__ (spBadDeed C_BadDeed)) (b_BadDeed : Binds K fd_BadDeed PBadDeed___init__ []) : FnOk P w K mg base (L2.CX P w) 4 f fd P_law_throw (sp_law_throw [C_BadName, C_BadNumber, C_BadTurn, C_BadStanding, C_TooMany, C_DriedOut, C_NotSafe, C_BadPaper, C_Unlike, C_NothingFits, C_BadText, C_NothingToUndo, C_BadDeed]) := by
  refine F.okX sc_law_throw (fun vs H Q E h => ?_) (fun cdv A outer s H vs Q E hr h => ?_)
  · obtain ⟨k, q, z0, z2, n, p, rfl, hk, hq, h0, h2, kE⟩ := h
    rfl
  · obtain ⟨k, q, z0, z2, n, p, rfl, hk, hq, h0, h2, kE⟩ := h
    refine ⟨_, (pss_cons (ps_if (pt_cmpR op_eq (pv 0) pe_int (nomark _))
  (pss_one (ps_raise rfl (takes_of rfl rfl rfl rfl) (pmk_oex E_BadName.sup.oex E_BadName.ini E_BadName.tyI G_BadName (hr.mono (by decide)) b_BadName .nil pass0 (by rfl) E_BadName.g (pa_cons (pe_ix ix_tup (pv 1) pe_int (fun _ _ => rfl)) pa_nil))))
  pss_nil)
  (pss_cons (ps_if (pt_cmpR op_eq (pv 0) pe_int (nomark _))
  (pss_one (ps_raise rfl (takes_of rfl rfl rfl rfl) (pmk_oex E_BadNumber.sup.oex E_BadNumber.ini E_BadNumber.tyI G_BadNumber (hr.mono (by decide)) b_BadNumber .nil pass0 (by rfl) E_BadNumber.g (pa_cons (pe_ix ix_tup (pv 1) pe_int (fun _ _ => rfl)) (pa_cons (pe_ix ix_tup (pv 1) pe_int (fun _ _ => rfl)) pa_nil)))))
  pss_nil)
  (pss_cons (ps_if (pt_cmpR op_eq (pv 0) pe_int (nomark _))
  (pss_one (ps_raise rfl (takes_of rfl rfl rfl rfl) (pmk_oex E_BadTurn.sup.oex E_BadTurn.ini E_BadTurn.tyI G_BadTurn (hr.mono (by decide)) b_BadTurn .nil pass0 (by rfl) E_BadTurn.g (pa_cons (pe_tup (pa_cons (pe_ix ix_tup (pv 1) pe_int (fun _ _ => rfl)) (pa_cons (pe_ix ix_tup (pv 1) pe_int (fun _ _ => rfl)) pa_nil))) pa_nil))))
  pss_nil)
  (pss_cons (ps_if (pt_cmpR op_eq (pv 0) pe_int (nomark _))
  (pss_one (ps_raise rfl (takes_of rfl rfl rfl rfl) (pmk_oex E_BadStanding.sup.oex E_BadStanding.ini E_BadStanding.tyI G_BadStanding (hr.mono (by decide)) b_BadStanding .nil pass0 (by rfl) E_BadStanding.g (pa_cons (pe_ix ix_tup (pv 1) pe_int (fun _ _ => rfl)) pa_nil))))
  pss_nil)
  (pss_cons (ps_if (pt_cmpR op_eq (pv 0) pe_int (nomark _))
  (pss_one (ps_raise rfl (takes_of rfl rfl rfl rfl) (pmk_oex E_TooMany.sup.oex E_TooMany.ini E_TooMany.tyI G_TooMany (hr.mono (by decide)) b_TooMany .nil pass0 (by rfl) E_TooMany.g (pa_cons (pe_ix ix_tup (pv 1) pe_int (fun _ _ => rfl)) pa_nil))))
  pss_nil)
  (pss_cons (ps_if (pt_cmpR op_eq (pv 0) pe_int (nomark _))
  (pss_one (ps_raise rfl (takes_of rfl rfl rfl rfl) (pmk_oex E_DriedOut.sup.oex E_DriedOut.ini E_DriedOut.tyI G_DriedOut (hr.mono (by decide)) b_DriedOut .nil pass0 (by rfl) E_DriedOut.g (pa_cons (pe_ix ix_tup (pv 1) pe_int (fun _ _ => rfl)) (pa_cons (pe_ix ix_tup (pv 1) pe_int (fun _ _ => rfl)) pa_nil)))))
  pss_nil)
  (pss_cons (ps_if (pt_cmpR op_eq (pv 0) pe_int (nomark _))
  (pss_one (ps_raise rfl (takes_of rfl rfl rfl rfl) (pmk_oex E_NotSafe.sup.oex E_NotSafe.ini E_NotSafe.tyI G_NotSafe (hr.mono (by decide)) b_NotSafe .nil pass0 (by rfl) E_NotSafe.g (pa_cons (pe_ix ix_tup (pv 1) pe_int (fun _ _ => rfl)) pa_nil))))
  pss_nil)
  (pss_cons (ps_if (pt_cmpR op_eq (pv 0) pe_int (nomark _))
  (pss_one (ps_raise rfl (takes_of rfl rfl rfl rfl) (pmk_oex E_BadPaper.sup.oex E_BadPaper.ini E_BadPaper.tyI G_BadPaper (hr.mono (by decide)) b_BadPaper .nil pass0 (by rfl) E_BadPaper.g (pa_cons (pe_ix ix_tup (pv 1) pe_int (fun _ _ => rfl)) (pa_cons (pe_ix ix_tup (pv 1) pe_int (fun _ _ => rfl)) pa_nil)))))
  pss_nil)
  (pss_cons (ps_if (pt_cmpR op_eq (pv 0) pe_int (nomark _))
  (pss_one (ps_raise rfl (takes_of rfl rfl rfl rfl) (pmk_own0 PySem.F.excBase_ValueError U_Unlike.1 U_Unlike.2.1 U_Unlike.2.2.1 (raises_own U_Unlike.2.2.2.1 U_Unlike.2.2.2.2) rfl)))
  pss_nil)
  (pss_cons (ps_if (pt_cmpR op_eq (pv 0) pe_int (nomark _))
  (pss_one (ps_raise rfl (takes_of rfl rfl rfl rfl) (pmk_oex E_NothingFits.sup.oex E_NothingFits.ini E_NothingFits.tyI G_NothingFits (hr.mono (by decide)) b_NothingFits .nil pass0 (by rfl) E_NothingFits.g (pa_cons (pe_ix ix_tup (pv 1) pe_int (fun _ _ => rfl)) pa_nil))))
  pss_nil)
  (pss_cons (ps_if (pt_cmpR op_eq (pv 0) pe_int (nomark _))
  (pss_one (ps_raise rfl (takes_of rfl rfl rfl rfl) (pmk_oex E_BadText.sup.oex E_BadText.ini E_BadText.tyI G_BadText (hr.mono (by decide)) b_BadText .nil pass0 (by rfl) E_BadText.g (pa_cons (pe_ix ix_tup (pv 1) pe_int (fun _ _ => rfl)) pa_nil))))
  pss_nil)
  (pss_cons (ps_if (pt_cmpR op_eq (pv 0) pe_int (nomark _))
  (pss_one (ps_raise rfl (takes_of rfl rfl rfl rfl) (pmk_own0 PySem.F.excBase_ValueError U_NothingToUndo.1 U_NothingToUndo.2.1 U_NothingToUndo.2.2.1 (raises_own U_NothingToUndo.2.2.2.1 U_NothingToUndo.2.2.2.2) rfl)))
  pss_nil)
  (pss_one (ps_raise rfl (takes_of rfl rfl rfl rfl) (pmk_oex E_BadDeed.sup.oex E_BadDeed.ini E_BadDeed.tyI G_BadDeed (hr.mono (by decide)) b_BadDeed .nil pass0 (by rfl) E_BadDeed.g (pa_cons (pe_ix ix_tup (pv 1) pe_int (fun _ _ => rfl)) pa_nil)))))))))))))))), ?_⟩
    refine ⟨_, rfl, rfl, _, rfl, ?_⟩
    refine ite2 (fun c => ?_) (fun c0 => ?_)
    · have c := of_decide_eq_true c
      obtain rfl : k = 0 := by injection c with c; omega
      refine ⟨_, rfl, q, _, _, _, rfl, rfl, SqT.of hq, rfl, (by show 1 ≤ 1000; decide), fun a na => ⟨a, .str z0, rfl, upd_same, h0.show, made_of na fun d H' nd s' hd => ?_⟩⟩
      exact kE _ _ _ rfl s' (.n0 hd)
    have c0 : k ≠ 0 := fun e => c0 (by rw [e]; rfl)
    refine ⟨_, rfl, rfl, _, rfl, ?_⟩
    refine ite2 (fun c => ?_) (fun c1 => ?_)
    · have c := of_decide_eq_true c
      obtain rfl : k = 1 := by injection c with c; omega
      refine ⟨_, rfl, q, _, _, _, rfl, rfl, SqT.of hq, rfl, _, rfl, q, _, _, _, rfl, rfl, SqT.of hq, rfl, (by show 2 ≤ 1000; decide), fun a na => ⟨a, z0, .int n, rfl, upd_same, h0.1, (.inr (.inl ⟨n, rfl⟩)), made_of na fun d H' nd s' hd => ?_⟩⟩
      exact kE _ _ _ rfl s' (.n1 hd)
    have c1 : k ≠ 1 := fun e => c1 (by rw [e]; rfl)
    refine ⟨_, rfl, rfl, _, rfl, ?_⟩
    refine ite2 (fun c => ?_) (fun c2 => ?_)
    · have c := of_decide_eq_true c
      obtain rfl : k = 2 := by injection c with c; omega
      refine ⟨_, rfl, q, _, _, _, rfl, rfl, SqT.of hq, rfl, _, rfl, q, _, _, _, rfl, rfl, SqT.of hq, rfl, bigN (by show 2 ≤ _; decide), fun t ht => ⟨(by show 1 ≤ 1000; decide), fun a na => ⟨a, t, _, rfl, upd_same, (by rw [upd_ne (ne_of_none upd_same na)]; exact upd_same), made_of na fun d H' nd s' hd => ?_⟩⟩⟩
      exact kE _ _ _ rfl ((Same.new ht).trans s') (.n2 hd (s' _ _ upd_same))
    have c2 : k ≠ 2 := fun e => c2 (by rw [e]; rfl)
    refine ⟨_, rfl, rfl, _, rfl, ?_⟩
    refine ite2 (fun c => ?_) (fun c3 => ?_)
    · have c := of_decide_eq_true c
      obtain rfl : k = 3 := by injection c with c; omega
      refine ⟨_, rfl, q, _, _, _, rfl, rfl, SqT.of hq, rfl, (by show 1 ≤ 1000; decide), fun a na => ⟨a, .ref p, rfl, upd_same, made_of na fun d H' nd s' hd => ?_⟩⟩
      exact kE _ _ _ rfl s' (.n3 hd)
    have c3 : k ≠ 3 := fun e => c3 (by rw [e]; rfl)
    refine ⟨_, rfl, rfl, _, rfl, ?_⟩
    refine ite2 (fun c => ?_) (fun c4 => ?_)
    · have c := of_decide_eq_true c
      obtain rfl : k = 4 := by injection c with c; omega
      refine ⟨_, rfl, q, _, _, _, rfl, rfl, SqT.of hq, rfl, (by show 1 ≤ 1000; decide), fun a na => ⟨a, .int n, rfl, upd_same, (.inr (.inl ⟨n, rfl⟩)), made_of na fun d H' nd s' hd => ?_⟩⟩
      exact kE _ _ _ rfl s' (.n4 hd)
    have c4 : k ≠ 4 := fun e => c4 (by rw [e]; rfl)
    refine ⟨_, rfl, rfl, _, rfl, ?_⟩
    refine ite2 (fun c => ?_) (fun c5 => ?_)
    · have c := of_decide_eq_true c
      obtain rfl : k = 5 := by injection c with c; omega
      refine ⟨_, rfl, q, _, _, _, rfl, rfl, SqT.of hq, rfl, _, rfl, q, _, _, _, rfl, rfl, SqT.of hq, rfl, (by show 2 ≤ 1000; decide), fun a na => ⟨a, .str z0, .int n, rfl, upd_same, h0.show, (.inr (.inl ⟨n, rfl⟩)), made_of na fun d H' nd s' hd => ?_⟩⟩
      exact kE _ _ _ rfl s' (.n5 hd)
    have c5 : k ≠ 5 := fun e => c5 (by rw [e]; rfl)
    refine ⟨_, rfl, rfl, _, rfl, ?_⟩
    refine ite2 (fun c => ?_) (fun c6 => ?_)
    · have c := of_decide_eq_true c
      obtain rfl : k = 6 := by injection c with c; omega
      refine ⟨_, rfl, q, _, _, _, rfl, rfl, SqT.of hq, rfl, (by show 1 ≤ 1000; decide), fun a na => ⟨a, .ref p, rfl, upd_same, made_of na fun d H' nd s' hd => ?_⟩⟩
      exact kE _ _ _ rfl s' (.n6 hd)
    have c6 : k ≠ 6 := fun e => c6 (by rw [e]; rfl)
    refine ⟨_, rfl, rfl, _, rfl, ?_⟩
    refine ite2 (fun c => ?_) (fun c7 => ?_)
    · have c := of_decide_eq_true c
      obtain rfl : k = 7 := by injection c with c; omega
      refine ⟨_, rfl, q, _, _, _, rfl, rfl, SqT.of hq, rfl, _, rfl, q, _, _, _, rfl, rfl, SqT.of hq, rfl, (by show 2 ≤ 1000; decide), fun a na => ⟨a, .int n, .str z2, rfl, upd_same, (.inr (.inl ⟨n, rfl⟩)), h2.show, made_of na fun d H' nd s' hd => ?_⟩⟩
      exact kE _ _ _ rfl s' (.n7 hd)
    have c7 : k ≠ 7 := fun e => c7 (by rw [e]; rfl)
    refine ⟨_, rfl, rfl, _, rfl, ?_⟩
    refine ite2 (fun c => ?_) (fun c8 => ?_)
    · have c := of_decide_eq_true c
      obtain rfl : k = 8 := by injection c with c; omega
      exact kE _ none H rfl (Same.refl H) .n8
    have c8 : k ≠ 8 := fun e => c8 (by rw [e]; rfl)
    refine ⟨_, rfl, rfl, _, rfl, ?_⟩
    refine ite2 (fun c => ?_) (fun c9 => ?_)
    · have c := of_decide_eq_true c
      obtain rfl : k = 9 := by injection c with c; omega
      refine ⟨_, rfl, q, _, _, _, rfl, rfl, SqT.of hq, rfl, (by show 1 ≤ 1000; decide), fun a na => ⟨a, .int n, rfl, upd_same, (.inr (.inl ⟨n, rfl⟩)), made_of na fun d H' nd s' hd => ?_⟩⟩
      exact kE _ _ _ rfl s' (.n9 hd)
    have c9 : k ≠ 9 := fun e => c9 (by rw [e]; rfl)
    refine ⟨_, rfl, rfl, _, rfl, ?_⟩
    refine ite2 (fun c => ?_) (fun c10 => ?_)
    · have c := of_decide_eq_true c
      obtain rfl : k = 10 := by injection c with c; omega
      refine ⟨_, rfl, q, _, _, _, rfl, rfl, SqT.of hq, rfl, (by show 1 ≤ 1000; decide), fun a na => ⟨a, .int n, rfl, upd_same, (.inr (.inl ⟨n, rfl⟩)), made_of na fun d H' nd s' hd => ?_⟩⟩
      exact kE _ _ _ rfl s' (.n10 hd)
    have c10 : k ≠ 10 := fun e => c10 (by rw [e]; rfl)
    refine ⟨_, rfl, rfl, _, rfl, ?_⟩
    refine ite2 (fun c => ?_) (fun c11 => ?_)
    · have c := of_decide_eq_true c
      obtain rfl : k = 11 := by injection c with c; omega
      exact kE _ none H rfl (Same.refl H) .n11
    have c11 : k ≠ 11 := fun e => c11 (by rw [e]; rfl)
    obtain rfl : k = 12 := by omega
    refine ⟨_, rfl, q, _, _, _, rfl, rfl, SqT.of hq, rfl, (by show 1 ≤ 1000; decide), fun a na => ⟨a, .int n, rfl, upd_same, (.inr (.inl ⟨n, rfl⟩)), made_of na fun d H' nd s' hd => ?_⟩⟩
    exact kE _ _ _ rfl s' (.n12 hd)

theorem ok_law_caught {f : Addr} {fd : FuncData} (F : Fun K "_law_caught" "_law_caught" s_law_caught f fd) (T : Txt K mg) {C_BadName C_BadNumber C_BadTurn C_BadStanding C_TooMany C_DriedOut C_NotSafe C_BadPaper C_Unlike C_NothingFits C_BadText C_NothingToUndo C_BadDeed C_WaterError : Addr} (g_WaterError : mg "WaterError" = some (.ref C_WaterError)) (XM : ∀ (j : Nat) (C : Addr), ([C_BadName, C_BadNumber, C_BadTurn, C_BadStanding, C_TooMany, C_DriedOut, C_NotSafe, C_BadPaper, C_Unlike, C_NothingFits, C_BadText, C_NothingToUndo, C_BadDeed] : List Addr)[j]? = some C → PySem.W.exmOne K (.ref C) (.ref C_WaterError) = some true) (C_x_law_throw : ∃ (g : Addr) (gd : FuncData), FnOk P w K mg base (L2.CX P w) 4 g gd P_law_throw (sp_law_throw [C_BadName, C_BadNumber, C_BadTurn, C_BadStanding, C_TooMany, C_DriedOut, C_NotSafe, C_BadPaper, C_Unlike, C_NothingFits, C_BadText, C_NothingToUndo, C_BadDeed]) ∧ mg "_law_throw" = some (.ref g) ∧ PySem.W.keepIn K (.ref g) = true ∧ Binds K gd P_law_throw []) : FnOk P w K mg base CX0 5 f fd P_law_caught (sp_law_caught [C_BadName, C_BadNumber, C_BadTurn, C_BadStanding, C_TooMany, C_DriedOut, C_NotSafe, C_BadPaper, C_Unlike, C_NothingFits, C_BadText, C_NothingToUndo, C_BadDeed]) := by
  obtain ⟨g_law_throw, gd_law_throw, G_law_throw, m_law_throw, k_law_throw, b_law_throw⟩ := C_x_law_throw
  refine F.ok sc_law_caught (fun vs H Q E h => ?_) (fun cdv A outer s H vs Q E hr h => ?_)
  · obtain ⟨k, q, z0, z2, n, p, rfl, hk, hq, h0, h2, kE⟩ := h
    rfl
  · obtain ⟨k, q, z0, z2, n, p, rfl, hk, hq, h0, h2, kE⟩ := h
    refine ⟨_, (pss_cons (ps_set (i := 2) sc_law_caught.nd rfl (by first | exact Or.inl rfl | exact Or.inr rfl) pe_non)
  (pss_cons (ps_try_keep (i := 3) rfl rfl rfl sc_law_caught.nd rfl rfl ⟨rfl, by decide, Or.inl g_WaterError⟩ takes0 (fun W pn xe tk _ => (pss_one (ps_expr (pe_callS G_law_throw (hr.mono (by decide)) (by rfl) m_law_throw k_law_throw b_law_throw (fun σ => passAt tk σ) (pa_cons (pv 0) (pa_cons (pv 1) pa_nil)))))) (fun a oe cls d pn hz hf => (pss_one (ps_set (i := 2) sc_law_caught.nd rfl (by first | exact Or.inl rfl | exact Or.inr rfl) (pv 3)))))
  (pss_one (ps_ret (pv 2))))), ?_⟩
    refine ⟨_, rfl, _, rfl, k, q, z0, z2, n, p, rfl, hk, hq, h0, h2, fun C d H1 hC s1 th => ⟨true, XM _ _ hC, fun _ a na => ⟨_, rfl, ?_⟩, fun q => by cases q⟩⟩
    exact ⟨_, rfl, kE C a d _ hC (s1.trans (Same.new na)) upd_same (th.same (Same.new na))⟩

theorem ok_law_kinds {f : Addr} {fd : FuncData} (F : Fun K "_law_kinds" "_law_kinds" s_law_kinds f fd) (T : Txt K mg) {C_BadName C_BadNumber C_BadTurn C_BadStanding C_TooMany C_DriedOut C_NotSafe C_BadPaper C_Unlike C_NothingFits C_BadText C_NothingToUndo C_BadDeed C_WaterError : Addr} (g_BadName : mg "BadName" = some (.ref C_BadName)) (g_BadNumber : mg "BadNumber" = some (.ref C_BadNumber)) (g_BadTurn : mg "BadTurn" = some (.ref C_BadTurn)) (g_BadStanding : mg "BadStanding" = some (.ref C_BadStanding)) (g_TooMany : mg "TooMany" = some (.ref C_TooMany)) (g_DriedOut : mg "DriedOut" = some (.ref C_DriedOut)) (g_NotSafe : mg "NotSafe" = some (.ref C_NotSafe)) (g_BadPaper : mg "BadPaper" = some (.ref C_BadPaper)) (g_Unlike : mg "Unlike" = some (.ref C_Unlike)) (g_NothingFits : mg "NothingFits" = some (.ref C_NothingFits)) (g_BadText : mg "BadText" = some (.ref C_BadText)) (g_NothingToUndo : mg "NothingToUndo" = some (.ref C_NothingToUndo)) (g_BadDeed : mg "BadDeed" = some (.ref C_BadDeed)) : FnOk P w K mg base CX0 1 f fd P_law_kinds (sp_law_kinds K C_WaterError [C_BadName, C_BadNumber, C_BadTurn, C_BadStanding, C_TooMany, C_DriedOut, C_NotSafe, C_BadPaper, C_Unlike, C_NothingFits, C_BadText, C_NothingToUndo, C_BadDeed]) := by
  refine F.ok sc_law_kinds (fun vs H Q E h => ?_) (fun cdv A outer s H vs Q E hr h => ?_)
  · obtain ⟨a, C, k, d, rfl, kd, ea, hdd, kE⟩ := h
    rfl
  · obtain ⟨a, C, k, d, rfl, kd, ea, hdd, kE⟩ := h
    refine ⟨_, (pss_cons (ps_set (i := 1) sc_law_kinds.nd rfl (by first | exact Or.inl rfl | exact Or.inr rfl) (pe_lst (pa_cons (pe_callB (id := "isinstance") call_isX (by rfl) T.b_isinstance (by decide +kernel) (pa_cons (pv 0) (pa_cons (pe_glob (v := .ref C_BadName) rfl g_BadName rfl) pa_nil))) (pa_cons (pe_callB (id := "isinstance") call_isX (by rfl) T.b_isinstance (by decide +kernel) (pa_cons (pv 0) (pa_cons (pe_glob (v := .ref C_BadNumber) rfl g_BadNumber rfl) pa_nil))) (pa_cons (pe_callB (id := "isinstance") call_isX (by rfl) T.b_isinstance (by decide +kernel) (pa_cons (pv 0) (pa_cons (pe_glob (v := .ref C_BadTurn) rfl g_BadTurn rfl) pa_nil))) pa_nil)))))
  (pss_cons (ps_set (i := 1) sc_law_kinds.nd rfl (by first | exact Or.inl rfl | exact Or.inr rfl) (pe_op op_cat (pv 1) (pe_lst (pa_cons (pe_callB (id := "isinstance") call_isX (by rfl) T.b_isinstance (by decide +kernel) (pa_cons (pv 0) (pa_cons (pe_glob (v := .ref C_BadStanding) rfl g_BadStanding rfl) pa_nil))) (pa_cons (pe_callB (id := "isinstance") call_isX (by rfl) T.b_isinstance (by decide +kernel) (pa_cons (pv 0) (pa_cons (pe_glob (v := .ref C_TooMany) rfl g_TooMany rfl) pa_nil))) (pa_cons (pe_callB (id := "isinstance") call_isX (by rfl) T.b_isinstance (by decide +kernel) (pa_cons (pv 0) (pa_cons (pe_glob (v := .ref C_DriedOut) rfl g_DriedOut rfl) pa_nil))) pa_nil))))))
  (pss_cons (ps_set (i := 1) sc_law_kinds.nd rfl (by first | exact Or.inl rfl | exact Or.inr rfl) (pe_op op_cat (pv 1) (pe_lst (pa_cons (pe_callB (id := "isinstance") call_isX (by rfl) T.b_isinstance (by decide +kernel) (pa_cons (pv 0) (pa_cons (pe_glob (v := .ref C_NotSafe) rfl g_NotSafe rfl) pa_nil))) (pa_cons (pe_callB (id := "isinstance") call_isX (by rfl) T.b_isinstance (by decide +kernel) (pa_cons (pv 0) (pa_cons (pe_glob (v := .ref C_BadPaper) rfl g_BadPaper rfl) pa_nil))) (pa_cons (pe_callB (id := "isinstance") call_isX (by rfl) T.b_isinstance (by decide +kernel) (pa_cons (pv 0) (pa_cons (pe_glob (v := .ref C_Unlike) rfl g_Unlike rfl) pa_nil))) pa_nil))))))
  (pss_cons (ps_set (i := 1) sc_law_kinds.nd rfl (by first | exact Or.inl rfl | exact Or.inr rfl) (pe_op op_cat (pv 1) (pe_lst (pa_cons (pe_callB (id := "isinstance") call_isX (by rfl) T.b_isinstance (by decide +kernel) (pa_cons (pv 0) (pa_cons (pe_glob (v := .ref C_NothingFits) rfl g_NothingFits rfl) pa_nil))) (pa_cons (pe_callB (id := "isinstance") call_isX (by rfl) T.b_isinstance (by decide +kernel) (pa_cons (pv 0) (pa_cons (pe_glob (v := .ref C_BadText) rfl g_BadText rfl) pa_nil))) (pa_cons (pe_callB (id := "isinstance") call_isX (by rfl) T.b_isinstance (by decide +kernel) (pa_cons (pv 0) (pa_cons (pe_glob (v := .ref C_NothingToUndo) rfl g_NothingToUndo rfl) pa_nil))) pa_nil))))))
  (pss_one (ps_ret (pe_op op_cat (pv 1) (pe_lst (pa_cons (pe_callB (id := "isinstance") call_isX (by rfl) T.b_isinstance (by decide +kernel) (pa_cons (pv 0) (pa_cons (pe_glob (v := .ref C_BadDeed) rfl g_BadDeed rfl) pa_nil))) pa_nil))))))))), ?_⟩
    have hdd0 := hdd
    refine ⟨_, rfl, a, C, d, _, .ref C_BadName, decide (0 = k), rfl, .own _, kd.isx, ea, hdd, kd.kits 0 _ rfl, _, rfl, a, C, d, _, .ref C_BadNumber, decide (1 = k), rfl, .own _, kd.isx, ea, hdd, kd.kits 1 _ rfl, _, rfl, a, C, d, _, .ref C_BadTurn, decide (2 = k), rfl, .own _, kd.isx, ea, hdd, kd.kits 2 _ rfl, bigN (by show 3 ≤ _; decide), fun l1 n1 => ?_⟩
    have s1 : Same H _ := Same.new (o := .lst [V.bl (decide (0 = k)), V.bl (decide (1 = k)), V.bl (decide (2 = k))]) n1
    refine ⟨_, rfl, _, rfl, a, C, d, _, .ref C_BadStanding, decide (3 = k), rfl, .own _, kd.isx, (s1 _ _ ea), (fun dd e => by obtain ⟨fs, q⟩ := hdd dd e; exact ⟨fs, s1 _ _ q⟩), kd.kits 3 _ rfl, _, rfl, a, C, d, _, .ref C_TooMany, decide (4 = k), rfl, .own _, kd.isx, (s1 _ _ ea), (fun dd e => by obtain ⟨fs, q⟩ := hdd dd e; exact ⟨fs, s1 _ _ q⟩), kd.kits 4 _ rfl, _, rfl, a, C, d, _, .ref C_DriedOut, decide (5 = k), rfl, .own _, kd.isx, (s1 _ _ ea), (fun dd e => by obtain ⟨fs, q⟩ := hdd dd e; exact ⟨fs, s1 _ _ q⟩), kd.kits 5 _ rfl, bigN (by show 3 ≤ _; decide), fun m1 nm1 => ?_⟩
    have t1 := s1.trans (Same.new (o := .lst [V.bl (decide (3 = k)), V.bl (decide (4 = k)), V.bl (decide (5 = k))]) nm1)
    refine ⟨l1, m1, _, _, rfl, rfl, (by rw [upd_ne (ne_of_none upd_same nm1)]; exact upd_same), upd_same, bigN (by show 6 ≤ _; decide), fun l2 n2 => ?_⟩
    have s2 := t1.trans (Same.new (o := .lst [V.bl (decide (0 = k)), V.bl (decide (1 = k)), V.bl (decide (2 = k)), V.bl (decide (3 = k)), V.bl (decide (4 = k)), V.bl (decide (5 = k))]) n2)
    refine ⟨_, rfl, _, rfl, a, C, d, _, .ref C_NotSafe, decide (6 = k), rfl, .own _, kd.isx, (s2 _ _ ea), (fun dd e => by obtain ⟨fs, q⟩ := hdd dd e; exact ⟨fs, s2 _ _ q⟩), kd.kits 6 _ rfl, _, rfl, a, C, d, _, .ref C_BadPaper, decide (7 = k), rfl, .own _, kd.isx, (s2 _ _ ea), (fun dd e => by obtain ⟨fs, q⟩ := hdd dd e; exact ⟨fs, s2 _ _ q⟩), kd.kits 7 _ rfl, _, rfl, a, C, d, _, .ref C_Unlike, decide (8 = k), rfl, .own _, kd.isx, (s2 _ _ ea), (fun dd e => by obtain ⟨fs, q⟩ := hdd dd e; exact ⟨fs, s2 _ _ q⟩), kd.kits 8 _ rfl, bigN (by show 3 ≤ _; decide), fun m2 nm2 => ?_⟩
    have t2 := s2.trans (Same.new (o := .lst [V.bl (decide (6 = k)), V.bl (decide (7 = k)), V.bl (decide (8 = k))]) nm2)
    refine ⟨l2, m2, _, _, rfl, rfl, (by rw [upd_ne (ne_of_none upd_same nm2)]; exact upd_same), upd_same, bigN (by show 9 ≤ _; decide), fun l3 n3 => ?_⟩
    have s3 := t2.trans (Same.new (o := .lst [V.bl (decide (0 = k)), V.bl (decide (1 = k)), V.bl (decide (2 = k)), V.bl (decide (3 = k)), V.bl (decide (4 = k)), V.bl (decide (5 = k)), V.bl (decide (6 = k)), V.bl (decide (7 = k)), V.bl (decide (8 = k))]) n3)
    refine ⟨_, rfl, _, rfl, a, C, d, _, .ref C_NothingFits, decide (9 = k), rfl, .own _, kd.isx, (s3 _ _ ea), (fun dd e => by obtain ⟨fs, q⟩ := hdd dd e; exact ⟨fs, s3 _ _ q⟩), kd.kits 9 _ rfl, _, rfl, a, C, d, _, .ref C_BadText, decide (10 = k), rfl, .own _, kd.isx, (s3 _ _ ea), (fun dd e => by obtain ⟨fs, q⟩ := hdd dd e; exact ⟨fs, s3 _ _ q⟩), kd.kits 10 _ rfl, _, rfl, a, C, d, _, .ref C_NothingToUndo, decide (11 = k), rfl, .own _, kd.isx, (s3 _ _ ea), (fun dd e => by obtain ⟨fs, q⟩ := hdd dd e; exact ⟨fs, s3 _ _ q⟩), kd.kits 11 _ rfl, bigN (by show 3 ≤ _; decide), fun m3 nm3 => ?_⟩
    have t3 := s3.trans (Same.new (o := .lst [V.bl (decide (9 = k)), V.bl (decide (10 = k)), V.bl (decide (11 = k))]) nm3)
    refine ⟨l3, m3, _, _, rfl, rfl, (by rw [upd_ne (ne_of_none upd_same nm3)]; exact upd_same), upd_same, bigN (by show 12 ≤ _; decide), fun l4 n4 => ?_⟩
    have s4 := t3.trans (Same.new (o := .lst [V.bl (decide (0 = k)), V.bl (decide (1 = k)), V.bl (decide (2 = k)), V.bl (decide (3 = k)), V.bl (decide (4 = k)), V.bl (decide (5 = k)), V.bl (decide (6 = k)), V.bl (decide (7 = k)), V.bl (decide (8 = k)), V.bl (decide (9 = k)), V.bl (decide (10 = k)), V.bl (decide (11 = k))]) n4)
    refine ⟨_, rfl, _, rfl, a, C, d, _, .ref C_BadDeed, decide (12 = k), rfl, .own _, kd.isx, (s4 _ _ ea), (fun dd e => by obtain ⟨fs, q⟩ := hdd dd e; exact ⟨fs, s4 _ _ q⟩), kd.kits 12 _ rfl, bigN (by show 1 ≤ _; decide), fun m4 nm4 => ?_⟩
    have t4 := s4.trans (Same.new (o := .lst [V.bl (decide (12 = k))]) nm4)
    refine ⟨l4, m4, _, _, rfl, rfl, (by rw [upd_ne (ne_of_none upd_same nm4)]; exact upd_same), upd_same, bigN (by show 13 ≤ _; decide), fun l5 n5 => ?_⟩
    have s5 := t4.trans (Same.new (o := .lst [V.bl (decide (0 = k)), V.bl (decide (1 = k)), V.bl (decide (2 = k)), V.bl (decide (3 = k)), V.bl (decide (4 = k)), V.bl (decide (5 = k)), V.bl (decide (6 = k)), V.bl (decide (7 = k)), V.bl (decide (8 = k)), V.bl (decide (9 = k)), V.bl (decide (10 = k)), V.bl (decide (11 = k)), V.bl (decide (12 = k))]) n5)
    exact kE l5 _ s5 upd_same

theorem ok_law_holds {f : Addr} {fd : FuncData} (F : Fun K "_law_holds" "_law_holds" s_law_holds f fd) (T : Txt K mg) {C_BadName C_BadNumber C_BadTurn C_BadStanding C_TooMany C_DriedOut C_NotSafe C_BadPaper C_Unlike C_NothingFits C_BadText C_NothingToUndo C_BadDeed C_WaterError : Addr} (g_WaterError : mg "WaterError" = some (.ref C_WaterError)) {C_Standing fi fe : Addr} {fde : FuncData} (D_Standing : DatC K mg "Standing" C_Standing fi fe ["levels", "tank", "mood"]) (GStanding___eq__ : FnOk P w K mg base CX0 1 fe fde PStanding___eq__ (spStanding_eq C_Standing)) (bStanding___eq__ : Binds K fde PStanding___eq__ []) (C_law_kinds : Cal P w K mg base "_law_kinds" P_law_kinds 1 (sp_law_kinds K C_WaterError [C_BadName, C_BadNumber, C_BadTurn, C_BadStanding, C_TooMany, C_DriedOut, C_NotSafe, C_BadPaper, C_Unlike, C_NothingFits, C_BadText, C_NothingToUndo, C_BadDeed])) : FnOk P w K mg base CX0 3 f fd P_law_holds (sp_law_holds K C_WaterError C_Standing [C_BadName, C_BadNumber, C_BadTurn, C_BadStanding, C_TooMany, C_DriedOut, C_NotSafe, C_BadPaper, C_Unlike, C_NothingFits, C_BadText, C_NothingToUndo, C_BadDeed]) := by
  obtain ⟨g_law_kinds, gd_law_kinds, G_law_kinds, m_law_kinds, k_law_kinds, b_law_kinds⟩ := C_law_kinds.ex
  refine F.ok sc_law_holds (fun vs H Q E h => ?_) (fun cdv A outer s H vs Q E hr h => ?_)
  · obtain ⟨a, C, k, d, q, z0, z2, n, p, ls, tt, m, rfl, hk, h0, h2, kd, ea, th, hq, hp, kE⟩ := h
    rfl
  · obtain ⟨a, C, k, d, q, z0, z2, n, p, ls, tt, m, rfl, hk, h0, h2, kd, ea, th, hq, hp, kE⟩ := h
    refine ⟨_, (pss_cons (ps_set (i := 3) sc_law_holds.nd rfl (by first | exact Or.inl rfl | exact Or.inr rfl) (pe_call G_law_kinds (hr.mono (by decide)) (by rfl) m_law_kinds k_law_kinds b_law_kinds .nil pass0 (pa_cons (pv 0) pa_nil)))
  (pss_cons (ps_if (PW.pt (pw_or (pt_not (pt_val (pe_callB (id := "isinstance") call_isX (by rfl) T.b_isinstance (by decide +kernel) (pa_cons (pv 0) (pa_cons (pe_glob (v := .ref C_WaterError) rfl g_WaterError rfl) pa_nil))))) (pw_or1 (pt_not (pt_val (pe_callB (id := "isinstance") call_isX (by rfl) T.b_isinstance (by decide +kernel) (pa_cons (pv 0) (pa_cons (pe_bltn (v := .ty "ValueError") (by rfl) T.b_ValueError (by decide +kernel) rfl) pa_nil))))))))
  (pss_one (ps_ret pe_bl))
  pss_nil)
  (pss_cons (ps_if (pt_cmpR (op_neD hr.units) (pe_lc (own := [("at", 4)]) rfl sc_law_holds.nd (pi_range1 rfl T.b_range (pa_cons pe_int pa_nil)) (blkOk_by (own := [("at", 4)]) (N := N_law_holds) (sc := defScope s_law_holds) (by decide +kernel)) (fun _ _ _ _ _ => (pg_name (i := 4) sc_law_holds.nd rfl (by first | exact Or.inl rfl | exact Or.inr rfl))) (fun _ _ _ _ _ => (pts_one (pt_val (pe_ix (r := rIxL K) ix_list (pv 3) (pv 4) (fun _ _ => rfl))))) (fun _ _ _ _ _ => (pv 4))) (pe_lst (pa_cons (pv 1) pa_nil)) (nomark _))
  (pss_one (ps_ret pe_bl))
  pss_nil)
  (pss_cons (ps_if (pt_cmpR op_eq (pv 1) pe_int (nomark _))
  (pss_one (ps_ret (pe_cmpR op_eq (pe_ev (pv 0)) (pe_ix ix_tup (pv 2) pe_int (fun _ _ => rfl)) (nomark _))))
  pss_nil)
  (pss_cons (ps_if (pt_cmpR op_eq (pv 1) pe_int (nomark _))
  (pss_one (ps_ret (pe_and (pe_cmpR op_eq (pe_ev (pv 0)) (pe_ix ix_tup (pv 2) pe_int (fun _ _ => rfl)) (nomark _)) (pe_one (pe_cmpR op_eq (pe_ev (pv 0)) (pe_ix ix_tup (pv 2) pe_int (fun _ _ => rfl)) (nomark _))))))
  pss_nil)
  (pss_cons (ps_if (pt_cmpR op_eq (pv 1) pe_int (nomark _))
  (pss_one (ps_ret (pe_cmpR (op_eqD hr.units) (pe_ev (pv 0)) (pe_tup (pa_cons (pe_ix ix_tup (pv 2) pe_int (fun _ _ => rfl)) (pa_cons (pe_ix ix_tup (pv 2) pe_int (fun _ _ => rfl)) pa_nil))) (nomark _))))
  pss_nil)
  (pss_cons (ps_if (PW.pt (pw_or (pt_cmpR op_eq (pv 1) pe_int (nomark _)) (pw_or1 (pt_cmpR op_eq (pv 1) pe_int (nomark _)))))
  (pss_one (ps_ret (pe_cmpR (op_eqI GStanding___eq__ (hr.mono (by decide)) D_Standing.eq D_Standing.fe bStanding___eq__ pass0) (pe_ev (pv 0)) (pe_ix ix_tup (pv 2) pe_int (fun _ _ => rfl)) (nomark _))))
  pss_nil)
  (pss_cons (ps_if (pt_cmpR op_eq (pv 1) pe_int (nomark _))
  (pss_one (ps_ret (pe_cmpR op_eq (pe_ev (pv 0)) (pe_ix ix_tup (pv 2) pe_int (fun _ _ => rfl)) (nomark _))))
  pss_nil)
  (pss_cons (ps_if (pt_cmpR op_eq (pv 1) pe_int (nomark _))
  (pss_one (ps_ret (pe_and (pe_cmpR op_eq (pe_ev (pv 0)) (pe_ix ix_tup (pv 2) pe_int (fun _ _ => rfl)) (nomark _)) (pe_one (pe_cmpR op_eq (pe_ev (pv 0)) (pe_ix ix_tup (pv 2) pe_int (fun _ _ => rfl)) (nomark _))))))
  pss_nil)
  (pss_cons (ps_if (pt_cmpR op_eq (pv 1) pe_int (nomark _))
  (pss_one (ps_ret (pe_and (pe_cmpR op_eq (pe_ev (pv 0)) (pe_ix ix_tup (pv 2) pe_int (fun _ _ => rfl)) (nomark _)) (pe_one (pe_cmpR op_eq (pe_ev (pv 0)) (pe_ix ix_tup (pv 2) pe_int (fun _ _ => rfl)) (nomark _))))))
  pss_nil)
  (pss_cons (ps_if (pt_cmpR op_eq (pv 1) pe_int (nomark _))
  (pss_one (ps_ret (pe_cmpR op_eq (pe_ev (pv 0)) (pe_ix ix_tup (pv 2) pe_int (fun _ _ => rfl)) (nomark _))))
  pss_nil)
  (pss_cons (ps_if (pt_cmpR op_eq (pv 1) pe_int (nomark _))
  (pss_one (ps_ret (pe_cmpR op_eq (pe_ev (pv 0)) (pe_ix ix_tup (pv 2) pe_int (fun _ _ => rfl)) (nomark _))))
  pss_nil)
  (pss_one (ps_ret (pe_or (pe_cmpR op_eq (pv 1) pe_int (nomark _)) (pe_or (pe_cmpR op_eq (pv 1) pe_int (nomark _)) (pe_one (pe_cmpR op_eq (pe_ev (pv 0)) (pe_ix ix_tup (pv 2) pe_int (fun _ _ => rfl)) (nomark _))))))))))))))))))), ?_⟩
    have hdd := th.dict
    refine ⟨_, rfl, a, C, k, d, rfl, kd, ea, hdd, fun l H1 s1 el => ?_⟩
    have ea1 := s1 _ _ ea
    have th1 := th.same s1
    have hdd1 := th1.dict
    have hq1 := s1 _ _ hq
    have hp1 := hp.same s1
    refine ⟨_, rfl, a, C, d, _, .ref C_WaterError, true, rfl, .own _, kd.isx, ea1, hdd1, kd.kw, _, rfl, iteF ?_⟩
    refine ⟨_, rfl, a, C, d, _, .type "ValueError", true, rfl, .ty _, kd.isx, ea1, hdd1, kd.kv, _, rfl, iteF ?_⟩
    refine ⟨_, rfl, by decide, by decide, fun D hD => ?_⟩
    refine lc_it walk_range (fun i H2 => H2 D = some (.lst ((((List.range i).filter (fun j => decide (j = k))).map Int.ofNat).map V.int)) ∧ Same H1 H2) ⟨upd_same, Same.new hD⟩ (fun _ _ _ _ => trivial) ?_ ?_
    · rintro i x H2o H2 hi ⟨e2, s2⟩ ⟨rfl, rfl⟩
      refine ⟨rfl, ?_⟩
      have hi' : i < 13 := hi
      have hx : (kindsL k)[i]? = some (V.bl (decide (i = k))) := by
        unfold kindsL
        rw [List.getElem?_map, List.getElem?_range hi']
        rfl
      have rs : (List.range (i + 1)).filter (fun j => decide (j = k)) = (List.range i).filter (fun j => decide (j = k)) ++ if i = k then [i] else [] := by
        rw [List.range_succ, List.filter_append, List.filter_cons, List.filter_nil]
        by_cases e : i = k
        · rw [decide_eq_true e, if_pos e, if_pos rfl]
        · rw [decide_eq_false e, if_neg e, if_neg Bool.false_ne_true]
      refine ⟨_, rfl, _, rfl, l, _, _, _, rfl, rfl, SqL.of (s2 _ _ el), atI_nat (by simpa using hx), _, rfl, ?_⟩
      refine ite2 (fun c => ?_) (fun c => ?_)
      · have c := of_decide_eq_true c
        refine ⟨_, rfl, _, e2, small1000 (by simp only [List.length_map]; have : ((List.range i).filter (fun j => decide (j = k))).length ≤ i := Nat.le_trans (List.length_filter_le _ _) (by simp); omega), ?_, fun b o e => ?_⟩
        · rw [upd_same, rs, if_pos c, List.map_append, List.map_append]
          simp
        · rw [upd_ne (ne_of_none e hD)]
          exact s2 _ _ e
      · have c : ¬ i = k := fun e => c (decide_eq_true e)
        rw [rs, if_neg c, List.append_nil]
        exact ⟨e2, s2⟩
    rintro H2 ⟨e2, s2⟩
    have e2 : H2 D = some (.lst (([(k : Int)] : List Int).map V.int)) := by
      have e2 : H2 D = some (.lst ((((List.range 13).filter (fun j => decide (j = k))).map Int.ofNat).map V.int)) := e2
      rw [filt13 k hk] at e2
      exact e2
    refine ⟨_, rfl, bigN (by show 1 ≤ _; decide), fun z hz => ?_⟩
    refine ⟨_, _, dp_intsL (SqL.of (by rw [upd_ne (ne_of_none e2 hz)]; exact e2)), dp_intsL (xs := [(k : Int)]) (SqL.of upd_same), shaped_intsL _, shaped_intsL _, _, rfl, ?_⟩
    rw [eqv_intsL, decide_eq_true rfl]
    refine iteF ?_
    have s3 : Same H1 (upd H2 z (.lst [V.int k])) := s2.trans (Same.new hz)
    have fin : ∀ H', Same (upd H2 z (.lst [V.int k])) H' → Q (.bl true) H' := fun H' s' => kE H' (s1.trans (s3.trans s'))
    have th3 := th1.same s3
    have ea3 := s3 _ _ ea1
    have hq3 := s3 _ _ hq1
    have hp3 := hp1.same s3
    clear e2 hdd hdd1 th th1 s3 s2 s1 hz
    generalize upd H2 z (.lst [V.int k]) = G at *
    cases th3
    · rename_i d hd
      refine ⟨_, rfl, rfl, _, rfl, iteT ?_⟩
      refine ⟨_, rfl, a, C, d, _, _, rfl, kd.xf, kd.no "name" (by simp [fldsOf]), ea3, hd, look_1, _, rfl, q, _, _, _, rfl, rfl, SqT.of hq3, rfl, rfl, ?_⟩
      show Q (.bl (decide (V.str z0 = V.str z0))) G
      rw [decide_eq_true rfl]
      exact fin G (Same.refl G)
    · rename_i d hd
      refine ⟨_, rfl, rfl, _, rfl, iteF ?_⟩
      refine ⟨_, rfl, rfl, _, rfl, iteT ?_⟩
      refine ⟨_, rfl, a, C, d, _, _, rfl, kd.xf, kd.no "what" (by simp [fldsOf]), ea3, hd, look_b (by decide +kernel), _, rfl, q, _, _, _, rfl, rfl, SqT.of hq3, rfl, rfl, _, rfl, ?_⟩
      refine ite2 (fun _ => ?_) (fun y => absurd (decide_eq_true rfl) y)
      refine ⟨_, rfl, a, C, d, _, _, rfl, kd.xf, kd.no "value" (by simp [fldsOf]), ea3, hd, look_a, _, rfl, q, _, _, _, rfl, rfl, SqT.of hq3, rfl, rfl, ?_⟩
      show Q (.bl (decide (V.int n = V.int n))) G
      rw [decide_eq_true rfl]
      exact fin G (Same.refl G)
    · rename_i d t hd ht
      refine ⟨_, rfl, rfl, _, rfl, iteF ?_⟩
      refine ⟨_, rfl, rfl, _, rfl, iteF ?_⟩
      refine ⟨_, rfl, rfl, _, rfl, iteT ?_⟩
      refine ⟨_, rfl, a, C, d, _, _, rfl, kd.xf, kd.no "turn" (by simp [fldsOf]), ea3, hd, look_1, _, rfl, q, _, _, _, rfl, rfl, SqT.of hq3, rfl, _, rfl, q, _, _, _, rfl, rfl, SqT.of hq3, rfl, bigN (by show 2 ≤ _; decide), fun z hz => ?_⟩
      refine ⟨_, _, .tup (SqT.of (by rw [upd_ne (ne_of_none ht hz)]; exact ht)) (.cons (.str _) (.cons (.str _) .nil)), .tup (SqT.of upd_same) (.cons (.str _) (.cons (.str _) .nil)), pair_shaped h0.strOk h2.strOk, pair_shaped h0.strOk h2.strOk, ?_⟩
      rw [pair_self]
      exact fin _ (Same.new hz)
    · rename_i d hd
      refine ⟨_, rfl, rfl, _, rfl, iteF ?_⟩
      refine ⟨_, rfl, rfl, _, rfl, iteF ?_⟩
      refine ⟨_, rfl, rfl, _, rfl, iteF ?_⟩
      refine ⟨_, rfl, rfl, _, rfl, iteT ?_⟩
      obtain ⟨pdx, pq, hpd, _⟩ := id hp3
      refine ⟨_, rfl, a, C, d, _, _, rfl, kd.xf, kd.no "standing" (by simp [fldsOf]), ea3, hd, look_1, _, rfl, q, _, _, _, rfl, rfl, SqT.of hq3, rfl, ?_⟩
      exact ⟨p, _, _, p, _, _, rfl, rfl, hpd, hpd, p, p, ls, ls, tt, m, tt, m, rfl, hp3, hp3, _, rfl, by rw [show eqS ls tt m ls tt m = true from decide_eq_true ⟨rfl, rfl, rfl⟩]; exact fin G (Same.refl G)⟩
    · rename_i d hd
      refine ⟨_, rfl, rfl, _, rfl, iteF ?_⟩
      refine ⟨_, rfl, rfl, _, rfl, iteF ?_⟩
      refine ⟨_, rfl, rfl, _, rfl, iteF ?_⟩
      refine ⟨_, rfl, rfl, _, rfl, iteF ?_⟩
      refine ⟨_, rfl, rfl, _, rfl, iteF ?_⟩
      refine ⟨_, rfl, rfl, _, rfl, iteT ?_⟩
      refine ⟨_, rfl, a, C, d, _, _, rfl, kd.xf, kd.no "limit" (by simp [fldsOf]), ea3, hd, look_1, _, rfl, q, _, _, _, rfl, rfl, SqT.of hq3, rfl, rfl, ?_⟩
      show Q (.bl (decide (V.int n = V.int n))) G
      rw [decide_eq_true rfl]
      exact fin G (Same.refl G)
    · rename_i d hd
      refine ⟨_, rfl, rfl, _, rfl, iteF ?_⟩
      refine ⟨_, rfl, rfl, _, rfl, iteF ?_⟩
      refine ⟨_, rfl, rfl, _, rfl, iteF ?_⟩
      refine ⟨_, rfl, rfl, _, rfl, iteF ?_⟩
      refine ⟨_, rfl, rfl, _, rfl, iteF ?_⟩
      refine ⟨_, rfl, rfl, _, rfl, iteF ?_⟩
      refine ⟨_, rfl, rfl, _, rfl, iteT ?_⟩
      refine ⟨_, rfl, a, C, d, _, _, rfl, kd.xf, kd.no "plot" (by simp [fldsOf]), ea3, hd, look_b (by decide +kernel), _, rfl, q, _, _, _, rfl, rfl, SqT.of hq3, rfl, rfl, _, rfl, ?_⟩
      refine ite2 (fun _ => ?_) (fun y => absurd (decide_eq_true rfl) y)
      refine ⟨_, rfl, a, C, d, _, _, rfl, kd.xf, kd.no "day" (by simp [fldsOf]), ea3, hd, look_a, _, rfl, q, _, _, _, rfl, rfl, SqT.of hq3, rfl, rfl, ?_⟩
      show Q (.bl (decide (V.int n = V.int n))) G
      rw [decide_eq_true rfl]
      exact fin G (Same.refl G)
    · rename_i d hd
      refine ⟨_, rfl, rfl, _, rfl, iteF ?_⟩
      refine ⟨_, rfl, rfl, _, rfl, iteF ?_⟩
      refine ⟨_, rfl, rfl, _, rfl, iteF ?_⟩
      refine ⟨_, rfl, rfl, _, rfl, iteF ?_⟩
      refine ⟨_, rfl, rfl, _, rfl, iteT ?_⟩
      obtain ⟨pdx, pq, hpd, _⟩ := id hp3
      refine ⟨_, rfl, a, C, d, _, _, rfl, kd.xf, kd.no "standing" (by simp [fldsOf]), ea3, hd, look_1, _, rfl, q, _, _, _, rfl, rfl, SqT.of hq3, rfl, ?_⟩
      exact ⟨p, _, _, p, _, _, rfl, rfl, hpd, hpd, p, p, ls, ls, tt, m, tt, m, rfl, hp3, hp3, _, rfl, by rw [show eqS ls tt m ls tt m = true from decide_eq_true ⟨rfl, rfl, rfl⟩]; exact fin G (Same.refl G)⟩
    · rename_i d hd
      refine ⟨_, rfl, rfl, _, rfl, iteF ?_⟩
      refine ⟨_, rfl, rfl, _, rfl, iteF ?_⟩
      refine ⟨_, rfl, rfl, _, rfl, iteF ?_⟩
      refine ⟨_, rfl, rfl, _, rfl, iteF ?_⟩
      refine ⟨_, rfl, rfl, _, rfl, iteF ?_⟩
      refine ⟨_, rfl, rfl, _, rfl, iteF ?_⟩
      refine ⟨_, rfl, rfl, _, rfl, iteF ?_⟩
      refine ⟨_, rfl, rfl, _, rfl, iteT ?_⟩
      refine ⟨_, rfl, a, C, d, _, _, rfl, kd.xf, kd.no "row" (by simp [fldsOf]), ea3, hd, look_b (by decide +kernel), _, rfl, q, _, _, _, rfl, rfl, SqT.of hq3, rfl, rfl, _, rfl, ?_⟩
      refine ite2 (fun _ => ?_) (fun y => absurd (decide_eq_true rfl) y)
      refine ⟨_, rfl, a, C, d, _, _, rfl, kd.xf, kd.no "reason" (by simp [fldsOf]), ea3, hd, look_a, _, rfl, q, _, _, _, rfl, rfl, SqT.of hq3, rfl, rfl, ?_⟩
      show Q (.bl (decide (V.str z2 = V.str z2))) G
      rw [decide_eq_true rfl]
      exact fin G (Same.refl G)
    · rename_i d hd
      refine ⟨_, rfl, rfl, _, rfl, iteF ?_⟩
      refine ⟨_, rfl, rfl, _, rfl, iteF ?_⟩
      refine ⟨_, rfl, rfl, _, rfl, iteF ?_⟩
      refine ⟨_, rfl, rfl, _, rfl, iteF ?_⟩
      refine ⟨_, rfl, rfl, _, rfl, iteF ?_⟩
      refine ⟨_, rfl, rfl, _, rfl, iteF ?_⟩
      refine ⟨_, rfl, rfl, _, rfl, iteF ?_⟩
      refine ⟨_, rfl, rfl, _, rfl, iteF ?_⟩
      refine ⟨_, rfl, rfl, _, rfl, iteT ?_⟩
      refine ⟨_, rfl, a, C, d, _, _, rfl, kd.xf, kd.no "day" (by simp [fldsOf]), ea3, hd, look_1, _, rfl, q, _, _, _, rfl, rfl, SqT.of hq3, rfl, rfl, ?_⟩
      show Q (.bl (decide (V.int n = V.int n))) G
      rw [decide_eq_true rfl]
      exact fin G (Same.refl G)
    · rename_i d hd
      refine ⟨_, rfl, rfl, _, rfl, iteF ?_⟩
      refine ⟨_, rfl, rfl, _, rfl, iteF ?_⟩
      refine ⟨_, rfl, rfl, _, rfl, iteF ?_⟩
      refine ⟨_, rfl, rfl, _, rfl, iteF ?_⟩
      refine ⟨_, rfl, rfl, _, rfl, iteF ?_⟩
      refine ⟨_, rfl, rfl, _, rfl, iteF ?_⟩
      refine ⟨_, rfl, rfl, _, rfl, iteF ?_⟩
      refine ⟨_, rfl, rfl, _, rfl, iteF ?_⟩
      refine ⟨_, rfl, rfl, _, rfl, iteF ?_⟩
      refine ⟨_, rfl, rfl, _, rfl, iteT ?_⟩
      refine ⟨_, rfl, a, C, d, _, _, rfl, kd.xf, kd.no "line" (by simp [fldsOf]), ea3, hd, look_1, _, rfl, q, _, _, _, rfl, rfl, SqT.of hq3, rfl, rfl, ?_⟩
      show Q (.bl (decide (V.int n = V.int n))) G
      rw [decide_eq_true rfl]
      exact fin G (Same.refl G)
    · rename_i d hd
      refine ⟨_, rfl, rfl, _, rfl, iteF ?_⟩
      refine ⟨_, rfl, rfl, _, rfl, iteF ?_⟩
      refine ⟨_, rfl, rfl, _, rfl, iteF ?_⟩
      refine ⟨_, rfl, rfl, _, rfl, iteF ?_⟩
      refine ⟨_, rfl, rfl, _, rfl, iteF ?_⟩
      refine ⟨_, rfl, rfl, _, rfl, iteF ?_⟩
      refine ⟨_, rfl, rfl, _, rfl, iteF ?_⟩
      refine ⟨_, rfl, rfl, _, rfl, iteF ?_⟩
      refine ⟨_, rfl, rfl, _, rfl, iteF ?_⟩
      refine ⟨_, rfl, rfl, _, rfl, iteF ?_⟩
      refine ⟨_, rfl, rfl, _, rfl, iteF ?_⟩
      refine ⟨_, rfl, rfl, _, rfl, iteF ?_⟩
      refine ⟨_, rfl, a, C, d, _, _, rfl, kd.xf, kd.no "place" (by simp [fldsOf]), ea3, hd, look_1, _, rfl, q, _, _, _, rfl, rfl, SqT.of hq3, rfl, rfl, ?_⟩
      show Q (.bl (decide (V.int n = V.int n))) G
      rw [decide_eq_true rfl]
      exact fin G (Same.refl G)
    · refine ⟨_, rfl, rfl, _, rfl, iteF ?_⟩
      refine ⟨_, rfl, rfl, _, rfl, iteF ?_⟩
      refine ⟨_, rfl, rfl, _, rfl, iteF ?_⟩
      refine ⟨_, rfl, rfl, _, rfl, iteF ?_⟩
      refine ⟨_, rfl, rfl, _, rfl, iteF ?_⟩
      refine ⟨_, rfl, rfl, _, rfl, iteF ?_⟩
      refine ⟨_, rfl, rfl, _, rfl, iteF ?_⟩
      refine ⟨_, rfl, rfl, _, rfl, iteF ?_⟩
      refine ⟨_, rfl, rfl, _, rfl, iteF ?_⟩
      refine ⟨_, rfl, rfl, _, rfl, iteF ?_⟩
      refine ⟨_, rfl, rfl, _, rfl, iteT ?_⟩
      exact fin G (Same.refl G)
    · refine ⟨_, rfl, rfl, _, rfl, iteF ?_⟩
      refine ⟨_, rfl, rfl, _, rfl, iteF ?_⟩
      refine ⟨_, rfl, rfl, _, rfl, iteF ?_⟩
      refine ⟨_, rfl, rfl, _, rfl, iteF ?_⟩
      refine ⟨_, rfl, rfl, _, rfl, iteF ?_⟩
      refine ⟨_, rfl, rfl, _, rfl, iteF ?_⟩
      refine ⟨_, rfl, rfl, _, rfl, iteF ?_⟩
      refine ⟨_, rfl, rfl, _, rfl, iteF ?_⟩
      refine ⟨_, rfl, rfl, _, rfl, iteF ?_⟩
      refine ⟨_, rfl, rfl, _, rfl, iteF ?_⟩
      refine ⟨_, rfl, rfl, _, rfl, iteF ?_⟩
      refine ⟨_, rfl, rfl, _, rfl, iteT ?_⟩
      exact fin G (Same.refl G)
end
end Wb

set_option pp.maxSteps 500
set_option pp.deepTerms false
namespace Wb
open PySem PySem.Spec PyProof.Rows L2 Wx NdefX RZ StX PyProof.Rows.FinIter
section
variable {P : Program} {w : World} {K : PySem.W.Frag} {mg : Str → Option Value} {base : Heap}
theorem sum_len_le {b : Nat} : ∀ {ys : List Str}, (∀ y, y ∈ ys → y.length ≤ b) → (ys.map (·.length)).sum ≤ b * ys.length
  | [], _ => Nat.zero_le _
  | y :: ys, h => by
    have h1 := h y List.mem_cons_self
    have h2 := sum_len_le (b := b) (ys := ys) fun z hz => h z (List.mem_cons_of_mem _ hz)
    simp only [List.map_cons, List.sum_cons, List.length_cons, Nat.mul_add, Nat.mul_one]
    omega
theorem join_more {s a : Str} {l : List Str} (h : l ≠ []) : Txt.join s (l ++ [a]) = Txt.join s l ++ s ++ a := by
  have e := join_snoc s a l
  rw [if_neg h] at e
  show Builtin.Str.glued s (l ++ [a]) = Builtin.Str.glued s l ++ s ++ a
  rw [PySem.StrLaws.glued_eq_join, PySem.StrLaws.glued_eq_join]
  exact e

def sgl (c : Nat) : Str := ⟨#[c]⟩
theorem TxtOk.sgl {c : Nat} (h : c < 128) : TxtOk 1 ⟨#[c]⟩ := TxtOk.one h
theorem join_ok : ∀ cs : List Nat, (∀ c, c ∈ cs → c < 128) → TxtOk cs.length (Txt.join ("" : Str) (cs.reverse.map sgl))
  | [], _ => ⟨Nat.le_of_eq (by decide +kernel), by intro c hc; exact absurd hc (by rw [show codes (Txt.join ("" : Str) (([] : List Nat).reverse.map sgl)) = [] by decide +kernel]; exact List.not_mem_nil)⟩
  | c :: cs, h => by
    have ih := join_ok cs fun d hd => h d (List.mem_cons_of_mem _ hd)
    have h1 : TxtOk 1 (sgl c) := TxtOk.one (h c List.mem_cons_self)
    rw [List.reverse_cons, List.map_append]
    by_cases e : cs.reverse.map sgl = []
    · rw [e]
      show TxtOk _ (Txt.join ("" : Str) [sgl c])
      have e2 : Txt.join ("" : Str) [sgl c] = sgl c := rfl
      rw [e2]
      exact h1.mono (by rw [List.length_cons]; omega)
    · show TxtOk _ (Txt.join ("" : Str) (cs.reverse.map sgl ++ [sgl c]))
      rw [join_more e]
      have e0 : TxtOk 0 ("" : Str) := ⟨by decide +kernel, by decide +kernel⟩
      exact (((ih.app e0).app h1)).mono (by rw [List.length_cons]; omega)
theorem join_ok' (cs : List Nat) (h : ∀ c, c ∈ cs → c < 128) : TxtOk cs.length (Txt.join ("" : Str) (cs.map sgl)) := by
  have := join_ok cs.reverse fun c hc => h c (List.mem_reverse.mp hc)
  rw [List.reverse_reverse, List.length_reverse] at this
  exact this
theorem StandAt.frm {C s : Addr} {H H' : Hp} {p : Addr} {ls : List Int} {t m : Int} (x : StandAt C (hid [s] H) p ls t m) (f : Frm [s] H H') : StandAt C (hid [s] H') p ls t m := x.same (hid_frm f)

theorem ok_law_values {f : Addr} {fd : FuncData} (F : Fun K "_law_values" "_law_values" s_law_values f fd) (T : Txt K mg) (C_law_draw : Cal P w K mg base "_law_draw" P_law_draw 1 (sp_law_draw K)) {C_BadNumber C_Standing fi fe : Addr} {fdi : FuncData} (D_Standing : DatC K mg "Standing" C_Standing fi fe ["levels", "tank", "mood"]) (GStanding___init__ : FnOk P w K mg base (L2.CX P w) 6 fi fdi PStanding___init__ (spStanding_init K C_Standing C_BadNumber)) (bStanding___init__ : Binds K fdi PStanding___init__ []) : FnOk P w K mg base CX0 8 f fd P_law_values (sp_law_values K C_Standing) := by
  obtain ⟨g_law_draw, gd_law_draw, G_law_draw, m_law_draw, k_law_draw, b_law_draw⟩ := C_law_draw.ex
  refine F.ok sc_law_values (fun vs H Q E h => ?_) (fun cdv A outer s H vs Q E hr h => ?_)
  · obtain ⟨a, s0, rfl, hS, kE⟩ := h
    rfl
  · obtain ⟨a, s0, rfl, hS, kE⟩ := h
    refine ⟨_, (pss_cons (ps_set (i := 2) sc_law_values.nd rfl (by first | exact Or.inl rfl | exact Or.inr rfl) pe_str)
  (pss_cons (ps_set (i := 3) sc_law_values.nd rfl (by first | exact Or.inl rfl | exact Or.inr rfl) (pe_lst pa_nil))
  (pss_cons (ps_for PassesOwn.never rfl (pi_range1 rfl T.b_range (pa_cons pe_int pa_nil)) (pg_name (i := 4) sc_law_values.nd rfl (by first | exact Or.inl rfl | exact Or.inr rfl))
  (pss_one (ps_expr (pe_bm PySem.F.plainAttrs_list PySem.F.slot_list_append PySem.F.type_list_append mt_append (pv 3) (pa_cons (pe_join pe_str (pe_lc (own := [("j", 7)]) rfl sc_law_values.nd (pi_range1 rfl T.b_range (pa_cons (pe_op op_add pe_int (pe_call G_law_draw (hr.mono (by decide)) (by rfl) m_law_draw k_law_draw b_law_draw .nil pass0 (pa_cons (pv 0) (pa_cons (pv 1) (pa_cons pe_int pa_nil))))) pa_nil)) (blkOk_by (own := [("j", 7)]) (N := N_law_values) (sc := defScope s_law_values) (by decide +kernel)) (fun _ _ _ _ _ => (pg_name (i := 7) sc_law_values.nd rfl (by first | exact Or.inl rfl | exact Or.inr rfl))) (fun _ _ _ _ _ => pts_nil) (fun _ _ _ _ _ => (pe_ix ix_str (pv 2) (pe_call G_law_draw (hr.mono (by decide)) (by rfl) m_law_draw k_law_draw b_law_draw .nil pass0 (pa_cons (pv 0) (pa_cons (pv 1) (pa_cons pe_int pa_nil)))) (fun _ _ => rfl))))) pa_nil)))))
  (pss_cons (ps_setLc (i := 5) (own := [("k", 4)]) rfl sc_law_values.nd rfl rfl (sw_true rfl rfl rfl (by decide +kernel)) (pi_range1 rfl T.b_range (pa_cons (pe_op op_add pe_int (pe_call G_law_draw (hr.mono (by decide)) (by rfl) m_law_draw k_law_draw b_law_draw .nil pass0 (pa_cons (pv 0) (pa_cons (pv 1) (pa_cons pe_int pa_nil))))) pa_nil)) (blkOk_by (own := [("k", 4)]) (N := N_law_values) (sc := defScope s_law_values) (by decide +kernel)) (fun _ _ _ _ _ => (pg_name (i := 4) sc_law_values.nd rfl (by first | exact Or.inl rfl | exact Or.inr rfl))) (fun _ _ _ _ _ => pts_nil) (fun _ _ _ _ _ => (pe_call G_law_draw (hr.mono (by decide)) (by rfl) m_law_draw k_law_draw b_law_draw .nil pass0 (pa_cons (pv 0) (pa_cons (pv 1) (pa_cons pe_int pa_nil))))))
  (pss_cons (ps_set (i := 6) sc_law_values.nd rfl (by first | exact Or.inl rfl | exact Or.inr rfl) (pe_makeS D_Standing.mkk GStanding___init__ (hr.mono (by decide)) (by rfl) D_Standing.g bStanding___init__ (fun σ => passAt takes0 σ) (pa_cons (pv 5) (pa_cons (pe_call G_law_draw (hr.mono (by decide)) (by rfl) m_law_draw k_law_draw b_law_draw .nil pass0 (pa_cons (pv 0) (pa_cons (pv 1) (pa_cons pe_int pa_nil)))) (pa_cons (pe_call G_law_draw (hr.mono (by decide)) (by rfl) m_law_draw k_law_draw b_law_draw .nil pass0 (pa_cons (pv 0) (pa_cons (pv 1) (pa_cons pe_int pa_nil)))) pa_nil)))))
  (pss_one (ps_ret (pe_tup (pa_cons (pe_ix ix_list (pv 3) pe_int (fun _ _ => rfl)) (pa_cons (pe_call G_law_draw (hr.mono (by decide)) (by rfl) m_law_draw k_law_draw b_law_draw .nil pass0 (pa_cons (pv 0) (pa_cons (pv 1) (pa_cons (pe_op op_pow pe_int pe_int) pa_nil)))) (pa_cons (pe_ix ix_list (pv 3) pe_int (fun _ _ => rfl)) (pa_cons (pv 6) pa_nil)))))))))))), ?_⟩
    have lt26 : ("abcdefghijklmnopqrstuvwxyz" : Str).length = 26 := by decide +kernel
    have ltc : ∀ c, c ∈ codes ("abcdefghijklmnopqrstuvwxyz" : Str) → c < 128 := by decide +kernel
    refine ⟨bigN (by show 0 ≤ _; decide), fun w hw => ?_⟩
    have nws : ¬ w = s0 := hS.ne hw
    refine ⟨_, rfl, by decide, by decide, ?_⟩
    refine for_it walk_range (fun i σ H1 => ∃ (ys : List Str) (w4 : Option V), σ = [some (.ref a), some (.ref s0), some (.str "abcdefghijklmnopqrstuvwxyz"), some (.ref w), w4, none, none, none] ∧ H1 w = some (.lst (ys.map V.str)) ∧ ys.length = i ∧ (∀ y, y ∈ ys → TxtOk 1000 y) ∧ Frm [w, s0] H H1 ∧ Scr K H1 a s0)
      ⟨[], _, rfl, upd_same, rfl, (fun y h => by cases h), Frm.put (by simp), hS.same (Same.new hw)⟩ (fun _ _ _ _ _ => trivial) ?_ ?_
    · rintro i x σ H1o H1 hi ⟨ys, w4, rfl, e1, hy, ht, f1, sc1⟩ ⟨rfl, rfl⟩
      refine ⟨_, rfl, .inl ⟨rfl, _, SqL.of e1⟩, ?_⟩
      refine ⟨⟨_, rfl⟩, _, rfl, _, rfl, a, s0, 8, rfl, sc1, by decide, by decide, fun mn H2 m0 m1 f2 sc2 => ⟨_, _, rfl, rfl, _, rfl, by omega, by omega, fun D hD => ?_⟩⟩
      have nDs : ¬ D = s0 := sc2.ne hD
      have nD : ¬ D ∈ [s0] := fun y => nDs (by simpa using y)
      refine lc_it walk_range (fun j H3 => ∃ cs : List Nat, H3 D = some (.lst ((cs.map sgl).map V.str)) ∧ cs.length = j ∧ (∀ c, c ∈ cs → c < 128) ∧ Frm [D, s0] H2 H3 ∧ Scr K H3 a s0) ⟨[], upd_same, rfl, (fun x h => by cases h), (Frm.put List.mem_cons_self), sc2.same (Same.new hD)⟩ (fun _ _ _ _ => trivial) ?_ ?_
      · rintro j x H3o H3 hj ⟨cs, g3, hk, hb, f3, sc3⟩ ⟨rfl, rfl⟩
        refine ⟨rfl, ?_⟩
        refine ⟨_, rfl, _, rfl, _, rfl, a, s0, 26, rfl, sc3, by decide, by decide, fun d H4 d0 d1 f4 sc4 => ?_⟩
        obtain ⟨jn, rfl⟩ : ∃ jn : Nat, d = (jn : Int) := ⟨d.toNat, by omega⟩
        have hcod : (codes ("abcdefghijklmnopqrstuvwxyz" : Str)).length = 26 := by rw [codes_len, lt26]
        have hj26 : (codes ("abcdefghijklmnopqrstuvwxyz" : Str))[jn]? = some (codes ("abcdefghijklmnopqrstuvwxyz" : Str))[jn] := List.getElem?_eq_getElem (by omega)
        generalize (codes ("abcdefghijklmnopqrstuvwxyz" : Str))[jn] = cj at hj26
        have g4 := f4 _ _ nD g3
        have fr := (f3.trans (f4.mono (fun b h => List.mem_cons_of_mem _ h))).put' (o := .lst ((cs.map sgl).map V.str ++ [.str (sgl cj)])) (List.mem_cons_self (a := D) (l := [s0]))
        refine ⟨_, _, cj, rfl, rfl, bigN (by rw [lt26]; decide), atI_nat hj26, ?_⟩
        refine ⟨_, g4, small1000 (by simp only [List.length_map]; omega), cs ++ [cj], by rw [upd_same, List.map_append, List.map_append]; rfl, by rw [List.length_append, hk]; rfl, fun x hx => ?_, fr, ?_⟩
        · rcases List.mem_append.mp hx with q | q
          · exact hb x q
          · rw [List.mem_singleton.mp q]
            exact ltc cj (List.mem_of_getElem? hj26)
        · obtain ⟨i1, i2, i3, i4, e4⟩ := sc4.2
          exact scr_of sc2 hD fr ⟨i1, i2, i3, i4, by rw [upd_ne (fun q => nDs q.symm)]; exact e4⟩
      · rintro H3 ⟨cs, g3, hk, hb, f3, sc3⟩
        have jo := join_ok' cs hb
        have hk8 : cs.length ≤ 8 := by omega
        have g3w : H3 w = some (.lst (ys.map V.str)) := f3 _ _ (by
          have nwD : ¬ w = D := fun e => by
            have q := f2 _ _ (by simpa using nws) e1
            rw [e, hD] at q
            cases q
          simp [nwD, nws]) (f2 _ _ (by simpa using nws) e1)
        have f13 : Frm [s0] H1 H3 := f2.trans (Frm.drop hD (Frm.refl _ _) f3)
        refine ⟨_, D, cs.map sgl, rfl, rfl, .inl (SqL.of g3), ?_, w, _, _, rfl, rfl, g3w, small1000 (by rw [List.length_map]; omega), ?_⟩
        · have hb := sum_len_le (b := 1) (ys := cs.map sgl) (fun y hy => by
            obtain ⟨c, _, rfl⟩ := List.mem_map.mp hy
            exact Nat.le_refl _)
          have l1 : ("" : Str).length = 0 := by decide +kernel
          rw [l1]
          rw [List.length_map] at hb ⊢
          omega
        have fr : Frm [w, s0] H (upd H3 w (.lst (ys.map V.str ++ [V.str (Txt.join ("" : Str) (cs.map sgl))]))) := (f1.trans (f13.mono (ys := [w, s0]) (by simp))).put' (by simp)
        obtain ⟨i1, i2, i3, i4, e4⟩ := sc3.2
        refine ⟨ys ++ [Txt.join ("" : Str) (cs.map sgl)], _, rfl, by rw [upd_same, List.map_append]; rfl, by rw [List.length_append, hy]; rfl, fun y hy' => ?_, fr, scr_of hS hw fr ⟨i1, i2, i3, i4, by rw [upd_ne (fun q => nws q.symm)]; exact e4⟩⟩
        rcases List.mem_append.mp hy' with q | q
        · exact ht y q
        · rw [List.mem_singleton.mp q]
          exact jo.mono (by omega)
    rintro σ H1 ⟨ys, w4, rfl, e1, hy, ht, f1, sc1⟩
    obtain ⟨z0, z2, rfl⟩ : ∃ z0 z2, ys = [z0, z2] := by
      match ys, hy with
      | [x, y], _ => exact ⟨x, y, rfl⟩
    have t0 := ht z0 (by simp)
    have t2 := ht z2 (by simp)
    refine ⟨_, rfl, _, rfl, a, s0, 4, rfl, sc1, by decide, by decide, fun mn H2 m0 m1 f2 sc2 => ⟨_, _, rfl, rfl, _, rfl, by omega, by omega, fun D hD => ?_⟩⟩
    have nDs : ¬ D = s0 := sc2.ne hD
    have nD : ¬ D ∈ [s0] := fun y => nDs (by simpa using y)
    refine lc_it walk_range (fun i H3 => ∃ ks : List Int, H3 D = some (.lst (ks.map V.int)) ∧ ks.length = i ∧ (∀ x, x ∈ ks → 0 ≤ x ∧ x ≤ 8) ∧ Frm [D, s0] H2 H3 ∧ Scr K H3 a s0) ⟨[], upd_same, rfl, (fun x h => by cases h), (Frm.put List.mem_cons_self), sc2.same (Same.new hD)⟩ (fun _ _ _ _ => trivial) ?_ ?_
    · rintro i x H3o H3 hi ⟨ks, g3, hk, hb, f3, sc3⟩ ⟨rfl, rfl⟩
      refine ⟨rfl, ?_⟩
      refine ⟨_, rfl, _, rfl, a, s0, 9, rfl, sc3, by decide, by decide, fun d H4 d0 d1 f4 sc4 => ?_⟩
      have g4 := f4 _ _ nD g3
      have fr := (f3.trans (f4.mono (fun b h => List.mem_cons_of_mem _ h))).put' (o := .lst (ks.map V.int ++ [.int d])) (List.mem_cons_self (a := D) (l := [s0]))
      refine ⟨_, g4, small1000 (by rw [List.length_map, hk]; omega), ks ++ [d], by rw [upd_same, List.map_append]; rfl, by rw [List.length_append, hk]; rfl, fun x hx => ?_, fr, ?_⟩
      · rcases List.mem_append.mp hx with q | q
        · exact hb x q
        · rw [List.mem_singleton.mp q]
          omega
      · obtain ⟨i1, i2, i3, i4, e4⟩ := sc4.2
        exact scr_of sc2 hD fr ⟨i1, i2, i3, i4, by rw [upd_ne (fun q => nDs q.symm)]; exact e4⟩
    rintro H3 ⟨ls, g3, hk, hb, f3, sc3⟩
    have f23 : Frm [s0] H2 H3 := Frm.drop hD (Frm.refl _ _) f3
    have nwS : ¬ w ∈ [s0] := fun y => nws (by simpa using y)
    have e3 : H3 w = some (.lst ([z0, z2].map V.str)) := f23 _ _ nwS (f2 _ _ nwS e1)
    refine ⟨_, rfl, _, rfl, _, rfl, a, s0, 9, rfl, sc3, by decide, by decide, fun t H4 t0' t1' f4 sc4 => ⟨_, rfl, _, rfl, a, s0, 4, rfl, sc4, by decide, by decide, fun m H5 m0' m1' f5 sc5 => ?_⟩⟩
    have g5 := f5 _ _ nD (f4 _ _ nD g3)
    have hv : VStand ls t m := ⟨by omega, by omega, hb, by omega, by omega, by omega, by omega⟩
    refine fun y dy ny nd _ => stand_make hv (.inl (SqL.of g5)) ny nd fun H6 s6 st => ?_
    have f16 : Frm [s0] H1 H6 := (f2.trans f23).trans ((f4.trans f5).trans (Frm.of_same s6))
    have e6 : H6 w = some (.lst ([z0, z2].map V.str)) := s6 _ _ (f5 _ _ nwS (f4 _ _ nwS e3))
    have sc6 := sc5.same s6
    -- the standing is no part of the state
    have sth : StandAt C_Standing (hid [s0] H6) y ls t m := by
      obtain ⟨dx, q, a1, a2⟩ := st
      obtain ⟨_, _, _, _, es⟩ := sc6.2
      refine ⟨dx, q, ?_, ?_⟩
      · rw [hid_eq (fun z => by rw [List.mem_singleton.mp z, es] at a1; cases a1)]
        exact a1
      · rw [hid_eq (fun z => by rw [List.mem_singleton.mp z, es] at a2; cases a2)]
        exact a2
    refine ⟨_, rfl, w, _, _, _, rfl, rfl, SqL.of e6, rfl, _, rfl, _, rfl, _, _, rfl, rfl, ⟨by decide, by decide, by decide⟩, a, s0, 1000000, rfl, sc6, by decide, by decide, fun n H7 n0 n1 f7 sc7 => ?_⟩
    have e7 := f7 _ _ nwS e6
    refine ⟨_, rfl, w, _, _, _, rfl, rfl, SqL.of e7, rfl, _, rfl, bigN (by show 4 ≤ _; decide), fun q hq => ?_⟩
    have sq : Same H7 (upd H7 q (.tup [.str z0, .int n, .str z2, .ref y])) := Same.new hq
    refine kE q z0 z2 n y ls t m _ ?_ (sc7.same sq) t0 t2 ?_ ((sth.frm f7).frm (Frm.of_same sq))
    · exact Frm.drop hw (Frm.refl _ _) (f1.trans (((f16.trans f7).trans (Frm.of_same sq)).mono (by simp)))
    · rw [hid_eq (fun z => (sc7.ne hq) (List.mem_singleton.mp z))]
      exact upd_same

theorem oklaw {f : Addr} {fd : FuncData} (F : Fun K "law" "law" slaw f fd) (T : Txt K mg) {C_BadName C_BadNumber C_BadTurn C_BadStanding C_TooMany C_DriedOut C_NotSafe C_BadPaper C_Unlike C_NothingFits C_BadText C_NothingToUndo C_BadDeed C_WaterError C_Standing : Addr} (KD : ∀ (j : Nat) (C : Addr), ([C_BadName, C_BadNumber, C_BadTurn, C_BadStanding, C_TooMany, C_DriedOut, C_NotSafe, C_BadPaper, C_Unlike, C_NothingFits, C_BadText, C_NothingToUndo, C_BadDeed] : List Addr)[j]? = some C → KdF K C_WaterError [C_BadName, C_BadNumber, C_BadTurn, C_BadStanding, C_TooMany, C_DriedOut, C_NotSafe, C_BadPaper, C_Unlike, C_NothingFits, C_BadText, C_NothingToUndo, C_BadDeed] j C) (C_law_start : Cal P w K mg base "_law_start" P_law_start 1 (sp_law_start K)) (C_law_values : Cal P w K mg base "_law_values" P_law_values 8 (sp_law_values K C_Standing)) (C_law_caught : Cal P w K mg base "_law_caught" P_law_caught 5 (sp_law_caught [C_BadName, C_BadNumber, C_BadTurn, C_BadStanding, C_TooMany, C_DriedOut, C_NotSafe, C_BadPaper, C_Unlike, C_NothingFits, C_BadText, C_NothingToUndo, C_BadDeed])) (C_law_holds : Cal P w K mg base "_law_holds" P_law_holds 3 (sp_law_holds K C_WaterError C_Standing [C_BadName, C_BadNumber, C_BadTurn, C_BadStanding, C_TooMany, C_DriedOut, C_NotSafe, C_BadPaper, C_Unlike, C_NothingFits, C_BadText, C_NothingToUndo, C_BadDeed])) : FnOk P w K mg base CX0 9 f fd Plaw (splaw K) := by
  obtain ⟨g_law_start, gd_law_start, G_law_start, m_law_start, k_law_start, b_law_start⟩ := C_law_start.ex
  obtain ⟨g_law_values, gd_law_values, G_law_values, m_law_values, k_law_values, b_law_values⟩ := C_law_values.ex
  obtain ⟨g_law_caught, gd_law_caught, G_law_caught, m_law_caught, k_law_caught, b_law_caught⟩ := C_law_caught.ex
  obtain ⟨g_law_holds, gd_law_holds, G_law_holds, m_law_holds, k_law_holds, b_law_holds⟩ := C_law_holds.ex
  refine F.ok sclaw (fun vs H Q E h => ?_) (fun cdv A outer s H vs Q E hr h => ?_)
  · obtain ⟨a, ns, rfl, hS, hlen, k⟩ := h
    rfl
  · obtain ⟨a, ns, rfl, hS, hlen, k⟩ := h
    refine ⟨_, (pss_cons (ps_set (i := 1) sclaw.nd rfl (by first | exact Or.inl rfl | exact Or.inr rfl) (pe_call G_law_start (hr.mono (by decide)) (by rfl) m_law_start k_law_start b_law_start .nil pass0 (pa_cons (pv 0) pa_nil)))
  (pss_cons (ps_for PassesOwn.never rfl (pi_range1 rfl T.b_range (pa_cons pe_int pa_nil)) (pg_name (i := 2) sclaw.nd rfl (by first | exact Or.inl rfl | exact Or.inr rfl))
  (pss_cons (ps_set (i := 3) sclaw.nd rfl (by first | exact Or.inl rfl | exact Or.inr rfl) (pe_call G_law_values (hr.mono (by decide)) (by rfl) m_law_values k_law_values b_law_values .nil pass0 (pa_cons (pv 0) (pa_cons (pv 1) pa_nil))))
  (pss_cons (ps_set (i := 4) sclaw.nd rfl (by first | exact Or.inl rfl | exact Or.inr rfl) (pe_call G_law_values (hr.mono (by decide)) (by rfl) m_law_values k_law_values b_law_values .nil pass0 (pa_cons (pv 0) (pa_cons (pv 1) pa_nil))))
  (pss_cons (ps_set (i := 5) sclaw.nd rfl (by first | exact Or.inl rfl | exact Or.inr rfl) (pe_call G_law_caught (hr.mono (by decide)) (by rfl) m_law_caught k_law_caught b_law_caught .nil pass0 (pa_cons (pv 2) (pa_cons (pv 3) pa_nil))))
  (pss_cons (ps_set (i := 6) sclaw.nd rfl (by first | exact Or.inl rfl | exact Or.inr rfl) (pe_call G_law_caught (hr.mono (by decide)) (by rfl) m_law_caught k_law_caught b_law_caught .nil pass0 (pa_cons (pv 2) (pa_cons (pv 4) pa_nil))))
  (pss_one (ps_if (PW.pt (pw_or (pt_not (pt_val (pe_call G_law_holds (hr.mono (by decide)) (by rfl) m_law_holds k_law_holds b_law_holds .nil pass0 (pa_cons (pv 5) (pa_cons (pv 2) (pa_cons (pv 3) pa_nil)))))) (pw_or1 (pt_not (pt_val (pe_call G_law_holds (hr.mono (by decide)) (by rfl) m_law_holds k_law_holds b_law_holds .nil pass0 (pa_cons (pv 6) (pa_cons (pv 2) (pa_cons (pv 4) pa_nil)))))))))
  (pss_one (ps_ret pe_bl))
  pss_nil)))))))
  (pss_one (ps_ret pe_bl)))), ?_⟩
    refine ⟨_, rfl, a, ns, rfl, hS, hlen, fun s0 H1 s1 h0s sc1 => ?_⟩
    refine ⟨_, rfl, by decide, by decide, ?_⟩
    refine for_it walk_range (fun i σ H2 => ∃ (w2 w3 w4 w5 w6 : Option V), σ = [some (.ref a), some (.ref s0), w2, w3, w4, w5, w6] ∧ Scr K H2 a s0)
      ⟨_, _, _, _, _, rfl, sc1⟩ (fun _ _ _ _ _ => trivial) ?_ ?_
    · rintro i x σ H2o H2 hi ⟨w2, w3, w4, w5, w6, rfl, sc2⟩ ⟨rfl, rfl⟩
      have hi' : i < 13 := hi
      refine ⟨_, rfl, _, rfl, a, s0, rfl, sc2, fun q z0 z2 n p ls t m H3 f3 sc3 t0 t2 hq hp => ?_⟩
      refine ⟨_, rfl, _, rfl, a, s0, rfl, sc3, fun q' z0' z2' n' p' ls' t' m' H4 f4 sc4 t0' t2' hq' hp' => ?_⟩
      have hq4 := hid_same _ _ _ _ (hid_frm f4 _ _ hq)
      have hp4 := (hp.frm f4).same (hid_same _ _)
      have hq4' := hid_same _ _ _ _ hq'
      have hp4' := hp'.same (hid_same _ _)
      obtain ⟨C0, hC0⟩ : ∃ C0, ([C_BadName, C_BadNumber, C_BadTurn, C_BadStanding, C_TooMany, C_DriedOut, C_NotSafe, C_BadPaper, C_Unlike, C_NothingFits, C_BadText, C_NothingToUndo, C_BadDeed] : List Addr)[i]? = some C0 := ⟨([C_BadName, C_BadNumber, C_BadTurn, C_BadStanding, C_TooMany, C_DriedOut, C_NotSafe, C_BadPaper, C_Unlike, C_NothingFits, C_BadText, C_NothingToUndo, C_BadDeed] : List Addr)[i], List.getElem?_eq_getElem (by simpa using hi')⟩
      refine ⟨_, rfl, _, rfl, i, q, z0, z2, n, p, by simp, by omega, hq4, t0, t2, fun C b d H5 hC s5 eb th => ?_⟩
      refine ⟨_, rfl, _, rfl, i, q', z0', z2', n', p', by simp, by omega, s5 _ _ hq4', t0', t2', fun C' b' d' H6 hC' s6 eb' th' => ?_⟩
      refine ⟨_, rfl, _, rfl, _, rfl, b, C, i, d, q, z0, z2, n, p, ls, t, m, by simp, by omega, t0, t2, KD i C hC, s6 _ _ eb, th.same s6, s6 _ _ (s5 _ _ hq4), (hp4.same s5).same s6, fun H7 s7 => ⟨_, rfl, iteF ?_⟩⟩
      refine ⟨_, rfl, _, rfl, _, rfl, b', C', i, d', q', z0', z2', n', p', ls', t', m', by simp, by omega, t0', t2', KD i C' hC', s7 _ _ eb', th'.same s7, s7 _ _ (s6 _ _ (s5 _ _ hq4')), ((hp4'.same s5).same s6).same s7, fun H8 s8 => ⟨_, rfl, iteF ?_⟩⟩
      exact ⟨_, _, _, _, _, rfl, ((sc4.same s5).same s6).same (s7.trans s8)⟩
    rintro σ H2 ⟨w2, w3, w4, w5, w6, rfl, sc2⟩
    exact k _
end
end Wb

namespace Wb
open PySem PySem.Spec PyProof.Rows L2 Wx NdefX RZ StX PyProof.Rows.FinIter
section
theorem all_mk {l : PySem.W.OpenLaw} {w : World} {K : PySem.W.Frag} {h : Heap} {mg : Str → Option Value} {fa : Addr}
    {oc0 kV0 dc0 pm0 cd0 ct0 : Value} {od0 an0 : Option Addr} {sl0 : Array (Option Value)} {f0 : Addr}
    {oc1 kV1 dc1 pm1 cd1 ct1 : Value} {od1 an1 : Option Addr} {sl1 : Array (Option Value)} {f1 : Addr}
    {oc2 kV2 dc2 pm2 cd2 ct2 : Value} {od2 an2 : Option Addr} {sl2 : Array (Option Value)} {f2 : Addr}
    {oc3 kV3 dc3 pm3 cd3 ct3 : Value} {od3 an3 : Option Addr} {sl3 : Array (Option Value)} {f3 : Addr}
    {oc4 kV4 dc4 pm4 cd4 ct4 : Value} {od4 an4 : Option Addr} {sl4 : Array (Option Value)} {f4 : Addr}
    {oc5 kV5 dc5 pm5 cd5 ct5 : Value} {od5 an5 : Option Addr} {sl5 : Array (Option Value)} {f5 : Addr}
    {oc6 kV6 dc6 pm6 cd6 ct6 : Value} {od6 an6 : Option Addr} {sl6 : Array (Option Value)} {f6 : Addr}
    {oc7 kV7 dc7 pm7 cd7 ct7 : Value} {od7 an7 : Option Addr} {sl7 : Array (Option Value)} {f7 : Addr}
    {oc8 kV8 dc8 pm8 cd8 ct8 : Value} {od8 an8 : Option Addr} {sl8 : Array (Option Value)} {f8 : Addr}
    {oc9 kV9 dc9 pm9 cd9 ct9 : Value} {od9 an9 : Option Addr} {sl9 : Array (Option Value)} {f9 : Addr}
    {oc10 kV10 dc10 pm10 cd10 ct10 : Value} {od10 an10 : Option Addr} {sl10 : Array (Option Value)} {f10 : Addr}
    {t_MOST_PLOTS : Tok}
    {t_MOST_UNITS : Tok}
    {t_MOST_MOODS : Tok}
    {nm_BadName qn_BadName fl_BadName : Str} {N_BadName C_BadName f_BadName cda_BadName cc_BadName : Addr} {bs_BadName sub_BadName bm_BadName : List Value} {sn_BadName : List Str} {ab_BadName : Bool} {col_BadName : Option Bool} {dd_BadName od_BadName an_BadName cdd_BadName cld_BadName : Option Addr} {m0_BadName m1_BadName m2_BadName m3_BadName m5_BadName : Option Value} {oc_BadName kV_BadName doc_BadName pm_BadName ct_BadName ccl_BadName clv_BadName : Value} {osl_BadName ccs_BadName csl_BadName : Array (Option Value)} {vs_BadName : Array Value} {tf_BadName : Tok}
    {nm_BadNumber qn_BadNumber fl_BadNumber : Str} {N_BadNumber C_BadNumber f_BadNumber cda_BadNumber cc_BadNumber : Addr} {bs_BadNumber sub_BadNumber bm_BadNumber : List Value} {sn_BadNumber : List Str} {ab_BadNumber : Bool} {col_BadNumber : Option Bool} {dd_BadNumber od_BadNumber an_BadNumber cdd_BadNumber cld_BadNumber : Option Addr} {m0_BadNumber m1_BadNumber m2_BadNumber m3_BadNumber m5_BadNumber : Option Value} {oc_BadNumber kV_BadNumber doc_BadNumber pm_BadNumber ct_BadNumber ccl_BadNumber clv_BadNumber : Value} {osl_BadNumber ccs_BadNumber csl_BadNumber : Array (Option Value)} {vs_BadNumber : Array Value} {tf_BadNumber : Tok}
    {nm_BadTurn qn_BadTurn fl_BadTurn : Str} {N_BadTurn C_BadTurn f_BadTurn cda_BadTurn cc_BadTurn : Addr} {bs_BadTurn sub_BadTurn bm_BadTurn : List Value} {sn_BadTurn : List Str} {ab_BadTurn : Bool} {col_BadTurn : Option Bool} {dd_BadTurn od_BadTurn an_BadTurn cdd_BadTurn cld_BadTurn : Option Addr} {m0_BadTurn m1_BadTurn m2_BadTurn m3_BadTurn m5_BadTurn : Option Value} {oc_BadTurn kV_BadTurn doc_BadTurn pm_BadTurn ct_BadTurn ccl_BadTurn clv_BadTurn : Value} {osl_BadTurn ccs_BadTurn csl_BadTurn : Array (Option Value)} {vs_BadTurn : Array Value} {tf_BadTurn : Tok}
    {nm_BadStanding qn_BadStanding fl_BadStanding : Str} {N_BadStanding C_BadStanding f_BadStanding cda_BadStanding cc_BadStanding : Addr} {bs_BadStanding sub_BadStanding bm_BadStanding : List Value} {sn_BadStanding : List Str} {ab_BadStanding : Bool} {col_BadStanding : Option Bool} {dd_BadStanding od_BadStanding an_BadStanding cdd_BadStanding cld_BadStanding : Option Addr} {m0_BadStanding m1_BadStanding m2_BadStanding m3_BadStanding m5_BadStanding : Option Value} {oc_BadStanding kV_BadStanding doc_BadStanding pm_BadStanding ct_BadStanding ccl_BadStanding clv_BadStanding : Value} {osl_BadStanding ccs_BadStanding csl_BadStanding : Array (Option Value)} {vs_BadStanding : Array Value} {tf_BadStanding : Tok}
    {nm_TooMany qn_TooMany fl_TooMany : Str} {N_TooMany C_TooMany f_TooMany cda_TooMany cc_TooMany : Addr} {bs_TooMany sub_TooMany bm_TooMany : List Value} {sn_TooMany : List Str} {ab_TooMany : Bool} {col_TooMany : Option Bool} {dd_TooMany od_TooMany an_TooMany cdd_TooMany cld_TooMany : Option Addr} {m0_TooMany m1_TooMany m2_TooMany m3_TooMany m5_TooMany : Option Value} {oc_TooMany kV_TooMany doc_TooMany pm_TooMany ct_TooMany ccl_TooMany clv_TooMany : Value} {osl_TooMany ccs_TooMany csl_TooMany : Array (Option Value)} {vs_TooMany : Array Value} {tf_TooMany : Tok}
    {nm_DriedOut qn_DriedOut fl_DriedOut : Str} {N_DriedOut C_DriedOut f_DriedOut cda_DriedOut cc_DriedOut : Addr} {bs_DriedOut sub_DriedOut bm_DriedOut : List Value} {sn_DriedOut : List Str} {ab_DriedOut : Bool} {col_DriedOut : Option Bool} {dd_DriedOut od_DriedOut an_DriedOut cdd_DriedOut cld_DriedOut : Option Addr} {m0_DriedOut m1_DriedOut m2_DriedOut m3_DriedOut m5_DriedOut : Option Value} {oc_DriedOut kV_DriedOut doc_DriedOut pm_DriedOut ct_DriedOut ccl_DriedOut clv_DriedOut : Value} {osl_DriedOut ccs_DriedOut csl_DriedOut : Array (Option Value)} {vs_DriedOut : Array Value} {tf_DriedOut : Tok}
    {nm_NotSafe qn_NotSafe fl_NotSafe : Str} {N_NotSafe C_NotSafe f_NotSafe cda_NotSafe cc_NotSafe : Addr} {bs_NotSafe sub_NotSafe bm_NotSafe : List Value} {sn_NotSafe : List Str} {ab_NotSafe : Bool} {col_NotSafe : Option Bool} {dd_NotSafe od_NotSafe an_NotSafe cdd_NotSafe cld_NotSafe : Option Addr} {m0_NotSafe m1_NotSafe m2_NotSafe m3_NotSafe m5_NotSafe : Option Value} {oc_NotSafe kV_NotSafe doc_NotSafe pm_NotSafe ct_NotSafe ccl_NotSafe clv_NotSafe : Value} {osl_NotSafe ccs_NotSafe csl_NotSafe : Array (Option Value)} {vs_NotSafe : Array Value} {tf_NotSafe : Tok}
    {nm_BadPaper qn_BadPaper fl_BadPaper : Str} {N_BadPaper C_BadPaper f_BadPaper cda_BadPaper cc_BadPaper : Addr} {bs_BadPaper sub_BadPaper bm_BadPaper : List Value} {sn_BadPaper : List Str} {ab_BadPaper : Bool} {col_BadPaper : Option Bool} {dd_BadPaper od_BadPaper an_BadPaper cdd_BadPaper cld_BadPaper : Option Addr} {m0_BadPaper m1_BadPaper m2_BadPaper m3_BadPaper m5_BadPaper : Option Value} {oc_BadPaper kV_BadPaper doc_BadPaper pm_BadPaper ct_BadPaper ccl_BadPaper clv_BadPaper : Value} {osl_BadPaper ccs_BadPaper csl_BadPaper : Array (Option Value)} {vs_BadPaper : Array Value} {tf_BadPaper : Tok}
    {nm_NothingFits qn_NothingFits fl_NothingFits : Str} {N_NothingFits C_NothingFits f_NothingFits cda_NothingFits cc_NothingFits : Addr} {bs_NothingFits sub_NothingFits bm_NothingFits : List Value} {sn_NothingFits : List Str} {ab_NothingFits : Bool} {col_NothingFits : Option Bool} {dd_NothingFits od_NothingFits an_NothingFits cdd_NothingFits cld_NothingFits : Option Addr} {m0_NothingFits m1_NothingFits m2_NothingFits m3_NothingFits m5_NothingFits : Option Value} {oc_NothingFits kV_NothingFits doc_NothingFits pm_NothingFits ct_NothingFits ccl_NothingFits clv_NothingFits : Value} {osl_NothingFits ccs_NothingFits csl_NothingFits : Array (Option Value)} {vs_NothingFits : Array Value} {tf_NothingFits : Tok}
    {nm_BadText qn_BadText fl_BadText : Str} {N_BadText C_BadText f_BadText cda_BadText cc_BadText : Addr} {bs_BadText sub_BadText bm_BadText : List Value} {sn_BadText : List Str} {ab_BadText : Bool} {col_BadText : Option Bool} {dd_BadText od_BadText an_BadText cdd_BadText cld_BadText : Option Addr} {m0_BadText m1_BadText m2_BadText m3_BadText m5_BadText : Option Value} {oc_BadText kV_BadText doc_BadText pm_BadText ct_BadText ccl_BadText clv_BadText : Value} {osl_BadText ccs_BadText csl_BadText : Array (Option Value)} {vs_BadText : Array Value} {tf_BadText : Tok}
    {nm_BadDeed qn_BadDeed fl_BadDeed : Str} {N_BadDeed C_BadDeed f_BadDeed cda_BadDeed cc_BadDeed : Addr} {bs_BadDeed sub_BadDeed bm_BadDeed : List Value} {sn_BadDeed : List Str} {ab_BadDeed : Bool} {col_BadDeed : Option Bool} {dd_BadDeed od_BadDeed an_BadDeed cdd_BadDeed cld_BadDeed : Option Addr} {m0_BadDeed m1_BadDeed m2_BadDeed m3_BadDeed m5_BadDeed : Option Value} {oc_BadDeed kV_BadDeed doc_BadDeed pm_BadDeed ct_BadDeed ccl_BadDeed clv_BadDeed : Value} {osl_BadDeed ccs_BadDeed csl_BadDeed : Array (Option Value)} {vs_BadDeed : Array Value} {tf_BadDeed : Tok}
    {C_WaterError : Addr}
    {C_Unlike : Addr}
    {C_NothingToUndo : Addr}
    {C_Standing : Addr}
    {oc_Standing_init kV_Standing_init dc_Standing_init pm_Standing_init cd_Standing_init ct_Standing_init : Value} {od_Standing_init an_Standing_init : Option Addr} {sl_Standing_init : Array (Option Value)} {f_Standing_init : Addr}
    {oc_Standing_eq kV_Standing_eq dc_Standing_eq pm_Standing_eq cd_Standing_eq ct_Standing_eq : Value} {od_Standing_eq an_Standing_eq : Option Addr} {sl_Standing_eq : Array (Option Value)} {f_Standing_eq : Addr}
    (X : K.In h) (G : h.Ns mainGlobals mg) (hfa : mg "law" = some (.ref fa))
    (a0 : PySem.W.nsIn K mainGlobals "_shown" = some (some (.ref f0)))
    (l0 : K.lookup f0 = some ⟨oc0, od0, .func (PySem.W.fnOf "_shown" "_shown" (defArgs s_shown) (defBody s_shown) (defScope s_shown) .none kV0 dc0 pm0 an0 cd0 ct0), sl0⟩)
    (c0 : PySem.W.codeIn K cd0 "_shown" = true)
    (k0 : PySem.W.keepIn K (.ref f0) = true)
    (a1 : PySem.W.nsIn K mainGlobals "check_number" = some (some (.ref f1)))
    (l1 : K.lookup f1 = some ⟨oc1, od1, .func (PySem.W.fnOf "check_number" "check_number" (defArgs scheck_number) (defBody scheck_number) (defScope scheck_number) .none kV1 dc1 pm1 an1 cd1 ct1), sl1⟩)
    (c1 : PySem.W.codeIn K cd1 "check_number" = true)
    (k1 : PySem.W.keepIn K (.ref f1) = true)
    (a2 : PySem.W.nsIn K mainGlobals "check_units" = some (some (.ref f2)))
    (l2 : K.lookup f2 = some ⟨oc2, od2, .func (PySem.W.fnOf "check_units" "check_units" (defArgs scheck_units) (defBody scheck_units) (defScope scheck_units) .none kV2 dc2 pm2 an2 cd2 ct2), sl2⟩)
    (c2 : PySem.W.codeIn K cd2 "check_units" = true)
    (k2 : PySem.W.keepIn K (.ref f2) = true)
    (a3 : PySem.W.nsIn K mainGlobals "_law_start" = some (some (.ref f3)))
    (l3 : K.lookup f3 = some ⟨oc3, od3, .func (PySem.W.fnOf "_law_start" "_law_start" (defArgs s_law_start) (defBody s_law_start) (defScope s_law_start) .none kV3 dc3 pm3 an3 cd3 ct3), sl3⟩)
    (c3 : PySem.W.codeIn K cd3 "_law_start" = true)
    (k3 : PySem.W.keepIn K (.ref f3) = true)
    (a4 : PySem.W.nsIn K mainGlobals "_law_draw" = some (some (.ref f4)))
    (l4 : K.lookup f4 = some ⟨oc4, od4, .func (PySem.W.fnOf "_law_draw" "_law_draw" (defArgs s_law_draw) (defBody s_law_draw) (defScope s_law_draw) .none kV4 dc4 pm4 an4 cd4 ct4), sl4⟩)
    (c4 : PySem.W.codeIn K cd4 "_law_draw" = true)
    (k4 : PySem.W.keepIn K (.ref f4) = true)
    (a5 : PySem.W.nsIn K mainGlobals "_law_kinds" = some (some (.ref f5)))
    (l5 : K.lookup f5 = some ⟨oc5, od5, .func (PySem.W.fnOf "_law_kinds" "_law_kinds" (defArgs s_law_kinds) (defBody s_law_kinds) (defScope s_law_kinds) .none kV5 dc5 pm5 an5 cd5 ct5), sl5⟩)
    (c5 : PySem.W.codeIn K cd5 "_law_kinds" = true)
    (k5 : PySem.W.keepIn K (.ref f5) = true)
    (a6 : PySem.W.nsIn K mainGlobals "_law_throw" = some (some (.ref f6)))
    (l6 : K.lookup f6 = some ⟨oc6, od6, .func (PySem.W.fnOf "_law_throw" "_law_throw" (defArgs s_law_throw) (defBody s_law_throw) (defScope s_law_throw) .none kV6 dc6 pm6 an6 cd6 ct6), sl6⟩)
    (c6 : PySem.W.codeIn K cd6 "_law_throw" = true)
    (k6 : PySem.W.keepIn K (.ref f6) = true)
    (a7 : PySem.W.nsIn K mainGlobals "_law_caught" = some (some (.ref f7)))
    (l7 : K.lookup f7 = some ⟨oc7, od7, .func (PySem.W.fnOf "_law_caught" "_law_caught" (defArgs s_law_caught) (defBody s_law_caught) (defScope s_law_caught) .none kV7 dc7 pm7 an7 cd7 ct7), sl7⟩)
    (c7 : PySem.W.codeIn K cd7 "_law_caught" = true)
    (k7 : PySem.W.keepIn K (.ref f7) = true)
    (a8 : PySem.W.nsIn K mainGlobals "_law_holds" = some (some (.ref f8)))
    (l8 : K.lookup f8 = some ⟨oc8, od8, .func (PySem.W.fnOf "_law_holds" "_law_holds" (defArgs s_law_holds) (defBody s_law_holds) (defScope s_law_holds) .none kV8 dc8 pm8 an8 cd8 ct8), sl8⟩)
    (c8 : PySem.W.codeIn K cd8 "_law_holds" = true)
    (k8 : PySem.W.keepIn K (.ref f8) = true)
    (a9 : PySem.W.nsIn K mainGlobals "_law_values" = some (some (.ref f9)))
    (l9 : K.lookup f9 = some ⟨oc9, od9, .func (PySem.W.fnOf "_law_values" "_law_values" (defArgs s_law_values) (defBody s_law_values) (defScope s_law_values) .none kV9 dc9 pm9 an9 cd9 ct9), sl9⟩)
    (c9 : PySem.W.codeIn K cd9 "_law_values" = true)
    (k9 : PySem.W.keepIn K (.ref f9) = true)
    (a10 : PySem.W.nsIn K mainGlobals "law" = some (some (.ref f10)))
    (l10 : K.lookup f10 = some ⟨oc10, od10, .func (PySem.W.fnOf "law" "law" (defArgs slaw) (defBody slaw) (defScope slaw) .none kV10 dc10 pm10 an10 cd10 ct10), sl10⟩)
    (c10 : PySem.W.codeIn K cd10 "law" = true)
    (k10 : PySem.W.keepIn K (.ref f10) = true)
    (z_len : PySem.W.nsIn K mainGlobals "len" = some none)
    (z_abs : PySem.W.nsIn K mainGlobals "abs" = some none)
    (z_int : PySem.W.nsIn K mainGlobals "int" = some none)
    (z_bool : PySem.W.nsIn K mainGlobals "bool" = some none)
    (z_str : PySem.W.nsIn K mainGlobals "str" = some none)
    (z_range : PySem.W.nsIn K mainGlobals "range" = some none)
    (z_all : PySem.W.nsIn K mainGlobals "all" = some none)
    (z_isinstance : PySem.W.nsIn K mainGlobals "isinstance" = some none)
    (z_repr : PySem.W.nsIn K mainGlobals "repr" = some none)
    (z_super : PySem.W.nsIn K mainGlobals "super" = some none)
    (z_tuple : PySem.W.nsIn K mainGlobals "tuple" = some none)
    (z_list : PySem.W.nsIn K mainGlobals "list" = some none)
    (z_zip : PySem.W.nsIn K mainGlobals "zip" = some none)
    (z_enumerate : PySem.W.nsIn K mainGlobals "enumerate" = some none)
    (z_max : PySem.W.nsIn K mainGlobals "max" = some none)
    (z_min : PySem.W.nsIn K mainGlobals "min" = some none)
    (z_ValueError : PySem.W.nsIn K mainGlobals "ValueError" = some none)
    (g_MOST_PLOTS : PySem.W.nsIn K mainGlobals "MOST_PLOTS" = some (some (.int 4 t_MOST_PLOTS)))
    (g_MOST_UNITS : PySem.W.nsIn K mainGlobals "MOST_UNITS" = some (some (.int 8 t_MOST_UNITS)))
    (g_MOST_MOODS : PySem.W.nsIn K mainGlobals "MOST_MOODS" = some (some (.int 4 t_MOST_MOODS)))
    (g_BadName : PySem.W.nsIn K mainGlobals "BadName" = some (some (.ref C_BadName)))
    (x_BadName : K.lookup C_BadName = some (excClassObj nm_BadName qn_BadName C_BadName N_BadName bs_BadName bm_BadName true sn_BadName sub_BadName ab_BadName col_BadName dd_BadName m0_BadName m1_BadName m2_BadName m3_BadName m5_BadName "ValueError.__new__"))
    (r_BadName : PySem.HandSPX.refsVE bm_BadName = true)
    (sa_BadName : PySem.W.findIn K (.ref C_BadName) "__setattr__" = some (some (.builtin "object.__setattr__")))
    (ex_BadName : PySem.W.subIn K (.ref C_BadName) (.type "BaseException") = some true)
    (ty_BadName : PySem.W.typeIn K (.ref C_BadName) = some (.type "type"))
    (kp_BadName : PySem.W.keepIn K (.ref C_BadName) = true)
    (i_BadName : PySem.W.findIn K (.ref C_BadName) "__init__" = some (some (.ref f_BadName)))
    (l_BadName : K.lookup f_BadName = some ⟨oc_BadName, od_BadName, .func (PySem.W.fnX "__init__" "BadName.__init__" (defArgs sBadName___init__) (defBody sBadName___init__) (defScope sBadName___init__) [("__class__", cc_BadName)] .none kV_BadName doc_BadName pm_BadName an_BadName (.ref cda_BadName) ct_BadName), osl_BadName⟩)
    (cd_BadName : PySem.W.codeIn K (.ref cda_BadName) "BadName.__init__" = true)
    (cf_BadName : K.lookup cda_BadName = some ⟨ccl_BadName, cdd_BadName, .fields vs_BadName, ccs_BadName⟩)
    (v2_BadName : vs_BadName[2]? = some (.str fl_BadName tf_BadName))
    (fi_BadName : ((l.prog.main.file : Str) == fl_BadName) = true)
    (cl_BadName : K.lookup cc_BadName = some ⟨clv_BadName, cld_BadName, .cell (some (.ref C_BadName)), csl_BadName⟩)
    (mr_BadName : PySem.W.mroIn K C_BadName (.ref C_BadName) = some true)
    (sb_BadName : PySem.W.subIn K (.ref C_BadName) (.type "ValueError") = some true)
    (su_BadName : PySem.W.ks_superIn K C_BadName C_BadName "__init__" = some (some (.builtin "ValueError.__init__")))
    (ti_BadName : PySem.W.typeIn K (.ref f_BadName) = some (.type "function"))
    (ga_BadName : PySem.W.findIn K (.ref C_BadName) "__getattribute__" = some (some (.builtin "BaseException.__getattribute__")))
    (gg_BadName : PySem.W.findIn K (.ref C_BadName) "__getattr__" = some none)
    (hd_BadName : PySem.W.hasDictIn K C_BadName = true)
    (ha_BadName : PySem.W.findIn K (.ref C_BadName) "__class__" = some (some (.builtin "object.__class__")))
    (mo_BadName : PySem.W.mroIn K C_BadName (.type "object") = some true)
    (em_BadName : PySem.W.subIn K (.ref C_BadName) (.ref C_BadName) = some true)
    (nw_BadName : PySem.W.findIn K (.ref C_BadName) "what" = some none)
    (nv_BadName : PySem.W.findIn K (.ref C_BadName) "value" = some none)
    (nn_BadName : PySem.W.findIn K (.ref C_BadName) "name" = some none)
    (nt_BadName : PySem.W.findIn K (.ref C_BadName) "turn" = some none)
    (g_BadNumber : PySem.W.nsIn K mainGlobals "BadNumber" = some (some (.ref C_BadNumber)))
    (x_BadNumber : K.lookup C_BadNumber = some (excClassObj nm_BadNumber qn_BadNumber C_BadNumber N_BadNumber bs_BadNumber bm_BadNumber true sn_BadNumber sub_BadNumber ab_BadNumber col_BadNumber dd_BadNumber m0_BadNumber m1_BadNumber m2_BadNumber m3_BadNumber m5_BadNumber "ValueError.__new__"))
    (r_BadNumber : PySem.HandSPX.refsVE bm_BadNumber = true)
    (sa_BadNumber : PySem.W.findIn K (.ref C_BadNumber) "__setattr__" = some (some (.builtin "object.__setattr__")))
    (ex_BadNumber : PySem.W.subIn K (.ref C_BadNumber) (.type "BaseException") = some true)
    (ty_BadNumber : PySem.W.typeIn K (.ref C_BadNumber) = some (.type "type"))
    (kp_BadNumber : PySem.W.keepIn K (.ref C_BadNumber) = true)
    (i_BadNumber : PySem.W.findIn K (.ref C_BadNumber) "__init__" = some (some (.ref f_BadNumber)))
    (l_BadNumber : K.lookup f_BadNumber = some ⟨oc_BadNumber, od_BadNumber, .func (PySem.W.fnX "__init__" "BadNumber.__init__" (defArgs sBadNumber___init__) (defBody sBadNumber___init__) (defScope sBadNumber___init__) [("__class__", cc_BadNumber)] .none kV_BadNumber doc_BadNumber pm_BadNumber an_BadNumber (.ref cda_BadNumber) ct_BadNumber), osl_BadNumber⟩)
    (cd_BadNumber : PySem.W.codeIn K (.ref cda_BadNumber) "BadNumber.__init__" = true)
    (cf_BadNumber : K.lookup cda_BadNumber = some ⟨ccl_BadNumber, cdd_BadNumber, .fields vs_BadNumber, ccs_BadNumber⟩)
    (v2_BadNumber : vs_BadNumber[2]? = some (.str fl_BadNumber tf_BadNumber))
    (fi_BadNumber : ((l.prog.main.file : Str) == fl_BadNumber) = true)
    (cl_BadNumber : K.lookup cc_BadNumber = some ⟨clv_BadNumber, cld_BadNumber, .cell (some (.ref C_BadNumber)), csl_BadNumber⟩)
    (mr_BadNumber : PySem.W.mroIn K C_BadNumber (.ref C_BadNumber) = some true)
    (sb_BadNumber : PySem.W.subIn K (.ref C_BadNumber) (.type "ValueError") = some true)
    (su_BadNumber : PySem.W.ks_superIn K C_BadNumber C_BadNumber "__init__" = some (some (.builtin "ValueError.__init__")))
    (ti_BadNumber : PySem.W.typeIn K (.ref f_BadNumber) = some (.type "function"))
    (ga_BadNumber : PySem.W.findIn K (.ref C_BadNumber) "__getattribute__" = some (some (.builtin "BaseException.__getattribute__")))
    (gg_BadNumber : PySem.W.findIn K (.ref C_BadNumber) "__getattr__" = some none)
    (hd_BadNumber : PySem.W.hasDictIn K C_BadNumber = true)
    (ha_BadNumber : PySem.W.findIn K (.ref C_BadNumber) "__class__" = some (some (.builtin "object.__class__")))
    (mo_BadNumber : PySem.W.mroIn K C_BadNumber (.type "object") = some true)
    (em_BadNumber : PySem.W.subIn K (.ref C_BadNumber) (.ref C_BadNumber) = some true)
    (nw_BadNumber : PySem.W.findIn K (.ref C_BadNumber) "what" = some none)
    (nv_BadNumber : PySem.W.findIn K (.ref C_BadNumber) "value" = some none)
    (nn_BadNumber : PySem.W.findIn K (.ref C_BadNumber) "name" = some none)
    (nt_BadNumber : PySem.W.findIn K (.ref C_BadNumber) "turn" = some none)
    (g_BadTurn : PySem.W.nsIn K mainGlobals "BadTurn" = some (some (.ref C_BadTurn)))
    (x_BadTurn : K.lookup C_BadTurn = some (excClassObj nm_BadTurn qn_BadTurn C_BadTurn N_BadTurn bs_BadTurn bm_BadTurn true sn_BadTurn sub_BadTurn ab_BadTurn col_BadTurn dd_BadTurn m0_BadTurn m1_BadTurn m2_BadTurn m3_BadTurn m5_BadTurn "ValueError.__new__"))
    (r_BadTurn : PySem.HandSPX.refsVE bm_BadTurn = true)
    (sa_BadTurn : PySem.W.findIn K (.ref C_BadTurn) "__setattr__" = some (some (.builtin "object.__setattr__")))
    (ex_BadTurn : PySem.W.subIn K (.ref C_BadTurn) (.type "BaseException") = some true)
    (ty_BadTurn : PySem.W.typeIn K (.ref C_BadTurn) = some (.type "type"))
    (kp_BadTurn : PySem.W.keepIn K (.ref C_BadTurn) = true)
    (i_BadTurn : PySem.W.findIn K (.ref C_BadTurn) "__init__" = some (some (.ref f_BadTurn)))
    (l_BadTurn : K.lookup f_BadTurn = some ⟨oc_BadTurn, od_BadTurn, .func (PySem.W.fnX "__init__" "BadTurn.__init__" (defArgs sBadTurn___init__) (defBody sBadTurn___init__) (defScope sBadTurn___init__) [("__class__", cc_BadTurn)] .none kV_BadTurn doc_BadTurn pm_BadTurn an_BadTurn (.ref cda_BadTurn) ct_BadTurn), osl_BadTurn⟩)
    (cd_BadTurn : PySem.W.codeIn K (.ref cda_BadTurn) "BadTurn.__init__" = true)
    (cf_BadTurn : K.lookup cda_BadTurn = some ⟨ccl_BadTurn, cdd_BadTurn, .fields vs_BadTurn, ccs_BadTurn⟩)
    (v2_BadTurn : vs_BadTurn[2]? = some (.str fl_BadTurn tf_BadTurn))
    (fi_BadTurn : ((l.prog.main.file : Str) == fl_BadTurn) = true)
    (cl_BadTurn : K.lookup cc_BadTurn = some ⟨clv_BadTurn, cld_BadTurn, .cell (some (.ref C_BadTurn)), csl_BadTurn⟩)
    (mr_BadTurn : PySem.W.mroIn K C_BadTurn (.ref C_BadTurn) = some true)
    (sb_BadTurn : PySem.W.subIn K (.ref C_BadTurn) (.type "ValueError") = some true)
    (su_BadTurn : PySem.W.ks_superIn K C_BadTurn C_BadTurn "__init__" = some (some (.builtin "ValueError.__init__")))
    (ti_BadTurn : PySem.W.typeIn K (.ref f_BadTurn) = some (.type "function"))
    (ga_BadTurn : PySem.W.findIn K (.ref C_BadTurn) "__getattribute__" = some (some (.builtin "BaseException.__getattribute__")))
    (gg_BadTurn : PySem.W.findIn K (.ref C_BadTurn) "__getattr__" = some none)
    (hd_BadTurn : PySem.W.hasDictIn K C_BadTurn = true)
    (ha_BadTurn : PySem.W.findIn K (.ref C_BadTurn) "__class__" = some (some (.builtin "object.__class__")))
    (mo_BadTurn : PySem.W.mroIn K C_BadTurn (.type "object") = some true)
    (em_BadTurn : PySem.W.subIn K (.ref C_BadTurn) (.ref C_BadTurn) = some true)
    (nw_BadTurn : PySem.W.findIn K (.ref C_BadTurn) "what" = some none)
    (nv_BadTurn : PySem.W.findIn K (.ref C_BadTurn) "value" = some none)
    (nn_BadTurn : PySem.W.findIn K (.ref C_BadTurn) "name" = some none)
    (nt_BadTurn : PySem.W.findIn K (.ref C_BadTurn) "turn" = some none)
    (g_BadStanding : PySem.W.nsIn K mainGlobals "BadStanding" = some (some (.ref C_BadStanding)))
    (x_BadStanding : K.lookup C_BadStanding = some (excClassObj nm_BadStanding qn_BadStanding C_BadStanding N_BadStanding bs_BadStanding bm_BadStanding true sn_BadStanding sub_BadStanding ab_BadStanding col_BadStanding dd_BadStanding m0_BadStanding m1_BadStanding m2_BadStanding m3_BadStanding m5_BadStanding "ValueError.__new__"))
    (r_BadStanding : PySem.HandSPX.refsVE bm_BadStanding = true)
    (sa_BadStanding : PySem.W.findIn K (.ref C_BadStanding) "__setattr__" = some (some (.builtin "object.__setattr__")))
    (ex_BadStanding : PySem.W.subIn K (.ref C_BadStanding) (.type "BaseException") = some true)
    (ty_BadStanding : PySem.W.typeIn K (.ref C_BadStanding) = some (.type "type"))
    (kp_BadStanding : PySem.W.keepIn K (.ref C_BadStanding) = true)
    (i_BadStanding : PySem.W.findIn K (.ref C_BadStanding) "__init__" = some (some (.ref f_BadStanding)))
    (l_BadStanding : K.lookup f_BadStanding = some ⟨oc_BadStanding, od_BadStanding, .func (PySem.W.fnX "__init__" "BadStanding.__init__" (defArgs sBadStanding___init__) (defBody sBadStanding___init__) (defScope sBadStanding___init__) [("__class__", cc_BadStanding)] .none kV_BadStanding doc_BadStanding pm_BadStanding an_BadStanding (.ref cda_BadStanding) ct_BadStanding), osl_BadStanding⟩)
    (cd_BadStanding : PySem.W.codeIn K (.ref cda_BadStanding) "BadStanding.__init__" = true)
    (cf_BadStanding : K.lookup cda_BadStanding = some ⟨ccl_BadStanding, cdd_BadStanding, .fields vs_BadStanding, ccs_BadStanding⟩)
    (v2_BadStanding : vs_BadStanding[2]? = some (.str fl_BadStanding tf_BadStanding))
    (fi_BadStanding : ((l.prog.main.file : Str) == fl_BadStanding) = true)
    (cl_BadStanding : K.lookup cc_BadStanding = some ⟨clv_BadStanding, cld_BadStanding, .cell (some (.ref C_BadStanding)), csl_BadStanding⟩)
    (mr_BadStanding : PySem.W.mroIn K C_BadStanding (.ref C_BadStanding) = some true)
    (sb_BadStanding : PySem.W.subIn K (.ref C_BadStanding) (.type "ValueError") = some true)
    (su_BadStanding : PySem.W.ks_superIn K C_BadStanding C_BadStanding "__init__" = some (some (.builtin "ValueError.__init__")))
    (ti_BadStanding : PySem.W.typeIn K (.ref f_BadStanding) = some (.type "function"))
    (ga_BadStanding : PySem.W.findIn K (.ref C_BadStanding) "__getattribute__" = some (some (.builtin "BaseException.__getattribute__")))
    (gg_BadStanding : PySem.W.findIn K (.ref C_BadStanding) "__getattr__" = some none)
    (hd_BadStanding : PySem.W.hasDictIn K C_BadStanding = true)
    (ha_BadStanding : PySem.W.findIn K (.ref C_BadStanding) "__class__" = some (some (.builtin "object.__class__")))
    (mo_BadStanding : PySem.W.mroIn K C_BadStanding (.type "object") = some true)
    (em_BadStanding : PySem.W.subIn K (.ref C_BadStanding) (.ref C_BadStanding) = some true)
    (nw_BadStanding : PySem.W.findIn K (.ref C_BadStanding) "what" = some none)
    (nv_BadStanding : PySem.W.findIn K (.ref C_BadStanding) "value" = some none)
    (nn_BadStanding : PySem.W.findIn K (.ref C_BadStanding) "name" = some none)
    (nt_BadStanding : PySem.W.findIn K (.ref C_BadStanding) "turn" = some none)
    (g_TooMany : PySem.W.nsIn K mainGlobals "TooMany" = some (some (.ref C_TooMany)))
    (x_TooMany : K.lookup C_TooMany = some (excClassObj nm_TooMany qn_TooMany C_TooMany N_TooMany bs_TooMany bm_TooMany true sn_TooMany sub_TooMany ab_TooMany col_TooMany dd_TooMany m0_TooMany m1_TooMany m2_TooMany m3_TooMany m5_TooMany "ValueError.__new__"))
    (r_TooMany : PySem.HandSPX.refsVE bm_TooMany = true)
    (sa_TooMany : PySem.W.findIn K (.ref C_TooMany) "__setattr__" = some (some (.builtin "object.__setattr__")))
    (ex_TooMany : PySem.W.subIn K (.ref C_TooMany) (.type "BaseException") = some true)
    (ty_TooMany : PySem.W.typeIn K (.ref C_TooMany) = some (.type "type"))
    (kp_TooMany : PySem.W.keepIn K (.ref C_TooMany) = true)
    (i_TooMany : PySem.W.findIn K (.ref C_TooMany) "__init__" = some (some (.ref f_TooMany)))
    (l_TooMany : K.lookup f_TooMany = some ⟨oc_TooMany, od_TooMany, .func (PySem.W.fnX "__init__" "TooMany.__init__" (defArgs sTooMany___init__) (defBody sTooMany___init__) (defScope sTooMany___init__) [("__class__", cc_TooMany)] .none kV_TooMany doc_TooMany pm_TooMany an_TooMany (.ref cda_TooMany) ct_TooMany), osl_TooMany⟩)
    (cd_TooMany : PySem.W.codeIn K (.ref cda_TooMany) "TooMany.__init__" = true)
    (cf_TooMany : K.lookup cda_TooMany = some ⟨ccl_TooMany, cdd_TooMany, .fields vs_TooMany, ccs_TooMany⟩)
    (v2_TooMany : vs_TooMany[2]? = some (.str fl_TooMany tf_TooMany))
    (fi_TooMany : ((l.prog.main.file : Str) == fl_TooMany) = true)
    (cl_TooMany : K.lookup cc_TooMany = some ⟨clv_TooMany, cld_TooMany, .cell (some (.ref C_TooMany)), csl_TooMany⟩)
    (mr_TooMany : PySem.W.mroIn K C_TooMany (.ref C_TooMany) = some true)
    (sb_TooMany : PySem.W.subIn K (.ref C_TooMany) (.type "ValueError") = some true)
    (su_TooMany : PySem.W.ks_superIn K C_TooMany C_TooMany "__init__" = some (some (.builtin "ValueError.__init__")))
    (ti_TooMany : PySem.W.typeIn K (.ref f_TooMany) = some (.type "function"))
    (ga_TooMany : PySem.W.findIn K (.ref C_TooMany) "__getattribute__" = some (some (.builtin "BaseException.__getattribute__")))
    (gg_TooMany : PySem.W.findIn K (.ref C_TooMany) "__getattr__" = some none)
    (hd_TooMany : PySem.W.hasDictIn K C_TooMany = true)
    (ha_TooMany : PySem.W.findIn K (.ref C_TooMany) "__class__" = some (some (.builtin "object.__class__")))
    (mo_TooMany : PySem.W.mroIn K C_TooMany (.type "object") = some true)
    (em_TooMany : PySem.W.subIn K (.ref C_TooMany) (.ref C_TooMany) = some true)
    (nw_TooMany : PySem.W.findIn K (.ref C_TooMany) "what" = some none)
    (nv_TooMany : PySem.W.findIn K (.ref C_TooMany) "value" = some none)
    (nn_TooMany : PySem.W.findIn K (.ref C_TooMany) "name" = some none)
    (nt_TooMany : PySem.W.findIn K (.ref C_TooMany) "turn" = some none)
    (g_DriedOut : PySem.W.nsIn K mainGlobals "DriedOut" = some (some (.ref C_DriedOut)))
    (x_DriedOut : K.lookup C_DriedOut = some (excClassObj nm_DriedOut qn_DriedOut C_DriedOut N_DriedOut bs_DriedOut bm_DriedOut true sn_DriedOut sub_DriedOut ab_DriedOut col_DriedOut dd_DriedOut m0_DriedOut m1_DriedOut m2_DriedOut m3_DriedOut m5_DriedOut "ValueError.__new__"))
    (r_DriedOut : PySem.HandSPX.refsVE bm_DriedOut = true)
    (sa_DriedOut : PySem.W.findIn K (.ref C_DriedOut) "__setattr__" = some (some (.builtin "object.__setattr__")))
    (ex_DriedOut : PySem.W.subIn K (.ref C_DriedOut) (.type "BaseException") = some true)
    (ty_DriedOut : PySem.W.typeIn K (.ref C_DriedOut) = some (.type "type"))
    (kp_DriedOut : PySem.W.keepIn K (.ref C_DriedOut) = true)
    (i_DriedOut : PySem.W.findIn K (.ref C_DriedOut) "__init__" = some (some (.ref f_DriedOut)))
    (l_DriedOut : K.lookup f_DriedOut = some ⟨oc_DriedOut, od_DriedOut, .func (PySem.W.fnX "__init__" "DriedOut.__init__" (defArgs sDriedOut___init__) (defBody sDriedOut___init__) (defScope sDriedOut___init__) [("__class__", cc_DriedOut)] .none kV_DriedOut doc_DriedOut pm_DriedOut an_DriedOut (.ref cda_DriedOut) ct_DriedOut), osl_DriedOut⟩)
    (cd_DriedOut : PySem.W.codeIn K (.ref cda_DriedOut) "DriedOut.__init__" = true)
    (cf_DriedOut : K.lookup cda_DriedOut = some ⟨ccl_DriedOut, cdd_DriedOut, .fields vs_DriedOut, ccs_DriedOut⟩)
    (v2_DriedOut : vs_DriedOut[2]? = some (.str fl_DriedOut tf_DriedOut))
    (fi_DriedOut : ((l.prog.main.file : Str) == fl_DriedOut) = true)
    (cl_DriedOut : K.lookup cc_DriedOut = some ⟨clv_DriedOut, cld_DriedOut, .cell (some (.ref C_DriedOut)), csl_DriedOut⟩)
    (mr_DriedOut : PySem.W.mroIn K C_DriedOut (.ref C_DriedOut) = some true)
    (sb_DriedOut : PySem.W.subIn K (.ref C_DriedOut) (.type "ValueError") = some true)
    (su_DriedOut : PySem.W.ks_superIn K C_DriedOut C_DriedOut "__init__" = some (some (.builtin "ValueError.__init__")))
    (ti_DriedOut : PySem.W.typeIn K (.ref f_DriedOut) = some (.type "function"))
    (ga_DriedOut : PySem.W.findIn K (.ref C_DriedOut) "__getattribute__" = some (some (.builtin "BaseException.__getattribute__")))
    (gg_DriedOut : PySem.W.findIn K (.ref C_DriedOut) "__getattr__" = some none)
    (hd_DriedOut : PySem.W.hasDictIn K C_DriedOut = true)
    (ha_DriedOut : PySem.W.findIn K (.ref C_DriedOut) "__class__" = some (some (.builtin "object.__class__")))
    (mo_DriedOut : PySem.W.mroIn K C_DriedOut (.type "object") = some true)
    (em_DriedOut : PySem.W.subIn K (.ref C_DriedOut) (.ref C_DriedOut) = some true)
    (nw_DriedOut : PySem.W.findIn K (.ref C_DriedOut) "what" = some none)
    (nv_DriedOut : PySem.W.findIn K (.ref C_DriedOut) "value" = some none)
    (nn_DriedOut : PySem.W.findIn K (.ref C_DriedOut) "name" = some none)
    (nt_DriedOut : PySem.W.findIn K (.ref C_DriedOut) "turn" = some none)
    (g_NotSafe : PySem.W.nsIn K mainGlobals "NotSafe" = some (some (.ref C_NotSafe)))
    (x_NotSafe : K.lookup C_NotSafe = some (excClassObj nm_NotSafe qn_NotSafe C_NotSafe N_NotSafe bs_NotSafe bm_NotSafe true sn_NotSafe sub_NotSafe ab_NotSafe col_NotSafe dd_NotSafe m0_NotSafe m1_NotSafe m2_NotSafe m3_NotSafe m5_NotSafe "ValueError.__new__"))
    (r_NotSafe : PySem.HandSPX.refsVE bm_NotSafe = true)
    (sa_NotSafe : PySem.W.findIn K (.ref C_NotSafe) "__setattr__" = some (some (.builtin "object.__setattr__")))
    (ex_NotSafe : PySem.W.subIn K (.ref C_NotSafe) (.type "BaseException") = some true)
    (ty_NotSafe : PySem.W.typeIn K (.ref C_NotSafe) = some (.type "type"))
    (kp_NotSafe : PySem.W.keepIn K (.ref C_NotSafe) = true)
    (i_NotSafe : PySem.W.findIn K (.ref C_NotSafe) "__init__" = some (some (.ref f_NotSafe)))
    (l_NotSafe : K.lookup f_NotSafe = some ⟨oc_NotSafe, od_NotSafe, .func (PySem.W.fnX "__init__" "NotSafe.__init__" (defArgs sNotSafe___init__) (defBody sNotSafe___init__) (defScope sNotSafe___init__) [("__class__", cc_NotSafe)] .none kV_NotSafe doc_NotSafe pm_NotSafe an_NotSafe (.ref cda_NotSafe) ct_NotSafe), osl_NotSafe⟩)
    (cd_NotSafe : PySem.W.codeIn K (.ref cda_NotSafe) "NotSafe.__init__" = true)
    (cf_NotSafe : K.lookup cda_NotSafe = some ⟨ccl_NotSafe, cdd_NotSafe, .fields vs_NotSafe, ccs_NotSafe⟩)
    (v2_NotSafe : vs_NotSafe[2]? = some (.str fl_NotSafe tf_NotSafe))
    (fi_NotSafe : ((l.prog.main.file : Str) == fl_NotSafe) = true)
    (cl_NotSafe : K.lookup cc_NotSafe = some ⟨clv_NotSafe, cld_NotSafe, .cell (some (.ref C_NotSafe)), csl_NotSafe⟩)
    (mr_NotSafe : PySem.W.mroIn K C_NotSafe (.ref C_NotSafe) = some true)
    (sb_NotSafe : PySem.W.subIn K (.ref C_NotSafe) (.type "ValueError") = some true)
    (su_NotSafe : PySem.W.ks_superIn K C_NotSafe C_NotSafe "__init__" = some (some (.builtin "ValueError.__init__")))
    (ti_NotSafe : PySem.W.typeIn K (.ref f_NotSafe) = some (.type "function"))
    (ga_NotSafe : PySem.W.findIn K (.ref C_NotSafe) "__getattribute__" = some (some (.builtin "BaseException.__getattribute__")))
    (gg_NotSafe : PySem.W.findIn K (.ref C_NotSafe) "__getattr__" = some none)
    (hd_NotSafe : PySem.W.hasDictIn K C_NotSafe = true)
    (ha_NotSafe : PySem.W.findIn K (.ref C_NotSafe) "__class__" = some (some (.builtin "object.__class__")))
    (mo_NotSafe : PySem.W.mroIn K C_NotSafe (.type "object") = some true)
    (em_NotSafe : PySem.W.subIn K (.ref C_NotSafe) (.ref C_NotSafe) = some true)
    (nw_NotSafe : PySem.W.findIn K (.ref C_NotSafe) "what" = some none)
    (nv_NotSafe : PySem.W.findIn K (.ref C_NotSafe) "value" = some none)
    (nn_NotSafe : PySem.W.findIn K (.ref C_NotSafe) "name" = some none)
    (nt_NotSafe : PySem.W.findIn K (.ref C_NotSafe) "turn" = some none)
    (g_BadPaper : PySem.W.nsIn K mainGlobals "BadPaper" = some (some (.ref C_BadPaper)))
    (x_BadPaper : K.lookup C_BadPaper = some (excClassObj nm_BadPaper qn_BadPaper C_BadPaper N_BadPaper bs_BadPaper bm_BadPaper true sn_BadPaper sub_BadPaper ab_BadPaper col_BadPaper dd_BadPaper m0_BadPaper m1_BadPaper m2_BadPaper m3_BadPaper m5_BadPaper "ValueError.__new__"))
    (r_BadPaper : PySem.HandSPX.refsVE bm_BadPaper = true)
    (sa_BadPaper : PySem.W.findIn K (.ref C_BadPaper) "__setattr__" = some (some (.builtin "object.__setattr__")))
    (ex_BadPaper : PySem.W.subIn K (.ref C_BadPaper) (.type "BaseException") = some true)
    (ty_BadPaper : PySem.W.typeIn K (.ref C_BadPaper) = some (.type "type"))
    (kp_BadPaper : PySem.W.keepIn K (.ref C_BadPaper) = true)
    (i_BadPaper : PySem.W.findIn K (.ref C_BadPaper) "__init__" = some (some (.ref f_BadPaper)))
    (l_BadPaper : K.lookup f_BadPaper = some ⟨oc_BadPaper, od_BadPaper, .func (PySem.W.fnX "__init__" "BadPaper.__init__" (defArgs sBadPaper___init__) (defBody sBadPaper___init__) (defScope sBadPaper___init__) [("__class__", cc_BadPaper)] .none kV_BadPaper doc_BadPaper pm_BadPaper an_BadPaper (.ref cda_BadPaper) ct_BadPaper), osl_BadPaper⟩)
    (cd_BadPaper : PySem.W.codeIn K (.ref cda_BadPaper) "BadPaper.__init__" = true)
    (cf_BadPaper : K.lookup cda_BadPaper = some ⟨ccl_BadPaper, cdd_BadPaper, .fields vs_BadPaper, ccs_BadPaper⟩)
    (v2_BadPaper : vs_BadPaper[2]? = some (.str fl_BadPaper tf_BadPaper))
    (fi_BadPaper : ((l.prog.main.file : Str) == fl_BadPaper) = true)
    (cl_BadPaper : K.lookup cc_BadPaper = some ⟨clv_BadPaper, cld_BadPaper, .cell (some (.ref C_BadPaper)), csl_BadPaper⟩)
    (mr_BadPaper : PySem.W.mroIn K C_BadPaper (.ref C_BadPaper) = some true)
    (sb_BadPaper : PySem.W.subIn K (.ref C_BadPaper) (.type "ValueError") = some true)
    (su_BadPaper : PySem.W.ks_superIn K C_BadPaper C_BadPaper "__init__" = some (some (.builtin "ValueError.__init__")))
    (ti_BadPaper : PySem.W.typeIn K (.ref f_BadPaper) = some (.type "function"))
    (ga_BadPaper : PySem.W.findIn K (.ref C_BadPaper) "__getattribute__" = some (some (.builtin "BaseException.__getattribute__")))
    (gg_BadPaper : PySem.W.findIn K (.ref C_BadPaper) "__getattr__" = some none)
    (hd_BadPaper : PySem.W.hasDictIn K C_BadPaper = true)
    (ha_BadPaper : PySem.W.findIn K (.ref C_BadPaper) "__class__" = some (some (.builtin "object.__class__")))
    (mo_BadPaper : PySem.W.mroIn K C_BadPaper (.type "object") = some true)
    (em_BadPaper : PySem.W.subIn K (.ref C_BadPaper) (.ref C_BadPaper) = some true)
    (nw_BadPaper : PySem.W.findIn K (.ref C_BadPaper) "what" = some none)
    (nv_BadPaper : PySem.W.findIn K (.ref C_BadPaper) "value" = some none)
    (nn_BadPaper : PySem.W.findIn K (.ref C_BadPaper) "name" = some none)
    (nt_BadPaper : PySem.W.findIn K (.ref C_BadPaper) "turn" = some none)
    (g_NothingFits : PySem.W.nsIn K mainGlobals "NothingFits" = some (some (.ref C_NothingFits)))
    (x_NothingFits : K.lookup C_NothingFits = some (excClassObj nm_NothingFits qn_NothingFits C_NothingFits N_NothingFits bs_NothingFits bm_NothingFits true sn_NothingFits sub_NothingFits ab_NothingFits col_NothingFits dd_NothingFits m0_NothingFits m1_NothingFits m2_NothingFits m3_NothingFits m5_NothingFits "ValueError.__new__"))
    (r_NothingFits : PySem.HandSPX.refsVE bm_NothingFits = true)
    (sa_NothingFits : PySem.W.findIn K (.ref C_NothingFits) "__setattr__" = some (some (.builtin "object.__setattr__")))
    (ex_NothingFits : PySem.W.subIn K (.ref C_NothingFits) (.type "BaseException") = some true)
    (ty_NothingFits : PySem.W.typeIn K (.ref C_NothingFits) = some (.type "type"))
    (kp_NothingFits : PySem.W.keepIn K (.ref C_NothingFits) = true)
    (i_NothingFits : PySem.W.findIn K (.ref C_NothingFits) "__init__" = some (some (.ref f_NothingFits)))
    (l_NothingFits : K.lookup f_NothingFits = some ⟨oc_NothingFits, od_NothingFits, .func (PySem.W.fnX "__init__" "NothingFits.__init__" (defArgs sNothingFits___init__) (defBody sNothingFits___init__) (defScope sNothingFits___init__) [("__class__", cc_NothingFits)] .none kV_NothingFits doc_NothingFits pm_NothingFits an_NothingFits (.ref cda_NothingFits) ct_NothingFits), osl_NothingFits⟩)
    (cd_NothingFits : PySem.W.codeIn K (.ref cda_NothingFits) "NothingFits.__init__" = true)
    (cf_NothingFits : K.lookup cda_NothingFits = some ⟨ccl_NothingFits, cdd_NothingFits, .fields vs_NothingFits, ccs_NothingFits⟩)
    (v2_NothingFits : vs_NothingFits[2]? = some (.str fl_NothingFits tf_NothingFits))
    (fi_NothingFits : ((l.prog.main.file : Str) == fl_NothingFits) = true)
    (cl_NothingFits : K.lookup cc_NothingFits = some ⟨clv_NothingFits, cld_NothingFits, .cell (some (.ref C_NothingFits)), csl_NothingFits⟩)
    (mr_NothingFits : PySem.W.mroIn K C_NothingFits (.ref C_NothingFits) = some true)
    (sb_NothingFits : PySem.W.subIn K (.ref C_NothingFits) (.type "ValueError") = some true)
    (su_NothingFits : PySem.W.ks_superIn K C_NothingFits C_NothingFits "__init__" = some (some (.builtin "ValueError.__init__")))
    (ti_NothingFits : PySem.W.typeIn K (.ref f_NothingFits) = some (.type "function"))
    (ga_NothingFits : PySem.W.findIn K (.ref C_NothingFits) "__getattribute__" = some (some (.builtin "BaseException.__getattribute__")))
    (gg_NothingFits : PySem.W.findIn K (.ref C_NothingFits) "__getattr__" = some none)
    (hd_NothingFits : PySem.W.hasDictIn K C_NothingFits = true)
    (ha_NothingFits : PySem.W.findIn K (.ref C_NothingFits) "__class__" = some (some (.builtin "object.__class__")))
    (mo_NothingFits : PySem.W.mroIn K C_NothingFits (.type "object") = some true)
    (em_NothingFits : PySem.W.subIn K (.ref C_NothingFits) (.ref C_NothingFits) = some true)
    (nw_NothingFits : PySem.W.findIn K (.ref C_NothingFits) "what" = some none)
    (nv_NothingFits : PySem.W.findIn K (.ref C_NothingFits) "value" = some none)
    (nn_NothingFits : PySem.W.findIn K (.ref C_NothingFits) "name" = some none)
    (nt_NothingFits : PySem.W.findIn K (.ref C_NothingFits) "turn" = some none)
    (g_BadText : PySem.W.nsIn K mainGlobals "BadText" = some (some (.ref C_BadText)))
    (x_BadText : K.lookup C_BadText = some (excClassObj nm_BadText qn_BadText C_BadText N_BadText bs_BadText bm_BadText true sn_BadText sub_BadText ab_BadText col_BadText dd_BadText m0_BadText m1_BadText m2_BadText m3_BadText m5_BadText "ValueError.__new__"))
    (r_BadText : PySem.HandSPX.refsVE bm_BadText = true)
    (sa_BadText : PySem.W.findIn K (.ref C_BadText) "__setattr__" = some (some (.builtin "object.__setattr__")))
    (ex_BadText : PySem.W.subIn K (.ref C_BadText) (.type "BaseException") = some true)
    (ty_BadText : PySem.W.typeIn K (.ref C_BadText) = some (.type "type"))
    (kp_BadText : PySem.W.keepIn K (.ref C_BadText) = true)
    (i_BadText : PySem.W.findIn K (.ref C_BadText) "__init__" = some (some (.ref f_BadText)))
    (l_BadText : K.lookup f_BadText = some ⟨oc_BadText, od_BadText, .func (PySem.W.fnX "__init__" "BadText.__init__" (defArgs sBadText___init__) (defBody sBadText___init__) (defScope sBadText___init__) [("__class__", cc_BadText)] .none kV_BadText doc_BadText pm_BadText an_BadText (.ref cda_BadText) ct_BadText), osl_BadText⟩)
    (cd_BadText : PySem.W.codeIn K (.ref cda_BadText) "BadText.__init__" = true)
    (cf_BadText : K.lookup cda_BadText = some ⟨ccl_BadText, cdd_BadText, .fields vs_BadText, ccs_BadText⟩)
    (v2_BadText : vs_BadText[2]? = some (.str fl_BadText tf_BadText))
    (fi_BadText : ((l.prog.main.file : Str) == fl_BadText) = true)
    (cl_BadText : K.lookup cc_BadText = some ⟨clv_BadText, cld_BadText, .cell (some (.ref C_BadText)), csl_BadText⟩)
    (mr_BadText : PySem.W.mroIn K C_BadText (.ref C_BadText) = some true)
    (sb_BadText : PySem.W.subIn K (.ref C_BadText) (.type "ValueError") = some true)
    (su_BadText : PySem.W.ks_superIn K C_BadText C_BadText "__init__" = some (some (.builtin "ValueError.__init__")))
    (ti_BadText : PySem.W.typeIn K (.ref f_BadText) = some (.type "function"))
    (ga_BadText : PySem.W.findIn K (.ref C_BadText) "__getattribute__" = some (some (.builtin "BaseException.__getattribute__")))
    (gg_BadText : PySem.W.findIn K (.ref C_BadText) "__getattr__" = some none)
    (hd_BadText : PySem.W.hasDictIn K C_BadText = true)
    (ha_BadText : PySem.W.findIn K (.ref C_BadText) "__class__" = some (some (.builtin "object.__class__")))
    (mo_BadText : PySem.W.mroIn K C_BadText (.type "object") = some true)
    (em_BadText : PySem.W.subIn K (.ref C_BadText) (.ref C_BadText) = some true)
    (nw_BadText : PySem.W.findIn K (.ref C_BadText) "what" = some none)
    (nv_BadText : PySem.W.findIn K (.ref C_BadText) "value" = some none)
    (nn_BadText : PySem.W.findIn K (.ref C_BadText) "name" = some none)
    (nt_BadText : PySem.W.findIn K (.ref C_BadText) "turn" = some none)
    (g_BadDeed : PySem.W.nsIn K mainGlobals "BadDeed" = some (some (.ref C_BadDeed)))
    (x_BadDeed : K.lookup C_BadDeed = some (excClassObj nm_BadDeed qn_BadDeed C_BadDeed N_BadDeed bs_BadDeed bm_BadDeed true sn_BadDeed sub_BadDeed ab_BadDeed col_BadDeed dd_BadDeed m0_BadDeed m1_BadDeed m2_BadDeed m3_BadDeed m5_BadDeed "ValueError.__new__"))
    (r_BadDeed : PySem.HandSPX.refsVE bm_BadDeed = true)
    (sa_BadDeed : PySem.W.findIn K (.ref C_BadDeed) "__setattr__" = some (some (.builtin "object.__setattr__")))
    (ex_BadDeed : PySem.W.subIn K (.ref C_BadDeed) (.type "BaseException") = some true)
    (ty_BadDeed : PySem.W.typeIn K (.ref C_BadDeed) = some (.type "type"))
    (kp_BadDeed : PySem.W.keepIn K (.ref C_BadDeed) = true)
    (i_BadDeed : PySem.W.findIn K (.ref C_BadDeed) "__init__" = some (some (.ref f_BadDeed)))
    (l_BadDeed : K.lookup f_BadDeed = some ⟨oc_BadDeed, od_BadDeed, .func (PySem.W.fnX "__init__" "BadDeed.__init__" (defArgs sBadDeed___init__) (defBody sBadDeed___init__) (defScope sBadDeed___init__) [("__class__", cc_BadDeed)] .none kV_BadDeed doc_BadDeed pm_BadDeed an_BadDeed (.ref cda_BadDeed) ct_BadDeed), osl_BadDeed⟩)
    (cd_BadDeed : PySem.W.codeIn K (.ref cda_BadDeed) "BadDeed.__init__" = true)
    (cf_BadDeed : K.lookup cda_BadDeed = some ⟨ccl_BadDeed, cdd_BadDeed, .fields vs_BadDeed, ccs_BadDeed⟩)
    (v2_BadDeed : vs_BadDeed[2]? = some (.str fl_BadDeed tf_BadDeed))
    (fi_BadDeed : ((l.prog.main.file : Str) == fl_BadDeed) = true)
    (cl_BadDeed : K.lookup cc_BadDeed = some ⟨clv_BadDeed, cld_BadDeed, .cell (some (.ref C_BadDeed)), csl_BadDeed⟩)
    (mr_BadDeed : PySem.W.mroIn K C_BadDeed (.ref C_BadDeed) = some true)
    (sb_BadDeed : PySem.W.subIn K (.ref C_BadDeed) (.type "ValueError") = some true)
    (su_BadDeed : PySem.W.ks_superIn K C_BadDeed C_BadDeed "__init__" = some (some (.builtin "ValueError.__init__")))
    (ti_BadDeed : PySem.W.typeIn K (.ref f_BadDeed) = some (.type "function"))
    (ga_BadDeed : PySem.W.findIn K (.ref C_BadDeed) "__getattribute__" = some (some (.builtin "BaseException.__getattribute__")))
    (gg_BadDeed : PySem.W.findIn K (.ref C_BadDeed) "__getattr__" = some none)
    (hd_BadDeed : PySem.W.hasDictIn K C_BadDeed = true)
    (ha_BadDeed : PySem.W.findIn K (.ref C_BadDeed) "__class__" = some (some (.builtin "object.__class__")))
    (mo_BadDeed : PySem.W.mroIn K C_BadDeed (.type "object") = some true)
    (em_BadDeed : PySem.W.subIn K (.ref C_BadDeed) (.ref C_BadDeed) = some true)
    (nw_BadDeed : PySem.W.findIn K (.ref C_BadDeed) "what" = some none)
    (nv_BadDeed : PySem.W.findIn K (.ref C_BadDeed) "value" = some none)
    (nn_BadDeed : PySem.W.findIn K (.ref C_BadDeed) "name" = some none)
    (nt_BadDeed : PySem.W.findIn K (.ref C_BadDeed) "turn" = some none)
    (g_WaterError : PySem.W.nsIn K mainGlobals "WaterError" = some (some (.ref C_WaterError)))
    (g_Unlike : PySem.W.nsIn K mainGlobals "Unlike" = some (some (.ref C_Unlike)))
    (g_NothingToUndo : PySem.W.nsIn K mainGlobals "NothingToUndo" = some (some (.ref C_NothingToUndo)))
    (opq : PySem.W.nsIn K cStatics "thirdparty.any" = some none)
    (htop : (l.prog.main.scope.names.lookup ("super" : Str)).isSome = false)
    (spc : PySem.W.specialIn K (.builtin "object.__class__") "__get__" = some (some (.builtin "getset_descriptor.__get__")))
    (tks : PySem.W.takesIn K (.builtin "object.__class__") = some true)
    (g_Standing : PySem.W.nsIn K mainGlobals "Standing" = some (some (.ref C_Standing)))
    (mk_Standing : PySem.W.makesIn K C_Standing = true)
    (kp_Standing : PySem.W.keepIn K (.ref C_Standing) = true)
    (pg_Standing : PySem.W.plainGet K C_Standing Str.empty = true)
    (hd_Standing : PySem.W.hasDictIn K C_Standing = true)
    (po_Standing : PySem.W.plainOver K C_Standing = true)
    (sa_Standing : PySem.W.findIn K (.ref C_Standing) "__setattr__" = some (some (.builtin "object.__setattr__")))
    (ne_Standing : PySem.W.findIn K (.ref C_Standing) "__ne__" = some (some (.builtin "object.__ne__")))
    (ob_Standing : PySem.W.subIn K (.ref C_Standing) (.type "object") = some true)
    (ha_Standing : PySem.W.findIn K (.ref C_Standing) "__class__" = some (some (.builtin "object.__class__")))
    (hm_Standing : PySem.W.mroIn K C_Standing (.type "object") = some true)
    (kk_Standing : PySem.W.kitOne K (.ref C_Standing) (.ref C_Standing) = some true)
    (no_Standing_levels : PySem.W.findIn K (.ref C_Standing) "levels" = some none)
    (no_Standing_tank : PySem.W.findIn K (.ref C_Standing) "tank" = some none)
    (no_Standing_mood : PySem.W.findIn K (.ref C_Standing) "mood" = some none)
    (i_Standing_init : PySem.W.findIn K (.ref C_Standing) "__init__" = some (some (.ref f_Standing_init)))
    (fn_Standing_init : PySem.W.isFn K (.ref f_Standing_init) = true)
    (l_Standing_init : K.lookup f_Standing_init = some ⟨oc_Standing_init, od_Standing_init, .func (PySem.W.fnOf "__init__" "Standing.__init__" (defArgs sStanding___init__) (defBody sStanding___init__) (defScope sStanding___init__) .none kV_Standing_init dc_Standing_init pm_Standing_init an_Standing_init cd_Standing_init ct_Standing_init), sl_Standing_init⟩)
    (c_Standing_init : PySem.W.codeIn K cd_Standing_init "Standing.__init__" = true)
    (k_Standing_init : PySem.W.keepIn K (.ref f_Standing_init) = true)
    (i_Standing_eq : PySem.W.findIn K (.ref C_Standing) "__eq__" = some (some (.ref f_Standing_eq)))
    (fn_Standing_eq : PySem.W.isFn K (.ref f_Standing_eq) = true)
    (l_Standing_eq : K.lookup f_Standing_eq = some ⟨oc_Standing_eq, od_Standing_eq, .func (PySem.W.fnOf "__eq__" "Standing.__eq__" (defArgs sStanding___eq__) (defBody sStanding___eq__) (defScope sStanding___eq__) .none kV_Standing_eq dc_Standing_eq pm_Standing_eq an_Standing_eq cd_Standing_eq ct_Standing_eq), sl_Standing_eq⟩)
    (c_Standing_eq : PySem.W.codeIn K cd_Standing_eq "Standing.__eq__" = true)
    (k_Standing_eq : PySem.W.keepIn K (.ref f_Standing_eq) = true)
    (nf_TooMany_limit : PySem.W.findIn K (.ref C_TooMany) "limit" = some none)
    (nf_NothingFits_day : PySem.W.findIn K (.ref C_NothingFits) "day" = some none)
    (nf_BadText_line : PySem.W.findIn K (.ref C_BadText) "line" = some none)
    (nf_BadDeed_place : PySem.W.findIn K (.ref C_BadDeed) "place" = some none)
    (nf_DriedOut_plot : PySem.W.findIn K (.ref C_DriedOut) "plot" = some none)
    (nf_DriedOut_day : PySem.W.findIn K (.ref C_DriedOut) "day" = some none)
    (nf_BadPaper_row : PySem.W.findIn K (.ref C_BadPaper) "row" = some none)
    (nf_BadPaper_reason : PySem.W.findIn K (.ref C_BadPaper) "reason" = some none)
    (nf_BadStanding_standing : PySem.W.findIn K (.ref C_BadStanding) "standing" = some none)
    (nf_NotSafe_standing : PySem.W.findIn K (.ref C_NotSafe) "standing" = some none)
    (xP_Unlike : PySem.W.excIn K C_Unlike [.type "ValueError", .type "Exception", .type "BaseException", .type "object"] "ValueError.__new__" = true)
    (kp_Unlike : PySem.W.keepIn K (.ref C_Unlike) = true)
    (ex_Unlike : PySem.W.subIn K (.ref C_Unlike) (.type "BaseException") = some true)
    (ty_Unlike : PySem.W.typeIn K (.ref C_Unlike) = some (.type "type"))
    (ga_Unlike : PySem.W.findIn K (.ref C_Unlike) "__getattribute__" = some (some (.builtin "BaseException.__getattribute__")))
    (gg_Unlike : PySem.W.findIn K (.ref C_Unlike) "__getattr__" = some none)
    (hd_Unlike : PySem.W.hasDictIn K C_Unlike = true)
    (ha_Unlike : PySem.W.findIn K (.ref C_Unlike) "__class__" = some (some (.builtin "object.__class__")))
    (mo_Unlike : PySem.W.mroIn K C_Unlike (.type "object") = some true)
    (xP_NothingToUndo : PySem.W.excIn K C_NothingToUndo [.type "ValueError", .type "Exception", .type "BaseException", .type "object"] "ValueError.__new__" = true)
    (kp_NothingToUndo : PySem.W.keepIn K (.ref C_NothingToUndo) = true)
    (ex_NothingToUndo : PySem.W.subIn K (.ref C_NothingToUndo) (.type "BaseException") = some true)
    (ty_NothingToUndo : PySem.W.typeIn K (.ref C_NothingToUndo) = some (.type "type"))
    (ga_NothingToUndo : PySem.W.findIn K (.ref C_NothingToUndo) "__getattribute__" = some (some (.builtin "BaseException.__getattribute__")))
    (gg_NothingToUndo : PySem.W.findIn K (.ref C_NothingToUndo) "__getattr__" = some none)
    (hd_NothingToUndo : PySem.W.hasDictIn K C_NothingToUndo = true)
    (ha_NothingToUndo : PySem.W.findIn K (.ref C_NothingToUndo) "__class__" = some (some (.builtin "object.__class__")))
    (mo_NothingToUndo : PySem.W.mroIn K C_NothingToUndo (.type "object") = some true)
    (ex_WaterError : PySem.W.subIn K (.ref C_WaterError) (.type "BaseException") = some true)
    (hd_WaterError : PySem.W.hasDictIn K C_WaterError = true)
    (ty_WaterError : PySem.W.typeIn K (.ref C_WaterError) = some (.type "type"))
    (sw_BadName : PySem.W.subIn K (.ref C_BadName) (.ref C_WaterError) = some true)
    (sw_BadNumber : PySem.W.subIn K (.ref C_BadNumber) (.ref C_WaterError) = some true)
    (sw_BadTurn : PySem.W.subIn K (.ref C_BadTurn) (.ref C_WaterError) = some true)
    (sw_BadStanding : PySem.W.subIn K (.ref C_BadStanding) (.ref C_WaterError) = some true)
    (sw_TooMany : PySem.W.subIn K (.ref C_TooMany) (.ref C_WaterError) = some true)
    (sw_DriedOut : PySem.W.subIn K (.ref C_DriedOut) (.ref C_WaterError) = some true)
    (sw_NotSafe : PySem.W.subIn K (.ref C_NotSafe) (.ref C_WaterError) = some true)
    (sw_BadPaper : PySem.W.subIn K (.ref C_BadPaper) (.ref C_WaterError) = some true)
    (sw_Unlike : PySem.W.subIn K (.ref C_Unlike) (.ref C_WaterError) = some true)
    (sw_NothingFits : PySem.W.subIn K (.ref C_NothingFits) (.ref C_WaterError) = some true)
    (sw_BadText : PySem.W.subIn K (.ref C_BadText) (.ref C_WaterError) = some true)
    (sw_NothingToUndo : PySem.W.subIn K (.ref C_NothingToUndo) (.ref C_WaterError) = some true)
    (sw_BadDeed : PySem.W.subIn K (.ref C_BadDeed) (.ref C_WaterError) = some true)
    (kit0 : PySem.W.kitOne K (.ref C_BadName) (.ref C_BadName) = some true)
    (kit1 : PySem.W.kitOne K (.ref C_BadName) (.ref C_BadNumber) = some false)
    (kit2 : PySem.W.kitOne K (.ref C_BadName) (.ref C_BadTurn) = some false)
    (kit3 : PySem.W.kitOne K (.ref C_BadName) (.ref C_BadStanding) = some false)
    (kit4 : PySem.W.kitOne K (.ref C_BadName) (.ref C_TooMany) = some false)
    (kit5 : PySem.W.kitOne K (.ref C_BadName) (.ref C_DriedOut) = some false)
    (kit6 : PySem.W.kitOne K (.ref C_BadName) (.ref C_NotSafe) = some false)
    (kit7 : PySem.W.kitOne K (.ref C_BadName) (.ref C_BadPaper) = some false)
    (kit8 : PySem.W.kitOne K (.ref C_BadName) (.ref C_Unlike) = some false)
    (kit9 : PySem.W.kitOne K (.ref C_BadName) (.ref C_NothingFits) = some false)
    (kit10 : PySem.W.kitOne K (.ref C_BadName) (.ref C_BadText) = some false)
    (kit11 : PySem.W.kitOne K (.ref C_BadName) (.ref C_NothingToUndo) = some false)
    (kit12 : PySem.W.kitOne K (.ref C_BadName) (.ref C_BadDeed) = some false)
    (kit13 : PySem.W.kitOne K (.ref C_BadNumber) (.ref C_BadName) = some false)
    (kit14 : PySem.W.kitOne K (.ref C_BadNumber) (.ref C_BadNumber) = some true)
    (kit15 : PySem.W.kitOne K (.ref C_BadNumber) (.ref C_BadTurn) = some false)
    (kit16 : PySem.W.kitOne K (.ref C_BadNumber) (.ref C_BadStanding) = some false)
    (kit17 : PySem.W.kitOne K (.ref C_BadNumber) (.ref C_TooMany) = some false)
    (kit18 : PySem.W.kitOne K (.ref C_BadNumber) (.ref C_DriedOut) = some false)
    (kit19 : PySem.W.kitOne K (.ref C_BadNumber) (.ref C_NotSafe) = some false)
    (kit20 : PySem.W.kitOne K (.ref C_BadNumber) (.ref C_BadPaper) = some false)
    (kit21 : PySem.W.kitOne K (.ref C_BadNumber) (.ref C_Unlike) = some false)
    (kit22 : PySem.W.kitOne K (.ref C_BadNumber) (.ref C_NothingFits) = some false)
    (kit23 : PySem.W.kitOne K (.ref C_BadNumber) (.ref C_BadText) = some false)
    (kit24 : PySem.W.kitOne K (.ref C_BadNumber) (.ref C_NothingToUndo) = some false)
    (kit25 : PySem.W.kitOne K (.ref C_BadNumber) (.ref C_BadDeed) = some false)
    (kit26 : PySem.W.kitOne K (.ref C_BadTurn) (.ref C_BadName) = some false)
    (kit27 : PySem.W.kitOne K (.ref C_BadTurn) (.ref C_BadNumber) = some false)
    (kit28 : PySem.W.kitOne K (.ref C_BadTurn) (.ref C_BadTurn) = some true)
    (kit29 : PySem.W.kitOne K (.ref C_BadTurn) (.ref C_BadStanding) = some false)
    (kit30 : PySem.W.kitOne K (.ref C_BadTurn) (.ref C_TooMany) = some false)
    (kit31 : PySem.W.kitOne K (.ref C_BadTurn) (.ref C_DriedOut) = some false)
    (kit32 : PySem.W.kitOne K (.ref C_BadTurn) (.ref C_NotSafe) = some false)
    (kit33 : PySem.W.kitOne K (.ref C_BadTurn) (.ref C_BadPaper) = some false)
    (kit34 : PySem.W.kitOne K (.ref C_BadTurn) (.ref C_Unlike) = some false)
    (kit35 : PySem.W.kitOne K (.ref C_BadTurn) (.ref C_NothingFits) = some false)
    (kit36 : PySem.W.kitOne K (.ref C_BadTurn) (.ref C_BadText) = some false)
    (kit37 : PySem.W.kitOne K (.ref C_BadTurn) (.ref C_NothingToUndo) = some false)
    (kit38 : PySem.W.kitOne K (.ref C_BadTurn) (.ref C_BadDeed) = some false)
    (kit39 : PySem.W.kitOne K (.ref C_BadStanding) (.ref C_BadName) = some false)
    (kit40 : PySem.W.kitOne K (.ref C_BadStanding) (.ref C_BadNumber) = some false)
    (kit41 : PySem.W.kitOne K (.ref C_BadStanding) (.ref C_BadTurn) = some false)
    (kit42 : PySem.W.kitOne K (.ref C_BadStanding) (.ref C_BadStanding) = some true)
    (kit43 : PySem.W.kitOne K (.ref C_BadStanding) (.ref C_TooMany) = some false)
    (kit44 : PySem.W.kitOne K (.ref C_BadStanding) (.ref C_DriedOut) = some false)
    (kit45 : PySem.W.kitOne K (.ref C_BadStanding) (.ref C_NotSafe) = some false)
    (kit46 : PySem.W.kitOne K (.ref C_BadStanding) (.ref C_BadPaper) = some false)
    (kit47 : PySem.W.kitOne K (.ref C_BadStanding) (.ref C_Unlike) = some false)
    (kit48 : PySem.W.kitOne K (.ref C_BadStanding) (.ref C_NothingFits) = some false)
    (kit49 : PySem.W.kitOne K (.ref C_BadStanding) (.ref C_BadText) = some false)
    (kit50 : PySem.W.kitOne K (.ref C_BadStanding) (.ref C_NothingToUndo) = some false)
    (kit51 : PySem.W.kitOne K (.ref C_BadStanding) (.ref C_BadDeed) = some false)
    (kit52 : PySem.W.kitOne K (.ref C_TooMany) (.ref C_BadName) = some false)
    (kit53 : PySem.W.kitOne K (.ref C_TooMany) (.ref C_BadNumber) = some false)
    (kit54 : PySem.W.kitOne K (.ref C_TooMany) (.ref C_BadTurn) = some false)
    (kit55 : PySem.W.kitOne K (.ref C_TooMany) (.ref C_BadStanding) = some false)
    (kit56 : PySem.W.kitOne K (.ref C_TooMany) (.ref C_TooMany) = some true)
    (kit57 : PySem.W.kitOne K (.ref C_TooMany) (.ref C_DriedOut) = some false)
    (kit58 : PySem.W.kitOne K (.ref C_TooMany) (.ref C_NotSafe) = some false)
    (kit59 : PySem.W.kitOne K (.ref C_TooMany) (.ref C_BadPaper) = some false)
    (kit60 : PySem.W.kitOne K (.ref C_TooMany) (.ref C_Unlike) = some false)
    (kit61 : PySem.W.kitOne K (.ref C_TooMany) (.ref C_NothingFits) = some false)
    (kit62 : PySem.W.kitOne K (.ref C_TooMany) (.ref C_BadText) = some false)
    (kit63 : PySem.W.kitOne K (.ref C_TooMany) (.ref C_NothingToUndo) = some false)
    (kit64 : PySem.W.kitOne K (.ref C_TooMany) (.ref C_BadDeed) = some false)
    (kit65 : PySem.W.kitOne K (.ref C_DriedOut) (.ref C_BadName) = some false)
    (kit66 : PySem.W.kitOne K (.ref C_DriedOut) (.ref C_BadNumber) = some false)
    (kit67 : PySem.W.kitOne K (.ref C_DriedOut) (.ref C_BadTurn) = some false)
    (kit68 : PySem.W.kitOne K (.ref C_DriedOut) (.ref C_BadStanding) = some false)
    (kit69 : PySem.W.kitOne K (.ref C_DriedOut) (.ref C_TooMany) = some false)
    (kit70 : PySem.W.kitOne K (.ref C_DriedOut) (.ref C_DriedOut) = some true)
    (kit71 : PySem.W.kitOne K (.ref C_DriedOut) (.ref C_NotSafe) = some false)
    (kit72 : PySem.W.kitOne K (.ref C_DriedOut) (.ref C_BadPaper) = some false)
    (kit73 : PySem.W.kitOne K (.ref C_DriedOut) (.ref C_Unlike) = some false)
    (kit74 : PySem.W.kitOne K (.ref C_DriedOut) (.ref C_NothingFits) = some false)
    (kit75 : PySem.W.kitOne K (.ref C_DriedOut) (.ref C_BadText) = some false)
    (kit76 : PySem.W.kitOne K (.ref C_DriedOut) (.ref C_NothingToUndo) = some false)
    (kit77 : PySem.W.kitOne K (.ref C_DriedOut) (.ref C_BadDeed) = some false)
    (kit78 : PySem.W.kitOne K (.ref C_NotSafe) (.ref C_BadName) = some false)
    (kit79 : PySem.W.kitOne K (.ref C_NotSafe) (.ref C_BadNumber) = some false)
    (kit80 : PySem.W.kitOne K (.ref C_NotSafe) (.ref C_BadTurn) = some false)
    (kit81 : PySem.W.kitOne K (.ref C_NotSafe) (.ref C_BadStanding) = some false)
    (kit82 : PySem.W.kitOne K (.ref C_NotSafe) (.ref C_TooMany) = some false)
    (kit83 : PySem.W.kitOne K (.ref C_NotSafe) (.ref C_DriedOut) = some false)
    (kit84 : PySem.W.kitOne K (.ref C_NotSafe) (.ref C_NotSafe) = some true)
    (kit85 : PySem.W.kitOne K (.ref C_NotSafe) (.ref C_BadPaper) = some false)
    (kit86 : PySem.W.kitOne K (.ref C_NotSafe) (.ref C_Unlike) = some false)
    (kit87 : PySem.W.kitOne K (.ref C_NotSafe) (.ref C_NothingFits) = some false)
    (kit88 : PySem.W.kitOne K (.ref C_NotSafe) (.ref C_BadText) = some false)
    (kit89 : PySem.W.kitOne K (.ref C_NotSafe) (.ref C_NothingToUndo) = some false)
    (kit90 : PySem.W.kitOne K (.ref C_NotSafe) (.ref C_BadDeed) = some false)
    (kit91 : PySem.W.kitOne K (.ref C_BadPaper) (.ref C_BadName) = some false)
    (kit92 : PySem.W.kitOne K (.ref C_BadPaper) (.ref C_BadNumber) = some false)
    (kit93 : PySem.W.kitOne K (.ref C_BadPaper) (.ref C_BadTurn) = some false)
    (kit94 : PySem.W.kitOne K (.ref C_BadPaper) (.ref C_BadStanding) = some false)
    (kit95 : PySem.W.kitOne K (.ref C_BadPaper) (.ref C_TooMany) = some false)
    (kit96 : PySem.W.kitOne K (.ref C_BadPaper) (.ref C_DriedOut) = some false)
    (kit97 : PySem.W.kitOne K (.ref C_BadPaper) (.ref C_NotSafe) = some false)
    (kit98 : PySem.W.kitOne K (.ref C_BadPaper) (.ref C_BadPaper) = some true)
    (kit99 : PySem.W.kitOne K (.ref C_BadPaper) (.ref C_Unlike) = some false)
    (kit100 : PySem.W.kitOne K (.ref C_BadPaper) (.ref C_NothingFits) = some false)
    (kit101 : PySem.W.kitOne K (.ref C_BadPaper) (.ref C_BadText) = some false)
    (kit102 : PySem.W.kitOne K (.ref C_BadPaper) (.ref C_NothingToUndo) = some false)
    (kit103 : PySem.W.kitOne K (.ref C_BadPaper) (.ref C_BadDeed) = some false)
    (kit104 : PySem.W.kitOne K (.ref C_Unlike) (.ref C_BadName) = some false)
    (kit105 : PySem.W.kitOne K (.ref C_Unlike) (.ref C_BadNumber) = some false)
    (kit106 : PySem.W.kitOne K (.ref C_Unlike) (.ref C_BadTurn) = some false)
    (kit107 : PySem.W.kitOne K (.ref C_Unlike) (.ref C_BadStanding) = some false)
    (kit108 : PySem.W.kitOne K (.ref C_Unlike) (.ref C_TooMany) = some false)
    (kit109 : PySem.W.kitOne K (.ref C_Unlike) (.ref C_DriedOut) = some false)
    (kit110 : PySem.W.kitOne K (.ref C_Unlike) (.ref C_NotSafe) = some false)
    (kit111 : PySem.W.kitOne K (.ref C_Unlike) (.ref C_BadPaper) = some false)
    (kit112 : PySem.W.kitOne K (.ref C_Unlike) (.ref C_Unlike) = some true)
    (kit113 : PySem.W.kitOne K (.ref C_Unlike) (.ref C_NothingFits) = some false)
    (kit114 : PySem.W.kitOne K (.ref C_Unlike) (.ref C_BadText) = some false)
    (kit115 : PySem.W.kitOne K (.ref C_Unlike) (.ref C_NothingToUndo) = some false)
    (kit116 : PySem.W.kitOne K (.ref C_Unlike) (.ref C_BadDeed) = some false)
    (kit117 : PySem.W.kitOne K (.ref C_NothingFits) (.ref C_BadName) = some false)
    (kit118 : PySem.W.kitOne K (.ref C_NothingFits) (.ref C_BadNumber) = some false)
    (kit119 : PySem.W.kitOne K (.ref C_NothingFits) (.ref C_BadTurn) = some false)
    (kit120 : PySem.W.kitOne K (.ref C_NothingFits) (.ref C_BadStanding) = some false)
    (kit121 : PySem.W.kitOne K (.ref C_NothingFits) (.ref C_TooMany) = some false)
    (kit122 : PySem.W.kitOne K (.ref C_NothingFits) (.ref C_DriedOut) = some false)
    (kit123 : PySem.W.kitOne K (.ref C_NothingFits) (.ref C_NotSafe) = some false)
    (kit124 : PySem.W.kitOne K (.ref C_NothingFits) (.ref C_BadPaper) = some false)
    (kit125 : PySem.W.kitOne K (.ref C_NothingFits) (.ref C_Unlike) = some false)
    (kit126 : PySem.W.kitOne K (.ref C_NothingFits) (.ref C_NothingFits) = some true)
    (kit127 : PySem.W.kitOne K (.ref C_NothingFits) (.ref C_BadText) = some false)
    (kit128 : PySem.W.kitOne K (.ref C_NothingFits) (.ref C_NothingToUndo) = some false)
    (kit129 : PySem.W.kitOne K (.ref C_NothingFits) (.ref C_BadDeed) = some false)
    (kit130 : PySem.W.kitOne K (.ref C_BadText) (.ref C_BadName) = some false)
    (kit131 : PySem.W.kitOne K (.ref C_BadText) (.ref C_BadNumber) = some false)
    (kit132 : PySem.W.kitOne K (.ref C_BadText) (.ref C_BadTurn) = some false)
    (kit133 : PySem.W.kitOne K (.ref C_BadText) (.ref C_BadStanding) = some false)
    (kit134 : PySem.W.kitOne K (.ref C_BadText) (.ref C_TooMany) = some false)
    (kit135 : PySem.W.kitOne K (.ref C_BadText) (.ref C_DriedOut) = some false)
    (kit136 : PySem.W.kitOne K (.ref C_BadText) (.ref C_NotSafe) = some false)
    (kit137 : PySem.W.kitOne K (.ref C_BadText) (.ref C_BadPaper) = some false)
    (kit138 : PySem.W.kitOne K (.ref C_BadText) (.ref C_Unlike) = some false)
    (kit139 : PySem.W.kitOne K (.ref C_BadText) (.ref C_NothingFits) = some false)
    (kit140 : PySem.W.kitOne K (.ref C_BadText) (.ref C_BadText) = some true)
    (kit141 : PySem.W.kitOne K (.ref C_BadText) (.ref C_NothingToUndo) = some false)
    (kit142 : PySem.W.kitOne K (.ref C_BadText) (.ref C_BadDeed) = some false)
    (kit143 : PySem.W.kitOne K (.ref C_NothingToUndo) (.ref C_BadName) = some false)
    (kit144 : PySem.W.kitOne K (.ref C_NothingToUndo) (.ref C_BadNumber) = some false)
    (kit145 : PySem.W.kitOne K (.ref C_NothingToUndo) (.ref C_BadTurn) = some false)
    (kit146 : PySem.W.kitOne K (.ref C_NothingToUndo) (.ref C_BadStanding) = some false)
    (kit147 : PySem.W.kitOne K (.ref C_NothingToUndo) (.ref C_TooMany) = some false)
    (kit148 : PySem.W.kitOne K (.ref C_NothingToUndo) (.ref C_DriedOut) = some false)
    (kit149 : PySem.W.kitOne K (.ref C_NothingToUndo) (.ref C_NotSafe) = some false)
    (kit150 : PySem.W.kitOne K (.ref C_NothingToUndo) (.ref C_BadPaper) = some false)
    (kit151 : PySem.W.kitOne K (.ref C_NothingToUndo) (.ref C_Unlike) = some false)
    (kit152 : PySem.W.kitOne K (.ref C_NothingToUndo) (.ref C_NothingFits) = some false)
    (kit153 : PySem.W.kitOne K (.ref C_NothingToUndo) (.ref C_BadText) = some false)
    (kit154 : PySem.W.kitOne K (.ref C_NothingToUndo) (.ref C_NothingToUndo) = some true)
    (kit155 : PySem.W.kitOne K (.ref C_NothingToUndo) (.ref C_BadDeed) = some false)
    (kit156 : PySem.W.kitOne K (.ref C_BadDeed) (.ref C_BadName) = some false)
    (kit157 : PySem.W.kitOne K (.ref C_BadDeed) (.ref C_BadNumber) = some false)
    (kit158 : PySem.W.kitOne K (.ref C_BadDeed) (.ref C_BadTurn) = some false)
    (kit159 : PySem.W.kitOne K (.ref C_BadDeed) (.ref C_BadStanding) = some false)
    (kit160 : PySem.W.kitOne K (.ref C_BadDeed) (.ref C_TooMany) = some false)
    (kit161 : PySem.W.kitOne K (.ref C_BadDeed) (.ref C_DriedOut) = some false)
    (kit162 : PySem.W.kitOne K (.ref C_BadDeed) (.ref C_NotSafe) = some false)
    (kit163 : PySem.W.kitOne K (.ref C_BadDeed) (.ref C_BadPaper) = some false)
    (kit164 : PySem.W.kitOne K (.ref C_BadDeed) (.ref C_Unlike) = some false)
    (kit165 : PySem.W.kitOne K (.ref C_BadDeed) (.ref C_NothingFits) = some false)
    (kit166 : PySem.W.kitOne K (.ref C_BadDeed) (.ref C_BadText) = some false)
    (kit167 : PySem.W.kitOne K (.ref C_BadDeed) (.ref C_NothingToUndo) = some false)
    (kit168 : PySem.W.kitOne K (.ref C_BadDeed) (.ref C_BadDeed) = some true)
    (kit169 : PySem.W.kitOne K (.ref C_BadName) (.ref C_WaterError) = some true)
    (kit170 : PySem.W.kitOne K (.ref C_BadNumber) (.ref C_WaterError) = some true)
    (kit171 : PySem.W.kitOne K (.ref C_BadTurn) (.ref C_WaterError) = some true)
    (kit172 : PySem.W.kitOne K (.ref C_BadStanding) (.ref C_WaterError) = some true)
    (kit173 : PySem.W.kitOne K (.ref C_TooMany) (.ref C_WaterError) = some true)
    (kit174 : PySem.W.kitOne K (.ref C_DriedOut) (.ref C_WaterError) = some true)
    (kit175 : PySem.W.kitOne K (.ref C_NotSafe) (.ref C_WaterError) = some true)
    (kit176 : PySem.W.kitOne K (.ref C_BadPaper) (.ref C_WaterError) = some true)
    (kit177 : PySem.W.kitOne K (.ref C_Unlike) (.ref C_WaterError) = some true)
    (kit178 : PySem.W.kitOne K (.ref C_NothingFits) (.ref C_WaterError) = some true)
    (kit179 : PySem.W.kitOne K (.ref C_BadText) (.ref C_WaterError) = some true)
    (kit180 : PySem.W.kitOne K (.ref C_NothingToUndo) (.ref C_WaterError) = some true)
    (kit181 : PySem.W.kitOne K (.ref C_BadDeed) (.ref C_WaterError) = some true)
    (kit182 : PySem.W.kitOne K (.ref C_BadName) (.type "ValueError") = some true)
    (kit183 : PySem.W.kitOne K (.ref C_BadNumber) (.type "ValueError") = some true)
    (kit184 : PySem.W.kitOne K (.ref C_BadTurn) (.type "ValueError") = some true)
    (kit185 : PySem.W.kitOne K (.ref C_BadStanding) (.type "ValueError") = some true)
    (kit186 : PySem.W.kitOne K (.ref C_TooMany) (.type "ValueError") = some true)
    (kit187 : PySem.W.kitOne K (.ref C_DriedOut) (.type "ValueError") = some true)
    (kit188 : PySem.W.kitOne K (.ref C_NotSafe) (.type "ValueError") = some true)
    (kit189 : PySem.W.kitOne K (.ref C_BadPaper) (.type "ValueError") = some true)
    (kit190 : PySem.W.kitOne K (.ref C_Unlike) (.type "ValueError") = some true)
    (kit191 : PySem.W.kitOne K (.ref C_NothingFits) (.type "ValueError") = some true)
    (kit192 : PySem.W.kitOne K (.ref C_BadText) (.type "ValueError") = some true)
    (kit193 : PySem.W.kitOne K (.ref C_NothingToUndo) (.type "ValueError") = some true)
    (kit194 : PySem.W.kitOne K (.ref C_BadDeed) (.type "ValueError") = some true) :
    ∃ fd : FuncData, (∀ (s : Shared) (v : Value), BindsTo s fd ⟨[v], []⟩ [("script", v)]) ∧ ∀ base : Heap, K.In base → base.Ns mainGlobals mg → FnOk l.prog w K mg base CX0 9 fa fd ["script"] (splaw K) := by
  have e := hfa.symm.trans (PySem.W.mg_of X G a10)
  cases e
  have T : Txt K mg := ⟨PySem.W.mg_none_of X G z_len, PySem.W.mg_none_of X G z_abs, PySem.W.mg_none_of X G z_int, PySem.W.mg_none_of X G z_bool, PySem.W.mg_none_of X G z_str, PySem.W.mg_none_of X G z_range, PySem.W.mg_none_of X G z_all, PySem.W.mg_none_of X G z_isinstance, PySem.W.mg_none_of X G z_repr, PySem.W.mg_none_of X G z_super, PySem.W.mg_none_of X G z_tuple, PySem.W.mg_none_of X G z_list, PySem.W.mg_none_of X G z_zip, PySem.W.mg_none_of X G z_enumerate, PySem.W.mg_none_of X G z_max, PySem.W.mg_none_of X G z_min, PySem.W.mg_none_of X G z_ValueError, ⟨_, PySem.W.mg_of X G g_MOST_PLOTS⟩, ⟨_, PySem.W.mg_of X G g_MOST_UNITS⟩, ⟨_, PySem.W.mg_of X G g_MOST_MOODS⟩⟩
  have E_BadName : ErrC l.prog K mg "BadName" "BadName.__init__" C_BadName f_BadName cda_BadName cc_BadName := ⟨PySem.W.mg_of X G g_BadName, ⟨⟨⟨_, _, _, _, _, _, _, _, _, _, _, _, _, _, _, x_BadName, r_BadName⟩, sa_BadName, ex_BadName, ty_BadName, kp_BadName⟩, cd_BadName, ⟨_, _, _, _, _, _, cf_BadName, v2_BadName, fi_BadName⟩, ⟨_, _, _, cl_BadName⟩, T.b_super, htop, mr_BadName, sb_BadName, su_BadName, opq⟩, i_BadName, ti_BadName, ⟨ga_BadName, gg_BadName, ex_BadName, hd_BadName⟩, ⟨ga_BadName, gg_BadName, ex_BadName, hd_BadName, ha_BadName, spc, tks, mo_BadName⟩, PySem.W.exm_ref ex_BadName hd_BadName ty_BadName em_BadName, nw_BadName, nv_BadName, nn_BadName, nt_BadName⟩
  have E_BadNumber : ErrC l.prog K mg "BadNumber" "BadNumber.__init__" C_BadNumber f_BadNumber cda_BadNumber cc_BadNumber := ⟨PySem.W.mg_of X G g_BadNumber, ⟨⟨⟨_, _, _, _, _, _, _, _, _, _, _, _, _, _, _, x_BadNumber, r_BadNumber⟩, sa_BadNumber, ex_BadNumber, ty_BadNumber, kp_BadNumber⟩, cd_BadNumber, ⟨_, _, _, _, _, _, cf_BadNumber, v2_BadNumber, fi_BadNumber⟩, ⟨_, _, _, cl_BadNumber⟩, T.b_super, htop, mr_BadNumber, sb_BadNumber, su_BadNumber, opq⟩, i_BadNumber, ti_BadNumber, ⟨ga_BadNumber, gg_BadNumber, ex_BadNumber, hd_BadNumber⟩, ⟨ga_BadNumber, gg_BadNumber, ex_BadNumber, hd_BadNumber, ha_BadNumber, spc, tks, mo_BadNumber⟩, PySem.W.exm_ref ex_BadNumber hd_BadNumber ty_BadNumber em_BadNumber, nw_BadNumber, nv_BadNumber, nn_BadNumber, nt_BadNumber⟩
  have E_BadTurn : ErrC l.prog K mg "BadTurn" "BadTurn.__init__" C_BadTurn f_BadTurn cda_BadTurn cc_BadTurn := ⟨PySem.W.mg_of X G g_BadTurn, ⟨⟨⟨_, _, _, _, _, _, _, _, _, _, _, _, _, _, _, x_BadTurn, r_BadTurn⟩, sa_BadTurn, ex_BadTurn, ty_BadTurn, kp_BadTurn⟩, cd_BadTurn, ⟨_, _, _, _, _, _, cf_BadTurn, v2_BadTurn, fi_BadTurn⟩, ⟨_, _, _, cl_BadTurn⟩, T.b_super, htop, mr_BadTurn, sb_BadTurn, su_BadTurn, opq⟩, i_BadTurn, ti_BadTurn, ⟨ga_BadTurn, gg_BadTurn, ex_BadTurn, hd_BadTurn⟩, ⟨ga_BadTurn, gg_BadTurn, ex_BadTurn, hd_BadTurn, ha_BadTurn, spc, tks, mo_BadTurn⟩, PySem.W.exm_ref ex_BadTurn hd_BadTurn ty_BadTurn em_BadTurn, nw_BadTurn, nv_BadTurn, nn_BadTurn, nt_BadTurn⟩
  have E_BadStanding : ErrC l.prog K mg "BadStanding" "BadStanding.__init__" C_BadStanding f_BadStanding cda_BadStanding cc_BadStanding := ⟨PySem.W.mg_of X G g_BadStanding, ⟨⟨⟨_, _, _, _, _, _, _, _, _, _, _, _, _, _, _, x_BadStanding, r_BadStanding⟩, sa_BadStanding, ex_BadStanding, ty_BadStanding, kp_BadStanding⟩, cd_BadStanding, ⟨_, _, _, _, _, _, cf_BadStanding, v2_BadStanding, fi_BadStanding⟩, ⟨_, _, _, cl_BadStanding⟩, T.b_super, htop, mr_BadStanding, sb_BadStanding, su_BadStanding, opq⟩, i_BadStanding, ti_BadStanding, ⟨ga_BadStanding, gg_BadStanding, ex_BadStanding, hd_BadStanding⟩, ⟨ga_BadStanding, gg_BadStanding, ex_BadStanding, hd_BadStanding, ha_BadStanding, spc, tks, mo_BadStanding⟩, PySem.W.exm_ref ex_BadStanding hd_BadStanding ty_BadStanding em_BadStanding, nw_BadStanding, nv_BadStanding, nn_BadStanding, nt_BadStanding⟩
  have E_TooMany : ErrC l.prog K mg "TooMany" "TooMany.__init__" C_TooMany f_TooMany cda_TooMany cc_TooMany := ⟨PySem.W.mg_of X G g_TooMany, ⟨⟨⟨_, _, _, _, _, _, _, _, _, _, _, _, _, _, _, x_TooMany, r_TooMany⟩, sa_TooMany, ex_TooMany, ty_TooMany, kp_TooMany⟩, cd_TooMany, ⟨_, _, _, _, _, _, cf_TooMany, v2_TooMany, fi_TooMany⟩, ⟨_, _, _, cl_TooMany⟩, T.b_super, htop, mr_TooMany, sb_TooMany, su_TooMany, opq⟩, i_TooMany, ti_TooMany, ⟨ga_TooMany, gg_TooMany, ex_TooMany, hd_TooMany⟩, ⟨ga_TooMany, gg_TooMany, ex_TooMany, hd_TooMany, ha_TooMany, spc, tks, mo_TooMany⟩, PySem.W.exm_ref ex_TooMany hd_TooMany ty_TooMany em_TooMany, nw_TooMany, nv_TooMany, nn_TooMany, nt_TooMany⟩
  have E_DriedOut : ErrC l.prog K mg "DriedOut" "DriedOut.__init__" C_DriedOut f_DriedOut cda_DriedOut cc_DriedOut := ⟨PySem.W.mg_of X G g_DriedOut, ⟨⟨⟨_, _, _, _, _, _, _, _, _, _, _, _, _, _, _, x_DriedOut, r_DriedOut⟩, sa_DriedOut, ex_DriedOut, ty_DriedOut, kp_DriedOut⟩, cd_DriedOut, ⟨_, _, _, _, _, _, cf_DriedOut, v2_DriedOut, fi_DriedOut⟩, ⟨_, _, _, cl_DriedOut⟩, T.b_super, htop, mr_DriedOut, sb_DriedOut, su_DriedOut, opq⟩, i_DriedOut, ti_DriedOut, ⟨ga_DriedOut, gg_DriedOut, ex_DriedOut, hd_DriedOut⟩, ⟨ga_DriedOut, gg_DriedOut, ex_DriedOut, hd_DriedOut, ha_DriedOut, spc, tks, mo_DriedOut⟩, PySem.W.exm_ref ex_DriedOut hd_DriedOut ty_DriedOut em_DriedOut, nw_DriedOut, nv_DriedOut, nn_DriedOut, nt_DriedOut⟩
  have E_NotSafe : ErrC l.prog K mg "NotSafe" "NotSafe.__init__" C_NotSafe f_NotSafe cda_NotSafe cc_NotSafe := ⟨PySem.W.mg_of X G g_NotSafe, ⟨⟨⟨_, _, _, _, _, _, _, _, _, _, _, _, _, _, _, x_NotSafe, r_NotSafe⟩, sa_NotSafe, ex_NotSafe, ty_NotSafe, kp_NotSafe⟩, cd_NotSafe, ⟨_, _, _, _, _, _, cf_NotSafe, v2_NotSafe, fi_NotSafe⟩, ⟨_, _, _, cl_NotSafe⟩, T.b_super, htop, mr_NotSafe, sb_NotSafe, su_NotSafe, opq⟩, i_NotSafe, ti_NotSafe, ⟨ga_NotSafe, gg_NotSafe, ex_NotSafe, hd_NotSafe⟩, ⟨ga_NotSafe, gg_NotSafe, ex_NotSafe, hd_NotSafe, ha_NotSafe, spc, tks, mo_NotSafe⟩, PySem.W.exm_ref ex_NotSafe hd_NotSafe ty_NotSafe em_NotSafe, nw_NotSafe, nv_NotSafe, nn_NotSafe, nt_NotSafe⟩
  have E_BadPaper : ErrC l.prog K mg "BadPaper" "BadPaper.__init__" C_BadPaper f_BadPaper cda_BadPaper cc_BadPaper := ⟨PySem.W.mg_of X G g_BadPaper, ⟨⟨⟨_, _, _, _, _, _, _, _, _, _, _, _, _, _, _, x_BadPaper, r_BadPaper⟩, sa_BadPaper, ex_BadPaper, ty_BadPaper, kp_BadPaper⟩, cd_BadPaper, ⟨_, _, _, _, _, _, cf_BadPaper, v2_BadPaper, fi_BadPaper⟩, ⟨_, _, _, cl_BadPaper⟩, T.b_super, htop, mr_BadPaper, sb_BadPaper, su_BadPaper, opq⟩, i_BadPaper, ti_BadPaper, ⟨ga_BadPaper, gg_BadPaper, ex_BadPaper, hd_BadPaper⟩, ⟨ga_BadPaper, gg_BadPaper, ex_BadPaper, hd_BadPaper, ha_BadPaper, spc, tks, mo_BadPaper⟩, PySem.W.exm_ref ex_BadPaper hd_BadPaper ty_BadPaper em_BadPaper, nw_BadPaper, nv_BadPaper, nn_BadPaper, nt_BadPaper⟩
  have E_NothingFits : ErrC l.prog K mg "NothingFits" "NothingFits.__init__" C_NothingFits f_NothingFits cda_NothingFits cc_NothingFits := ⟨PySem.W.mg_of X G g_NothingFits, ⟨⟨⟨_, _, _, _, _, _, _, _, _, _, _, _, _, _, _, x_NothingFits, r_NothingFits⟩, sa_NothingFits, ex_NothingFits, ty_NothingFits, kp_NothingFits⟩, cd_NothingFits, ⟨_, _, _, _, _, _, cf_NothingFits, v2_NothingFits, fi_NothingFits⟩, ⟨_, _, _, cl_NothingFits⟩, T.b_super, htop, mr_NothingFits, sb_NothingFits, su_NothingFits, opq⟩, i_NothingFits, ti_NothingFits, ⟨ga_NothingFits, gg_NothingFits, ex_NothingFits, hd_NothingFits⟩, ⟨ga_NothingFits, gg_NothingFits, ex_NothingFits, hd_NothingFits, ha_NothingFits, spc, tks, mo_NothingFits⟩, PySem.W.exm_ref ex_NothingFits hd_NothingFits ty_NothingFits em_NothingFits, nw_NothingFits, nv_NothingFits, nn_NothingFits, nt_NothingFits⟩
  have E_BadText : ErrC l.prog K mg "BadText" "BadText.__init__" C_BadText f_BadText cda_BadText cc_BadText := ⟨PySem.W.mg_of X G g_BadText, ⟨⟨⟨_, _, _, _, _, _, _, _, _, _, _, _, _, _, _, x_BadText, r_BadText⟩, sa_BadText, ex_BadText, ty_BadText, kp_BadText⟩, cd_BadText, ⟨_, _, _, _, _, _, cf_BadText, v2_BadText, fi_BadText⟩, ⟨_, _, _, cl_BadText⟩, T.b_super, htop, mr_BadText, sb_BadText, su_BadText, opq⟩, i_BadText, ti_BadText, ⟨ga_BadText, gg_BadText, ex_BadText, hd_BadText⟩, ⟨ga_BadText, gg_BadText, ex_BadText, hd_BadText, ha_BadText, spc, tks, mo_BadText⟩, PySem.W.exm_ref ex_BadText hd_BadText ty_BadText em_BadText, nw_BadText, nv_BadText, nn_BadText, nt_BadText⟩
  have E_BadDeed : ErrC l.prog K mg "BadDeed" "BadDeed.__init__" C_BadDeed f_BadDeed cda_BadDeed cc_BadDeed := ⟨PySem.W.mg_of X G g_BadDeed, ⟨⟨⟨_, _, _, _, _, _, _, _, _, _, _, _, _, _, _, x_BadDeed, r_BadDeed⟩, sa_BadDeed, ex_BadDeed, ty_BadDeed, kp_BadDeed⟩, cd_BadDeed, ⟨_, _, _, _, _, _, cf_BadDeed, v2_BadDeed, fi_BadDeed⟩, ⟨_, _, _, cl_BadDeed⟩, T.b_super, htop, mr_BadDeed, sb_BadDeed, su_BadDeed, opq⟩, i_BadDeed, ti_BadDeed, ⟨ga_BadDeed, gg_BadDeed, ex_BadDeed, hd_BadDeed⟩, ⟨ga_BadDeed, gg_BadDeed, ex_BadDeed, hd_BadDeed, ha_BadDeed, spc, tks, mo_BadDeed⟩, PySem.W.exm_ref ex_BadDeed hd_BadDeed ty_BadDeed em_BadDeed, nw_BadDeed, nv_BadDeed, nn_BadDeed, nt_BadDeed⟩
  have F_Standing_init := fun_mk (st := sStanding___init__) l_Standing_init c_Standing_init k_Standing_init
  have b_Standing_init := F_Standing_init.binds (ps := PStanding___init__) fun _ _ _ _ _ _ us hl => match us, hl with | [_, _, _, _], _ => rfl
  have F_Standing_eq := fun_mk (st := sStanding___eq__) l_Standing_eq c_Standing_eq k_Standing_eq
  have b_Standing_eq := F_Standing_eq.binds (ps := PStanding___eq__) fun _ _ _ _ _ _ us hl => match us, hl with | [_, _], _ => rfl
  have D_Standing : DatC K mg "Standing" C_Standing f_Standing_init f_Standing_eq ["levels", "tank", "mood"] := ⟨PySem.W.mg_of X G g_Standing, ⟨mk_Standing, i_Standing_init, fn_Standing_init, kp_Standing⟩, ⟨pg_Standing, hd_Standing, po_Standing, sa_Standing⟩, (fun f hf => by
    simp only [List.mem_cons, List.not_mem_nil, or_false] at hf
    rcases hf with rfl | rfl | rfl
    · exact no_Standing_levels
    · exact no_Standing_tank
    · exact no_Standing_mood), i_Standing_eq, fn_Standing_eq, ne_Standing, ob_Standing, ha_Standing, spc, tks, hm_Standing, kk_Standing⟩
  have F0 := fun_mk (st := s_shown) l0 c0 k0
  have b0 := F0.binds (ps := P_shown) fun _ _ _ _ _ _ us hl => match us, hl with | [_], _ => rfl
  have F1 := fun_mk (st := scheck_number) l1 c1 k1
  have b1 := F1.binds (ps := Pcheck_number) fun _ _ _ _ _ _ us hl => match us, hl with | [_, _, _, _], _ => rfl
  have F2 := fun_mk (st := scheck_units) l2 c2 k2
  have b2 := F2.binds (ps := Pcheck_units) fun _ _ _ _ _ _ us hl => match us, hl with | [_, _], _ => rfl
  have F3 := fun_mk (st := s_law_start) l3 c3 k3
  have b3 := F3.binds (ps := P_law_start) fun _ _ _ _ _ _ us hl => match us, hl with | [_], _ => rfl
  have F4 := fun_mk (st := s_law_draw) l4 c4 k4
  have b4 := F4.binds (ps := P_law_draw) fun _ _ _ _ _ _ us hl => match us, hl with | [_, _, _], _ => rfl
  have F5 := fun_mk (st := s_law_kinds) l5 c5 k5
  have b5 := F5.binds (ps := P_law_kinds) fun _ _ _ _ _ _ us hl => match us, hl with | [_], _ => rfl
  have F6 := fun_mk (st := s_law_throw) l6 c6 k6
  have b6 := F6.binds (ps := P_law_throw) fun _ _ _ _ _ _ us hl => match us, hl with | [_, _], _ => rfl
  have F7 := fun_mk (st := s_law_caught) l7 c7 k7
  have b7 := F7.binds (ps := P_law_caught) fun _ _ _ _ _ _ us hl => match us, hl with | [_, _], _ => rfl
  have F8 := fun_mk (st := s_law_holds) l8 c8 k8
  have b8 := F8.binds (ps := P_law_holds) fun _ _ _ _ _ _ us hl => match us, hl with | [_, _, _], _ => rfl
  have F9 := fun_mk (st := s_law_values) l9 c9 k9
  have b9 := F9.binds (ps := P_law_values) fun _ _ _ _ _ _ us hl => match us, hl with | [_, _], _ => rfl
  have F10 := fun_mk (st := slaw) l10 c10 k10
  have bI_BadName : Binds K (PySem.W.fnX "__init__" "BadName.__init__" (defArgs sBadName___init__) (defBody sBadName___init__) (defScope sBadName___init__) [("__class__", cc_BadName)] .none kV_BadName doc_BadName pm_BadName an_BadName (.ref cda_BadName) ct_BadName) PBadName___init__ [] := .all fun us hl => match us, hl with | [_, _], _ => rfl
  have bI_BadNumber : Binds K (PySem.W.fnX "__init__" "BadNumber.__init__" (defArgs sBadNumber___init__) (defBody sBadNumber___init__) (defScope sBadNumber___init__) [("__class__", cc_BadNumber)] .none kV_BadNumber doc_BadNumber pm_BadNumber an_BadNumber (.ref cda_BadNumber) ct_BadNumber) PBadNumber___init__ [] := .all fun us hl => match us, hl with | [_, _, _], _ => rfl
  have bI_BadTurn : Binds K (PySem.W.fnX "__init__" "BadTurn.__init__" (defArgs sBadTurn___init__) (defBody sBadTurn___init__) (defScope sBadTurn___init__) [("__class__", cc_BadTurn)] .none kV_BadTurn doc_BadTurn pm_BadTurn an_BadTurn (.ref cda_BadTurn) ct_BadTurn) PBadTurn___init__ [] := .all fun us hl => match us, hl with | [_, _], _ => rfl
  have bI_BadStanding : Binds K (PySem.W.fnX "__init__" "BadStanding.__init__" (defArgs sBadStanding___init__) (defBody sBadStanding___init__) (defScope sBadStanding___init__) [("__class__", cc_BadStanding)] .none kV_BadStanding doc_BadStanding pm_BadStanding an_BadStanding (.ref cda_BadStanding) ct_BadStanding) PBadStanding___init__ [] := .all fun us hl => match us, hl with | [_, _], _ => rfl
  have bI_TooMany : Binds K (PySem.W.fnX "__init__" "TooMany.__init__" (defArgs sTooMany___init__) (defBody sTooMany___init__) (defScope sTooMany___init__) [("__class__", cc_TooMany)] .none kV_TooMany doc_TooMany pm_TooMany an_TooMany (.ref cda_TooMany) ct_TooMany) PTooMany___init__ [] := .all fun us hl => match us, hl with | [_, _], _ => rfl
  have bI_DriedOut : Binds K (PySem.W.fnX "__init__" "DriedOut.__init__" (defArgs sDriedOut___init__) (defBody sDriedOut___init__) (defScope sDriedOut___init__) [("__class__", cc_DriedOut)] .none kV_DriedOut doc_DriedOut pm_DriedOut an_DriedOut (.ref cda_DriedOut) ct_DriedOut) PDriedOut___init__ [] := .all fun us hl => match us, hl with | [_, _, _], _ => rfl
  have bI_NotSafe : Binds K (PySem.W.fnX "__init__" "NotSafe.__init__" (defArgs sNotSafe___init__) (defBody sNotSafe___init__) (defScope sNotSafe___init__) [("__class__", cc_NotSafe)] .none kV_NotSafe doc_NotSafe pm_NotSafe an_NotSafe (.ref cda_NotSafe) ct_NotSafe) PNotSafe___init__ [] := .all fun us hl => match us, hl with | [_, _], _ => rfl
  have bI_BadPaper : Binds K (PySem.W.fnX "__init__" "BadPaper.__init__" (defArgs sBadPaper___init__) (defBody sBadPaper___init__) (defScope sBadPaper___init__) [("__class__", cc_BadPaper)] .none kV_BadPaper doc_BadPaper pm_BadPaper an_BadPaper (.ref cda_BadPaper) ct_BadPaper) PBadPaper___init__ [] := .all fun us hl => match us, hl with | [_, _, _], _ => rfl
  have bI_NothingFits : Binds K (PySem.W.fnX "__init__" "NothingFits.__init__" (defArgs sNothingFits___init__) (defBody sNothingFits___init__) (defScope sNothingFits___init__) [("__class__", cc_NothingFits)] .none kV_NothingFits doc_NothingFits pm_NothingFits an_NothingFits (.ref cda_NothingFits) ct_NothingFits) PNothingFits___init__ [] := .all fun us hl => match us, hl with | [_, _], _ => rfl
  have bI_BadText : Binds K (PySem.W.fnX "__init__" "BadText.__init__" (defArgs sBadText___init__) (defBody sBadText___init__) (defScope sBadText___init__) [("__class__", cc_BadText)] .none kV_BadText doc_BadText pm_BadText an_BadText (.ref cda_BadText) ct_BadText) PBadText___init__ [] := .all fun us hl => match us, hl with | [_, _], _ => rfl
  have bI_BadDeed : Binds K (PySem.W.fnX "__init__" "BadDeed.__init__" (defArgs sBadDeed___init__) (defBody sBadDeed___init__) (defScope sBadDeed___init__) [("__class__", cc_BadDeed)] .none kV_BadDeed doc_BadDeed pm_BadDeed an_BadDeed (.ref cda_BadDeed) ct_BadDeed) PBadDeed___init__ [] := .all fun us hl => match us, hl with | [_, _], _ => rfl
  refine ⟨PySem.W.fnOf "law" "law" (defArgs slaw) (defBody slaw) (defScope slaw) .none kV10 dc10 pm10 an10 cd10 ct10, fun s v => .of_eq rfl, fun base _ _ => ?_⟩
  have C_shown := Cal.mk (ok_shown (P := l.prog) (w := w) (base := base) F0 T) (PySem.W.mg_of X G a0) k0 b0
  have G_BadNumber := okBadNumber___init__ (P := l.prog) (w := w) (base := base) l_BadNumber E_BadNumber T C_shown
  have G_BadName := okBadName___init__ (P := l.prog) (w := w) (base := base) l_BadName E_BadName T C_shown
  have G_BadTurn := okBadTurn___init__ (P := l.prog) (w := w) (base := base) l_BadTurn E_BadTurn T nt_BadTurn C_shown
  have G_BadStanding := okBadStanding___init__ (P := l.prog) (w := w) (base := base) l_BadStanding E_BadStanding T nf_BadStanding_standing C_shown
  have G_TooMany := okTooMany___init__ (P := l.prog) (w := w) (base := base) l_TooMany E_TooMany T nf_TooMany_limit C_shown
  have G_DriedOut := okDriedOut___init__ (P := l.prog) (w := w) (base := base) l_DriedOut E_DriedOut T nf_DriedOut_plot nf_DriedOut_day C_shown
  have G_NotSafe := okNotSafe___init__ (P := l.prog) (w := w) (base := base) l_NotSafe E_NotSafe T nf_NotSafe_standing C_shown
  have G_BadPaper := okBadPaper___init__ (P := l.prog) (w := w) (base := base) l_BadPaper E_BadPaper T nf_BadPaper_row nf_BadPaper_reason C_shown
  have G_NothingFits := okNothingFits___init__ (P := l.prog) (w := w) (base := base) l_NothingFits E_NothingFits T nf_NothingFits_day C_shown
  have G_BadText := okBadText___init__ (P := l.prog) (w := w) (base := base) l_BadText E_BadText T nf_BadText_line C_shown
  have G_BadDeed := okBadDeed___init__ (P := l.prog) (w := w) (base := base) l_BadDeed E_BadDeed T nf_BadDeed_place C_shown
  have Gcheck_number := okcheck_number (P := l.prog) (w := w) (base := base) F1 T E_BadNumber G_BadNumber bI_BadNumber
  have Gcheck_units := okcheck_units (P := l.prog) (w := w) (base := base) F2 T (C_BadNumber := C_BadNumber) ⟨_, _, Gcheck_number, PySem.W.mg_of X G a1, k1, b1⟩
  have GStanding___init__ := okStanding___init__ (P := l.prog) (w := w) (base := base) F_Standing_init T (C_BadNumber := C_BadNumber) D_Standing ⟨_, _, Gcheck_number, PySem.W.mg_of X G a1, k1, b1⟩ ⟨_, _, Gcheck_units, PySem.W.mg_of X G a2, k2, b2⟩
  have GStanding___eq__ := okStanding___eq__ (P := l.prog) (w := w) (base := base) F_Standing_eq T (C_BadNumber := C_BadNumber) D_Standing
  have C_law_start := Cal.mk (ok_law_start (P := l.prog) (w := w) (base := base) F3 T) (PySem.W.mg_of X G a3) k3 b3
  have C_law_draw := Cal.mk (ok_law_draw (P := l.prog) (w := w) (base := base) F4 T) (PySem.W.mg_of X G a4) k4 b4
  have XM : ∀ (j : Nat) (C : Addr), ([C_BadName, C_BadNumber, C_BadTurn, C_BadStanding, C_TooMany, C_DriedOut, C_NotSafe, C_BadPaper, C_Unlike, C_NothingFits, C_BadText, C_NothingToUndo, C_BadDeed] : List Addr)[j]? = some C → PySem.W.exmOne K (.ref C) (.ref C_WaterError) = some true := fun j C hj => match j, hj with
    | 0, e => by cases e; exact PySem.W.exm_ref ex_WaterError hd_WaterError ty_WaterError sw_BadName
    | 1, e => by cases e; exact PySem.W.exm_ref ex_WaterError hd_WaterError ty_WaterError sw_BadNumber
    | 2, e => by cases e; exact PySem.W.exm_ref ex_WaterError hd_WaterError ty_WaterError sw_BadTurn
    | 3, e => by cases e; exact PySem.W.exm_ref ex_WaterError hd_WaterError ty_WaterError sw_BadStanding
    | 4, e => by cases e; exact PySem.W.exm_ref ex_WaterError hd_WaterError ty_WaterError sw_TooMany
    | 5, e => by cases e; exact PySem.W.exm_ref ex_WaterError hd_WaterError ty_WaterError sw_DriedOut
    | 6, e => by cases e; exact PySem.W.exm_ref ex_WaterError hd_WaterError ty_WaterError sw_NotSafe
    | 7, e => by cases e; exact PySem.W.exm_ref ex_WaterError hd_WaterError ty_WaterError sw_BadPaper
    | 8, e => by cases e; exact PySem.W.exm_ref ex_WaterError hd_WaterError ty_WaterError sw_Unlike
    | 9, e => by cases e; exact PySem.W.exm_ref ex_WaterError hd_WaterError ty_WaterError sw_NothingFits
    | 10, e => by cases e; exact PySem.W.exm_ref ex_WaterError hd_WaterError ty_WaterError sw_BadText
    | 11, e => by cases e; exact PySem.W.exm_ref ex_WaterError hd_WaterError ty_WaterError sw_NothingToUndo
    | 12, e => by cases e; exact PySem.W.exm_ref ex_WaterError hd_WaterError ty_WaterError sw_BadDeed
    | _ + 13, e => by simp at e

  have KD : ∀ (j : Nat) (C : Addr), ([C_BadName, C_BadNumber, C_BadTurn, C_BadStanding, C_TooMany, C_DriedOut, C_NotSafe, C_BadPaper, C_Unlike, C_NothingFits, C_BadText, C_NothingToUndo, C_BadDeed] : List Addr)[j]? = some C → KdF K C_WaterError [C_BadName, C_BadNumber, C_BadTurn, C_BadStanding, C_TooMany, C_DriedOut, C_NotSafe, C_BadPaper, C_Unlike, C_NothingFits, C_BadText, C_NothingToUndo, C_BadDeed] j C := fun j C hj => match j, hj with
    | 0, e => by cases e; exact ⟨(fun j D hj => match j, hj with | 0, e => by cases e; exact kit0 | 1, e => by cases e; exact kit1 | 2, e => by cases e; exact kit2 | 3, e => by cases e; exact kit3 | 4, e => by cases e; exact kit4 | 5, e => by cases e; exact kit5 | 6, e => by cases e; exact kit6 | 7, e => by cases e; exact kit7 | 8, e => by cases e; exact kit8 | 9, e => by cases e; exact kit9 | 10, e => by cases e; exact kit10 | 11, e => by cases e; exact kit11 | 12, e => by cases e; exact kit12 | _ + 13, e => by simp at e), kit169, kit182, E_BadName.isx, E_BadName.xf, fun f hf => by rw [List.mem_singleton.mp hf]; exact E_BadName.noName, XM 0 _ rfl⟩
    | 1, e => by cases e; exact ⟨(fun j D hj => match j, hj with | 0, e => by cases e; exact kit13 | 1, e => by cases e; exact kit14 | 2, e => by cases e; exact kit15 | 3, e => by cases e; exact kit16 | 4, e => by cases e; exact kit17 | 5, e => by cases e; exact kit18 | 6, e => by cases e; exact kit19 | 7, e => by cases e; exact kit20 | 8, e => by cases e; exact kit21 | 9, e => by cases e; exact kit22 | 10, e => by cases e; exact kit23 | 11, e => by cases e; exact kit24 | 12, e => by cases e; exact kit25 | _ + 13, e => by simp at e), kit170, kit183, E_BadNumber.isx, E_BadNumber.xf, fun f hf => by rcases List.mem_cons.mp hf with q | q; (rw [q]; exact E_BadNumber.noWhat); rw [List.mem_singleton.mp q]; exact E_BadNumber.noValue, XM 1 _ rfl⟩
    | 2, e => by cases e; exact ⟨(fun j D hj => match j, hj with | 0, e => by cases e; exact kit26 | 1, e => by cases e; exact kit27 | 2, e => by cases e; exact kit28 | 3, e => by cases e; exact kit29 | 4, e => by cases e; exact kit30 | 5, e => by cases e; exact kit31 | 6, e => by cases e; exact kit32 | 7, e => by cases e; exact kit33 | 8, e => by cases e; exact kit34 | 9, e => by cases e; exact kit35 | 10, e => by cases e; exact kit36 | 11, e => by cases e; exact kit37 | 12, e => by cases e; exact kit38 | _ + 13, e => by simp at e), kit171, kit184, E_BadTurn.isx, E_BadTurn.xf, fun f hf => by rw [List.mem_singleton.mp hf]; exact E_BadTurn.noTurn, XM 2 _ rfl⟩
    | 3, e => by cases e; exact ⟨(fun j D hj => match j, hj with | 0, e => by cases e; exact kit39 | 1, e => by cases e; exact kit40 | 2, e => by cases e; exact kit41 | 3, e => by cases e; exact kit42 | 4, e => by cases e; exact kit43 | 5, e => by cases e; exact kit44 | 6, e => by cases e; exact kit45 | 7, e => by cases e; exact kit46 | 8, e => by cases e; exact kit47 | 9, e => by cases e; exact kit48 | 10, e => by cases e; exact kit49 | 11, e => by cases e; exact kit50 | 12, e => by cases e; exact kit51 | _ + 13, e => by simp at e), kit172, kit185, E_BadStanding.isx, E_BadStanding.xf, fun f hf => by rw [List.mem_singleton.mp hf]; exact nf_BadStanding_standing, XM 3 _ rfl⟩
    | 4, e => by cases e; exact ⟨(fun j D hj => match j, hj with | 0, e => by cases e; exact kit52 | 1, e => by cases e; exact kit53 | 2, e => by cases e; exact kit54 | 3, e => by cases e; exact kit55 | 4, e => by cases e; exact kit56 | 5, e => by cases e; exact kit57 | 6, e => by cases e; exact kit58 | 7, e => by cases e; exact kit59 | 8, e => by cases e; exact kit60 | 9, e => by cases e; exact kit61 | 10, e => by cases e; exact kit62 | 11, e => by cases e; exact kit63 | 12, e => by cases e; exact kit64 | _ + 13, e => by simp at e), kit173, kit186, E_TooMany.isx, E_TooMany.xf, fun f hf => by rw [List.mem_singleton.mp hf]; exact nf_TooMany_limit, XM 4 _ rfl⟩
    | 5, e => by cases e; exact ⟨(fun j D hj => match j, hj with | 0, e => by cases e; exact kit65 | 1, e => by cases e; exact kit66 | 2, e => by cases e; exact kit67 | 3, e => by cases e; exact kit68 | 4, e => by cases e; exact kit69 | 5, e => by cases e; exact kit70 | 6, e => by cases e; exact kit71 | 7, e => by cases e; exact kit72 | 8, e => by cases e; exact kit73 | 9, e => by cases e; exact kit74 | 10, e => by cases e; exact kit75 | 11, e => by cases e; exact kit76 | 12, e => by cases e; exact kit77 | _ + 13, e => by simp at e), kit174, kit187, E_DriedOut.isx, E_DriedOut.xf, fun f hf => by rcases List.mem_cons.mp hf with q | q; (rw [q]; exact nf_DriedOut_plot); rw [List.mem_singleton.mp q]; exact nf_DriedOut_day, XM 5 _ rfl⟩
    | 6, e => by cases e; exact ⟨(fun j D hj => match j, hj with | 0, e => by cases e; exact kit78 | 1, e => by cases e; exact kit79 | 2, e => by cases e; exact kit80 | 3, e => by cases e; exact kit81 | 4, e => by cases e; exact kit82 | 5, e => by cases e; exact kit83 | 6, e => by cases e; exact kit84 | 7, e => by cases e; exact kit85 | 8, e => by cases e; exact kit86 | 9, e => by cases e; exact kit87 | 10, e => by cases e; exact kit88 | 11, e => by cases e; exact kit89 | 12, e => by cases e; exact kit90 | _ + 13, e => by simp at e), kit175, kit188, E_NotSafe.isx, E_NotSafe.xf, fun f hf => by rw [List.mem_singleton.mp hf]; exact nf_NotSafe_standing, XM 6 _ rfl⟩
    | 7, e => by cases e; exact ⟨(fun j D hj => match j, hj with | 0, e => by cases e; exact kit91 | 1, e => by cases e; exact kit92 | 2, e => by cases e; exact kit93 | 3, e => by cases e; exact kit94 | 4, e => by cases e; exact kit95 | 5, e => by cases e; exact kit96 | 6, e => by cases e; exact kit97 | 7, e => by cases e; exact kit98 | 8, e => by cases e; exact kit99 | 9, e => by cases e; exact kit100 | 10, e => by cases e; exact kit101 | 11, e => by cases e; exact kit102 | 12, e => by cases e; exact kit103 | _ + 13, e => by simp at e), kit176, kit189, E_BadPaper.isx, E_BadPaper.xf, fun f hf => by rcases List.mem_cons.mp hf with q | q; (rw [q]; exact nf_BadPaper_row); rw [List.mem_singleton.mp q]; exact nf_BadPaper_reason, XM 7 _ rfl⟩
    | 8, e => by cases e; exact ⟨(fun j D hj => match j, hj with | 0, e => by cases e; exact kit104 | 1, e => by cases e; exact kit105 | 2, e => by cases e; exact kit106 | 3, e => by cases e; exact kit107 | 4, e => by cases e; exact kit108 | 5, e => by cases e; exact kit109 | 6, e => by cases e; exact kit110 | 7, e => by cases e; exact kit111 | 8, e => by cases e; exact kit112 | 9, e => by cases e; exact kit113 | 10, e => by cases e; exact kit114 | 11, e => by cases e; exact kit115 | 12, e => by cases e; exact kit116 | _ + 13, e => by simp at e), kit177, kit190, ⟨ga_Unlike, gg_Unlike, ex_Unlike, hd_Unlike, ha_Unlike, spc, tks, mo_Unlike⟩, ⟨ga_Unlike, gg_Unlike, ex_Unlike, hd_Unlike⟩, fun f hf => by simp [fldsOf] at hf, XM 8 _ rfl⟩
    | 9, e => by cases e; exact ⟨(fun j D hj => match j, hj with | 0, e => by cases e; exact kit117 | 1, e => by cases e; exact kit118 | 2, e => by cases e; exact kit119 | 3, e => by cases e; exact kit120 | 4, e => by cases e; exact kit121 | 5, e => by cases e; exact kit122 | 6, e => by cases e; exact kit123 | 7, e => by cases e; exact kit124 | 8, e => by cases e; exact kit125 | 9, e => by cases e; exact kit126 | 10, e => by cases e; exact kit127 | 11, e => by cases e; exact kit128 | 12, e => by cases e; exact kit129 | _ + 13, e => by simp at e), kit178, kit191, E_NothingFits.isx, E_NothingFits.xf, fun f hf => by rw [List.mem_singleton.mp hf]; exact nf_NothingFits_day, XM 9 _ rfl⟩
    | 10, e => by cases e; exact ⟨(fun j D hj => match j, hj with | 0, e => by cases e; exact kit130 | 1, e => by cases e; exact kit131 | 2, e => by cases e; exact kit132 | 3, e => by cases e; exact kit133 | 4, e => by cases e; exact kit134 | 5, e => by cases e; exact kit135 | 6, e => by cases e; exact kit136 | 7, e => by cases e; exact kit137 | 8, e => by cases e; exact kit138 | 9, e => by cases e; exact kit139 | 10, e => by cases e; exact kit140 | 11, e => by cases e; exact kit141 | 12, e => by cases e; exact kit142 | _ + 13, e => by simp at e), kit179, kit192, E_BadText.isx, E_BadText.xf, fun f hf => by rw [List.mem_singleton.mp hf]; exact nf_BadText_line, XM 10 _ rfl⟩
    | 11, e => by cases e; exact ⟨(fun j D hj => match j, hj with | 0, e => by cases e; exact kit143 | 1, e => by cases e; exact kit144 | 2, e => by cases e; exact kit145 | 3, e => by cases e; exact kit146 | 4, e => by cases e; exact kit147 | 5, e => by cases e; exact kit148 | 6, e => by cases e; exact kit149 | 7, e => by cases e; exact kit150 | 8, e => by cases e; exact kit151 | 9, e => by cases e; exact kit152 | 10, e => by cases e; exact kit153 | 11, e => by cases e; exact kit154 | 12, e => by cases e; exact kit155 | _ + 13, e => by simp at e), kit180, kit193, ⟨ga_NothingToUndo, gg_NothingToUndo, ex_NothingToUndo, hd_NothingToUndo, ha_NothingToUndo, spc, tks, mo_NothingToUndo⟩, ⟨ga_NothingToUndo, gg_NothingToUndo, ex_NothingToUndo, hd_NothingToUndo⟩, fun f hf => by simp [fldsOf] at hf, XM 11 _ rfl⟩
    | 12, e => by cases e; exact ⟨(fun j D hj => match j, hj with | 0, e => by cases e; exact kit156 | 1, e => by cases e; exact kit157 | 2, e => by cases e; exact kit158 | 3, e => by cases e; exact kit159 | 4, e => by cases e; exact kit160 | 5, e => by cases e; exact kit161 | 6, e => by cases e; exact kit162 | 7, e => by cases e; exact kit163 | 8, e => by cases e; exact kit164 | 9, e => by cases e; exact kit165 | 10, e => by cases e; exact kit166 | 11, e => by cases e; exact kit167 | 12, e => by cases e; exact kit168 | _ + 13, e => by simp at e), kit181, kit194, E_BadDeed.isx, E_BadDeed.xf, fun f hf => by rw [List.mem_singleton.mp hf]; exact nf_BadDeed_place, XM 12 _ rfl⟩
    | _ + 13, e => by simp at e

  have C_law_kinds := Cal.mk (ok_law_kinds (P := l.prog) (w := w) (base := base) F5 T (PySem.W.mg_of X G g_BadName) (PySem.W.mg_of X G g_BadNumber) (PySem.W.mg_of X G g_BadTurn) (PySem.W.mg_of X G g_BadStanding) (PySem.W.mg_of X G g_TooMany) (PySem.W.mg_of X G g_DriedOut) (PySem.W.mg_of X G g_NotSafe) (PySem.W.mg_of X G g_BadPaper) (PySem.W.mg_of X G g_Unlike) (PySem.W.mg_of X G g_NothingFits) (PySem.W.mg_of X G g_BadText) (PySem.W.mg_of X G g_NothingToUndo) (PySem.W.mg_of X G g_BadDeed) (C_WaterError := C_WaterError)) (PySem.W.mg_of X G a5) k5 b5
  have G_law_throw := ok_law_throw (P := l.prog) (w := w) (base := base) F6 T ⟨xP_Unlike, PySem.W.mg_of X G g_Unlike, kp_Unlike, ex_Unlike, ty_Unlike⟩ ⟨xP_NothingToUndo, PySem.W.mg_of X G g_NothingToUndo, kp_NothingToUndo, ex_NothingToUndo, ty_NothingToUndo⟩ E_BadName G_BadName bI_BadName E_BadNumber G_BadNumber bI_BadNumber E_BadTurn G_BadTurn bI_BadTurn E_BadStanding G_BadStanding bI_BadStanding E_TooMany G_TooMany bI_TooMany E_DriedOut G_DriedOut bI_DriedOut E_NotSafe G_NotSafe bI_NotSafe E_BadPaper G_BadPaper bI_BadPaper E_NothingFits G_NothingFits bI_NothingFits E_BadText G_BadText bI_BadText E_BadDeed G_BadDeed bI_BadDeed
  have C_law_caught := Cal.mk (ok_law_caught (P := l.prog) (w := w) (base := base) F7 T (PySem.W.mg_of X G g_WaterError) XM ⟨_, _, G_law_throw, PySem.W.mg_of X G a6, k6, b6⟩) (PySem.W.mg_of X G a7) k7 b7
  have C_law_holds := Cal.mk (ok_law_holds (P := l.prog) (w := w) (base := base) F8 T (PySem.W.mg_of X G g_WaterError) D_Standing GStanding___eq__ b_Standing_eq C_law_kinds) (PySem.W.mg_of X G a8) k8 b8
  have C_law_values := Cal.mk (ok_law_values (P := l.prog) (w := w) (base := base) F9 T C_law_draw D_Standing GStanding___init__ b_Standing_init) (PySem.W.mg_of X G a9) k9 b9
  exact oklaw (P := l.prog) (w := w) (base := base) F10 T KD C_law_start C_law_values C_law_caught C_law_holds
theorem walk {l : PySem.W.OpenLaw} {q : Program} {loose : List Str} {XP : (Str → Option Value) → Heap → Prop} {YP : World → Heap → Prop} {d : DefRec} {K : Params → PySem.W.Frag} (hn : l.most = some 63) (hdf : d.params.defaults = [])
    (hY : ∀ (w : World) (h : Heap), YP w h → (K w.params).In h)
    (F : ∀ (w : World) (mg : Str → Option Value) (fa : Addr) (h : Heap), (K w.params).In h → h.Ns mainGlobals mg → mg d.name = some (.ref fa) →
      ∃ fd : FuncData, (∀ (s : Shared) (u : Value), BindsTo s fd ⟨[u], []⟩ [("script", u)]) ∧ ∀ base : Heap, (K w.params).In base → base.Ns mainGlobals mg → FnOk l.prog w (K w.params) mg base CX0 9 fa fd ["script"] (splaw (K w.params))) :
    PySem.W.WalkO q loose XP YP l.row.toRowW d [] (fun f vs => PySem.call f vs) :=
  L2.walk_of (n := 63) (k := 9) (x := "script") (CX := fun _ => CX0) (sp := fun w => splaw (K w.params)) hn (by decide) hdf ⟨rfl, by decide, by decide⟩ hY F (fun _ _ a ns hl _ hS => ⟨a, ns, rfl, hS, hl, fun _ => rfl⟩) fun _ _ _ _ _ z => z
end
end Wb
open PySem PySem.W PyProof.Rows in
set_option maxRecDepth 100000 in
set_option maxHeartbeats 0 in
theorem PySem.Challenge.cw_waterbyturns_k83_kinds_of_errors_holds : PySem.Challenge.rw_waterbyturns_k83_kinds_of_errors.Holds := by
  w_on; o_law; k_head; (case hw => w_witness2)
  k_fill
  refine Wb.walk (l := PySem.Challenge.rw_waterbyturns_k83_kinds_of_errors) rfl rfl (fun w h Y => PySem.W.kIn_of Y) ?F
  case F =>
    intro w mg fa h KX G hmg
    refine' Wb.all_mk KX G hmg ?a0 ?l0 ?c0 ?k0 ?a1 ?l1 ?c1 ?k1 ?a2 ?l2 ?c2 ?k2 ?a3 ?l3 ?c3 ?k3 ?a4 ?l4 ?c4 ?k4 ?a5 ?l5 ?c5 ?k5 ?a6 ?l6 ?c6 ?k6 ?a7 ?l7 ?c7 ?k7 ?a8 ?l8 ?c8 ?k8 ?a9 ?l9 ?c9 ?k9 ?a10 ?l10 ?c10 ?k10 ?z_len ?z_abs ?z_int ?z_bool ?z_str ?z_range ?z_all ?z_isinstance ?z_repr ?z_super ?z_tuple ?z_list ?z_zip ?z_enumerate ?z_max ?z_min ?z_ValueError ?g_MOST_PLOTS ?g_MOST_UNITS ?g_MOST_MOODS ?g_BadName ?x_BadName ?r_BadName ?sa_BadName ?ex_BadName ?ty_BadName ?kp_BadName ?i_BadName ?l_BadName ?cd_BadName ?cf_BadName ?v2_BadName ?fi_BadName ?cl_BadName ?mr_BadName ?sb_BadName ?su_BadName ?ti_BadName ?ga_BadName ?gg_BadName ?hd_BadName ?ha_BadName ?mo_BadName ?em_BadName ?nw_BadName ?nv_BadName ?nn_BadName ?nt_BadName ?g_BadNumber ?x_BadNumber ?r_BadNumber ?sa_BadNumber ?ex_BadNumber ?ty_BadNumber ?kp_BadNumber ?i_BadNumber ?l_BadNumber ?cd_BadNumber ?cf_BadNumber ?v2_BadNumber ?fi_BadNumber ?cl_BadNumber ?mr_BadNumber ?sb_BadNumber ?su_BadNumber ?ti_BadNumber ?ga_BadNumber ?gg_BadNumber ?hd_BadNumber ?ha_BadNumber ?mo_BadNumber ?em_BadNumber ?nw_BadNumber ?nv_BadNumber ?nn_BadNumber ?nt_BadNumber ?g_BadTurn ?x_BadTurn ?r_BadTurn ?sa_BadTurn ?ex_BadTurn ?ty_BadTurn ?kp_BadTurn ?i_BadTurn ?l_BadTurn ?cd_BadTurn ?cf_BadTurn ?v2_BadTurn ?fi_BadTurn ?cl_BadTurn ?mr_BadTurn ?sb_BadTurn ?su_BadTurn ?ti_BadTurn ?ga_BadTurn ?gg_BadTurn ?hd_BadTurn ?ha_BadTurn ?mo_BadTurn ?em_BadTurn ?nw_BadTurn ?nv_BadTurn ?nn_BadTurn ?nt_BadTurn ?g_BadStanding ?x_BadStanding ?r_BadStanding ?sa_BadStanding ?ex_BadStanding ?ty_BadStanding ?kp_BadStanding ?i_BadStanding ?l_BadStanding ?cd_BadStanding ?cf_BadStanding ?v2_BadStanding ?fi_BadStanding ?cl_BadStanding ?mr_BadStanding ?sb_BadStanding ?su_BadStanding ?ti_BadStanding ?ga_BadStanding ?gg_BadStanding ?hd_BadStanding ?ha_BadStanding ?mo_BadStanding ?em_BadStanding ?nw_BadStanding ?nv_BadStanding ?nn_BadStanding ?nt_BadStanding ?g_TooMany ?x_TooMany ?r_TooMany ?sa_TooMany ?ex_TooMany ?ty_TooMany ?kp_TooMany ?i_TooMany ?l_TooMany ?cd_TooMany ?cf_TooMany ?v2_TooMany ?fi_TooMany ?cl_TooMany ?mr_TooMany ?sb_TooMany ?su_TooMany ?ti_TooMany ?ga_TooMany ?gg_TooMany ?hd_TooMany ?ha_TooMany ?mo_TooMany ?em_TooMany ?nw_TooMany ?nv_TooMany ?nn_TooMany ?nt_TooMany ?g_DriedOut ?x_DriedOut ?r_DriedOut ?sa_DriedOut ?ex_DriedOut ?ty_DriedOut ?kp_DriedOut ?i_DriedOut ?l_DriedOut ?cd_DriedOut ?cf_DriedOut ?v2_DriedOut ?fi_DriedOut ?cl_DriedOut ?mr_DriedOut ?sb_DriedOut ?su_DriedOut ?ti_DriedOut ?ga_DriedOut ?gg_DriedOut ?hd_DriedOut ?ha_DriedOut ?mo_DriedOut ?em_DriedOut ?nw_DriedOut ?nv_DriedOut ?nn_DriedOut ?nt_DriedOut ?g_NotSafe ?x_NotSafe ?r_NotSafe ?sa_NotSafe ?ex_NotSafe ?ty_NotSafe ?kp_NotSafe ?i_NotSafe ?l_NotSafe ?cd_NotSafe ?cf_NotSafe ?v2_NotSafe ?fi_NotSafe ?cl_NotSafe ?mr_NotSafe ?sb_NotSafe ?su_NotSafe ?ti_NotSafe ?ga_NotSafe ?gg_NotSafe ?hd_NotSafe ?ha_NotSafe ?mo_NotSafe ?em_NotSafe ?nw_NotSafe ?nv_NotSafe ?nn_NotSafe ?nt_NotSafe ?g_BadPaper ?x_BadPaper ?r_BadPaper ?sa_BadPaper ?ex_BadPaper ?ty_BadPaper ?kp_BadPaper ?i_BadPaper ?l_BadPaper ?cd_BadPaper ?cf_BadPaper ?v2_BadPaper ?fi_BadPaper ?cl_BadPaper ?mr_BadPaper ?sb_BadPaper ?su_BadPaper ?ti_BadPaper ?ga_BadPaper ?gg_BadPaper ?hd_BadPaper ?ha_BadPaper ?mo_BadPaper ?em_BadPaper ?nw_BadPaper ?nv_BadPaper ?nn_BadPaper ?nt_BadPaper ?g_NothingFits ?x_NothingFits ?r_NothingFits ?sa_NothingFits ?ex_NothingFits ?ty_NothingFits ?kp_NothingFits ?i_NothingFits ?l_NothingFits ?cd_NothingFits ?cf_NothingFits ?v2_NothingFits ?fi_NothingFits ?cl_NothingFits ?mr_NothingFits ?sb_NothingFits ?su_NothingFits ?ti_NothingFits ?ga_NothingFits ?gg_NothingFits ?hd_NothingFits ?ha_NothingFits ?mo_NothingFits ?em_NothingFits ?nw_NothingFits ?nv_NothingFits ?nn_NothingFits ?nt_NothingFits ?g_BadText ?x_BadText ?r_BadText ?sa_BadText ?ex_BadText ?ty_BadText ?kp_BadText ?i_BadText ?l_BadText ?cd_BadText ?cf_BadText ?v2_BadText ?fi_BadText ?cl_BadText ?mr_BadText ?sb_BadText ?su_BadText ?ti_BadText ?ga_BadText ?gg_BadText ?hd_BadText ?ha_BadText ?mo_BadText ?em_BadText ?nw_BadText ?nv_BadText ?nn_BadText ?nt_BadText ?g_BadDeed ?x_BadDeed ?r_BadDeed ?sa_BadDeed ?ex_BadDeed ?ty_BadDeed ?kp_BadDeed ?i_BadDeed ?l_BadDeed ?cd_BadDeed ?cf_BadDeed ?v2_BadDeed ?fi_BadDeed ?cl_BadDeed ?mr_BadDeed ?sb_BadDeed ?su_BadDeed ?ti_BadDeed ?ga_BadDeed ?gg_BadDeed ?hd_BadDeed ?ha_BadDeed ?mo_BadDeed ?em_BadDeed ?nw_BadDeed ?nv_BadDeed ?nn_BadDeed ?nt_BadDeed ?g_WaterError ?g_Unlike ?g_NothingToUndo ?opq ?htop ?spc ?tks ?g_Standing ?mk_Standing ?kp_Standing ?pg_Standing ?hd_Standing ?po_Standing ?sa_Standing ?ne_Standing ?ob_Standing ?ha_Standing ?hm_Standing ?kk_Standing ?no_Standing_levels ?no_Standing_tank ?no_Standing_mood ?i_Standing_init ?fn_Standing_init ?l_Standing_init ?c_Standing_init ?k_Standing_init ?i_Standing_eq ?fn_Standing_eq ?l_Standing_eq ?c_Standing_eq ?k_Standing_eq ?nf_TooMany_limit ?nf_NothingFits_day ?nf_BadText_line ?nf_BadDeed_place ?nf_DriedOut_plot ?nf_DriedOut_day ?nf_BadPaper_row ?nf_BadPaper_reason ?nf_BadStanding_standing ?nf_NotSafe_standing ?xP_Unlike ?kp_Unlike ?ex_Unlike ?ty_Unlike ?ga_Unlike ?gg_Unlike ?hd_Unlike ?ha_Unlike ?mo_Unlike ?xP_NothingToUndo ?kp_NothingToUndo ?ex_NothingToUndo ?ty_NothingToUndo ?ga_NothingToUndo ?gg_NothingToUndo ?hd_NothingToUndo ?ha_NothingToUndo ?mo_NothingToUndo ?ex_WaterError ?hd_WaterError ?ty_WaterError ?sw_BadName ?sw_BadNumber ?sw_BadTurn ?sw_BadStanding ?sw_TooMany ?sw_DriedOut ?sw_NotSafe ?sw_BadPaper ?sw_Unlike ?sw_NothingFits ?sw_BadText ?sw_NothingToUndo ?sw_BadDeed ?kit0 ?kit1 ?kit2 ?kit3 ?kit4 ?kit5 ?kit6 ?kit7 ?kit8 ?kit9 ?kit10 ?kit11 ?kit12 ?kit13 ?kit14 ?kit15 ?kit16 ?kit17 ?kit18 ?kit19 ?kit20 ?kit21 ?kit22 ?kit23 ?kit24 ?kit25 ?kit26 ?kit27 ?kit28 ?kit29 ?kit30 ?kit31 ?kit32 ?kit33 ?kit34 ?kit35 ?kit36 ?kit37 ?kit38 ?kit39 ?kit40 ?kit41 ?kit42 ?kit43 ?kit44 ?kit45 ?kit46 ?kit47 ?kit48 ?kit49 ?kit50 ?kit51 ?kit52 ?kit53 ?kit54 ?kit55 ?kit56 ?kit57 ?kit58 ?kit59 ?kit60 ?kit61 ?kit62 ?kit63 ?kit64 ?kit65 ?kit66 ?kit67 ?kit68 ?kit69 ?kit70 ?kit71 ?kit72 ?kit73 ?kit74 ?kit75 ?kit76 ?kit77 ?kit78 ?kit79 ?kit80 ?kit81 ?kit82 ?kit83 ?kit84 ?kit85 ?kit86 ?kit87 ?kit88 ?kit89 ?kit90 ?kit91 ?kit92 ?kit93 ?kit94 ?kit95 ?kit96 ?kit97 ?kit98 ?kit99 ?kit100 ?kit101 ?kit102 ?kit103 ?kit104 ?kit105 ?kit106 ?kit107 ?kit108 ?kit109 ?kit110 ?kit111 ?kit112 ?kit113 ?kit114 ?kit115 ?kit116 ?kit117 ?kit118 ?kit119 ?kit120 ?kit121 ?kit122 ?kit123 ?kit124 ?kit125 ?kit126 ?kit127 ?kit128 ?kit129 ?kit130 ?kit131 ?kit132 ?kit133 ?kit134 ?kit135 ?kit136 ?kit137 ?kit138 ?kit139 ?kit140 ?kit141 ?kit142 ?kit143 ?kit144 ?kit145 ?kit146 ?kit147 ?kit148 ?kit149 ?kit150 ?kit151 ?kit152 ?kit153 ?kit154 ?kit155 ?kit156 ?kit157 ?kit158 ?kit159 ?kit160 ?kit161 ?kit162 ?kit163 ?kit164 ?kit165 ?kit166 ?kit167 ?kit168 ?kit169 ?kit170 ?kit171 ?kit172 ?kit173 ?kit174 ?kit175 ?kit176 ?kit177 ?kit178 ?kit179 ?kit180 ?kit181 ?kit182 ?kit183 ?kit184 ?kit185 ?kit186 ?kit187 ?kit188 ?kit189 ?kit190 ?kit191 ?kit192 ?kit193 ?kit194
    (case a0 => k_is)
    (case l0 => k_is)
    (case c0 => k_is)
    (case k0 => k_is)
    (case a1 => k_is)
    (case l1 => k_is)
    (case c1 => k_is)
    (case k1 => k_is)
    (case a2 => k_is)
    (case l2 => k_is)
    (case c2 => k_is)
    (case k2 => k_is)
    (case a3 => k_is)
    (case l3 => k_is)
    (case c3 => k_is)
    (case k3 => k_is)
    (case a4 => k_is)
    (case l4 => k_is)
    (case c4 => k_is)
    (case k4 => k_is)
    (case a5 => k_is)
    (case l5 => k_is)
    (case c5 => k_is)
    (case k5 => k_is)
    (case a6 => k_is)
    (case l6 => k_is)
    (case c6 => k_is)
    (case k6 => k_is)
    (case a7 => k_is)
    (case l7 => k_is)
    (case c7 => k_is)
    (case k7 => k_is)
    (case a8 => k_is)
    (case l8 => k_is)
    (case c8 => k_is)
    (case k8 => k_is)
    (case a9 => k_is)
    (case l9 => k_is)
    (case c9 => k_is)
    (case k9 => k_is)
    (case a10 => k_is)
    (case l10 => k_is)
    (case c10 => k_is)
    (case k10 => k_is)
    (case z_len => k_is)
    (case z_abs => k_is)
    (case z_int => k_is)
    (case z_bool => k_is)
    (case z_str => k_is)
    (case z_range => k_is)
    (case z_all => k_is)
    (case z_isinstance => k_is)
    (case z_repr => k_is)
    (case z_super => k_is)
    (case z_tuple => k_is)
    (case z_list => k_is)
    (case z_zip => k_is)
    (case z_enumerate => k_is)
    (case z_max => k_is)
    (case z_min => k_is)
    (case z_ValueError => k_is)
    (case g_MOST_PLOTS => k_is)
    (case g_MOST_UNITS => k_is)
    (case g_MOST_MOODS => k_is)
    (case g_BadName => k_is)
    (case x_BadName => k_is)
    (case r_BadName => first | rfl | decide +kernel)
    (case sa_BadName => k_is)
    (case ex_BadName => k_is)
    (case ty_BadName => k_is)
    (case kp_BadName => k_is)
    (case i_BadName => k_is)
    (case l_BadName => k_is)
    (case cd_BadName => k_is)
    (case cf_BadName => k_is)
    (case v2_BadName => first | rfl | decide +kernel)
    (case fi_BadName => first | rfl | decide +kernel)
    (case cl_BadName => k_is)
    (case mr_BadName => k_is)
    (case sb_BadName => k_is)
    (case su_BadName => ks_is)
    (case ti_BadName => k_is)
    (case ga_BadName => k_is)
    (case gg_BadName => k_is)
    (case hd_BadName => k_is)
    (case ha_BadName => k_is)
    (case mo_BadName => k_is)
    (case em_BadName => k_is)
    (case nw_BadName => k_is)
    (case nv_BadName => k_is)
    (case nn_BadName => k_is)
    (case nt_BadName => k_is)
    (case g_BadNumber => k_is)
    (case x_BadNumber => k_is)
    (case r_BadNumber => first | rfl | decide +kernel)
    (case sa_BadNumber => k_is)
    (case ex_BadNumber => k_is)
    (case ty_BadNumber => k_is)
    (case kp_BadNumber => k_is)
    (case i_BadNumber => k_is)
    (case l_BadNumber => k_is)
    (case cd_BadNumber => k_is)
    (case cf_BadNumber => k_is)
    (case v2_BadNumber => first | rfl | decide +kernel)
    (case fi_BadNumber => first | rfl | decide +kernel)
    (case cl_BadNumber => k_is)
    (case mr_BadNumber => k_is)
    (case sb_BadNumber => k_is)
    (case su_BadNumber => ks_is)
    (case ti_BadNumber => k_is)
    (case ga_BadNumber => k_is)
    (case gg_BadNumber => k_is)
    (case hd_BadNumber => k_is)
    (case ha_BadNumber => k_is)
    (case mo_BadNumber => k_is)
    (case em_BadNumber => k_is)
    (case nw_BadNumber => k_is)
    (case nv_BadNumber => k_is)
    (case nn_BadNumber => k_is)
    (case nt_BadNumber => k_is)
    (case g_BadTurn => k_is)
    (case x_BadTurn => k_is)
    (case r_BadTurn => first | rfl | decide +kernel)
    (case sa_BadTurn => k_is)
    (case ex_BadTurn => k_is)
    (case ty_BadTurn => k_is)
    (case kp_BadTurn => k_is)
    (case i_BadTurn => k_is)
    (case l_BadTurn => k_is)
    (case cd_BadTurn => k_is)
    (case cf_BadTurn => k_is)
    (case v2_BadTurn => first | rfl | decide +kernel)
    (case fi_BadTurn => first | rfl | decide +kernel)
    (case cl_BadTurn => k_is)
    (case mr_BadTurn => k_is)
    (case sb_BadTurn => k_is)
    (case su_BadTurn => ks_is)
    (case ti_BadTurn => k_is)
    (case ga_BadTurn => k_is)
    (case gg_BadTurn => k_is)
    (case hd_BadTurn => k_is)
    (case ha_BadTurn => k_is)
    (case mo_BadTurn => k_is)
    (case em_BadTurn => k_is)
    (case nw_BadTurn => k_is)
    (case nv_BadTurn => k_is)
    (case nn_BadTurn => k_is)
    (case nt_BadTurn => k_is)
    (case g_BadStanding => k_is)
    (case x_BadStanding => k_is)
    (case r_BadStanding => first | rfl | decide +kernel)
    (case sa_BadStanding => k_is)
    (case ex_BadStanding => k_is)
    (case ty_BadStanding => k_is)
    (case kp_BadStanding => k_is)
    (case i_BadStanding => k_is)
    (case l_BadStanding => k_is)
    (case cd_BadStanding => k_is)
    (case cf_BadStanding => k_is)
    (case v2_BadStanding => first | rfl | decide +kernel)
    (case fi_BadStanding => first | rfl | decide +kernel)
    (case cl_BadStanding => k_is)
    (case mr_BadStanding => k_is)
    (case sb_BadStanding => k_is)
    (case su_BadStanding => ks_is)
    (case ti_BadStanding => k_is)
    (case ga_BadStanding => k_is)
    (case gg_BadStanding => k_is)
    (case hd_BadStanding => k_is)
    (case ha_BadStanding => k_is)
    (case mo_BadStanding => k_is)
    (case em_BadStanding => k_is)
    (case nw_BadStanding => k_is)
    (case nv_BadStanding => k_is)
    (case nn_BadStanding => k_is)
    (case nt_BadStanding => k_is)
    (case g_TooMany => k_is)
    (case x_TooMany => k_is)
    (case r_TooMany => first | rfl | decide +kernel)
    (case sa_TooMany => k_is)
    (case ex_TooMany => k_is)
    (case ty_TooMany => k_is)
    (case kp_TooMany => k_is)
    (case i_TooMany => k_is)
    (case l_TooMany => k_is)
    (case cd_TooMany => k_is)
    (case cf_TooMany => k_is)
    (case v2_TooMany => first | rfl | decide +kernel)
    (case fi_TooMany => first | rfl | decide +kernel)
    (case cl_TooMany => k_is)
    (case mr_TooMany => k_is)
    (case sb_TooMany => k_is)
    (case su_TooMany => ks_is)
    (case ti_TooMany => k_is)
    (case ga_TooMany => k_is)
    (case gg_TooMany => k_is)
    (case hd_TooMany => k_is)
    (case ha_TooMany => k_is)
    (case mo_TooMany => k_is)
    (case em_TooMany => k_is)
    (case nw_TooMany => k_is)
    (case nv_TooMany => k_is)
    (case nn_TooMany => k_is)
    (case nt_TooMany => k_is)
    (case g_DriedOut => k_is)
    (case x_DriedOut => k_is)
    (case r_DriedOut => first | rfl | decide +kernel)
    (case sa_DriedOut => k_is)
    (case ex_DriedOut => k_is)
    (case ty_DriedOut => k_is)
    (case kp_DriedOut => k_is)
    (case i_DriedOut => k_is)
    (case l_DriedOut => k_is)
    (case cd_DriedOut => k_is)
    (case cf_DriedOut => k_is)
    (case v2_DriedOut => first | rfl | decide +kernel)
    (case fi_DriedOut => first | rfl | decide +kernel)
    (case cl_DriedOut => k_is)
    (case mr_DriedOut => k_is)
    (case sb_DriedOut => k_is)
    (case su_DriedOut => ks_is)
    (case ti_DriedOut => k_is)
    (case ga_DriedOut => k_is)
    (case gg_DriedOut => k_is)
    (case hd_DriedOut => k_is)
    (case ha_DriedOut => k_is)
    (case mo_DriedOut => k_is)
    (case em_DriedOut => k_is)
    (case nw_DriedOut => k_is)
    (case nv_DriedOut => k_is)
    (case nn_DriedOut => k_is)
    (case nt_DriedOut => k_is)
    (case g_NotSafe => k_is)
    (case x_NotSafe => k_is)
    (case r_NotSafe => first | rfl | decide +kernel)
    (case sa_NotSafe => k_is)
    (case ex_NotSafe => k_is)
    (case ty_NotSafe => k_is)
    (case kp_NotSafe => k_is)
    (case i_NotSafe => k_is)
    (case l_NotSafe => k_is)
    (case cd_NotSafe => k_is)
    (case cf_NotSafe => k_is)
    (case v2_NotSafe => first | rfl | decide +kernel)
    (case fi_NotSafe => first | rfl | decide +kernel)
    (case cl_NotSafe => k_is)
    (case mr_NotSafe => k_is)
    (case sb_NotSafe => k_is)
    (case su_NotSafe => ks_is)
    (case ti_NotSafe => k_is)
    (case ga_NotSafe => k_is)
    (case gg_NotSafe => k_is)
    (case hd_NotSafe => k_is)
    (case ha_NotSafe => k_is)
    (case mo_NotSafe => k_is)
    (case em_NotSafe => k_is)
    (case nw_NotSafe => k_is)
    (case nv_NotSafe => k_is)
    (case nn_NotSafe => k_is)
    (case nt_NotSafe => k_is)
    (case g_BadPaper => k_is)
    (case x_BadPaper => k_is)
    (case r_BadPaper => first | rfl | decide +kernel)
    (case sa_BadPaper => k_is)
    (case ex_BadPaper => k_is)
    (case ty_BadPaper => k_is)
    (case kp_BadPaper => k_is)
    (case i_BadPaper => k_is)
    (case l_BadPaper => k_is)
    (case cd_BadPaper => k_is)
    (case cf_BadPaper => k_is)
    (case v2_BadPaper => first | rfl | decide +kernel)
    (case fi_BadPaper => first | rfl | decide +kernel)
    (case cl_BadPaper => k_is)
    (case mr_BadPaper => k_is)
    (case sb_BadPaper => k_is)
    (case su_BadPaper => ks_is)
    (case ti_BadPaper => k_is)
    (case ga_BadPaper => k_is)
    (case gg_BadPaper => k_is)
    (case hd_BadPaper => k_is)
    (case ha_BadPaper => k_is)
    (case mo_BadPaper => k_is)
    (case em_BadPaper => k_is)
    (case nw_BadPaper => k_is)
    (case nv_BadPaper => k_is)
    (case nn_BadPaper => k_is)
    (case nt_BadPaper => k_is)
    (case g_NothingFits => k_is)
    (case x_NothingFits => k_is)
    (case r_NothingFits => first | rfl | decide +kernel)
    (case sa_NothingFits => k_is)
    (case ex_NothingFits => k_is)
    (case ty_NothingFits => k_is)
    (case kp_NothingFits => k_is)
    (case i_NothingFits => k_is)
    (case l_NothingFits => k_is)
    (case cd_NothingFits => k_is)
    (case cf_NothingFits => k_is)
    (case v2_NothingFits => first | rfl | decide +kernel)
    (case fi_NothingFits => first | rfl | decide +kernel)
    (case cl_NothingFits => k_is)
    (case mr_NothingFits => k_is)
    (case sb_NothingFits => k_is)
    (case su_NothingFits => ks_is)
    (case ti_NothingFits => k_is)
    (case ga_NothingFits => k_is)
    (case gg_NothingFits => k_is)
    (case hd_NothingFits => k_is)
    (case ha_NothingFits => k_is)
    (case mo_NothingFits => k_is)
    (case em_NothingFits => k_is)
    (case nw_NothingFits => k_is)
    (case nv_NothingFits => k_is)
    (case nn_NothingFits => k_is)
    (case nt_NothingFits => k_is)
    (case g_BadText => k_is)
    (case x_BadText => k_is)
    (case r_BadText => first | rfl | decide +kernel)
    (case sa_BadText => k_is)
    (case ex_BadText => k_is)
    (case ty_BadText => k_is)
    (case kp_BadText => k_is)
    (case i_BadText => k_is)
    (case l_BadText => k_is)
    (case cd_BadText => k_is)
    (case cf_BadText => k_is)
    (case v2_BadText => first | rfl | decide +kernel)
    (case fi_BadText => first | rfl | decide +kernel)
    (case cl_BadText => k_is)
    (case mr_BadText => k_is)
    (case sb_BadText => k_is)
    (case su_BadText => ks_is)
    (case ti_BadText => k_is)
    (case ga_BadText => k_is)
    (case gg_BadText => k_is)
    (case hd_BadText => k_is)
    (case ha_BadText => k_is)
    (case mo_BadText => k_is)
    (case em_BadText => k_is)
    (case nw_BadText => k_is)
    (case nv_BadText => k_is)
    (case nn_BadText => k_is)
    (case nt_BadText => k_is)
    (case g_BadDeed => k_is)
    (case x_BadDeed => k_is)
    (case r_BadDeed => first | rfl | decide +kernel)
    (case sa_BadDeed => k_is)
    (case ex_BadDeed => k_is)
    (case ty_BadDeed => k_is)
    (case kp_BadDeed => k_is)
    (case i_BadDeed => k_is)
    (case l_BadDeed => k_is)
    (case cd_BadDeed => k_is)
    (case cf_BadDeed => k_is)
    (case v2_BadDeed => first | rfl | decide +kernel)
    (case fi_BadDeed => first | rfl | decide +kernel)
    (case cl_BadDeed => k_is)
    (case mr_BadDeed => k_is)
    (case sb_BadDeed => k_is)
    (case su_BadDeed => ks_is)
    (case ti_BadDeed => k_is)
    (case ga_BadDeed => k_is)
    (case gg_BadDeed => k_is)
    (case hd_BadDeed => k_is)
    (case ha_BadDeed => k_is)
    (case mo_BadDeed => k_is)
    (case em_BadDeed => k_is)
    (case nw_BadDeed => k_is)
    (case nv_BadDeed => k_is)
    (case nn_BadDeed => k_is)
    (case nt_BadDeed => k_is)
    (case g_WaterError => k_is)
    (case g_Unlike => k_is)
    (case g_NothingToUndo => k_is)
    (case opq => k_is)
    (case htop => first | rfl | decide +kernel)
    (case spc => k_is)
    (case tks => k_is)
    (case g_Standing => k_is)
    (case mk_Standing => k_is)
    (case kp_Standing => k_is)
    (case pg_Standing => k_is)
    (case hd_Standing => k_is)
    (case po_Standing => k_is)
    (case sa_Standing => k_is)
    (case ne_Standing => k_is)
    (case ob_Standing => k_is)
    (case ha_Standing => k_is)
    (case hm_Standing => k_is)
    (case kk_Standing => first | k_is | kit_is)
    (case no_Standing_levels => k_is)
    (case no_Standing_tank => k_is)
    (case no_Standing_mood => k_is)
    (case i_Standing_init => k_is)
    (case fn_Standing_init => k_is)
    (case l_Standing_init => k_is)
    (case c_Standing_init => k_is)
    (case k_Standing_init => k_is)
    (case i_Standing_eq => k_is)
    (case fn_Standing_eq => k_is)
    (case l_Standing_eq => k_is)
    (case c_Standing_eq => k_is)
    (case k_Standing_eq => k_is)
    (case nf_TooMany_limit => k_is)
    (case nf_NothingFits_day => k_is)
    (case nf_BadText_line => k_is)
    (case nf_BadDeed_place => k_is)
    (case nf_DriedOut_plot => k_is)
    (case nf_DriedOut_day => k_is)
    (case nf_BadPaper_row => k_is)
    (case nf_BadPaper_reason => k_is)
    (case nf_BadStanding_standing => k_is)
    (case nf_NotSafe_standing => k_is)
    (case xP_Unlike => k_exc)
    (case kp_Unlike => k_is)
    (case ex_Unlike => k_is)
    (case ty_Unlike => k_is)
    (case ga_Unlike => k_is)
    (case gg_Unlike => k_is)
    (case hd_Unlike => k_is)
    (case ha_Unlike => k_is)
    (case mo_Unlike => k_is)
    (case xP_NothingToUndo => k_exc)
    (case kp_NothingToUndo => k_is)
    (case ex_NothingToUndo => k_is)
    (case ty_NothingToUndo => k_is)
    (case ga_NothingToUndo => k_is)
    (case gg_NothingToUndo => k_is)
    (case hd_NothingToUndo => k_is)
    (case ha_NothingToUndo => k_is)
    (case mo_NothingToUndo => k_is)
    (case ex_WaterError => k_is)
    (case hd_WaterError => k_is)
    (case ty_WaterError => k_is)
    (case sw_BadName => k_is)
    (case sw_BadNumber => k_is)
    (case sw_BadTurn => k_is)
    (case sw_BadStanding => k_is)
    (case sw_TooMany => k_is)
    (case sw_DriedOut => k_is)
    (case sw_NotSafe => k_is)
    (case sw_BadPaper => k_is)
    (case sw_Unlike => k_is)
    (case sw_NothingFits => k_is)
    (case sw_BadText => k_is)
    (case sw_NothingToUndo => k_is)
    (case sw_BadDeed => k_is)
    (case kit0 => first | k_is | kit_is)
    (case kit1 => first | k_is | kit_is)
    (case kit2 => first | k_is | kit_is)
    (case kit3 => first | k_is | kit_is)
    (case kit4 => first | k_is | kit_is)
    (case kit5 => first | k_is | kit_is)
    (case kit6 => first | k_is | kit_is)
    (case kit7 => first | k_is | kit_is)
    (case kit8 => first | k_is | kit_is)
    (case kit9 => first | k_is | kit_is)
    (case kit10 => first | k_is | kit_is)
    (case kit11 => first | k_is | kit_is)
    (case kit12 => first | k_is | kit_is)
    (case kit13 => first | k_is | kit_is)
    (case kit14 => first | k_is | kit_is)
    (case kit15 => first | k_is | kit_is)
    (case kit16 => first | k_is | kit_is)
    (case kit17 => first | k_is | kit_is)
    (case kit18 => first | k_is | kit_is)
    (case kit19 => first | k_is | kit_is)
    (case kit20 => first | k_is | kit_is)
    (case kit21 => first | k_is | kit_is)
    (case kit22 => first | k_is | kit_is)
    (case kit23 => first | k_is | kit_is)
    (case kit24 => first | k_is | kit_is)
    (case kit25 => first | k_is | kit_is)
    (case kit26 => first | k_is | kit_is)
    (case kit27 => first | k_is | kit_is)
    (case kit28 => first | k_is | kit_is)
    (case kit29 => first | k_is | kit_is)
    (case kit30 => first | k_is | kit_is)
    (case kit31 => first | k_is | kit_is)
    (case kit32 => first | k_is | kit_is)
    (case kit33 => first | k_is | kit_is)
    (case kit34 => first | k_is | kit_is)
    (case kit35 => first | k_is | kit_is)
    (case kit36 => first | k_is | kit_is)
    (case kit37 => first | k_is | kit_is)
    (case kit38 => first | k_is | kit_is)
    (case kit39 => first | k_is | kit_is)
    (case kit40 => first | k_is | kit_is)
    (case kit41 => first | k_is | kit_is)
    (case kit42 => first | k_is | kit_is)
    (case kit43 => first | k_is | kit_is)
    (case kit44 => first | k_is | kit_is)
    (case kit45 => first | k_is | kit_is)
    (case kit46 => first | k_is | kit_is)
    (case kit47 => first | k_is | kit_is)
    (case kit48 => first | k_is | kit_is)
    (case kit49 => first | k_is | kit_is)
    (case kit50 => first | k_is | kit_is)
    (case kit51 => first | k_is | kit_is)
    (case kit52 => first | k_is | kit_is)
    (case kit53 => first | k_is | kit_is)
    (case kit54 => first | k_is | kit_is)
    (case kit55 => first | k_is | kit_is)
    (case kit56 => first | k_is | kit_is)
    (case kit57 => first | k_is | kit_is)
    (case kit58 => first | k_is | kit_is)
    (case kit59 => first | k_is | kit_is)
    (case kit60 => first | k_is | kit_is)
    (case kit61 => first | k_is | kit_is)
    (case kit62 => first | k_is | kit_is)
    (case kit63 => first | k_is | kit_is)
    (case kit64 => first | k_is | kit_is)
    (case kit65 => first | k_is | kit_is)
    (case kit66 => first | k_is | kit_is)
    (case kit67 => first | k_is | kit_is)
    (case kit68 => first | k_is | kit_is)
    (case kit69 => first | k_is | kit_is)
    (case kit70 => first | k_is | kit_is)
    (case kit71 => first | k_is | kit_is)
    (case kit72 => first | k_is | kit_is)
    (case kit73 => first | k_is | kit_is)
    (case kit74 => first | k_is | kit_is)
    (case kit75 => first | k_is | kit_is)
    (case kit76 => first | k_is | kit_is)
    (case kit77 => first | k_is | kit_is)
    (case kit78 => first | k_is | kit_is)
    (case kit79 => first | k_is | kit_is)
    (case kit80 => first | k_is | kit_is)
    (case kit81 => first | k_is | kit_is)
    (case kit82 => first | k_is | kit_is)
    (case kit83 => first | k_is | kit_is)
    (case kit84 => first | k_is | kit_is)
    (case kit85 => first | k_is | kit_is)
    (case kit86 => first | k_is | kit_is)
    (case kit87 => first | k_is | kit_is)
    (case kit88 => first | k_is | kit_is)
    (case kit89 => first | k_is | kit_is)
    (case kit90 => first | k_is | kit_is)
    (case kit91 => first | k_is | kit_is)
    (case kit92 => first | k_is | kit_is)
    (case kit93 => first | k_is | kit_is)
    (case kit94 => first | k_is | kit_is)
    (case kit95 => first | k_is | kit_is)
    (case kit96 => first | k_is | kit_is)
    (case kit97 => first | k_is | kit_is)
    (case kit98 => first | k_is | kit_is)
    (case kit99 => first | k_is | kit_is)
    (case kit100 => first | k_is | kit_is)
    (case kit101 => first | k_is | kit_is)
    (case kit102 => first | k_is | kit_is)
    (case kit103 => first | k_is | kit_is)
    (case kit104 => first | k_is | kit_is)
    (case kit105 => first | k_is | kit_is)
    (case kit106 => first | k_is | kit_is)
    (case kit107 => first | k_is | kit_is)
    (case kit108 => first | k_is | kit_is)
    (case kit109 => first | k_is | kit_is)
    (case kit110 => first | k_is | kit_is)
    (case kit111 => first | k_is | kit_is)
    (case kit112 => first | k_is | kit_is)
    (case kit113 => first | k_is | kit_is)
    (case kit114 => first | k_is | kit_is)
    (case kit115 => first | k_is | kit_is)
    (case kit116 => first | k_is | kit_is)
    (case kit117 => first | k_is | kit_is)
    (case kit118 => first | k_is | kit_is)
    (case kit119 => first | k_is | kit_is)
    (case kit120 => first | k_is | kit_is)
    (case kit121 => first | k_is | kit_is)
    (case kit122 => first | k_is | kit_is)
    (case kit123 => first | k_is | kit_is)
    (case kit124 => first | k_is | kit_is)
    (case kit125 => first | k_is | kit_is)
    (case kit126 => first | k_is | kit_is)
    (case kit127 => first | k_is | kit_is)
    (case kit128 => first | k_is | kit_is)
    (case kit129 => first | k_is | kit_is)
    (case kit130 => first | k_is | kit_is)
    (case kit131 => first | k_is | kit_is)
    (case kit132 => first | k_is | kit_is)
    (case kit133 => first | k_is | kit_is)
    (case kit134 => first | k_is | kit_is)
    (case kit135 => first | k_is | kit_is)
    (case kit136 => first | k_is | kit_is)
    (case kit137 => first | k_is | kit_is)
    (case kit138 => first | k_is | kit_is)
    (case kit139 => first | k_is | kit_is)
    (case kit140 => first | k_is | kit_is)
    (case kit141 => first | k_is | kit_is)
    (case kit142 => first | k_is | kit_is)
    (case kit143 => first | k_is | kit_is)
    (case kit144 => first | k_is | kit_is)
    (case kit145 => first | k_is | kit_is)
    (case kit146 => first | k_is | kit_is)
    (case kit147 => first | k_is | kit_is)
    (case kit148 => first | k_is | kit_is)
    (case kit149 => first | k_is | kit_is)
    (case kit150 => first | k_is | kit_is)
    (case kit151 => first | k_is | kit_is)
    (case kit152 => first | k_is | kit_is)
    (case kit153 => first | k_is | kit_is)
    (case kit154 => first | k_is | kit_is)
    (case kit155 => first | k_is | kit_is)
    (case kit156 => first | k_is | kit_is)
    (case kit157 => first | k_is | kit_is)
    (case kit158 => first | k_is | kit_is)
    (case kit159 => first | k_is | kit_is)
    (case kit160 => first | k_is | kit_is)
    (case kit161 => first | k_is | kit_is)
    (case kit162 => first | k_is | kit_is)
    (case kit163 => first | k_is | kit_is)
    (case kit164 => first | k_is | kit_is)
    (case kit165 => first | k_is | kit_is)
    (case kit166 => first | k_is | kit_is)
    (case kit167 => first | k_is | kit_is)
    (case kit168 => first | k_is | kit_is)
    (case kit169 => first | k_is | kit_is)
    (case kit170 => first | k_is | kit_is)
    (case kit171 => first | k_is | kit_is)
    (case kit172 => first | k_is | kit_is)
    (case kit173 => first | k_is | kit_is)
    (case kit174 => first | k_is | kit_is)
    (case kit175 => first | k_is | kit_is)
    (case kit176 => first | k_is | kit_is)
    (case kit177 => first | k_is | kit_is)
    (case kit178 => first | k_is | kit_is)
    (case kit179 => first | k_is | kit_is)
    (case kit180 => first | k_is | kit_is)
    (case kit181 => first | k_is | kit_is)
    (case kit182 => first | k_is | kit_is)
    (case kit183 => first | k_is | kit_is)
    (case kit184 => first | k_is | kit_is)
    (case kit185 => first | k_is | kit_is)
    (case kit186 => first | k_is | kit_is)
    (case kit187 => first | k_is | kit_is)
    (case kit188 => first | k_is | kit_is)
    (case kit189 => first | k_is | kit_is)
    (case kit190 => first | k_is | kit_is)
    (case kit191 => first | k_is | kit_is)
    (case kit192 => first | k_is | kit_is)
    (case kit193 => first | k_is | kit_is)
    (case kit194 => first | k_is | kit_is)

