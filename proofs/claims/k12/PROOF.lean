import PyProof.Rows.All
import Wide.All
import OpenK.AllK
import Wide.FinOn
import HandS.ForMost
import HandS.Exc
import HandS.ExcInit
import HandS.Nested
import HandS.WordsExc
import KE.KExcSuper
import HandS.ExcIs
import HandS.ExcField
import HandS.IsInst
import HandS.FStr
import HandS.RaiseMore
import KE.KExcIs
import PyProof.NeKinds
import PyProof.CallStr
import HandS.Text
import PyProof.InstNe
import HandS.SlotsOwn
import HandS.OwnEq
import KE.KCallOwn
import HandS.Zip
import HandS.Walk
import HandS.Star
import PyProof.Rows.FinIter
import KE.KOpsOwn
import OpenK.KMeth
import OpenK.KOps
import PyProof.TwoTypes
import PyProof.FactsAll.int_1
import KE.GoesMore
import PyProof.Draws
import PyProof.EnumMake
import HandS.Iter
import HandS.ClsMeth
import KE.IntTextLaws
import HandS.Codes
import PySem.Challenge.RW_waterbyturns_k12_seasons_and_steady_weat
set_option Elab.async false
set_option linter.all false
set_option maxRecDepth 100000
set_option maxHeartbeats 4000000
namespace Wx
open PySem PySem.Spec PyProof.Rows L2 NdefX
/-! super().__init__(..) in the __init__ of an own exception class whose line goes over own classes to ValueError -/
section
variable {prog : Program} {w : World} {A : Around} {E : Value → Shared → Prop} {hp : Heap} {g : Array GenState} {d : Drawn} {t : Nat} {os : OsState}
theorem mw_called {u x t0 : Addr} {us : List Value} {Q : Value → Shared → Prop} {C N : Addr} {nm q : Str} {bs bm : List Value} {hdct : Bool} {sn : List Str} {sub : List Value} {ab : Bool} {col : Option Bool} {dd : Option Addr} {k0 k1 k2 k3 k5 : Option Value}
    (cC : hp.get? C = some (excClassObj nm q C N bs bm hdct sn sub ab col dd k0 k1 k2 k3 k5 "ValueError.__new__")) (cx : hp.get? x = some (PySem.HandSPX.excO C t0)) (cu : hp.get? u = some (PySem.W.kxs_mw "ValueError.__init__" x)) (hl : us.length ≤ sizeLine)
    (fin : ∀ h' t1, (∀ b o, b ≠ x → hp.get? b = some o → h'.get? b = some o) → h'.get? x = some (PySem.HandSPX.excO C t1) → Q .none ⟨h', g, d, t, os⟩) : wpAny (model prog w) A (call (.ref u) us) Q E ⟨hp, g, d, t, os⟩ := by
  refine wpAny_call (codeAny_of_tree ?_)
  show wpAny _ A.in1 (callAny (Value.ref u) (Args.mk us [])) _ _ _
  unfold callAny
  dsimp only
  refine wpAny_bind (wpAny_load cu ?_)
  have mt : (Value.type "method-wrapper" == Value.type "method" || Value.type "method-wrapper" == Value.type "builtin_function_or_method" || Value.type "method-wrapper" == Value.type "method-wrapper") = true := by decide
  simp only [PySem.W.kxs_mw, mt, if_true]
  refine PySem.W.KFB.if_so (by decide) (wpAny_bind (PySem.W.check_bound_init F.excBase_ValueError.toExcCallFacts cC cx rfl (wpAny_bind (wpAny_pure (wpAny_pure ?_)))))
  refine And.intro (plainId_quiet F.excBase_ValueError.init.plain _) (codeAny_builtin F.excBase_ValueError.initEntry ?_)
  exact PySem.W.exc_init_tree (cls := Value.ref C) (t0 := t0) (dv := Option.none) (c2 := Value.none) (c3 := Value.none) (b4 := Value.bool false) cx hl fun h' k e _ => fin h' _ k e
end
/-- the first statement: super().__init__(e, ..) -/
abbrev stSuper (p0 p1 p2 p3 p4 : Pos) (e : Expr) (es : List Expr) : Stmt := .Expr (.Call (.Attribute (.Call (.Name "super" p0) [] [] p1) "__init__" p2) (e :: es) [] p3) p4
abbrev nfS (name qual : Str) (params : Arguments) (body : List Stmt) (scope : Scope) (cc cda : Addr) : NF := ⟨name, qual, params, body, scope, [("__class__", cc)], cda⟩
/-- what the written part says -/
structure SupTxt (P : Program) (K : PySem.W.Frag) (mg : Str → Option Value) (C cda cc : Addr) (qual : Str) : Prop where
  oex : OexC K C
  code : PySem.W.codeIn K (.ref cda) qual = true
  file : ∃ (ccl : Value) (cdd : Option Addr) (vs : Array Value) (ccs : Array (Option Value)) (fl : Str) (tf : Tok), K.lookup cda = some ⟨ccl, cdd, .fields vs, ccs⟩ ∧ vs[2]? = some (.str fl tf) ∧ ((P.main.file : Str) == fl) = true
  cell : ∃ (cl : Value) (cld : Option Addr) (csl : Array (Option Value)), K.lookup cc = some ⟨cl, cld, .cell (some (.ref C)), csl⟩
  sup : mg "super" = none
  top : (P.main.scope.names.lookup ("super" : Str)).isSome = false
  mro : PySem.W.mroIn K C (.ref C) = some true
  subB : PySem.W.subIn K (.ref C) (.type "ValueError") = some true
  ini : PySem.W.ks_superIn K C C "__init__" = some (some (.builtin "ValueError.__init__"))
  opq : PySem.W.nsIn K cStatics "thirdparty.any" = some none
theorem exo_upd {H : Hp} {a C : Addr} {d : Option Addr} (e : H a = some (exo a C d)) : upd H a (exo a C d) = H := by
  funext b
  by_cases hb : b = a
  · rw [hb, upd_same, e]
  · rw [upd_ne hb]
section
variable {CX : CXT} {P : Program} {w : World} {K : PySem.W.Frag} {mg : Str → Option Value} {base : Heap} {name qual : Str} {params : Arguments} {scope : Scope} {dV kV doc pm ct oc : Value} {an od : Option Addr} {osl : Array (Option Value)} {f cda cc C : Addr}
  {N ps : List Str} {k : Nat} {sp : Sp} {e : Expr} {es : List Expr} {rest : List Stmt} {p0 p1 p2 p3 p4 : Pos} {ar : Arg}
theorem fn_super (lk : K.lookup f = some ⟨oc, od, .func (PySem.W.fnX name qual params (stSuper p0 p1 p2 p3 p4 e es :: rest) scope [("__class__", cc)] dV kV doc pm an (.ref cda) ct), osl⟩)
    (T : SupTxt P K mg C cda cc qual) (S : NScope N ps ["__class__"] scope) (hp : (params.posonlyargs ++ params.args).head? = some ar) (har : N[0]? = some ar.arg) (hal : scope.names.lookup ar.arg = some .local) (hks : scope.names.lookup ("super" : Str) = some .globalImplicit)
    (len : ∀ vs H Q E, sp vs H Q E → vs.length = ps.length)
    (hbody : ∀ (A : Around) (outer : List Env) (s : Shared) (H : Hp) (vs : List V) (Q : VK) (E : XK), Room k (A.deeper (envF (nfS name qual params (stSuper p0 p1 p2 p3 p4 e es :: rest) scope cc cda) f s.heap.objs.size)) → sp vs H Q E →
      ∃ ta tr, PA (ncx CX P w K mg base N (nfS name qual params (stSuper p0 p1 p2 p3 p4 e es :: rest) scope cc cda) f A outer s H E) (e :: es) ta ∧ PSs (ncx CX P w K mg base N (nfS name qual params (stSuper p0 p1 p2 p3 p4 e es :: rest) scope cc cda) f A outer s H E) rest tr ∧ ∃ (a : Addr) (vr : List V), vs = .ref a :: vr ∧ H a = some (exo a C none) ∧
        ta (startF N vs [some (.ref C)]) H fun ws H1 => ws.length ≤ 1000 ∧ H1 a = some (exo a C none) ∧ tr { nx := fun _ H' => Q .non H', rt := Q } (startF N vs [some (.ref C)]) H1)
    (hi : ∀ L : Addr, interactive (envF (nfS name qual params (stSuper p0 p1 p2 p3 p4 e es :: rest) scope cc cda) f L) = false := by intros; rfl)
    (hs : ∀ L : Addr, swapsWith (.Call (.Attribute (.Call (.Name "super" p0) [] [] p1) "__init__" p2) (e :: es) [] p3) none p4.line (envF (nfS name qual params (stSuper p0 p1 p2 p3 p4 e es :: rest) scope cc cda) f L) = pure false := by intros; rfl)
    (he : ∀ L : Addr, starEach (e :: es) (envF (nfS name qual params (stSuper p0 p1 p2 p3 p4 e es :: rest) scope cc cda) f L) = (false, eval e (envF (nfS name qual params (stSuper p0 p1 p2 p3 p4 e es :: rest) scope cc cda) f L)) :: starEach es (envF (nfS name qual params (stSuper p0 p1 p2 p3 p4 e es :: rest) scope cc cda) f L) := by intros; rfl)
    (hpl : ∀ L : Addr, (backTo p3 (starEach es (envF (nfS name qual params (stSuper p0 p1 p2 p3 p4 e es :: rest) scope cc cda) f L))).any (·.1) = false := by intros; rfl)
    (hev : ∀ L : Addr, ∃ pl, eval (.Call (.Attribute (.Call (.Name "super" p0) [] [] p1) "__init__" p2) (e :: es) [] p3) (envF (nfS name qual params (stSuper p0 p1 p2 p3 p4 e es :: rest) scope cc cda) f L) = (do
      let ov ← attributeBase (.Call (.Name "super" p0) [] [] p1) "__init__" (envF (nfS name qual params (stSuper p0 p1 p2 p3 p4 e es :: rest) scope cc cda) f L) (eval (.Call (.Name "super" p0) [] [] p1) (envF (nfS name qual params (stSuper p0 p1 p2 p3 p4 e es :: rest) scope cc cda) f L))
      standAt p2.atName
      let r ← holding [ov] (getMethod ov "__init__" pl)
      callWith p3 r.1 r.2 (backTo p3 (starEach (e :: es) (envF (nfS name qual params (stSuper p0 p1 p2 p3 p4 e es :: rest) scope cc cda) f L))) []) := by intros; exact ⟨_, rfl⟩) :
    FnOk P w K mg base CX (k + 1) f (PySem.W.fnX name qual params (stSuper p0 p1 p2 p3 p4 e es :: rest) scope [("__class__", cc)] dV kV doc pm an (.ref cda) ct) ps sp := by
  obtain ⟨clv, cld, csl, hcell⟩ := T.cell
  obtain ⟨ccl, cdd, vsC, ccs, flC, tfC, hcode, hvsC, hfile⟩ := T.file
  refine ⟨len, fun A outer s H args us vs Q E hr e0 hbind r hsp => ?_⟩
  have hl := len _ _ _ _ hsp
  have KX : K.In s.heap := e0.mod.kin.keeps fun b o z => (e0.bs b o z).1
  have lim : s.heap.NoLimit := e0.mod.nolimit.keeps fun b o z => (e0.bs b o z).1
  let F : NF := (nfS name qual params (stSuper p0 p1 p2 p3 p4 e es :: rest) scope cc cda)
  have Hc : H cc = none := (e0.bs cc _ (e0.mod.kin _ _ hcell)).2
  have CA : CellsAt F.cl ["__class__"] [some (V.ref C)] s.heap H := by
    have key : ∀ y c, F.cl.lookup y = some c → y = "__class__" ∧ c = cc := fun y c z => by
      by_cases q : y = "__class__"
      · subst q
        have z : some cc = some c := by simpa [F, List.lookup] using z
        exact ⟨rfl, (Option.some.inj z).symm⟩
      · have : (y == ("__class__" : Str)) = false := by simpa using q
        simp [F, List.lookup, this] at z
    refine ⟨rfl, fun y c z => ?_, fun x y c z z' => ?_, fun i y z => ?_⟩
    · obtain ⟨_, rfl⟩ := key y c z
      exact ⟨Hc, _, _, KX _ _ hcell, rfl⟩
    · rw [(key x c z).1, (key y c z').1]
    · have hi : i = 0 ∧ y = "__class__" := by
        cases i with
        | zero => exact ⟨rfl, (Option.some.inj z).symm⟩
        | succ i => simp at z
      obtain ⟨rfl, rfl⟩ := hi
      refine ⟨cc, by simp [F, List.lookup], fun v hv => ?_⟩
      have hv : V.ref C = v := Option.some.inj (Option.some.inj hv)
      subst hv
      exact ⟨.ref C, rfl, _, KX _ _ hcell, rfl⟩
  refine PySem.ks_codeAny_call_defAt (fd := PySem.W.fnX name qual params (stSuper p0 p1 p2 p3 p4 e es :: rest) scope [("__class__", cc)] dV kV doc pm an (.ref cda) ct) (body := stSuper p0 p1 p2 p3 p4 e es :: rest) (binds := ps.zip us) hr.depth (KX _ _ lk) rfl lim
    (PySem.W.codeRec_of KX T.code) rfl hbind S.nocell (fun y hy => S.par y.1 (List.of_mem_zip hy).1) (fun h₁ hns kp => ?_) S.co S.gen S.kind
  show PySem.wpAt (model P w) (A.deeper (envF F f s.heap.objs.size)) (.func (stSuper p0 p1 p2 p3 p4 e es :: rest) (envF F f s.heap.objs.size)) (execs (stSuper p0 p1 p2 p3 p4 e es :: rest) (envF F f s.heap.objs.size)) _ _ _
  have I : Inv (ncx CX P w K mg base N F f A outer s H E) [] (startF N vs [some (.ref C)]) H { s with heap := h₁, toks := s.toks + (ps.zip us).length } := inv_startN (F := F) S hr.hd e0 hl r CA hns kp
  obtain ⟨ta, tr, hA, hR, a, vr, rfl, ea, hq⟩ := hbody A outer s H vs Q E (hr.deeper _) hsp
  obtain ⟨nm, qn, Nn, bs, bm, sn, sub, ab, col, dd, k0, k1, k2, k3, k5, hC, hbm⟩ := T.oex.cls
  have hcl : PySem.W.clsIn K C = some { name := nm, bases := bs, mro := .ref C :: bm, ns := Nn, qualname := qn, hasDict := true, slotNames := sn, subclasses := sub, abstract := ab, collection := col, hasDel := false } := by unfold PySem.W.clsIn; rw [hC] <;> rfl
  -- the local that holds the object
  have self : ∀ {s1 : Shared} {H1 : Hp} {pins : List (Addr × Obj)}, Inv (ncx CX P w K mg base N F f A outer s H E) pins (startF N (.ref a :: vr) [some (.ref C)]) H1 s1 → ∃ m, s1.heap.Ns (envF F f s.heap.objs.size).locals m ∧ m ar.arg = some (.ref a) := fun J => by
    obtain ⟨m, hm, hl⟩ := J.loc
    obtain ⟨u, ru, hk⟩ := hl 0 ar.arg (.ref a) har rfl (.inl hal)
    refine ⟨m, hm, ?_⟩
    rcases hk with ⟨_, hk⟩ | ⟨hk, _⟩
    · rw [hk]
      exact congrArg some ru
    · exfalso
      have hk : scope.names.lookup ar.arg = some .cell ∨ scope.names.lookup ar.arg = some .free := hk
      rw [hal] at hk
      rcases hk with z | z <;> cases z
  have fin : ∀ {fl : Flow} {s' : Shared}, SP (ncx CX P w K mg base N F f A outer s H E) [] { nx := fun _ H' => Q .non H', rt := Q } fl s' → CR CX outer P w H s Q E (.ok (.ret (match fl with | .ret v => v | _ => .none))) s' := fun {fl s'} hs' => by
    have out : ∀ {σ' : L2.St} {H' : Hp} {v : V} {u : Value}, Inv (ncx CX P w K mg base N F f A outer s H E) [] σ' H' s' → L2.RelV v u → Q v H' → CE outer P w H s Q u s' := fun {σ' H' v u} J rv q => ⟨v, H', J.os, J.bare, J.base, J.hok, rv, q⟩
    cases fl with
    | ret u =>
      obtain ⟨v, σ', H', J, rv, q⟩ := hs'
      exact out J rv q
    | next =>
      obtain ⟨σ', H', J, q⟩ := hs'
      exact out (v := V.non) (u := Value.none) J rfl q
    | brk =>
      obtain ⟨_, _, _, q⟩ := hs'
      exact q.elim
    | cont =>
      obtain ⟨_, _, _, q⟩ := hs'
      exact q.elim
  obtain ⟨pl, hev⟩ := hev s.heap.objs.size
  refine PySem.ks_wpAt_execs_cons (PySem.ks_wpAt_Expr_any (PySem.ks_wpAt_MethodCall (pl := pl) ?_ hev) (hi _) (hs _))
  · obtain ⟨m, hm, hma⟩ := self I
    obtain ⟨oD, hD1, hD2⟩ : ∃ oD, h₁.get? C = some oD ∧ oD.data = .cls { name := nm, bases := bs, mro := .ref C :: bm, ns := Nn, qualname := qn, hasDict := true, slotNames := sn, subclasses := sub, abstract := ab, collection := col, hasDel := false } := ⟨_, I.kIn _ _ hC, rfl⟩
    refine PySem.ks_wpAt_super_base (env := envF F f s.heap.objs.size) hks (S.frk _ (by simp)) rfl rfl (I.kIn _ _ lk) rfl hp rfl (I.kIn _ _ hcode) rfl hvsC hfile T.top ?_
    obtain ⟨mb, hb1, hb2⟩ := I.mod.blt
    refine PySem.W.ks_loadName_global S.kind hks (Calls.loadGlobal_builtin (I.mod.glob.keeps I.bk) T.sup (hb1.keeps I.bk) ((hb2 "super" (by decide)).trans (by decide +kernel : bootBuiltins "super" = some (.type "super"))) ⟨rfl, ?_⟩)
    refine wpAny_loadName_free S.kind (S.frk _ (by simp)) rfl ⟨_, I.kIn _ _ hcell, rfl⟩ ?_
    refine wpAny_loadName_local S.kind hal hm hma ?_
    refine PySem.ks_wpAny_isType_cls hD1 hD2 ⟨rfl, ?_⟩
    obtain ⟨t1, ho⟩ := exo_at I.hok ea
    have IA : PySem.W.InstAt h₁ a { cls := .ref C, dict := none, data := .fields #[.ref t1, .none, .none, .none, .bool false, .none] } C none := ⟨ho, rfl, rfl, trivial⟩
    refine PySem.ks_wpAny_call_super hD1 hD2 ho rfl (fun c z => by cases z) (PySem.W.looks_mroIn I.kIn T.mro) (fun h2 e2 k2 => ?_)
    have J2 : Inv (ncx CX P w K mg base N F f A outer s H E) [] (startF N (.ref a :: vr) [some (.ref C)]) H { s with heap := h2, toks := s.toks + (ps.zip us).length } := I.kept k2
    have ni : PySem.W.alongIn K "__init__" (((Value.ref C :: bm).dropWhile (· != .ref C)).drop 1) = some (some (.builtin "ValueError.__init__")) := by
      have z := T.ini
      unfold PySem.W.ks_superIn at z
      rw [hcl] at z
      exact z
    have ho2 := k2 _ _ ho
    have hI : PySem.W.Looks (model P w) h2 (isInstance (.ref a) (.type "ValueError")) true := (show PySem.W.InstAt h2 a _ C none from ⟨ho2, rfl, rfl, trivial⟩).type.andThen (PySem.W.looks_subIn J2.kIn T.subB)
    refine PySem.W.kxs_getMethod PySem.W.kxs_ValueError e2 (PySem.W.looks_opaque J2.kIn T.opq) ((PySem.W.looks_clsIn J2.kIn hcl).andThen .now) rfl J2.kIn ni hI (PySem.W.ks_ne I.kIn IA hcl) (by decide) ?_
    have J3 : Inv (ncx CX P w K mg base N F f A outer s H E) [] (startF N (.ref a :: vr) [some (.ref C)]) H { s with heap := h2.push (PySem.W.kxs_mw "ValueError.__init__" a), toks := s.toks + (ps.zip us).length + 1 } := J2.kept fun b o z => Heap.get?_push_of_some _ z
    have hmw : (h2.push (PySem.W.kxs_mw "ValueError.__init__" a)).get? h2.objs.size = some (PySem.W.kxs_mw "ValueError.__init__" a) := Heap.get?_push_at rfl rfl
    have J4 : Inv (ncx CX P w K mg base N F f A outer s H E) [(h2.objs.size, PySem.W.kxs_mw "ValueError.__init__" a)] (startF N (.ref a :: vr) [some (.ref C)]) H { s with heap := h2.push (PySem.W.kxs_mw "ValueError.__init__" a), toks := s.toks + (ps.zip us).length + 1 } := by
      refine ⟨J3.ok, J3.os, J3.bare, J3.base, J3.loc, J3.cell, J3.free, J3.freeC, fun p hp => ?_, J3.hok, J3.len⟩
      have hp : p = (h2.objs.size, PySem.W.kxs_mw "ValueError.__init__" a) := by
        have z : p ∈ ([] : List (Addr × Obj)) ++ [(h2.objs.size, PySem.W.kxs_mw "ValueError.__init__" a)] := hp
        simpa using z
      subst hp
      refine ⟨hmw, J2.hok.fresh (Nat.le_refl _), fun z => absurd J2.lt ?_, fun z => ?_, fun v z => by cases z⟩
      · rw [← z]
        exact Nat.lt_irrefl _
      · obtain ⟨_, o1, ho1, _⟩ := J2.ok.funs.mem z
        obtain ⟨o2, ho2'⟩ := J2.base.there _ _ ho1 (fun y => absurd (show _ ∈ ([] : List Addr) from y) (by simp))
        exact absurd (Heap.lt_size ho2') (Nat.lt_irrefl _)
    rw [he s.heap.objs.size]
    refine PySem.W.kxs_callWith (i := "ValueError.__init__") (x := a) (by show (false || (backTo p3 (starEach es (envF F f s.heap.objs.size))).any fun y => y.1) = false; rw [hpl s.heap.objs.size]; rfl) ?_
    refine Calls.evalArgs_plain ?_
    have run := hA.run p3 _ _ _ _ _ J4 hq
    rw [show starEach (e :: es) (ncx CX P w K mg base N F f A outer s H E).env = _ from he s.heap.objs.size] at run
    refine thn run fun us4 s4 hap => ?_
    obtain ⟨ws, H4, I4, r4, hw, ea4, tr4⟩ := hap
    obtain ⟨cu4, _⟩ := I4.pin _ (List.mem_append_right _ List.mem_cons_self)
    refine ⟨cu4, ?_⟩
    obtain ⟨t4, ho4⟩ := exo_at I4.hok ea4
    have hlen4 : us4.length ≤ sizeLine := by
      rw [← Paired.length r4]
      exact Nat.le_of_lt (small1000 hw)
    obtain ⟨h4, g4, d4, tk4, os4⟩ := s4
    refine mw_called (I4.kIn _ _ hC) ho4 cu4 hlen4 fun h5 t5 k5 e5 => ?_
    have I5 := I4.write (t' := tk4) (x := a) (e := a) (o := exo a C none) (by rw [ea4]; exact True.intro) (.inl rfl) k5 ⟨_, e5⟩ (exo_ok e5)
    rw [exo_upd ea4] at I5
    have I6 : Inv (ncx CX P w K mg base N F f A outer s H E) [] (startF N (.ref a :: vr) [some (.ref C)]) H4 ⟨h5, g4, d4, tk4, os4⟩ := ⟨I5.ok, I5.os, I5.bare, I5.base, I5.loc, I5.cell, I5.free, I5.freeC, fun p hp => absurd (show p ∈ ([] : List (Addr × Obj)) ++ [] from hp) (by simp), I5.hok, I5.len⟩
    exact wpAt_of_wpAny (wpAny_mono (hR.run [] _ _ _ _ I6 tr4) (fun fl s' z => fin z) fun _ _ z => z)
end
end Wx

namespace Wx
open PySem PySem.Spec PyProof.Rows L2
/-! a caught exception that is kept behind its except suite -/
/-- at a: an exception of the class cls, its dict d -/
def exv (cls : Value) (d : Option Addr) (a : Addr) : HO := .ext fun h => ∃ (oe : Obj) (vs : Array Value), h.get? a = some oe ∧ Zc cls d oe ∧ oe.data = .fields vs
theorem exv_ok {P : Program} {w : World} {H : Hp} {h : Heap} {a : Addr} {cls : Value} {d : Option Addr} {oe : Obj} {vs : Array Value} (e : h.get? a = some oe) (z : Zc cls d oe) (q : oe.data = .fields vs) : ObjOk P w H h a (exv cls d a) :=
  ⟨⟨oe, vs, e, z, q⟩, ⟨oe, e⟩, fun _ _ ⟨o, v, x, y⟩ k => ⟨o, v, k o x, y⟩⟩
theorem exv_at {P : Program} {w : World} {H : Hp} {h : Heap} {a : Addr} {cls : Value} {d : Option Addr} (x : HOk P w H h) (e : H a = some (exv cls d a)) : ∃ (oe : Obj) (vs : Array Value), h.get? a = some oe ∧ Zc cls d oe ∧ oe.data = .fields vs := by
  have y : ObjOk P w H h a (.ext fun h => ∃ (oe : Obj) (vs : Array Value), h.get? a = some oe ∧ Zc cls d oe ∧ oe.data = .fields vs) := x a _ e
  exact y.1
section
variable {X : Cx} {pins : List (Addr × Obj)} {σ : L2.St} {H : Hp} {s : Shared}
theorem tracked {a : Addr} {oe : Obj} {vs : Array Value} {cls : Value} {d : Option Addr} (J : Inv X ((a, oe) :: pins) σ H s) (n0 : X.s_0.heap.get? a = none) (np : ∀ p, p ∈ X.pn ++ pins → p.1 ≠ a) (hz : Zc cls d oe) (hd : oe.data = .fields vs) :
    Inv X pins σ (upd H a (exv cls d a)) s := by
  obtain ⟨ga, na, nL, nF, nc⟩ := J.pin (a, oe) (List.mem_append_right _ List.mem_cons_self)
  have ga : s.heap.get? a = some oe := ga
  have na : H a = none := na
  have neS : ∀ {b : Addr} {o : HO}, H b = some o → b ≠ a := fun e => ne_of_none e na
  have ne0 : ∀ {b : Addr} {o : Obj}, X.s_0.heap.get? b = some o → b ≠ a := fun {b o} e z => by
    rw [z, n0] at e
    cases e
  refine ⟨J.ok, J.os, J.bare, ⟨J.base.keep, J.base.slot, fun b o e n x => ?_, J.base.there, fun b xs e => ?_, fun b o u e => ?_, fun b ps e => ?_⟩, J.loc, J.cell, ?_, fun y c e => ?_, fun p hp => ?_, fun b u e => ?_, J.len⟩
  · rw [upd_ne (ne0 e)]
    exact J.base.free b o e n x
  · have q := J.base.tups b xs e
    rw [upd_ne (neS q)]
    exact q
  · have q := J.base.frzs b o u e
    rw [upd_ne (neS q)]
    exact q
  · obtain ⟨ms, q⟩ := J.base.tbls b ps e
    exact ⟨ms, by rw [upd_ne (neS q)]; exact q⟩
  · rw [upd_ne (fun z => nL z.symm)]
    exact J.free
  · have nca : c ≠ a := fun z => by
      obtain ⟨v, o, q1, q2⟩ := J.cell y c e
      rw [z, ga] at q1
      cases q1
      exact nc _ q2
    rw [upd_ne nca]
    exact J.freeC y c e
  · have hm : p ∈ X.pn ++ (a, oe) :: pins := by
      rcases List.mem_append.mp hp with z | z
      · exact List.mem_append_left _ z
      · exact List.mem_append_right _ (List.mem_cons_of_mem _ z)
    obtain ⟨q1, q2, q3, q4, q5⟩ := J.pin p hm
    exact ⟨q1, by rw [upd_ne (np p hp)]; exact q2, q3, q4, q5⟩
  · by_cases hb : b = a
    · subst hb
      rw [upd_same] at e
      cases e
      exact exv_ok ga hz hd
    · rw [upd_ne hb] at e
      exact (J.hok b u e).stay (fun _ _ _ q => q) (fun c q => by rw [upd_ne (neS q)]; exact q) fun c xs q => by rw [upd_ne (neS q)]; exact q
end
/-- what 'except x as n: ..' wishes, the exception kept: slot i is n's -/
def wKeep (K : PySem.W.Frag) (c : Value) (i : Nat) (ts : Addr → Value → Option Addr → TS) (Wout : WX) (D : Ends) : WX := fun cls d σ H =>
  ∃ b, PySem.W.exmOne K cls c = some b ∧ (b = true → ∀ a, H a = none → ts a cls d { nx := fun σ1 H1 => D.nx (σ1.set i none) (upd H1 a (exv cls d a)), rt := fun v H1 => D.rt v (upd H1 a (exv cls d a)), bk := fun σ1 H1 => D.bk (σ1.set i none) (upd H1 a (exv cls d a)), ct := fun σ1 H1 => D.ct (σ1.set i none) (upd H1 a (exv cls d a)) } (σ.set i (some (.ref a))) H) ∧
    (b = false → Wout cls d σ H)
section
variable {X : Cx} {x n : Str} {c : Value} {i : Nat} {body suite : List Stmt} {b₀ : Stmt} {np pos pos' : Pos} {tb : WX → TS} {ts : Addr → Value → Option Addr → TS} {Wout : WX}
theorem ps_try_keep (hex : X.ex = []) (stk : X.stack = X.env :: X.outer) (frm : X.env.frame = some X.env.locals) (nd : X.N.Nodup) (atI : X.N[i]? = some n) (lcl : X.env.kindOf n = some .local) (nms : Names X x c) (tko : Takes X Wout)
    (hbody : ∀ (W : WX) (pn : List (Addr × Obj)) (xe : Value → Shared → Prop), Takes (X.tr pn xe) W → PassesOwn (model X.prog X.w) X.A X.env xe → PSs (X.tr pn xe) body (tb W))
    (hsuite : ∀ (a : Addr) (oe : Obj) (cls : Value) (d : Option Addr) (pn : List (Addr × Obj)), Zc cls d oe → (∃ vs, oe.data = .fields vs) → PSs (X.suite a ((a, oe) :: pn)) (b₀ :: suite) (ts a cls d)) :
    PS X (.Try body [.ExceptHandler (some (.Name x np)) (some n) (b₀ :: suite) pos'] [] [] pos) (fun D σ H => tb (wKeep X.K c i ts Wout D) D σ H) := by
  refine ⟨fun pins s σ H D I0 rd => ?_⟩
  have okX := I0.ok
  have frA : X.A.frames = some (X.env :: X.outer) := okX.frames.trans (congrArg some stk)
  have locN : Loc X.env.scope n := Or.inl lcl
  refine wpAny_Try_except (wpAny_mono ((hbody (wKeep X.K c i ts Wout D) (X.pn ++ pins) (fun e s₁ => wpAny (model X.prog X.w) X.A (noteFrame e X.env) (fun _ s₂ => wpAny (model X.prog X.w) X.A (setFlight e none) (fun _ s₃ =>
      wpAny (model X.prog X.w) X.A (handleBy e X.env [.ExceptHandler (some (.Name x np)) (some n) (b₀ :: suite) pos']) (SP X pins D) X.xe s₃) X.xe s₂) X.xe s₁) (fun u s' caught => ?_) PassesOwn.looking).run [] s σ H D (I0.toTry _) rd) (fun fl s1 done => ?_) (fun _ _ z => z))
  · obtain ⟨a, B, sI, pinsT, σT, HT, cls, d, rfl, JT, nb, upT, skyT, naT, osT, agT, b, hcl, hyes, hno⟩ := caught
    have JX : Inv X pins σT HT sI := Inv.ofTry JT okX
    have skyX : Sky B (X.env :: X.outer) a (Zc cls d) X.env.locals s'.heap := stk ▸ skyT
    show wpAny _ X.A (noteFrame (Value.ref a) X.env) _ _ _
    refine Sky.land Zc.steady frA frm skyX (fun hq flq upq => ?_)
    have Jq : Inv X pins σT HT { s' with heap := hq } := JX.landed nb flq.1 (upT.trans upq) osT agT
    obtain ⟨oeq, vsq, heq, hzq, hdq⟩ := flq.there
    have nfr : a ∉ frs (X.env :: X.outer) := fun hm => by
      obtain ⟨_, o', e', nf'⟩ := flq.2.2.1.mem hm
      have z := heq.symm.trans e'
      cases z
      exact nf' _ hdq
    have nLoc : a ≠ X.env.locals := fun z => nfr (List.mem_filterMap.mpr ⟨X.env, List.mem_cons_self, frm.trans (congrArg some z.symm)⟩)
    have nOut : a ∉ X.fs := fun hm => by
      obtain ⟨ev, hev, qv⟩ := List.mem_filterMap.mp hm
      exact nfr (List.mem_filterMap.mpr ⟨ev, List.mem_cons_of_mem _ hev, qv⟩)
    -- the exception is younger than the frame
    have sInone : sI.heap.get? a = none := by
      cases z : sI.heap.get? a with
      | none => rfl
      | some o =>
        have Bn : B.get? a = none := by
          rcases skyX with ⟨_, q, _⟩ | q | q
          · exact q
          · exact q.2.1
          · exact q.2.1
        have y := nb a o z (fun hm => nfr (by rw [← stk]; exact hm))
        rw [Bn] at y
        cases y
    have s0none : X.s_0.heap.get? a = none := by
      cases z : X.s_0.heap.get? a with
      | none => rfl
      | some o =>
        obtain ⟨o2, y⟩ := JX.base.there a o z (by rw [hex]; simp)
        rw [sInone] at y
        cases y
    have pinNe : ∀ p, p ∈ X.pn ++ pins → p.1 ≠ a := fun p hp z => by
      have y := (JX.pin p hp).1
      rw [z, sInone] at y
      cases y
    have Sq := Jq.suite heq hdq naT nLoc nOut
    refine wpAny_handleBy_cons (codeAny_handlers_test ?_) (by rintro ⟨⟩)
    have LTy : PySem.W.Looks (model X.prog X.w) hq (typeOf (.ref a)) cls := fun A Q E s k q => wpAny_typeOf_ref (k _ _ heq) (hzq.1 ▸ q)
    have LEx := PySem.W.exm_one (M := model X.prog X.w) Jq.kIn LTy hcl
    have tst : ∀ {Q : Value → Shared → Prop} {E : Value → Shared → Prop}, Q c { s' with heap := hq } → wpAny (model X.prog X.w) (X.A.mark (some (.ref a))) (eval (.Name x np) X.env) Q E { s' with heap := hq } := fun {Q E} q => by
      obtain ⟨g1, g2, g3 | ⟨g3, g4, g5⟩⟩ := nms
      · exact ld_glob (X := X.suite a ((a, oeq) :: (X.pn ++ pins))) Sq g1 g3 q g2
      · exact ld_blt (X := X.suite a ((a, oeq) :: (X.pn ++ pins))) Sq g1 g3 g4 q g5 g2
    refine tst (LEx.here ?_)
    cases b with
    | true =>
      refine codeAny_handlers_suite_as (HandSPX.lands_againZ flq fun hr flr upr => ?_)
      have Jr : Inv X pins σT HT { s' with heap := hr } := JX.landed nb flr.1 ((upT.trans upq).trans upr) osT agT
      obtain ⟨oer, vsr, her, hzr, hdr⟩ := flr.there
      have Sr := Jr.suite her hdr naT nLoc nOut
      refine store_ok (X := X.suite a ((a, oer) :: (X.pn ++ pins))) (v := V.ref a) Sr nd atI locN rfl (fun s5 S5 => ?_) (Or.inr lcl)
      refine wpAny_mono ((hsuite a oer cls d (X.pn ++ pins) hzr ⟨_, hdr⟩).run [] s5 _ HT _ S5 (hyes rfl a naT)) (fun fl s6 out => ?_) (fun _ _ z => z.elim)
      have leave : ∀ {σ6 : L2.St} {H6 : Hp} {Q : Shared → Prop}, Inv (X.suite a ((a, oer) :: (X.pn ++ pins))) [] σ6 H6 s6 → (∀ s7, Inv X pins (σ6.set i none) (upd H6 a (exv cls d a)) s7 → Q s7) →
          wpAny (model X.prog X.w) X.A (do bindName X.env n .none; unbindBehindTheSuite X.env n pos') (fun _ s7 => Q s7) X.xe s6 := fun {σ6 H6 Q} S6 hQ => by
        have S7 : Inv X ((a, oer) :: pins) σ6 H6 s6 := ⟨okX, S6.os, S6.bare, S6.base, S6.loc, S6.cell, S6.free, S6.freeC, fun p hp => S6.pin p (by
          rw [List.append_nil]
          rcases List.mem_append.mp hp with z | z
          · exact List.mem_cons_of_mem _ (List.mem_append_left _ z)
          · rcases List.mem_cons.mp z with y | y
            · rw [y]
              exact List.mem_cons_self
            · exact List.mem_cons_of_mem _ (List.mem_append_right _ y)), S6.hok, S6.len⟩
        exact gone_ok S7 nd atI lcl fun s7 J7 => hQ s7 (tracked J7 s0none pinNe hzr hdr)
      cases fl with
      | next =>
        obtain ⟨σ6, H6, S6, q6⟩ := out
        exact leave S6 fun s7 J7 => ⟨_, _, J7, q6⟩
      | brk =>
        obtain ⟨σ6, H6, S6, q6⟩ := out
        exact leave S6 fun s7 J7 => ⟨_, _, J7, q6⟩
      | cont =>
        obtain ⟨σ6, H6, S6, q6⟩ := out
        exact leave S6 fun s7 J7 => ⟨_, _, J7, q6⟩
      | ret u =>
        obtain ⟨v6, σ6, H6, S6, r6, q6⟩ := out
        exact leave S6 fun s7 J7 => ⟨_, _, _, J7, r6, q6⟩
    | false =>
      show wpAny _ X.A (handleBy (Value.ref a) X.env []) _ _ _
      refine wpAny_handleBy_nil ?_
      obtain ⟨z1, z2, z3, oe, vs, T1, oT1, tsT, he, hz, hd, h1, hr1⟩ := id flq
      unfold PySem.passOn
      refine wpAny_bind (wpAny_field he hd h1 ?_)
      rw [if_neg (show ¬ ((Value.ref T1 == Value.none) = true) by simp)]
      have fin : wpAny (model X.prog X.w) X.A (setFlight (.ref a) X.env.frame) (fun _ s4 => wpAny (model X.prog X.w) X.A (throw (.ref a) : Sem Flow) (SP X pins D) X.xe s4) X.xe { s' with heap := hq } := by
        rw [frm]
        exact HandSPX.setFlight_upZ flq fun h4 hh4 up4 => wpAny_throw (tko _ _ ⟨a, B, sI, pins, σT, HT, cls, d, rfl, JX, nb, (upT.trans upq).trans up4, .inr (.inr (by rw [stk]; exact hh4)), naT, osT, agT, hno rfl⟩)
      first
        | exact wpAny_bind (wpAny_pure (wpAny_bind fin))
        | exact wpAny_bind fin
  · cases fl with
    | next =>
      obtain ⟨σ1, H1, J1, q1⟩ := done
      exact wpAny_execs_nil ⟨σ1, H1, J1.ofTry okX, q1⟩
    | brk =>
      obtain ⟨σ1, H1, J1, q1⟩ := done
      exact ⟨σ1, H1, J1.ofTry okX, q1⟩
    | cont =>
      obtain ⟨σ1, H1, J1, q1⟩ := done
      exact ⟨σ1, H1, J1.ofTry okX, q1⟩
    | ret u =>
      obtain ⟨v1, σ1, H1, J1, r1, q1⟩ := done
      exact ⟨v1, σ1, H1, J1.ofTry okX, r1, q1⟩
end
end Wx

namespace Wx
open PySem PySem.Spec PyProof.Rows L2 NdefX
section
variable {X : Cx}
/-- e.n, e a kept exception of an own class -/
def tEv (K : PySem.W.Frag) (n : Str) (te : TE) : TE := fun σ H Q => te σ H fun x H1 => ∃ (a C dd : Addr) (fs : List (Str × V)) (v : V), x = .ref a ∧ XfC K C ∧ PySem.W.findIn K (.ref C) n = some none ∧ H1 a = some (exv (.ref C) (some dd) a) ∧ H1 dd = some (.xd fs) ∧ fs.lookup n = some v ∧ Q v H1
theorem pe_ev {e : Expr} {te : TE} {pos : Pos} {n : Str} (he : PE X e te) (hb : attributeBase e n X.env (eval e X.env) = eval e X.env := by rfl) : PE X (.Attribute e n pos) (tEv X.K n te) := by
  refine ⟨fun pins s σ H Q I h => attr_of hb (thn (he.run pins s σ H _ I h) fun u s1 got => ?_)⟩
  obtain ⟨x, H1, I1, rx, a, C, dd, fs, v, ex, T, hno, ea, ed, hl, q⟩ := got
  subst ex
  obtain rfl : u = Value.ref a := rx
  obtain ⟨oe, vs, ga, hz, hd⟩ := exv_at I1.hok ea
  obtain ⟨mA, hns, hr⟩ : ObjOk X.prog X.w H1 s1.heap dd (.xd fs) := I1.hok dd _ ed
  obtain ⟨od, ho, hlk⟩ := lookIn_ns hns
  obtain ⟨u, hu, ru⟩ := RelO.some_of (v := v) (o := mA n) (by rw [← hl]; exact hr n)
  have inst : PySem.W.InstAt s1.heap a oe C (some od) := ⟨ga, hz.1, by unfold PySem.W.notCls; rw [hd] <;> rfl, by rw [hz.2]; exact ho⟩
  exact HandSPX.exc_get I1.kIn inst T.ga T.gg T.exC (PySem.W.findObj_own T.hdC hno rfl (by rw [hlk, hu])) (handed_of ru) ⟨v, H1, I1.tok _, ru, q⟩
/-- isinstance(e, c), e a kept exception of an own class -/
def rIsX (K : PySem.W.Frag) : List V → Hp → VK → Prop := fun xs H Q => ∃ (a C : Addr) (d : Option Addr) (c : V) (u : Value) (b : Bool), xs = [.ref a, c] ∧ ClsV c u ∧ ExcC K C ∧ H a = some (exv (.ref C) d a) ∧ (∀ dd, d = some dd → ∃ fs, H dd = some (.xd fs)) ∧ PySem.W.kitOne K (.ref C) u = some b ∧ Q (.bl b) H
theorem call_isX : CallR X (.builtin "isinstance") (rIsX X.K) := by
  intro pins s σ H xs us Q I r h
  obtain ⟨a, C, d, c, u, b, rfl, hc, T, ea, hd, hk, q⟩ := h
  cases r with
  | cons r1 r2 =>
    cases r2 with
    | cons r3 r4 =>
      cases r4
      cases r1
      have eu := hc.eq r3
      subst eu
      obtain ⟨oe, vs, ga, hz, hf⟩ := exv_at I.hok ea
      have inst : ∃ od, PySem.W.InstAt s.heap a oe C od := by
        cases d with
        | none => exact ⟨none, ga, hz.1, by unfold PySem.W.notCls; rw [hf] <;> rfl, by rw [hz.2]; trivial⟩
        | some dd =>
          obtain ⟨fs, ed⟩ := hd dd rfl
          obtain ⟨mA, hns, _⟩ : ObjOk X.prog X.w H s.heap dd (.xd fs) := I.hok dd _ ed
          obtain ⟨od, ho, _⟩ := lookIn_ns hns
          exact ⟨some od, ga, hz.1, by unfold PySem.W.notCls; rw [hf] <;> rfl, by rw [hz.2]; exact ho⟩
      obtain ⟨od, inst⟩ := inst
      have hcl : (PySem.W.clsIn X.K C).isSome = true := by
        obtain ⟨cd, hcd, _⟩ := PySem.W.any_some T.hd
        rw [hcd]
        rfl
      exact PySem.W.kia_one (PySem.W.kitx_exc hcl T.hg T.hk T.hs T.ha T.hn T.ht T.hm) I.kIn inst hk (fun z => nomatch z) fun tk => ⟨.bl b, H, I.kept (t' := tk) fun _ _ z => z, rfl, q⟩
theorem call_repr_str : CallR X (.builtin "repr") (fun xs H Q => ∃ z, xs = [.str z] ∧ (reprText z).length ≤ sizeLine ∧ Q (.str (reprText z)) H) := by
  intro pins s σ H xs us Q I r h
  obtain ⟨z, rfl, hz, q⟩ := h
  obtain ⟨u, rfl, t, rfl⟩ := vals1 r
  exact PySem.P.repr_of_str ⟨.str (reprText z), H, I.tok _, ⟨_, rfl⟩, q⟩ hz
end
/-! ### what the errors' modules promise -/
/-- a value that a message can show -/
def ShowOk (x : V) : Prop := (∃ z, x = .str z ∧ (reprText z).length ≤ 20000) ∨ (∃ i, x = .int i) ∨ x = .non ∨ ∃ b, x = .bl b
def sp_shown : Sp := fun vs H Q _ => ∃ x, vs = [x] ∧ ShowOk x ∧ ∀ y : Str, y.length ≤ 20000 → Q (.str y) H
/-- __init__ of an own error: the object at a gets a dict of these fields -/
def InitLeaves (H : Hp) (a C : Addr) (fs : List (Str × V)) (Q : VK) : Prop := ∀ (dx : Addr) (H' : Hp), H dx = none → (∀ b o, b ≠ a → H b = some o → H' b = some o) → H' a = some (exo a C (some dx)) → H' dx = some (exd dx fs) → Q .non H'
def spBadNumber (C : Addr) : Sp := fun vs H Q _ => ∃ (a : Addr) (z : Str) (v : V), vs = [.ref a, .str z, v] ∧ H a = some (exo a C none) ∧ z.length ≤ 1000 ∧ ShowOk v ∧ InitLeaves H a C [("value", v), ("what", .str z)] Q
def spBadName (C : Addr) : Sp := fun vs H Q _ => ∃ (a : Addr) (v : V), vs = [.ref a, v] ∧ H a = some (exo a C none) ∧ ShowOk v ∧ InitLeaves H a C [("name", v)] Q
/-- all that is asked of an own error class -/
structure ErrC (P : Program) (K : PySem.W.Frag) (mg : Str → Option Value) (x qual : Str) (C f cda cc : Addr) : Prop where
  g : mg x = some (.ref C)
  sup : SupTxt P K mg C cda cc qual
  ini : PySem.W.findIn K (.ref C) "__init__" = some (some (.ref f))
  tyI : PySem.W.typeIn K (.ref f) = some (.type "function")
  xf : XfC K C
  isx : ExcC K C
  exm : PySem.W.exmOne K (.ref C) (.ref C) = some true
  noWhat : PySem.W.findIn K (.ref C) "what" = some none
  noValue : PySem.W.findIn K (.ref C) "value" = some none
  noName : PySem.W.findIn K (.ref C) "name" = some none
  noTurn : PySem.W.findIn K (.ref C) "turn" = some none
theorem init_leaves2 {H : Hp} {a C : Addr} {f1 f2 : Str} {v1 v2 : V} {Q : VK} (ha : H a = some (exo a C none)) (k : InitLeaves H a C [(f2, v2), (f1, v1)] Q) {dx : Addr} (nd : H dx = none) (ne : dx ≠ a) :
    Q .non (upd (upd (upd H dx (exd dx [(f1, v1)])) a (exo a C (some dx))) dx (exd dx [(f2, v2), (f1, v1)])) := by
  refine k dx _ nd (fun b o nb e => ?_) ?_ upd_same
  · have nbd : b ≠ dx := ne_of_none e nd
    rw [upd_ne nbd, upd_ne nb, upd_ne nbd]
    exact e
  · rw [upd_ne (Ne.symm ne)]
    exact upd_same
theorem init_leaves1 {H : Hp} {a C : Addr} {f1 : Str} {v1 : V} {Q : VK} (k : InitLeaves H a C [(f1, v1)] Q) {dx : Addr} (nd : H dx = none) (ne : dx ≠ a) : Q .non (upd (upd H dx (exd dx [(f1, v1)])) a (exo a C (some dx))) := by
  refine k dx _ nd (fun b o nb e => ?_) upd_same ?_
  · rw [upd_ne nb, upd_ne (ne_of_none e nd)]
    exact e
  · rw [upd_ne ne]
    exact upd_same
/-- C(..) made: its promise by what __init__ leaves; the exception itself goes, its dict stays -/
theorem made_of {H1 : Hp} {a C : Addr} {fs : List (Str × V)} {Q : XK} (na : H1 a = none) (k : ∀ (d : Addr) (H' : Hp), H1 d = none → Same H1 H' → H' d = some (.xd fs) → Q (.ref C) (some d) H') :
    InitLeaves (upd H1 a (exo a C none)) a C fs (fun v H2 => v = .non ∧ ∃ (d : Addr) (gs : List (Str × V)), H2 a = some (exo a C (some d)) ∧ H2 d = some (exd d gs) ∧ H1 d = none ∧ Q (.ref C) (some d) (upd (del H2 a) d (.xd gs))) := fun dx H' nd keep ha hd => by
  have nda : dx ≠ a := fun z => by
    rw [z, upd_same] at nd
    cases nd
  have nd1 : H1 dx = none := by
    rw [upd_ne nda] at nd
    exact nd
  refine ⟨rfl, dx, fs, ha, hd, nd1, k dx _ nd1 (fun b o e => ?_) upd_same⟩
  have nba : b ≠ a := ne_of_none e na
  rw [upd_ne (ne_of_none e nd1), del_ne nba]
  exact keep b o nba (by rw [upd_ne nba]; exact e)
end Wx

namespace Wx
open PySem PySem.Spec PyProof.Rows L2 NdefX
theorem gives_lt_ib (p : Bool) (b : Int) (u : Tok) : Gives (Builtin.«int.__lt__» ⟨[.bool p, .int b u], []⟩) (.val (Value.bool (decide ((if p = true then (1 : Int) else 0) < b)))) :=
  .of_wp fun M A E s Q h => by obtain ⟨hp, g, d, tk, os⟩ := s; wp_walk; exact ⟨_, rfl, h⟩
theorem gives_gt_ib (p : Bool) (b : Int) (u : Tok) : Gives (Builtin.«int.__gt__» ⟨[.bool p, .int b u], []⟩) (.val (Value.bool (decide ((if p = true then (1 : Int) else 0) > b)))) :=
  .of_wp fun M A E s Q h => by obtain ⟨hp, g, d, tk, os⟩ := s; wp_walk; exact ⟨_, rfl, h⟩
section
variable {prog : Program} {w : World} {A : Around} {E : Value → Shared → Prop} {s : Shared}
theorem lt_bool_int {p : Bool} {b : Int} {u : Tok} {Q : Value → Shared → Prop} (h : Q (.bool (decide (PyProof.Rows.b2i p < b))) s) : wpAny (model prog w) A (compareOp .Lt (.bool p) (.int b u)) Q E s := by
  show wpAny _ A (richCompare .Lt _ _) Q E s
  exact PySem.SeqAt.rc_left_or rfl (typeIs_int s b u) (by decide) F.sub_int_bool F.slot_bool_lt
    (call_gives F.slot_bool_lt rfl F.entry_int_lt (F.args_int_lt_2 _ _) (gives_lt_ib p b u) ⟨nofun, h⟩) (.inl rfl)
theorem lt_int_bool {p : Bool} {a : Int} {t : Tok} {Q : Value → Shared → Prop} (h : Q (.bool (decide (a < PyProof.Rows.b2i p))) s) : wpAny (model prog w) A (compareOp .Lt (.int a t) (.bool p)) Q E s := by
  show wpAny _ A (richCompare .Lt _ _) Q E s
  exact PySem.SeqAt.rc_sub_first_or (typeIs_int s a t) rfl (by decide) F.sub_bool_int F.slot_bool_gt
    (call_gives F.slot_bool_gt rfl F.entry_int_gt (F.args_int_gt_2 _ _) (gives_gt_ib p a t) ⟨nofun, h⟩) (.inl rfl)
end
def nV : V → Option Int | .int i => some i | .bl b => some (if b = true then 1 else 0) | _ => none
section
variable {X : Cx}
theorem op_ltM : OpR X (compareOp .Lt) (fun x y H Q => ∃ i j, nV x = some i ∧ nV y = some j ∧ Q (.bl (decide (i < j))) H) := by
  intro pins s σ H x y v u Q I rx ry h
  obtain ⟨i, j, hx, hy, q⟩ := h
  cases x with
  | int a =>
    obtain rfl : a = i := Option.some.inj hx
    obtain ⟨t, rfl⟩ := rx
    cases y with
    | int b =>
      obtain rfl : b = j := Option.some.inj hy
      obtain ⟨t', rfl⟩ := ry
      exact PyProof.Rows.lt_int (fin_bl I q rfl)
    | bl b =>
      obtain rfl : (if b = true then 1 else 0) = j := Option.some.inj hy
      cases ry
      exact lt_int_bool (fin_bl I q rfl)
    | _ => cases hy
  | bl a =>
    obtain rfl : (if a = true then 1 else 0) = i := Option.some.inj hx
    cases rx
    cases y with
    | int b =>
      obtain rfl : b = j := Option.some.inj hy
      obtain ⟨t', rfl⟩ := ry
      exact lt_bool_int (fin_bl I q rfl)
    | bl b =>
      obtain rfl : (if b = true then 1 else 0) = j := Option.some.inj hy
      cases ry
      exact PyProof.Rows.lt_bool (fin_bl I q rfl)
    | _ => cases hy
  | _ => cases hx
theorem call_str_ib : CallR X (.type "str") (fun xs H Q => (∃ i, xs = [.int i] ∧ i.natAbs.log2 < 1920 ∧ Q (.str (toString i)) H) ∨ ∃ b, xs = [.bl b] ∧ Q (.str (if b = true then "True" else "False")) H) := by
  intro pins s σ H xs us Q I r h
  rcases h with ⟨i, rfl, hz, q⟩ | ⟨b, rfl, q⟩
  · obtain ⟨u, rfl, t, rfl⟩ := vals1 r
    exact PySem.P.str_of_int hz ⟨.str _, H, I.tok _, ⟨_, rfl⟩, q⟩
  · obtain ⟨u, rfl, hu⟩ := vals1 r
    obtain rfl : u = Value.bool b := hu
    exact PySem.P.str_of_bool ⟨.str _, H, I.tok _, ⟨_, by cases b <;> rfl⟩, q⟩
end
end Wx

namespace Wx
open PySem PySem.Spec PyProof.Rows L2 NdefX
/-! == and != by an own __eq__, any answer; C(..) inside a try -/
section
variable {prog : Program} {w : World} {A : Around} {E : Value → Shared → Prop} {K : PySem.W.Frag} {s : Shared} {x C f : Addr} {ox : Obj} {od : Option Obj}
theorem ifBound_B {M : Model} {name : Str} {id : String} {args : List Value} {Q : Option Value → Shared → Prop} (X : K.In s.heap) (I : PySem.W.InstAt s.heap x ox C od) (hs : PySem.W.findIn K (.ref C) name = some (some (.builtin id)))
    (hb : ∀ self, bindSpecial (.builtin id) self = pure (.builtin id, [self]))
    (h : wpAny M A (call (.builtin id) (.ref x :: args)) (fun v => Q (some v)) E s) : wpAny M A (callSpecialIfBound? (.ref x) name args) Q E s := by
  simp only [callSpecialIfBound?, bindSpecialIfBound?]
  refine wpAny_holding (wpAny_bind (wpAny_bind (wpAny_bind (I.type.here ((PySem.W.looks_findIn X hs).here ?_)))))
  refine wpAny_bind (wpAny_askSetting (wpAny_ite ?_))
  have fin : wpAny M A (call (.builtin id) ([.ref x] ++ args) >>= fun v => pure (some v)) Q E s := wpAny_bind (wpAny_mono h (fun v s' h' => wpAny_pure h') fun _ _ h' => h')
  simp only [hb]
  split
  · exact wpAny_bind (wpAny_pure (wpAny_pure (by exact fin)))
  · exact wpAny_tryCatch (wpAny_bind (wpAny_pure (wpAny_pure (by exact fin))))
theorem objNe_K {b : Value} {Q : Fin → Shared → Prop} (X : K.In s.heap) (I : PySem.W.InstAt s.heap x ox C od) (hs : PySem.W.findIn K (.ref C) "__eq__" = some (some (.ref f))) (hf : PySem.W.isFn K (.ref f) = true) (hu : A.units < cLine)
    (h : wpAny (model prog w) A (call (.ref f) [.ref x, b]) (fun v s' => ∃ k, v = .bool k ∧ Q (.done (.ret (.bool (!k)))) s') E s) : wpAny (model prog w) A (Builtin.«object.__ne__» ⟨[.ref x, b], []⟩) Q E s := by
  unfold Builtin.«object.__ne__»
  repeat (first
    | with_reducible refine wpAny_cRoomFor hu ?_
    | (refine wpAny_bind (m := callSpecialIfBound? (.ref x) (Str.ofString "__eq__") [b])
        (PySem.W.ifBound_K X I hs hf (wpAny_mono h (fun r s' hr => by
          obtain ⟨k, rfl, hq⟩ := hr
          repeat (first | exact hq | exact wpAny_pure hq | exact wpAny_truthy_bool hq | (refine wpAny_bind (m := truthy (.bool _)) (wpAny_truthy_bool ?_)) | wp_step)) fun _ _ e => e)))
    | wp_step)
/-- x != y by the class's own __eq__ -/
theorem ne_K {L : Addr} {h₀ : Heap} {m : Str → Option Value} {b tb : Value} {Q : Value → Shared → Prop} (hu : A.units + 1 < cLine) (FR : Fr h₀ L s.heap m) (X₀ : K.In h₀) (I : PySem.W.InstAt s.heap x ox C od) (hb : PySem.W.Looks (model prog w) s.heap (typeOf b) tb) (hn : PySem.W.notFirst K C tb = true)
    (hne : PySem.W.findIn K (.ref C) "__ne__" = some (some (.builtin "object.__ne__"))) (ho : PySem.W.subIn K (.ref C) (.type "object") = some true)
    (hs : PySem.W.findIn K (.ref C) "__eq__" = some (some (.ref f))) (hf : PySem.W.isFn K (.ref f) = true)
    (h : wpAny (model prog w) A.in1 (call (.ref f) [.ref x, b]) (fun v s' => ∃ k, v = .bool k ∧ Q (.bool (!k)) s') E s) : wpAny (model prog w) A (richCompare .NotEq (.ref x) b) Q E s := by
  have X := X₀.keeps FR.keep
  have one : wpAny (model prog w) A (tryCompare (.ref x) "__ne__" b) (fun r s' => ∃ v, r = some v ∧ Q v s') E s := by
    simp only [tryCompare]
    refine wpAny_bind (ifBound_B X I hne F.cmp_object.ne.bind (wpAny_call (codeAny_call_builtin F.cmp_object.ne.plain F.cmpEntry_ne
      (@PySem.W.check_slot (model prog w) _ _ s "object.__ne__" "object" "__ne__" (.ref x) [b] [] _ F.cmpKind_ne F.cmpSplit_ne (I.type.andThen (PySem.W.looks_subIn X ho)) (F.cmpArgs_ne _ _)
        (objNe_K (A := A.in1) X I hs hf hu (wpAny_mono h (fun v s' hv => ?_) fun _ _ e => e))))))
    obtain ⟨k, rfl, hq⟩ := hv
    first | exact ⟨k, rfl, wpAny_pure ⟨_, rfl, hq⟩⟩ | exact ⟨k, rfl, wpAny_pure (wpAny_pure ⟨_, rfl, hq⟩)⟩ | exact ⟨k, rfl, _, rfl, hq⟩
  unfold richCompare
  simp only [oneThing_ref]
  refine wpAny_holding (wpAny_bind (wpAny_cRoomFor (Nat.lt_of_succ_lt hu) ?_))
  rw [cmpInfo_NotEq]
  dsimp only
  refine wpAny_bind (I.type.here (wpAny_bind (hb.here ?_)))
  split
  · rename_i q
    have e : PySem.W.subIn K tb (.ref C) = some false := by
      rcases Bool.or_eq_true_iff.mp hn with e | e
      · rw [beq_iff_eq.mp e] at q; simp at q
      · exact beq_iff_eq.mp e
    refine wpAny_bind ((PySem.W.looks_subIn X e).here ?_)
    simp only [Bool.false_eq_true, if_false]
    refine wpAny_bind (wpAny_mono one (fun r s' z => ?_) fun _ _ e => e)
    obtain ⟨v, rfl, hq⟩ := z
    exact wpAny_pure hq
  · refine wpAny_bind (wpAny_pure ?_)
    simp only [Bool.false_eq_true, if_false]
    refine wpAny_bind (wpAny_mono one (fun r s' z => ?_) fun _ _ e => e)
    obtain ⟨v, rfl, hq⟩ := z
    exact wpAny_pure hq
end
/-- two instances of the class at C -/
def rOwnI (K : PySem.W.Frag) (C : Addr) (sp : Sp) (E : XK) (g : Bool → Bool) : R2 := fun x y H Q => ∃ a dx fs b dy gs, x = .ref a ∧ y = .ref b ∧ H a = some (.ins C dx fs) ∧ H b = some (.ins C dy gs) ∧ sp [x, y] H (fun z H' => ∃ k, z = .bl k ∧ Q (.bl (g k)) H') E
section
variable {X : Cx} {CX : CXT} {C f : Addr} {n : Nat} {fd : FuncData} {ps : List Str} {sp : Sp} {E : XK}
theorem run_two {A : Around} {pins : List (Addr × Obj)} {σ : L2.St} {H : Hp} {s : Shared} {us : List Value} {vs : List V} {Q : VK} (F : FnOk X.prog X.w X.K X.mg X.base CX n f fd ps sp) (hr : Room n A) (e0 : Env0 X.prog X.w X.K X.mg X.base A X.stack s H) (hb : Binds X.K fd ps []) (hx : Passes CX X E)
    (I : Inv X pins σ H s) (r : Vals vs us) (h : sp vs H Q E) : wpAny (model X.prog X.w) A (call (.ref f) us) (EP X pins σ Q) X.xe s := by
  have hl : us.length = ps.length := by rw [← r.length]; exact F.len _ _ _ _ h
  refine wpAny_call (codeAny_mono (F.run A X.stack s H ⟨us, []⟩ us vs Q E hr e0 (by
    have := hb s us I.kIn (by simpa using hl)
    simpa using this) r h) fun r s' hq => ?_)
  cases r with
  | error e => exact hx pins σ H s e s' I hq
  | ok fl =>
    cases fl with
    | ret w => exact I.after hq
    | next => exact False.elim hq
    | brk => exact False.elim hq
    | cont => exact False.elim hq
theorem op_eqI (F : FnOk X.prog X.w X.K X.mg X.base CX n f fd ps sp) (hr : Room n X.A) (hs : PySem.W.findIn X.K (.ref C) "__eq__" = some (some (.ref f))) (hf : PySem.W.isFn X.K (.ref f) = true) (hb : Binds X.K fd ps []) (hx : Passes CX X E) : OpR X (compareOp .Eq) (rOwnI X.K C sp E id) := by
  intro pins s σ H x y v u Q I rx ry h
  obtain ⟨a, dx, fs, b, dy, gs, rfl, rfl, ha, hb', q⟩ := h
  cases (show v = Value.ref a from rx)
  cases (show u = Value.ref b from ry)
  obtain ⟨mA, J, _⟩ := ins_get I.hok ha
  obtain ⟨mB, J', _⟩ := ins_get I.hok hb'
  obtain ⟨od, J, _⟩ := J.look
  obtain ⟨od', J', _⟩ := J'.look
  obtain ⟨m, hF⟩ := I.fr
  show wpAny (model X.prog X.w) X.A (richCompare .Eq _ _) (EP X pins σ Q) X.xe s
  refine PySem.W.cmp_K (op := .Eq) (tb := .ref C) hr.units0 hF I.ok.mod.kin J J'.type (by simp [PySem.W.notFirst]) hs hf ?_
  refine wpAny_mono (run_two (us := [.ref a, .ref b]) (vs := [.ref a, .ref b]) F hr I.env0 hb hx I (.cons rfl (.cons rfl .nil)) q) (fun w s' z => ?_) fun _ _ x => x
  obtain ⟨z', H', I', rz, k, ez, qz⟩ := z
  subst ez
  cases (show w = Value.bool k from rz)
  exact ⟨.bl k, H', I', rfl, qz⟩
theorem op_neI (F : FnOk X.prog X.w X.K X.mg X.base CX n f fd ps sp) (hr : Room (n + 1) X.A) (hne : PySem.W.findIn X.K (.ref C) "__ne__" = some (some (.builtin "object.__ne__"))) (ho : PySem.W.subIn X.K (.ref C) (.type "object") = some true)
    (hs : PySem.W.findIn X.K (.ref C) "__eq__" = some (some (.ref f))) (hf : PySem.W.isFn X.K (.ref f) = true) (hb : Binds X.K fd ps []) (hx : Passes CX X E) : OpR X (compareOp .NotEq) (rOwnI X.K C sp E not) := by
  intro pins s σ H x y v u Q I rx ry h
  obtain ⟨a, dx, fs, b, dy, gs, rfl, rfl, ha, hb', q⟩ := h
  cases (show v = Value.ref a from rx)
  cases (show u = Value.ref b from ry)
  obtain ⟨mA, J, _⟩ := ins_get I.hok ha
  obtain ⟨mB, J', _⟩ := ins_get I.hok hb'
  obtain ⟨od, J, _⟩ := J.look
  obtain ⟨od', J', _⟩ := J'.look
  obtain ⟨m, hF⟩ := I.fr
  show wpAny (model X.prog X.w) X.A (richCompare .NotEq _ _) (EP X pins σ Q) X.xe s
  have hr1 : Room n X.A.in1 := hr.in1
  refine ne_K (tb := .ref C) hr1.units0 hF I.ok.mod.kin J J'.type (by simp [PySem.W.notFirst]) hne ho hs hf ?_
  refine wpAny_mono (run_two (us := [.ref a, .ref b]) (vs := [.ref a, .ref b]) F hr1 I.env0.in1 hb hx I (.cons rfl (.cons rfl .nil)) q) (fun w s' z => ?_) fun _ _ x => x
  obtain ⟨z', H', I', rz, k, ez, qz⟩ := z
  subst ez
  cases (show w = Value.bool k from rz)
  exact ⟨k, rfl, .bl (!k), H', I', rfl, qz⟩
end
section
variable {X : Cx} {CX : CXT} {k : Nat} {f C : Addr} {fd : FuncData} {ps : List Str} {sp : Sp} {E : L2.St → XK} {x : Str} {p pos : Pos} {e : Expr} {es : List Expr} {t : TA}
/-- C(..) where what is raised is wished for at the caller's slots -/
def tMakeS (C : Addr) (sp : Sp) (E : L2.St → XK) (t : TA) : TE := fun σ H Q => t σ H fun vs H1 => ∀ x dx, H1 x = none → H1 dx = none → dx ≠ x → sp (.ref x :: vs) (upd (upd H1 dx (.own x)) x (.ins C dx [])) (fun v H2 => v = .non ∧ Q (.ref x) H2) (E σ)
theorem pe_makeS (M : Mk X.K C f) (F : FnOk X.prog X.w X.K X.mg X.base CX k f fd ps sp) (hr : Room (k + 1) X.A) (hg : Gl X x) (hm : X.mg x = some (.ref C)) (hb : Binds X.K fd ps []) (hx : ∀ σ, PassesAt CX X σ (E σ))
    (ha : PA X (e :: es) t) (hdb : (x == ("__debug__" : Str)) = false := by decide) (he : starEach (e :: es) X.env = (false, eval e X.env) :: starEach es X.env := by rfl) (hpl : (backTo pos (starEach es X.env)).any (·.1) = false := by rfl) :
    PE X (.Call (.Name x p) (e :: es) [] pos) (tMakeS C sp E t) := by
  refine ⟨fun pins s σ H Q I h => ?_⟩
  refine wpAny_Call_Name_kw (ld_glob I hg hm ?_ hdb)
  refine PySem.W.callWith_K (h₀ := X.base) I.ok.mod.kin M.kp (thn (ha.run pos pins s σ H _ I h) fun us s1 ⟨vs, H1, I1, r, q⟩ => ⟨I1.kIn, ?_⟩) he hpl
  have hq := q (s1.heap.objs.size + 1) s1.heap.objs.size (I1.hok.fresh (Nat.le_succ _)) (I1.hok.fresh (Nat.le_refl _)) (Nat.ne_of_lt (Nat.lt_succ_self _))
  have I2 := Inv.made (C := C) I1
  have r2 : Vals (V.ref (s1.heap.objs.size + 1) :: vs) (Value.ref (s1.heap.objs.size + 1) :: us) := .cons rfl r
  have hl : (Value.ref (s1.heap.objs.size + 1) :: us).length = ps.length := by
    have e := r2.length
    rw [F.len _ _ _ _ hq] at e
    exact e.symm
  refine wpAny_call (make_map (f := f) I1.kIn M.makes M.init (beq_iff_eq.mp M.fn) (codeAny_mono (F.run _ X.stack _ _ ⟨Value.ref (s1.heap.objs.size + 1) :: us, []⟩ (Value.ref (s1.heap.objs.size + 1) :: us) _ _ (E σ) (hr.make C us [])
    (I2.env0.make C us []) (by
      have := hb _ (Value.ref (s1.heap.objs.size + 1) :: us) I2.kIn (by simpa using hl)
      simpa using this) r2 hq) fun r s' hq' => ?_))
  cases r with
  | error e => exact hx σ pins _ _ e s' I2 hq'
  | ok fl =>
    cases fl with
    | ret u =>
      obtain ⟨v, H', I3, rv, ev, q3⟩ := I2.after hq'
      subst ev
      exact ⟨rv, ⟨V.ref (s1.heap.objs.size + 1), H', I3, rfl, q3⟩⟩
    | next => exact False.elim hq'
    | brk => exact False.elim hq'
    | cont => exact False.elim hq'
end
end Wx

namespace Wx
open PySem PySem.Spec PyProof.Rows L2 NdefX
def wKeeps (K : PySem.W.Frag) (i : Nat) (Wout : WX) (D : Ends) : List (Value × (Addr → Value → Option Addr → TS)) → WX
  | [] => Wout
  | (c, ts) :: r => fun cls d σ H =>
    ∃ b, PySem.W.exmOne K cls c = some b ∧ (b = true → ∀ a, H a = none → ts a cls d { nx := fun σ1 H1 => D.nx (σ1.set i none) (upd H1 a (exv cls d a)), rt := fun v H1 => D.rt v (upd H1 a (exv cls d a)), bk := fun σ1 H1 => D.bk (σ1.set i none) (upd H1 a (exv cls d a)), ct := fun σ1 H1 => D.ct (σ1.set i none) (upd H1 a (exv cls d a)) } (σ.set i (some (.ref a))) H) ∧
      (b = false → wKeeps K i Wout D r cls d σ H)
inductive HdsKeep (X : Cx) (n : Str) : List ExceptHandler → List (Value × (Addr → Value → Option Addr → TS)) → Prop
  | nil : HdsKeep X n [] []
  | cons {x : Str} {c : Value} {ts : Addr → Value → Option Addr → TS} {b₀ : Stmt} {suite : List Stmt} {np pos' : Pos} {hds : List ExceptHandler} {l : List (Value × (Addr → Value → Option Addr → TS))} (hc : Names X x c)
      (hsu : ∀ (a : Addr) (oe : Obj) (cls : Value) (d : Option Addr) (pn : List (Addr × Obj)), Zc cls d oe → (∃ vs, oe.data = .fields vs) → PSs (X.suite a ((a, oe) :: pn)) (b₀ :: suite) (ts a cls d)) (r : HdsKeep X n hds l) :
      HdsKeep X n (.ExceptHandler (some (.Name x np)) (some n) (b₀ :: suite) pos' :: hds) ((c, ts) :: l)
section
variable {X : Cx} {n : Str} {i : Nat} {body : List Stmt} {h₀ : ExceptHandler} {hds : List ExceptHandler} {l : List (Value × (Addr → Value → Option Addr → TS))} {pos : Pos} {tb : WX → TS} {Wout : WX}
/-- several clauses, each one keeping its exception under the same name -/
theorem ps_try_keeps (hex : X.ex = []) (stk : X.stack = X.env :: X.outer) (frm : X.env.frame = some X.env.locals) (nd : X.N.Nodup) (atI : X.N[i]? = some n) (lcl : X.env.kindOf n = some .local) (tko : Takes X Wout)
    (hbody : ∀ (W : WX) (pn : List (Addr × Obj)) (xe : Value → Shared → Prop), Takes (X.tr pn xe) W → PassesOwn (model X.prog X.w) X.A X.env xe → PSs (X.tr pn xe) body (tb W))
    (hh : HdsKeep X n (h₀ :: hds) l) :
    PS X (.Try body (h₀ :: hds) [] [] pos) (fun D σ H => tb (wKeeps X.K i Wout D l) D σ H) := by
  refine ⟨fun pins s σ H D I0 rd => ?_⟩
  have okX := I0.ok
  have frA : X.A.frames = some (X.env :: X.outer) := okX.frames.trans (congrArg some stk)
  have locN : Loc X.env.scope n := Or.inl lcl
  refine wpAny_Try_except (wpAny_mono ((hbody (wKeeps X.K i Wout D l) (X.pn ++ pins) (fun e s₁ => wpAny (model X.prog X.w) X.A (noteFrame e X.env) (fun _ s₂ => wpAny (model X.prog X.w) X.A (setFlight e none) (fun _ s₃ =>
      wpAny (model X.prog X.w) X.A (handleBy e X.env (h₀ :: hds)) (SP X pins D) X.xe s₃) X.xe s₂) X.xe s₁) (fun u s' caught => ?_) PassesOwn.looking).run [] s σ H D (I0.toTry _) rd) (fun fl s1 done => ?_) (fun _ _ z => z))
  · obtain ⟨a, B, sI, pinsT, σT, HT, cls, d, rfl, JT, nb, upT, skyT, naT, osT, agT, wl⟩ := caught
    have JX : Inv X pins σT HT sI := Inv.ofTry JT okX
    have skyX : Sky B (X.env :: X.outer) a (Zc cls d) X.env.locals s'.heap := stk ▸ skyT
    show wpAny _ X.A (noteFrame (Value.ref a) X.env) _ _ _
    refine Sky.land Zc.steady frA frm skyX (fun hq flq upq => ?_)
    have Jq : Inv X pins σT HT { s' with heap := hq } := JX.landed nb flq.1 (upT.trans upq) osT agT
    obtain ⟨oeq, vsq, heq, hzq, hdq⟩ := flq.there
    have nfr : a ∉ frs (X.env :: X.outer) := fun hm => by
      obtain ⟨_, o', e', nf'⟩ := flq.2.2.1.mem hm
      have z := heq.symm.trans e'
      cases z
      exact nf' _ hdq
    have nLoc : a ≠ X.env.locals := fun z => nfr (List.mem_filterMap.mpr ⟨X.env, List.mem_cons_self, frm.trans (congrArg some z.symm)⟩)
    have nOut : a ∉ X.fs := fun hm => by
      obtain ⟨ev, hev, qv⟩ := List.mem_filterMap.mp hm
      exact nfr (List.mem_filterMap.mpr ⟨ev, List.mem_cons_of_mem _ hev, qv⟩)
    -- the exception is younger than the frame
    have sInone : sI.heap.get? a = none := by
      cases z : sI.heap.get? a with
      | none => rfl
      | some o =>
        have Bn : B.get? a = none := by
          rcases skyX with ⟨_, q, _⟩ | q | q
          · exact q
          · exact q.2.1
          · exact q.2.1
        have y := nb a o z (fun hm => nfr (by rw [← stk]; exact hm))
        rw [Bn] at y
        cases y
    have s0none : X.s_0.heap.get? a = none := by
      cases z : X.s_0.heap.get? a with
      | none => rfl
      | some o =>
        obtain ⟨o2, y⟩ := JX.base.there a o z (by rw [hex]; simp)
        rw [sInone] at y
        cases y
    have pinNe : ∀ p, p ∈ X.pn ++ pins → p.1 ≠ a := fun p hp z => by
      have y := (JX.pin p hp).1
      rw [z, sInone] at y
      cases y
    have Sq := Jq.suite heq hdq naT nLoc nOut
    have LTy : PySem.W.Looks (model X.prog X.w) hq (typeOf (.ref a)) cls := fun A Q E s k q => wpAny_typeOf_ref (k _ _ heq) (hzq.1 ▸ q)
    have go : ∀ (hs : List ExceptHandler) (l : List (Value × (Addr → Value → Option Addr → TS))), HdsKeep X n hs l → wKeeps X.K i Wout D l cls d σT HT → wpAny (model X.prog X.w) X.A (handleBy (Value.ref a) X.env hs) (SP X pins D) X.xe { s' with heap := hq } := by
      intro hs l hk
      induction hk with
      | nil =>
        intro wout
        refine wpAny_handleBy_nil ?_
        obtain ⟨z1, z2, z3, oe, vs, T1, oT1, tsT, he, hz, hd, h1, hr1⟩ := id flq
        unfold PySem.passOn
        refine wpAny_bind (wpAny_field he hd h1 ?_)
        rw [if_neg (show ¬ ((Value.ref T1 == Value.none) = true) by simp)]
        have fin : wpAny (model X.prog X.w) X.A (setFlight (.ref a) X.env.frame) (fun _ s4 => wpAny (model X.prog X.w) X.A (throw (.ref a) : Sem Flow) (SP X pins D) X.xe s4) X.xe { s' with heap := hq } := by
          rw [frm]
          exact HandSPX.setFlight_upZ flq fun h4 hh4 up4 => wpAny_throw (tko _ _ ⟨a, B, sI, pins, σT, HT, cls, d, rfl, JX, nb, (upT.trans upq).trans up4, .inr (.inr (by rw [stk]; exact hh4)), naT, osT, agT, wout⟩)
        first
          | exact wpAny_bind (wpAny_pure (wpAny_bind fin))
          | exact wpAny_bind fin
      | @cons x c ts b₀ suite np pos' hs l nms hsuite hrest ih =>
        intro wl
        obtain ⟨b, hcl, hyes, hno⟩ := wl
        refine wpAny_handleBy_cons (codeAny_handlers_test ?_) (by rintro ⟨⟩)
        have LEx := PySem.W.exm_one (M := model X.prog X.w) Jq.kIn LTy hcl
        have tst : ∀ {Q : Value → Shared → Prop} {E : Value → Shared → Prop}, Q c { s' with heap := hq } → wpAny (model X.prog X.w) (X.A.mark (some (.ref a))) (eval (.Name x np) X.env) Q E { s' with heap := hq } := fun {Q E} q => by
          obtain ⟨g1, g2, g3 | ⟨g3, g4, g5⟩⟩ := nms
          · exact ld_glob (X := X.suite a ((a, oeq) :: (X.pn ++ pins))) Sq g1 g3 q g2
          · exact ld_blt (X := X.suite a ((a, oeq) :: (X.pn ++ pins))) Sq g1 g3 g4 q g5 g2
        refine tst (LEx.here ?_)
        cases b with
        | true =>
          refine codeAny_handlers_suite_as (HandSPX.lands_againZ flq fun hr flr upr => ?_)
          have Jr : Inv X pins σT HT { s' with heap := hr } := JX.landed nb flr.1 ((upT.trans upq).trans upr) osT agT
          obtain ⟨oer, vsr, her, hzr, hdr⟩ := flr.there
          have Sr := Jr.suite her hdr naT nLoc nOut
          refine store_ok (X := X.suite a ((a, oer) :: (X.pn ++ pins))) (v := V.ref a) Sr nd atI locN rfl (fun s5 S5 => ?_) (Or.inr lcl)
          refine wpAny_mono ((hsuite a oer cls d (X.pn ++ pins) hzr ⟨_, hdr⟩).run [] s5 _ HT _ S5 (hyes rfl a naT)) (fun fl s6 out => ?_) (fun _ _ z => z.elim)
          have leave : ∀ {σ6 : L2.St} {H6 : Hp} {Q : Shared → Prop}, Inv (X.suite a ((a, oer) :: (X.pn ++ pins))) [] σ6 H6 s6 → (∀ s7, Inv X pins (σ6.set i none) (upd H6 a (exv cls d a)) s7 → Q s7) →
              wpAny (model X.prog X.w) X.A (do bindName X.env n .none; unbindBehindTheSuite X.env n pos') (fun _ s7 => Q s7) X.xe s6 := fun {σ6 H6 Q} S6 hQ => by
            have S7 : Inv X ((a, oer) :: pins) σ6 H6 s6 := ⟨okX, S6.os, S6.bare, S6.base, S6.loc, S6.cell, S6.free, S6.freeC, fun p hp => S6.pin p (by
              rw [List.append_nil]
              rcases List.mem_append.mp hp with z | z
              · exact List.mem_cons_of_mem _ (List.mem_append_left _ z)
              · rcases List.mem_cons.mp z with y | y
                · rw [y]
                  exact List.mem_cons_self
                · exact List.mem_cons_of_mem _ (List.mem_append_right _ y)), S6.hok, S6.len⟩
            exact gone_ok S7 nd atI lcl fun s7 J7 => hQ s7 (tracked J7 s0none pinNe hzr hdr)
          cases fl with
          | next =>
            obtain ⟨σ6, H6, S6, q6⟩ := out
            exact leave S6 fun s7 J7 => ⟨_, _, J7, q6⟩
          | brk =>
            obtain ⟨σ6, H6, S6, q6⟩ := out
            exact leave S6 fun s7 J7 => ⟨_, _, J7, q6⟩
          | cont =>
            obtain ⟨σ6, H6, S6, q6⟩ := out
            exact leave S6 fun s7 J7 => ⟨_, _, J7, q6⟩
          | ret u =>
            obtain ⟨v6, σ6, H6, S6, r6, q6⟩ := out
            exact leave S6 fun s7 J7 => ⟨_, _, _, J7, r6, q6⟩
        | false => exact ih (hno rfl)
    exact go _ _ hh wl
  · cases fl with
    | next =>
      obtain ⟨σ1, H1, J1, q1⟩ := done
      exact wpAny_execs_nil ⟨σ1, H1, J1.ofTry okX, q1⟩
    | brk =>
      obtain ⟨σ1, H1, J1, q1⟩ := done
      exact ⟨σ1, H1, J1.ofTry okX, q1⟩
    | cont =>
      obtain ⟨σ1, H1, J1, q1⟩ := done
      exact ⟨σ1, H1, J1.ofTry okX, q1⟩
    | ret u =>
      obtain ⟨v1, σ1, H1, J1, r1, q1⟩ := done
      exact ⟨v1, σ1, H1, J1.ofTry okX, r1, q1⟩
end
end Wx

namespace Wx
open PySem PySem.Spec PyProof.Rows L2 NdefX
theorem dropPin {X : Cx} {pins : List (Addr × Obj)} {σ : L2.St} {H : Hp} {s : Shared} {p : Addr × Obj} (J : Inv X (p :: pins) σ H s) : Inv X pins σ H s :=
  ⟨J.ok, J.os, J.bare, J.base, J.loc, J.cell, J.free, J.freeC, fun q hq => J.pin q (by
    rcases List.mem_append.mp hq with z | z
    · exact List.mem_append_left _ z
    · exact List.mem_append_right _ (List.mem_cons_of_mem _ z)), J.hok, J.len⟩
def wAss (K : PySem.W.Frag) (i : Nat) (Wout : WX) (D : Ends) : List (Value × (Addr → Value → Option Addr → TS)) → WX
  | [] => Wout
  | (c, ts) :: r => fun cls d σ H =>
    ∃ b, PySem.W.exmOne K cls c = some b ∧ (b = true → ∀ a, H a = none → ts a cls d { nx := fun σ1 H1 => D.nx (σ1.set i none) H1, rt := D.rt, bk := fun σ1 H1 => D.bk (σ1.set i none) H1, ct := fun σ1 H1 => D.ct (σ1.set i none) H1 } (σ.set i (some (.ref a))) H) ∧
      (b = false → wAss K i Wout D r cls d σ H)
inductive HdsAs (X : Cx) (n : Str) : List ExceptHandler → List (Value × (Addr → Value → Option Addr → TS)) → Prop
  | nil : HdsAs X n [] []
  | cons {x : Str} {c : Value} {ts : Addr → Value → Option Addr → TS} {b₀ : Stmt} {suite : List Stmt} {np pos' : Pos} {hds : List ExceptHandler} {l : List (Value × (Addr → Value → Option Addr → TS))} (hc : Names X x c)
      (hsu : ∀ (a : Addr) (oe : Obj) (cls : Value) (d : Option Addr) (pn : List (Addr × Obj)), Zc cls d oe → (∃ vs, oe.data = .fields vs) → PSs (X.suite a ((a, oe) :: pn)) (b₀ :: suite) (ts a cls d)) (r : HdsAs X n hds l) :
      HdsAs X n (.ExceptHandler (some (.Name x np)) (some n) (b₀ :: suite) pos' :: hds) ((c, ts) :: l)
section
variable {X : Cx} {n : Str} {i : Nat} {body : List Stmt} {h₀ : ExceptHandler} {hds : List ExceptHandler} {l : List (Value × (Addr → Value → Option Addr → TS))} {pos : Pos} {tb : WX → TS} {Wout : WX}
/-- several clauses with the same name; the exception is let go behind the suite -/
theorem ps_try_ass (hex : X.ex = []) (stk : X.stack = X.env :: X.outer) (frm : X.env.frame = some X.env.locals) (nd : X.N.Nodup) (atI : X.N[i]? = some n) (lcl : X.env.kindOf n = some .local) (tko : Takes X Wout)
    (hbody : ∀ (W : WX) (pn : List (Addr × Obj)) (xe : Value → Shared → Prop), Takes (X.tr pn xe) W → PassesOwn (model X.prog X.w) X.A X.env xe → PSs (X.tr pn xe) body (tb W))
    (hh : HdsAs X n (h₀ :: hds) l) :
    PS X (.Try body (h₀ :: hds) [] [] pos) (fun D σ H => tb (wAss X.K i Wout D l) D σ H) := by
  refine ⟨fun pins s σ H D I0 rd => ?_⟩
  have okX := I0.ok
  have frA : X.A.frames = some (X.env :: X.outer) := okX.frames.trans (congrArg some stk)
  have locN : Loc X.env.scope n := Or.inl lcl
  refine wpAny_Try_except (wpAny_mono ((hbody (wAss X.K i Wout D l) (X.pn ++ pins) (fun e s₁ => wpAny (model X.prog X.w) X.A (noteFrame e X.env) (fun _ s₂ => wpAny (model X.prog X.w) X.A (setFlight e none) (fun _ s₃ =>
      wpAny (model X.prog X.w) X.A (handleBy e X.env (h₀ :: hds)) (SP X pins D) X.xe s₃) X.xe s₂) X.xe s₁) (fun u s' caught => ?_) PassesOwn.looking).run [] s σ H D (I0.toTry _) rd) (fun fl s1 done => ?_) (fun _ _ z => z))
  · obtain ⟨a, B, sI, pinsT, σT, HT, cls, d, rfl, JT, nb, upT, skyT, naT, osT, agT, wl⟩ := caught
    have JX : Inv X pins σT HT sI := Inv.ofTry JT okX
    have skyX : Sky B (X.env :: X.outer) a (Zc cls d) X.env.locals s'.heap := stk ▸ skyT
    show wpAny _ X.A (noteFrame (Value.ref a) X.env) _ _ _
    refine Sky.land Zc.steady frA frm skyX (fun hq flq upq => ?_)
    have Jq : Inv X pins σT HT { s' with heap := hq } := JX.landed nb flq.1 (upT.trans upq) osT agT
    obtain ⟨oeq, vsq, heq, hzq, hdq⟩ := flq.there
    have nfr : a ∉ frs (X.env :: X.outer) := fun hm => by
      obtain ⟨_, o', e', nf'⟩ := flq.2.2.1.mem hm
      have z := heq.symm.trans e'
      cases z
      exact nf' _ hdq
    have nLoc : a ≠ X.env.locals := fun z => nfr (List.mem_filterMap.mpr ⟨X.env, List.mem_cons_self, frm.trans (congrArg some z.symm)⟩)
    have nOut : a ∉ X.fs := fun hm => by
      obtain ⟨ev, hev, qv⟩ := List.mem_filterMap.mp hm
      exact nfr (List.mem_filterMap.mpr ⟨ev, List.mem_cons_of_mem _ hev, qv⟩)
    -- the exception is younger than the frame
    have sInone : sI.heap.get? a = none := by
      cases z : sI.heap.get? a with
      | none => rfl
      | some o =>
        have Bn : B.get? a = none := by
          rcases skyX with ⟨_, q, _⟩ | q | q
          · exact q
          · exact q.2.1
          · exact q.2.1
        have y := nb a o z (fun hm => nfr (by rw [← stk]; exact hm))
        rw [Bn] at y
        cases y
    have s0none : X.s_0.heap.get? a = none := by
      cases z : X.s_0.heap.get? a with
      | none => rfl
      | some o =>
        obtain ⟨o2, y⟩ := JX.base.there a o z (by rw [hex]; simp)
        rw [sInone] at y
        cases y
    have pinNe : ∀ p, p ∈ X.pn ++ pins → p.1 ≠ a := fun p hp z => by
      have y := (JX.pin p hp).1
      rw [z, sInone] at y
      cases y
    have Sq := Jq.suite heq hdq naT nLoc nOut
    have LTy : PySem.W.Looks (model X.prog X.w) hq (typeOf (.ref a)) cls := fun A Q E s k q => wpAny_typeOf_ref (k _ _ heq) (hzq.1 ▸ q)
    have go : ∀ (hs : List ExceptHandler) (l : List (Value × (Addr → Value → Option Addr → TS))), HdsAs X n hs l → wAss X.K i Wout D l cls d σT HT → wpAny (model X.prog X.w) X.A (handleBy (Value.ref a) X.env hs) (SP X pins D) X.xe { s' with heap := hq } := by
      intro hs l hk
      induction hk with
      | nil =>
        intro wout
        refine wpAny_handleBy_nil ?_
        obtain ⟨z1, z2, z3, oe, vs, T1, oT1, tsT, he, hz, hd, h1, hr1⟩ := id flq
        unfold PySem.passOn
        refine wpAny_bind (wpAny_field he hd h1 ?_)
        rw [if_neg (show ¬ ((Value.ref T1 == Value.none) = true) by simp)]
        have fin : wpAny (model X.prog X.w) X.A (setFlight (.ref a) X.env.frame) (fun _ s4 => wpAny (model X.prog X.w) X.A (throw (.ref a) : Sem Flow) (SP X pins D) X.xe s4) X.xe { s' with heap := hq } := by
          rw [frm]
          exact HandSPX.setFlight_upZ flq fun h4 hh4 up4 => wpAny_throw (tko _ _ ⟨a, B, sI, pins, σT, HT, cls, d, rfl, JX, nb, (upT.trans upq).trans up4, .inr (.inr (by rw [stk]; exact hh4)), naT, osT, agT, wout⟩)
        first
          | exact wpAny_bind (wpAny_pure (wpAny_bind fin))
          | exact wpAny_bind fin
      | @cons x c ts b₀ suite np pos' hs l nms hsuite hrest ih =>
        intro wl
        obtain ⟨b, hcl, hyes, hno⟩ := wl
        refine wpAny_handleBy_cons (codeAny_handlers_test ?_) (by rintro ⟨⟩)
        have LEx := PySem.W.exm_one (M := model X.prog X.w) Jq.kIn LTy hcl
        have tst : ∀ {Q : Value → Shared → Prop} {E : Value → Shared → Prop}, Q c { s' with heap := hq } → wpAny (model X.prog X.w) (X.A.mark (some (.ref a))) (eval (.Name x np) X.env) Q E { s' with heap := hq } := fun {Q E} q => by
          obtain ⟨g1, g2, g3 | ⟨g3, g4, g5⟩⟩ := nms
          · exact ld_glob (X := X.suite a ((a, oeq) :: (X.pn ++ pins))) Sq g1 g3 q g2
          · exact ld_blt (X := X.suite a ((a, oeq) :: (X.pn ++ pins))) Sq g1 g3 g4 q g5 g2
        refine tst (LEx.here ?_)
        cases b with
        | true =>
          refine codeAny_handlers_suite_as (HandSPX.lands_againZ flq fun hr flr upr => ?_)
          have Jr : Inv X pins σT HT { s' with heap := hr } := JX.landed nb flr.1 ((upT.trans upq).trans upr) osT agT
          obtain ⟨oer, vsr, her, hzr, hdr⟩ := flr.there
          have Sr := Jr.suite her hdr naT nLoc nOut
          refine store_ok (X := X.suite a ((a, oer) :: (X.pn ++ pins))) (v := V.ref a) Sr nd atI locN rfl (fun s5 S5 => ?_) (Or.inr lcl)
          refine wpAny_mono ((hsuite a oer cls d (X.pn ++ pins) hzr ⟨_, hdr⟩).run [] s5 _ HT _ S5 (hyes rfl a naT)) (fun fl s6 out => ?_) (fun _ _ z => z.elim)
          have leave : ∀ {σ6 : L2.St} {H6 : Hp} {Q : Shared → Prop}, Inv (X.suite a ((a, oer) :: (X.pn ++ pins))) [] σ6 H6 s6 → (∀ s7, Inv X pins (σ6.set i none) H6 s7 → Q s7) →
              wpAny (model X.prog X.w) X.A (do bindName X.env n .none; unbindBehindTheSuite X.env n pos') (fun _ s7 => Q s7) X.xe s6 := fun {σ6 H6 Q} S6 hQ => by
            have S7 : Inv X ((a, oer) :: pins) σ6 H6 s6 := ⟨okX, S6.os, S6.bare, S6.base, S6.loc, S6.cell, S6.free, S6.freeC, fun p hp => S6.pin p (by
              rw [List.append_nil]
              rcases List.mem_append.mp hp with z | z
              · exact List.mem_cons_of_mem _ (List.mem_append_left _ z)
              · rcases List.mem_cons.mp z with y | y
                · rw [y]
                  exact List.mem_cons_self
                · exact List.mem_cons_of_mem _ (List.mem_append_right _ y)), S6.hok, S6.len⟩
            exact gone_ok S7 nd atI lcl fun s7 J7 => hQ s7 (dropPin J7)
          cases fl with
          | next =>
            obtain ⟨σ6, H6, S6, q6⟩ := out
            exact leave S6 fun s7 J7 => ⟨_, _, J7, q6⟩
          | brk =>
            obtain ⟨σ6, H6, S6, q6⟩ := out
            exact leave S6 fun s7 J7 => ⟨_, _, J7, q6⟩
          | cont =>
            obtain ⟨σ6, H6, S6, q6⟩ := out
            exact leave S6 fun s7 J7 => ⟨_, _, J7, q6⟩
          | ret u =>
            obtain ⟨v6, σ6, H6, S6, r6, q6⟩ := out
            exact leave S6 fun s7 J7 => ⟨_, _, _, J7, r6, q6⟩
        | false => exact ih (hno rfl)
    exact go _ _ hh wl
  · cases fl with
    | next =>
      obtain ⟨σ1, H1, J1, q1⟩ := done
      exact wpAny_execs_nil ⟨σ1, H1, J1.ofTry okX, q1⟩
    | brk =>
      obtain ⟨σ1, H1, J1, q1⟩ := done
      exact ⟨σ1, H1, J1.ofTry okX, q1⟩
    | cont =>
      obtain ⟨σ1, H1, J1, q1⟩ := done
      exact ⟨σ1, H1, J1.ofTry okX, q1⟩
    | ret u =>
      obtain ⟨v1, σ1, H1, J1, r1, q1⟩ := done
      exact ⟨v1, σ1, H1, J1.ofTry okX, r1, q1⟩
end
end Wx

namespace Wx
open PySem PySem.Spec PyProof.Rows L2 NdefX
/-! a list comprehension from which an exception may leave -/
/-- in the air over the frames l, the frame L at work: sI is the state without it -/
def Aloft (stk : List Env) (L : Addr) (sI : Shared) (H : Hp) (E : XK) (u : Value) (s' : Shared) : Prop :=
  ∃ (a : Addr) (B : Heap) (cls : Value) (d : Option Addr), u = .ref a ∧ (∀ b o, sI.heap.get? b = some o → b ∉ frs stk → B.get? b = some o) ∧ sI.heap.UpToSlots s'.heap ∧
    Sky B stk a (Zc cls d) L s'.heap ∧ H a = none ∧ s'.os = sI.os ∧ AllBare s'.gens ∧ E cls d H
/-- what is let out at the slots σ is taken -/
structure Air (X : Cx) (σ : L2.St) (E : XK) : Prop where
  ex : ∃ (ev : Env) (outer : List Env) (L : Addr), X.stack = ev :: outer ∧ ev.frame = some L ∧ X.env.frame = some L ∧
    ∀ (pins : List (Addr × Obj)) (H : Hp) (sI : Shared) (u : Value) (s' : Shared), Inv X pins σ H sI → Aloft X.stack L sI H E u s' → X.xe u s'
section
variable {X : Cx} {pins : List (Addr × Obj)} {σ : L2.St} {H : Hp} {s s' : Shared} {E : XK} {W : WX}
theorem air_of {σ : L2.St} (tk : Takes X W) (hs : X.stack = X.env :: X.outer) (hf : X.env.frame = some X.env.locals) : Air X σ (WE W σ) :=
  ⟨X.env, X.outer, X.env.locals, hs, hf, hf, fun pins H sI u s' I ⟨a, B, cls, d, e, nb, up, sky, na, os, ag, w⟩ => tk u s' ⟨a, B, sI, pins, σ, H, cls, d, e, I, nb, up, sky, na, os, ag, w⟩⟩
theorem Air.pass (x : Air X σ E) : PassesAt (L2.CX X.prog X.w) X σ E := fun pins H s u s' I c => by
  obtain ⟨ev, outer, L, hs, hf, hg, k⟩ := x.ex
  obtain ⟨a, B, H', cls, d, rfl, fl, hok, ub, na, os, ag, hE⟩ := c
  obtain ⟨G, g1, g2⟩ := restrict s'.heap fun b => (B.get? b).isSome || decide (b ∈ frs X.stack)
  have st : B.StaysIn s'.heap := fl.1
  have gB : ∀ b o, B.get? b = some o → G.get? b = some o := fun b o e => by
    have q : ((B.get? b).isSome || decide (b ∈ frs X.stack)) = true := by rw [e]; rfl
    exact (g1 b q).trans (st b o e)
  have gF : ∀ b, b ∈ frs X.stack → G.get? b = s'.heap.get? b := fun b hb => g1 b (by rw [decide_eq_true hb, Bool.or_true])
  have back : ∀ b o, G.get? b = some o → s'.heap.get? b = some o ∧ ((B.get? b).isSome = true ∨ b ∈ frs X.stack) := fun b o e => by
    by_cases q : ((B.get? b).isSome || decide (b ∈ frs X.stack)) = true
    · rw [g1 b q] at e
      refine ⟨e, ?_⟩
      rcases Bool.or_eq_true_iff.mp q with y | y
      · exact .inl y
      · exact .inr (of_decide_eq_true y)
    · rw [g2 b (Bool.eq_false_iff.mpr q)] at e
      cases e
  have I1 : Inv X pins σ H' { s with heap := G, gens := s'.gens, drawn := s'.drawn, toks := s'.toks } := by
    refine I.call (ch := []) ⟨fun b o e n hb _ => gB b o (ub.keep b o e n hb), fun b o e n hb _ => ?_, fun b o e n _ => ub.free b o e n, fun b o e _ => ?_, ub.tups, ub.frzs, ub.tbls⟩ (hok.kept gB) ag (fun _ z => nomatch z)
    · obtain ⟨sl, q⟩ := ub.slot b o e hb
      exact ⟨sl, (gF b hb).trans q⟩
    · by_cases hb : b ∈ frs X.stack
      · obtain ⟨sl, q⟩ := ub.slot b o e hb
        exact ⟨_, (gF b hb).trans q⟩
      · obtain ⟨o', q⟩ := ub.there b o e hb
        exact ⟨o', gB b o' q⟩
  refine k pins H' _ _ _ I1 ⟨a, B, cls, d, rfl, fun b o e hb => ?_, Heap.UpToSlots.of_keeps fun b o e => (back b o e).1, .inr (.inl fl), na, os, ag, hE⟩
  obtain ⟨e1, e2 | e2⟩ := back b o e
  · obtain ⟨o', q⟩ := Option.isSome_iff_exists.mp e2
    have z := (st b o' q).symm.trans e1
    cases z
    exact q
  · exact absurd e2 hb
end
theorem passNo {X : Cx} (σ : L2.St) : PassesAt (L2.CX X.prog X.w) X σ ((fun _ _ _ _ => False : L2.St → XK) σ) := fun _ _ _ _ _ _ c => by
  obtain ⟨_, _, _, _, _, _, _, _, _, _, _, _, hE⟩ := c
  exact hE.elim
theorem funFrames_step {h h2 B B' : Heap} : ∀ {l : List Env}, h.FunFrames B l → (∀ b, B.get? b = none → B'.get? b = none) → (∀ b o, B.get? b = none → h.get? b = some o → h2.get? b = some o) → h2.FunFrames B' l
  | [], _, _, _ => trivial
  | env :: l, hl, k1, k2 => by
    obtain ⟨hk, ⟨L, o, hf, hn, ho, hd⟩, hr⟩ := hl
    exact ⟨hk, ⟨L, o, hf, k1 _ hn, k2 _ _ hn ho, hd⟩, funFrames_step hr k1 k2⟩
theorem note_same {e : Value} {e1 e2 : Env} (h : e1.frame = e2.frame) : noteFrame e e1 = noteFrame e e2 := by
  unfold noteFrame PySem.frameOf
  rw [h]
section
variable {M : Model} {A : Around} {E : Value → Shared → Prop} {s : Shared} {env : Env}
/-- behind a block: let go of its names; an exception goes on by the block's own environment -/
def postX (M : Model) (A : Around) (E : Value → Shared → Prop) (use : Option (Value → Sem Unit)) (Q : Value → Shared → Prop) (acc : Value) (cenv : Env) (r : Result) (s' : Shared) : Prop :=
  match r, use with
  | .ok _, none => ∃ m, s'.heap.Ns cenv.locals m ∧ ∀ h', Heap.SameBut cenv.locals s'.heap h' → Q acc { s' with heap := h' }
  | .ok _, some u => wpAny M A (u acc) (fun _ s'' => ∃ m, s''.heap.Ns cenv.locals m ∧ ∀ h', Heap.SameBut cenv.locals s''.heap h' → Q .none { s'' with heap := h' }) E s'
  | .error x, _ => ∃ m, s'.heap.Ns cenv.locals m ∧ ∀ h', Heap.SameBut cenv.locals s'.heap h' → wpAny M A (passOn "comprehension.variables-let-go" x cenv : Sem Value) (fun _ _ => False) E { s' with heap := h' }
theorem comprehension_freeX {e : Expr} {scope : Scope} {pos : Pos} {newAcc first : Sem Value} {g : Comprehension} {gs : List Comprehension} {cl : List (Str × Addr)} {use : Option (Value → Sem Unit)}
    {Q : Value → Shared → Prop}
    (hcl : clausesOf e = g :: gs) (hs : ∀ x, foldedSetIterable g.iter env x = pure x) (hclos : closureFor scope env = pure cl)
    (hkind : scope.kind = .function) (hnames : ∀ x ∈ scope.names, x.2 = .local → scope.names.lookup x.1 = some .local)
    (h : wpAny M A first (fun x s₁ => wpAny M A (pyIter x) (fun it s₂ => wpAny M A newAcc (fun acc s₃ =>
      wpAny M A (newFunctionEnv scope env.globals cl [] env.qual none .none (some env)) (fun cenv s₄ =>
        codeAny M A (.compStart e 0 it acc { cenv with scope := relabel scope env }) (postX M A E use Q acc { cenv with scope := relabel scope env }) s₄) E s₃) E s₂) E s₁) E s) :
    wpAny M A (comprehension e scope env pos newAcc false first use) Q E s := by
  unfold comprehension
  rw [hclos, hcl]
  refine wpAny_bind (wpAny_mono h (fun x s₁ h₁ => wpAny_bind (wpAny_standAt (wpAny_bind (wpAny_of_eq (hs x) (wpAny_bind (wpAny_holding (wpAny_mono h₁ (fun it s₂ h₂ =>
    wpAny_standIf (wpAny_bind (wpAny_mono h₂ (fun acc s₃ h₃ => wpAny_bind (wpAny_pure (wpAny_bind (wpAny_mono h₃ (fun cenv s₄ h₄ => ?_) fun _ _ h' => h')))) fun _ _ h' => h')))
      fun _ _ h' => h'))))))) fun _ _ h' => h')
  dsimp only
  have hv : ∀ x ∈ (scope.names.filter fun x => (x.2 == .local || x.2 == .cell) && x.1 != (".0" : Str)).reverse, x.2 = .local →
      Env.kindOf { cenv with scope := relabel scope env } x.1 = some .local := fun x hx hl => lookup_relabel_local (hnames x (List.mem_filter.mp (List.mem_reverse.mp hx)).1 hl)
  have hv' : ∀ x ∈ (scope.names.filter fun x => (x.2 == .local || x.2 == .cell) && x.1 != (".0" : Str)).reverse.drop 1 ++ (scope.names.filter fun x => (x.2 == .local || x.2 == .cell) && x.1 != (".0" : Str)).reverse.take 1,
      x.2 = .local → Env.kindOf { cenv with scope := relabel scope env } x.1 = some .local := fun x hx hl => by
    rcases List.mem_append.mp hx with h1 | h1
    · exact hv x (List.mem_of_mem_drop h1) hl
    · exact hv x (List.mem_of_mem_take h1) hl
  refine wpAny_holding (wpAny_bind (wpAny_attempt (wpAny_holding (wpAny_run (codeAny_mono h₄ fun r s' hr => ?_)))))
  cases r with
  | ok f =>
    cases use with
    | none =>
      obtain ⟨m, hn, hr⟩ := hr
      exact wpAny_bind (wpAny_holding (wpAny_comp_letGo (cenv := { cenv with scope := relabel scope env }) hkind _ s' m hv hn fun h' m' _ hs' => wpAny_pure (hr h' hs')))
    | some u =>
      refine wpAny_bind (wpAny_rule (wpAny_bind (wpAny_holding (wpAny_mono hr (fun _ s'' hr' => ?_) fun _ _ h' => h'))))
      obtain ⟨m, hn, hr'⟩ := hr'
      exact wpAny_bind (wpAny_comp_letGo (cenv := { cenv with scope := relabel scope env }) hkind _ s'' m hv' hn fun h' m' _ hs' => wpAny_pure (hr' h' hs'))
  | error x =>
    have hr' : ∃ m, s'.heap.Ns cenv.locals m ∧ ∀ h', Heap.SameBut cenv.locals s'.heap h' → wpAny M A (passOn "comprehension.variables-let-go" x { cenv with scope := relabel scope env } : Sem Value) (fun _ _ => False) E { s' with heap := h' } := by cases use <;> exact hr
    obtain ⟨m, hn, hr⟩ := hr'
    exact wpAny_bind (wpAny_holding (wpAny_comp_letGo (cenv := { cenv with scope := relabel scope env }) hkind _ s' m hv hn fun h' m' _ hs' => wpAny_mono (hr h' hs') (fun _ _ f => f.elim) fun _ _ y => y))
end
section
variable {X : Cx}
theorem lc_coreX {E : L2.St → XK} {pins : List (Addr × Obj)} {s : Shared} {σ : L2.St} {H : Hp} {Q : VK} {elt tg iter : Expr} {ifs : List Expr} {scope : Scope} {own : List (Str × Nat)} {pos pos' : Pos} {wi : TI} {g : TG} {tt : TT} {te : XK → TE} {Qf : Value → Shared → Prop}
    (hc : X.calm = true) (hN : X.N.Nodup) (I : Inv X pins σ H s) (hi : PI X tg iter wi) (ok : BlkOk X.N X.env.scope scope own)
    (hg : ∀ (s : Shared) (H : Hp) (C : Addr) (cl : List (Str × Addr)) (fp : List Addr), PG (X.blk s H scope (compEnvC scope cl C X.env) fp) tg g) (ht : ∀ (s : Shared) (H : Hp) (C : Addr) (cl : List (Str × Addr)) (fp : List Addr), PTs (X.blk s H scope (compEnvC scope cl C X.env) fp) ifs tt)
    (air : Air X σ (E σ)) (he : ∀ (s : Shared) (H : Hp) (C : Addr) (cl : List (Str × Addr)) (fp : List Addr) (xe : Value → Shared → Prop) (E1 : XK), (∀ σ1, Air ((X.blk s H scope (compEnvC scope cl C X.env) fp).wish xe) σ1 E1) → PE ((X.blk s H scope (compEnvC scope cl C X.env) fp).wish xe) elt (te E1)) (hs : ∀ x, foldedSetIterable iter X.env x = pure x)
    (h : tLc wi g tt (te (E σ)) (own.map (·.2)) σ H Q)
    (hRR : ∀ D C s' m H', Inv X pins σ H' s' → Q (.ref D) H' → s'.heap.Ns C m → FpOk X pins H' C → compPost (model X.prog X.w) X.A X.xe none Qf (.ref D) C (.ok .next) s') :
    wpAny (model X.prog X.w) X.A (comprehension (.ListComp elt [⟨tg, iter, ifs, 0⟩] scope pos) scope X.env pos' (newList []) false (eval iter X.env) none) Qf X.xe s := by
  have hfree : ∀ y ∈ scope.names, y.2 = .free → ∃ c, X.env.cells.lookup y.1 = some c := fun y hy e => by
    rcases ok.free y hy e with k | k
    · exact I.ok.has _ (.inl k)
    · exact I.ok.has _ (.inr k)
  refine comprehension_freeX (use := none) rfl hs (closure_ok hfree) ok.kind (fun y hy e => by rw [ok.uniq y hy, e])
    (thn (hi.run pins s σ H _ I h) fun xv s1 hx => thn hx fun itv s2 h2 => ?_)
  obtain ⟨it, fp, tn, J, H2, e, I2, T, st2, f2, q⟩ := h2
  subst e
  refine wpAny_newObj_type (newEnv_comp ?_) (by show 0 ≤ sizeLine; decide)
  generalize hD : s2.heap.objs.size = D
  have hDn : H2 D = none := I2.hok.fresh (Nat.le_of_eq hD)
  obtain ⟨W, ⟨m0, w0⟩, turn⟩ := q D hDn
  -- the new list
  generalize hs3 : ({ s2 with heap := s2.heap.push { cls := .type "list", data := .seq ([] : List Value).toArray } } : Shared) = s3
  have I3 : Inv X pins σ (upd H2 D (.lst [])) s3 := by
    rw [← hs3]
    refine I2.laid (t' := s2.toks) (fun b o e => Heap.get?_push_of_some _ e) (Nat.le_of_eq hD) ⟨Nat.zero_le _, [], 0, .nil, ?_⟩
    rw [← hD]
    exact Heap.get?_push_size _ rfl
  have h3 : s3.heap = s2.heap.push { cls := .type "list", data := .seq ([] : List Value).toArray } := by rw [← hs3]
  have sz : ∀ b ∈ fp, b < s2.heap.objs.size := fun b hb => by
    obtain ⟨o, e, _⟩ := T.obj _ _ st2 b hb
    exact Heap.lt_size e
  have f3 : ∀ b ∈ fp, FpOk X pins (upd H2 D (.lst [])) b ∧ b < s3.heap.objs.size := fun b hb => by
    have hlt := sz b hb
    refine ⟨⟨?_, (f2 b hb).2⟩, by rw [h3, Heap.size_push]; exact Nat.lt_succ_of_lt hlt⟩
    rw [upd_ne (by rw [← hD]; exact Nat.ne_of_lt hlt)]
    exact (f2 b hb).1
  have st3 : tn 0 s3.heap := T.keep _ _ _ st2 fun b _ o e => by rw [h3]; exact Heap.get?_push_of_some _ e
  have I4 := block_start I3 ok hN f3
  have pg := hg s3 (upd H2 D (.lst [])) s3.heap.objs.size (cellsFrom (s3.heap.objs.size + 1) scope.names (cloFrom X.env.cells scope.names [])) fp
  have pt := ht s3 (upd H2 D (.lst [])) s3.heap.objs.size (cellsFrom (s3.heap.objs.size + 1) scope.names (cloFrom X.env.cells scope.names [])) fp
  have pe := he s3 (upd H2 D (.lst [])) s3.heap.objs.size (cellsFrom (s3.heap.objs.size + 1) scope.names (cloFrom X.env.cells scope.names [])) fp
  have cF : (compEnvC scope (cellsFrom (s3.heap.objs.size + 1) scope.names (cloFrom X.env.cells scope.names [])) s3.heap.objs.size X.env).frame = X.env.frame := rfl
  show codeAny _ _ (.compStart (.ListComp elt [⟨tg, iter, ifs, 0⟩] scope pos) 0 (.ref it) (.ref D) (compEnvC scope (cellsFrom (s3.heap.objs.size + 1) scope.names (cloFrom X.env.cells scope.names [])) s3.heap.objs.size X.env)) (postX (model X.prog X.w) X.A X.xe none Qf (.ref D) (compEnvC scope (cellsFrom (s3.heap.objs.size + 1) scope.names (cloFrom X.env.cells scope.names [])) s3.heap.objs.size X.env)) { s3 with heap := pushCells (s3.heap.push { cls := .type "dict", data := .dict #[] }) scope.names }
  have nfp : ∀ b ∈ fp, (upd H2 D (.lst [])) b = none := fun b hb => (f3 b hb).1.1
  generalize hce : compEnvC scope (cellsFrom (s3.heap.objs.size + 1) scope.names (cloFrom X.env.cells scope.names [])) s3.heap.objs.size X.env = ce at I4 pg pt pe cF ⊢
  have cL : ce.locals = s3.heap.objs.size := by subst hce; rfl
  generalize hH3 : upd H2 D (.lst []) = H3 at I3 I4 pg pt pe w0 nfp f3
  generalize hs4 : ({ s3 with heap := pushCells (s3.heap.push { cls := .type "dict", data := .dict #[] }) scope.names } : Shared) = s4 at I4 ⊢
  have st4 : tn 0 s4.heap := T.keep _ _ _ st3 fun b _ o e => by rw [← hs4]; exact pushCells_keeps _ _ _ _ (Heap.get?_push_of_some _ e)
  have stat : ∀ {σ' : L2.St} {H' : Hp} {s' : Shared}, Inv (X.blk s3 H3 scope ce fp) [] σ' H' s' → (∀ b ∈ fp, H' b = none) → ∀ b ∈ fp, FpOk (X.blk s3 H3 scope ce fp) [] H' b := fun {σ' H' s'} I' hn b hb =>
    ⟨hn b hb, (I'.ok.exf b hb).1, I'.ok.exfs b hb, .inl hb, fun x c e => (I'.ok.exf b hb).2 x c e, fun p hp => absurd (show p ∈ ([] : List (Addr × Obj)) ++ [] from hp) (by simp)⟩
  have loop : codeAny (model X.prog X.w) X.A (.compLoop (.ListComp elt [⟨tg, iter, ifs, 0⟩] scope pos) 0 (.ref it) (.ref D) ce) (postX (model X.prog X.w) X.A X.xe none Qf (.ref D) ce) s4 := by
    refine compLoop_any (fun n s' => ∃ i H', Inv (X.blk s3 H3 scope ce fp) [] (wipe σ (own.map (·.2))) H' s' ∧ tn i s'.heap ∧ (∀ b ∈ fp, H' b = none) ∧ W i n H') ?_ m0 ⟨0, H3, I4, st4, nfp, w0⟩
    rintro n s5 ⟨i, H5, I5, st5, n5, w5⟩
    rcases turn i n H5 w5 with ⟨stop, qq⟩ | ⟨go, Nx, hNx, step⟩
    · have td := T.done (X.blk s3 H3 scope ce fp) rfl rfl rfl hc i [] s5 _ H5 (fun _ _ => False) I5 (stat I5 n5) st5 stop
      refine thnF td fun r s6 ⟨hr, I6⟩ => ?_
      subst hr
      -- back in the def's context
      have I7 : Inv X pins σ H5 s6 := I3.call' (ch := fp) I6.os I6.base I6.hok I6.bare fun b hb => ⟨(f3 b hb).1.2.2.2.1, (f3 b hb).1.2.1, (f3 b hb).1.2.2.2.2.1, (f3 b hb).1.2.2.2.2.2⟩
      have nC : H5 s3.heap.objs.size = none := by
        have z : H5 ce.locals = none := I6.free
        rw [cL] at z
        exact z
      obtain ⟨m, hn, _⟩ := I6.loc
      have hn : s6.heap.Ns ce.locals m := hn
      rw [cL] at hn
      have hR := hRR D s3.heap.objs.size s6 m H5 I7 qq hn (I3.fpOk (Nat.le_refl _) nC)
      rw [← cL] at hR
      exact hR
    · have ti := T.item (X.blk s3 H3 scope ce fp) rfl rfl rfl hc i [] s5 _ H5 (fun _ _ => False) I5 (stat I5 n5) st5 go
      refine thnF ti fun r s6 ⟨u, hr, h6⟩ => ?_
      subst hr
      refine thnF h6 fun _ s7 ⟨x, H7, I7, r7, y7, st7, n7⟩ => ?_
      have I7' := I7.pinned (stat I7 n7) (T.obj _ _ st7)
      refine thnF (pg.run _ s7 _ H7 x u _ I7' r7 (step x H7 y7)) fun _ s8 ⟨σ8, H8, I8, hw8, q8⟩ => ?_
      refine thnF (pt.run _ s8 σ8 H8 _ I8 q8) fun b s9 ⟨H9, I9, q9⟩ => ?_
      -- the turn's end
      have fin : ∀ {s' : Shared} {H' : Hp}, Inv (X.blk s3 H3 scope ce fp) ([] ++ pinsAt fp s7.heap) σ8 H' s' → Nx H' → ∃ m, m < n ∧ ∃ i H', Inv (X.blk s3 H3 scope ce fp) [] (wipe σ (own.map (·.2))) H' s' ∧ tn i s'.heap ∧ (∀ b ∈ fp, H' b = none) ∧ W i m H' := fun {s' H'} I' nx => by
        obtain ⟨m', hm, w'⟩ := hNx H' nx
        have pin' : ∀ b ∈ fp, ∀ o, s7.heap.get? b = some o → s'.heap.get? b = some o ∧ H' b = none := fun b hb o e =>
          let z := I'.pin (b, o) (List.mem_append_right _ (List.mem_append_right _ (mem_pinsAt hb e)))
          ⟨z.1, z.2.1⟩
        have hl : (wipe σ (own.map (·.2))).length = σ8.length := by rw [← hw8, wipe_length]
        refine ⟨m', hm, i + 1, H', (I'.unpinned (pins := [])).weak hl (fun j v e => ?_), T.keep _ _ _ st7 fun b hb o e => (pin' b hb o e).1, fun b hb => ?_, w'⟩
        · rw [← hw8] at e
          exact (wipe_some e).1
        · obtain ⟨o, e, _⟩ := T.obj _ _ st7 b hb
          exact (pin' b hb o e).2
      cases b with
      | false =>
        simp only [Bool.false_eq_true, if_false] at q9 ⊢
        exact fin I9 q9
      | true =>
        simp only [if_true] at q9 ⊢
        obtain ⟨ev, outer, L, hstk, hfr, hXf, kx⟩ := air.ex
        refine wpAny_mono ((pe (fun u s' => ∃ H' sI, Inv X pins σ H' sI ∧ (∃ m, sI.heap.Ns ce.locals m) ∧ H' ce.locals = none ∧ Aloft X.stack L sI H' (E σ) u s') (E σ) (fun σ1 => ⟨ev, outer, L, hstk, hfr, cF.trans hXf, fun pins1 H1 sI u s' I1 al => ?_⟩)).run _ s9 σ8 H9 _ (I9.wish _) q9) (fun z s10 ⟨yv, H10, I10, r10, acc, hD10, hz10, nx⟩ => ?_) (fun u s10 hx => ?_)
        · have I1' := I1.unwish
          obtain ⟨m, hn, _⟩ := I1'.loc
          exact ⟨H1, sI, I3.call' (ch := fp) I1'.os I1'.base I1'.hok I1'.bare fun b hb => ⟨(f3 b hb).1.2.2.2.1, (f3 b hb).1.2.1, (f3 b hb).1.2.2.2.2.1, (f3 b hb).1.2.2.2.2.2⟩, ⟨m, hn⟩, I1'.free, al⟩
        · exact app_ok (X := X.blk s3 H3 scope ce fp) I10.unwish hD10 hz10 r10 fun s11 I11 => fin I11 nx
        · obtain ⟨H', sI, JX, ⟨m, hn⟩, nC, a, B, cls, d, rfl, nb, up, sky, na, os, ag, w⟩ := hx
          have fpC : FpOk X pins H' ce.locals := I3.fpOk (by rw [cL]; exact Nat.le_refl _) nC
          obtain ⟨f0, f1, f2, f3', f4, f5⟩ := fpC
          have frA : X.A.frames = some (ev :: outer) := I3.ok.frames.trans (congrArg some hstk)
          have cNot : ce.locals ∉ frs X.stack := fun hm => by
            rcases List.mem_cons.mp (I3.stkSub _ hm) with z | z
            · exact f1 z
            · exact f2 z
          show wpAny _ X.A (noteFrame (Value.ref a) ce) _ _ _
          rw [note_same (e2 := ev) (by rw [cF, hXf, hfr])]
          -- noted by the frame
          have held : ∀ {Q : Unit → Shared → Prop} {E' : Value → Shared → Prop}, (∀ h1, HandSPX.HeldZ B (ev :: outer) a (Zc cls d) L h1 → s10.heap.UpToSlots h1 → Q () { s10 with heap := h1 }) → wpAny (model X.prog X.w) X.A (noteFrame (.ref a) ev) Q E' s10 := fun {Q E'} k => by
            rw [hstk] at sky
            rcases sky with ⟨hB, hn, hl, oe, vs, he, hz, hd, h1⟩ | fl | hh
            · exact HandSPX.look_newZ Zc.steady frA hl hfr he hB hn hd h1 hz k
            · exact HandSPX.looks_onZ Zc.steady frA hfr fl k
            · exact HandSPX.againZ hfr hh.2.2.2 (k s10.heap hh (Heap.UpToSlots.refl _))
          refine held fun h1 hh1 up1 => ?_
          have upH : sI.heap.UpToSlots h1 := up.trans up1
          refine ⟨m, upH.ns hn, fun h2 sb2 => ?_⟩
          -- the ground without the block's names
          obtain ⟨B', b1, b2⟩ := restrict B fun b => decide (b ≠ ce.locals)
          obtain ⟨G, g1, g2⟩ := restrict sI.heap fun b => decide (b ≠ ce.locals)
          have bB : ∀ b o, B'.get? b = some o → b ≠ ce.locals ∧ B.get? b = some o := fun b o e => by
            by_cases q : b = ce.locals
            · rw [b2 b (by simp [q])] at e
              cases e
            · exact ⟨q, by rw [b1 b (by simp [q])] at e; exact e⟩
          have gG : ∀ b o, G.get? b = some o → b ≠ ce.locals ∧ sI.heap.get? b = some o := fun b o e => by
            by_cases q : b = ce.locals
            · rw [g2 b (by simp [q])] at e
              cases e
            · exact ⟨q, by rw [g1 b (by simp [q])] at e; exact e⟩
          obtain ⟨k1, k2, k3, oe, vs, T1, oT1, ts, he1, hz1, hd1, hv1, hbT, hTa, hT1, hdT, hfl⟩ := hh1
          obtain ⟨oC, es, ep, hoC, hdC, _⟩ := hn
          have BC : B.get? ce.locals = some oC := nb _ _ hoC cNot
          have aC : a ≠ ce.locals := fun z => by rw [z] at k2; rw [k2] at BC; cases BC
          have TC : T1 ≠ ce.locals := fun z => by rw [z] at hbT; rw [hbT] at BC; cases BC
          have sb : ∀ b, b ≠ ce.locals → h2.get? b = h1.get? b := sb2.2
          have B'a : B'.get? a = none := by rw [b1 a (by simp [aC])]; exact k2
          have B'T : B'.get? T1 = none := by rw [b1 T1 (by simp [TC])]; exact hbT
          have fF : h2.FunFrames B' (ev :: outer) := funFrames_step k3 (fun b q => by
              cases z : B'.get? b with
              | none => rfl
              | some o =>
                rw [(bB b o z).2] at q
                cases q) fun b o q e => (sb b (fun z => by rw [z, BC] at q; cases q)).trans e
          have kB : B'.StaysIn h2 := fun b o e => (sb b (bB b o e).1).trans (k1 b o (bB b o e).2)
          have he2 : h2.get? a = some oe := (sb a aC).trans he1
          have hh2 : HandSPX.HeldZ B' (ev :: outer) a (Zc cls d) L h2 := ⟨kB, B'a, fF, oe, vs, T1, oT1, ts, he2, hz1, hd1, hv1, B'T, hTa, (sb T1 TC).trans hT1, hdT, hfl⟩
          unfold PySem.passOn
          refine wpAny_bind (wpAny_field he2 hd1 hv1 ?_)
          rw [if_neg (show ¬ ((Value.ref T1 == Value.none) = true) by simp)]
          have fin2 : wpAny (model X.prog X.w) X.A (setFlight (.ref a) ce.frame) (fun _ s4 => wpAny (model X.prog X.w) X.A (throw (.ref a) : Sem Value) (fun _ _ => False) X.xe s4) X.xe { s10 with heap := h2 } := by
            rw [cF, hXf]
            refine HandSPX.setFlight_onZ hh2 fun h4 hh4 up4 => wpAny_throw ?_
            refine kx pins H' { sI with heap := G } _ _ (JX.turned (t' := sI.toks) (fun b o hb e => (g1 b (by simp [hb])).trans e) f0 f1 f3' f4 f5) ⟨a, B', cls, d, rfl, fun b o e hb => ?_, ?_, ?_, na, os, ag, w⟩
            · obtain ⟨q1, q2⟩ := gG b o e
              exact (b1 b (by simp [q1])).trans (nb b o q2 hb)
            · refine Heap.UpToSlots.trans (fun b o e nf => ?_) up4
              obtain ⟨q1, q2⟩ := gG b o e
              obtain ⟨sl, q3⟩ := upH b o q2 nf
              exact ⟨sl, (sb b q1).trans q3⟩
            · rw [hstk]
              exact .inr (.inr hh4)
          first
            | exact wpAny_bind (wpAny_pure (wpAny_bind fin2))
            | exact wpAny_bind fin2
  exact codeAny_compStart_list loop (T.self X.A 0 _ _ _ st4 loop)
/-- [elt for target in iter if ..]; what elt lets out is let out -/
theorem pe_lcX {E : L2.St → XK} {elt tg iter : Expr} {ifs : List Expr} {scope : Scope} {own : List (Str × Nat)} {pos : Pos} {wi : TI} {g : TG} {tt : TT} {te : XK → TE} (air : ∀ σ, Air X σ (E σ)) (hc : X.calm = true) (hN : X.N.Nodup) (hi : PI X tg iter wi) (ok : BlkOk X.N X.env.scope scope own)
    (hg : ∀ (s : Shared) (H : Hp) (C : Addr) (cl : List (Str × Addr)) (fp : List Addr), PG (X.blk s H scope (compEnvC scope cl C X.env) fp) tg g) (ht : ∀ (s : Shared) (H : Hp) (C : Addr) (cl : List (Str × Addr)) (fp : List Addr), PTs (X.blk s H scope (compEnvC scope cl C X.env) fp) ifs tt)
    (he : ∀ (s : Shared) (H : Hp) (C : Addr) (cl : List (Str × Addr)) (fp : List Addr) (xe : Value → Shared → Prop) (E1 : XK), (∀ σ1, Air ((X.blk s H scope (compEnvC scope cl C X.env) fp).wish xe) σ1 E1) → PE ((X.blk s H scope (compEnvC scope cl C X.env) fp).wish xe) elt (te E1)) (hs : ∀ x, foldedSetIterable iter X.env x = pure x := by intro _; rfl) :
    PE X (.ListComp elt [⟨tg, iter, ifs, 0⟩] scope pos) (fun σ H Q => tLc wi g tt (te (E σ)) (own.map (·.2)) σ H Q) := by
  refine ⟨fun pins s σ H Q I h => ?_⟩
  rw [eval_ListComp]
  refine lc_coreX hc hN I hi ok hg ht (air σ) he hs h fun D C s' m H' I' q hn f => ⟨m, hn, fun h'' sb => ?_⟩
  obtain ⟨f0, f1, f2, f3, f4, f5⟩ := f
  exact ⟨.ref D, H', I'.turned (t' := s'.toks) (fun b o hb e => (sb.2 b hb).trans e) f0 f1 f3 f4 f5, rfl, q⟩
end
end Wx

namespace Wx
open PySem PySem.Spec PyProof.Rows L2 NdefX RZ
/-! walks over a list or a tuple; <= and str by own defs; tuples of ints compared -/
section
variable {X : Cx} {tg : Expr}
def iSeq (K : PySem.W.Frag) (tl : TE) : TI := fun σ H R => tl σ H fun x H1 => ∃ a xs, x = .ref a ∧ ((SqL K H1 a xs ∧ R (Itl K a) H1) ∨ (SqT K H1 a xs ∧ R (Itt K a) H1))
theorem pi_seq {l : Expr} {tl : TE} (hl : PE X l tl) : PI X tg l (iSeq X.K tl) := by
  refine ⟨fun pins s σ H R I h => ?_⟩
  refine thn (hl.run pins s σ H _ I h) fun v s1 ⟨x, H1, I1, r1, q1⟩ => ?_
  obtain ⟨a, xs, e, q⟩ := q1
  subst e
  cases r1
  have fresh : ∀ b ∈ [s1.heap.objs.size], FpOk X pins H1 b := fun b hb => by
    have e : b = s1.heap.objs.size := by simpa using hb
    subst e
    exact I1.fpOk (Nat.le_refl _) (I1.hok.fresh (Nat.le_refl _))
  rcases q with ⟨hq, q⟩ | ⟨hq, q⟩
  · obtain ⟨its, rv, p, hz⟩ := I1.list hq
    refine wpAny_pyIter_list p.isList ?_
    exact ⟨s1.heap.objs.size, [s1.heap.objs.size], _, _, H1, rfl, I1.kept (t' := s1.toks) fun b o e => Heap.get?_push_of_some _ e, turn_list a _, ⟨_, Heap.get?_push_size _ rfl, rfl, rfl⟩, fresh, q⟩
  · obtain ⟨its, rv, p, hz⟩ := I1.tuple hq
    refine wpAny_pyIter_tuple (show s1.heap.IsTuple a its.toArray from p) ?_
    exact ⟨s1.heap.objs.size, [s1.heap.objs.size], _, _, H1, rfl, I1.kept (t' := s1.toks) fun b o e => Heap.get?_push_of_some _ e, turn_tuple a _, ⟨_, Heap.get?_push_size _ rfl, rfl, rfl⟩, fresh, q⟩
end
section
variable {X : Cx} {CX : CXT} {C f : Addr} {n : Nat} {fd : FuncData} {ps : List Str} {sp : Sp} {E : XK}
theorem op_leI (F : FnOk X.prog X.w X.K X.mg X.base CX n f fd ps sp) (hr : Room n X.A) (hs : PySem.W.findIn X.K (.ref C) "__le__" = some (some (.ref f))) (hf : PySem.W.isFn X.K (.ref f) = true) (hb : Binds X.K fd ps []) (hx : Passes CX X E) : OpR X (compareOp .LtE) (rOwnI X.K C sp E id) := by
  intro pins s σ H x y v u Q I rx ry h
  obtain ⟨a, dx, fs, b, dy, gs, rfl, rfl, ha, hb', q⟩ := h
  cases (show v = Value.ref a from rx)
  cases (show u = Value.ref b from ry)
  obtain ⟨mA, J, _⟩ := ins_get I.hok ha
  obtain ⟨mB, J', _⟩ := ins_get I.hok hb'
  obtain ⟨od, J, _⟩ := J.look
  obtain ⟨od', J', _⟩ := J'.look
  obtain ⟨m, hF⟩ := I.fr
  show wpAny (model X.prog X.w) X.A (richCompare .LtE _ _) (EP X pins σ Q) X.xe s
  refine PySem.W.cmp_K (op := .LtE) (tb := .ref C) hr.units0 hF I.ok.mod.kin J J'.type (by simp [PySem.W.notFirst]) hs hf ?_
  refine wpAny_mono (run_two (us := [.ref a, .ref b]) (vs := [.ref a, .ref b]) F hr I.env0 hb hx I (.cons rfl (.cons rfl .nil)) q) (fun w s' z => ?_) fun _ _ x => x
  obtain ⟨z', H', I', rz, k, ez, qz⟩ := z
  subst ez
  cases (show w = Value.bool k from rz)
  exact ⟨.bl k, H', I', rfl, qz⟩
/-- str(x) by the class's own __str__ -/
theorem call_strOwn (F : FnOk X.prog X.w X.K X.mg X.base CX n f fd ps sp) (hr : Room (n + 2) X.A) (hs : PySem.W.findIn X.K (.ref C) "__str__" = some (some (.ref f))) (hf : PySem.W.isFn X.K (.ref f) = true) (hb : Binds X.K fd ps []) (hx : Passes CX X E) :
    CallR X (.type "str") (fun xs H Q => ∃ a dx fs, xs = [.ref a] ∧ H a = some (.ins C dx fs) ∧ sp xs H (fun z H' => ∃ t : Str, z = .str t ∧ Q z H') E) := by
  intro pins s σ H xs us Q I r h
  obtain ⟨a, dx, fs, rfl, ha, q⟩ := h
  obtain ⟨u, rfl, hu⟩ := vals1 r
  cases (show u = Value.ref a from hu)
  obtain ⟨mA, J, _⟩ := ins_get I.hok ha
  obtain ⟨od, J, _⟩ := J.look
  have hr1 : Room (n + 1) X.A.in1 := hr.in1
  have hr2 : Room n X.A.in1.in1 := hr1.in1
  refine PySem.W.kso_call hr2.units0 I.kIn J hs hf ?_
  refine wpAny_mono (run_two (us := [.ref a]) (vs := [.ref a]) F hr2 I.env0.in1.in1 hb hx I (.cons rfl .nil) q) (fun w s' z => ?_) fun _ _ x => x
  obtain ⟨z', H', I', rz, t, ez, qz⟩ := z
  subst ez
  obtain ⟨tk, rfl⟩ := rz
  exact ⟨.str t, H', I', ⟨_, rfl⟩, qz⟩
end
/-! ### data -/
theorem eqvAll_ints : ∀ (xs ys : List Int), PyData.eqvAll (xs.map PyData.int) (ys.map PyData.int) = decide (xs = ys)
  | [], [] => rfl
  | [], y :: ys => rfl
  | x :: xs, [] => rfl
  | x :: xs, y :: ys => by
    show (PyData.eqv (.int x) (.int y) && PyData.eqvAll (xs.map PyData.int) (ys.map PyData.int)) = _
    rw [eqvAll_ints xs ys]
    show ((x == y) && _) = _
    by_cases h : x = y
    · subst h
      by_cases h2 : xs = ys
      · subst h2
        simp
      · simp [h2]
    · have e : (x == y) = false := beq_eq_false_iff_ne.mpr h
      rw [e, Bool.false_and, decide_eq_false (fun q => h (by injection q))]
theorem eqv_intsT (xs ys : List Int) : PyData.eqv (.tuple (xs.map PyData.int)) (.tuple (ys.map PyData.int)) = decide (xs = ys) := eqvAll_ints xs ys
theorem eqv_intsL (xs ys : List Int) : PyData.eqv (.list (xs.map PyData.int)) (.list (ys.map PyData.int)) = decide (xs = ys) := eqvAll_ints xs ys
theorem lay_ints : ∀ xs : List Int, PyData.canLayAll0 (xs.map PyData.int) = true
  | [] => rfl
  | x :: xs => lay_ints xs
theorem depth_ints : ∀ xs : List Int, PyData.depthAll (xs.map PyData.int) ≤ 1
  | [] => by decide
  | x :: xs => by
    have ih := depth_ints xs
    simp only [List.map_cons, PyData.depthAll, PyData.depth]
    omega
theorem shaped_intsT (xs : List Int) : SeqAt.shaped (.tuple (xs.map PyData.int)) = true := by
  have h := depth_ints xs
  show (PyData.canLay0 (.tuple (xs.map PyData.int)) && decide ((PyData.tuple (xs.map PyData.int)).depth ≤ 64)) = true
  rw [Bool.and_eq_true]
  refine ⟨by simp only [PyData.canLay0]; exact lay_ints xs, decide_eq_true ?_⟩
  simp only [PyData.depth]
  omega
theorem shaped_intsL (xs : List Int) : SeqAt.shaped (.list (xs.map PyData.int)) = true := by
  have h := depth_ints xs
  show (PyData.canLay0 (.list (xs.map PyData.int)) && decide ((PyData.list (xs.map PyData.int)).depth ≤ 64)) = true
  rw [Bool.and_eq_true]
  refine ⟨by simp only [PyData.canLay0]; exact lay_ints xs, decide_eq_true ?_⟩
  simp only [PyData.depth]
  omega
theorem dpAll_ints {K : PySem.W.Frag} {H : Hp} : ∀ xs : List Int, DpAll K H (xs.map V.int) (xs.map PyData.int)
  | [] => .nil
  | x :: xs => .cons (.int x) (dpAll_ints xs)
theorem dp_intsT {K : PySem.W.Frag} {H : Hp} {a : Addr} {xs : List Int} (h : SqT K H a (xs.map V.int)) : Dp K H (.ref a) (.tuple (xs.map PyData.int)) := .tup h (dpAll_ints xs)
theorem dp_intsL {K : PySem.W.Frag} {H : Hp} {a : Addr} {xs : List Int} (h : SqL K H a (xs.map V.int)) : Dp K H (.ref a) (.list (xs.map PyData.int)) := .lst h (dpAll_ints xs)
theorem walk_zipT {K : PySem.W.Frag} {a b : Addr} {xs ys : List V} {n : Nat} (hn : n = min xs.length ys.length) : Walk (ItzT K a b) n (fun H => SqT K H a xs ∧ SqT K H b ys) (YPair (fun i => xs[i]?) (fun i => ys[i]?)) := by
  subst hn
  refine ⟨fun i _ hi q => ?_, fun _ q => ⟨xs, ys, q.1, q.2, by omega⟩, fun i H v H' _ q y => ?_⟩
  · have h1 : i < xs.length := by omega
    have h2 : i < ys.length := by omega
    exact ⟨xs, ys, xs[i], ys[i], q.1, q.2, by simp [h1], by simp [h2]⟩
  · obtain ⟨T, x, z, h1, h2, h3, h4, h5⟩ := y
    exact ⟨T, x, z, h1, h2, h3, h4 xs q.1, h5 ys q.2⟩
end Wx

namespace Wx
open PySem PySem.Spec PyProof.Rows L2 NdefX RZ
/-! own operators: an instance and a whole number, two instances of one class -/
theorem back_rel {Q : Value → Shared → Prop} {x : V} {v : Value} {s : Shared} (r : RelV x v) (h : Q v s) : PySem.W.CmpBack Q v s := by
  cases x with
  | non => cases (show v = Value.none from r); exact h
  | bl b => cases (show v = Value.bool b from r); exact h
  | int i => obtain ⟨t, rfl⟩ := r; exact h
  | str z => obtain ⟨t, rfl⟩ := r; exact h
  | byt b => obtain ⟨t, rfl⟩ := r; exact h
  | flt b => obtain ⟨t, rfl⟩ := r; exact h
  | ref a => cases (show v = Value.ref a from r); exact h
  | ty n => cases (show v = Value.type n from r); exact h
/-- what the class at C says of an own operator of the names nm, rn -/
structure OpC (K : PySem.W.Frag) (C f : Addr) (nm rn : Str) : Prop where
  first : PySem.W.selfFirst K C = true
  own : PySem.W.findIn K (.ref C) nm = some (some (.ref f))
  fn : PySem.W.isFn K (.ref f) = true
  back : ∃ rc, PySem.W.findIn K (.ref C) rn = some rc ∧ (rc = none ∨ ∃ g : Addr, rc = some (.ref g))
  i1 : ∃ fo, PySem.W.findIn K (.type "int") nm = some fo
  i2 : ∃ ro, PySem.W.findIn K (.type "int") rn = some ro
  isub : PySem.W.subIn K (.type "int") (.ref C) = some false
def tOwnN (C : Addr) (sp : Sp) (E : L2.St → XK) (ta tb : TE) : TE := fun σ H Q => ta σ H fun x H1 => tb σ H1 fun y H2 => ∃ a dx fs i, x = .ref a ∧ y = .int i ∧ H2 a = some (.ins C dx fs) ∧ sp [x, y] H2 Q (E σ)
def tOwnB (C : Addr) (sp : Sp) (E : L2.St → XK) (ta tb : TE) : TE := fun σ H Q => ta σ H fun x H1 => tb σ H1 fun y H2 => ∃ a dx fs b dy gs, x = .ref a ∧ y = .ref b ∧ H2 a = some (.ins C dx fs) ∧ H2 b = some (.ins C dy gs) ∧ sp [x, y] H2 Q (E σ)
section
variable {X : Cx} {CX : CXT} {C f : Addr} {n : Nat} {fd : FuncData} {ps : List Str} {sp : Sp} {E : L2.St → XK} {op : Operator} {a b : Expr} {ta tb : TE} {pos : Pos} {nm rn : Str}
theorem pe_ownN (F : FnOk X.prog X.w X.K X.mg X.base CX n f fd ps sp) (hr : Room n X.A) (O : OpC X.K C f nm rn) (hb : Binds X.K fd ps []) (hx : ∀ σ, PassesAt CX X σ (E σ)) (en : PySem.dunder op.info.2 = nm) (er : PySem.dunderR op.info.2 = rn) (ha : PE X a ta) (hb' : PE X b tb) : PE X (.BinOp a op b pos) (tOwnN C sp E ta tb) := by
  subst en er
  refine ⟨fun pins s σ H Q I h => ?_⟩
  refine wpAny_BinOp (binT ha hb' I h fun v u s2 x y H2 I2 rx ry q => ?_)
  obtain ⟨p, dx, fs, i, rfl, rfl, hp, q⟩ := q
  cases (show v = Value.ref p from rx)
  obtain ⟨t, rfl⟩ := id ry
  obtain ⟨mA, J, _⟩ := ins_get I2.hok hp
  obtain ⟨od, J, _⟩ := J.look
  obtain ⟨m, hF⟩ := I2.fr
  obtain ⟨rc, e1, e2⟩ := O.back
  obtain ⟨fo, e3⟩ := O.i1
  obtain ⟨ro, e4⟩ := O.i2
  refine PySem.W.ksp_binT (T := "int") hF I2.ok.mod.kin J rfl O.first O.own O.fn e1 e2 e3 e4 O.isub ?_
  exact wpAny_mono (run_fnS (us := [.ref p, .int i t]) (vs := [.ref p, .int i]) F hr hb (hx σ) I2 (.cons rfl (.cons ⟨t, rfl⟩ .nil)) q) (fun w s' z => by
    obtain ⟨z', H', I', rz, qz⟩ := z
    exact back_rel rz ⟨z', H', I', rz, qz⟩) fun _ _ x => x
theorem pe_ownB (F : FnOk X.prog X.w X.K X.mg X.base CX n f fd ps sp) (hr : Room n X.A) (O : OpC X.K C f nm rn) (hb : Binds X.K fd ps []) (hx : ∀ σ, PassesAt CX X σ (E σ)) (en : PySem.dunder op.info.2 = nm) (er : PySem.dunderR op.info.2 = rn) (ha : PE X a ta) (hb' : PE X b tb) : PE X (.BinOp a op b pos) (tOwnB C sp E ta tb) := by
  subst en er
  refine ⟨fun pins s σ H Q I h => ?_⟩
  refine wpAny_BinOp (binT ha hb' I h fun v u s2 x y H2 I2 rx ry q => ?_)
  obtain ⟨p, dx, fs, r, dy, gs, rfl, rfl, hp, hq, q⟩ := q
  cases (show v = Value.ref p from rx)
  cases (show u = Value.ref r from ry)
  obtain ⟨mA, J, _⟩ := ins_get I2.hok hp
  obtain ⟨mB, J', _⟩ := ins_get I2.hok hq
  obtain ⟨od, J, _⟩ := J.look
  obtain ⟨od', J', _⟩ := J'.look
  obtain ⟨m, hF⟩ := I2.fr
  refine PySem.W.binop_K hF I2.ok.mod.kin J J'.type O.first O.own O.fn ?_
  exact wpAny_mono (run_fnS (us := [.ref p, .ref r]) (vs := [.ref p, .ref r]) F hr hb (hx σ) I2 (.cons rfl (.cons rfl .nil)) q) (fun w s' z => by
    obtain ⟨z', H', I', rz, qz⟩ := z
    exact back_rel rz ⟨z', H', I', rz, qz⟩) fun _ _ x => x
end
end Wx

/-! == and != of lists and tuples whose items have an own ==, with either answer -/
namespace GB
open PySem PySem.SeqAt
open AutoSeq1 (wpAny_loadPart')
open MeetsSeq MeetsSeq2 MeetsSeq3 SeqRoads2
open GQ (FinOf call_here)
theorem all_take {e : Nat → Bool} {N i : Nat} (h : ((List.range N).take i).all e = true) (hi : i < N) (t : e i = true) : ((List.range N).take (i + 1)).all e = true := by
  have q : (List.range N).take (i + 1) = (List.range N).take i ++ [i] := by
    rw [List.take_add_one, List.getElem?_range hi]
    rfl
  rw [q, List.all_append, h]
  simp [t]
theorem all_no {e : Nat → Bool} {N i : Nat} (hi : i < N) (t : e i = false) : (List.range N).all e = false := by
  refine Bool.eq_false_iff.mpr fun h => ?_
  have := List.all_eq_true.mp h i (List.mem_range.mpr hi)
  rw [t] at this
  cases this
theorem all_end {e : Nat → Bool} {N i : Nat} (h : ((List.range N).take i).all e = true) (hi : N ≤ i) : (List.range N).all e = true := by
  rw [List.take_of_length_le (by simpa using hi)] at h
  exact h
section
variable {prog : Program} {w : World} {A : Around} {R : Result → Shared → Prop}
def ListB (prog : Program) (w : World) (A : Around) (E : Value → Shared → Prop) (l b : Addr) (N : Nat) (e : Nat → Bool) (I : Shared → Prop) : Prop :=
  ∀ s, I s → ∃ (items items2 : Array Value) (n n2 : Nat), s.heap.get? l = some { cls := .type "list", data := .seq items n } ∧ s.heap.get? b = some { cls := .type "list", data := .seq items2 n2 } ∧ items.size = N ∧ items2.size = N ∧
    ∀ i (h1 : i < items.size) (h2 : i < items2.size), wpAny (model prog w) A.in1 (eqBool items[i] items2[i]) (fun r s' => r = e i ∧ I s') E s

theorem eq_loopB (l b : Addr) (N : Nat) (e : Nat → Bool) (I : Shared → Prop) (hl : ListB prog w A (fun e s' => R (.error e) s') l b N e I)
    (fin : ∀ s, I s → R (.ok (.ret (.bool ((List.range N).all e)))) s) (k : Nat) :
    ∀ i : Nat, N - i = k → i ≤ N → ((List.range N).take i).all e = true → ∀ s, I s →
      wpAny (model prog w) A.in1 (Builtin.«list.__eq__.loop» ⟨[.ref l, .ref b, rawInt i, rawInt 2], []⟩) (FinOf prog w A R) (fun e s' => R (.error e) s') s := by
  induction k with
  | zero =>
    intro i hk hi ha s h
    obtain ⟨items, items2, n, n2, hl1, hb1, hs1, hs2, _⟩ := hl _ h
    have hi' : i = N := by omega
    have hR := fin s h
    rw [all_end ha (by omega)] at hR
    obtain ⟨hp, g, d, tk, os⟩ := s
    wp_walk using wpAny_loadPart' hl1, wpAny_loadPart' hb1
    have hi1 : items[((i : Nat) : Int).toNat]? = none := by simp; omega
    have hi2 : items2[((i : Nat) : Int).toNat]? = none := by simp; omega
    rw [hi1, hi2]
    wp_walk using wpAny_loadPart' hl1, wpAny_loadPart' hb1
    show R (.ok (.ret (.bool (items.size == items2.size)))) _
    rw [hs1, hs2]
    simpa using hR
  | succ k ih =>
    intro i hk hi ha s h
    obtain ⟨items, items2, n, n2, hl1, hb1, hs1, hs2, turn⟩ := hl _ h
    have hlt : i < items.size := by omega
    have hlt2 : i < items2.size := by omega
    have ht := turn i hlt hlt2
    obtain ⟨hp, g, d, tk, os⟩ := s
    wp_walk using wpAny_loadPart' hl1, wpAny_loadPart' hb1
    have hi1 : items[((i : Nat) : Int).toNat]? = some items[i] := by simp [hlt]
    have hi2 : items2[((i : Nat) : Int).toNat]? = some items2[i] := by simp [hlt2]
    have hc : ((i : Int) + 1) = ((i + 1 : Nat) : Int) := by omega
    rw [hi1, hi2]
    refine wpAny_bind (wpAny_mono ht (fun r s2 h2 => ?_) fun _ _ x => x)
    obtain ⟨hr, h2⟩ := h2
    subst hr
    cases hb' : e i with
    | true =>
      have hrec := ih (i + 1) (by omega) (by omega) (all_take ha (by omega) hb') s2 h2
      obtain ⟨hp2, g2, d2, tk2, os2⟩ := s2
      wp_walk
      rw [hc]
      exact ⟨plainId_quiet plain_eq_loop _, codeAny_builtin entry_eq_loop (by
        rw [Around.under_plainId plain_eq_loop _]
        exact hrec)⟩
    | false =>
      obtain ⟨items', items2', n', n2', hl1', hb1', hs1', hs2', _⟩ := hl _ h2
      have hR := fin s2 h2
      rw [all_no (by omega) hb'] at hR
      obtain ⟨hp2, g2, d2, tk2, os2⟩ := s2
      wp_walk using wpAny_loadPart' hl1', wpAny_loadPart' hb1'
      have hi1 : items'[((i : Nat) : Int).toNat]? = some (items'[i]'(by omega)) := by simp [show i < items'.size by omega]
      have hi2 : items2'[((i : Nat) : Int).toNat]? = some (items2'[i]'(by omega)) := by simp [show i < items2'.size by omega]
      rw [hi1, hi2]
      wp_walk
      simpa using hR
theorem list_eqB (l b : Addr) (N : Nat) (e : Nat → Bool) (I : Shared → Prop) (hl : ListB prog w A (fun e s' => R (.error e) s') l b N e I)
    (fin : ∀ s, I s → R (.ok (.ret (.bool ((List.range N).all e)))) s) {s : Shared} (h : I s) :
    wpAny (model prog w) A.in1 (Builtin.«list.__eq__» ⟨[.ref l, .ref b], []⟩) (FinOf prog w A R) (fun e s' => R (.error e) s') s := by
  obtain ⟨items, items2, n, n2, hl1, hb1, hs1, hs2, _⟩ := hl _ h
  have hrec := eq_loopB (A := A) (R := R) l b N e I hl fin _ 0 rfl (Nat.zero_le _) rfl s h
  obtain ⟨hp, g, d, tk, os⟩ := s
  have f3 := AutoSeq1.sub_list_list
  have hne : ¬ (items.size != items2.size) = true := by simp [hs1, hs2]
  wp_walk using wpAny_loadPart' hl1, wpAny_loadPart' hb1
  exact ⟨plainId_quiet plain_eq_loop _, codeAny_builtin entry_eq_loop (by
    rw [Around.under_plainId plain_eq_loop _]
    exact hrec)⟩
theorem list_eqD (l b : Addr) (items items2 : Array Value) (n n2 : Nat) (hc0 : (items.size != items2.size) = true) {s : Shared} (hl1 : s.heap.get? l = some { cls := .type "list", data := .seq items n }) (hb1 : s.heap.get? b = some { cls := .type "list", data := .seq items2 n2 })
    (fin : R (.ok (.ret (.bool false))) s) :
    wpAny (model prog w) A.in1 (Builtin.«list.__eq__» ⟨[.ref l, .ref b], []⟩) (FinOf prog w A R) (fun e s' => R (.error e) s') s := by
  obtain ⟨hp, g, d, tk, os⟩ := s
  have f3 := AutoSeq1.sub_list_list
  wp_walk using wpAny_loadPart' hl1, wpAny_loadPart' hb1
  exact fin
theorem tuple_eqB (l b : Addr) (items items2 : Array Value) (n n2 : Nat) (dd dd2 : Option Addr) (sl sl2 : Array (Option Value)) (e : Nat → Bool) (I : Shared → Prop)
    (turn : ∀ i (h1 : i < items.size) (h2 : i < items2.size) s, I s → wpAny (model prog w) A.in1 (eqBool items[i] items2[i]) (fun r s' => r = e i ∧ I s') (fun e s' => R (.error e) s') s)
    (fin : ∀ s, I s → R (.ok (.ret (.bool ((List.range (min items.size items2.size)).all e && items.size == items2.size)))) s) {s : Shared} (hl1 : s.heap.get? l = some { cls := .type "tuple", dict := dd, data := .seq items n, slots := sl }) (hb1 : s.heap.get? b = some { cls := .type "tuple", dict := dd2, data := .seq items2 n2, slots := sl2 }) (h : I s) :
    wpAny (model prog w) A.in1 (Builtin.«tuple.__eq__» ⟨[.ref l, .ref b], []⟩) (FinOf prog w A R) (fun e s' => R (.error e) s') s := by
  have f2 := AutoSeq1.sub_tuple_tuple
  have hZ : (items.toList.zip items2.toList).length = min items.size items2.size := by simp
  have h0 := h
  obtain ⟨hp, g, d, tk, os⟩ := s
  wp_walk using wpAny_loadPart' hl1, wpAny_loadPart' hb1, wpAny_forIn_list _ (fun rest b s' => b.1 = none ∧ ∃ i, rest = (items.toList.zip items2.toList).drop i ∧ ((List.range (min items.size items2.size)).take i).all e = true ∧ I s') _
  case turn =>
    rintro ⟨y, x⟩ rest b s' ⟨hb', i, hz, ha, hI⟩
    have hlt : i < (items.toList.zip items2.toList).length := by
      rcases Nat.lt_or_ge i (items.toList.zip items2.toList).length with h' | h'
      · exact h'
      · rw [List.drop_of_length_le h'] at hz; cases hz
    have hm : i < min items.size items2.size := hZ ▸ hlt
    have h1 : i < items.size := Nat.lt_of_lt_of_le hm (Nat.min_le_left _ _)
    have h2 : i < items2.size := Nat.lt_of_lt_of_le hm (Nat.min_le_right _ _)
    rw [List.drop_eq_getElem_cons hlt] at hz
    injection hz with hyx hrest
    have hy : y = items[i] := by have := congrArg Prod.fst hyx; simpa using this
    have hx : x = items2[i] := by have := congrArg Prod.snd hyx; simpa using this
    subst hy hx
    refine wpAny_bind (wpAny_mono (turn i h1 h2 s' hI) (fun r s2 q2 => ?_) fun _ _ x => x)
    obtain ⟨hr, q2⟩ := q2
    subst hr
    cases hy : e i with
    | true =>
      wp_walk
      exact ⟨rfl, i + 1, hrest, all_take ha hm hy, q2⟩
    | false =>
      have hR := fin s2 q2
      rw [all_no hm hy] at hR
      wp_walk
      simpa using hR
  case fin =>
    rintro ⟨b1, b2⟩ s' ⟨hb', i, hz, ha, hI⟩
    simp only at hb'
    subst hb'
    have hge : min items.size items2.size ≤ i := by
      rcases Nat.lt_or_ge i (items.toList.zip items2.toList).length with h' | h'
      · rw [List.drop_eq_getElem_cons h'] at hz; cases hz
      · exact hZ ▸ h'
    have hR := fin s' hI
    rw [all_end ha hge] at hR
    wp_walk
    simpa [Builtin.Tuple.tupleCompareSizes, bne] using hR
  case h =>
    exact ⟨rfl, 0, rfl, rfl, h0⟩
section
variable {E : Value → Shared → Prop} {s : Shared}
theorem rc_list_eq {l b : Addr} {N : Nat} {e : Nat → Bool} {Q : Value → Shared → Prop} (hu : A.units < cLine) (I : Shared → Prop) (hl : ListB prog w A E l b N e I)
    (fin : ∀ s, I s → Q (.bool ((List.range N).all e)) s) (h : I s) : wpAny (model prog w) A (richCompare .Eq (.ref l) (.ref b)) Q E s := by
  obtain ⟨items, items2, n, n2, hl1, hb1, _, _, _⟩ := hl _ h
  refine wpAny_richCompare_same_room (op := .Eq) ⟨_, hl1, rfl⟩ ⟨_, hb1, rfl⟩ F.slot_list_eq (call_here F.slot_list_eq ⟨_, hl1, rfl⟩ F.entry_list_eq (F.args_list_eq_2 _ _) ?_) hu
  exact list_eqB (R := wants (fun v s' => v ≠ .notImplemented ∧ Q v s') E) l b N e I hl (fun s' q => ⟨(fun x => nomatch x), fin s' q⟩) h
theorem rc_list_eqD {l b : Addr} {items items2 : Array Value} {n n2 : Nat} {Q : Value → Shared → Prop} (hu : A.units < cLine) (hc0 : (items.size != items2.size) = true) (hl1 : s.heap.get? l = some { cls := .type "list", data := .seq items n }) (hb1 : s.heap.get? b = some { cls := .type "list", data := .seq items2 n2 })
    (fin : Q (.bool false) s) : wpAny (model prog w) A (richCompare .Eq (.ref l) (.ref b)) Q E s := by
  refine wpAny_richCompare_same_room (op := .Eq) ⟨_, hl1, rfl⟩ ⟨_, hb1, rfl⟩ F.slot_list_eq (call_here F.slot_list_eq ⟨_, hl1, rfl⟩ F.entry_list_eq (F.args_list_eq_2 _ _) ?_) hu
  exact list_eqD (R := wants (fun v s' => v ≠ .notImplemented ∧ Q v s') E) l b items items2 n n2 hc0 hl1 hb1 ⟨(fun x => nomatch x), fin⟩
theorem rc_tup_eq {l b : Addr} {items items2 : Array Value} {e : Nat → Bool} {Q : Value → Shared → Prop} (hu : A.units < cLine) (I : Shared → Prop) (hl : s.heap.IsTuple l items) (hb : s.heap.IsTuple b items2)
    (turn : ∀ i (h1 : i < items.size) (h2 : i < items2.size) s, I s → wpAny (model prog w) A.in1 (eqBool items[i] items2[i]) (fun r s' => r = e i ∧ I s') E s)
    (fin : ∀ s, I s → Q (.bool ((List.range (min items.size items2.size)).all e && items.size == items2.size)) s) (h : I s) : wpAny (model prog w) A (richCompare .Eq (.ref l) (.ref b)) Q E s := by
  obtain ⟨⟨cls, dd, data, sl⟩, ho, hc, n, hd⟩ := id hl
  obtain ⟨⟨cls2, dd2, data2, sl2⟩, ho2, hc2, n2, hd2⟩ := id hb
  simp only at hc hd hc2 hd2
  subst hc hd hc2 hd2
  refine wpAny_richCompare_same_room (op := .Eq) ⟨_, ho, rfl⟩ ⟨_, ho2, rfl⟩ F.slot_tuple_eq (call_here F.slot_tuple_eq ⟨_, ho, rfl⟩ F.entry_tuple_eq (F.args_tuple_eq_2 _ _) ?_) hu
  exact tuple_eqB (R := wants (fun v s' => v ≠ .notImplemented ∧ Q v s') E) l b items items2 n n2 dd dd2 sl sl2 e I turn (fun s' q => ⟨(fun x => nomatch x), fin s' q⟩) ho ho2 h
end

theorem ne_loopB (l b : Addr) (N : Nat) (e : Nat → Bool) (I : Shared → Prop) (hl : ListB prog w A (fun e s' => R (.error e) s') l b N e I)
    (fin : ∀ s, I s → R (.ok (.ret (.bool (!(List.range N).all e)))) s) (k : Nat) :
    ∀ i : Nat, N - i = k → i ≤ N → ((List.range N).take i).all e = true → ∀ s, I s →
      wpAny (model prog w) A.in1 (Builtin.«list.__eq__.loop» ⟨[.ref l, .ref b, rawInt i, rawInt 3], []⟩) (FinOf prog w A R) (fun e s' => R (.error e) s') s := by
  induction k with
  | zero =>
    intro i hk hi ha s h
    obtain ⟨items, items2, n, n2, hl1, hb1, hs1, hs2, _⟩ := hl _ h
    have hi' : i = N := by omega
    have hR := fin s h
    rw [all_end ha (by omega)] at hR
    obtain ⟨hp, g, d, tk, os⟩ := s
    wp_walk using wpAny_loadPart' hl1, wpAny_loadPart' hb1
    have hi1 : items[((i : Nat) : Int).toNat]? = none := by simp; omega
    have hi2 : items2[((i : Nat) : Int).toNat]? = none := by simp; omega
    rw [hi1, hi2]
    wp_walk using wpAny_loadPart' hl1, wpAny_loadPart' hb1
    show R (.ok (.ret (.bool (items.size != items2.size)))) _
    rw [hs1, hs2]
    simpa using hR
  | succ k ih =>
    intro i hk hi ha s h
    obtain ⟨items, items2, n, n2, hl1, hb1, hs1, hs2, turn⟩ := hl _ h
    have hlt : i < items.size := by omega
    have hlt2 : i < items2.size := by omega
    have ht := turn i hlt hlt2
    obtain ⟨hp, g, d, tk, os⟩ := s
    wp_walk using wpAny_loadPart' hl1, wpAny_loadPart' hb1
    have hi1 : items[((i : Nat) : Int).toNat]? = some items[i] := by simp [hlt]
    have hi2 : items2[((i : Nat) : Int).toNat]? = some items2[i] := by simp [hlt2]
    have hc : ((i : Int) + 1) = ((i + 1 : Nat) : Int) := by omega
    rw [hi1, hi2]
    refine wpAny_bind (wpAny_mono ht (fun r s2 h2 => ?_) fun _ _ x => x)
    obtain ⟨hr, h2⟩ := h2
    subst hr
    cases hb' : e i with
    | true =>
      have hrec := ih (i + 1) (by omega) (by omega) (all_take ha (by omega) hb') s2 h2
      obtain ⟨hp2, g2, d2, tk2, os2⟩ := s2
      wp_walk
      rw [hc]
      exact ⟨plainId_quiet plain_eq_loop _, codeAny_builtin entry_eq_loop (by
        rw [Around.under_plainId plain_eq_loop _]
        exact hrec)⟩
    | false =>
      obtain ⟨items', items2', n', n2', hl1', hb1', hs1', hs2', _⟩ := hl _ h2
      have hR := fin s2 h2
      rw [all_no (by omega) hb'] at hR
      obtain ⟨hp2, g2, d2, tk2, os2⟩ := s2
      wp_walk using wpAny_loadPart' hl1', wpAny_loadPart' hb1'
      have hi1 : items'[((i : Nat) : Int).toNat]? = some (items'[i]'(by omega)) := by simp [show i < items'.size by omega]
      have hi2 : items2'[((i : Nat) : Int).toNat]? = some (items2'[i]'(by omega)) := by simp [show i < items2'.size by omega]
      rw [hi1, hi2]
      wp_walk
      simpa using hR
theorem list_neB (l b : Addr) (N : Nat) (e : Nat → Bool) (I : Shared → Prop) (hl : ListB prog w A (fun e s' => R (.error e) s') l b N e I)
    (fin : ∀ s, I s → R (.ok (.ret (.bool (!(List.range N).all e)))) s) {s : Shared} (h : I s) :
    wpAny (model prog w) A.in1 (Builtin.«list.__ne__» ⟨[.ref l, .ref b], []⟩) (FinOf prog w A R) (fun e s' => R (.error e) s') s := by
  obtain ⟨items, items2, n, n2, hl1, hb1, hs1, hs2, _⟩ := hl _ h
  have hrec := ne_loopB (A := A) (R := R) l b N e I hl fin _ 0 rfl (Nat.zero_le _) rfl s h
  obtain ⟨hp, g, d, tk, os⟩ := s
  have f3 := AutoSeq1.sub_list_list
  have hne : ¬ (items.size != items2.size) = true := by simp [hs1, hs2]
  wp_walk using wpAny_loadPart' hl1, wpAny_loadPart' hb1
  exact ⟨plainId_quiet plain_eq_loop _, codeAny_builtin entry_eq_loop (by
    rw [Around.under_plainId plain_eq_loop _]
    exact hrec)⟩
theorem list_neD (l b : Addr) (items items2 : Array Value) (n n2 : Nat) (hc0 : (items.size != items2.size) = true) {s : Shared} (hl1 : s.heap.get? l = some { cls := .type "list", data := .seq items n }) (hb1 : s.heap.get? b = some { cls := .type "list", data := .seq items2 n2 })
    (fin : R (.ok (.ret (.bool true))) s) :
    wpAny (model prog w) A.in1 (Builtin.«list.__ne__» ⟨[.ref l, .ref b], []⟩) (FinOf prog w A R) (fun e s' => R (.error e) s') s := by
  obtain ⟨hp, g, d, tk, os⟩ := s
  have f3 := AutoSeq1.sub_list_list
  wp_walk using wpAny_loadPart' hl1, wpAny_loadPart' hb1
  exact fin
theorem tuple_neB (l b : Addr) (items items2 : Array Value) (n n2 : Nat) (dd dd2 : Option Addr) (sl sl2 : Array (Option Value)) (e : Nat → Bool) (I : Shared → Prop)
    (turn : ∀ i (h1 : i < items.size) (h2 : i < items2.size) s, I s → wpAny (model prog w) A.in1 (eqBool items[i] items2[i]) (fun r s' => r = e i ∧ I s') (fun e s' => R (.error e) s') s)
    (fin : ∀ s, I s → R (.ok (.ret (.bool (!((List.range (min items.size items2.size)).all e && items.size == items2.size))))) s) {s : Shared} (hl1 : s.heap.get? l = some { cls := .type "tuple", dict := dd, data := .seq items n, slots := sl }) (hb1 : s.heap.get? b = some { cls := .type "tuple", dict := dd2, data := .seq items2 n2, slots := sl2 }) (h : I s) :
    wpAny (model prog w) A.in1 (Builtin.«tuple.__ne__» ⟨[.ref l, .ref b], []⟩) (FinOf prog w A R) (fun e s' => R (.error e) s') s := by
  have f2 := AutoSeq1.sub_tuple_tuple
  have hZ : (items.toList.zip items2.toList).length = min items.size items2.size := by simp
  have h0 := h
  obtain ⟨hp, g, d, tk, os⟩ := s
  wp_walk using wpAny_loadPart' hl1, wpAny_loadPart' hb1, wpAny_forIn_list _ (fun rest b s' => b.1 = none ∧ ∃ i, rest = (items.toList.zip items2.toList).drop i ∧ ((List.range (min items.size items2.size)).take i).all e = true ∧ I s') _
  case turn =>
    rintro ⟨y, x⟩ rest b s' ⟨hb', i, hz, ha, hI⟩
    have hlt : i < (items.toList.zip items2.toList).length := by
      rcases Nat.lt_or_ge i (items.toList.zip items2.toList).length with h' | h'
      · exact h'
      · rw [List.drop_of_length_le h'] at hz; cases hz
    have hm : i < min items.size items2.size := hZ ▸ hlt
    have h1 : i < items.size := Nat.lt_of_lt_of_le hm (Nat.min_le_left _ _)
    have h2 : i < items2.size := Nat.lt_of_lt_of_le hm (Nat.min_le_right _ _)
    rw [List.drop_eq_getElem_cons hlt] at hz
    injection hz with hyx hrest
    have hy : y = items[i] := by have := congrArg Prod.fst hyx; simpa using this
    have hx : x = items2[i] := by have := congrArg Prod.snd hyx; simpa using this
    subst hy hx
    refine wpAny_bind (wpAny_mono (turn i h1 h2 s' hI) (fun r s2 q2 => ?_) fun _ _ x => x)
    obtain ⟨hr, q2⟩ := q2
    subst hr
    cases hy : e i with
    | true =>
      wp_walk
      exact ⟨rfl, i + 1, hrest, all_take ha hm hy, q2⟩
    | false =>
      have hR := fin s2 q2
      rw [all_no hm hy] at hR
      wp_walk
      simpa using hR
  case fin =>
    rintro ⟨b1, b2⟩ s' ⟨hb', i, hz, ha, hI⟩
    simp only at hb'
    subst hb'
    have hge : min items.size items2.size ≤ i := by
      rcases Nat.lt_or_ge i (items.toList.zip items2.toList).length with h' | h'
      · rw [List.drop_eq_getElem_cons h'] at hz; cases hz
      · exact hZ ▸ h'
    have hR := fin s' hI
    rw [all_end ha hge] at hR
    wp_walk
    simpa [Builtin.Tuple.tupleCompareSizes, bne] using hR
  case h =>
    exact ⟨rfl, 0, rfl, rfl, h0⟩
section
variable {E : Value → Shared → Prop} {s : Shared}
theorem rc_list_ne {l b : Addr} {N : Nat} {e : Nat → Bool} {Q : Value → Shared → Prop} (hu : A.units < cLine) (I : Shared → Prop) (hl : ListB prog w A E l b N e I)
    (fin : ∀ s, I s → Q (.bool (!(List.range N).all e)) s) (h : I s) : wpAny (model prog w) A (richCompare .NotEq (.ref l) (.ref b)) Q E s := by
  obtain ⟨items, items2, n, n2, hl1, hb1, _, _, _⟩ := hl _ h
  refine wpAny_richCompare_same_room (op := .NotEq) ⟨_, hl1, rfl⟩ ⟨_, hb1, rfl⟩ F.slot_list_ne (call_here F.slot_list_ne ⟨_, hl1, rfl⟩ F.entry_list_ne (F.args_list_ne_2 _ _) ?_) hu
  exact list_neB (R := wants (fun v s' => v ≠ .notImplemented ∧ Q v s') E) l b N e I hl (fun s' q => ⟨(fun x => nomatch x), fin s' q⟩) h
theorem rc_list_neD {l b : Addr} {items items2 : Array Value} {n n2 : Nat} {Q : Value → Shared → Prop} (hu : A.units < cLine) (hc0 : (items.size != items2.size) = true) (hl1 : s.heap.get? l = some { cls := .type "list", data := .seq items n }) (hb1 : s.heap.get? b = some { cls := .type "list", data := .seq items2 n2 })
    (fin : Q (.bool true) s) : wpAny (model prog w) A (richCompare .NotEq (.ref l) (.ref b)) Q E s := by
  refine wpAny_richCompare_same_room (op := .NotEq) ⟨_, hl1, rfl⟩ ⟨_, hb1, rfl⟩ F.slot_list_ne (call_here F.slot_list_ne ⟨_, hl1, rfl⟩ F.entry_list_ne (F.args_list_ne_2 _ _) ?_) hu
  exact list_neD (R := wants (fun v s' => v ≠ .notImplemented ∧ Q v s') E) l b items items2 n n2 hc0 hl1 hb1 ⟨(fun x => nomatch x), fin⟩
theorem rc_tup_ne {l b : Addr} {items items2 : Array Value} {e : Nat → Bool} {Q : Value → Shared → Prop} (hu : A.units < cLine) (I : Shared → Prop) (hl : s.heap.IsTuple l items) (hb : s.heap.IsTuple b items2)
    (turn : ∀ i (h1 : i < items.size) (h2 : i < items2.size) s, I s → wpAny (model prog w) A.in1 (eqBool items[i] items2[i]) (fun r s' => r = e i ∧ I s') E s)
    (fin : ∀ s, I s → Q (.bool (!((List.range (min items.size items2.size)).all e && items.size == items2.size))) s) (h : I s) : wpAny (model prog w) A (richCompare .NotEq (.ref l) (.ref b)) Q E s := by
  obtain ⟨⟨cls, dd, data, sl⟩, ho, hc, n, hd⟩ := id hl
  obtain ⟨⟨cls2, dd2, data2, sl2⟩, ho2, hc2, n2, hd2⟩ := id hb
  simp only at hc hd hc2 hd2
  subst hc hd hc2 hd2
  refine wpAny_richCompare_same_room (op := .NotEq) ⟨_, ho, rfl⟩ ⟨_, ho2, rfl⟩ F.slot_tuple_ne (call_here F.slot_tuple_ne ⟨_, ho, rfl⟩ F.entry_tuple_ne (F.args_tuple_ne_2 _ _) ?_) hu
  exact tuple_neB (R := wants (fun v s' => v ≠ .notImplemented ∧ Q v s') E) l b items items2 n n2 dd dd2 sl sl2 e I turn (fun s' q => ⟨(fun x => nomatch x), fin s' q⟩) ho ho2 h
end
end
end GB
namespace Wx
open PySem PySem.Spec PyProof.Rows L2 NdefX RZ
/-! what a value stands for, and == by it -/
abbrev Rep (α : Type) := V → Hp → α → Prop
def RMon {α : Type} (R : Rep α) : Prop := ∀ x H H' a, Ext H H' → R x H a → R x H' a
def RFun {α : Type} (R : Rep α) : Prop := ∀ x H a a', R x H a → R x H a' → a = a'
def Reps {α : Type} (R : Rep α) (H : Hp) : List V → List α → Prop
  | [], [] => True
  | x :: xs, a :: as => R x H a ∧ Reps R H xs as
  | _, _ => False
section
variable {α : Type} {R : Rep α} {H H' : Hp}
theorem Reps.len : ∀ {xs : List V} {as : List α}, Reps R H xs as → xs.length = as.length
  | [], [], _ => rfl
  | _ :: xs, _ :: as, h => by rw [List.length_cons, List.length_cons, Reps.len h.2]
  | [], _ :: _, h => h.elim
  | _ :: _, [], h => h.elim
theorem Reps.mono (hR : RMon R) (e : Ext H H') : ∀ {xs : List V} {as : List α}, Reps R H xs as → Reps R H' xs as
  | [], [], _ => trivial
  | _ :: xs, _ :: as, h => ⟨hR _ _ _ _ e h.1, Reps.mono hR e h.2⟩
  | [], _ :: _, h => h.elim
  | _ :: _, [], h => h.elim
theorem Reps.imp {S : Rep α} (hR : ∀ x a, R x H a → S x H' a) : ∀ {xs : List V} {as : List α}, Reps R H xs as → Reps S H' xs as
  | [], [], _ => trivial
  | _ :: xs, _ :: as, h => ⟨hR _ _ h.1, Reps.imp hR h.2⟩
  | [], _ :: _, h => h.elim
  | _ :: _, [], h => h.elim
theorem Reps.fn (hR : RFun R) : ∀ {xs : List V} {as bs : List α}, Reps R H xs as → Reps R H xs bs → as = bs
  | [], [], [], _, _ => rfl
  | _ :: xs, _ :: as, _ :: bs, h, h' => by rw [hR _ _ _ _ h.1 h'.1, Reps.fn hR h.2 h'.2]
  | [], _ :: _, _, h, _ => h.elim
  | [], _, _ :: _, _, h => h.elim
  | _ :: _, [], _, h, _ => h.elim
  | _ :: _, _, [], _, h => h.elim
theorem Reps.get : ∀ {xs : List V} {as : List α} {i : Nat} {x : V} {a : α}, Reps R H xs as → xs[i]? = some x → as[i]? = some a → R x H a
  | _ :: xs, _ :: as, 0, x, a, h, h1, h2 => by
    have e1 := Option.some.inj h1
    have e2 := Option.some.inj h2
    subst e1 e2
    exact h.1
  | _ :: xs, _ :: as, i + 1, x, a, h, h1, h2 => Reps.get (i := i) h.2 h1 h2
  | [], _, _, _, _, _, h, _ => by simp at h
  | _ :: _, [], _, _, _, h, _, _ => h.elim
theorem Reps.at {xs : List V} {as : List α} {i : Nat} {x : V} (h : Reps R H xs as) (h1 : xs[i]? = some x) : ∃ a, as[i]? = some a ∧ R x H a := by
  have hi : i < as.length := by rw [← h.len]; exact (List.getElem?_eq_some_iff.mp h1).1
  exact ⟨_, List.getElem?_eq_getElem hi, h.get h1 (List.getElem?_eq_getElem hi)⟩
theorem Reps.at' {xs : List V} {as : List α} {i : Nat} {a : α} (h : Reps R H xs as) (h1 : as[i]? = some a) : ∃ x, xs[i]? = some x ∧ R x H a := by
  have hi : i < xs.length := by rw [h.len]; exact (List.getElem?_eq_some_iff.mp h1).1
  exact ⟨_, List.getElem?_eq_getElem hi, h.get (List.getElem?_eq_getElem hi) h1⟩
theorem Reps.app : ∀ {xs ys : List V} {as bs : List α}, Reps R H xs as → Reps R H ys bs → Reps R H (xs ++ ys) (as ++ bs)
  | [], _, [], _, _, h' => h'
  | _ :: xs, _, _ :: as, _, h, h' => ⟨h.1, Reps.app h.2 h'⟩
  | [], _, _ :: _, _, h, _ => h.elim
  | _ :: _, _, [], _, h, _ => h.elim
theorem Reps.one {x : V} {a : α} (h : R x H a) : Reps R H [x] [a] := ⟨h, trivial⟩
theorem Reps.rep {x : V} {a : α} (h : R x H a) : ∀ n, Reps R H (List.replicate n x) (List.replicate n a)
  | 0 => trivial
  | n + 1 => ⟨h, Reps.rep h n⟩
theorem Reps.take : ∀ {xs : List V} {as : List α} (n : Nat), Reps R H xs as → Reps R H (xs.take n) (as.take n)
  | _, _, 0, _ => by rw [List.take_zero, List.take_zero]; trivial
  | [], [], n + 1, _ => trivial
  | _ :: xs, _ :: as, n + 1, h => ⟨h.1, Reps.take n h.2⟩
  | [], _ :: _, _ + 1, h => h.elim
  | _ :: _, [], _ + 1, h => h.elim
theorem Reps.drop : ∀ {xs : List V} {as : List α} (n : Nat), Reps R H xs as → Reps R H (xs.drop n) (as.drop n)
  | _, _, 0, h => h
  | [], [], n + 1, _ => trivial
  | _ :: xs, _ :: as, n + 1, h => Reps.drop n h.2
  | [], _ :: _, _ + 1, h => h.elim
  | _ :: _, [], _ + 1, h => h.elim
theorem Reps.set : ∀ {xs : List V} {as : List α} (i : Nat) {x : V} {a : α}, Reps R H xs as → R x H a → Reps R H (xs.set i x) (as.set i a)
  | [], [], _, _, _, _, _ => trivial
  | _ :: xs, _ :: as, 0, _, _, h, h' => ⟨h', h.2⟩
  | _ :: xs, _ :: as, i + 1, _, _, h, h' => ⟨h.1, Reps.set i h.2 h'⟩
  | [], _ :: _, _, _, _, h, _ => h.elim
  | _ :: _, [], _, _, _, h, _ => h.elim
end
/-- a tuple, a list whose items stand for as -/
def repT {α : Type} (R : Rep α) : Rep (List α) := fun x H as => ∃ p xs, x = .ref p ∧ H p = some (.tup xs) ∧ Reps R H xs as
def repL {α : Type} (R : Rep α) : Rep (List α) := fun x H as => ∃ p xs, x = .ref p ∧ H p = some (.lst xs) ∧ Reps R H xs as
def repI : Rep Int := fun x _ i => x = .int i
section
variable {α : Type} {R : Rep α}
theorem repT_mono (hR : RMon R) : RMon (repT R) := fun x H H' a e h => by
  obtain ⟨p, xs, rfl, h1, h2⟩ := h
  exact ⟨p, xs, rfl, e _ _ h1, h2.mono hR e⟩
theorem repL_mono (hR : RMon R) : RMon (repL R) := fun x H H' a e h => by
  obtain ⟨p, xs, rfl, h1, h2⟩ := h
  exact ⟨p, xs, rfl, e _ _ h1, h2.mono hR e⟩
theorem repT_fn (hR : RFun R) : RFun (repT R) := fun x H a b h h' => by
  obtain ⟨p, xs, rfl, h1, h2⟩ := h
  obtain ⟨q, ys, e, h3, h4⟩ := h'
  cases e
  rw [h1] at h3
  cases h3
  exact h2.fn hR h4
theorem repL_fn (hR : RFun R) : RFun (repL R) := fun x H a b h h' => by
  obtain ⟨p, xs, rfl, h1, h2⟩ := h
  obtain ⟨q, ys, e, h3, h4⟩ := h'
  cases e
  rw [h1] at h3
  cases h3
  exact h2.fn hR h4
theorem repI_mono : RMon repI := fun _ _ _ _ _ h => h
theorem repI_fn : RFun repI := fun x H a b h h' => by rw [h] at h'; injection h'
end
theorem all_eqs {α : Type} [DecidableEq α] [Inhabited α] : ∀ (as bs : List α), ((List.range (min as.length bs.length)).all (fun i => decide (as[i]? = bs[i]?)) && as.length == bs.length) = decide (as = bs) := fun as bs => by
  rw [Bool.eq_iff_iff, Bool.and_eq_true, List.all_eq_true, decide_eq_true_iff, beq_iff_eq]
  constructor
  · rintro ⟨h, hl⟩
    apply List.ext_getElem?
    intro i
    by_cases hi : i < as.length
    · exact of_decide_eq_true (h i (List.mem_range.mpr (by omega)))
    · rw [List.getElem?_eq_none (by omega), List.getElem?_eq_none (by omega)]
  · rintro rfl
    exact ⟨fun i _ => decide_eq_true rfl, rfl⟩
def EqR {α : Type} [DecidableEq α] (X : Cx) (n : Nat) (R : Rep α) : Prop :=
  ∀ (A : Around) (pins : List (Addr × Obj)) (s : Shared) (σ : L2.St) (H : Hp) (x y : V) (u v : Value) (a b : α), Sub X n A → Inv X pins σ H s → RelV x u → RelV y v → R x H a → R y H b →
    wpAny (model X.prog X.w) A (eqBool u v) (fun r s' => r = decide (a = b) ∧ ∃ H', Inv X pins σ H' s' ∧ Ext H H') X.xe s
def RcR {α : Type} [DecidableEq α] (op : CmpOp) (g : Bool → Bool) (X : Cx) (n : Nat) (R : Rep α) : Prop :=
  ∀ (A : Around) (pins : List (Addr × Obj)) (s : Shared) (σ : L2.St) (H : Hp) (x y : V) (u v : Value) (a b : α), Sub X n A → Inv X pins σ H s → RelV x u → RelV y v → R x H a → R y H b →
    wpAny (model X.prog X.w) A (richCompare op u v) (fun r s' => r = .bool (g (decide (a = b))) ∧ ∃ H', Inv X pins σ H' s' ∧ Ext H H') X.xe s
section
variable {α : Type} [DecidableEq α] {R : Rep α} {X : Cx} {n m : Nat}
theorem EqR.mono (h : EqR X n R) (hn : n ≤ m) : EqR X m R := fun A pins s σ H x y u v a b sb => h A pins s σ H x y u v a b (sb.mono hn)
theorem eqR_int : EqR X 0 repI := by
  intro A pins s σ H x y u v a b sb I rx ry h1 h2
  cases h1
  cases h2
  have q := eqAt_V (A := A) (s := s) rx ry rfl rfl
  refine q X.prog X.w X.xe _ ⟨?_, H, I, Ext.rfl'⟩
  show eqV (.int a) (.int b) = decide (a = b)
  first | rfl | simp [eqV]
theorem RcR.eqR (h : RcR .Eq id X n R) (hr : ∀ x H a, R x H a → ∃ p, x = .ref p) (hf : RFun R) : EqR X n R := by
  intro A pins s σ H x y u v a b sb I rx ry h1 h2
  obtain ⟨p, rfl⟩ := hr _ _ _ h1
  obtain ⟨q, rfl⟩ := hr _ _ _ h2
  cases rx
  cases ry
  by_cases hab : p = q
  · subst hab
    have e := hf _ _ _ _ h1 h2
    subst e
    rw [decide_eq_true rfl]
    exact SeqAt.EqAt.same (A := A) (s := s) (.ref p) X.prog X.w X.xe _ ⟨rfl, H, I, Ext.rfl'⟩
  · refine GQ.eqBool_refG hab (wpAny_mono (h A pins s σ H (.ref p) (.ref q) _ _ a b sb I rfl rfl h1 h2) (fun r s' z => ?_) fun _ _ x => x)
    obtain ⟨hr', z⟩ := z
    exact ⟨_, hr', rfl, z⟩
theorem turnR (hM : RMon R) (h : EqR X n R) {A : Around} (sb : Sub X (n + 1) A) {pins : List (Addr × Obj)} {σ : L2.St} {H : Hp} {xs ys : List V} {as bs : List α} {its its2 : List Value} (p : Reps R H xs as) (q : Reps R H ys bs) (r : Vals xs its) (r2 : Vals ys its2)
    (i : Nat) (h1 : i < its.toArray.size) (h2 : i < its2.toArray.size) (s' : Shared) (l : LoopI X pins σ H s') :
    wpAny (model X.prog X.w) A.in1 (eqBool its.toArray[i] its2.toArray[i]) (fun r s2 => r = decide (as[i]? = bs[i]?) ∧ LoopI X pins σ H s2) X.xe s' := by
  obtain ⟨H1, I1, e1⟩ := l
  have g1 : its[i]? = some its.toArray[i] := by
    have h1' : i < its.length := by simpa using h1
    rw [List.getElem?_eq_getElem h1'] <;> simp
  have g2 : its2[i]? = some its2.toArray[i] := by
    have h2' : i < its2.length := by simpa using h2
    rw [List.getElem?_eq_getElem h2'] <;> simp
  have k1 : i < xs.length := by rw [r.length]; simpa using h1
  have k2 : i < ys.length := by rw [r2.length]; simpa using h2
  obtain ⟨u, hu, ru⟩ := r.get (List.getElem?_eq_getElem k1)
  obtain ⟨v, hv, rv⟩ := r2.get (List.getElem?_eq_getElem k2)
  rw [g1] at hu
  rw [g2] at hv
  rw [Option.some.inj hu, Option.some.inj hv]
  obtain ⟨a, ha, ra⟩ := p.at (List.getElem?_eq_getElem k1)
  obtain ⟨b, hb, rb⟩ := q.at (List.getElem?_eq_getElem k2)
  refine wpAny_mono (h A.in1 pins s' σ H1 _ _ u v a b sb.in1 I1 ru rv (hM _ _ _ _ e1 ra) (hM _ _ _ _ e1 rb)) (fun r s2 z => ?_) fun _ _ x => x
  obtain ⟨hr, H2, I2, e2⟩ := z
  refine ⟨?_, H2, I2, e1.trans e2⟩
  rw [hr, ha, hb]
  simp
theorem rc_T {op : CmpOp} {g : Bool → Bool} (hop : (op = .Eq ∧ g = id) ∨ (op = .NotEq ∧ g = not)) [Inhabited α] (hM : RMon R) (h : EqR X n R) : RcR op g X (n + 1) (repT R) := by
  intro A pins s σ H x y u v as bs sb I rx ry h1 h2
  obtain ⟨a, xs, rfl, ha, p⟩ := h1
  obtain ⟨b, ys, rfl, hb, q⟩ := h2
  cases rx
  cases ry
  obtain ⟨its, r, e, z⟩ := I.tuple (SqT.of (K := X.K) ha)
  obtain ⟨its2, r2, e2, z2⟩ := I.tuple (SqT.of (K := X.K) hb)
  have l1 : its.toArray.size = as.length := by rw [List.size_toArray, ← r.length]; exact p.len
  have l2 : its2.toArray.size = bs.length := by rw [List.size_toArray, ← r2.length]; exact q.len
  have ans : ((List.range (min its.toArray.size its2.toArray.size)).all (fun i => decide (as[i]? = bs[i]?)) && its.toArray.size == its2.toArray.size) = decide (as = bs) := by rw [l1, l2]; exact all_eqs as bs
  rcases hop with ⟨rfl, rfl⟩ | ⟨rfl, rfl⟩
  · exact GB.rc_tup_eq (e := fun i => decide (as[i]? = bs[i]?)) sb.room.units0 (fun s' => LoopI X pins σ H s') e e2 (fun i h1 h2 s' l => turnR hM h sb p q r r2 i h1 h2 s' l) (fun s' l => ⟨by rw [ans]; rfl, l⟩) ⟨H, I, Ext.rfl'⟩
  · exact GB.rc_tup_ne (e := fun i => decide (as[i]? = bs[i]?)) sb.room.units0 (fun s' => LoopI X pins σ H s') e e2 (fun i h1 h2 s' l => turnR hM h sb p q r r2 i h1 h2 s' l) (fun s' l => ⟨by rw [ans], l⟩) ⟨H, I, Ext.rfl'⟩
theorem rc_L {op : CmpOp} {g : Bool → Bool} (hop : (op = .Eq ∧ g = id) ∨ (op = .NotEq ∧ g = not)) [Inhabited α] (hM : RMon R) (h : EqR X n R) : RcR op g X (n + 1) (repL R) := by
  intro A pins s σ H x y u v as bs sb I rx ry h1 h2
  obtain ⟨a, xs, rfl, ha, p⟩ := h1
  obtain ⟨b, ys, rfl, hb, q⟩ := h2
  cases rx
  cases ry
  by_cases hl : as.length = bs.length
  · have ans : ((List.range xs.length).all (fun i => decide (as[i]? = bs[i]?))) = decide (as = bs) := by
      rw [← all_eqs as bs, p.len, hl]
      simp
    have LB : GB.ListB X.prog X.w A X.xe a b xs.length (fun i => decide (as[i]? = bs[i]?)) (fun s' => LoopI X pins σ H s') := fun s' l => by
      obtain ⟨H1, I1, e1⟩ := id l
      obtain ⟨z, its, k, r, e⟩ := I1.hok a _ (e1 _ _ ha)
      obtain ⟨z2, its2, k2, r2, e2⟩ := I1.hok b _ (e1 _ _ hb)
      refine ⟨its.toArray, its2.toArray, k, k2, e, e2, by rw [List.size_toArray, ← r.length], by rw [List.size_toArray, ← r2.length, q.len, p.len, hl], fun i h1 h2 => ?_⟩
      exact turnR hM h sb p q r r2 i h1 h2 s' l
    rcases hop with ⟨rfl, rfl⟩ | ⟨rfl, rfl⟩
    · exact GB.rc_list_eq sb.room.units0 _ LB (fun s' l => ⟨by rw [ans]; rfl, l⟩) ⟨H, I, Ext.rfl'⟩
    · exact GB.rc_list_ne sb.room.units0 _ LB (fun s' l => ⟨by rw [ans], l⟩) ⟨H, I, Ext.rfl'⟩
  · obtain ⟨z, its, k, r, e⟩ := I.hok a _ ha
    obtain ⟨z2, its2, k2, r2, e2⟩ := I.hok b _ hb
    have hc : (its.toArray.size != its2.toArray.size) = true := by
      rw [List.size_toArray, List.size_toArray, ← r.length, ← r2.length, p.len, q.len]
      simpa using hl
    have ans : decide (as = bs) = false := decide_eq_false (fun z => hl (by rw [z]))
    rcases hop with ⟨rfl, rfl⟩ | ⟨rfl, rfl⟩
    · exact GB.rc_list_eqD sb.room.units0 hc e e2 ⟨by rw [ans]; rfl, H, I, Ext.rfl'⟩
    · exact GB.rc_list_neD sb.room.units0 hc e e2 ⟨by rw [ans]; rfl, H, I, Ext.rfl'⟩
theorem eqR_T [Inhabited α] (hM : RMon R) (hF : RFun R) (h : EqR X n R) : EqR X (n + 1) (repT R) := (rc_T (.inl ⟨rfl, rfl⟩) hM h).eqR (fun _ _ _ d => let ⟨p, _, hx, _⟩ := d; ⟨p, hx⟩) (repT_fn hF)
theorem eqR_L [Inhabited α] (hM : RMon R) (hF : RFun R) (h : EqR X n R) : EqR X (n + 1) (repL R) := (rc_L (.inl ⟨rfl, rfl⟩) hM h).eqR (fun _ _ _ d => let ⟨p, _, hx, _⟩ := d; ⟨p, hx⟩) (repL_fn hF)
/-- x == y, x != y as expressions -/
def rEqR (R : Rep α) (g : Bool → Bool) : R2 := fun x y H Q => ∃ a b, R x H a ∧ R y H b ∧ ∀ H', Ext H H' → Q (.bl (g (decide (a = b)))) H'
theorem op_eqR {g : Bool → Bool} (h : RcR .Eq g X n R) (hr : Room n X.A) : OpR X (compareOp .Eq) (rEqR R g) := by
  intro pins s σ H x y v u Q I rx ry hq
  obtain ⟨a, b, ra, rb, q⟩ := hq
  show wpAny (model X.prog X.w) X.A (richCompare .Eq v u) (EP X pins σ Q) X.xe s
  refine wpAny_mono (h X.A pins s σ H x y v u a b ⟨hr, rfl⟩ I rx ry ra rb) (fun r s' z => ?_) fun _ _ x => x
  obtain ⟨hr', H', I', e⟩ := z
  subst hr'
  exact ⟨.bl _, H', I', rfl, q H' e⟩
theorem op_neR {g : Bool → Bool} (h : RcR .NotEq g X n R) (hr : Room n X.A) : OpR X (compareOp .NotEq) (rEqR R g) := by
  intro pins s σ H x y v u Q I rx ry hq
  obtain ⟨a, b, ra, rb, q⟩ := hq
  show wpAny (model X.prog X.w) X.A (richCompare .NotEq v u) (EP X pins σ Q) X.xe s
  refine wpAny_mono (h X.A pins s σ H x y v u a b ⟨hr, rfl⟩ I rx ry ra rb) (fun r s' z => ?_) fun _ _ x => x
  obtain ⟨hr', H', I', e⟩ := z
  subst hr'
  exact ⟨.bl _, H', I', rfl, q H' e⟩
/-- an own class: its __eq__ answers by what the instances stand for -/
theorem rcR_ins {CX : CXT} {C f : Addr} {fd : FuncData} {ps : List Str} {sp : Sp} {E : XK} (F : FnOk X.prog X.w X.K X.mg X.base CX n f fd ps sp)
    (hs : PySem.W.findIn X.K (.ref C) "__eq__" = some (some (.ref f))) (hf : PySem.W.isFn X.K (.ref f) = true) (hb : Binds X.K fd ps []) (hx : Passes CX X E)
    (hi : ∀ x H a, R x H a → ∃ p dx fs, x = .ref p ∧ H p = some (.ins C dx fs))
    (hsp : ∀ p q H a b (Q : VK), R (.ref p) H a → R (.ref q) H b → (∀ H', Ext H H' → Q (.bl (decide (a = b))) H') → sp [.ref p, .ref q] H Q E) : RcR .Eq id X n R := by
  intro A pins s σ H x y u v a b sb I rx ry h1 h2
  obtain ⟨p, dx, fs, rfl, ha⟩ := hi _ _ _ h1
  obtain ⟨q, dy, gs, rfl, hb'⟩ := hi _ _ _ h2
  cases rx
  cases ry
  obtain ⟨mA, J, _⟩ := ins_get I.hok ha
  obtain ⟨mB, J', _⟩ := ins_get I.hok hb'
  obtain ⟨od, J, _⟩ := J.look
  obtain ⟨od', J', _⟩ := J'.look
  obtain ⟨m, hF⟩ := I.fr
  refine PySem.W.cmp_K (op := .Eq) (tb := .ref C) sb.room.units0 hF I.ok.mod.kin J J'.type (by simp [PySem.W.notFirst]) hs hf ?_
  have h := hsp p q H a b (fun v H' => v = .bl (decide (a = b)) ∧ Ext H H') h1 h2 (fun H' e => ⟨rfl, e⟩)
  have e0 : Env0 X.prog X.w X.K X.mg X.base A X.stack s H := by
    have e := I.env0
    exact ⟨by rw [sb.fr]; exact e.frames, e.mod, e.bs, e.bsz, e.funs, e.frf, e.hok, e.bare⟩
  have hl := F.len _ _ _ _ h
  have r2 : Vals [V.ref p, V.ref q] [Value.ref p, Value.ref q] := .cons rfl (.cons rfl .nil)
  refine wpAny_call (codeAny_mono (F.run A X.stack s H ⟨[.ref p, .ref q], []⟩ [.ref p, .ref q] [.ref p, .ref q] _ E sb.room e0 (by
    have := hb s [.ref p, .ref q] I.kIn (by simpa using hl)
    simpa using this) r2 h) fun r s' hq => ?_)
  cases r with
  | error e => exact hx pins σ H s e s' I hq
  | ok fl =>
    cases fl with
    | ret w =>
      obtain ⟨z, H', I', rz, ez, ex⟩ := I.after hq
      subst ez
      cases rz
      exact ⟨rfl, H', I', ex⟩
    | next => exact False.elim hq
    | brk => exact False.elim hq
    | cont => exact False.elim hq
theorem eqR_ins {CX : CXT} {C f : Addr} {fd : FuncData} {ps : List Str} {sp : Sp} {E : XK} (F : FnOk X.prog X.w X.K X.mg X.base CX n f fd ps sp)
    (hs : PySem.W.findIn X.K (.ref C) "__eq__" = some (some (.ref f))) (hf : PySem.W.isFn X.K (.ref f) = true) (hb : Binds X.K fd ps []) (hx : Passes CX X E)
    (hi : ∀ x H a, R x H a → ∃ p dx fs, x = .ref p ∧ H p = some (.ins C dx fs))
    (hsp : ∀ p q H a b (Q : VK), R (.ref p) H a → R (.ref q) H b → (∀ H', Ext H H' → Q (.bl (decide (a = b))) H') → sp [.ref p, .ref q] H Q E) (hF : RFun R) : EqR X n R :=
  (rcR_ins F hs hf hb hx hi hsp).eqR (fun x H a h => let ⟨p, _, _, e, _⟩ := hi x H a h; ⟨p, e⟩) hF
end
end Wx

namespace Wx
open PySem PySem.Spec PyProof.Rows L2 NdefX RZ StX
/-! own [..] and len, a class made of a starred list, defs with a starred parameter that may raise -/
abbrev rTupOf (K : PySem.W.Frag) : List V → Hp → VK → Prop := fun xs H Q => ∃ p ys, xs = [.ref p] ∧ ((SqL K H p ys ∧ ∀ l, H l = none → Q (.ref l) (upd H l (.tup ys))) ∨ (SqT K H p ys ∧ Q (.ref p) H))
section
variable {X : Cx}
def rIxA (K : PySem.W.Frag) : R2 := fun x y H Q => ∃ p xs i v, x = .ref p ∧ y = .int i ∧ (SqL K H p xs ∨ SqT K H p xs) ∧ atI xs i = some v ∧ Q v H
theorem ix_lortu : IxR X (rIxA X.K) := by
  intro value slice pins s σ H x y v u Q I rx ry h hs
  obtain ⟨p, xs, i, z, hx, hy, hq, he, q⟩ := h
  rcases hq with hq | hq
  · exact ix_list value slice pins s σ H x y v u Q I rx ry ⟨p, xs, i, z, hx, hy, hq, he, q⟩ hs
  · exact ix_tup value slice pins s σ H x y v u Q I rx ry ⟨p, xs, i, z, hx, hy, hq, he, q⟩ hs
end
section
variable {X : Cx} {CX : CXT} {C f : Addr} {n k : Nat} {fd : FuncData} {ps : List Str} {sp : Sp} {E : L2.St → XK} {a b e : Expr} {es : List Expr} {ta tb te : TE} {t : TA} {x : Str} {pos p sp_ : Pos}
/-- a call in a deeper place, what is raised told at the slots -/
theorem run_inS {A : Around} {pins : List (Addr × Obj)} {σ : L2.St} {H : Hp} {s : Shared} {us : List Value} {vs : List V} {Q : VK} {E : XK} (F : FnOk X.prog X.w X.K X.mg X.base CX n f fd ps sp) (hr : Room n A) (e0 : Env0 X.prog X.w X.K X.mg X.base A X.stack s H) (hb : Binds X.K fd ps []) (hx : PassesAt CX X σ E)
    (I : Inv X pins σ H s) (r : Vals vs us) (h : sp vs H Q E) : wpAny (model X.prog X.w) A (call (.ref f) us) (EP X pins σ Q) X.xe s := by
  have hl : us.length = ps.length := by rw [← r.length]; exact F.len _ _ _ _ h
  refine wpAny_call (codeAny_mono (F.run A X.stack s H ⟨us, []⟩ us vs Q E hr e0 (by
    have := hb s us I.kIn (by simpa using hl)
    simpa using this) r h) fun r s' hq => ?_)
  cases r with
  | error e => exact hx pins H s e s' I hq
  | ok fl =>
    cases fl with
    | ret w => exact I.after hq
    | next => exact False.elim hq
    | brk => exact False.elim hq
    | cont => exact False.elim hq
theorem run_inR {A : Around} {pins : List (Addr × Obj)} {σ : L2.St} {H : Hp} {s : Shared} {us : List Value} {vs : List V} {Q : VK} {E : XK} (F : FnR X.prog X.w X.K X.mg X.base CX n f sp) (hr : Room n A) (e0 : Env0 X.prog X.w X.K X.mg X.base A X.stack s H) (hx : PassesAt CX X σ E)
    (I : Inv X pins σ H s) (r : Vals vs us) (h : sp vs H Q E) : codeAny (model X.prog X.w) A (.call (.ref f) ⟨us, []⟩) (fun r s' => match r with | .ok (.ret v) => EP X pins σ Q v s' | .ok _ => False | .error e => X.xe e s') s := by
  refine codeAny_mono (F A X.stack s H us vs Q E hr e0 r h) fun r s' hq => ?_
  cases r with
  | error e => exact hx pins H s e s' I hq
  | ok fl =>
    cases fl with
    | ret w => exact I.after hq
    | next => exact False.elim hq
    | brk => exact False.elim hq
    | cont => exact False.elim hq
def tIxOwn (C : Addr) (sp : Sp) (E : L2.St → XK) (ta tb : TE) : TE := fun σ H Q => ta σ H fun x H1 => tb σ H1 fun y H2 => ∃ a dx fs, x = .ref a ∧ H2 a = some (.ins C dx fs) ∧ sp [x, y] H2 Q (E σ)
/-- x[i] by an own __getitem__ -/
theorem pe_ixOwn (F : FnOk X.prog X.w X.K X.mg X.base CX n f fd ps sp) (hr : Room (n + 1) X.A) (hs : PySem.W.findIn X.K (.ref C) "__getitem__" = some (some (.ref f))) (hf : PySem.W.fnIn X.K f = true) (hfn : PySem.W.isFn X.K (.ref f) = true) (hb : Binds X.K fd ps []) (hx : ∀ σ, PassesAt CX X σ (E σ))
    (ha : PE X a ta) (hb' : PE X b tb) (hsl : ∀ v i, subscripted b true v i = runValue (.builtin "lifetime.subscript" ⟨[v, i], []⟩) := by intro _ _; with_unfolding_all rfl) : PE X (.Subscript a b pos) (tIxOwn C sp E ta tb) := by
  refine ⟨fun pins s σ H Q I h => ?_⟩
  refine Subscript_ (binT ha hb' I h fun v u s2 x y H2 I2 rx ry q => ?_)
  obtain ⟨p, dx, fs, rfl, hp, q⟩ := q
  cases (show v = Value.ref p from rx)
  obtain ⟨mA, J, _⟩ := ins_get I2.hok hp
  obtain ⟨od, J, _⟩ := J.look
  obtain ⟨m, hF⟩ := I2.fr
  refine PySem.W.sub_K hF I2.ok.mod.kin J hs hf hfn ?_ (hsl _ _)
  exact run_inS (us := [.ref p, u]) (vs := [.ref p, y]) F hr.in1 I2.env0.in1 hb (hx σ) I2 (.cons rfl (.cons ry .nil)) q
/-- len(x) by an own __len__ -/
theorem call_lenOwn {E : XK} (F : FnOk X.prog X.w X.K X.mg X.base CX n f fd ps sp) (hr : Room (n + 1) X.A) (hs : PySem.W.findIn X.K (.ref C) "__len__" = some (some (.ref f))) (hfn : PySem.W.isFn X.K (.ref f) = true) (hb : Binds X.K fd ps []) (hx : Passes CX X E) :
    CallR X (.builtin "len") (fun xs H Q => ∃ a dx fs, xs = [.ref a] ∧ H a = some (.ins C dx fs) ∧ sp xs H (fun z H' => ∃ n : Nat, z = .int n ∧ n ≤ 1000000 ∧ Q (.int n) H') E) := by
  intro pins s σ H xs us Q I r h
  obtain ⟨p, dx, fs, rfl, hp, q⟩ := h
  obtain ⟨u, rfl, rx⟩ := vals1 r
  cases (show u = Value.ref p from rx)
  obtain ⟨mA, J, _⟩ := ins_get I.hok hp
  obtain ⟨od, J, _⟩ := J.look
  obtain ⟨m, hF⟩ := I.fr
  refine PySem.W.len_K hF I.ok.mod.kin J hs hfn ?_
  refine wpAny_mono (run_inS (us := [.ref p]) (vs := [.ref p]) F hr.in1 I.env0.in1 hb (fun pins H s e s' I c => hx pins σ H s e s' I c) I (.cons rfl .nil) q) (fun w s' z => ?_) fun _ _ x => x
  obtain ⟨z', H', I', rz, k, ez, hk, qz⟩ := z
  subst ez
  obtain ⟨t, rfl⟩ := rz
  exact ⟨⟨by omega, by omega⟩, .int k, H', I'.tok _, ⟨_, rfl⟩, qz⟩
/-- the spec of a def with a starred last parameter, as it is called -/
def spStar (m : Nat) (sp : Sp) : Sp := fun vs H Q E => ∃ ws rest, vs = ws ++ rest ∧ ws.length = m ∧ rest.length ≤ sizeLine ∧ ∀ p, H p = Option.none → sp (ws ++ [V.ref p]) (upd H p (.tup rest)) Q E
theorem star1 {sp : Sp} {a : V} {rest : List V} {H : Hp} {Q : VK} {E : XK} (hl : rest.length ≤ sizeLine) (h : ∀ p, H p = Option.none → sp [a, .ref p] (upd H p (.tup rest)) Q E) : spStar 1 sp (a :: rest) H Q E := ⟨[a], rest, rfl, rfl, hl, h⟩
def tMakeRS (C : Addr) (sp : Sp) (E : L2.St → XK) (t : TA) : TE := fun σ H Q => t σ H fun vs H1 => ∀ x dx, H1 x = Option.none → H1 dx = Option.none → dx ≠ x →
  sp (V.ref x :: vs) (upd (upd H1 dx (.own x)) x (.ins C dx [])) (fun v H2 => v = .non ∧ Q (.ref x) H2) (E σ)
theorem run_makeRS {pins : List (Addr × Obj)} {σ : L2.St} {H : Hp} {s : Shared} {Q : VK} {us : List Value} {vs : List V} {E : XK} (M : Mk X.K C f) (F : FnR X.prog X.w X.K X.mg X.base CX k f sp) (hr : Room (k + 1) X.A) (hx : PassesAt CX X σ E) (I : Inv X pins σ H s) (r : Vals vs us)
    (h : ∀ x dx, H x = Option.none → H dx = Option.none → dx ≠ x → sp (V.ref x :: vs) (upd (upd H dx (.own x)) x (.ins C dx [])) (fun v H2 => v = .non ∧ Q (.ref x) H2) E) :
    wpAny (model X.prog X.w) X.A (call (.ref C) us) (EP X pins σ Q) X.xe s := by
  have hq := h (s.heap.objs.size + 1) s.heap.objs.size (I.hok.fresh (Nat.le_succ _)) (I.hok.fresh (Nat.le_refl _)) (Nat.ne_of_lt (Nat.lt_succ_self _))
  have I2 := Inv.made (C := C) I
  have r2 : Vals (V.ref (s.heap.objs.size + 1) :: vs) (Value.ref (s.heap.objs.size + 1) :: us) := .cons rfl r
  refine wpAny_call (make_map (f := f) I.kIn M.makes M.init (beq_iff_eq.mp M.fn) (codeAny_mono (F _ X.stack _ _ (Value.ref (s.heap.objs.size + 1) :: us) _ _ E (hr.make C us []) (I2.env0.make C us []) r2 hq) fun r s' hq' => ?_))
  cases r with
  | error e => exact hx pins _ _ e s' I2 hq'
  | ok fl =>
    cases fl with
    | ret u =>
      obtain ⟨v, H', I3, rv, ev, q3⟩ := I2.after hq'
      subst ev
      exact ⟨rv, ⟨V.ref (s.heap.objs.size + 1), H', I3, rfl, q3⟩⟩
    | next => exact False.elim hq'
    | brk => exact False.elim hq'
    | cont => exact False.elim hq'
/-- C(e, ..) -/
theorem pe_makeRS (M : Mk X.K C f) (F : FnR X.prog X.w X.K X.mg X.base CX k f sp) (hr : Room (k + 1) X.A) (hg : Gl X x) (hm : X.mg x = some (.ref C)) (hx : ∀ σ, PassesAt CX X σ (E σ)) (ha : PA X (e :: es) t) (hdb : (x == ("__debug__" : Str)) = false := by decide)
    (he : starEach (e :: es) X.env = (false, eval e X.env) :: starEach es X.env := by rfl) (hpl : (backTo pos (starEach es X.env)).any (·.1) = false := by rfl) : PE X (.Call (.Name x p) (e :: es) [] pos) (tMakeRS C sp E t) := by
  refine ⟨fun pins s σ H Q I h => ?_⟩
  refine wpAny_Call_Name_kw (ld_glob I hg hm ?_ hdb)
  refine PySem.W.callWith_K (h₀ := X.base) I.ok.mod.kin M.kp (thn (ha.run pos pins s σ H _ I h) fun us s1 ⟨vs, H1, I1, r, q⟩ => ⟨I1.kIn, ?_⟩) he hpl
  exact run_makeRS M F hr (hx σ) I1 r q
/-- C() -/
theorem pe_makeRS0 (M : Mk X.K C f) (F : FnR X.prog X.w X.K X.mg X.base CX k f sp) (hr : Room (k + 1) X.A) (hg : Gl X x) (hm : X.mg x = some (.ref C)) (hx : ∀ σ, PassesAt CX X σ (E σ)) (hdb : (x == ("__debug__" : Str)) = false := by decide) :
    PE X (.Call (.Name x p) [] [] pos) (tMakeRS C sp E (fun _ H Q => Q [] H)) := by
  refine ⟨fun pins s σ H Q I h => ?_⟩
  refine wpAny_Call_Name_kw (ld_glob I hg hm ?_ hdb)
  refine PySem.W.callWith_K0 I.kIn M.kp ?_
  exact run_makeRS (us := []) M F hr (hx σ) I .nil h
/-- C(*y) -/
def tMakeStar (K : PySem.W.Frag) (C : Addr) (sp : Sp) (E : L2.St → XK) (te : TE) : TE := fun σ H Q => te σ H fun y H1 => ∃ a xs, y = V.ref a ∧ (SqT K H1 a xs ∨ SqL K H1 a xs) ∧ ∀ x dx, H1 x = Option.none → H1 dx = Option.none → dx ≠ x →
  sp (V.ref x :: xs) (upd (upd H1 dx (.own x)) x (.ins C dx [])) (fun v H2 => v = .non ∧ Q (.ref x) H2) (E σ)
theorem pe_makeStar (M : Mk X.K C f) (F : FnR X.prog X.w X.K X.mg X.base CX k f sp) (hr : Room (k + 1) X.A) (hg : Gl X x) (hm : X.mg x = some (.ref C)) (hx : ∀ σ, PassesAt CX X σ (E σ)) (he : PE X e te) (hdb : (x == ("__debug__" : Str)) = false := by decide)
    (hst : starEach [.Starred e sp_] X.env = [(true, eval e X.env)] := by rfl) : PE X (.Call (.Name x p) [.Starred e sp_] [] pos) (tMakeStar X.K C sp E te) := by
  refine ⟨fun pins s σ H Q I h => ?_⟩
  refine wpAny_Call_Name_kw (ld_glob I hg hm ?_ hdb)
  refine PySem.W.callWith_S (h₀ := X.base) I.ok.mod.kin M.kp (thn (he.run pins s σ H _ I h) fun v s1 ⟨y, H1, I1, ry, a, xs, ey, hxs, q⟩ => ?_) hst
  subst ey
  obtain rfl : v = Value.ref a := ry
  exact star_any I1 hxs fun us s2 I2 rv => ⟨I2.kIn, run_makeRS M F hr (hx σ) I2 rv q⟩
end
section
variable {P : Program} {w : World} {K : PySem.W.Frag} {mg : Str → Option Value} {base : Heap}
/-- a def whose last parameter is starred -/
theorem okStar {x qual : Str} {st : Stmt} {f : Addr} {fd : FuncData} {N ps : List Str} {pv : Str} {k : Nat} {sp : Sp} (F : L2.Fun K x qual st f fd) (S : FnScope N (ps ++ [pv]) (defScope st))
    (hb : ∀ (kV doc pm : Value) (an : Option Addr) (cdv ct : Value) (us rest : List Value), us.length = ps.length → bindArgs (PySem.W.fnOf x qual (defArgs st) (defBody st) (defScope st) .none kV doc pm an cdv ct) ⟨us ++ rest, []⟩ = (newTuple rest >>= fun t => pure (ps.zip us ++ [(pv, t)])))
    (hbody : ∀ (cdv : Value) (A : Around) (outer : List Env) (s : Shared) (H : Hp) (vs : List V) (Q : VK) (E : XK), Room k (A.deeper (envOfC qual (defScope st) s.heap.objs.size f cdv)) → sp vs H Q E →
      ∃ t, PSs (cxOf (L2.CX P w) P w K mg base N qual (defScope st) f cdv A outer s H E) (defBody st) t ∧ t { nx := fun _ H' => Q .non H', rt := Q } (start N vs) H) : FnR P w K mg base (L2.CX P w) (k + 1) f (spStar ps.length sp) := by
  obtain ⟨oc, od, kV, doc, pm, an, cdv, ct, osl, rfl, lk, hcd⟩ := F.ex
  exact fn_star lk hcd S cxUp (hb kV doc pm an cdv ct) fun A outer s H vs Q E hr hsp => hbody cdv A outer s H vs Q E hr hsp
end
end Wx

namespace Wx
open PySem PySem.Spec PyProof.Rows L2 NdefX RZ StX
section
variable {X : Cx}
theorem lc_coreU {E : L2.St → XK} {pins : List (Addr × Obj)} {s : Shared} {σ : L2.St} {H : Hp} {Q : VK} {elt tg iter : Expr} {ifs : List Expr} {scope : Scope} {own : List (Str × Nat)} {pos pos' : Pos} {wi : TI} {g : TG} {tt : TT} {te : XK → TE} {Qf : Value → Shared → Prop} {us_ : Value → Sem Unit}
    (hc : X.calm = true) (hN : X.N.Nodup) (I : Inv X pins σ H s) (hi : PI X tg iter wi) (ok : BlkOk X.N X.env.scope scope own)
    (hg : ∀ (s : Shared) (H : Hp) (C : Addr) (cl : List (Str × Addr)) (fp : List Addr), PG (X.blk s H scope (compEnvC scope cl C X.env) fp) tg g) (ht : ∀ (s : Shared) (H : Hp) (C : Addr) (cl : List (Str × Addr)) (fp : List Addr), PTs (X.blk s H scope (compEnvC scope cl C X.env) fp) ifs tt)
    (air : Air X σ (E σ)) (he : ∀ (s : Shared) (H : Hp) (C : Addr) (cl : List (Str × Addr)) (fp : List Addr) (xe : Value → Shared → Prop) (E1 : XK), (∀ σ1, Air ((X.blk s H scope (compEnvC scope cl C X.env) fp).wish xe) σ1 E1) → PE ((X.blk s H scope (compEnvC scope cl C X.env) fp).wish xe) elt (te E1)) (hs : ∀ x, foldedSetIterable iter X.env x = pure x)
    (h : tLc wi g tt (te (E σ)) (own.map (·.2)) σ H Q)
    (hRR : ∀ D C s' m H', Inv X pins σ H' s' → Q (.ref D) H' → s'.heap.Ns C m → FpOk X pins H' C → compPost (model X.prog X.w) X.A X.xe (some us_) Qf (.ref D) C (.ok .next) s') :
    wpAny (model X.prog X.w) X.A (comprehension (.ListComp elt [⟨tg, iter, ifs, 0⟩] scope pos) scope X.env pos' (newList []) false (eval iter X.env) (some us_)) Qf X.xe s := by
  have hfree : ∀ y ∈ scope.names, y.2 = .free → ∃ c, X.env.cells.lookup y.1 = some c := fun y hy e => by
    rcases ok.free y hy e with k | k
    · exact I.ok.has _ (.inl k)
    · exact I.ok.has _ (.inr k)
  refine comprehension_freeX (use := some us_) rfl hs (closure_ok hfree) ok.kind (fun y hy e => by rw [ok.uniq y hy, e])
    (thn (hi.run pins s σ H _ I h) fun xv s1 hx => thn hx fun itv s2 h2 => ?_)
  obtain ⟨it, fp, tn, J, H2, e, I2, T, st2, f2, q⟩ := h2
  subst e
  refine wpAny_newObj_type (newEnv_comp ?_) (by show 0 ≤ sizeLine; decide)
  generalize hD : s2.heap.objs.size = D
  have hDn : H2 D = none := I2.hok.fresh (Nat.le_of_eq hD)
  obtain ⟨W, ⟨m0, w0⟩, turn⟩ := q D hDn
  -- the new list
  generalize hs3 : ({ s2 with heap := s2.heap.push { cls := .type "list", data := .seq ([] : List Value).toArray } } : Shared) = s3
  have I3 : Inv X pins σ (upd H2 D (.lst [])) s3 := by
    rw [← hs3]
    refine I2.laid (t' := s2.toks) (fun b o e => Heap.get?_push_of_some _ e) (Nat.le_of_eq hD) ⟨Nat.zero_le _, [], 0, .nil, ?_⟩
    rw [← hD]
    exact Heap.get?_push_size _ rfl
  have h3 : s3.heap = s2.heap.push { cls := .type "list", data := .seq ([] : List Value).toArray } := by rw [← hs3]
  have sz : ∀ b ∈ fp, b < s2.heap.objs.size := fun b hb => by
    obtain ⟨o, e, _⟩ := T.obj _ _ st2 b hb
    exact Heap.lt_size e
  have f3 : ∀ b ∈ fp, FpOk X pins (upd H2 D (.lst [])) b ∧ b < s3.heap.objs.size := fun b hb => by
    have hlt := sz b hb
    refine ⟨⟨?_, (f2 b hb).2⟩, by rw [h3, Heap.size_push]; exact Nat.lt_succ_of_lt hlt⟩
    rw [upd_ne (by rw [← hD]; exact Nat.ne_of_lt hlt)]
    exact (f2 b hb).1
  have st3 : tn 0 s3.heap := T.keep _ _ _ st2 fun b _ o e => by rw [h3]; exact Heap.get?_push_of_some _ e
  have I4 := block_start I3 ok hN f3
  have pg := hg s3 (upd H2 D (.lst [])) s3.heap.objs.size (cellsFrom (s3.heap.objs.size + 1) scope.names (cloFrom X.env.cells scope.names [])) fp
  have pt := ht s3 (upd H2 D (.lst [])) s3.heap.objs.size (cellsFrom (s3.heap.objs.size + 1) scope.names (cloFrom X.env.cells scope.names [])) fp
  have pe := he s3 (upd H2 D (.lst [])) s3.heap.objs.size (cellsFrom (s3.heap.objs.size + 1) scope.names (cloFrom X.env.cells scope.names [])) fp
  have cF : (compEnvC scope (cellsFrom (s3.heap.objs.size + 1) scope.names (cloFrom X.env.cells scope.names [])) s3.heap.objs.size X.env).frame = X.env.frame := rfl
  show codeAny _ _ (.compStart (.ListComp elt [⟨tg, iter, ifs, 0⟩] scope pos) 0 (.ref it) (.ref D) (compEnvC scope (cellsFrom (s3.heap.objs.size + 1) scope.names (cloFrom X.env.cells scope.names [])) s3.heap.objs.size X.env)) (postX (model X.prog X.w) X.A X.xe (some us_) Qf (.ref D) (compEnvC scope (cellsFrom (s3.heap.objs.size + 1) scope.names (cloFrom X.env.cells scope.names [])) s3.heap.objs.size X.env)) { s3 with heap := pushCells (s3.heap.push { cls := .type "dict", data := .dict #[] }) scope.names }
  have nfp : ∀ b ∈ fp, (upd H2 D (.lst [])) b = none := fun b hb => (f3 b hb).1.1
  generalize hce : compEnvC scope (cellsFrom (s3.heap.objs.size + 1) scope.names (cloFrom X.env.cells scope.names [])) s3.heap.objs.size X.env = ce at I4 pg pt pe cF ⊢
  have cL : ce.locals = s3.heap.objs.size := by subst hce; rfl
  generalize hH3 : upd H2 D (.lst []) = H3 at I3 I4 pg pt pe w0 nfp f3
  generalize hs4 : ({ s3 with heap := pushCells (s3.heap.push { cls := .type "dict", data := .dict #[] }) scope.names } : Shared) = s4 at I4 ⊢
  have st4 : tn 0 s4.heap := T.keep _ _ _ st3 fun b _ o e => by rw [← hs4]; exact pushCells_keeps _ _ _ _ (Heap.get?_push_of_some _ e)
  have stat : ∀ {σ' : L2.St} {H' : Hp} {s' : Shared}, Inv (X.blk s3 H3 scope ce fp) [] σ' H' s' → (∀ b ∈ fp, H' b = none) → ∀ b ∈ fp, FpOk (X.blk s3 H3 scope ce fp) [] H' b := fun {σ' H' s'} I' hn b hb =>
    ⟨hn b hb, (I'.ok.exf b hb).1, I'.ok.exfs b hb, .inl hb, fun x c e => (I'.ok.exf b hb).2 x c e, fun p hp => absurd (show p ∈ ([] : List (Addr × Obj)) ++ [] from hp) (by simp)⟩
  have loop : codeAny (model X.prog X.w) X.A (.compLoop (.ListComp elt [⟨tg, iter, ifs, 0⟩] scope pos) 0 (.ref it) (.ref D) ce) (postX (model X.prog X.w) X.A X.xe (some us_) Qf (.ref D) ce) s4 := by
    refine compLoop_any (fun n s' => ∃ i H', Inv (X.blk s3 H3 scope ce fp) [] (wipe σ (own.map (·.2))) H' s' ∧ tn i s'.heap ∧ (∀ b ∈ fp, H' b = none) ∧ W i n H') ?_ m0 ⟨0, H3, I4, st4, nfp, w0⟩
    rintro n s5 ⟨i, H5, I5, st5, n5, w5⟩
    rcases turn i n H5 w5 with ⟨stop, qq⟩ | ⟨go, Nx, hNx, step⟩
    · have td := T.done (X.blk s3 H3 scope ce fp) rfl rfl rfl hc i [] s5 _ H5 (fun _ _ => False) I5 (stat I5 n5) st5 stop
      refine thnF td fun r s6 ⟨hr, I6⟩ => ?_
      subst hr
      -- back in the def's context
      have I7 : Inv X pins σ H5 s6 := I3.call' (ch := fp) I6.os I6.base I6.hok I6.bare fun b hb => ⟨(f3 b hb).1.2.2.2.1, (f3 b hb).1.2.1, (f3 b hb).1.2.2.2.2.1, (f3 b hb).1.2.2.2.2.2⟩
      have nC : H5 s3.heap.objs.size = none := by
        have z : H5 ce.locals = none := I6.free
        rw [cL] at z
        exact z
      obtain ⟨m, hn, _⟩ := I6.loc
      have hn : s6.heap.Ns ce.locals m := hn
      rw [cL] at hn
      have hR := hRR D s3.heap.objs.size s6 m H5 I7 qq hn (I3.fpOk (Nat.le_refl _) nC)
      rw [← cL] at hR
      exact hR
    · have ti := T.item (X.blk s3 H3 scope ce fp) rfl rfl rfl hc i [] s5 _ H5 (fun _ _ => False) I5 (stat I5 n5) st5 go
      refine thnF ti fun r s6 ⟨u, hr, h6⟩ => ?_
      subst hr
      refine thnF h6 fun _ s7 ⟨x, H7, I7, r7, y7, st7, n7⟩ => ?_
      have I7' := I7.pinned (stat I7 n7) (T.obj _ _ st7)
      refine thnF (pg.run _ s7 _ H7 x u _ I7' r7 (step x H7 y7)) fun _ s8 ⟨σ8, H8, I8, hw8, q8⟩ => ?_
      refine thnF (pt.run _ s8 σ8 H8 _ I8 q8) fun b s9 ⟨H9, I9, q9⟩ => ?_
      -- the turn's end
      have fin : ∀ {s' : Shared} {H' : Hp}, Inv (X.blk s3 H3 scope ce fp) ([] ++ pinsAt fp s7.heap) σ8 H' s' → Nx H' → ∃ m, m < n ∧ ∃ i H', Inv (X.blk s3 H3 scope ce fp) [] (wipe σ (own.map (·.2))) H' s' ∧ tn i s'.heap ∧ (∀ b ∈ fp, H' b = none) ∧ W i m H' := fun {s' H'} I' nx => by
        obtain ⟨m', hm, w'⟩ := hNx H' nx
        have pin' : ∀ b ∈ fp, ∀ o, s7.heap.get? b = some o → s'.heap.get? b = some o ∧ H' b = none := fun b hb o e =>
          let z := I'.pin (b, o) (List.mem_append_right _ (List.mem_append_right _ (mem_pinsAt hb e)))
          ⟨z.1, z.2.1⟩
        have hl : (wipe σ (own.map (·.2))).length = σ8.length := by rw [← hw8, wipe_length]
        refine ⟨m', hm, i + 1, H', (I'.unpinned (pins := [])).weak hl (fun j v e => ?_), T.keep _ _ _ st7 fun b hb o e => (pin' b hb o e).1, fun b hb => ?_, w'⟩
        · rw [← hw8] at e
          exact (wipe_some e).1
        · obtain ⟨o, e, _⟩ := T.obj _ _ st7 b hb
          exact (pin' b hb o e).2
      cases b with
      | false =>
        simp only [Bool.false_eq_true, if_false] at q9 ⊢
        exact fin I9 q9
      | true =>
        simp only [if_true] at q9 ⊢
        obtain ⟨ev, outer, L, hstk, hfr, hXf, kx⟩ := air.ex
        refine wpAny_mono ((pe (fun u s' => ∃ H' sI, Inv X pins σ H' sI ∧ (∃ m, sI.heap.Ns ce.locals m) ∧ H' ce.locals = none ∧ Aloft X.stack L sI H' (E σ) u s') (E σ) (fun σ1 => ⟨ev, outer, L, hstk, hfr, cF.trans hXf, fun pins1 H1 sI u s' I1 al => ?_⟩)).run _ s9 σ8 H9 _ (I9.wish _) q9) (fun z s10 ⟨yv, H10, I10, r10, acc, hD10, hz10, nx⟩ => ?_) (fun u s10 hx => ?_)
        · have I1' := I1.unwish
          obtain ⟨m, hn, _⟩ := I1'.loc
          exact ⟨H1, sI, I3.call' (ch := fp) I1'.os I1'.base I1'.hok I1'.bare fun b hb => ⟨(f3 b hb).1.2.2.2.1, (f3 b hb).1.2.1, (f3 b hb).1.2.2.2.2.1, (f3 b hb).1.2.2.2.2.2⟩, ⟨m, hn⟩, I1'.free, al⟩
        · exact app_ok (X := X.blk s3 H3 scope ce fp) I10.unwish hD10 hz10 r10 fun s11 I11 => fin I11 nx
        · obtain ⟨H', sI, JX, ⟨m, hn⟩, nC, a, B, cls, d, rfl, nb, up, sky, na, os, ag, w⟩ := hx
          have fpC : FpOk X pins H' ce.locals := I3.fpOk (by rw [cL]; exact Nat.le_refl _) nC
          obtain ⟨f0, f1, f2, f3', f4, f5⟩ := fpC
          have frA : X.A.frames = some (ev :: outer) := I3.ok.frames.trans (congrArg some hstk)
          have cNot : ce.locals ∉ frs X.stack := fun hm => by
            rcases List.mem_cons.mp (I3.stkSub _ hm) with z | z
            · exact f1 z
            · exact f2 z
          show wpAny _ X.A (noteFrame (Value.ref a) ce) _ _ _
          rw [note_same (e2 := ev) (by rw [cF, hXf, hfr])]
          -- noted by the frame
          have held : ∀ {Q : Unit → Shared → Prop} {E' : Value → Shared → Prop}, (∀ h1, HandSPX.HeldZ B (ev :: outer) a (Zc cls d) L h1 → s10.heap.UpToSlots h1 → Q () { s10 with heap := h1 }) → wpAny (model X.prog X.w) X.A (noteFrame (.ref a) ev) Q E' s10 := fun {Q E'} k => by
            rw [hstk] at sky
            rcases sky with ⟨hB, hn, hl, oe, vs, he, hz, hd, h1⟩ | fl | hh
            · exact HandSPX.look_newZ Zc.steady frA hl hfr he hB hn hd h1 hz k
            · exact HandSPX.looks_onZ Zc.steady frA hfr fl k
            · exact HandSPX.againZ hfr hh.2.2.2 (k s10.heap hh (Heap.UpToSlots.refl _))
          refine held fun h1 hh1 up1 => ?_
          have upH : sI.heap.UpToSlots h1 := up.trans up1
          refine ⟨m, upH.ns hn, fun h2 sb2 => ?_⟩
          -- the ground without the block's names
          obtain ⟨B', b1, b2⟩ := restrict B fun b => decide (b ≠ ce.locals)
          obtain ⟨G, g1, g2⟩ := restrict sI.heap fun b => decide (b ≠ ce.locals)
          have bB : ∀ b o, B'.get? b = some o → b ≠ ce.locals ∧ B.get? b = some o := fun b o e => by
            by_cases q : b = ce.locals
            · rw [b2 b (by simp [q])] at e
              cases e
            · exact ⟨q, by rw [b1 b (by simp [q])] at e; exact e⟩
          have gG : ∀ b o, G.get? b = some o → b ≠ ce.locals ∧ sI.heap.get? b = some o := fun b o e => by
            by_cases q : b = ce.locals
            · rw [g2 b (by simp [q])] at e
              cases e
            · exact ⟨q, by rw [g1 b (by simp [q])] at e; exact e⟩
          obtain ⟨k1, k2, k3, oe, vs, T1, oT1, ts, he1, hz1, hd1, hv1, hbT, hTa, hT1, hdT, hfl⟩ := hh1
          obtain ⟨oC, es, ep, hoC, hdC, _⟩ := hn
          have BC : B.get? ce.locals = some oC := nb _ _ hoC cNot
          have aC : a ≠ ce.locals := fun z => by rw [z] at k2; rw [k2] at BC; cases BC
          have TC : T1 ≠ ce.locals := fun z => by rw [z] at hbT; rw [hbT] at BC; cases BC
          have sb : ∀ b, b ≠ ce.locals → h2.get? b = h1.get? b := sb2.2
          have B'a : B'.get? a = none := by rw [b1 a (by simp [aC])]; exact k2
          have B'T : B'.get? T1 = none := by rw [b1 T1 (by simp [TC])]; exact hbT
          have fF : h2.FunFrames B' (ev :: outer) := funFrames_step k3 (fun b q => by
              cases z : B'.get? b with
              | none => rfl
              | some o =>
                rw [(bB b o z).2] at q
                cases q) fun b o q e => (sb b (fun z => by rw [z, BC] at q; cases q)).trans e
          have kB : B'.StaysIn h2 := fun b o e => (sb b (bB b o e).1).trans (k1 b o (bB b o e).2)
          have he2 : h2.get? a = some oe := (sb a aC).trans he1
          have hh2 : HandSPX.HeldZ B' (ev :: outer) a (Zc cls d) L h2 := ⟨kB, B'a, fF, oe, vs, T1, oT1, ts, he2, hz1, hd1, hv1, B'T, hTa, (sb T1 TC).trans hT1, hdT, hfl⟩
          unfold PySem.passOn
          refine wpAny_bind (wpAny_field he2 hd1 hv1 ?_)
          rw [if_neg (show ¬ ((Value.ref T1 == Value.none) = true) by simp)]
          have fin2 : wpAny (model X.prog X.w) X.A (setFlight (.ref a) ce.frame) (fun _ s4 => wpAny (model X.prog X.w) X.A (throw (.ref a) : Sem Value) (fun _ _ => False) X.xe s4) X.xe { s10 with heap := h2 } := by
            rw [cF, hXf]
            refine HandSPX.setFlight_onZ hh2 fun h4 hh4 up4 => wpAny_throw ?_
            refine kx pins H' { sI with heap := G } _ _ (JX.turned (t' := sI.toks) (fun b o hb e => (g1 b (by simp [hb])).trans e) f0 f1 f3' f4 f5) ⟨a, B', cls, d, rfl, fun b o e hb => ?_, ?_, ?_, na, os, ag, w⟩
            · obtain ⟨q1, q2⟩ := gG b o e
              exact (b1 b (by simp [q1])).trans (nb b o q2 hb)
            · refine Heap.UpToSlots.trans (fun b o e nf => ?_) up4
              obtain ⟨q1, q2⟩ := gG b o e
              obtain ⟨sl, q3⟩ := upH b o q2 nf
              exact ⟨sl, (sb b q1).trans q3⟩
            · rw [hstk]
              exact .inr (.inr hh4)
          first
            | exact wpAny_bind (wpAny_pure (wpAny_bind fin2))
            | exact wpAny_bind fin2
  exact codeAny_compStart_list loop (T.self X.A 0 _ _ _ st4 loop)
/-- name = [..], what the element lets out is let out -/
theorem ps_setLcX {E : L2.St → XK} {i : Nat} {y : Str} {py : Pos} {elt tg iter : Expr} {ifs : List Expr} {scope : Scope} {own : List (Str × Nat)} {pos spos : Pos} {wi : TI} {g : TG} {tt : TT} {te : XK → TE} (air : ∀ σ, Air X σ (E σ)) (hc : X.calm = true) (hN : X.N.Nodup) (hy : X.N[i]? = some y) (hyl : X.env.scope.names.lookup y = some .local)
    (hsw : swapsWith (.ListComp elt [⟨tg, iter, ifs, 0⟩] scope pos) (some (.Name y py)) spos.line X.env = pure true) (hi : PI X tg iter wi) (ok : BlkOk X.N X.env.scope scope own)
    (hg : ∀ (s : Shared) (H : Hp) (C : Addr) (cl : List (Str × Addr)) (fp : List Addr), PG (X.blk s H scope (compEnvC scope cl C X.env) fp) tg g) (ht : ∀ (s : Shared) (H : Hp) (C : Addr) (cl : List (Str × Addr)) (fp : List Addr), PTs (X.blk s H scope (compEnvC scope cl C X.env) fp) ifs tt)
    (he : ∀ (s : Shared) (H : Hp) (C : Addr) (cl : List (Str × Addr)) (fp : List Addr) (xe : Value → Shared → Prop) (E1 : XK), (∀ σ1, Air ((X.blk s H scope (compEnvC scope cl C X.env) fp).wish xe) σ1 E1) → PE ((X.blk s H scope (compEnvC scope cl C X.env) fp).wish xe) elt (te E1)) (hs : ∀ x, foldedSetIterable iter X.env x = pure x := by intro _; rfl) :
    PS X (.Assign [.Name y py] (.ListComp elt [⟨tg, iter, ifs, 0⟩] scope pos) spos) (tAsg (fun σ H Q => tLc wi g tt (te (E σ)) (own.map (·.2)) σ H Q) (gName i)) := by
  refine ⟨fun pins s σ H D I h => ?_⟩
  rw [exec_Assign_Name_used _ _ _ _ hsw]
  refine wpAny_bind (wpAny_standAt (wpAny_bind ?_))
  show wpAny _ X.A (do let _ ← comprehension (.ListComp elt [⟨tg, iter, ifs, 0⟩] scope pos) scope X.env (firstIterPos [⟨tg, iter, ifs, 0⟩] pos) (newList []) false (eval iter X.env) (some (assign (.Name y py) X.env))) _ _ s
  have h : tLc wi g tt (te (E σ)) (own.map (·.2)) σ H (fun x H1 => gName i x σ H1 D.nx) := h
  refine wpAny_bind (thn (lc_coreU (Qf := fun _ s' => SP X pins D .next s') hc hN I hi ok hg ht (air σ) he hs h fun L C s' m H' I' q hn f => ?_) fun _ s' hq => wpAny_pure (wpAny_pure hq))
  show wpAny _ _ (assign (.Name y py) X.env (.ref L)) _ _ _
  refine wpAny_assign_Name (store_ok2 (v := V.ref L) I' hN hy (.inl hyl) rfl (fun s2 I2 ⟨a, sb, ha⟩ => ?_) (.inr hyl))
  obtain ⟨f0, f1, f2, f3, f4, f5⟩ := f
  have haC : C ≠ a := by
    rcases ha with z | z
    · rw [z]; exact f1
    · exact fun e => f4 y a z e.symm
  refine ⟨m, hn.sameBut sb haC, fun h3 sb3 => ?_⟩
  exact ⟨_, H', I2.turned (t' := s2.toks) (fun b o hb e => (sb3.2 b hb).trans e) f0 f1 f3 f4 f5, q⟩
end
end Wx

namespace Wx
open PySem PySem.Spec PyProof.Rows L2 NdefX RZ StX
/-! a whole number + an instance, by the instance's __radd__ -/
section
variable {prog : Program} {w : World} {A : Around} {E : Value → Shared → Prop} {s : Shared} {K : PySem.W.Frag} {x C f g : Addr} {ox : Obj} {od : Option Obj} {h₀ : Heap} {L : Addr} {m : Str → Option Value}
open AutoSeq1 (wpAny_loadPart')
theorem int_add_inst {i : Int} {t : Tok} {Q : Value → Shared → Prop} {cls : Value} {dd : Option Addr} {sl : Array (Option Value)} (hx : s.heap.get? x = some { cls := cls, dict := dd, data := .plain, slots := sl }) (q : Q .notImplemented s) :
    wpAny (model prog w) A (call (.builtin "int.__add__") [.int i t, .ref x]) Q E s := by
  refine wpAny_call (codeAny_call_builtin PySem.F.slot_int_add.plain PySem.F.entry_int_add (PySem.F.slot_int_add.check _ _ _ _ _ _ _ _ (by exact typeIs_int _ _ _) (PySem.F.args_int_add_2 _ _) ?_))
  obtain ⟨hp, g, d, tk, os⟩ := s
  wp_walk using wpAny_loadPart' hx
  exact q
theorem binop_rev {i : Int} {t : Tok} {Q : Value → Shared → Prop} {dd : Option Addr} {sl : Array (Option Value)} {cls : Value} (hx : s.heap.get? x = some { cls := cls, dict := dd, data := .plain, slots := sl }) (FR : Fr h₀ L s.heap m) (X₀ : K.In h₀) (I : PySem.W.InstAt s.heap x ox C od) (hc : PySem.W.selfFirst K C = true)
    (hs : PySem.W.findIn K (.ref C) (PySem.dunder "add") = some (some (.ref g))) (hr : PySem.W.findIn K (.ref C) (PySem.dunderR "add") = some (some (.ref f))) (hf : PySem.W.isFn K (.ref f) = true) (hsub : PySem.W.subIn K (.ref C) (.type "int") = some false)
    (h : wpAny (model prog w) A (call (.ref f) [.ref x, .int i t]) (PySem.W.CmpBack Q) E s) : wpAny (model prog w) A (binaryOp .Add (.int i t) (.ref x)) Q E s := by
  have X := X₀.keeps FR.keep
  obtain ⟨cd, rest, hcd, hm⟩ := PySem.W.ksp_first hc
  have one := PySem.W.ksp_try X I hr hf h
  have dec : ∀ {Q' : Option Value → Shared → Prop}, Q' none s → wpAny (model prog w) A (tryMethod (.int i t) (PySem.dunder "add") (.ref x)) Q' E s := fun q =>
    wpAny_tryMethod_declines (typeIs_int _ _ _) PySem.F.slot_int_add (int_add_inst hx ⟨rfl, q⟩)
  obtain ⟨hh, g, d, tt, os⟩ := s
  have L1 : PySem.W.Looks (model prog w) hh (typeOf (.int i t)) (.type "int") := PySem.W.Looks.of_pure rfl
  have L2 : PySem.W.Looks (model prog w) hh (typeOf (.ref x)) (.ref C) := I.type
  have L3 : PySem.W.Looks (model prog w) hh (fillsNumberSlot (.type "int") "add") true := PySem.W.Looks.of_pure (fillsNumberSlot_of PySem.F.slot_int_add.lookup (by kernel_rfl) PySem.F.slot_int_radd.lookup)
  have L4 : PySem.W.Looks (model prog w) hh (fillsNumberSlot (.ref C) "add") true := PySem.W.fills_K X hcd hm hs
  have L5 : PySem.W.Looks (model prog w) hh (isSubtype (.ref C) (.type "int")) false := PySem.W.looks_subIn X hsub
  have L7 : PySem.W.Looks (model prog w) hh (numberSlotInPython (.type "int") "add") false := PySem.W.Looks.of_pure rfl
  have hne : (Value.type "int" == Value.ref C) = false := Bool.eq_false_iff.mpr fun q => by cases beq_iff_eq.mp q
  have hi : Operator.Add.info = ("+", "add") := rfl
  simp only [binaryOp, hi]
  refine wpAny_holding (wpAny_bind ?_)
  unfold binaryOp1
  refine wpAny_bind (L1.at (wpAny_bind (L2.at (wpAny_bind (L3.at ?_)))))
  simp only [hne, Bool.false_eq_true, if_false]
  refine wpAny_bind (L4.at ?_)
  simp only [Bool.and_self, if_true]
  refine wpAny_bind (L5.at ?_)
  simp only [Bool.false_eq_true, if_false, Bool.not_false, Bool.and_self, if_true]
  refine wpAny_bind (L7.at ?_)
  simp only [Bool.false_eq_true, if_false]
  refine wpAny_bind (dec ?_)
  dsimp only
  refine wpAny_bind (wpAny_mono one (fun r s' hr' => ?_) fun _ _ e => e)
  obtain ⟨v, rfl, hq⟩ := hr'
  exact wpAny_bind (wpAny_rule (wpAny_pure (wpAny_pure hq)))
end
/-- what the class at C says of n + x -/
structure RevC (K : PySem.W.Frag) (C f : Addr) : Prop where
  first : PySem.W.selfFirst K C = true
  own : ∃ g : Addr, PySem.W.findIn K (.ref C) "__add__" = some (some (.ref g))
  back : PySem.W.findIn K (.ref C) "__radd__" = some (some (.ref f))
  fn : PySem.W.isFn K (.ref f) = true
  isub : PySem.W.subIn K (.ref C) (.type "int") = some false
def tRevN (C : Addr) (sp : Sp) (E : L2.St → XK) (ta tb : TE) : TE := fun σ H Q => ta σ H fun x H1 => tb σ H1 fun y H2 => ∃ i a dx fs, x = .int i ∧ y = .ref a ∧ H2 a = some (.ins C dx fs) ∧ sp [y, x] H2 Q (E σ)
section
variable {X : Cx} {CX : CXT} {C f : Addr} {n : Nat} {fd : FuncData} {ps : List Str} {sp : Sp} {E : L2.St → XK} {a b : Expr} {ta tb : TE} {pos : Pos}
theorem pe_revN (F : FnOk X.prog X.w X.K X.mg X.base CX n f fd ps sp) (hr : Room n X.A) (O : RevC X.K C f) (hb : Binds X.K fd ps []) (hx : ∀ σ, PassesAt CX X σ (E σ)) (ha : PE X a ta) (hb' : PE X b tb) : PE X (.BinOp a .Add b pos) (tRevN C sp E ta tb) := by
  refine ⟨fun pins s σ H Q I h => ?_⟩
  refine wpAny_BinOp (binT ha hb' I h fun v u s2 x y H2 I2 rx ry q => ?_)
  obtain ⟨i, p, dx, fs, rfl, rfl, hp, q⟩ := q
  obtain ⟨t, rfl⟩ := id rx
  cases (show u = Value.ref p from ry)
  obtain ⟨mA, J, _⟩ := ins_get I2.hok hp
  obtain ⟨od, J, _⟩ := J.look
  obtain ⟨m, hF⟩ := I2.fr
  obtain ⟨g, hg⟩ := O.own
  refine binop_rev J.at_ hF I2.ok.mod.kin J O.first hg O.back O.fn O.isub ?_
  exact wpAny_mono (run_fnS (us := [.ref p, .int i t]) (vs := [.ref p, .int i]) F hr hb (hx σ) I2 (.cons rfl (.cons ⟨t, rfl⟩ .nil)) q) (fun w s' z => by
    obtain ⟨z', H', I', rz, qz⟩ := z
    exact back_rel rz ⟨z', H', I', rz, qz⟩) fun _ _ x => x
end
end Wx

/-! enumerate of a tuple -/
namespace PySem
open AutoSeq1 (wpAny_loadPart')
theorem meets_enumerate_newTup (l : Addr) (items : Array Value) (n : Nat) (dct : Option Addr) (sl : Array (Option Value)) :
    Meets (Builtin.«enumerate.__new__» ⟨[.type "enumerate", .ref l], []⟩) (fun _ R s => s.heap.get? l = some { cls := .type "tuple", dict := dct, data := .seq items n, slots := sl } ∧
      R (.ok (.ret (.ref (s.heap.push { cls := .type "tuple_iterator", data := .fields #[.ref l, .int 0 0] }).objs.size)))
        { s with heap := (s.heap.push { cls := .type "tuple_iterator", data := .fields #[.ref l, .int 0 0] }).push { cls := .type "enumerate", data := .fields #[.none, .bool false, .ref s.heap.objs.size, rawInt 0, .none, .none] } }) :=
  .of_wp fun prog w A R s h => by
    obtain ⟨hp, g, d, tk, os⟩ := s; obtain ⟨hl, h⟩ := h
    have hsub := sub_enumerate
    have hL : Heap.IsTuple (Shared.heap ⟨hp, g, d, tk, os⟩) l items := ⟨_, hl, rfl, n, rfl⟩
    wp_walk using wpAny_loadPart' hl
    refine wpAny_stack_any fun st => wpAny_pure ?_
    split
    · rename_i c _ _ _ _ _
      cases (c == Value.type "enumerate")
      · wp_walk using wpAny_loadPart' hl, wpAny_pyIter_tuple hL
        exact ⟨_, rfl, h⟩
      · wp_walk using wpAny_loadPart' hl, wpAny_pyIter_tuple hL
        exact ⟨_, rfl, h⟩
    · wp_walk using wpAny_loadPart' hl, wpAny_pyIter_tuple hL
      exact ⟨_, rfl, h⟩
section
variable {prog : Program} {w : World} {A : Around} {E : Value → Shared → Prop} {s : Shared}
theorem call_enumerate_tuple {l : Addr} {items : Array Value} {Q : Value → Shared → Prop} (hL : s.heap.IsTuple l items)
    (h : ∀ h', IsEnum h' (s.heap.objs.size + 1) s.heap.objs.size 0 .none → h'.IsTupleIter s.heap.objs.size l 0 → h'.objs.size = s.heap.objs.size + 2 →
      (∀ b o, s.heap.get? b = some o → h'.get? b = some o) → Q (.ref (s.heap.objs.size + 1)) { s with heap := h' }) :
    wpAny (model prog w) A (call (.type "enumerate") [.ref l]) Q E s := by
  obtain ⟨⟨c, dct, dt, sl⟩, hl, hc, n, hd⟩ := hL
  replace hc : c = .type "tuple" := hc
  replace hd : dt = .seq items n := hd
  subst hc hd
  refine callType_new F.called_enumerate (by decide) (F.typeCall_enumerate_1 _) (F.newCall_enumerate_1 _) (fun obj => F.args_object_init_2 obj _) F.entry_enumerate_new
    (meets_enumerate_newTup l items n dct sl) ⟨hl, ?_⟩
  have hz : (s.heap.push { cls := .type "tuple_iterator", data := .fields #[.ref l, .int 0 0] }).objs.size = s.heap.objs.size + 1 := Heap.size_push ..
  show _ ∧ _
  rw [hz]
  have he : IsEnum ((s.heap.push { cls := .type "tuple_iterator", data := .fields #[.ref l, .int 0 0] }).push
      { cls := .type "enumerate", data := .fields #[.none, .bool false, .ref s.heap.objs.size, rawInt 0, .none, .none] }) (s.heap.objs.size + 1) s.heap.objs.size 0 .none := by
    have := Heap.get?_push_size (s.heap.push { cls := .type "tuple_iterator", data := .fields #[.ref l, .int 0 0] })
      (o := { cls := .type "enumerate", data := .fields #[.none, .bool false, .ref s.heap.objs.size, rawInt 0, .none, .none] }) rfl
    rw [hz] at this; exact this
  refine ⟨⟨_, he, rfl⟩, h _ he ⟨_, Heap.get?_push_of_some _ (Heap.get?_push_size _ rfl), rfl, rfl⟩ (by rw [Heap.size_push, hz]) fun b o x => Heap.get?_push_of_some _ (Heap.get?_push_of_some _ x)⟩
theorem wpAny_pyNext_enum_endT {e it l : Addr} {i : Nat} {items : Array Value} {old : Value} {c : Int} {Q : Option Value → Shared → Prop} (hh : A.handled = none)
    (he : IsEnum s.heap e it c old) (hit : s.heap.IsTupleIter it l i) (hl : s.heap.IsTuple l items) (hx : items[i]? = none)
    (hQ : ∀ h', Heap.ExtBut it s.heap h' → Q none { s with heap := h' }) : wpAny (model prog w) A (pyNext (.ref e)) Q E s := by
  have hTy : s.TypeIs (.ref e) "enumerate" := ⟨_, he, rfl⟩
  unfold pyNext
  refine wpAny_bind (wpAny_attempt (wpAny_callSpecial?_slot (name := Str.ofString "__next__") hTy F.slot_enumerate_next
    (wpAny_call_entry F.slot_enumerate_next hTy F.entry_enumerate_next ?_ (F.args_enumerate_next_1 _))))
  show wpAny _ _ (field (.ref e) 2 >>= _) _ _ _
  refine wpAny_bind (wpAny_field he rfl (x := .ref it) rfl ?_)
  refine wpAny_bind (wpAny_nextOf_tuple_end hh hit hl hx fun h' x he' hx' => ?_)
  obtain ⟨o, ho, hc⟩ := hx'
  refine wpAny_bind (wpAny_isInstance (T := "StopIteration") (b := true) ⟨o, ho, hc⟩ isSubtype_stop ?_)
  exact wpAny_pure (hQ _ he')
end
end PySem
namespace Wx
open PySem PySem.Spec PyProof.Rows L2 NdefX RZ StX
/-- the tuple at a as it stands at each turn, each item in a new pair -/
def IteT (K : PySem.W.Frag) (a : Addr) : It :=
  ⟨fun i H => ∃ (xs : List V) (x : V), SqT K H a xs ∧ xs[i]? = some x, fun i H v H' => ∃ T x, v = .ref T ∧ H T = none ∧ H' = upd H T (.tup [.int (i : Nat), x]) ∧ ∀ xs, SqT K H a xs → xs[i]? = some x, fun i H => ∃ xs : List V, SqT K H a xs ∧ xs.length ≤ i⟩
theorem turn_enumT {P : Program} {w : World} {K : PySem.W.Frag} {elts : List Expr} {kk : Nat} {tpos : Pos} (a e it : Addr) (nai : a ≠ it) (nae : a ≠ e) :
    Turn P w K (.Tuple elts kk tpos) (IteT K a) [e, it] e (fun i h => (∃ old, IsEnum h e it ((i : Nat) : Int) old) ∧ h.IsTupleIter it a i ∧ e ≠ it) where
  mem := by simp
  obj := fun i h st b hb => by
    obtain ⟨⟨old, he⟩, ⟨o, ho, hc, hd⟩, _⟩ := st
    have e' : b = e ∨ b = it := by simpa using hb
    rcases e' with z | z
    · rw [z]; exact ⟨_, he, fun v q => nomatch q⟩
    · rw [z]; exact ⟨o, ho, fun v q => by rw [hd] at q; cases q⟩
  keep := fun i h h' st k => let ⟨⟨old, he⟩, hi, hne⟩ := st; ⟨⟨old, k e (by simp) _ he⟩, hi.at fun o q => k it (by simp) o q, hne⟩
  item := by
    intro X hP hw hK hc i pins s σ H E I hf st hg
    subst hP hw hK
    obtain ⟨⟨old, he⟩, hit, hne⟩ := st
    obtain ⟨xs, x, hq, hx⟩ := hg
    obtain ⟨its, rv, p, hz⟩ := I.tuple hq
    obtain ⟨u, hu, ru⟩ := rv.get hx
    have hel : e < s.heap.objs.size := Heap.lt_size he
    have hil : it < s.heap.objs.size := by obtain ⟨_, q, _⟩ := hit; exact Heap.lt_size q
    have hpt : s.heap.IsTuple a its.toArray := p
    have hlt : i < its.toArray.size := by
      have := (List.getElem?_eq_some_iff.mp hu).1
      simpa using this
    refine wpAny_pyNext_enum_itemD (Draws.tuple (A := X.A.in1) (show X.A.in1.handled = none from I.ok.hd hc) it a nai its.toArray) he ⟨hit, hpt⟩ hlt hne (by simp [hne, Ne.symm nae]) fun x' h' tk hx' ho hit' hT hsz hk => ?_
    have ex : x' = u := by
      have z : its.toArray[i]? = some u := by simpa using hu
      rw [z] at hx'
      exact (Option.some.inj hx').symm
    subst ex
    refine ⟨_, rfl, wpAny_letOwnedTupleGo_enum (s := { s with heap := h', toks := tk + 1 }) ho fun h'' he' sb => ?_⟩
    have hT2 : h''.get? s.heap.objs.size = some { cls := .type "tuple", data := .seq #[.int i tk, x'] } := (sb.2 _ (Nat.ne_of_gt hel)).trans hT
    have new : ObjOk X.prog X.w (upd H s.heap.objs.size (.tup [.int (i : Nat), x])) h'' s.heap.objs.size (.tup [.int (i : Nat), x]) :=
      ⟨by show 2 ≤ sizeLine; decide, [.int i tk, x'], .cons ⟨_, rfl⟩ (.cons ru .nil), ⟨_, hT2, rfl, _, rfl⟩⟩
    have I1 : Inv X pins σ (upd H s.heap.objs.size (.tup [.int (i : Nat), x])) { s with heap := h'', toks := tk + 1 } :=
      I.turnedNew (ch := [e, it]) (fun b ob hb q => (sb.2 b (fun z => hb (by simp [z]))).trans (hk b ob (fun z => hb (by simp [z])) (fun z => hb (by simp [z])) q)) hf (Nat.le_refl _) new
    refine ⟨.ref s.heap.objs.size, _, I1, rfl, ⟨_, x, rfl, I.hok.fresh (Nat.le_refl _), rfl, fun ys hy => by rw [I.tuple_inj hy hq]; exact hx⟩, ⟨⟨x', ?_⟩, hit'.1.at fun o q => (sb.2 it (Ne.symm hne)).trans q, hne⟩, fun b hb => ?_⟩
    · have e1 : ((i + 1 : Nat) : Int) = (i : Int) + 1 := by omega
      rw [e1]; exact he'
    · have hb' : b < s.heap.objs.size := by
        have e' : b = e ∨ b = it := by simpa using hb
        rcases e' with z | z
        · rw [z]; exact hel
        · rw [z]; exact hil
      rw [upd_ne (Nat.ne_of_lt hb')]
      exact (hf b hb).1
  done := by
    intro X hP hw hK hc i pins s σ H E I hf st hg
    subst hP hw hK
    obtain ⟨⟨old, he⟩, hit, hne⟩ := st
    obtain ⟨xs, hq, hx⟩ := hg
    obtain ⟨its, rv, p, hz⟩ := I.tuple hq
    obtain ⟨f0, f1, f2, f3, f4, f5⟩ := hf it (by simp)
    have hl := rv.length
    exact wpAny_pyNext_enum_endT (I.ok.hd hc) he hit (show s.heap.IsTuple a its.toArray from p) (by simp; omega) fun h' eb => ⟨rfl, I.turned (t' := s.toks) (fun b o hb q => eb b o hb q) f0 f1 f3 f4 f5⟩
  self := fun A i s Q E st h => let ⟨⟨_, he⟩, _⟩ := st; wpAny_pyIter_enum he h
def iEnumT (K : PySem.W.Frag) (ta : TA) : TI := fun σ H R => ta σ H fun vs H1 => ∃ a xs, vs = [.ref a] ∧ SqT K H1 a xs ∧ R (IteT K a) H1
theorem pi_enumT {X : Cx} {e : Expr} {ta : TA} {p pos tpos : Pos} {elts : List Expr} {kk : Nat} (hg : Gl X "enumerate") (hm : X.mg "enumerate" = none) (ha : PA X [e] ta) (hs : starEach [e] X.env = [(false, eval e X.env)] := by rfl) :
    PI X (.Tuple elts kk tpos) (.Call (.Name "enumerate" p) [e] [] pos) (iEnumT X.K ta) := by
  refine ⟨fun pins s σ H R I h => ?_⟩
  refine Call_ (ld_blt I hg hm boot_enumerate (PyProof.Rows.callWith_type1 (thn (ha.run pos pins s σ H _ I h) fun us s1 ⟨vs, H1, I1, r1, q1⟩ => ?_) hs rfl))
  obtain ⟨a, xs, ex, hq, q⟩ := q1
  subst ex
  cases r1 with
  | cons r rr =>
    cases rr
    cases r
    obtain ⟨its, rv, p', hz⟩ := I1.tuple hq
    have hat : a < s1.heap.objs.size := by obtain ⟨_, z, _⟩ := id p'; exact Heap.lt_size z
    refine call_enumerate_tuple (show s1.heap.IsTuple a its.toArray from p') fun h' he hit hsz hk => wpAny_pyIter_enum he ?_
    have I2 : Inv X pins σ H1 { s1 with heap := h' } := I1.kept (t' := s1.toks) hk
    refine ⟨s1.heap.objs.size + 1, [s1.heap.objs.size + 1, s1.heap.objs.size], _, _, H1, rfl, I2, turn_enumT a (s1.heap.objs.size + 1) s1.heap.objs.size (Nat.ne_of_lt hat) (Nat.ne_of_lt (Nat.lt_succ_of_lt hat)), ⟨⟨.none, he⟩, hit, Nat.succ_ne_self _⟩, fun b hb => ?_, q⟩
    have e' : b = s1.heap.objs.size + 1 ∨ b = s1.heap.objs.size := by simpa using hb
    have hle : s1.heap.objs.size ≤ b := by
      rcases e' with z | z
      · rw [z]; exact Nat.le_add_right _ _
      · rw [z]; exact Nat.le_refl _
    exact I1.fpOk hle (I1.hok.fresh hle)
theorem walk_enumT {K : PySem.W.Frag} {a : Addr} {xs : List V} : Walk (IteT K a) xs.length (fun H => SqT K H a xs) (YPair (fun i => some (.int (i : Nat))) (fun i => xs[i]?)) := by
  refine ⟨fun i _ hi q => ⟨xs, xs[i], q, by simp [hi]⟩, fun _ q => ⟨xs, q, Nat.le_refl _⟩, fun i H v H' _ q y => ?_⟩
  obtain ⟨T, x, h1, h2, h3, h4⟩ := y
  exact ⟨T, .int (i : Nat), x, h1, h2, h3, rfl, h4 xs q⟩
end Wx

namespace Wx
open PySem PySem.Spec PyProof.Rows L2 NdefX RZ StX
/-! C.m(..) and C.m(), m a staticmethod that may raise -/
/-- C.m is a staticmethod: its record at p, its def at g -/
structure SMet (K : PySem.W.Frag) (C : Addr) (mc : Value) (m : Str) (p g : Addr) : Prop where
  at_ : PySem.W.findCls K (.ref C) mc m = some (.get (.builtin "staticmethod.__get__") (.ref p) .none (.ref C))
  rc : ∃ rest, PySem.W.recIn K p "staticmethod" = some (.ref g :: rest)
  kp : PySem.W.keepIn K (.ref g) = true
def tSMeth (C : Addr) (sp : Sp) (E : L2.St → XK) (ta : TE) (t : TA) : TE := fun σ H Q => ta σ H fun x H1 => x = .ref C ∧ t σ H1 fun vs H2 => sp vs H2 Q (E σ)
section
variable {X : Cx} {CX : CXT} {k : Nat} {C p g : Addr} {mc : Value} {fd : FuncData} {ps : List Str} {sp : Sp} {E : L2.St → XK} {o e : Expr} {es : List Expr} {m : Str} {pos apos : Pos} {ta : TE} {t : TA} {pl : Sem Bool}
theorem getsmet_ok {pins : List (Addr × Obj)} {σ : L2.St} {H : Hp} {s : Shared} {A : Around} {Q : Value × List Value → Shared → Prop} {Ex : Value → Shared → Prop} (I : Inv X pins σ H s) (r : ClX.CRead X.K C mc) (c : SMet X.K C mc m p g)
    (h : ∀ s', Inv X pins σ H s' → Q (.ref g, []) s') : wpAny (model X.prog X.w) A (getMethod (.ref C) m pl) Q Ex s := by
  refine PySem.W.method_cls I.kIn r.ga ?_
  obtain ⟨rest, hp⟩ := c.rc
  refine PySem.W.cls_bind I.kIn r.rd c.at_ ?_
  refine wpAny_call (PySem.W.sm_get (s := { s with toks := s.toks + 1 }) I.kIn hp (PySem.W.handed_on rfl ?_))
  exact h _ (I.tok _)
theorem run_fnRS {pins : List (Addr × Obj)} {σ : L2.St} {H : Hp} {s : Shared} {Q : VK} {us : List Value} {vs : List V} {E : XK} (F : FnR X.prog X.w X.K X.mg X.base CX k g sp) (hr : Room k X.A) (hx : PassesAt CX X σ E)
    (I : Inv X pins σ H s) (r : Vals vs us) (h : sp vs H Q E) : wpAny (model X.prog X.w) X.A (call (.ref g) us) (EP X pins σ Q) X.xe s := by
  refine wpAny_call (codeAny_mono (F X.A X.stack s H us vs Q E hr I.env0 r h) fun r s' hq => ?_)
  cases r with
  | error e => exact hx pins H s e s' I hq
  | ok fl =>
    cases fl with
    | ret u => exact I.after hq
    | next => exact False.elim hq
    | brk => exact False.elim hq
    | cont => exact False.elim hq
/-- C.m(..), a def -/
theorem pe_smeth (he : PE X o ta) (r : ClX.CRead X.K C mc) (c : SMet X.K C mc m p g) (F : FnOk X.prog X.w X.K X.mg X.base CX k g fd ps sp) (hr : Room k X.A) (hb : Binds X.K fd ps []) (hx : ∀ σ, PassesAt CX X σ (E σ)) (ha : PA X (e :: es) t)
    (hst : starEach (e :: es) X.env = (false, eval e X.env) :: starEach es X.env := by rfl) (hpl : (backTo pos (starEach es X.env)).any (·.1) = false := by rfl)
    (ht : eval (.Call (.Attribute o m apos) (e :: es) [] pos) X.env = (do
      let ov ← eval o X.env
      standAt apos.atName
      let (f, first) ← holding [ov] (getMethod ov m pl)
      callWith pos f first (backTo pos (starEach (e :: es) X.env)) (backToKw pos (keywordEach [] X.env))) := by rfl) :
    PE X (.Call (.Attribute o m apos) (e :: es) [] pos) (tSMeth C sp E ta t) := by
  refine ⟨fun pins s σ H Q I h => ?_⟩
  refine PySem.W.methodCall_KW (pl := pl) (thn (he.run pins s σ H _ I h) fun u s1 ⟨x, H1, I1, rx, ex, q⟩ => ?_) ht
  subst ex
  obtain rfl : u = Value.ref C := rx
  refine getsmet_ok I1 r c fun s2 I2 => ?_
  refine PySem.W.callWith_K (first := []) (h₀ := X.base) I.ok.mod.kin c.kp (thn (ha.run pos pins s2 σ H1 _ I2 q) fun us s3 ⟨vs, H2, I3, rv, q2⟩ => ⟨I3.kIn, ?_⟩) hst hpl
  exact run_fnS F hr hb (hx σ) I3 rv q2
/-- .. a def with a starred parameter -/
theorem pe_smethR (he : PE X o ta) (r : ClX.CRead X.K C mc) (c : SMet X.K C mc m p g) (F : FnR X.prog X.w X.K X.mg X.base CX k g sp) (hr : Room k X.A) (hx : ∀ σ, PassesAt CX X σ (E σ)) (ha : PA X (e :: es) t)
    (hst : starEach (e :: es) X.env = (false, eval e X.env) :: starEach es X.env := by rfl) (hpl : (backTo pos (starEach es X.env)).any (·.1) = false := by rfl)
    (ht : eval (.Call (.Attribute o m apos) (e :: es) [] pos) X.env = (do
      let ov ← eval o X.env
      standAt apos.atName
      let (f, first) ← holding [ov] (getMethod ov m pl)
      callWith pos f first (backTo pos (starEach (e :: es) X.env)) (backToKw pos (keywordEach [] X.env))) := by rfl) :
    PE X (.Call (.Attribute o m apos) (e :: es) [] pos) (tSMeth C sp E ta t) := by
  refine ⟨fun pins s σ H Q I h => ?_⟩
  refine PySem.W.methodCall_KW (pl := pl) (thn (he.run pins s σ H _ I h) fun u s1 ⟨x, H1, I1, rx, ex, q⟩ => ?_) ht
  subst ex
  obtain rfl : u = Value.ref C := rx
  refine getsmet_ok I1 r c fun s2 I2 => ?_
  refine PySem.W.callWith_K (first := []) (h₀ := X.base) I.ok.mod.kin c.kp (thn (ha.run pos pins s2 σ H1 _ I2 q) fun us s3 ⟨vs, H2, I3, rv, q2⟩ => ⟨I3.kIn, ?_⟩) hst hpl
  exact run_fnRS F hr (hx σ) I3 rv q2
/-- .. without arguments -/
theorem pe_smethR0 (he : PE X o ta) (r : ClX.CRead X.K C mc) (c : SMet X.K C mc m p g) (F : FnR X.prog X.w X.K X.mg X.base CX k g sp) (hr : Room k X.A) (hx : ∀ σ, PassesAt CX X σ (E σ))
    (ht : eval (.Call (.Attribute o m apos) [] [] pos) X.env = (do
      let ov ← eval o X.env
      standAt apos.atName
      let (f, first) ← holding [ov] (getMethod ov m pl)
      callWith pos f first (backTo pos (starEach [] X.env)) (backToKw pos (keywordEach [] X.env))) := by rfl) :
    PE X (.Call (.Attribute o m apos) [] [] pos) (tSMeth C sp E ta (fun _ H Q => Q [] H)) := by
  refine ⟨fun pins s σ H Q I h => ?_⟩
  refine PySem.W.methodCall_KW (pl := pl) (thn (he.run pins s σ H _ I h) fun u s1 ⟨x, H1, I1, rx, ex, q⟩ => ?_) ht
  subst ex
  obtain rfl : u = Value.ref C := rx
  refine getsmet_ok I1 r c fun s2 I2 => ?_
  exact PySem.W.callWith_K0 (first := []) I2.kIn c.kp (run_fnRS (us := []) F hr (hx σ) I2 .nil q)
end
end Wx

namespace Wb
open PySem PySem.Spec PyProof.Rows L2 Wx NdefX
def top (i : Nat) : Stmt := PySem.Challenge.pw_waterbyturns_k12_seasons_and_steady_weat.main.body.getD i (.Pass ⟨0, 0, 0, 0⟩)
/-! ### a def that stands, by its name: what a caller needs -/
structure Cal (P : Program) (w : World) (K : PySem.W.Frag) (mg : Str → Option Value) (base : Heap) (name : Str) (ps : List Str) (k : Nat) (sp : Sp) : Prop where
  mk0 ::
  ex : ∃ (g : Addr) (gd : FuncData), FnOk P w K mg base CX0 k g gd ps sp ∧ mg name = some (.ref g) ∧ PySem.W.keepIn K (.ref g) = true ∧ Binds K gd ps []
/-! ### frames -/
/-- what is tracked outside xs stays -/
def Frm (xs : List Addr) (H H' : Hp) : Prop := ∀ b o, ¬ b ∈ xs → H b = some o → H' b = some o
theorem Frm.refl (xs : List Addr) (H : Hp) : Frm xs H H := fun _ _ _ h => h
theorem Frm.trans {xs : List Addr} {H H1 H2 : Hp} (a : Frm xs H H1) (b : Frm xs H1 H2) : Frm xs H H2 := fun c o n h => b c o n (a c o n h)
theorem Frm.of_same {xs : List Addr} {H H' : Hp} (a : Same H H') : Frm xs H H' := fun b o _ h => a b o h
theorem Frm.mono {xs ys : List Addr} {H H' : Hp} (a : Frm xs H H') (h : ∀ b, b ∈ xs → b ∈ ys) : Frm ys H H' := fun b o n e => a b o (fun m => n (h b m)) e
theorem Frm.put {xs : List Addr} {H : Hp} {a : Addr} {o : HO} (m : a ∈ xs) : Frm xs H (upd H a o) := fun b p n e => by
  rw [upd_ne (fun q => n (by rw [q]; exact m))]
  exact e
theorem Same.new {H : Hp} {a : Addr} {o : HO} (n : H a = none) : Same H (upd H a o) := fun b p e => by
  rw [upd_ne (ne_of_none e n)]
  exact e
theorem Frm.new {xs : List Addr} {H : Hp} {a : Addr} {o : HO} (n : H a = none) : Frm xs H (upd H a o) := Frm.of_same (Same.new n)
theorem Frm.same {H H' : Hp} (a : Frm [] H H') : Same H H' := fun b o e => a b o (by simp) e
/-- an address that was new and may change behind its making is no part of the frame of what was there before -/
theorem Frm.drop {x : Addr} {xs : List Addr} {H0 H1 H2 : Hp} (n : H0 x = none) (a : Frm xs H0 H1) (b : Frm (x :: xs) H1 H2) : Frm xs H0 H2 := fun c o nc e => by
  refine b c o ?_ (a c o nc e)
  intro m
  rcases List.mem_cons.mp m with q | q
  · rw [q] at e
    rw [n] at e
    cases e
  · exact nc q
theorem Frm.none {xs : List Addr} {H H' : Hp} (a : Frm xs H H') {l : Addr} (nl : ¬ l ∈ xs) (h : H' l = Option.none) : H l = Option.none := by
  cases q : H l with
  | none => rfl
  | some o =>
    have := a l o nl q
    rw [this] at h
    cases h
/-- the heap without xs -/
def hid (xs : List Addr) (H : Hp) : Hp := fun b => if b ∈ xs then none else H b
theorem hid_same (xs : List Addr) (H : Hp) : Same (hid xs H) H := fun b o e => by
  unfold hid at e
  split at e
  · cases e
  · exact e
theorem hid_frm {xs : List Addr} {H H' : Hp} (a : Frm xs H H') : Same (hid xs H) (hid xs H') := fun b o e => by
  unfold hid at e ⊢
  split at e
  · cases e
  · rename_i n
    rw [if_neg n]
    exact a b o n e
theorem hid_eq {xs : List Addr} {H : Hp} {b : Addr} (n : ¬ b ∈ xs) : hid xs H b = H b := if_neg n
theorem hid_mono {xs ys : List Addr} {H : Hp} (h : ∀ b, b ∈ xs → b ∈ ys) : Same (hid ys H) (hid xs H) := fun b o e => by
  unfold hid at e ⊢
  split at e
  · cases e
  · rename_i n
    rw [if_neg (fun m => n (h b m))]
    exact e
theorem hid_nil (H : Hp) : hid [] H = H := by
  funext b
  exact if_neg (by simp)
theorem rd_same {H H' : Hp} (s : Same H H') {a : Addr} {o : HO} (h : Rd H a o) : Rd H' a o := by
  rcases h with h | ⟨x, h⟩
  · exact .inl (s _ _ h)
  · exact .inr ⟨x, s _ _ h⟩
theorem seqT {K : PySem.W.Frag} {H H' : Hp} {a : Addr} {xs : List V} (s : Same H H') (h : SqT K H a xs) : SqT K H' a xs := h.imp (rd_same s) id
/-! data in the heap, seen from a larger heap -/
mutual
theorem dp_same {K : PySem.W.Frag} {H H' : Hp} (s : Same H H') : ∀ {v : V} {d : PyData}, Dp K H v d → Dp K H' v d
  | _, _, .non => .non
  | _, _, .bl b => .bl b
  | _, _, .int i => .int i
  | _, _, .str x => .str x
  | _, _, .lst h r => .lst (s.seq h) (dpAll_same s r)
  | _, _, .tup h r => .tup (seqT s h) (dpAll_same s r)
theorem dpAll_same {K : PySem.W.Frag} {H H' : Hp} (s : Same H H') : ∀ {v : List V} {d : List PyData}, DpAll K H v d → DpAll K H' v d
  | _, _, .nil => .nil
  | _, _, .cons a b => .cons (dp_same s a) (dpAll_same s b)
end
theorem dpAll_get {K : PySem.W.Frag} {H : Hp} : ∀ {vs : List V} {ds : List PyData}, DpAll K H vs ds → ∀ {i : Nat} {v : V}, vs[i]? = some v → ∃ d, ds[i]? = some d ∧ Dp K H v d
  | _, _, .nil, i, v, h => by simp at h
  | _, _, .cons a b, 0, v, h => by
    have e := Option.some.inj h
    subst e
    exact ⟨_, rfl, a⟩
  | _, _, .cons a b, i + 1, v, h => dpAll_get b (i := i) h
theorem dpAll_len {K : PySem.W.Frag} {H : Hp} : ∀ {vs : List V} {ds : List PyData}, DpAll K H vs ds → vs.length = ds.length
  | _, _, .nil => rfl
  | _, _, .cons _ b => congrArg (· + 1) (dpAll_len b)
theorem dpAll_snoc {K : PySem.W.Frag} {H : Hp} : ∀ {vs : List V} {ds : List PyData} {v : V} {d : PyData}, DpAll K H vs ds → Dp K H v d → DpAll K H (vs ++ [v]) (ds ++ [d])
  | _, _, _, _, .nil, h => .cons h .nil
  | _, _, _, _, .cons a b, h => .cons a (dpAll_snoc b h)
theorem dpAll_ints {K : PySem.W.Frag} {H : Hp} : ∀ (l : List Int), DpAll K H (l.map V.int) (l.map PyData.int)
  | [] => .nil
  | i :: l => .cons (.int i) (dpAll_ints l)
theorem dpAll_ints_eq {K : PySem.W.Frag} {H : Hp} : ∀ {l : List Int} {vs : List V}, DpAll K H vs (l.map PyData.int) → vs = l.map V.int
  | [], _, .nil => rfl
  | i :: l, _, .cons (.int _) b => congrArg (V.int i :: ·) (dpAll_ints_eq b)
/-- o[i] of a list, for o[i] += e -/
theorem get_list {X : Cx} : PGet X (fun o i H Q => ∃ p xs k z, o = .ref p ∧ i = .int k ∧ SqL X.K H p xs ∧ 0 ≤ k ∧ xs[k.toNat]? = some z ∧ Q z H) := by
  intro pins s σ H o i ov iv Q I ro ri h
  obtain ⟨p, xs, k, z, rfl, rfl, hq, h0, hz, q⟩ := h
  cases ro
  obtain ⟨t, rfl⟩ := ri
  obtain ⟨its, r, pl, hs⟩ := I.list hq
  obtain ⟨w, ew, rw'⟩ := r.get hz
  have hl := r.length
  have hn := line63
  have hlt : k.toNat < xs.length := (List.getElem?_eq_some_iff.mp hz).1
  exact wpAny_getItem_list pl.isList h0 (by omega) (by simpa using ew) ⟨z, H, I, rw', q⟩
def rListOf (K : PySem.W.Frag) : List V → Hp → VK → Prop := fun xs H Q => ∃ p ys, xs = [.ref p] ∧ (SqL K H p ys ∨ SqT K H p ys) ∧ ∀ l, H l = none → Q (.ref l) (upd H l (.lst ys))
def rLenSeq (K : PySem.W.Frag) : List V → Hp → VK → Prop := fun xs H Q => ∃ p ys, xs = [.ref p] ∧ (SqL K H p ys ∨ SqT K H p ys) ∧ Q (.int ys.length) H
theorem Cal.mk {P : Program} {w : World} {K : PySem.W.Frag} {mg : Str → Option Value} {base : Heap} {name : Str} {ps : List Str} {k : Nat} {sp : Sp} {g : Addr} {gd : FuncData} (G : FnOk P w K mg base CX0 k g gd ps sp) (m : mg name = some (.ref g)) (kp : PySem.W.keepIn K (.ref g) = true) (b : Binds K gd ps []) : Cal P w K mg base name ps k sp := .mk0 ⟨g, gd, G, m, kp, b⟩
abbrev s_wall : Stmt := top 0
abbrev N_wall : List Str := ["k"]
abbrev P_wall : List Str := ["k"]
theorem sc_wall : FnScope N_wall P_wall (defScope s_wall) := ⟨rfl, rfl, rfl, by decide +kernel, rfl, by decide +kernel, by decide +kernel⟩
abbrev s_shown : Stmt := top 2
abbrev N_shown : List Str := ["value"]
abbrev P_shown : List Str := ["value"]
theorem sc_shown : FnScope N_shown P_shown (defScope s_shown) := ⟨rfl, rfl, rfl, by decide +kernel, rfl, by decide +kernel, by decide +kernel⟩
abbrev sBadNumber___init__ : Stmt := inClass (top 4) 0
abbrev NBadNumber___init__ : List Str := ["self", "what", "value", "__class__"]
abbrev PBadNumber___init__ : List Str := ["self", "what", "value"]
theorem scBadNumber___init__ : NScope NBadNumber___init__ PBadNumber___init__ ["__class__"] (defScope sBadNumber___init__) := nscope_by (by decide +kernel)
abbrev scheck_number : Stmt := top 9
abbrev Ncheck_number : List Str := ["what", "value", "low", "high"]
abbrev Pcheck_number : List Str := ["what", "value", "low", "high"]
theorem sccheck_number : FnScope Ncheck_number Pcheck_number (defScope scheck_number) := ⟨rfl, rfl, rfl, by decide +kernel, rfl, by decide +kernel, by decide +kernel⟩
abbrev scheck_units : Stmt := top 10
abbrev Ncheck_units : List Str := ["what", "values", "value"]
abbrev Pcheck_units : List Str := ["what", "values"]
theorem sccheck_units : FnScope Ncheck_units Pcheck_units (defScope scheck_units) := ⟨rfl, rfl, rfl, by decide +kernel, rfl, by decide +kernel, by decide +kernel⟩
abbrev sDay___init__ : Stmt := inClass (top 14) 0
abbrev NDay___init__ : List Str := ["self", "dry", "rain", "fill", "mood", "width"]
abbrev PDay___init__ : List Str := ["self", "dry", "rain", "fill", "mood"]
theorem scDay___init__ : FnScope NDay___init__ PDay___init__ (defScope sDay___init__) := ⟨rfl, rfl, rfl, by decide +kernel, rfl, by decide +kernel, by decide +kernel⟩
abbrev sDay___eq__ : Stmt := inClass (top 14) 1
abbrev NDay___eq__ : List Str := ["self", "other"]
abbrev PDay___eq__ : List Str := ["self", "other"]
theorem scDay___eq__ : FnScope NDay___eq__ PDay___eq__ (defScope sDay___eq__) := ⟨rfl, rfl, rfl, by decide +kernel, rfl, by decide +kernel, by decide +kernel⟩
abbrev sWeather___init__ : Stmt := inClass (top 15) 0
abbrev NWeather___init__ : List Str := ["self", "moods", "days"]
abbrev PWeather___init__ : List Str := ["self", "moods"]
theorem scWeather___init__ : FnScope NWeather___init__ PWeather___init__ (defScope sWeather___init__) := ⟨rfl, rfl, rfl, by decide +kernel, rfl, by decide +kernel, by decide +kernel⟩
abbrev sWeather___eq__ : Stmt := inClass (top 15) 1
abbrev NWeather___eq__ : List Str := ["self", "other"]
abbrev PWeather___eq__ : List Str := ["self", "other"]
theorem scWeather___eq__ : FnScope NWeather___eq__ PWeather___eq__ (defScope sWeather___eq__) := ⟨rfl, rfl, rfl, by decide +kernel, rfl, by decide +kernel, by decide +kernel⟩
abbrev sWeather___len__ : Stmt := inClass (top 15) 2
abbrev NWeather___len__ : List Str := ["self"]
abbrev PWeather___len__ : List Str := ["self"]
theorem scWeather___len__ : FnScope NWeather___len__ PWeather___len__ (defScope sWeather___len__) := ⟨rfl, rfl, rfl, by decide +kernel, rfl, by decide +kernel, by decide +kernel⟩
abbrev sWeather___getitem__ : Stmt := inClass (top 15) 3
abbrev NWeather___getitem__ : List Str := ["self", "at"]
abbrev PWeather___getitem__ : List Str := ["self", "at"]
theorem scWeather___getitem__ : FnScope NWeather___getitem__ PWeather___getitem__ (defScope sWeather___getitem__) := ⟨rfl, rfl, rfl, by decide +kernel, rfl, by decide +kernel, by decide +kernel⟩
abbrev sWeather_steady : Stmt := inClass (top 15) 8
abbrev NWeather_steady : List Str := ["dry", "rain", "fill"]
abbrev PWeather_steady : List Str := ["dry", "rain", "fill"]
theorem scWeather_steady : FnScope NWeather_steady PWeather_steady (defScope sWeather_steady) := ⟨rfl, rfl, rfl, by decide +kernel, rfl, by decide +kernel, by decide +kernel⟩
abbrev sWeather_seasons : Stmt := inClass (top 15) 9
abbrev NWeather_seasons : List Str := ["rows", "moods", "mood", "row", "later", "dry", "rain", "fill"]
abbrev PWeather_seasons : List Str := ["rows"]
theorem scWeather_seasons : FnScope NWeather_seasons PWeather_seasons (defScope sWeather_seasons) := ⟨rfl, rfl, rfl, by decide +kernel, rfl, by decide +kernel, by decide +kernel⟩
abbrev s_check_days : Stmt := top 16
abbrev N_check_days : List Str := ["moods", "days", "width", "day"]
abbrev P_check_days : List Str := ["moods"]
theorem sc_check_days : FnScope N_check_days P_check_days (defScope s_check_days) := ⟨rfl, rfl, rfl, by decide +kernel, rfl, by decide +kernel, by decide +kernel⟩
abbrev s_law_start : Stmt := top 18
abbrev N_law_start : List Str := ["script", "first"]
abbrev P_law_start : List Str := ["script"]
theorem sc_law_start : FnScope N_law_start P_law_start (defScope s_law_start) := ⟨rfl, rfl, rfl, by decide +kernel, rfl, by decide +kernel, by decide +kernel⟩
abbrev s_law_draw : Stmt := top 19
abbrev N_law_draw : List Str := ["script", "state", "limit", "number", "cell", "mixed"]
abbrev P_law_draw : List Str := ["script", "state", "limit"]
theorem sc_law_draw : FnScope N_law_draw P_law_draw (defScope s_law_draw) := ⟨rfl, rfl, rfl, by decide +kernel, rfl, by decide +kernel, by decide +kernel⟩
abbrev s_law_made : Stmt := top 20
abbrev N_law_made : List Str := ["rows", "e"]
abbrev P_law_made : List Str := ["rows"]
theorem sc_law_made : FnScope N_law_made P_law_made (defScope s_law_made) := ⟨rfl, rfl, rfl, by decide +kernel, rfl, by decide +kernel, by decide +kernel⟩
abbrev s_law_steady : Stmt := top 21
abbrev N_law_steady : List Str := ["row", "e"]
abbrev P_law_steady : List Str := ["row"]
theorem sc_law_steady : FnScope N_law_steady P_law_steady (defScope s_law_steady) := ⟨rfl, rfl, rfl, by decide +kernel, rfl, by decide +kernel, by decide +kernel⟩
abbrev s_law_row : Stmt := top 22
abbrev N_law_row : List Str := ["script", "state", "many", "dry", "rain", "k"]
abbrev P_law_row : List Str := ["script", "state", "many"]
theorem sc_law_row : FnScope N_law_row P_law_row (defScope s_law_row) := ⟨rfl, rfl, rfl, by decide +kernel, rfl, by decide +kernel, by decide +kernel⟩
abbrev s_law_refusals_hold : Stmt := top 23
abbrev N_law_refusals_hold : List Str := ["script", "state", "rows", "many", "at", "place", "wrong", "bad", "what"]
abbrev P_law_refusals_hold : List Str := ["script", "state", "rows", "many"]
theorem sc_law_refusals_hold : FnScope N_law_refusals_hold P_law_refusals_hold (defScope s_law_refusals_hold) := ⟨rfl, rfl, rfl, by decide +kernel, rfl, by decide +kernel, by decide +kernel⟩
abbrev slaw : Stmt := top 24
abbrev Nlaw : List Str := ["script", "state", "many", "rows", "k", "count", "kept", "weather", "at", "season", "after", "first", "steady", "j", "row"]
abbrev Plaw : List Str := ["script"]
theorem sclaw : FnScope Nlaw Plaw (defScope slaw) := ⟨rfl, rfl, rfl, by decide +kernel, rfl, by decide +kernel, by decide +kernel⟩
/-- what the top has written -/
structure Txt (K : PySem.W.Frag) (mg : Str → Option Value) : Prop where
  b_len : mg "len" = none
  b_abs : mg "abs" = none
  b_int : mg "int" = none
  b_bool : mg "bool" = none
  b_str : mg "str" = none
  b_range : mg "range" = none
  b_all : mg "all" = none
  b_isinstance : mg "isinstance" = none
  b_repr : mg "repr" = none
  b_super : mg "super" = none
  b_tuple : mg "tuple" = none
  b_list : mg "list" = none
  b_zip : mg "zip" = none
  b_enumerate : mg "enumerate" = none
  c_MOST_PLOTS : ∃ t, mg "MOST_PLOTS" = some (.int 4 t)
  c_MOST_UNITS : ∃ t, mg "MOST_UNITS" = some (.int 8 t)
  c_MOST_MOODS : ∃ t, mg "MOST_MOODS" = some (.int 4 t)
  c__MOST_DAYS : ∃ t, mg "_MOST_DAYS" = some (.int 6 t)
end Wb

namespace Wb
open PySem PySem.Spec PyProof.Rows L2 Wx NdefX RZ StX PyProof.Rows.FinIter
section
variable {P : Program} {w : World} {K : PySem.W.Frag} {mg : Str → Option Value} {base : Heap}

/-- a state: four ints -/
def St4 (H : Hp) (a : Addr) : Prop := ∃ i j k l : Int, H a = some (.lst [.int i, .int j, .int k, .int l])
/-- the script at a and the state at s -/
def Scr (K : PySem.W.Frag) (H : Hp) (a s : Addr) : Prop := (∃ ns : List Int, SqL K (hid [s] H) a (ns.map V.int) ∧ ns.length ≤ 63) ∧ St4 H s
theorem Frm.put' {xs : List Addr} {H H1 : Hp} {a : Addr} {o : HO} (f : Frm xs H H1) (m : a ∈ xs) : Frm xs H (upd H1 a o) := f.trans (Frm.put m)
theorem Scr.frm {K : PySem.W.Frag} {H H' : Hp} {a s : Addr} (h : Scr K H a s) (f : Frm [s] H H') (q : St4 H' s) : Scr K H' a s := by
  obtain ⟨⟨ns, h1, h2⟩, _⟩ := h
  exact ⟨⟨ns, (hid_frm f).seq h1, h2⟩, q⟩
/-- what else is made or changed is not the state -/
theorem Scr.same {K : PySem.W.Frag} {H H' : Hp} {a s : Addr} (h : Scr K H a s) (f : Same H H') : Scr K H' a s := by
  obtain ⟨i, j, k, l, e⟩ := h.2
  exact h.frm (Frm.of_same f) ⟨i, j, k, l, f _ _ e⟩
theorem Scr.ne {K : PySem.W.Frag} {H : Hp} {a s p : Addr} (h : Scr K H a s) (n : H p = none) : ¬ p = s := by
  rintro rfl
  obtain ⟨_, _, _, _, e⟩ := h.2
  rw [n] at e
  cases e
theorem Scr.made {K : PySem.W.Frag} {H : Hp} {a p : Addr} {ns : List Int} (hS : SqL K H a (ns.map V.int)) (hl : ns.length ≤ 63) (n : H p = none) {i j k l : Int} : Scr K (upd H p (.lst [.int i, .int j, .int k, .int l])) a p := by
  refine ⟨⟨ns, Same.seq (H := H) (fun b o e => ?_) hS, hl⟩, i, j, k, l, upd_same⟩
  have nb : b ≠ p := ne_of_none e n
  rw [hid_eq (by simpa using nb), upd_ne nb]
  exact e
theorem ints_at {ns : List Int} {i : Int} (h0 : 0 ≤ i) (h1 : i < ns.length) : ∃ z : Int, atI (ns.map V.int) i = some (.int z) := by
  obtain ⟨j, rfl⟩ : ∃ j : Nat, i = (j : Int) := ⟨i.toNat, by omega⟩
  have hj : j < ns.length := by omega
  exact ⟨ns[j], atI_nat (by simp [hj])⟩
theorem fmod0 {a b : Int} (h : 0 < b) : 0 ≤ a.fmod b := by
  rw [Int.fmod_eq_emod_of_nonneg _ (by omega)]
  exact Int.emod_nonneg _ (by omega)
theorem fmod1 {a b : Int} (h : 0 < b) : a.fmod b < b := by
  rw [Int.fmod_eq_emod_of_nonneg _ (by omega)]
  exact Int.emod_lt_of_pos _ h
def sp_law_start (K : PySem.W.Frag) : Sp := fun vs H Q _ => ∃ (a : Addr) (ns : List Int), vs = [.ref a] ∧ SqL K H a (ns.map V.int) ∧ ns.length ≤ 63 ∧ ∀ p H', Same H H' → H p = none → Scr K H' a p → Q (.ref p) H'
def sp_law_draw (K : PySem.W.Frag) : Sp := fun vs H Q _ => ∃ (a s : Addr) (n : Int), vs = [.ref a, .ref s, .int n] ∧ Scr K H a s ∧ 0 < n ∧ n < 1073741824 ∧ ∀ (r : Int) (H' : Hp), 0 ≤ r → r < n → Frm [s] H H' → Scr K H' a s → Q (.int r) H'

theorem ok_law_start {f : Addr} {fd : FuncData} (F : Fun K "_law_start" "_law_start" s_law_start f fd) (T : Txt K mg) : FnOk P w K mg base CX0 1 f fd P_law_start (sp_law_start K) := by
  refine F.ok sc_law_start (fun vs H Q E h => ?_) (fun cdv A outer s H vs Q E hr h => ?_)
  · obtain ⟨a, ns, rfl, hS, hlen, k⟩ := h
    rfl
  · obtain ⟨a, ns, rfl, hS, hlen, k⟩ := h
    refine ⟨_, (pss_cons (ps_set (i := 1) sc_law_start.nd rfl (by first | exact Or.inl rfl | exact Or.inr rfl) pe_int)
  (pss_cons (ps_if (pt_cmpR op_gt (pe_callB call_len_seq (by rfl) T.b_len PySem.boot_len (pa_cons (pv 0) pa_nil)) pe_int (nomark _))
  (pss_one (ps_set (i := 1) sc_law_start.nd rfl (by first | exact Or.inl rfl | exact Or.inr rfl) (pe_ix ix_list (pv 0) pe_int (fun _ _ => rfl))))
  pss_nil)
  (pss_one (ps_ret (pe_lst (pa_cons (pe_callB (id := "abs") call_abs (by rfl) T.b_abs (by decide +kernel) (pa_cons (pe_callTy (T := "int") call_int1 (by rfl) T.b_int (by decide +kernel) (pa_cons (pv 1) pa_nil)) pa_nil)) (pa_cons (pe_callTy (T := "int") call_int1 (by rfl) T.b_int (by decide +kernel) (pa_cons (pe_cmpR op_ge (pe_callB (id := "abs") call_abs (by rfl) T.b_abs (by decide +kernel) (pa_cons (pe_callTy (T := "int") call_int1 (by rfl) T.b_int (by decide +kernel) (pa_cons (pv 1) pa_nil)) pa_nil)) (pe_op op_pow pe_int pe_int) (nomark _)) pa_nil)) (pa_cons pe_int (pa_cons pe_int pa_nil))))))))), ?_⟩
    refine ⟨_, rfl, a, _, rfl, .inl hS, _, _, rfl, rfl, _, rfl, ?_⟩
    refine ite2 (fun c => ?_) (fun c => ?_)
    · have hp : (0 : Int) < ns.length := by simpa using of_decide_eq_true c
      obtain ⟨z, hz⟩ := ints_at (ns := ns) (i := 0) (by omega) hp
      refine ⟨_, rfl, a, _, _, _, rfl, rfl, hS, hz, ?_⟩
      refine ⟨_, rfl, .inl ⟨_, rfl, _, rfl, _, rfl, .inl ⟨_, rfl, _, rfl, _, _, rfl, rfl, ⟨by decide, by decide, by decide⟩, _, _, rfl, rfl, .inr ⟨_, rfl, (by show 4 ≤ sizeLine; decide), fun l hl => k _ _ (Same.new hl) hl (Scr.made hS hlen hl)⟩⟩⟩⟩
    · refine ⟨_, rfl, .inl ⟨_, rfl, _, rfl, _, rfl, .inl ⟨_, rfl, _, rfl, _, _, rfl, rfl, ⟨by decide, by decide, by decide⟩, _, _, rfl, rfl, .inr ⟨_, rfl, (by show 4 ≤ sizeLine; decide), fun l hl => k _ _ (Same.new hl) hl (Scr.made hS hlen hl)⟩⟩⟩⟩

theorem ok_law_draw {f : Addr} {fd : FuncData} (F : Fun K "_law_draw" "_law_draw" s_law_draw f fd) (T : Txt K mg) : FnOk P w K mg base CX0 1 f fd P_law_draw (sp_law_draw K) := by
  refine F.ok sc_law_draw (fun vs H Q E h => ?_) (fun cdv A outer s H vs Q E hr h => ?_)
  · obtain ⟨a, s0, n, rfl, hScr, n0, n1, k⟩ := h
    rfl
  · obtain ⟨a, s0, n, rfl, hScr, n0, n1, k⟩ := h
    refine ⟨_, (pss_cons (ps_asg (pe_op op_add (pe_ix ix_list (pv 1) pe_int (fun _ _ => rfl)) pe_int) (pg_sub (pv 1) pe_int set_list))
  (pss_cons (ps_if (PW.pt (pw_and (pt_cmpR op_eq (pe_ix ix_list (pv 1) pe_int (fun _ _ => rfl)) pe_int (nomark _)) (pw_and1 (pt_cmpR op_gt (pe_ix ix_list (pv 1) pe_int (fun _ _ => rfl)) pe_int (nomark _)))))
  (pss_cons (ps_set (i := 3) sc_law_draw.nd rfl (by first | exact Or.inl rfl | exact Or.inr rfl) (pe_op op_modN (pe_callTy (T := "int") call_int1 (by rfl) T.b_int (by decide +kernel) (pa_cons (pe_ix ix_list (pv 1) pe_int (fun _ _ => rfl)) pa_nil)) (pv 2)))
  (pss_cons (ps_asg (pe_op op_fdivN (pe_ix ix_list (pv 1) pe_int (fun _ _ => rfl)) (pv 2)) (pg_sub (pv 1) pe_int set_list))
  (pss_one (ps_ret (pv 3)))))
  pss_nil)
  (pss_cons (ps_asg pe_int (pg_sub (pv 1) pe_int set_list))
  (pss_cons (ps_set (i := 4) sc_law_draw.nd rfl (by first | exact Or.inl rfl | exact Or.inr rfl) pe_int)
  (pss_cons (ps_if (pt_cmpR op_gt (pe_callB call_len_seq (by rfl) T.b_len PySem.boot_len (pa_cons (pv 0) pa_nil)) pe_int (nomark _))
  (pss_one (ps_set (i := 4) sc_law_draw.nd rfl (by first | exact Or.inl rfl | exact Or.inr rfl) (pe_ix ix_list (pv 0) (pe_op op_modN (pe_callTy (T := "int") call_int1 (by rfl) T.b_int (by decide +kernel) (pa_cons (pe_ix ix_list (pv 1) pe_int (fun _ _ => rfl)) pa_nil)) (pe_callB call_len_seq (by rfl) T.b_len PySem.boot_len (pa_cons (pv 0) pa_nil))) (fun _ _ => rfl))))
  pss_nil)
  (pss_cons (ps_asg (pe_op op_add (pe_ix ix_list (pv 1) pe_int (fun _ _ => rfl)) pe_int) (pg_sub (pv 1) pe_int set_list))
  (pss_cons (ps_set (i := 5) sc_law_draw.nd rfl (by first | exact Or.inl rfl | exact Or.inr rfl) (pe_op op_mul (pe_op op_modN (pe_callTy (T := "int") call_int1 (by rfl) T.b_int (by decide +kernel) (pa_cons (pe_ix ix_list (pv 1) pe_int (fun _ _ => rfl)) pa_nil)) pe_int) pe_int))
  (pss_cons (ps_set (i := 5) sc_law_draw.nd rfl (by first | exact Or.inl rfl | exact Or.inr rfl) (pe_op op_add (pe_op op_add (pe_op op_add (pv 5) (pe_op op_modN (pe_callTy (T := "int") call_int1 (by rfl) T.b_int (by decide +kernel) (pa_cons (pv 4) pa_nil)) pe_int)) (pe_op op_mul pe_int (pe_ix ix_list (pv 1) pe_int (fun _ _ => rfl)))) pe_int))
  (pss_cons (ps_asg (pe_op op_modN (pe_callTy (T := "int") call_int1 (by rfl) T.b_int (by decide +kernel) (pa_cons (pv 5) pa_nil)) pe_int) (pg_sub (pv 1) pe_int set_list))
  (pss_cons (ps_set (i := 5) sc_law_draw.nd rfl (by first | exact Or.inl rfl | exact Or.inr rfl) (pe_op op_modN (pe_callTy (T := "int") call_int1 (by rfl) T.b_int (by decide +kernel) (pa_cons (pe_op op_add (pe_op op_mul (pe_ix ix_list (pv 1) pe_int (fun _ _ => rfl)) pe_int) (pe_ix ix_list (pv 1) pe_int (fun _ _ => rfl))) pa_nil)) pe_int))
  (pss_one (ps_ret (pe_op op_modN (pe_callTy (T := "int") call_int1 (by rfl) T.b_int (by decide +kernel) (pa_cons (pe_op op_fdivN (pv 5) pe_int) pa_nil)) (pv 2)))))))))))))), ?_⟩
    obtain ⟨⟨ns, hS, hl⟩, i0, i1, i2, i3, h4⟩ := id hScr
    have hA : ∀ H', Frm [s0] H H' → SqL K H' a (ns.map V.int) := fun H' fr => ((hid_frm fr).trans (hid_same _ _)).seq hS
    -- state[3] = state[3] + 1
    refine ⟨_, rfl, s0, _, _, _, rfl, rfl, SqL.of h4, rfl, _, _, rfl, rfl, _, rfl, s0, _, _, _, rfl, rfl, h4, rfl, ?_⟩
    refine ⟨_, rfl, s0, _, _, _, rfl, rfl, SqL.of upd_same, rfl, rfl, _, rfl, ?_⟩
    refine ite2 (fun c1 => ?_) (fun c1 => ?_)
    · refine ⟨_, rfl, s0, _, _, _, rfl, rfl, SqL.of upd_same, rfl, _, _, rfl, rfl, _, rfl, ?_⟩
      refine ite2 (fun c2 => ?_) (fun c2 => ?_)
      · refine ⟨_, rfl, s0, _, _, _, rfl, rfl, SqL.of upd_same, rfl, .inl ⟨_, rfl, _, rfl, _, _, rfl, rfl, (by show (_ : Int) ≠ 0; omega), ?_⟩⟩
        refine ⟨_, rfl, s0, _, _, _, rfl, rfl, SqL.of upd_same, rfl, _, rfl, _, _, rfl, rfl, ⟨by omega, by omega⟩, _, rfl, s0, _, _, _, rfl, rfl, upd_same, rfl, ?_⟩
        exact ⟨_, rfl, k _ _ (fmod0 n0) (fmod1 n0) (by repeat (first | exact Frm.refl _ _ | refine Frm.put' ?_ (by simp))) (hScr.frm (by repeat (first | exact Frm.refl _ _ | refine Frm.put' ?_ (by simp))) ⟨_, _, _, _, upd_same⟩)⟩
      · refine ⟨_, rfl, s0, _, _, _, rfl, rfl, upd_same, rfl, ?_⟩
        refine ⟨_, rfl, a, _, rfl, .inl (hA _ (by repeat (first | exact Frm.refl _ _ | refine Frm.put' ?_ (by simp)))), _, _, rfl, rfl, _, rfl, ?_⟩
        refine ite2 (fun c => ?_) (fun c => ?_)
        · have hp : (0 : Int) < ns.length := by simpa using of_decide_eq_true c
          obtain ⟨z, hz⟩ := ints_at (ns := ns) (i := i2.fmod ((ns.map V.int).length : Nat)) (fmod0 (by simpa using hp)) (by simpa using fmod1 (a := i2) hp)
          refine ⟨_, rfl, _, rfl, s0, _, _, _, rfl, rfl, SqL.of upd_same, rfl, .inl ⟨_, rfl, _, rfl, a, _, rfl, .inl (hA _ (by repeat (first | exact Frm.refl _ _ | refine Frm.put' ?_ (by simp)))), _, _, rfl, rfl, (by show (((ns.map V.int).length : Nat) : Int) ≠ 0; rw [List.length_map]; omega), a, _, _, _, rfl, rfl, hA _ (by repeat (first | exact Frm.refl _ _ | refine Frm.put' ?_ (by simp))), hz, ?_⟩⟩
          -- state[2] = state[2] + 1; mixed = ..
          refine ⟨_, rfl, s0, _, _, _, rfl, rfl, SqL.of upd_same, rfl, _, _, rfl, rfl, _, rfl, s0, _, _, _, rfl, rfl, upd_same, rfl, ?_⟩
          refine ⟨_, rfl, s0, _, _, _, rfl, rfl, SqL.of upd_same, rfl, .inl ⟨_, rfl, _, _, rfl, rfl, (by show (_ : Int) ≠ 0; decide), _, _, rfl, rfl, .inr ⟨by decide, by decide⟩, ?_⟩⟩
          refine ⟨_, rfl, _, rfl, .inl ⟨_, rfl, _, _, rfl, rfl, (by show (_ : Int) ≠ 0; decide), _, _, rfl, rfl, _, rfl, s0, _, _, _, rfl, rfl, SqL.of upd_same, rfl, _, _, rfl, rfl, .inl ⟨by decide, by decide⟩, _, _, rfl, rfl, _, _, rfl, rfl, ?_⟩⟩
          refine ⟨_, rfl, .inl ⟨_, rfl, _, _, rfl, rfl, (by show (_ : Int) ≠ 0; decide), _, rfl, s0, _, _, _, rfl, rfl, upd_same, rfl, ?_⟩⟩
          refine ⟨_, rfl, s0, _, _, _, rfl, rfl, SqL.of upd_same, rfl, _, _, rfl, rfl, .inr ⟨by decide, by decide⟩, _, rfl, s0, _, _, _, rfl, rfl, SqL.of upd_same, rfl, _, _, rfl, rfl, .inl ⟨_, rfl, _, _, rfl, rfl, (by show (_ : Int) ≠ 0; decide), ?_⟩⟩
          refine ⟨_, rfl, _, _, rfl, rfl, ⟨by decide, by decide⟩, .inl ⟨_, rfl, _, rfl, _, _, rfl, rfl, (by show (_ : Int) ≠ 0; omega), ?_⟩⟩
          exact k _ _ (fmod0 n0) (fmod1 n0) (by repeat (first | exact Frm.refl _ _ | refine Frm.put' ?_ (by simp))) (hScr.frm (by repeat (first | exact Frm.refl _ _ | refine Frm.put' ?_ (by simp))) ⟨_, _, _, _, upd_same⟩)
        · -- state[2] = state[2] + 1; mixed = ..
          refine ⟨_, rfl, s0, _, _, _, rfl, rfl, SqL.of upd_same, rfl, _, _, rfl, rfl, _, rfl, s0, _, _, _, rfl, rfl, upd_same, rfl, ?_⟩
          refine ⟨_, rfl, s0, _, _, _, rfl, rfl, SqL.of upd_same, rfl, .inl ⟨_, rfl, _, _, rfl, rfl, (by show (_ : Int) ≠ 0; decide), _, _, rfl, rfl, .inr ⟨by decide, by decide⟩, ?_⟩⟩
          refine ⟨_, rfl, _, rfl, .inl ⟨_, rfl, _, _, rfl, rfl, (by show (_ : Int) ≠ 0; decide), _, _, rfl, rfl, _, rfl, s0, _, _, _, rfl, rfl, SqL.of upd_same, rfl, _, _, rfl, rfl, .inl ⟨by decide, by decide⟩, _, _, rfl, rfl, _, _, rfl, rfl, ?_⟩⟩
          refine ⟨_, rfl, .inl ⟨_, rfl, _, _, rfl, rfl, (by show (_ : Int) ≠ 0; decide), _, rfl, s0, _, _, _, rfl, rfl, upd_same, rfl, ?_⟩⟩
          refine ⟨_, rfl, s0, _, _, _, rfl, rfl, SqL.of upd_same, rfl, _, _, rfl, rfl, .inr ⟨by decide, by decide⟩, _, rfl, s0, _, _, _, rfl, rfl, SqL.of upd_same, rfl, _, _, rfl, rfl, .inl ⟨_, rfl, _, _, rfl, rfl, (by show (_ : Int) ≠ 0; decide), ?_⟩⟩
          refine ⟨_, rfl, _, _, rfl, rfl, ⟨by decide, by decide⟩, .inl ⟨_, rfl, _, rfl, _, _, rfl, rfl, (by show (_ : Int) ≠ 0; omega), ?_⟩⟩
          exact k _ _ (fmod0 n0) (fmod1 n0) (by repeat (first | exact Frm.refl _ _ | refine Frm.put' ?_ (by simp))) (hScr.frm (by repeat (first | exact Frm.refl _ _ | refine Frm.put' ?_ (by simp))) ⟨_, _, _, _, upd_same⟩)
    · refine ⟨_, rfl, s0, _, _, _, rfl, rfl, upd_same, rfl, ?_⟩
      refine ⟨_, rfl, a, _, rfl, .inl (hA _ (by repeat (first | exact Frm.refl _ _ | refine Frm.put' ?_ (by simp)))), _, _, rfl, rfl, _, rfl, ?_⟩
      refine ite2 (fun c => ?_) (fun c => ?_)
      · have hp : (0 : Int) < ns.length := by simpa using of_decide_eq_true c
        obtain ⟨z, hz⟩ := ints_at (ns := ns) (i := i2.fmod ((ns.map V.int).length : Nat)) (fmod0 (by simpa using hp)) (by simpa using fmod1 (a := i2) hp)
        refine ⟨_, rfl, _, rfl, s0, _, _, _, rfl, rfl, SqL.of upd_same, rfl, .inl ⟨_, rfl, _, rfl, a, _, rfl, .inl (hA _ (by repeat (first | exact Frm.refl _ _ | refine Frm.put' ?_ (by simp)))), _, _, rfl, rfl, (by show (((ns.map V.int).length : Nat) : Int) ≠ 0; rw [List.length_map]; omega), a, _, _, _, rfl, rfl, hA _ (by repeat (first | exact Frm.refl _ _ | refine Frm.put' ?_ (by simp))), hz, ?_⟩⟩
        -- state[2] = state[2] + 1; mixed = ..
        refine ⟨_, rfl, s0, _, _, _, rfl, rfl, SqL.of upd_same, rfl, _, _, rfl, rfl, _, rfl, s0, _, _, _, rfl, rfl, upd_same, rfl, ?_⟩
        refine ⟨_, rfl, s0, _, _, _, rfl, rfl, SqL.of upd_same, rfl, .inl ⟨_, rfl, _, _, rfl, rfl, (by show (_ : Int) ≠ 0; decide), _, _, rfl, rfl, .inr ⟨by decide, by decide⟩, ?_⟩⟩
        refine ⟨_, rfl, _, rfl, .inl ⟨_, rfl, _, _, rfl, rfl, (by show (_ : Int) ≠ 0; decide), _, _, rfl, rfl, _, rfl, s0, _, _, _, rfl, rfl, SqL.of upd_same, rfl, _, _, rfl, rfl, .inl ⟨by decide, by decide⟩, _, _, rfl, rfl, _, _, rfl, rfl, ?_⟩⟩
        refine ⟨_, rfl, .inl ⟨_, rfl, _, _, rfl, rfl, (by show (_ : Int) ≠ 0; decide), _, rfl, s0, _, _, _, rfl, rfl, upd_same, rfl, ?_⟩⟩
        refine ⟨_, rfl, s0, _, _, _, rfl, rfl, SqL.of upd_same, rfl, _, _, rfl, rfl, .inr ⟨by decide, by decide⟩, _, rfl, s0, _, _, _, rfl, rfl, SqL.of upd_same, rfl, _, _, rfl, rfl, .inl ⟨_, rfl, _, _, rfl, rfl, (by show (_ : Int) ≠ 0; decide), ?_⟩⟩
        refine ⟨_, rfl, _, _, rfl, rfl, ⟨by decide, by decide⟩, .inl ⟨_, rfl, _, rfl, _, _, rfl, rfl, (by show (_ : Int) ≠ 0; omega), ?_⟩⟩
        exact k _ _ (fmod0 n0) (fmod1 n0) (by repeat (first | exact Frm.refl _ _ | refine Frm.put' ?_ (by simp))) (hScr.frm (by repeat (first | exact Frm.refl _ _ | refine Frm.put' ?_ (by simp))) ⟨_, _, _, _, upd_same⟩)
      · -- state[2] = state[2] + 1; mixed = ..
        refine ⟨_, rfl, s0, _, _, _, rfl, rfl, SqL.of upd_same, rfl, _, _, rfl, rfl, _, rfl, s0, _, _, _, rfl, rfl, upd_same, rfl, ?_⟩
        refine ⟨_, rfl, s0, _, _, _, rfl, rfl, SqL.of upd_same, rfl, .inl ⟨_, rfl, _, _, rfl, rfl, (by show (_ : Int) ≠ 0; decide), _, _, rfl, rfl, .inr ⟨by decide, by decide⟩, ?_⟩⟩
        refine ⟨_, rfl, _, rfl, .inl ⟨_, rfl, _, _, rfl, rfl, (by show (_ : Int) ≠ 0; decide), _, _, rfl, rfl, _, rfl, s0, _, _, _, rfl, rfl, SqL.of upd_same, rfl, _, _, rfl, rfl, .inl ⟨by decide, by decide⟩, _, _, rfl, rfl, _, _, rfl, rfl, ?_⟩⟩
        refine ⟨_, rfl, .inl ⟨_, rfl, _, _, rfl, rfl, (by show (_ : Int) ≠ 0; decide), _, rfl, s0, _, _, _, rfl, rfl, upd_same, rfl, ?_⟩⟩
        refine ⟨_, rfl, s0, _, _, _, rfl, rfl, SqL.of upd_same, rfl, _, _, rfl, rfl, .inr ⟨by decide, by decide⟩, _, rfl, s0, _, _, _, rfl, rfl, SqL.of upd_same, rfl, _, _, rfl, rfl, .inl ⟨_, rfl, _, _, rfl, rfl, (by show (_ : Int) ≠ 0; decide), ?_⟩⟩
        refine ⟨_, rfl, _, _, rfl, rfl, ⟨by decide, by decide⟩, .inl ⟨_, rfl, _, rfl, _, _, rfl, rfl, (by show (_ : Int) ≠ 0; omega), ?_⟩⟩
        exact k _ _ (fmod0 n0) (fmod1 n0) (by repeat (first | exact Frm.refl _ _ | refine Frm.put' ?_ (by simp))) (hScr.frm (by repeat (first | exact Frm.refl _ _ | refine Frm.put' ?_ (by simp))) ⟨_, _, _, _, upd_same⟩)
end
section
variable {P : Program} {w : World} {K : PySem.W.Frag} {mg : Str → Option Value} {base : Heap}

theorem ok_shown {f : Addr} {fd : FuncData} (F : Fun K "_shown" "_shown" s_shown f fd) (T : Txt K mg) : FnOk P w K mg base CX0 1 f fd P_shown sp_shown := by
  refine F.ok sc_shown (fun vs H Q E h => ?_) (fun cdv A outer s H vs Q E hr h => ?_)
  · obtain ⟨x, rfl, hx, k⟩ := h
    rfl
  · obtain ⟨x, rfl, hx, k⟩ := h
    refine ⟨_, (pss_cons (ps_if (pt_val (pe_callB (id := "isinstance") call_isi (by rfl) T.b_isinstance (by decide +kernel) (pa_cons (pv 0) (pa_cons (pe_bltn (v := .ty "str") (by rfl) T.b_str (by decide +kernel) rfl) pa_nil))))
  (pss_one (ps_ret (pe_callB (id := "repr") call_repr_str (by rfl) T.b_repr (by decide +kernel) (pa_cons (pv 0) pa_nil))))
  pss_nil)
  (pss_cons (ps_if (PW.pt (pw_and (pt_val (pe_callB (id := "isinstance") call_isi (by rfl) T.b_isinstance (by decide +kernel) (pa_cons (pv 0) (pa_cons (pe_bltn (v := .ty "int") (by rfl) T.b_int (by decide +kernel) rfl) pa_nil)))) (pw_and1 (pt_chain op_ltM op_ltM (pe_un un_neg pe_int) (pv 0) pe_int))))
  (pss_one (ps_ret (pe_callTy (T := "str") call_str_ib (by rfl) T.b_str (by decide +kernel) (pa_cons (pv 0) pa_nil))))
  pss_nil)
  (pss_one (ps_ret pe_str)))), ?_⟩
    rcases hx with ⟨z, rfl, hz⟩ | ⟨i, rfl⟩ | rfl | ⟨b, rfl⟩
    · refine ⟨_, rfl, _, _, _, _, true, rfl, .ty _, .base (.str _), kit_ty (by decide +kernel), true, rfl, iteT ?_⟩
      exact ⟨_, rfl, z, rfl, Nat.le_trans hz (by rw [sizeLine_eq]; decide), k _ hz⟩
    · refine ⟨_, rfl, _, _, _, _, false, rfl, .ty _, .base (.int _), kit_ty (by decide +kernel), false, rfl, iteF ?_⟩
      refine ⟨_, rfl, _, _, _, _, true, rfl, .ty _, .base (.int _), kit_ty (by decide +kernel), true, rfl, iteT ?_⟩
      refine ⟨_, rfl, _, rfl, _, _, rfl, rfl, _, rfl, ?_⟩
      refine ite2 (fun c1 => ?_) (fun c1 => ?_)
      · have c1 := of_decide_eq_true c1
        refine ⟨_, _, rfl, rfl, _, rfl, ?_⟩
        refine ite2 (fun c2 => ?_) (fun c2 => ?_)
        · have c2 := of_decide_eq_true c2
          have hn : i.natAbs < 10 ^ 4 := by
            have e : (10 : Nat) ^ 4 = 10000 := by decide
            rw [e]
            omega
          refine ⟨_, rfl, .inl ⟨_, rfl, ?_, k _ ?_⟩⟩
          · have h2 : i.natAbs < 2 ^ 1920 := Nat.lt_of_lt_of_le hn (by decide)
            by_cases h0 : i.natAbs = 0
            · rw [h0]
              decide
            · exact (Nat.log2_lt h0).mpr h2
          · have e := int_text_length_le10 (k := 4) (by decide) hn
            show (Str.ofString (toString i)).length ≤ _
            rw [PySem.ofString_length]
            omega
        · exact k _ (by decide +kernel)
      · refine ⟨_, rfl, ite2 (fun z => absurd z (by decide)) (fun _ => ?_)⟩
        exact k _ (by decide +kernel)
    · refine ⟨_, rfl, _, _, _, _, false, rfl, .ty _, .base .non, kit_ty (by decide +kernel), false, rfl, iteF ?_⟩
      refine ⟨_, rfl, _, _, _, _, false, rfl, .ty _, .base .non, kit_ty (by decide +kernel), false, rfl, iteF ?_⟩
      exact k _ (by decide +kernel)
    · refine ⟨_, rfl, _, _, _, _, false, rfl, .ty _, .base (.bl _), kit_ty (by decide +kernel), false, rfl, iteF ?_⟩
      refine ⟨_, rfl, _, _, _, _, true, rfl, .ty _, .base (.bl _), kit_ty (by decide +kernel), true, rfl, iteT ?_⟩
      refine ⟨_, rfl, _, rfl, _, _, rfl, rfl, _, rfl, ?_⟩
      refine ite2 (fun c1 => ?_) (fun c1 => absurd (decide_eq_true (by cases b <;> decide)) c1)
      refine ⟨_, _, rfl, rfl, _, rfl, ?_⟩
      refine ite2 (fun c2 => ?_) (fun c2 => absurd (decide_eq_true (by cases b <;> decide)) c2)
      exact ⟨_, rfl, .inr ⟨b, rfl, k _ (by cases b <;> decide +kernel)⟩⟩

theorem okBadNumber___init__ {f C cda cc : Addr} {oc dV kV doc pm ct : Value} {an od : Option Addr} {osl : Array (Option Value)} (lk : K.lookup f = some ⟨oc, od, .func (PySem.W.fnX "__init__" "BadNumber.__init__" (defArgs sBadNumber___init__) (defBody sBadNumber___init__) (defScope sBadNumber___init__) [("__class__", cc)] dV kV doc pm an (.ref cda) ct), osl⟩) (EC : ErrC P K mg "BadNumber" "BadNumber.__init__" C f cda cc) (T : Txt K mg)
    (C_shown : Cal P w K mg base "_shown" P_shown 1 sp_shown) : FnOk P w K mg base CX0 2 f (PySem.W.fnX "__init__" "BadNumber.__init__" (defArgs sBadNumber___init__) (defBody sBadNumber___init__) (defScope sBadNumber___init__) [("__class__", cc)] dV kV doc pm an (.ref cda) ct) PBadNumber___init__ (spBadNumber C) := by
  obtain ⟨g_shown, gd_shown, G_shown, m_shown, k_shown, b_shown⟩ := C_shown.ex
  refine fn_super (N := NBadNumber___init__) lk EC.sup scBadNumber___init__ rfl rfl rfl rfl (fun vs H Q E h => ?_) (fun A outer s H vs Q E hr h => ?_)
  · obtain ⟨a, z, v, rfl, ha, hz, hv, k⟩ := h
    rfl
  · obtain ⟨a, z, v, rfl, ha, hz, hv, k⟩ := h
    refine ⟨_, _, (pa_cons (pe_joined (.cons pe_str (.cons (pe_fmt (pv 1)) (.cons pe_str (.cons (pe_fmt (pe_call G_shown (hr.mono (by decide)) (by rfl) m_shown k_shown b_shown .nil pass0 (pa_cons (pv 2) pa_nil))) .nil))))) pa_nil), (pss_cons (ps_ost (pv 0) (pv 1)) (pss_one (ps_ost (pv 0) (pv 2)))), ?_⟩
    have h1 : (Str.empty ++ ("bad number for " : Str)).length ≤ 15 := by decide +kernel
    have h2 : (Str.empty ++ ("bad number for " : Str) ++ z).length ≤ 1015 := by rw [PySem.Str.length_append]; omega
    have h3 : (Str.empty ++ ("bad number for " : Str) ++ z ++ (": " : Str)).length ≤ 1017 := by rw [PySem.Str.length_append]; rw [show (": " : Str).length = 2 by decide +kernel]; omega
    refine ⟨a, _, rfl, ha, ?_⟩
    refine ⟨_, rfl, Nat.le_trans h1 (by rw [sizeLine_eq]; decide), ?_⟩
    refine ⟨_, rfl, .inl ⟨z, rfl, Nat.le_trans hz (by rw [sizeLine_eq]; decide), z, rfl, Nat.le_trans h2 (by rw [sizeLine_eq]; decide), ?_⟩⟩
    refine ⟨_, rfl, Nat.le_trans h3 (by rw [sizeLine_eq]; decide), ?_⟩
    refine ⟨_, rfl, v, rfl, hv, fun y hy => .inl ⟨y, rfl, Nat.le_trans hy (by rw [sizeLine_eq]; decide), y, rfl, ?_, ?_⟩⟩
    · rw [PySem.Str.length_append, sizeLine_eq]
      omega
    refine ⟨(by show 1 ≤ 1000; decide), ha, ?_⟩
    refine ⟨_, rfl, _, rfl, a, C, rfl, EC.sup.oex, EC.noWhat, .inl ⟨ha, fun dx nd ne => ?_⟩⟩
    refine ⟨_, rfl, _, rfl, a, C, rfl, EC.sup.oex, EC.noValue, .inr ⟨dx, _, upd_same, (by rw [upd_ne ne]; exact upd_same), (by show 1 ≤ 900; decide), ?_⟩⟩
    exact init_leaves2 ha k nd ne
end
end Wb

namespace Wb
open PySem PySem.Spec PyProof.Rows L2 Wx NdefX RZ StX PyProof.Rows.FinIter
section
variable {P : Program} {w : World} {K : PySem.W.Frag} {mg : Str → Option Value} {base : Heap}

theorem take_snoc {α : Type} : ∀ {l : List α} {i : Nat} {x : α}, l[i]? = some x → l.take (i + 1) = l.take i ++ [x]
  | [], i, x, h => by simp at h
  | a :: l, 0, x, h => by
    have e : a = x := Option.some.inj h
    subst e
    rfl
  | a :: l, i + 1, x, h => by
    have ih := take_snoc (l := l) (i := i) (x := x) h
    show a :: l.take (i + 1) = a :: l.take i ++ [x]
    rw [ih]
    rfl
abbrev codes (z : Str) : List Nat := z.cps.toList
theorem codes_len (z : Str) : (codes z).length = z.length := Array.length_toList
theorem codes_app (x y : Str) : codes (x ++ y) = codes x ++ codes y := by
  show (x ++ y).cps.toList = _
  rw [PySem.Str.cps_append, Array.toList_append]
theorem bigN {n : Nat} (h : n ≤ 1000000) : n ≤ sizeLine := Nat.le_trans h (by rw [sizeLine_eq]; decide)
theorem lt1 {c d : Nat} : ([c] : List Nat) < [d] ↔ c < d := by
  rw [List.cons_lt_cons_iff]
  simp
theorem aS : ("a" : Str).cps.toList = [97] := by decide +kernel
theorem zS : ("z" : Str).cps.toList = [122] := by decide +kernel
def lowB (z : Str) : Bool := (codes z).all fun c => decide (97 ≤ c ∧ c ≤ 122)
def nameB : V → Bool
  | .str z => decide (1 ≤ z.length ∧ z.length ≤ 8) && lowB z
  | _ => false
def numB (v : V) (lo hi : Int) : Bool := match v with | .int i => decide (lo ≤ i ∧ i ≤ hi) | _ => false
/-- a value of one of the kinds that are asked -/
inductive OddV : V → Prop
  | str (z : Str) : z.length ≤ 1000 → (reprText z).length ≤ 20000 → OddV (.str z)
  | int (i : Int) : OddV (.int i)
  | non : OddV .non
  | bl (b : Bool) : OddV (.bl b)
theorem OddV.shows {x : V} (h : OddV x) : ShowOk x := by
  cases h with
  | str z h1 h2 => exact .inl ⟨z, rfl, h2⟩
  | int i => exact .inr (.inl ⟨i, rfl⟩)
  | non => exact .inr (.inr (.inl rfl))
  | bl b => exact .inr (.inr (.inr ⟨b, rfl⟩))
theorem OddV.self {x : V} (h : OddV x) : scal x x = true := by cases h <;> rfl
theorem OddV.text {x : V} (h : OddV x) (z : Str) : scal x (.str z) = true := by cases h <;> rfl
theorem OddV.tyOf {x : V} (h : OddV x) {K : PySem.W.Frag} {H : Hp} : ∃ T, TyOf K H x T ∧ True := by
  cases h with
  | str z h1 h2 => exact ⟨_, .str _, trivial⟩
  | int i => exact ⟨_, .int _, trivial⟩
  | non => exact ⟨_, .non, trivial⟩
  | bl b => exact ⟨_, .bl _, trivial⟩
def spis_name : Sp := fun vs H Q _ => ∃ x, vs = [x] ∧ OddV x ∧ ∀ H', Same H H' → Q (.bl (nameB x)) H'
def spcheck_name (C : Addr) : Sp := fun vs H Q E => ∃ x, vs = [x] ∧ OddV x ∧ (nameB x = true → ∀ H', Same H H' → Q x H') ∧
  (nameB x = false → ∀ (d : Addr) (H' : Hp), H d = none → Same H H' → H' d = some (.xd [("name", x)]) → E (.ref C) (some d) H')
def spcheck_number (C : Addr) : Sp := fun vs H Q E => ∃ (z : Str) (v : V) (lo hi : Int), vs = [.str z, v, .int lo, .int hi] ∧ z.length ≤ 1000 ∧ OddV v ∧ (numB v lo hi = true → Q v H) ∧
  (numB v lo hi = false → ∀ (d : Addr) (H' : Hp), H d = none → Same H H' → H' d = some (.xd [("value", v), ("what", .str z)]) → E (.ref C) (some d) H')
def sp_law_is_integer : Sp := fun vs H Q _ => ∃ i : Int, vs = [.int i] ∧ Q (.bl true) H
theorem look_val {v w : V} : ([("value", v), ("what", w)] : List (Str × V)).lookup ("value" : Str) = some v := by rw [lookup_put, if_pos rfl]
theorem look_what {v w : V} : ([("value", v), ("what", w)] : List (Str × V)).lookup ("what" : Str) = some w := by rw [lookup_put, if_neg (by decide +kernel), lookup_put, if_pos rfl]
theorem look_name {v : V} : ([("name", v)] : List (Str × V)).lookup ("name" : Str) = some v := by rw [lookup_put, if_pos rfl]
theorem ne_self {x : V} : ¬ (!decide (x = x)) = true := by rw [decide_eq_true rfl]; exact Bool.false_ne_true
theorem upd_upd {H : Hp} {a : Addr} {o o1 : HO} : upd (upd H a o) a o1 = upd H a o1 := by
  funext b
  by_cases h : b = a
  · rw [h, upd_same, upd_same]
  · rw [upd_ne h, upd_ne h, upd_ne h]
def TxtOk (n : Nat) (z : Str) : Prop := z.length ≤ n ∧ ∀ c, c ∈ codes z → c < 128
theorem TxtOk.repr {n : Nat} {z : Str} (h : TxtOk n z) (hn : n ≤ 1000) : (reprText z).length ≤ 20000 := by
  have := PySem.StrLaws.reprText_len z (fun c hc => Nat.lt_trans (h.2 c hc) (by decide))
  have := h.1
  omega
theorem TxtOk.mono {m n : Nat} {z : Str} (h : TxtOk m z) (hn : m ≤ n) : TxtOk n z := ⟨Nat.le_trans h.1 hn, h.2⟩
theorem TxtOk.app {m n : Nat} {x y : Str} (h1 : TxtOk m x) (h2 : TxtOk n y) : TxtOk (m + n) (x ++ y) := by
  refine ⟨by rw [PySem.Str.length_append]; have := h1.1; have := h2.1; omega, fun c hc => ?_⟩
  have e : codes (x ++ y) = codes x ++ codes y := by
    show (x ++ y).cps.toList = _
    rw [PySem.Str.cps_append, Array.toList_append]
  rw [e] at hc
  rcases List.mem_append.mp hc with q | q
  · exact h1.2 c q
  · exact h2.2 c q
theorem TxtOk.cut {n : Nat} {z : Str} {lo hi : Option Int} (h : TxtOk n z) : TxtOk n (cutS z lo hi) := by
  have e : codes (cutS z lo hi) = ((codes z).drop (HT.sIx z.length 0 lo)).take (HT.sIx z.length z.length hi - HT.sIx z.length 0 lo) := by
    unfold cutS codes
    simp
  refine ⟨?_, fun c hc => ?_⟩
  · rw [← codes_len, e, List.length_take, List.length_drop, codes_len]
    have := h.1
    omega
  · rw [e] at hc
    exact h.2 c (List.mem_of_mem_drop (List.mem_of_mem_take hc))
theorem TxtOk.one {c : Nat} (h : c < 128) : TxtOk 1 ⟨#[c]⟩ := ⟨Nat.le_refl _, fun d hd => by
  have : d = c := by simpa [codes] using hd
  omega⟩
theorem Str.odd {n : Nat} {z : Str} (h : TxtOk n z) (hn : n ≤ 1000) : OddV (.str z) := .str z (Nat.le_trans h.1 hn) (h.repr hn)
theorem scr_of {K : PySem.W.Frag} {H H' : Hp} {a s p : Addr} (h : Scr K H a s) (n : H p = none) (f : Frm [p, s] H H') (q : St4 H' s) : Scr K H' a s := by
  obtain ⟨⟨ns, h1, h2⟩, _⟩ := h
  refine ⟨⟨ns, Same.seq (fun b o e => ?_) h1, h2⟩, q⟩
  have nb : ¬ b ∈ [s] := fun y => by
    rw [show hid [s] H b = none from if_pos y] at e
    cases e
  rw [hid_eq nb] at e ⊢
  refine f b o (fun y => ?_) e
  rcases List.mem_cons.mp y with z | z
  · rw [z, n] at e
    cases e
  · exact nb z
theorem OddV.dp {x : V} (h : OddV x) (hs : ∀ z, x = .str z → PyData.strOk z = true) : ∃ d, (∀ K H, Dp K H x d) ∧ (∀ t : Str, PyData.strOk t = true → SeqAt.shaped (.tuple [.str t, d]) = true) := by
  cases h with
  | str z h1 h2 => exact ⟨_, fun _ _ => .str z, fun t ht => by simp [SeqAt.shaped, PyData.canLay0, PyData.canLayAll0, PyData.depth, PyData.depthAll, ht, hs z rfl]⟩
  | int i => exact ⟨_, fun _ _ => .int i, fun t ht => by simp [SeqAt.shaped, PyData.canLay0, PyData.canLayAll0, PyData.depth, PyData.depthAll, ht]⟩
  | non => exact ⟨_, fun _ _ => .non, fun t ht => by simp [SeqAt.shaped, PyData.canLay0, PyData.canLayAll0, PyData.depth, PyData.depthAll, ht]⟩
  | bl b => exact ⟨_, fun _ _ => .bl b, fun t ht => by simp [SeqAt.shaped, PyData.canLay0, PyData.canLayAll0, PyData.depth, PyData.depthAll, ht]⟩
theorem TxtOk.strOk {n : Nat} {z : Str} (h : TxtOk n z) : PyData.strOk z = true := by
  unfold PyData.strOk
  rw [Array.all_eq_true_iff_forall_mem]
  intro c hc
  exact decide_eq_true (Nat.lt_trans (h.2 c (by simpa [codes] using hc)) (by decide))
/-- the two told pairs are equal -/
theorem pair_eq {K : PySem.W.Frag} {H : Hp} {q r : Addr} {t : Str} {v : V} (ht : PyData.strOk t = true) (o : OddV v) (hs : ∀ z, v = .str z → PyData.strOk z = true) (h1 : H q = some (.tup [.str t, v])) (h2 : H r = some (.tup [.str t, v])) :
    ∃ d e, Dp K H (.ref q) d ∧ Dp K H (.ref r) e ∧ SeqAt.shaped d = true ∧ SeqAt.shaped e = true ∧ PyData.eqv d e = true := by
  obtain ⟨d, hd, sd⟩ := o.dp hs
  exact ⟨_, _, .tup (.inl (.inl h1)) (.cons (.str t) (.cons (hd K H) .nil)), .tup (.inl (.inl h2)) (.cons (.str t) (.cons (hd K H) .nil)), sd t ht, sd t ht, PySem.SeqAt.eqv_refl _ (PySem.SeqAt.canLay_of_shaped (sd t ht))⟩

/-- what is asked of a class with __init__ and __eq__ -/
structure DatC (K : PySem.W.Frag) (mg : Str → Option Value) (x : Str) (C fi fe : Addr) (fs : List Str) : Prop where
  g : mg x = some (.ref C)
  mkk : Mk K C fi
  cls : Cls K C
  no : ∀ f, f ∈ fs → NoAttr K C f
  eq : PySem.W.findIn K (.ref C) "__eq__" = some (some (.ref fe))
  fe : PySem.W.isFn K (.ref fe) = true
  ne : PySem.W.findIn K (.ref C) "__ne__" = some (some (.builtin "object.__ne__"))
  ob : PySem.W.subIn K (.ref C) (.type "object") = some true
  ha : PySem.W.findIn K (.ref C) "__class__" = some (some (.builtin "object.__class__"))
  hn : PySem.W.specialIn K (.builtin "object.__class__") "__get__" = some (some (.builtin "getset_descriptor.__get__"))
  htk : PySem.W.takesIn K (.builtin "object.__class__") = some true
  hm : PySem.W.mroIn K C (.type "object") = some true
  kit : PySem.W.kitOne K (.ref C) (.ref C) = some true
def splaw (K : PySem.W.Frag) : Sp := fun vs H Q _ => ∃ (a : Addr) (ns : List Int), vs = [.ref a] ∧ SqL K H a (ns.map V.int) ∧ ns.length ≤ 63 ∧ ∀ H', Q (.bl true) H'

theorem Same.seqT {K : PySem.W.Frag} {H H' : Hp} {a : Addr} {xs : List V} (e : Same H H') (h : SqT K H a xs) : SqT K H' a xs := by
  rcases h with h | h
  · exact .inl (h.imp (e a _) fun ⟨o, q⟩ => ⟨o, e a _ q⟩)
  · exact .inr h
def bad8 (x : V) : Bool := !numB x 0 8
theorem find_at {p : V → Bool} : ∀ {xs : List V} {i : Nat} {x : V}, xs[i]? = some x → (∀ y, y ∈ xs.take i → p y = false) → p x = true → xs.find? p = some x
  | [], i, x, h, _, _ => by simp at h
  | y :: ys, 0, x, h, _, q => by
    have e : y = x := Option.some.inj h
    subst e
    rw [List.find?_cons, q]
  | y :: ys, i + 1, x, h, k, q => by
    rw [List.find?_cons, k y (by rw [List.take_succ_cons]; exact List.mem_cons_self)]
    exact find_at (xs := ys) (i := i) h (fun z hz => k z (by rw [List.take_succ_cons]; exact List.mem_cons_of_mem _ hz)) q
theorem find_none {p : V → Bool} {xs : List V} (k : ∀ y, y ∈ xs → p y = false) : xs.find? p = none := List.find?_eq_none.mpr fun y hy => by rw [k y hy]; exact Bool.false_ne_true
def spcheck_units (K : PySem.W.Frag) (C : Addr) : Sp := fun vs H Q E => ∃ (z : Str) (a : Addr) (xs : List V), vs = [.str z, .ref a] ∧ z.length ≤ 1000 ∧ (SqL K H a xs ∨ SqT K H a xs) ∧ xs.length ≤ 1000 ∧ (∀ x, x ∈ xs → OddV x) ∧
  (xs.find? bad8 = none → ∀ (q : Addr) (H' : Hp), H q = none → H' q = some (.tup xs) → Same H H' → Q (.ref q) H') ∧
  (∀ x, xs.find? bad8 = some x → ∀ (d : Addr) (H' : Hp), H d = none → Same H H' → H' d = some (.xd [("value", x), ("what", .str z)]) → E (.ref C) (some d) H')

theorem okcheck_number {f : Addr} {fd : FuncData} (F : Fun K "check_number" "check_number" scheck_number f fd) (T : Txt K mg) {C_BadNumber f_BadNumber cda_BadNumber cc_BadNumber : Addr} {fd_BadNumber : FuncData} (E_BadNumber : ErrC P K mg "BadNumber" "BadNumber.__init__" C_BadNumber f_BadNumber cda_BadNumber cc_BadNumber) (G_BadNumber : FnOk P w K mg base CX0 2 f_BadNumber fd_BadNumber PBadNumber___init__ (spBadNumber C_BadNumber)) (b_BadNumber : Binds K fd_BadNumber PBadNumber___init__ []) : FnOk P w K mg base (L2.CX P w) 4 f fd Pcheck_number (spcheck_number C_BadNumber) := by
  refine F.okX sccheck_number (fun vs H Q E h => ?_) (fun cdv A outer s H vs Q E hr h => ?_)
  · obtain ⟨z, v, lo, hi, rfl, hz, hv, kT, kE⟩ := h
    rfl
  · obtain ⟨z, v, lo, hi, rfl, hz, hv, kT, kE⟩ := h
    refine ⟨_, (pss_cons (ps_if (PW.pt (pw_or (pt_val (pe_callB (id := "isinstance") call_isi (by rfl) T.b_isinstance (by decide +kernel) (pa_cons (pv 1) (pa_cons (pe_bltn (v := .ty "bool") (by rfl) T.b_bool (by decide +kernel) rfl) pa_nil)))) (pw_or1 (pt_not (pt_val (pe_callB (id := "isinstance") call_isi (by rfl) T.b_isinstance (by decide +kernel) (pa_cons (pv 1) (pa_cons (pe_bltn (v := .ty "int") (by rfl) T.b_int (by decide +kernel) rfl) pa_nil))))))))
  (pss_one (ps_raise rfl (takes_of rfl rfl rfl rfl) (pmk_oex E_BadNumber.sup.oex E_BadNumber.ini E_BadNumber.tyI G_BadNumber (hr.mono (by decide)) b_BadNumber .nil pass0 (by rfl) E_BadNumber.g (pa_cons (pv 0) (pa_cons (pv 1) pa_nil)))))
  pss_nil)
  (pss_cons (ps_if (PW.pt (pw_or (pt_cmpR op_lt (pv 1) (pv 2) (nomark _)) (pw_or1 (pt_cmpR op_gt (pv 1) (pv 3) (nomark _)))))
  (pss_one (ps_raise rfl (takes_of rfl rfl rfl rfl) (pmk_oex E_BadNumber.sup.oex E_BadNumber.ini E_BadNumber.tyI G_BadNumber (hr.mono (by decide)) b_BadNumber .nil pass0 (by rfl) E_BadNumber.g (pa_cons (pv 0) (pa_cons (pv 1) pa_nil)))))
  pss_nil)
  (pss_one (ps_ret (pv 1))))), ?_⟩
    have hv0 := hv
    cases hv with
    | int i =>
      refine ⟨_, rfl, _, _, _, _, false, rfl, .ty _, .base (.int _), kit_ty (by decide +kernel), false, rfl, iteF ?_⟩
      refine ⟨_, rfl, _, _, _, _, true, rfl, .ty _, .base (.int _), kit_ty (by decide +kernel), true, rfl, iteF ?_⟩
      refine ⟨_, rfl, _, rfl, _, _, rfl, rfl, _, rfl, ?_⟩
      refine ite2 (fun c1 => ?_) (fun c1 => ?_)
      · have c1 := of_decide_eq_true c1
        exact ⟨_, rfl, _, rfl, (by show 2 ≤ 1000; decide), fun a na => ⟨a, z, _, rfl, upd_same, hz, hv0.shows, made_of na fun d H' nd s' hd => kE (decide_eq_false (by omega)) d H' nd s' hd⟩⟩
      · have c1 : ¬ i < lo := fun q => c1 (decide_eq_true q)
        refine ⟨_, rfl, _, rfl, _, _, rfl, rfl, _, rfl, ?_⟩
        refine ite2 (fun c2 => ?_) (fun c2 => ?_)
        · have c2 := of_decide_eq_true c2
          exact ⟨_, rfl, _, rfl, (by show 2 ≤ 1000; decide), fun a na => ⟨a, z, _, rfl, upd_same, hz, hv0.shows, made_of na fun d H' nd s' hd => kE (decide_eq_false (by omega)) d H' nd s' hd⟩⟩
        · have c2 : ¬ hi < i := fun q => c2 (decide_eq_true q)
          exact ⟨_, rfl, kT (decide_eq_true (by omega))⟩
    | non =>
      refine ⟨_, rfl, _, _, _, _, false, rfl, .ty _, .base .non, kit_ty (by decide +kernel), false, rfl, iteF ?_⟩
      refine ⟨_, rfl, _, _, _, _, false, rfl, .ty _, .base .non, kit_ty (by decide +kernel), false, rfl, iteT ?_⟩
      exact ⟨_, rfl, _, rfl, (by show 2 ≤ 1000; decide), fun a na => ⟨a, z, _, rfl, upd_same, hz, hv0.shows, made_of na fun d H' nd s' hd => kE rfl d H' nd s' hd⟩⟩
    | bl b =>
      refine ⟨_, rfl, _, _, _, _, true, rfl, .ty _, .base (.bl _), kit_ty (by decide +kernel), true, rfl, iteT ?_⟩
      exact ⟨_, rfl, _, rfl, (by show 2 ≤ 1000; decide), fun a na => ⟨a, z, _, rfl, upd_same, hz, hv0.shows, made_of na fun d H' nd s' hd => kE rfl d H' nd s' hd⟩⟩
    | str y h1 h2 =>
      refine ⟨_, rfl, _, _, _, _, false, rfl, .ty _, .base (.str _), kit_ty (by decide +kernel), false, rfl, iteF ?_⟩
      refine ⟨_, rfl, _, _, _, _, false, rfl, .ty _, .base (.str _), kit_ty (by decide +kernel), false, rfl, iteT ?_⟩
      exact ⟨_, rfl, _, rfl, (by show 2 ≤ 1000; decide), fun a na => ⟨a, z, _, rfl, upd_same, hz, hv0.shows, made_of na fun d H' nd s' hd => kE rfl d H' nd s' hd⟩⟩

theorem okcheck_units {f : Addr} {fd : FuncData} (F : Fun K "check_units" "check_units" scheck_units f fd) (T : Txt K mg) {C_BadNumber : Addr} (C_xcheck_number : ∃ (g : Addr) (gd : FuncData), FnOk P w K mg base (L2.CX P w) 4 g gd Pcheck_number (spcheck_number C_BadNumber) ∧ mg "check_number" = some (.ref g) ∧ PySem.W.keepIn K (.ref g) = true ∧ Binds K gd Pcheck_number []) : FnOk P w K mg base (L2.CX P w) 5 f fd Pcheck_units (spcheck_units K C_BadNumber) := by
  obtain ⟨_, c_MOST_UNITS⟩ := T.c_MOST_UNITS
  obtain ⟨gcheck_number, gdcheck_number, Gcheck_number, mcheck_number, kcheck_number, bcheck_number⟩ := C_xcheck_number
  refine F.okX sccheck_units (fun vs H Q E h => ?_) (fun cdv A outer s H vs Q E hr h => ?_)
  · obtain ⟨z, a, xs, rfl, hz, hs, hl, ho, kT, kE⟩ := h
    rfl
  · obtain ⟨z, a, xs, rfl, hz, hs, hl, ho, kT, kE⟩ := h
    refine ⟨_, (pss_one (ps_ret (pe_callTy (T := "tuple") call_tuple_of (by rfl) T.b_tuple (by decide +kernel) (pa_cons (pe_lcX (own := [("value", 2)]) (fun σ => air_of (takes_of rfl rfl rfl rfl) rfl rfl) rfl sccheck_units.nd (pi_seq (pv 1)) (blkOk_by (own := [("value", 2)]) (N := Ncheck_units) (sc := defScope scheck_units) (by decide +kernel)) (fun _ _ _ _ _ => (pg_name (i := 2) sccheck_units.nd rfl (by first | exact Or.inl rfl | exact Or.inr rfl))) (fun _ _ _ _ _ => pts_nil) (fun _ _ _ _ _ _ _ air => (pe_callS Gcheck_number (hr.mono (by decide)) (by rfl) mcheck_number kcheck_number bcheck_number (fun σ => (air σ).pass) (pa_cons (pv 0) (pa_cons (pv 2) (pa_cons pe_int (pa_cons (pe_glob (v := .int 8) rfl c_MOST_UNITS ⟨_, rfl⟩) pa_nil))))))) pa_nil)))), ?_⟩
    refine ⟨_, rfl, a, xs, rfl, ?_⟩
    rcases hs with hs | hs
    · refine .inl ⟨hs, fun D hD => ?_⟩
      refine lc_it walk_list (fun i H1 => H1 D = some (.lst (xs.take i)) ∧ Same H H1 ∧ ∀ y, y ∈ xs.take i → bad8 y = false) ⟨upd_same, Same.new hD, fun y hy => by cases hy⟩ (fun i H1 _ q => Same.seq q.2.1 hs) ?_ ?_
      · rintro i x H1o H1 hi ⟨e1, s1, g1⟩ ⟨rfl, hx⟩
        refine ⟨rfl, ?_⟩
        refine ⟨_, rfl, _, rfl, z, x, 0, 8, rfl, hz, ho x (List.mem_of_getElem? hx), fun t => ?_, fun t d H' nd s' hd => ?_⟩
        · refine ⟨_, e1, small1000 (by rw [List.length_take]; omega), by rw [take_snoc hx]; exact upd_same, fun b o e => by rw [upd_ne (ne_of_none e hD)]; exact s1 _ _ e, fun y hy => ?_⟩
          rw [take_snoc hx] at hy
          rcases List.mem_append.mp hy with q | q
          · exact g1 y q
          · rw [List.mem_singleton.mp q]
            show (!numB x 0 8) = false
            rw [t]
            rfl
        · exact kE x (find_at hx g1 (by show (!numB x 0 8) = true; rw [t]; rfl)) d H' (s1.free nd) (s1.trans s') hd
      · rintro H1 ⟨e1, s1, g1⟩
        rw [List.take_length] at e1 g1
        refine ⟨D, _, rfl, .inl ⟨SqL.of e1, fun l hl => ?_⟩⟩
        exact kT (find_none g1) l _ (s1.free hl) upd_same (s1.trans (Same.new hl))
    · refine .inr ⟨hs, fun D hD => ?_⟩
      refine lc_it walk_tup (fun i H1 => H1 D = some (.lst (xs.take i)) ∧ Same H H1 ∧ ∀ y, y ∈ xs.take i → bad8 y = false) ⟨upd_same, Same.new hD, fun y hy => by cases hy⟩ (fun i H1 _ q => Same.seqT q.2.1 hs) ?_ ?_
      · rintro i x H1o H1 hi ⟨e1, s1, g1⟩ ⟨rfl, hx⟩
        refine ⟨rfl, ?_⟩
        refine ⟨_, rfl, _, rfl, z, x, 0, 8, rfl, hz, ho x (List.mem_of_getElem? hx), fun t => ?_, fun t d H' nd s' hd => ?_⟩
        · refine ⟨_, e1, small1000 (by rw [List.length_take]; omega), by rw [take_snoc hx]; exact upd_same, fun b o e => by rw [upd_ne (ne_of_none e hD)]; exact s1 _ _ e, fun y hy => ?_⟩
          rw [take_snoc hx] at hy
          rcases List.mem_append.mp hy with q | q
          · exact g1 y q
          · rw [List.mem_singleton.mp q]
            show (!numB x 0 8) = false
            rw [t]
            rfl
        · exact kE x (find_at hx g1 (by show (!numB x 0 8) = true; rw [t]; rfl)) d H' (s1.free nd) (s1.trans s') hd
      · rintro H1 ⟨e1, s1, g1⟩
        rw [List.take_length] at e1 g1
        refine ⟨D, _, rfl, .inl ⟨SqL.of e1, fun l hl => ?_⟩⟩
        exact kT (find_none g1) l _ (s1.free hl) upd_same (s1.trans (Same.new hl))
end
end Wb

namespace Wb
open PySem PySem.Spec PyProof.Rows L2 Wx NdefX RZ StX PyProof.Rows.FinIter
section
variable {P : Program} {w : World} {K : PySem.W.Frag} {mg : Str → Option Value} {base : Heap}

/-- all but p and dx is kept -/
def Fr2 (p dx : Addr) (H H' : Hp) : Prop := ∀ b o, b ≠ p → b ≠ dx → H b = some o → H' b = some o
theorem Fr2.same {p dx : Addr} {H H' : Hp} {o1 o2 : HO} (np : H p = none) (nd : H dx = none) (fr : Fr2 p dx (upd (upd H dx o1) p o2) H') : Same H H' := fun b o e => by
  have b1 := ne_of_none e np
  have b2 := ne_of_none e nd
  exact fr b o b1 b2 (by rw [upd_ne b1, upd_ne b2]; exact e)
theorem find_ints {ls : List Int} (h : ∀ x, x ∈ ls → 0 ≤ x ∧ x ≤ 8) : (ls.map V.int).find? bad8 = none := find_none fun y hy => by
  obtain ⟨x, hx, rfl⟩ := List.mem_map.mp hy
  show (!decide (0 ≤ x ∧ x ≤ 8)) = false
  rw [decide_eq_true (h x hx)]
  rfl
theorem odd_ints {ls : List Int} : ∀ x, x ∈ ls.map V.int → OddV x := fun x hx => by
  obtain ⟨i, _, rfl⟩ := List.mem_map.mp hx
  exact .int i
def leL : List Int → List Int → Bool
  | [], [] => true
  | a :: l, b :: m => decide (a ≤ b) && leL l m
  | _, _ => false
theorem leL_len : ∀ {l m : List Int}, l.length ≠ m.length → leL l m = false
  | [], [], h => absurd rfl h
  | [], _ :: _, _ => rfl
  | _ :: _, [], _ => rfl
  | a :: l, b :: m, h => by
    show (_ && leL l m) = false
    rw [leL_len (l := l) (m := m) (fun e => h (by simp [e])), Bool.and_false]
/-- the answers of the pairs, in order -/
def leBs : List Int → List Int → List Bool
  | a :: l, b :: m => decide (a ≤ b) :: leBs l m
  | _, _ => []
theorem leBs_all : ∀ {l m : List Int}, l.length = m.length → (leBs l m).all id = leL l m
  | [], [], _ => rfl
  | a :: l, b :: m, h => by
    show (decide (a ≤ b) && (leBs l m).all id) = (decide (a ≤ b) && leL l m)
    rw [leBs_all (l := l) (m := m) (by simpa using h)]
theorem leBs_len : ∀ {l m : List Int}, l.length = m.length → (leBs l m).length = l.length
  | [], [], _ => rfl
  | a :: l, b :: m, h => by
    show (leBs l m).length + 1 = l.length + 1
    rw [leBs_len (l := l) (m := m) (by simpa using h)]
theorem leBs_at : ∀ {l m : List Int} {i : Nat} {a b : Int}, l[i]? = some a → m[i]? = some b → (leBs l m)[i]? = some (decide (a ≤ b))
  | [], _, i, a, b, h, _ => by simp at h
  | _ :: _, [], i, a, b, _, h => by simp at h
  | x :: l, y :: m, 0, a, b, h1, h2 => by
    have e1 : x = a := Option.some.inj h1
    have e2 : y = b := Option.some.inj h2
    subst e1 e2
    rfl
  | x :: l, y :: m, i + 1, a, b, h1, h2 => leBs_at (l := l) (m := m) (i := i) h1 h2
theorem int_at {l : List Int} {i : Nat} {x : V} (h : (l.map V.int)[i]? = some x) : ∃ a, l[i]? = some a ∧ x = .int a := by
  rw [List.getElem?_map] at h
  cases q : l[i]? with
  | none => rw [q] at h; cases h
  | some a =>
    rw [q] at h
    exact ⟨a, rfl, (Option.some.inj h).symm⟩

theorem seqT_ins {K : PySem.W.Frag} {H : Hp} {p C dx a : Addr} {fs : List (Str × V)} {o2 : HO} {xs : List V} (h : H p = some (.ins C dx fs)) (q : SqT K H a xs) : SqT K (upd H p o2) a xs := by
  rcases q with q | q
  · refine .inl (q.imp (fun e => ?_) fun ⟨o, e⟩ => ⟨o, ?_⟩)
    · rw [upd_ne (fun z => by rw [z, h] at e; cases e)]; exact e
    · rw [upd_ne (fun z => by rw [z, h] at e; cases e)]; exact e
  · exact .inr q
theorem seqL_ins {K : PySem.W.Frag} {H : Hp} {p C dx a : Addr} {fs : List (Str × V)} {o2 : HO} {xs : List V} (h : H p = some (.ins C dx fs)) (q : SqL K H a xs) : SqL K (upd H p o2) a xs := by
  rcases q with q | q
  · refine .inl (q.imp (fun e => ?_) fun ⟨o, e⟩ => ⟨o, ?_⟩)
    · rw [upd_ne (fun z => by rw [z, h] at e; cases e)]; exact e
    · rw [upd_ne (fun z => by rw [z, h] at e; cases e)]; exact e
  · exact .inr q
/-- a list or a tuple -/
def SqA (K : PySem.W.Frag) (H : Hp) (a : Addr) (xs : List V) : Prop := SqL K H a xs ∨ SqT K H a xs
theorem SqA.same {K : PySem.W.Frag} {H H' : Hp} {a : Addr} {xs : List V} (s : Same H H') (h : SqA K H a xs) : SqA K H' a xs := Or.imp (Same.seq s) (Same.seqT s) h
theorem SqA.ins {K : PySem.W.Frag} {H : Hp} {p C dx a : Addr} {fs : List (Str × V)} {o2 : HO} {xs : List V} (h : H p = some (.ins C dx fs)) (q : SqA K H a xs) : SqA K (upd H p o2) a xs := Or.imp (seqL_ins h) (seqT_ins h) q
/-- the first wrong part of a day -/
def dayRef (xs ys : List V) (f m : V) : Option (Str × V) :=
  if numB (.int xs.length) 1 4 = true then
    match xs.find? bad8 with
    | some x => some ("dry", x)
    | none => if ys.length = xs.length then
        match ys.find? bad8 with
        | some y => some ("rain", y)
        | none => if numB f 0 8 = true then if numB m 0 3 = true then none else some ("mood", m) else some ("fill", f)
      else some ("plots", .int ys.length)
  else some ("plots", .int xs.length)
section
variable {xs ys : List V} {f m x y : V}
theorem dR_p1 (h : numB (.int xs.length) 1 4 = false) : dayRef xs ys f m = some (("plots" : Str), .int xs.length) := by
  unfold dayRef; rw [if_neg (by rw [h]; exact Bool.false_ne_true)]
theorem dR_dry (h : numB (.int xs.length) 1 4 = true) (h1 : xs.find? bad8 = some x) : dayRef xs ys f m = some (("dry" : Str), x) := by
  unfold dayRef; rw [if_pos h, h1]
theorem dR_p2 (h : numB (.int xs.length) 1 4 = true) (h1 : xs.find? bad8 = none) (h2 : ¬ ys.length = xs.length) : dayRef xs ys f m = some (("plots" : Str), .int ys.length) := by
  unfold dayRef; rw [if_pos h, h1]; show (if ys.length = xs.length then _ else _) = _; rw [if_neg h2]
theorem dR_rain (h : numB (.int xs.length) 1 4 = true) (h1 : xs.find? bad8 = none) (h2 : ys.length = xs.length) (h3 : ys.find? bad8 = some y) : dayRef xs ys f m = some (("rain" : Str), y) := by
  unfold dayRef; rw [if_pos h, h1]; show (if ys.length = xs.length then _ else _) = _; rw [if_pos h2, h3]
theorem dR_rest (h : numB (.int xs.length) 1 4 = true) (h1 : xs.find? bad8 = none) (h2 : ys.length = xs.length) (h3 : ys.find? bad8 = none) : dayRef xs ys f m = if numB f 0 8 = true then if numB m 0 3 = true then none else some (("mood" : Str), m) else some (("fill" : Str), f) := by
  unfold dayRef; rw [if_pos h, h1]; show (if ys.length = xs.length then _ else _) = _; rw [if_pos h2, h3]
theorem dR_fill (h : numB (.int xs.length) 1 4 = true) (h1 : xs.find? bad8 = none) (h2 : ys.length = xs.length) (h3 : ys.find? bad8 = none) (h4 : numB f 0 8 = false) : dayRef xs ys f m = some (("fill" : Str), f) := by
  rw [dR_rest h h1 h2 h3, if_neg (by rw [h4]; exact Bool.false_ne_true)]
theorem dR_mood (h : numB (.int xs.length) 1 4 = true) (h1 : xs.find? bad8 = none) (h2 : ys.length = xs.length) (h3 : ys.find? bad8 = none) (h4 : numB f 0 8 = true) (h5 : numB m 0 3 = false) : dayRef xs ys f m = some (("mood" : Str), m) := by
  rw [dR_rest h h1 h2 h3, if_pos h4, if_neg (by rw [h5]; exact Bool.false_ne_true)]
theorem dR_ok (h : numB (.int xs.length) 1 4 = true) (h1 : xs.find? bad8 = none) (h2 : ys.length = xs.length) (h3 : ys.find? bad8 = none) (h4 : numB f 0 8 = true) (h5 : numB m 0 3 = true) : dayRef xs ys f m = none := by
  rw [dR_rest h h1 h2 h3, if_pos h4, if_pos h5]
end
def spDay_init (K : PySem.W.Frag) (C CM : Addr) : Sp := fun vs H Q E => ∃ (p dx a b : Addr) (xs ys : List V) (f m : V), vs = [.ref p, .ref a, .ref b, f, m] ∧ H p = some (.ins C dx []) ∧ SqA K H a xs ∧ SqA K H b ys ∧ xs.length ≤ 1000 ∧ ys.length ≤ 1000 ∧ (∀ x, x ∈ xs → OddV x) ∧ (∀ y, y ∈ ys → OddV y) ∧ OddV f ∧ OddV m ∧
  (dayRef xs ys f m = none → ∀ (q r : Addr) (H' : Hp), Fr2 p dx H H' → H q = none → H r = none → H' q = some (.tup xs) → H' r = some (.tup ys) → H' p = some (.ins C dx [("dry", .ref q), ("rain", .ref r), ("fill", f), ("mood", m)]) → Q .non H') ∧
  (∀ tag v, dayRef xs ys f m = some (tag, v) → ∀ (d : Addr) (H' : Hp), H d = none → Fr2 p dx H H' → H' d = some (.xd [("value", v), ("what", .str tag)]) → E (.ref CM) (some d) H')
/-- a day at p -/
def DayAt (C : Addr) (H : Hp) (p : Addr) (ds rs : List Int) (f m : Int) : Prop := ∃ dx q r, H p = some (.ins C dx [("dry", .ref q), ("rain", .ref r), ("fill", .int f), ("mood", .int m)]) ∧ H q = some (.tup (ds.map V.int)) ∧ H r = some (.tup (rs.map V.int))
theorem DayAt.same {C : Addr} {H H' : Hp} {p : Addr} {ds rs : List Int} {f m : Int} (x : DayAt C H p ds rs f m) (s : Same H H') : DayAt C H' p ds rs f m := by
  obtain ⟨dx, q, r, e1, e2, e3⟩ := x
  exact ⟨dx, q, r, s _ _ e1, s _ _ e2, s _ _ e3⟩
theorem DayAt.frm {C s0 : Addr} {H H' : Hp} {p : Addr} {ds rs : List Int} {f m : Int} (x : DayAt C H p ds rs f m) (ns : ∀ u, H s0 = some u → ∃ xs, u = .lst xs) (fr : Frm [s0] H H') : DayAt C H' p ds rs f m := by
  obtain ⟨dx, q, r, e1, e2, e3⟩ := x
  have go : ∀ {b : Addr} {o : HO}, H b = some o → (∀ xs, o ≠ .lst xs) → H' b = some o := fun {b o} e h => fr _ _ (fun y => by
    have y : b = s0 := by simpa using y
    rw [y] at e
    obtain ⟨xs, z⟩ := ns _ e
    exact h xs z) e
  exact ⟨dx, q, r, go e1 (fun xs => by intro z; cases z), go e2 (fun xs => by intro z; cases z), go e3 (fun xs => by intro z; cases z)⟩
/-- the numbers of a day are in their bounds -/
def VDay (ds rs : List Int) (f m : Int) : Prop := 1 ≤ ds.length ∧ ds.length ≤ 4 ∧ rs.length = ds.length ∧ (∀ x, x ∈ ds → 0 ≤ x ∧ x ≤ 8) ∧ (∀ x, x ∈ rs → 0 ≤ x ∧ x ≤ 8) ∧ 0 ≤ f ∧ f ≤ 8 ∧ 0 ≤ m ∧ m ≤ 3
theorem VDay.n14 {ds rs : List Int} {f m : Int} (h : VDay ds rs f m) : numB (.int (ds.map V.int).length) 1 4 = true := by
  show decide _ = true
  rw [List.length_map]
  have := h.1
  have := h.2.1
  exact decide_eq_true (by omega)
theorem VDay.ref {ds rs : List Int} {f m : Int} (h : VDay ds rs f m) : dayRef (ds.map V.int) (rs.map V.int) (.int f) (.int m) = none := by
  have h0 := h.n14
  obtain ⟨h1, h2, h3, h4, h5, h6, h7, h8, h9⟩ := h
  exact dR_ok h0 (find_ints h4) (by rw [List.length_map, List.length_map]; exact h3) (find_ints h5) (decide_eq_true ⟨h6, h7⟩) (decide_eq_true ⟨h8, h9⟩)
theorem day_make {K : PySem.W.Frag} {C CM : Addr} {H : Hp} {ds rs : List Int} {f m : Int} {a b : Addr} {R : Hp → Prop} {E : XK} (hv : VDay ds rs f m) (ha : SqA K H a (ds.map V.int)) (hb : SqA K H b (rs.map V.int))
    {x dx : Addr} (nx : H x = none) (nd : H dx = none) (k : ∀ H', Same H H' → DayAt C H' x ds rs f m → R H') : spDay_init K C CM [.ref x, .ref a, .ref b, .int f, .int m] (upd (upd H dx (.own x)) x (.ins C dx [])) (fun v H2 => v = .non ∧ R H2) E := by
  have sm : Same H (upd (upd H dx (.own x)) x (.ins C dx [])) := fun b o e => by rw [upd_ne (ne_of_none e nx), upd_ne (ne_of_none e nd)]; exact e
  refine ⟨x, dx, a, b, _, _, _, _, rfl, upd_same, ha.same sm, hb.same sm, by rw [List.length_map]; have := hv.2.1; omega, by rw [List.length_map]; have := hv.2.1; have := hv.2.2.1; omega, odd_ints, odd_ints, .int _, .int _, fun _ q r H' fr nq nr eq er ep => ⟨rfl, k H' (fr.same nx nd) ⟨dx, q, r, ep, eq, er⟩⟩, fun tag v e => ?_⟩
  rw [hv.ref] at e
  cases e
def eqDy (d1 r1 : List Int) (f1 m1 : Int) (d2 r2 : List Int) (f2 m2 : Int) : Bool := decide (d1 = d2 ∧ r1 = r2 ∧ f1 = f2 ∧ m1 = m2)
theorem eqDy_self (d r : List Int) (f m : Int) : eqDy d r f m d r f m = true := decide_eq_true ⟨rfl, rfl, rfl, rfl⟩
def spDay_eq (C : Addr) : Sp := fun vs H Q _ => ∃ (p q : Addr) (d1 r1 d2 r2 : List Int) (f1 m1 f2 m2 : Int), vs = [.ref p, .ref q] ∧ DayAt C H p d1 r1 f1 m1 ∧ DayAt C H q d2 r2 f2 m2 ∧ Q (.bl (eqDy d1 r1 f1 m1 d2 r2 f2 m2)) H
/-- the first day is at least as harsh -/
def leDy (d1 r1 : List Int) (f1 m1 : Int) (d2 r2 : List Int) (f2 m2 : Int) : Bool := decide (d1.length = d2.length) && (decide (m1 = m2) && (decide (f1 ≤ f2) && (leL d2 d1 && leL r1 r2)))
def spDay_le (C : Addr) : Sp := fun vs H Q _ => ∃ (p q : Addr) (d1 r1 d2 r2 : List Int) (f1 m1 f2 m2 : Int), vs = [.ref p, .ref q] ∧ DayAt C H p d1 r1 f1 m1 ∧ DayAt C H q d2 r2 f2 m2 ∧ VDay d1 r1 f1 m1 ∧ VDay d2 r2 f2 m2 ∧ ∀ H', Same H H' → Q (.bl (leDy d1 r1 f1 m1 d2 r2 f2 m2)) H'
def moreR (u : Int) (rs : List Int) : List Int := rs.map fun r => if r + u < 8 then r + u else 8
theorem moreR_vday {ds rs : List Int} {f m u : Int} (h : VDay ds rs f m) (hu : 0 ≤ u) : VDay ds (moreR u rs) f m := by
  obtain ⟨h1, h2, h3, h4, h5, h6⟩ := h
  refine ⟨h1, h2, by unfold moreR; rw [List.length_map]; exact h3, h4, fun x hx => ?_, h6⟩
  obtain ⟨r, hr, rfl⟩ := List.mem_map.mp hx
  have := h5 r hr
  show 0 ≤ (if r + u < 8 then r + u else 8) ∧ (if r + u < 8 then r + u else 8) ≤ 8
  split <;> omega
def spDay_add (C CM : Addr) : Sp := fun vs H Q E => ∃ (p : Addr) (ds rs : List Int) (f m u : Int), vs = [.ref p, .int u] ∧ DayAt C H p ds rs f m ∧ VDay ds rs f m ∧
  (0 ≤ u → u ≤ 8 → ∀ (x : Addr) (H' : Hp), Same H H' → DayAt C H' x ds (moreR u rs) f m → Q (.ref x) H') ∧
  (¬ (0 ≤ u ∧ u ≤ 8) → ∀ (d : Addr) (H' : Hp), H d = none → Same H H' → H' d = some (.xd [("value", .int u), ("what", .str "units")]) → E (.ref CM) (some d) H')
def splesser : Sp := fun vs H Q _ => ∃ (i j : Int), vs = [.int i, .int j] ∧ Q (.int (if i < j then i else j)) H

theorem okDay___init__ {f : Addr} {fd : FuncData} (F : Fun K "__init__" "Day.__init__" sDay___init__ f fd) (T : Txt K mg) {C_BadNumber C_Day fi fe : Addr} (D_Day : DatC K mg "Day" C_Day fi fe ["dry", "rain", "fill", "mood"]) (C_xcheck_number : ∃ (g : Addr) (gd : FuncData), FnOk P w K mg base (L2.CX P w) 4 g gd Pcheck_number (spcheck_number C_BadNumber) ∧ mg "check_number" = some (.ref g) ∧ PySem.W.keepIn K (.ref g) = true ∧ Binds K gd Pcheck_number []) (C_xcheck_units : ∃ (g : Addr) (gd : FuncData), FnOk P w K mg base (L2.CX P w) 5 g gd Pcheck_units (spcheck_units K C_BadNumber) ∧ mg "check_units" = some (.ref g) ∧ PySem.W.keepIn K (.ref g) = true ∧ Binds K gd Pcheck_units []) : FnOk P w K mg base (L2.CX P w) 6 f fd PDay___init__ (spDay_init K C_Day C_BadNumber) := by
  obtain ⟨_, c_MOST_MOODS⟩ := T.c_MOST_MOODS
  obtain ⟨_, c_MOST_PLOTS⟩ := T.c_MOST_PLOTS
  obtain ⟨_, c_MOST_UNITS⟩ := T.c_MOST_UNITS
  obtain ⟨gcheck_number, gdcheck_number, Gcheck_number, mcheck_number, kcheck_number, bcheck_number⟩ := C_xcheck_number
  obtain ⟨gcheck_units, gdcheck_units, Gcheck_units, mcheck_units, kcheck_units, bcheck_units⟩ := C_xcheck_units
  refine F.okX scDay___init__ (fun vs H Q E h => ?_) (fun cdv A outer s H vs Q E hr h => ?_)
  · obtain ⟨p, dx, a, b, xs, ys, f, m, rfl, hp, ha, hb, hlx, hly, hox, hoy, hf, hm, kOk, kE⟩ := h
    rfl
  · obtain ⟨p, dx, a, b, xs, ys, f, m, rfl, hp, ha, hb, hlx, hly, hox, hoy, hf, hm, kOk, kE⟩ := h
    refine ⟨_, (pss_cons (ps_set (i := 5) scDay___init__.nd rfl (by first | exact Or.inl rfl | exact Or.inr rfl) (pe_callS Gcheck_number (hr.mono (by decide)) (by rfl) mcheck_number kcheck_number bcheck_number (fun σ => passAt (takes_of rfl rfl rfl rfl) σ) (pa_cons pe_str (pa_cons (pe_callB call_len_seq (by rfl) T.b_len PySem.boot_len (pa_cons (pv 1) pa_nil)) (pa_cons pe_int (pa_cons (pe_glob (v := .int 4) rfl c_MOST_PLOTS ⟨_, rfl⟩) pa_nil))))))
  (pss_cons (ps_fld (pv 0) (pe_callS Gcheck_units (hr.mono (by decide)) (by rfl) mcheck_units kcheck_units bcheck_units (fun σ => passAt (takes_of rfl rfl rfl rfl) σ) (pa_cons pe_str (pa_cons (pv 1) pa_nil))) rfl)
  (pss_cons (ps_expr (pe_callS Gcheck_number (hr.mono (by decide)) (by rfl) mcheck_number kcheck_number bcheck_number (fun σ => passAt (takes_of rfl rfl rfl rfl) σ) (pa_cons pe_str (pa_cons (pe_callB call_len_seq (by rfl) T.b_len PySem.boot_len (pa_cons (pv 2) pa_nil)) (pa_cons (pv 5) (pa_cons (pv 5) pa_nil))))))
  (pss_cons (ps_fld (pv 0) (pe_callS Gcheck_units (hr.mono (by decide)) (by rfl) mcheck_units kcheck_units bcheck_units (fun σ => passAt (takes_of rfl rfl rfl rfl) σ) (pa_cons pe_str (pa_cons (pv 2) pa_nil))) rfl)
  (pss_cons (ps_fld (pv 0) (pe_callS Gcheck_number (hr.mono (by decide)) (by rfl) mcheck_number kcheck_number bcheck_number (fun σ => passAt (takes_of rfl rfl rfl rfl) σ) (pa_cons pe_str (pa_cons (pv 3) (pa_cons pe_int (pa_cons (pe_glob (v := .int 8) rfl c_MOST_UNITS ⟨_, rfl⟩) pa_nil))))) rfl)
  (pss_one (ps_fld (pv 0) (pe_callS Gcheck_number (hr.mono (by decide)) (by rfl) mcheck_number kcheck_number bcheck_number (fun σ => passAt (takes_of rfl rfl rfl rfl) σ) (pa_cons pe_str (pa_cons (pv 4) (pa_cons pe_int (pa_cons (pe_op op_sub (pe_glob (v := .int 4) rfl c_MOST_MOODS ⟨_, rfl⟩) pe_int) pa_nil))))) rfl))))))), ?_⟩
    have frs : ∀ {H1 : Hp}, Same H H1 → Fr2 p dx H H1 := fun s1 b o _ _ e => s1 b o e
    refine ⟨_, rfl, a, _, rfl, ha, "plots", .int xs.length, 1, 4, rfl, (by decide +kernel), .int _, fun t0 => ?_, fun t0 d H1 nd s1 hd => ?_⟩
    case refine_2 =>
      exact kE "plots" _ (dR_p1 t0) d H1 nd (frs s1) hd
    refine ⟨_, rfl, "dry", a, xs, rfl, (by decide +kernel), ha, hlx, hox, fun t1 q H1 nq eq s1 => ?_, fun x t1 d H1 nd s1 hd => ?_⟩
    case refine_2 =>
      exact kE "dry" x (dR_dry t0 t1) d H1 nd (frs s1) hd
    have p1 := s1 _ _ hp
    have npq : q ≠ p := fun y => by rw [y, hp] at nq; cases nq
    refine ⟨_, rfl, p, C_Day, dx, [], rfl, p1, D_Day.cls, D_Day.no "dry" (by decide), (by decide), ?_⟩
    have free : ∀ {o : HO} {d : Addr}, upd H1 p o d = none → H d = none := fun {o d} e => by
      have ne : d ≠ p := fun q => by rw [q, upd_same] at e; cases e
      rw [upd_ne ne] at e
      exact s1.free e
    have fr1 : ∀ {o : HO} {H2 : Hp}, Same (upd H1 p o) H2 → Fr2 p dx H H2 := fun s2 b o nb _ e => s2 b o (by rw [upd_ne nb]; exact s1 b o e)
    have hb1 : ∀ {o : HO}, SqA K (upd H1 p o) b ys := fun {o} => (hb.same s1).ins p1
    refine ⟨_, rfl, b, _, rfl, hb1, _, rfl, _, rfl, "plots", .int ys.length, _, _, rfl, (by decide +kernel), .int _, fun t2 => ?_, fun t2 d H2 nd s2 hd => ?_⟩
    case refine_2 =>
      have t2 : ¬ ys.length = xs.length := fun z => by
        rw [z] at t2
        have : decide ((xs.length : Int) ≤ xs.length ∧ (xs.length : Int) ≤ xs.length) = false := t2
        simp at this
      exact kE "plots" _ (dR_p2 t0 t1 t2) d H2 (free nd) (fr1 s2) hd
    have t2 : ys.length = xs.length := by
      have : decide ((xs.length : Int) ≤ ys.length ∧ (ys.length : Int) ≤ xs.length) = true := t2
      have := of_decide_eq_true this
      omega
    refine ⟨_, rfl, "rain", b, ys, rfl, (by decide +kernel), hb1, hly, hoy, fun t3 r H2 nr er s2 => ?_, fun x t3 d H2 nd s2 hd => ?_⟩
    case refine_2 =>
      exact kE "rain" x (dR_rain t0 t1 t2 t3) d H2 (free nd) (fr1 s2) hd
    have p2 := s2 _ _ upd_same
    refine ⟨_, rfl, p, C_Day, dx, _, rfl, p2, D_Day.cls, D_Day.no "rain" (by decide), (by show 1 < 1000; decide), ?_⟩
    have free2 : ∀ {o : HO} {d : Addr}, upd H2 p o d = none → H d = none := fun {o d} e => by
      have ne : d ≠ p := fun q => by rw [q, upd_same] at e; cases e
      rw [upd_ne ne] at e
      exact free (s2.free e)
    have fr2 : ∀ {o : HO} {H3 : Hp}, Same (upd H2 p o) H3 → Fr2 p dx H H3 := fun s3 b o nb _ e => s3 b o (by rw [upd_ne nb]; exact s2 _ _ (by rw [upd_ne nb]; exact s1 b o e))
    refine ⟨_, rfl, "fill", f, 0, 8, rfl, (by decide +kernel), hf, fun t4 => ?_, fun t4 d H3 nd s3 hd => ?_⟩
    case refine_2 =>
      exact kE "fill" f (dR_fill t0 t1 t2 t3 t4) d H3 (free2 nd) (fr2 s3) hd
    refine ⟨_, rfl, p, C_Day, dx, _, rfl, upd_same, D_Day.cls, D_Day.no "fill" (by decide), (by show 2 < 1000; decide), ?_⟩
    rw [upd_upd]
    refine ⟨_, rfl, _, _, rfl, rfl, "mood", m, 0, 3, rfl, (by decide +kernel), hm, fun t5 => ?_, fun t5 d H3 nd s3 hd => ?_⟩
    case refine_2 =>
      exact kE "mood" m (dR_mood t0 t1 t2 t3 t4 t5) d H3 (free2 nd) (fr2 s3) hd
    refine ⟨_, rfl, p, C_Day, dx, _, rfl, upd_same, D_Day.cls, D_Day.no "mood" (by decide), (by show 3 < 1000; decide), ?_⟩
    rw [upd_upd]
    have nr0 := free nr
    have nrp : r ≠ p := fun y => by rw [y, hp] at nr0; cases nr0
    refine kOk (dR_ok t0 t1 t2 t3 t4 t5) q r _ (fun b o nb _ e => by rw [upd_ne nb]; exact s2 _ _ (by rw [upd_ne nb]; exact s1 b o e)) nq nr0 (by rw [upd_ne npq]; exact s2 _ _ (by rw [upd_ne npq]; exact eq)) (by rw [upd_ne nrp]; exact er) upd_same

theorem okDay___eq__ {f : Addr} {fd : FuncData} (F : Fun K "__eq__" "Day.__eq__" sDay___eq__ f fd) (T : Txt K mg) {C_BadNumber C_Day fi fe : Addr} (D_Day : DatC K mg "Day" C_Day fi fe ["dry", "rain", "fill", "mood"]) : FnOk P w K mg base CX0 1 f fd PDay___eq__ (spDay_eq C_Day) := by
  refine F.ok scDay___eq__ (fun vs H Q E h => ?_) (fun cdv A outer s H vs Q E hr h => ?_)
  · obtain ⟨p, q, d1, r1, d2, r2, f1, m1, f2, m2, rfl, hp, hq, k⟩ := h
    rfl
  · obtain ⟨p, q, d1, r1, d2, r2, f1, m1, f2, m2, rfl, hp, hq, k⟩ := h
    refine ⟨_, (pss_one (ps_ret (pe_and (pe_callB (id := "isinstance") call_isi (by rfl) T.b_isinstance (by decide +kernel) (pa_cons (pv 1) (pa_cons (pe_glob (v := .ref C_Day) rfl D_Day.g rfl) pa_nil))) (pe_and (pe_cmpR (op_eqD hr.units) (pe_fld (pv 0) rfl) (pe_fld (pv 1) rfl) (nomark _)) (pe_and (pe_cmpR (op_eqD hr.units) (pe_fld (pv 0) rfl) (pe_fld (pv 1) rfl) (nomark _)) (pe_and (pe_cmpR op_eq (pe_fld (pv 0) rfl) (pe_fld (pv 1) rfl) (nomark _)) (pe_one (pe_cmpR op_eq (pe_fld (pv 0) rfl) (pe_fld (pv 1) rfl) (nomark _))))))))), ?_⟩
    obtain ⟨dx, qx, rx, e1, x1, y1⟩ := hp
    obtain ⟨dy, qy, ry, e2, x2, y2⟩ := hq
    refine ⟨_, rfl, _, _, _, _, true, rfl, .own _, .base (.ins e2 D_Day.cls D_Day.ha D_Day.hn D_Day.htk D_Day.hm), D_Day.kit, true, rfl, iteT ?_⟩
    have no := fun f (h : f ∈ (["dry", "rain", "fill", "mood"] : List Str)) => D_Day.no f h
    have fin : ∀ b : Bool, b = eqDy d1 r1 f1 m1 d2 r2 f2 m2 → Q (.bl b) H := fun b e => by rw [e]; exact k
    refine ⟨_, rfl, p, C_Day, dx, _, _, rfl, e1, D_Day.cls, no _ (by decide), rfl, _, rfl, q, C_Day, dy, _, _, rfl, e2, D_Day.cls, no _ (by decide), rfl, _, _, dp_intsT (SqT.of x1), dp_intsT (SqT.of x2), shaped_intsT _, shaped_intsT _, _, rfl, ?_⟩
    rw [eqv_intsT]
    refine ite2 (fun c1 => ?_) (fun c1 => fin _ (by unfold eqDy; rw [decide_eq_false (p := d1 = d2 ∧ _) (fun q => c1 (decide_eq_true q.1))]))
    have c1 : d1 = d2 := of_decide_eq_true c1
    refine ⟨_, rfl, p, C_Day, dx, _, _, rfl, e1, D_Day.cls, no _ (by decide), rfl, _, rfl, q, C_Day, dy, _, _, rfl, e2, D_Day.cls, no _ (by decide), rfl, _, _, dp_intsT (SqT.of y1), dp_intsT (SqT.of y2), shaped_intsT _, shaped_intsT _, _, rfl, ?_⟩
    rw [eqv_intsT]
    refine ite2 (fun c2 => ?_) (fun c2 => fin _ (by unfold eqDy; rw [decide_eq_false (p := d1 = d2 ∧ _) (fun q => c2 (decide_eq_true q.2.1))]))
    have c2 : r1 = r2 := of_decide_eq_true c2
    refine ⟨_, rfl, p, C_Day, dx, _, _, rfl, e1, D_Day.cls, no _ (by decide), rfl, _, rfl, q, C_Day, dy, _, _, rfl, e2, D_Day.cls, no _ (by decide), rfl, rfl, _, rfl, ?_⟩
    refine ite2 (fun c3 => ?_) (fun c3 => fin _ (by unfold eqDy; rw [decide_eq_false (p := d1 = d2 ∧ _) (fun q => c3 (decide_eq_true (by rw [q.2.2.1])))]))
    have c3 : f1 = f2 := by injection of_decide_eq_true c3
    refine ⟨_, rfl, p, C_Day, dx, _, _, rfl, e1, D_Day.cls, no _ (by decide), rfl, _, rfl, q, C_Day, dy, _, _, rfl, e2, D_Day.cls, no _ (by decide), rfl, rfl, fin _ ?_⟩
    unfold eqDy
    simp [c1, c2, c3]
end
end Wb

namespace Wb
open PySem PySem.Spec PyProof.Rows L2 Wx StX NdefX RZ StX PyProof.Rows.FinIter
section
variable {P : Program} {w : World} {K : PySem.W.Frag} {mg : Str → Option Value} {base : Heap}
theorem at0 {xs : List V} {v : V} (h : xs[0]? = some v) : atI xs 0 = some v := atI_nat (j := 0) h

abbrev DayD := List Int × List Int × Int × Int
/-- a day that stands for its four parts -/
def repDay (C : Addr) : Rep DayD := fun x H d => ∃ p, x = .ref p ∧ DayAt C H p d.1 d.2.1 d.2.2.1 d.2.2.2
theorem repDay_mono {C : Addr} : RMon (repDay C) := fun x H H' a e h => by
  obtain ⟨p, rfl, h⟩ := h
  exact ⟨p, rfl, h.same e⟩
theorem ints_inj {xs ys : List Int} (h : xs.map V.int = ys.map V.int) : xs = ys := by
  induction xs generalizing ys with
  | nil => cases ys with
    | nil => rfl
    | cons y ys => cases h
  | cons x xs ih => cases ys with
    | nil => cases h
    | cons y ys =>
      simp only [List.map_cons, List.cons.injEq] at h
      obtain ⟨h1, h2⟩ := h
      injection h1 with h1
      rw [h1, ih h2]
theorem DayAt.fn {C : Addr} {H : Hp} {p : Addr} {d1 r1 d2 r2 : List Int} {f1 m1 f2 m2 : Int} (h : DayAt C H p d1 r1 f1 m1) (h' : DayAt C H p d2 r2 f2 m2) : d1 = d2 ∧ r1 = r2 ∧ f1 = f2 ∧ m1 = m2 := by
  obtain ⟨dx, q, r, e1, e2, e3⟩ := h
  obtain ⟨dx', q', r', e1', e2', e3'⟩ := h'
  rw [e1] at e1'
  cases e1'
  rw [e2] at e2'
  rw [e3] at e3'
  injection e2' with e2'
  injection e3' with e3'
  injection e2' with e2'
  injection e3' with e3'
  exact ⟨ints_inj e2', ints_inj e3', rfl, rfl⟩
theorem repDay_fn {C : Addr} : RFun (repDay C) := fun x H a b h h' => by
  obtain ⟨p, rfl, h⟩ := h
  obtain ⟨q, e, h'⟩ := h'
  cases e
  obtain ⟨a1, a2, a3, a4⟩ := a
  obtain ⟨b1, b2, b3, b4⟩ := b
  obtain ⟨e1, e2, e3, e4⟩ := h.fn h'
  simp only at e1 e2 e3 e4
  rw [e1, e2, e3, e4]
theorem eqR_Day {X : Cx} {C f : Addr} {fd : FuncData} {ps : List Str} (F : FnOk X.prog X.w X.K X.mg X.base CX0 1 f fd ps (spDay_eq C))
    (hs : PySem.W.findIn X.K (.ref C) "__eq__" = some (some (.ref f))) (hf : PySem.W.isFn X.K (.ref f) = true) (hb : Binds X.K fd ps []) : EqR X 1 (repDay C) :=
  eqR_ins F hs hf hb pass0 (fun x H a h => by
    obtain ⟨p, rfl, dx, q, r, e, _⟩ := h
    exact ⟨p, dx, _, rfl, e⟩) (fun p q H a b Q h1 h2 k => by
    obtain ⟨p', e1, h1⟩ := h1
    obtain ⟨q', e2, h2⟩ := h2
    cases e1
    cases e2
    refine ⟨p, q, _, _, _, _, _, _, _, _, rfl, h1, h2, ?_⟩
    have e : decide (a = b) = eqDy a.1 a.2.1 a.2.2.1 a.2.2.2 b.1 b.2.1 b.2.2.1 b.2.2.2 := by
      obtain ⟨a1, a2, a3, a4⟩ := a
      obtain ⟨b1, b2, b3, b4⟩ := b
      unfold eqDy
      rw [Bool.eq_iff_iff]
      simp
    rw [← e]
    exact k H Ext.rfl') repDay_fn
/-- a list or a tuple -/
def repQ {α : Type} (R : Rep α) : Rep (List α) := fun x H as => repL R x H as ∨ repT R x H as
theorem repQ_mono {α : Type} {R : Rep α} (hR : RMon R) : RMon (repQ R) := fun x H H' a e h => h.imp (repL_mono hR _ _ _ _ e) (repT_mono hR _ _ _ _ e)
theorem repQ_seq {α : Type} {R : Rep α} {K : PySem.W.Frag} {x : V} {H : Hp} {as : List α} (h : repQ R x H as) : ∃ p xs, x = .ref p ∧ (SqL K H p xs ∨ SqT K H p xs) ∧ Reps R H xs as := by
  rcases h with ⟨p, xs, rfl, e, r⟩ | ⟨p, xs, rfl, e, r⟩
  · exact ⟨p, xs, rfl, .inl (SqL.of e), r⟩
  · exact ⟨p, xs, rfl, .inr (SqT.of e), r⟩
def dayBad (w k : Int) (d : DayD) : Option (Str × Int) := if (d.1.length : Int) = w then if 0 ≤ d.2.2.2 ∧ d.2.2.2 < k then none else some ("mood", d.2.2.2) else some ("plots", d.1.length)
def rowBad (w k : Int) (r : List DayD) : Option (Str × Int) := if 1 ≤ r.length ∧ r.length ≤ 6 then r.findSome? (dayBad w k) else some ("days", r.length)
def wid (M : List (List DayD)) : Int := (((M.headD []).headD ([], [], 0, 0)).1.length : Nat)
def daysBad (M : List (List DayD)) : Option (Str × Int) := M.findSome? (rowBad (wid M) M.length)
/-- the first wrong part of a weather -/
def wRef (M : List (List DayD)) : Option (Str × Int) := if 1 ≤ M.length ∧ M.length ≤ 4 then daysBad M else some ("moods", M.length)
def Small (M : List (List DayD)) : Prop := M.length ≤ 1000 ∧ ∀ r, r ∈ M → r.length ≤ 1000 ∧ ∀ d : DayD, d ∈ r → d.1.length ≤ 1000
theorem findSome_at {α β : Type} {p : α → Option β} : ∀ {xs : List α} {i : Nat} {x : α} {b : β}, xs[i]? = some x → (xs.take i).findSome? p = none → p x = some b → xs.findSome? p = some b
  | [], i, x, b, h, _, _ => by simp at h
  | y :: ys, 0, x, b, h, _, q => by
    have e : y = x := Option.some.inj h
    subst e
    rw [List.findSome?_cons, q]
  | y :: ys, i + 1, x, b, h, k, q => by
    rw [List.take_succ_cons, List.findSome?_cons] at k
    rw [List.findSome?_cons]
    cases e : p y with
    | some z => rw [e] at k; cases k
    | none =>
      rw [e] at k
      exact findSome_at (xs := ys) (i := i) h k q
theorem findSome_snoc {α β : Type} {p : α → Option β} {xs : List α} {i : Nat} {x : α} (h : xs[i]? = some x) (k : (xs.take i).findSome? p = none) (q : p x = none) : (xs.take (i + 1)).findSome? p = none := by
  rw [take_snoc h, List.findSome?_append, k, List.findSome?_cons, q]
  rfl
def sp_check_days (K : PySem.W.Frag) (CD CM : Addr) : Sp := fun vs H Q E => ∃ (t : Addr) (rows : List V) (M : List (List DayD)), vs = [.ref t] ∧ H t = some (.tup rows) ∧ Reps (repQ (repDay CD)) H rows M ∧ Small M ∧
  (daysBad M = none → ∀ H', Same H H' → Q .non H') ∧
  (∀ tag v, daysBad M = some (tag, v) → ∀ (d : Addr) (H' : Hp), H d = none → Same H H' → H' d = some (.xd [("value", .int v), ("what", .str tag)]) → E (.ref CM) (some d) H')
def spWeather_init (K : PySem.W.Frag) (CW CD CM : Addr) : Sp := fun vs H Q E => ∃ (p dx t : Addr) (rows : List V) (M : List (List DayD)), vs = [.ref p, .ref t] ∧ H p = some (.ins CW dx []) ∧ H t = some (.tup rows) ∧ Reps (repQ (repDay CD)) H rows M ∧ Small M ∧
  (wRef M = none → ∀ (q : Addr) (H' : Hp), Fr2 p dx H H' → repT (repT (repDay CD)) (.ref q) H' M → H' p = some (.ins CW dx [("moods", .ref q), ("width", .int (wid M))]) → Q .non H') ∧
  (∀ tag v, wRef M = some (tag, v) → ∀ (d : Addr) (H' : Hp), H d = none → Fr2 p dx H H' → H' d = some (.xd [("value", .int v), ("what", .str tag)]) → E (.ref CM) (some d) H')
/-- a weather at p -/
def WAt (CW CD : Addr) (H : Hp) (p : Addr) (M : List (List DayD)) : Prop := ∃ dx q, H p = some (.ins CW dx [("moods", .ref q), ("width", .int (wid M))]) ∧ repT (repT (repDay CD)) (.ref q) H M
theorem WAt.same {CW CD : Addr} {H H' : Hp} {p : Addr} {M : List (List DayD)} (x : WAt CW CD H p M) (s : Same H H') : WAt CW CD H' p M := by
  obtain ⟨dx, q, e1, e2⟩ := x
  exact ⟨dx, q, s _ _ e1, repT_mono (repT_mono repDay_mono) _ _ _ _ s e2⟩
def spWeather_eq (CW CD : Addr) : Sp := fun vs H Q _ => ∃ (p q : Addr) (M N : List (List DayD)), vs = [.ref p, .ref q] ∧ WAt CW CD H p M ∧ WAt CW CD H q N ∧ ∀ H', Ext H H' → Q (.bl (decide (M = N))) H'
def spWeather_len (CW CD : Addr) : Sp := fun vs H Q _ => ∃ (p : Addr) (M : List (List DayD)), vs = [.ref p] ∧ WAt CW CD H p M ∧ Q (.int (M.length : Nat)) H
def spWeather_get (CW CD CM : Addr) : Sp := fun vs H Q E => ∃ (p : Addr) (M : List (List DayD)) (k : Int), vs = [.ref p, .int k] ∧ WAt CW CD H p M ∧
  (∀ (n : Nat) (r : List DayD), k = n → M[n]? = some r → ∀ x, ∀ H', Same H H' → repT (repDay CD) x H' r → Q x H') ∧
  (¬ (0 ≤ k ∧ k < M.length) → ∀ (d : Addr) (H' : Hp), H d = none → Same H H' → H' d = some (.xd [("value", .int k), ("what", .str "mood")]) → E (.ref CM) (some d) H')
theorem Reps.frl {α : Type} {R : Rep α} {H H' : Hp} (h : ∀ x a, R x H a → R x H' a) {xs : List V} {as : List α} (r : Reps R H xs as) : Reps R H' xs as := r.imp h
/-- a day stays where lists or a new instance change -/
theorem DayAt.keep {C : Addr} {H H' : Hp} {p : Addr} {ds rs : List Int} {f m : Int} (x : DayAt C H p ds rs f m) (k : ∀ b o, H b = some o → (∀ xs, o ≠ .lst xs) → (∀ C dx, o ≠ .ins C dx []) → H' b = some o) : DayAt C H' p ds rs f m := by
  obtain ⟨dx, q, r, e1, e2, e3⟩ := x
  exact ⟨dx, q, r, k _ _ e1 (fun xs z => by cases z) (fun C dx z => by cases z), k _ _ e2 (fun xs z => by cases z) (fun C dx z => by cases z), k _ _ e3 (fun xs z => by cases z) (fun C dx z => by cases z)⟩
theorem repDay_keep {C : Addr} {H H' : Hp} (k : ∀ b o, H b = some o → (∀ xs, o ≠ .lst xs) → (∀ C dx, o ≠ .ins C dx []) → H' b = some o) : ∀ x a, repDay C x H a → repDay C x H' a := fun x a h => by
  obtain ⟨p, rfl, h⟩ := h
  exact ⟨p, rfl, h.keep k⟩
theorem repT_keep {C : Addr} {H H' : Hp} (k : ∀ b o, H b = some o → (∀ xs, o ≠ .lst xs) → (∀ C dx, o ≠ .ins C dx []) → H' b = some o) : ∀ x a, repT (repDay C) x H a → repT (repDay C) x H' a := fun x a h => by
  obtain ⟨p, xs, rfl, h, r⟩ := h
  exact ⟨p, xs, rfl, k _ _ h (fun xs z => by cases z) (fun C dx z => by cases z), r.imp (repDay_keep k)⟩
theorem repTT_keep {C : Addr} {H H' : Hp} (k : ∀ b o, H b = some o → (∀ xs, o ≠ .lst xs) → (∀ C dx, o ≠ .ins C dx []) → H' b = some o) : ∀ x a, repT (repT (repDay C)) x H a → repT (repT (repDay C)) x H' a := fun x a h => by
  obtain ⟨p, xs, rfl, h, r⟩ := h
  exact ⟨p, xs, rfl, k _ _ h (fun xs z => by cases z) (fun C dx z => by cases z), r.imp (repT_keep k)⟩
/-- one instance that has no fields yet gets fields -/
theorem keep_ins {H : Hp} {p C dx : Addr} {o2 : HO} (h : H p = some (.ins C dx [])) : ∀ b o, H b = some o → (∀ xs, o ≠ .lst xs) → (∀ C dx, o ≠ .ins C dx []) → (upd H p o2) b = some o := fun b o e _ n => by
  rw [upd_ne (fun z => by rw [z, h] at e; cases e; exact n _ _ rfl)]
  exact e
theorem keep_lst {H : Hp} {p : Addr} {xs : List V} {o2 : HO} (h : H p = some (.lst xs)) : ∀ b o, H b = some o → (∀ xs, o ≠ .lst xs) → (∀ C dx, o ≠ .ins C dx []) → (upd H p o2) b = some o := fun b o e n _ => by
  rw [upd_ne (fun z => by rw [z, h] at e; cases e; exact n _ rfl)]
  exact e
theorem wid_pos {M : List (List DayD)} {r : List DayD} {d : DayD} (h : M[0]? = some r) (h' : r[0]? = some d) : wid M = (d.1.length : Nat) := by
  cases M with
  | nil => simp at h
  | cons a M =>
    have e : a = r := Option.some.inj h
    subst e
    cases a with
    | nil => simp at h'
    | cons b a =>
      have e : b = d := Option.some.inj h'
      subst e
      rfl

theorem ok_check_days {f : Addr} {fd : FuncData} (F : Fun K "_check_days" "_check_days" s_check_days f fd) (T : Txt K mg) {C_BadNumber C_Day C_Weather fi fe fwi fwe : Addr} (D_Day : DatC K mg "Day" C_Day fi fe ["dry", "rain", "fill", "mood"]) (D_Weather : DatC K mg "Weather" C_Weather fwi fwe ["moods", "width"]) (C_xcheck_number : ∃ (g : Addr) (gd : FuncData), FnOk P w K mg base (L2.CX P w) 4 g gd Pcheck_number (spcheck_number C_BadNumber) ∧ mg "check_number" = some (.ref g) ∧ PySem.W.keepIn K (.ref g) = true ∧ Binds K gd Pcheck_number []) : FnOk P w K mg base (L2.CX P w) 5 f fd P_check_days (sp_check_days K C_Day C_BadNumber) := by
  obtain ⟨_, c__MOST_DAYS⟩ := T.c__MOST_DAYS
  obtain ⟨gcheck_number, gdcheck_number, Gcheck_number, mcheck_number, kcheck_number, bcheck_number⟩ := C_xcheck_number
  refine F.okX sc_check_days (fun vs H Q E h => ?_) (fun cdv A outer s H vs Q E hr h => ?_)
  · obtain ⟨t, rows, M, rfl, ht, hrs, hsm, kOk, kE⟩ := h
    rfl
  · obtain ⟨t, rows, M, rfl, ht, hrs, hsm, kOk, kE⟩ := h
    refine ⟨_, (pss_one (ps_for (passes_of rfl) rfl (pi_tup (pv 0)) (pg_name (i := 1) sc_check_days.nd rfl (by first | exact Or.inl rfl | exact Or.inr rfl))
  (pss_cons (ps_expr (pe_callS Gcheck_number (hr.mono (by decide)) (by rfl) mcheck_number kcheck_number bcheck_number (fun σ => passAt (takes_of rfl rfl rfl rfl) σ) (pa_cons pe_str (pa_cons (pe_callB call_len_seq (by rfl) T.b_len PySem.boot_len (pa_cons (pv 1) pa_nil)) (pa_cons pe_int (pa_cons (pe_glob (v := .int 6) rfl c__MOST_DAYS ⟨_, rfl⟩) pa_nil))))))
  (pss_cons (ps_set (i := 2) sc_check_days.nd rfl (by first | exact Or.inl rfl | exact Or.inr rfl) (pe_callB call_len_seq (by rfl) T.b_len PySem.boot_len (pa_cons (pe_fld (pe_ix ix_lortu (pe_ix ix_tup (pv 0) pe_int (fun _ _ => rfl)) pe_int (fun _ _ => rfl)) rfl) pa_nil)))
  (pss_one (ps_for (passes_of rfl) rfl (pi_seq (pv 1)) (pg_name (i := 3) sc_check_days.nd rfl (by first | exact Or.inl rfl | exact Or.inr rfl))
  (pss_cons (ps_expr (pe_callS Gcheck_number (hr.mono (by decide)) (by rfl) mcheck_number kcheck_number bcheck_number (fun σ => passAt (takes_of rfl rfl rfl rfl) σ) (pa_cons pe_str (pa_cons (pe_callB call_len_seq (by rfl) T.b_len PySem.boot_len (pa_cons (pe_fld (pv 3) rfl) pa_nil)) (pa_cons (pv 2) (pa_cons (pv 2) pa_nil))))))
  (pss_one (ps_expr (pe_callS Gcheck_number (hr.mono (by decide)) (by rfl) mcheck_number kcheck_number bcheck_number (fun σ => passAt (takes_of rfl rfl rfl rfl) σ) (pa_cons pe_str (pa_cons (pe_fld (pv 3) rfl) (pa_cons pe_int (pa_cons (pe_op op_sub (pe_callB call_len_seq (by rfl) T.b_len PySem.boot_len (pa_cons (pv 0) pa_nil)) pe_int) pa_nil)))))))))))))), ?_⟩
    have hlM : rows.length = M.length := hrs.len
    refine ⟨_, rfl, t, rfl, ⟨_, SqT.of ht⟩, ?_⟩
    refine for_it walk_tup (fun i σ H1 => ∃ (w1 w2 w3 : Option V), σ = [some (.ref t), w1, w2, w3] ∧ Same H H1 ∧ (M.take i).findSome? (rowBad (wid M) M.length) = none) ⟨_, _, _, rfl, Same.refl _, rfl⟩ (fun i σ H1 _ ⟨_, _, _, _, s, _⟩ => SqT.of (s _ _ ht)) ?_ ?_
    · rintro i x σ H1o H1 hi ⟨w1, w2, w3, rfl, s1, g1⟩ ⟨rfl, hx⟩
      obtain ⟨r, hM, hq⟩ := hrs.at hx
      obtain ⟨a, xs, rfl, hs, hrd⟩ := repQ_seq (K := K) (repQ_mono repDay_mono _ _ _ _ s1 hq)
      have hxl := hrd.len
      have hrl := (hsm.2 r (List.mem_of_getElem? hM)).1
      refine ⟨_, rfl, a, _, rfl, hs, "days", .int (xs.length : Nat), 1, 6, rfl, (by decide +kernel), .int _, fun t1 => ?_, fun t1 d H2 nd s2 hd => ?_⟩
      case refine_2 =>
        refine kE "days" (r.length : Nat) (findSome_at hM g1 ?_) d H2 (s1.free nd) (s1.trans s2) (by rw [← hxl]; exact hd)
        unfold rowBad
        rw [if_neg]
        intro z
        have : decide ((1 : Int) ≤ (xs.length : Nat) ∧ ((xs.length : Nat) : Int) ≤ 6) = false := t1
        have := of_decide_eq_false this
        omega
      have hr16 : 1 ≤ r.length ∧ r.length ≤ 6 := by
        have : decide ((1 : Int) ≤ (xs.length : Nat) ∧ ((xs.length : Nat) : Int) ≤ 6) = true := t1
        have := of_decide_eq_true this
        omega
      -- width
      have hM0 : M[0]? = some M[0] := List.getElem?_eq_getElem (by have := (List.getElem?_eq_some_iff.mp hM).1; omega)
      generalize hr0 : M[0]'(by have := (List.getElem?_eq_some_iff.mp hM).1; omega) = r0 at hM0
      have hr01 : 1 ≤ r0.length := by
        by_cases h0 : i = 0
        · subst h0
          rw [hM0] at hM
          cases hM
          exact hr16.1
        · have : (M.take i)[0]? = some r0 := by rw [List.getElem?_take_of_lt (by omega)]; exact hM0
          have := List.findSome?_eq_none_iff.mp g1 r0 (List.mem_of_getElem? this)
          unfold rowBad at this
          split at this
          · rename_i z
            exact z.1
          · cases this
      have hd0 : r0[0]? = some r0[0] := List.getElem?_eq_getElem (by omega)
      generalize r0[0]'(by omega) = d0 at hd0
      obtain ⟨x0, hx0, hq0⟩ := hrs.at' hM0
      obtain ⟨a0, xs0, rfl, hs0, hrd0⟩ := repQ_seq (K := K) (repQ_mono repDay_mono _ _ _ _ s1 hq0)
      obtain ⟨y0, hy0, p0, rfl, hp0⟩ := hrd0.at' hd0
      obtain ⟨dz, qz, rz, e0, z0, _⟩ := id hp0
      refine ⟨_, rfl, t, _, _, _, rfl, rfl, SqT.of (s1 _ _ ht), at0 hx0, a0, _, _, _, rfl, rfl, hs0, at0 hy0, p0, C_Day, dz, _, _, rfl, e0, D_Day.cls, D_Day.no _ (by decide), rfl, qz, _, rfl, .inr (SqT.of z0), ?_⟩
      have hw := wid_pos hM0 hd0
      have ew : (((d0.1.map V.int).length : Nat) : Int) = wid M := by rw [List.length_map, hw]
      rw [ew]
      rcases hs with hs | hs
      · refine ⟨_, rfl, a, xs, rfl, .inl ⟨hs, ?_⟩⟩
        refine for_it walk_list (fun j σ H2 => ∃ w3 : Option V, σ = [some (.ref t), some (.ref a), some (.int (wid M)), w3] ∧ Same H1 H2 ∧ (r.take j).findSome? (dayBad (wid M) M.length) = none) ⟨_, rfl, Same.refl _, rfl⟩ (fun j σ H2 _ ⟨_, _, s, _⟩ => Same.seq s hs) ?_ ?_
        · rintro j x σ H2o H2 hj ⟨w3, rfl, s2, g2⟩ ⟨rfl, hx⟩
          obtain ⟨d, hd, p, rfl, hp⟩ := hrd.at hx
          have hp2 := hp.same s2
          obtain ⟨dx, qx, rx, e1, x1, y1⟩ := id hp2
          have hlen := (hsm.2 r (List.mem_of_getElem? hM)).2 d (List.mem_of_getElem? hd)
          refine ⟨_, rfl, p, C_Day, dx, _, _, rfl, e1, D_Day.cls, D_Day.no _ (by decide), rfl, qx, _, rfl, .inr (SqT.of x1), _, rfl, _, rfl, "plots", .int ((d.1.map V.int).length : Nat), wid M, wid M, rfl, (by decide +kernel), .int _, fun t1 => ?_, fun t1 dd H3 nd s3 hd3 => ?_⟩
          case refine_2 =>
            have t2 : ¬ (d.1.length : Int) = wid M := fun z => by
              rw [List.length_map, z] at t1
              have : decide (wid M ≤ wid M ∧ wid M ≤ wid M) = false := t1
              simp at this
            refine kE "plots" (d.1.length : Nat) (findSome_at hM g1 ?_) dd H3 ((s1.trans s2).free nd) ((s1.trans s2).trans s3) (by rw [List.length_map] at hd3; exact hd3)
            unfold rowBad
            rw [if_pos hr16]
            exact findSome_at hd g2 (by unfold dayBad; rw [if_neg t2])
          have t2 : (d.1.length : Int) = wid M := by
            rw [List.length_map] at t1
            have : decide (wid M ≤ (d.1.length : Int) ∧ (d.1.length : Int) ≤ wid M) = true := t1
            have := of_decide_eq_true this
            omega
          refine ⟨_, rfl, p, C_Day, dx, _, _, rfl, e1, D_Day.cls, D_Day.no _ (by decide), rfl, _, rfl, t, _, rfl, .inr (SqT.of ((s1.trans s2) _ _ ht)), _, _, rfl, rfl, "mood", .int d.2.2.2, 0, _, rfl, (by decide +kernel), .int _, fun t3 => ?_, fun t3 dd H3 nd s3 hd3 => ?_⟩
          case refine_2 =>
            refine kE "mood" d.2.2.2 (findSome_at hM g1 ?_) dd H3 ((s1.trans s2).free nd) ((s1.trans s2).trans s3) hd3
            unfold rowBad
            rw [if_pos hr16]
            refine findSome_at hd g2 ?_
            unfold dayBad
            rw [if_pos t2, if_neg]
            intro z
            have : decide (0 ≤ d.2.2.2 ∧ d.2.2.2 ≤ (rows.length : Nat) - 1) = false := t3
            have := of_decide_eq_false this
            omega
          have t4 : 0 ≤ d.2.2.2 ∧ d.2.2.2 < M.length := by
            have : decide (0 ≤ d.2.2.2 ∧ d.2.2.2 ≤ (rows.length : Nat) - 1) = true := t3
            have := of_decide_eq_true this
            omega
          exact ⟨_, rfl, s2, findSome_snoc hd g2 (by unfold dayBad; rw [if_pos t2, if_pos t4])⟩
        rintro σ H2 ⟨w3, rfl, s2, g2⟩
        rw [hrd.len, List.take_length] at g2
        exact ⟨_, _, _, rfl, s1.trans s2, findSome_snoc hM g1 (by unfold rowBad; rw [if_pos hr16]; exact g2)⟩
      · refine ⟨_, rfl, a, xs, rfl, .inr ⟨hs, ?_⟩⟩
        refine for_it walk_tup (fun j σ H2 => ∃ w3 : Option V, σ = [some (.ref t), some (.ref a), some (.int (wid M)), w3] ∧ Same H1 H2 ∧ (r.take j).findSome? (dayBad (wid M) M.length) = none) ⟨_, rfl, Same.refl _, rfl⟩ (fun j σ H2 _ ⟨_, _, s, _⟩ => Same.seqT s hs) ?_ ?_
        · rintro j x σ H2o H2 hj ⟨w3, rfl, s2, g2⟩ ⟨rfl, hx⟩
          obtain ⟨d, hd, p, rfl, hp⟩ := hrd.at hx
          have hp2 := hp.same s2
          obtain ⟨dx, qx, rx, e1, x1, y1⟩ := id hp2
          have hlen := (hsm.2 r (List.mem_of_getElem? hM)).2 d (List.mem_of_getElem? hd)
          refine ⟨_, rfl, p, C_Day, dx, _, _, rfl, e1, D_Day.cls, D_Day.no _ (by decide), rfl, qx, _, rfl, .inr (SqT.of x1), _, rfl, _, rfl, "plots", .int ((d.1.map V.int).length : Nat), wid M, wid M, rfl, (by decide +kernel), .int _, fun t1 => ?_, fun t1 dd H3 nd s3 hd3 => ?_⟩
          case refine_2 =>
            have t2 : ¬ (d.1.length : Int) = wid M := fun z => by
              rw [List.length_map, z] at t1
              have : decide (wid M ≤ wid M ∧ wid M ≤ wid M) = false := t1
              simp at this
            refine kE "plots" (d.1.length : Nat) (findSome_at hM g1 ?_) dd H3 ((s1.trans s2).free nd) ((s1.trans s2).trans s3) (by rw [List.length_map] at hd3; exact hd3)
            unfold rowBad
            rw [if_pos hr16]
            exact findSome_at hd g2 (by unfold dayBad; rw [if_neg t2])
          have t2 : (d.1.length : Int) = wid M := by
            rw [List.length_map] at t1
            have : decide (wid M ≤ (d.1.length : Int) ∧ (d.1.length : Int) ≤ wid M) = true := t1
            have := of_decide_eq_true this
            omega
          refine ⟨_, rfl, p, C_Day, dx, _, _, rfl, e1, D_Day.cls, D_Day.no _ (by decide), rfl, _, rfl, t, _, rfl, .inr (SqT.of ((s1.trans s2) _ _ ht)), _, _, rfl, rfl, "mood", .int d.2.2.2, 0, _, rfl, (by decide +kernel), .int _, fun t3 => ?_, fun t3 dd H3 nd s3 hd3 => ?_⟩
          case refine_2 =>
            refine kE "mood" d.2.2.2 (findSome_at hM g1 ?_) dd H3 ((s1.trans s2).free nd) ((s1.trans s2).trans s3) hd3
            unfold rowBad
            rw [if_pos hr16]
            refine findSome_at hd g2 ?_
            unfold dayBad
            rw [if_pos t2, if_neg]
            intro z
            have : decide (0 ≤ d.2.2.2 ∧ d.2.2.2 ≤ (rows.length : Nat) - 1) = false := t3
            have := of_decide_eq_false this
            omega
          have t4 : 0 ≤ d.2.2.2 ∧ d.2.2.2 < M.length := by
            have : decide (0 ≤ d.2.2.2 ∧ d.2.2.2 ≤ (rows.length : Nat) - 1) = true := t3
            have := of_decide_eq_true this
            omega
          exact ⟨_, rfl, s2, findSome_snoc hd g2 (by unfold dayBad; rw [if_pos t2, if_pos t4])⟩
        rintro σ H2 ⟨w3, rfl, s2, g2⟩
        rw [hrd.len, List.take_length] at g2
        exact ⟨_, _, _, rfl, s1.trans s2, findSome_snoc hM g1 (by unfold rowBad; rw [if_pos hr16]; exact g2)⟩
    rintro σ H1 ⟨w1, w2, w3, rfl, s1, g1⟩
    rw [hlM, List.take_length] at g1
    exact kOk g1 H1 s1

theorem okWeather___init__ {f : Addr} {fd : FuncData} (F : Fun K "__init__" "Weather.__init__" sWeather___init__ f fd) (T : Txt K mg) {C_BadNumber C_Day C_Weather fi fe fwi fwe : Addr} (D_Day : DatC K mg "Day" C_Day fi fe ["dry", "rain", "fill", "mood"]) (D_Weather : DatC K mg "Weather" C_Weather fwi fwe ["moods", "width"]) (C_xcheck_number : ∃ (g : Addr) (gd : FuncData), FnOk P w K mg base (L2.CX P w) 4 g gd Pcheck_number (spcheck_number C_BadNumber) ∧ mg "check_number" = some (.ref g) ∧ PySem.W.keepIn K (.ref g) = true ∧ Binds K gd Pcheck_number []) (C_x_check_days : ∃ (g : Addr) (gd : FuncData), FnOk P w K mg base (L2.CX P w) 5 g gd P_check_days (sp_check_days K C_Day C_BadNumber) ∧ mg "_check_days" = some (.ref g) ∧ PySem.W.keepIn K (.ref g) = true ∧ Binds K gd P_check_days []) : FnR P w K mg base (L2.CX P w) 7 f (spStar 1 (spWeather_init K C_Weather C_Day C_BadNumber)) := by
  obtain ⟨gcheck_number, gdcheck_number, Gcheck_number, mcheck_number, kcheck_number, bcheck_number⟩ := C_xcheck_number
  obtain ⟨g_check_days, gd_check_days, G_check_days, m_check_days, k_check_days, b_check_days⟩ := C_x_check_days
  obtain ⟨_, c_MOST_MOODS⟩ := T.c_MOST_MOODS
  refine okStar (ps := ["self"]) (pv := "moods") F scWeather___init__ (fun kV doc pm an cdv ct us rest hl => match us, rest, hl with | [_], [], _ => rfl | [_], _ :: _, _ => rfl) (fun cdv A outer s H vs Q E hr h => ?_)
  · obtain ⟨p, dx, t, rows, M, rfl, hp, ht, hrs, hsm, kOk, kE⟩ := h
    refine ⟨_, (pss_cons (ps_expr (pe_callS Gcheck_number (hr.mono (by decide)) (by rfl) mcheck_number kcheck_number bcheck_number (fun σ => passAt (takes_of rfl rfl rfl rfl) σ) (pa_cons pe_str (pa_cons (pe_callB call_len_seq (by rfl) T.b_len PySem.boot_len (pa_cons (pv 1) pa_nil)) (pa_cons pe_int (pa_cons (pe_glob (v := .int 4) rfl c_MOST_MOODS ⟨_, rfl⟩) pa_nil))))))
  (pss_cons (ps_expr (pe_callS G_check_days (hr.mono (by decide)) (by rfl) m_check_days k_check_days b_check_days (fun σ => passAt (takes_of rfl rfl rfl rfl) σ) (pa_cons (pv 1) pa_nil)))
  (pss_cons (ps_fld (pv 0) (pe_callTy (T := "tuple") call_tuple_of (by rfl) T.b_tuple (by decide +kernel) (pa_cons (pe_lc (own := [("days", 2)]) rfl scWeather___init__.nd (pi_tup (pv 1)) (blkOk_by (own := [("days", 2)]) (N := NWeather___init__) (sc := defScope sWeather___init__) (by decide +kernel)) (fun _ _ _ _ _ => (pg_name (i := 2) scWeather___init__.nd rfl (by first | exact Or.inl rfl | exact Or.inr rfl))) (fun _ _ _ _ _ => pts_nil) (fun _ _ _ _ _ => (pe_callTy (T := "tuple") (r := rTupOf K) call_tuple_of (by rfl) T.b_tuple (by decide +kernel) (pa_cons (pv 2) pa_nil)))) pa_nil)) rfl)
  (pss_one (ps_fld (pv 0) (pe_callB call_len_seq (by rfl) T.b_len PySem.boot_len (pa_cons (pe_fld (pe_ix ix_tup (pe_ix ix_tup (pe_fld (pv 0) rfl) pe_int (fun _ _ => rfl)) pe_int (fun _ _ => rfl)) rfl) pa_nil)) rfl))))), ?_⟩
    have hlM : rows.length = M.length := hrs.len
    have frs : ∀ {H1 : Hp}, Same H H1 → Fr2 p dx H H1 := fun s1 b o _ _ e => s1 b o e
    refine ⟨_, rfl, t, _, rfl, .inr (SqT.of ht), "moods", .int (rows.length : Nat), 1, 4, rfl, (by decide +kernel), .int _, fun t0 => ?_, fun t0 d H1 nd s1 hd => ?_⟩
    case refine_2 =>
      refine kE "moods" (M.length : Nat) ?_ d H1 nd (frs s1) (by rw [← hlM]; exact hd)
      unfold wRef
      rw [if_neg]
      intro z
      have : decide ((1 : Int) ≤ (rows.length : Nat) ∧ ((rows.length : Nat) : Int) ≤ 4) = false := t0
      have := of_decide_eq_false this
      omega
    have t0 : 1 ≤ M.length ∧ M.length ≤ 4 := by
      have : decide ((1 : Int) ≤ (rows.length : Nat) ∧ ((rows.length : Nat) : Int) ≤ 4) = true := t0
      have := of_decide_eq_true this
      omega
    have eR : wRef M = daysBad M := by unfold wRef; rw [if_pos t0]
    refine ⟨_, rfl, t, rows, M, rfl, ht, hrs, hsm, fun g0 H1 s1 => ?_, fun tag v g0 d H1 nd s1 hd => ?_⟩
    case refine_2 => exact kE tag v (by rw [eR]; exact g0) d H1 nd (frs s1) hd
    refine ⟨_, rfl, t, rfl, ⟨_, SqT.of (s1 _ _ ht)⟩, fun D hD => ?_⟩
    refine lc_it walk_tup (fun i H2 => ∃ qs : List V, H2 D = some (.lst qs) ∧ qs.length = i ∧ Reps (repT (repDay C_Day)) H2 qs (M.take i) ∧ Same H1 H2) ⟨[], upd_same, rfl, trivial, Same.new hD⟩ (fun i H2 _ ⟨_, _, _, _, s⟩ => SqT.of (s _ _ (s1 _ _ ht))) ?_ ?_
    · rintro i x H2o H2 hi ⟨qs, g1, ql, gq, s2⟩ ⟨rfl, hx⟩
      obtain ⟨r, hM, hq⟩ := hrs.at hx
      have hi4 : i < M.length := by rw [← hlM]; exact hi
      refine ⟨rfl, ?_⟩
      have hq2 := repQ_mono repDay_mono _ _ _ _ (s1.trans s2) hq
      have fin : ∀ (y : V) (H3 : Hp), Same H2 H3 → repT (repDay C_Day) y H3 r → ∃ acc, H3 D = some (.lst acc) ∧ acc.length < sizeLine ∧ ∃ qs : List V, (upd H3 D (.lst (acc ++ [y]))) D = some (.lst qs) ∧ qs.length = i + 1 ∧ Reps (repT (repDay C_Day)) (upd H3 D (.lst (acc ++ [y]))) qs (M.take (i + 1)) ∧ Same H1 (upd H3 D (.lst (acc ++ [y]))) := fun y H3 s3 hy => by
        have gD := s3 _ _ g1
        refine ⟨qs, gD, small1000 (by omega), qs ++ [y], upd_same, by rw [List.length_append, ql]; rfl, ?_, fun b o e => by rw [upd_ne (ne_of_none e hD)]; exact s3 _ _ (s2 _ _ e)⟩
        rw [take_snoc hM]
        exact Reps.app ((gq.mono (repT_mono repDay_mono) s3).imp (repT_keep (keep_lst gD))) (Reps.one (repT_keep (keep_lst gD) _ _ hy))
      rcases hq2 with ⟨a, xs, rfl, e, hrd⟩ | ⟨a, xs, rfl, e, hrd⟩
      · refine ⟨_, rfl, a, _, rfl, .inl ⟨SqL.of e, fun z hz => ?_⟩⟩
        exact fin (.ref z) _ (Same.new hz) ⟨z, xs, rfl, upd_same, hrd.mono repDay_mono (Same.new hz)⟩
      · exact ⟨_, rfl, a, _, rfl, .inr ⟨SqT.of e, fin (.ref a) _ (Same.refl _) ⟨a, xs, rfl, e, hrd⟩⟩⟩
    rintro H2 ⟨qs, g1, ql, gq, s2⟩
    rw [hlM, List.take_length] at gq
    refine ⟨D, _, rfl, .inl ⟨SqL.of g1, fun q hq => ?_⟩⟩
    have s3 : Same H (upd H2 q (.tup qs)) := (s1.trans s2).trans (Same.new hq)
    have gq3 : Reps (repT (repDay C_Day)) (upd H2 q (.tup qs)) qs M := gq.mono (repT_mono repDay_mono) (Same.new hq)
    have p3 := s3 _ _ hp
    have npq : q ≠ p := fun y => by rw [y] at hq; have := (s1.trans s2) _ _ hp; rw [hq] at this; cases this
    refine ⟨_, rfl, p, C_Weather, dx, [], rfl, p3, D_Weather.cls, D_Weather.no "moods" (by decide), (by decide), ?_⟩
    have gq4 : Reps (repT (repDay C_Day)) (upd (upd H2 q (.tup qs)) p (.ins C_Weather dx [("moods", .ref q)])) qs M := gq3.imp (repT_keep (keep_ins p3))
    have eq4 : (upd (upd H2 q (.tup qs)) p (.ins C_Weather dx [("moods", .ref q)])) q = some (.tup qs) := by rw [upd_ne npq]; exact upd_same
    have hM0 : M[0]? = some M[0] := List.getElem?_eq_getElem (by omega)
    generalize M[0]'(by omega) = r0 at hM0
    have hr01 : 1 ≤ r0.length := by
      have := List.findSome?_eq_none_iff.mp g0 r0 (List.mem_of_getElem? hM0)
      unfold rowBad at this
      split at this
      · rename_i z
        exact z.1
      · cases this
    have hd0 : r0[0]? = some r0[0] := List.getElem?_eq_getElem (by omega)
    generalize r0[0]'(by omega) = d0 at hd0
    obtain ⟨x0, hx0, a0, xs0, rfl, hs0, hrd0⟩ := gq4.at' hM0
    obtain ⟨y0, hy0, p0, rfl, hp0⟩ := hrd0.at' hd0
    obtain ⟨dz, qz, rz, e0, z0, _⟩ := id hp0
    refine ⟨_, rfl, p, C_Weather, dx, _, _, rfl, upd_same, D_Weather.cls, D_Weather.no _ (by decide), rfl, q, _, _, _, rfl, rfl, SqT.of eq4, at0 hx0, a0, _, _, _, rfl, rfl, SqT.of hs0, at0 hy0, p0, C_Day, dz, _, _, rfl, e0, D_Day.cls, D_Day.no _ (by decide), rfl, qz, _, rfl, .inr (SqT.of z0), ?_⟩
    have ew : (((d0.1.map V.int).length : Nat) : Int) = wid M := by rw [List.length_map, wid_pos hM0 hd0]
    rw [ew]
    refine ⟨_, rfl, p, C_Weather, dx, _, rfl, upd_same, D_Weather.cls, D_Weather.no "width" (by decide), (by show 1 < 1000; decide), ?_⟩
    rw [upd_upd]
    refine kOk (by rw [eR]; exact g0) q _ (fun b o nb _ e => by rw [upd_ne nb]; exact s3 _ _ e) ⟨q, qs, rfl, by rw [upd_ne npq]; exact upd_same, gq3.imp (repT_keep (keep_ins p3))⟩ upd_same

theorem okWeather___eq__ {f : Addr} {fd : FuncData} (F : Fun K "__eq__" "Weather.__eq__" sWeather___eq__ f fd) (T : Txt K mg) {C_BadNumber C_Day C_Weather fi fe fwi fwe : Addr} (D_Day : DatC K mg "Day" C_Day fi fe ["dry", "rain", "fill", "mood"]) (D_Weather : DatC K mg "Weather" C_Weather fwi fwe ["moods", "width"]) {fde : FuncData} (GDay___eq__ : FnOk P w K mg base CX0 1 fe fde PDay___eq__ (spDay_eq C_Day)) (bDay___eq__ : Binds K fde PDay___eq__ []) : FnOk P w K mg base CX0 4 f fd PWeather___eq__ (spWeather_eq C_Weather C_Day) := by
  refine F.ok scWeather___eq__ (fun vs H Q E h => ?_) (fun cdv A outer s H vs Q E hr h => ?_)
  · obtain ⟨p, q, M, N, rfl, hp, hq, k⟩ := h
    rfl
  · obtain ⟨p, q, M, N, rfl, hp, hq, k⟩ := h
    refine ⟨_, (pss_one (ps_ret (pe_and (pe_callB (id := "isinstance") call_isi (by rfl) T.b_isinstance (by decide +kernel) (pa_cons (pv 1) (pa_cons (pe_glob (v := .ref C_Weather) rfl D_Weather.g rfl) pa_nil))) (pe_one (pe_cmpR (op_eqR (rc_T (.inl ⟨rfl, rfl⟩) (repT_mono repDay_mono) (eqR_T repDay_mono repDay_fn (eqR_Day GDay___eq__ D_Day.eq D_Day.fe bDay___eq__))) (hr.mono (by decide))) (pe_fld (pv 0) rfl) (pe_fld (pv 1) rfl) (nomark _)))))), ?_⟩
    obtain ⟨dx, qx, e1, x1⟩ := hp
    obtain ⟨dy, qy, e2, x2⟩ := hq
    refine ⟨_, rfl, _, _, _, _, true, rfl, .own _, .base (.ins e2 D_Weather.cls D_Weather.ha D_Weather.hn D_Weather.htk D_Weather.hm), D_Weather.kit, true, rfl, iteT ?_⟩
    exact ⟨_, rfl, p, C_Weather, dx, _, _, rfl, e1, D_Weather.cls, D_Weather.no _ (by decide), rfl, _, rfl, q, C_Weather, dy, _, _, rfl, e2, D_Weather.cls, D_Weather.no _ (by decide), rfl, M, N, x1, x2, k⟩

theorem okWeather___len__ {f : Addr} {fd : FuncData} (F : Fun K "__len__" "Weather.__len__" sWeather___len__ f fd) (T : Txt K mg) {C_BadNumber C_Day C_Weather fi fe fwi fwe : Addr} (D_Day : DatC K mg "Day" C_Day fi fe ["dry", "rain", "fill", "mood"]) (D_Weather : DatC K mg "Weather" C_Weather fwi fwe ["moods", "width"]) : FnOk P w K mg base CX0 1 f fd PWeather___len__ (spWeather_len C_Weather C_Day) := by
  refine F.ok scWeather___len__ (fun vs H Q E h => ?_) (fun cdv A outer s H vs Q E hr h => ?_)
  · obtain ⟨p, M, rfl, hp, k⟩ := h
    rfl
  · obtain ⟨p, M, rfl, hp, k⟩ := h
    refine ⟨_, (pss_one (ps_ret (pe_callB call_len_seq (by rfl) T.b_len PySem.boot_len (pa_cons (pe_fld (pv 0) rfl) pa_nil)))), ?_⟩
    obtain ⟨dx, qx, e1, q, xs, e, x1, hr1⟩ := hp
    cases e
    refine ⟨_, rfl, p, C_Weather, dx, _, _, rfl, e1, D_Weather.cls, D_Weather.no _ (by decide), rfl, qx, _, rfl, .inr (SqT.of x1), ?_⟩
    rw [hr1.len]
    exact k

theorem okWeather___getitem__ {f : Addr} {fd : FuncData} (F : Fun K "__getitem__" "Weather.__getitem__" sWeather___getitem__ f fd) (T : Txt K mg) {C_BadNumber C_Day C_Weather fi fe fwi fwe : Addr} (D_Day : DatC K mg "Day" C_Day fi fe ["dry", "rain", "fill", "mood"]) (D_Weather : DatC K mg "Weather" C_Weather fwi fwe ["moods", "width"]) (C_xcheck_number : ∃ (g : Addr) (gd : FuncData), FnOk P w K mg base (L2.CX P w) 4 g gd Pcheck_number (spcheck_number C_BadNumber) ∧ mg "check_number" = some (.ref g) ∧ PySem.W.keepIn K (.ref g) = true ∧ Binds K gd Pcheck_number []) : FnOk P w K mg base (L2.CX P w) 5 f fd PWeather___getitem__ (spWeather_get C_Weather C_Day C_BadNumber) := by
  obtain ⟨gcheck_number, gdcheck_number, Gcheck_number, mcheck_number, kcheck_number, bcheck_number⟩ := C_xcheck_number
  refine F.okX scWeather___getitem__ (fun vs H Q E h => ?_) (fun cdv A outer s H vs Q E hr h => ?_)
  · obtain ⟨p, M, k, rfl, hp, kT, kE⟩ := h
    rfl
  · obtain ⟨p, M, k, rfl, hp, kT, kE⟩ := h
    refine ⟨_, (pss_one (ps_ret (pe_ix ix_tup (pe_fld (pv 0) rfl) (pe_callS Gcheck_number (hr.mono (by decide)) (by rfl) mcheck_number kcheck_number bcheck_number (fun σ => passAt (takes_of rfl rfl rfl rfl) σ) (pa_cons pe_str (pa_cons (pv 1) (pa_cons pe_int (pa_cons (pe_op op_sub (pe_callB call_len_seq (by rfl) T.b_len PySem.boot_len (pa_cons (pe_fld (pv 0) rfl) pa_nil)) pe_int) pa_nil))))) (fun _ _ => rfl)))), ?_⟩
    obtain ⟨dx, qx, e1, q, xs, e, x1, hr1⟩ := hp
    cases e
    refine ⟨_, rfl, p, C_Weather, dx, _, _, rfl, e1, D_Weather.cls, D_Weather.no _ (by decide), rfl, _, rfl, _, rfl, p, C_Weather, dx, _, _, rfl, e1, D_Weather.cls, D_Weather.no _ (by decide), rfl, qx, _, rfl, .inr (SqT.of x1), _, _, rfl, rfl, "mood", .int k, 0, _, rfl, (by decide +kernel), .int _, fun t0 => ?_, fun t0 d H1 nd s1 hd => ?_⟩
    case refine_2 =>
      refine kE (fun z => ?_) d H1 nd s1 hd
      have : decide (0 ≤ k ∧ k ≤ (xs.length : Nat) - 1) = false := t0
      have := of_decide_eq_false this
      have := hr1.len
      omega
    have t0 : 0 ≤ k ∧ k < xs.length := by
      have : decide (0 ≤ k ∧ k ≤ (xs.length : Nat) - 1) = true := t0
      have := of_decide_eq_true this
      omega
    obtain ⟨n, rfl⟩ : ∃ n : Nat, k = (n : Int) := ⟨k.toNat, by omega⟩
    have hx : xs[n]? = some xs[n] := List.getElem?_eq_getElem (by omega)
    generalize xs[n]'(by omega) = y at hx
    obtain ⟨r, hM, hy⟩ := hr1.at hx
    exact ⟨qx, _, _, _, rfl, rfl, SqT.of x1, atI_nat hx, kT n r rfl hM y H (Same.refl _) hy⟩
end
end Wb

set_option pp.maxSteps 500
set_option pp.deepTerms false
namespace Wb
open PySem PySem.Spec PyProof.Rows L2 Wx StX NdefX RZ StX PyProof.Rows.FinIter
section
variable {P : Program} {w : World} {K : PySem.W.Frag} {mg : Str → Option Value} {base : Heap}

theorem scr_ofL {K : PySem.W.Frag} {H H' : Hp} {a s : Addr} {L : List Addr} (h : Scr K H a s) (n : ∀ p, p ∈ L → H p = none) (f : Frm (s :: L) H H') (q : St4 H' s) : Scr K H' a s := by
  obtain ⟨⟨ns, h1, h2⟩, _⟩ := h
  refine ⟨⟨ns, Same.seq (fun b o e => ?_) h1, h2⟩, q⟩
  have nb : ¬ b ∈ [s] := fun y => by
    rw [show hid [s] H b = none from if_pos y] at e
    cases e
  rw [hid_eq nb] at e ⊢
  refine f b o (fun y => ?_) e
  rcases List.mem_cons.mp y with z | z
  · exact nb (by rw [z]; exact List.mem_cons_self)
  · rw [n b z] at e
    cases e
theorem Frm.dropL {s : Addr} {L : List Addr} {H H' : Hp} (n : ∀ p, p ∈ L → H p = Option.none) (f : Frm (s :: L) H H') : Frm [s] H H' := fun b o nb e => f b o (fun y => by
  rcases List.mem_cons.mp y with z | z
  · exact nb (by rw [z]; exact List.mem_cons_self)
  · rw [n b z] at e
    cases e) e
theorem two_le : (2 : Nat) ≤ sizeLine := by rw [sizeLine_eq]; show 2 ≤ 16777216; decide

theorem cmul_small {i j : Int} (h : 0 ≤ i ∧ i ≤ 100) : CMul i j := by
  have e : (2 : Int) ^ 64 = 18446744073709551616 := by decide
  refine .inl ⟨?_, ?_⟩
  · rw [e]; omega
  · rw [e]; omega
/-- a day of width w whose next mood is below k -/
def OkD (w k : Int) (d : DayD) : Prop := VDay d.1 d.2.1 d.2.2.1 d.2.2.2 ∧ (d.1.length : Int) = w ∧ d.2.2.2 < k
theorem OkD.none {w k : Int} {d : DayD} (h : OkD w k d) : dayBad w k d = Option.none := by
  obtain ⟨⟨h1, h2, h3, h4, h5, h6, h7, h8, h9⟩, h10, h11⟩ := h
  unfold dayBad
  rw [if_pos h10, if_pos ⟨h8, h11⟩]
theorem OkD.more {w k k' : Int} {d : DayD} (h : OkD w k d) (hk : k ≤ k') : OkD w k' d := ⟨h.1, h.2.1, Int.lt_of_lt_of_le h.2.2 hk⟩
/-- rows of such days, 1 to n each -/
def OkR (w k : Int) (n : Nat) (r : List DayD) : Prop := 1 ≤ r.length ∧ r.length ≤ n ∧ ∀ d, d ∈ r → OkD w k d
theorem OkR.none {w k : Int} {n : Nat} {r : List DayD} (h : OkR w k n r) (hn : n ≤ 6) : rowBad w k r = Option.none := by
  unfold rowBad
  rw [if_pos ⟨h.1, Nat.le_trans h.2.1 hn⟩]
  exact List.findSome?_eq_none_iff.mpr fun d hd => (h.2.2 d hd).none
def OkM (w k : Int) (n : Nat) (M : List (List DayD)) : Prop := ∀ r, r ∈ M → OkR w k n r
theorem OkM.wid {w k : Int} {n : Nat} {M : List (List DayD)} (h : OkM w k n M) (h1 : 1 ≤ M.length) : Wb.wid M = w := by
  obtain ⟨r, hM⟩ : ∃ r, M[0]? = some r := ⟨_, List.getElem?_eq_getElem (by omega)⟩
  have hr := h r (List.mem_of_getElem? hM)
  obtain ⟨d, hd⟩ : ∃ d, r[0]? = some d := ⟨_, List.getElem?_eq_getElem (by have := hr.1; omega)⟩
  rw [wid_pos hM hd]
  exact (hr.2.2 _ (List.mem_of_getElem? hd)).2.1
theorem OkM.small {w k : Int} {n : Nat} {M : List (List DayD)} (h : OkM w k n M) (hn : n ≤ 1000) (hl : M.length ≤ 1000) : Small M :=
  ⟨hl, fun r hr => ⟨Nat.le_trans (h r hr).2.1 hn, fun d hd => by
    obtain ⟨v, _⟩ := (h r hr).2.2 d hd
    have := v.2.1
    omega⟩⟩
theorem OkM.ref {w : Int} {n : Nat} {M : List (List DayD)} (h : OkM w M.length n M) (hn : n ≤ 6) (h1 : 1 ≤ M.length) (h4 : M.length ≤ 4) : wRef M = Option.none := by
  unfold wRef daysBad
  rw [if_pos ⟨h1, h4⟩, h.wid h1]
  exact List.findSome?_eq_none_iff.mpr fun r hr => (h r hr).none hn
theorem Reps.q {α : Type} {R : Rep α} {H : Hp} {xs : List V} {as : List (List α)} (h : Reps (repL R) H xs as) : Reps (repQ R) H xs as := h.imp fun _ _ z => .inl z
theorem Reps.qT {α : Type} {R : Rep α} {H : Hp} {xs : List V} {as : List (List α)} (h : Reps (repT R) H xs as) : Reps (repQ R) H xs as := h.imp fun _ _ z => .inr z
theorem w_call {K : PySem.W.Frag} {CW CD CM : Addr} {H : Hp} {xs : List V} {M : List (List DayD)} {x dx : Addr} {R : Hp → Prop} {E : XK} (hr : Reps (repQ (repDay CD)) H xs M) (hs : Small M) (nx : H x = none) (nd : H dx = none)
    (kT : wRef M = none → ∀ H', Same H H' → WAt CW CD H' x M → R H') (kE : ∀ tag v, wRef M = some (tag, v) → ∀ (d : Addr) (H' : Hp), H d = none → Same H H' → H' d = some (.xd [("value", .int v), ("what", .str tag)]) → E (.ref CM) (some d) H') :
    spStar 1 (spWeather_init K CW CD CM) (V.ref x :: xs) (upd (upd H dx (.own x)) x (.ins CW dx [])) (fun v H2 => v = .non ∧ R H2) E := by
  have sm : Same H (upd (upd H dx (.own x)) x (.ins CW dx [])) := fun b o e => by rw [upd_ne (ne_of_none e nx), upd_ne (ne_of_none e nd)]; exact e
  refine star1 (bigN (by rw [hr.len]; have := hs.1; omega)) fun p hp => ?_
  have npx : x ≠ p := ne_of_none upd_same hp
  have sp := sm.trans (Same.new (o := .tup xs) hp)
  have back : ∀ {H' : Hp}, Fr2 x dx (upd (upd (upd H dx (.own x)) x (.ins CW dx [])) p (.tup xs)) H' → Same H H' := fun fr b o e => fr b o (ne_of_none e nx) (ne_of_none e nd) (sp _ _ e)
  refine ⟨x, dx, p, xs, M, rfl, by rw [upd_ne npx]; exact upd_same, upd_same, hr.mono (repQ_mono repDay_mono) sp, hs, fun e q H' fr rq ep => ⟨rfl, kT e H' (back fr) ⟨dx, q, ep, rq⟩⟩, fun tag v e d H' nd' fr hd => kE tag v e d H' (sp.free nd') (back fr) hd⟩
def sp_law_day (K : PySem.W.Frag) (CD : Addr) : Sp := fun vs H Q _ => ∃ (a s : Addr) (many most moods : Int), vs = [.ref a, .ref s, .int many, .int most, .int moods] ∧ Scr K H a s ∧ 1 ≤ many ∧ many ≤ 4 ∧ 0 ≤ most ∧ most ≤ 7 ∧ 1 ≤ moods ∧ moods ≤ 4 ∧
  ∀ (x : V) (H' : Hp) (d : DayD), repDay CD x H' d → OkD many moods d → (∀ i, i ∈ d.1 → i ≤ most) → Frm [s] H H' → Scr K H' a s → Q x H'
def sp_law_refusalW (K : PySem.W.Frag) (CD : Addr) : Sp := fun vs H Q _ => ∃ (R : Addr) (rs : List V) (M : List (List DayD)), vs = [.ref R] ∧ H R = some (.lst rs) ∧ Reps (repL (repDay CD)) H rs M ∧ Small M ∧ M.length ≤ 5 ∧
  ∀ (tag : Str) (v : Int), (wRef M).getD ("none", 0) = (tag, v) → ∀ (q : Addr) (H' : Hp), H q = none → H' q = some (.tup [.str tag, .int v]) → Same H H' → Q (.ref q) H'
def sp_law_item (CW CD : Addr) : Sp := fun vs H Q _ => ∃ (p : Addr) (M : List (List DayD)) (k : Int), vs = [.ref p, .int k] ∧ WAt CW CD H p M ∧
  (∀ (n : Nat) (r : List DayD), k = n → M[n]? = some r → ∀ x, ∀ H', Same H H' → repT (repDay CD) x H' r → Q x H') ∧
  (¬ (0 ≤ k ∧ k < M.length) → ∀ (q : Addr) (H' : Hp), H q = none → H' q = some (.tup [.str "mood", .int k]) → Same H H' → Q (.ref q) H')
def sp_law_made (CW CD : Addr) : Sp := fun vs H Q _ => ∃ (R : Addr) (rs : List V) (M : List (List DayD)), vs = [.ref R] ∧ H R = some (.lst rs) ∧ Reps (repQ (repDay CD)) H rs M ∧ Small M ∧ wRef M = none ∧ M.length ≤ 3 ∧ ∀ (x : Addr) (H' : Hp), Same H H' → WAt CW CD H' x M → Q (.ref x) H'


theorem Reps.of {α : Type} {R : Rep α} {H : Hp} : ∀ {xs : List V} {as : List α}, xs.length = as.length → (∀ (i : Nat) x a, xs[i]? = some x → as[i]? = some a → R x H a) → Reps R H xs as
  | [], [], _, _ => trivial
  | x :: xs, a :: as, e, h => ⟨h 0 x a rfl rfl, Reps.of (by simpa using e) fun i y b h1 h2 => h (i + 1) y b h1 h2⟩
  | [], _ :: _, e, _ => by simp at e
  | _ :: _, [], e, _ => by simp at e
theorem map_at {α β : Type} {f : α → β} {l : List α} {i : Nat} {y : β} (h : (l.map f)[i]? = some y) : ∃ x, l[i]? = some x ∧ y = f x := by
  rw [List.getElem?_map] at h
  cases e : l[i]? with
  | none => rw [e] at h; cases h
  | some x => rw [e] at h; exact ⟨x, rfl, (Option.some.inj h).symm⟩

theorem Scr.lstS {K : PySem.W.Frag} {H : Hp} {a s : Addr} (h : Scr K H a s) : ∀ u, H s = some u → ∃ xs, u = .lst xs := fun u e => by
  obtain ⟨i1, i2, i3, i4, e4⟩ := h.2
  rw [e4] at e
  exact ⟨_, (Option.some.inj e).symm⟩

theorem hid_keep {X : List Addr} {H : Hp} (h : ∀ b, b ∈ X → ∀ o, H b = some o → ∃ l, o = .lst l) : ∀ b o, H b = some o → (∀ xs, o ≠ .lst xs) → (∀ C dx, o ≠ .ins C dx []) → hid X H b = some o := fun b o e n _ => by
  rw [hid_eq (fun m => by obtain ⟨l, z⟩ := h b m o e; exact n l z)]
  exact e

abbrev RowD : Type := List Int × List Int × Int
/-- a row (dry, rain, fill) -/
def repRow : Rep RowD := fun x H d => ∃ p a b, x = .ref p ∧ H p = some (.tup [.ref a, .ref b, .int d.2.2]) ∧ H a = some (.lst (d.1.map V.int)) ∧ H b = some (.lst (d.2.1.map V.int))
theorem repRow_mono : RMon repRow := fun x H H' d s h => by
  obtain ⟨p, a, b, rfl, e1, e2, e3⟩ := h
  exact ⟨p, a, b, rfl, s _ _ e1, s _ _ e2, s _ _ e3⟩
/-- the first wrong part of a row -/
def rowRef (d : RowD) : Option (Str × V) := dayRef (d.1.map V.int) (d.2.1.map V.int) (.int d.2.2) (.int 0)
abbrev VRow (d : RowD) : Prop := VDay d.1 d.2.1 d.2.2 0
theorem VRow.ref {d : RowD} (h : VRow d) : rowRef d = none := VDay.ref h
theorem bad8_ok {i : Int} (h : bad8 (.int i) = false) : 0 ≤ i ∧ i ≤ 8 := by
  have h : (!numB (.int i) 0 8) = false := h
  have h : (!decide (0 ≤ i ∧ i ≤ 8)) = false := h
  exact of_decide_eq_true (by simpa using h)
theorem ints_ok {l : List Int} (h : (l.map V.int).find? bad8 = none) : ∀ i, i ∈ l → 0 ≤ i ∧ i ≤ 8 := fun i hi => by
  have := List.find?_eq_none.mp h (.int i) (List.mem_map.mpr ⟨i, hi, rfl⟩)
  exact bad8_ok (Bool.eq_false_iff.mpr this)
theorem rowRef_none {d : RowD} (h : rowRef d = none) : VRow d := by
  obtain ⟨ds, rs, f⟩ := d
  have h : dayRef (ds.map V.int) (rs.map V.int) (.int f) (.int 0) = none := h
  unfold dayRef at h
  split at h
  case isFalse => cases h
  rename_i h1
  split at h
  · cases h
  rename_i h2
  split at h
  case isFalse => cases h
  rename_i h3
  split at h
  · cases h
  rename_i h4
  split at h
  case isFalse => cases h
  rename_i h5
  have h1 : decide ((1 : Int) ≤ ((ds.map V.int).length : Nat) ∧ (((ds.map V.int).length : Nat) : Int) ≤ 4) = true := h1
  have h1 := of_decide_eq_true h1
  have h5 : decide ((0 : Int) ≤ f ∧ f ≤ 8) = true := h5
  have h5 := of_decide_eq_true h5
  rw [List.length_map] at h1
  rw [List.length_map, List.length_map] at h3
  exact ⟨by show 1 ≤ ds.length; omega, by show ds.length ≤ 4; omega, h3, ints_ok h2, ints_ok h4, h5.1, h5.2, by decide, by decide⟩
theorem dayRef_mood {xs ys : List V} {f : V} {m : Int} (h0 : 0 ≤ m) (h3 : m ≤ 3) : dayRef xs ys f (.int m) = dayRef xs ys f (.int 0) := by
  have e1 : numB (.int m) 0 3 = true := decide_eq_true ⟨h0, h3⟩
  have e2 : numB (.int 0) 0 3 = true := by decide
  unfold dayRef
  rw [e1, e2]
  simp
theorem VRow.day {d : RowD} (h : VRow d) {m : Int} (h0 : 0 ≤ m) (h3 : m ≤ 3) : VDay d.1 d.2.1 d.2.2 m := by
  obtain ⟨a1, a2, a3, a4, a5, a6, a7, a8, a9⟩ := h
  exact ⟨a1, a2, a3, a4, a5, a6, a7, h0, h3⟩
/-- C(..) of a day of whole numbers, which may be refused -/
theorem day_try {K : PySem.W.Frag} {C CM : Addr} {H : Hp} {d : RowD} {m : Int} {a b : Addr} {R : Hp → Prop} {E : XK} (h0 : 0 ≤ m) (h3 : m ≤ 3) (l1 : d.1.length ≤ 1000) (l2 : d.2.1.length ≤ 1000) (ha : H a = some (.lst (d.1.map V.int))) (hb : H b = some (.lst (d.2.1.map V.int)))
    {x dx : Addr} (nx : H x = none) (nd : H dx = none) (kT : VRow d → ∀ H', Same H H' → DayAt C H' x d.1 d.2.1 d.2.2 m → R H')
    (kE : ∀ tag v, rowRef d = some (tag, v) → ∀ (e : Addr) (H' : Hp), H e = none → Same H H' → H' e = some (.xd [("value", v), ("what", .str tag)]) → E (.ref CM) (some e) H') :
    spDay_init K C CM [.ref x, .ref a, .ref b, .int d.2.2, .int m] (upd (upd H dx (.own x)) x (.ins C dx [])) (fun v H2 => v = .non ∧ R H2) E := by
  have sm : Same H (upd (upd H dx (.own x)) x (.ins C dx [])) := fun b o e => by rw [upd_ne (ne_of_none e nx), upd_ne (ne_of_none e nd)]; exact e
  have back : ∀ {H' : Hp}, Fr2 x dx (upd (upd H dx (.own x)) x (.ins C dx [])) H' → Same H H' := fun fr b o e => fr b o (ne_of_none e nx) (ne_of_none e nd) (sm _ _ e)
  refine ⟨x, dx, a, b, _, _, _, _, rfl, upd_same, .inl (SqL.of (sm _ _ ha)), .inl (SqL.of (sm _ _ hb)), by rw [List.length_map]; exact l1, by rw [List.length_map]; exact l2, odd_ints, odd_ints, .int _, .int _, fun h q r H' fr nq nr eq er ep => ⟨rfl, kT ?_ H' (back fr) ⟨dx, q, r, ep, eq, er⟩⟩, fun tag v h e H' ne fr he => kE tag v ?_ e H' (sm.free ne) (back fr) he⟩
  · rw [dayRef_mood h0 h3] at h
    exact rowRef_none h
  · rw [dayRef_mood h0 h3] at h
    exact h
theorem star0 {sp : Sp} {rest : List V} {H : Hp} {Q : VK} {E : XK} (hl : rest.length ≤ sizeLine) (h : ∀ p, H p = Option.none → sp [.ref p] (upd H p (.tup rest)) Q E) : spStar 0 sp rest H Q E := ⟨[], rest, rfl, rfl, hl, h⟩
abbrev nxt (i n : Nat) : Int := ((i : Int) + 1).fmod (n : Int)
theorem nxt_range {i n : Nat} (h1 : 1 ≤ n) (h4 : n ≤ 4) : 0 ≤ nxt i n ∧ nxt i n ≤ 3 ∧ nxt i n < n := by
  have a := Int.fmod_nonneg_of_pos ((i : Int) + 1) (show (0 : Int) < n by omega)
  have b := Int.fmod_lt_of_pos ((i : Int) + 1) (show (0 : Int) < n by omega)
  exact ⟨a, by show ((i : Int) + 1).fmod (n : Int) ≤ 3; omega, b⟩
abbrev mkR (k : Int) (r : List RowD) : List DayD := r.map fun d => (d.1, d.2.1, d.2.2, k)
def mkM (M : List (List RowD)) : List (List DayD) := (List.range M.length).map fun i => mkR (nxt i M.length) (M.getD i [])
theorem mkM_len (M : List (List RowD)) : (mkM M).length = M.length := by unfold mkM; rw [List.length_map, List.length_range]
theorem mkM_at {M : List (List RowD)} {i : Nat} {r : List RowD} (h : M[i]? = some r) : (mkM M)[i]? = some (mkR (nxt i M.length) r) := by
  have hi : i < M.length := (List.getElem?_eq_some_iff.mp h).1
  unfold mkM
  rw [List.getElem?_map, List.getElem?_range hi, Option.map_some, List.getD_eq_getElem?_getD, h]
  rfl
/-- how long the rows are -/
def OkLen (w : Int) (M : List (List RowD)) : Prop := ∀ r, r ∈ M → 1 ≤ r.length ∧ r.length ≤ 6 ∧ ∀ d : RowD, d ∈ r → (d.1.length : Int) = w ∧ d.2.1.length = d.1.length
abbrev rowsRef (r : List RowD) : Option (Str × V) := r.findSome? rowRef
def sRef (M : List (List RowD)) : Option (Str × V) := if 1 ≤ M.length ∧ M.length ≤ 4 then M.findSome? rowsRef else some ("moods", .int M.length)
theorem mkM_ok {w : Int} {M : List (List RowD)} (h : OkLen w M) (h1 : 1 ≤ M.length) (h4 : M.length ≤ 4) (hr : M.findSome? rowsRef = none) : OkM w (mkM M).length 6 (mkM M) := fun s hs => by
  rw [mkM_len]
  obtain ⟨i, hi⟩ := List.getElem?_of_mem hs
  have hil : i < M.length := by rw [← mkM_len]; exact (List.getElem?_eq_some_iff.mp hi).1
  obtain ⟨r, hM⟩ : ∃ r, M[i]? = some r := ⟨_, List.getElem?_eq_getElem hil⟩
  rw [mkM_at hM] at hi
  cases hi
  have hm := List.mem_of_getElem? hM
  obtain ⟨a1, a2, a3⟩ := h r hm
  have n := nxt_range (i := i) h1 h4
  refine ⟨by rw [List.length_map]; exact a1, by rw [List.length_map]; exact a2, fun d hd => ?_⟩
  obtain ⟨d0, hd0, rfl⟩ := List.mem_map.mp hd
  have hv := rowRef_none (List.findSome?_eq_none_iff.mp (List.findSome?_eq_none_iff.mp hr r hm) d0 hd0)
  exact ⟨hv.day n.1 n.2.1, (a3 d0 hd0).1, n.2.2⟩
def XE (tag : Str) (v : V) : HO := .xd [("value", v), ("what", .str tag)]
def spWeather_steady (CW CD CM : Addr) : Sp := fun vs H Q E => ∃ (a b : Addr) (d : RowD), vs = [.ref a, .ref b, .int d.2.2] ∧ H a = some (.lst (d.1.map V.int)) ∧ H b = some (.lst (d.2.1.map V.int)) ∧ d.1.length ≤ 1000 ∧ d.2.1.length ≤ 1000 ∧
  (VRow d → ∀ (x : Addr) (H' : Hp), Same H H' → WAt CW CD H' x [[(d.1, d.2.1, d.2.2, 0)]] → Q (.ref x) H') ∧
  (∀ tag v, rowRef d = some (tag, v) → ∀ (e : Addr) (H' : Hp), H e = none → Same H H' → H' e = some (.xd [("value", v), ("what", .str tag)]) → E (.ref CM) (some e) H')
def spWeather_seasons (CW CD CM : Addr) : Sp := fun vs H Q E => ∃ (t : Addr) (rows : List V) (M : List (List RowD)) (w : Int), vs = [.ref t] ∧ H t = some (.tup rows) ∧ Reps (repL repRow) H rows M ∧ OkLen w M ∧ w ≤ 1000 ∧ M.length ≤ 1000 ∧
  (sRef M = none → ∀ (x : Addr) (H' : Hp), Same H H' → WAt CW CD H' x (mkM M) → Q (.ref x) H') ∧
  (∀ tag v, sRef M = some (tag, v) → ∀ (e : Addr) (H' : Hp), H e = none → Same H H' → H' e = some (.xd [("value", v), ("what", .str tag)]) → E (.ref CM) (some e) H')

theorem okWeather_steady {f : Addr} {fd : FuncData} (F : Fun K "steady" "Weather.steady" sWeather_steady f fd) (T : Txt K mg) {C_BadNumber C_Day C_Weather fi fe fwi fwe : Addr} (D_Day : DatC K mg "Day" C_Day fi fe ["dry", "rain", "fill", "mood"]) (D_Weather : DatC K mg "Weather" C_Weather fwi fwe ["moods", "width"]) {fdi : FuncData} (GDay___init__ : FnOk P w K mg base (L2.CX P w) 6 fi fdi PDay___init__ (spDay_init K C_Day C_BadNumber)) (bDay___init__ : Binds K fdi PDay___init__ []) (GWeather___init__ : FnR P w K mg base (L2.CX P w) 7 fwi (spStar 1 (spWeather_init K C_Weather C_Day C_BadNumber))) : FnOk P w K mg base (L2.CX P w) 9 f fd PWeather_steady (spWeather_steady C_Weather C_Day C_BadNumber) := by
  refine F.okX scWeather_steady (fun vs H Q E h => ?_) (fun cdv A outer s H vs Q E hr h => ?_)
  · obtain ⟨a, b, d, rfl, ha, hb, l1, l2, kT, kE⟩ := h
    rfl
  · obtain ⟨a, b, d, rfl, ha, hb, l1, l2, kT, kE⟩ := h
    refine ⟨_, (pss_one (ps_ret (pe_makeRS D_Weather.mkk GWeather___init__ (hr.mono (by decide)) (by rfl) D_Weather.g (fun σ => passAt (takes_of rfl rfl rfl rfl) σ) (pa_cons (pe_lst (pa_cons (pe_makeS D_Day.mkk GDay___init__ (hr.mono (by decide)) (by rfl) D_Day.g bDay___init__ (fun σ => passAt (takes_of rfl rfl rfl rfl) σ) (pa_cons (pv 0) (pa_cons (pv 1) (pa_cons (pv 2) (pa_cons pe_int pa_nil))))) pa_nil)) pa_nil)))), ?_⟩
    refine ⟨_, rfl, _, rfl, _, rfl, fun x dx nx nd _ => day_try (by decide) (by decide) l1 l2 ha hb nx nd (fun hv H1 s1 st => ?_) kE⟩
    refine ⟨bigN (by show 1 ≤ _; decide), fun D hD => ?_⟩
    have s2 : Same H1 (upd H1 D (.lst [.ref x])) := Same.new hD
    have okm : OkM d.1.length [[((d.1, d.2.1, d.2.2, 0) : DayD)]].length 6 [[(d.1, d.2.1, d.2.2, 0)]] := fun r hr => by
      rw [List.mem_singleton.mp hr]
      exact ⟨Nat.le_refl _, by show 1 ≤ 6; decide, fun e he => by rw [List.mem_singleton.mp he]; exact ⟨hv, rfl, by show (0 : Int) < 1; decide⟩⟩
    have hr1 : Reps (repQ (repDay C_Day)) (upd H1 D (.lst [.ref x])) [.ref D] [[((d.1, d.2.1, d.2.2, 0) : DayD)]] := Reps.one (.inl ⟨D, _, rfl, upd_same, Reps.one ⟨x, rfl, st.same s2⟩⟩)
    refine fun X dX nX ndX _ => w_call hr1 (okm.small (by decide) (by show 1 ≤ 1000; decide)) nX ndX (fun _ H2 s3 hw => kT hv X H2 ((s1.trans s2).trans s3) hw) (fun tag v e => ?_)
    rw [okm.ref (by decide) (by show 1 ≤ 1; decide) (by show 1 ≤ 4; decide)] at e
    cases e

theorem okWeather_seasons {f : Addr} {fd : FuncData} (F : Fun K "seasons" "Weather.seasons" sWeather_seasons f fd) (T : Txt K mg) {C_BadNumber C_Day C_Weather fi fe fwi fwe : Addr} (D_Day : DatC K mg "Day" C_Day fi fe ["dry", "rain", "fill", "mood"]) (D_Weather : DatC K mg "Weather" C_Weather fwi fwe ["moods", "width"]) {fdi : FuncData} (GDay___init__ : FnOk P w K mg base (L2.CX P w) 6 fi fdi PDay___init__ (spDay_init K C_Day C_BadNumber)) (bDay___init__ : Binds K fdi PDay___init__ []) (GWeather___init__ : FnR P w K mg base (L2.CX P w) 7 fwi (spStar 1 (spWeather_init K C_Weather C_Day C_BadNumber))) (C_xcheck_number : ∃ (g : Addr) (gd : FuncData), FnOk P w K mg base (L2.CX P w) 4 g gd Pcheck_number (spcheck_number C_BadNumber) ∧ mg "check_number" = some (.ref g) ∧ PySem.W.keepIn K (.ref g) = true ∧ Binds K gd Pcheck_number []) : FnR P w K mg base (L2.CX P w) 9 f (spStar 0 (spWeather_seasons C_Weather C_Day C_BadNumber)) := by
  obtain ⟨gcheck_number, gdcheck_number, Gcheck_number, mcheck_number, kcheck_number, bcheck_number⟩ := C_xcheck_number
  obtain ⟨_, c_MOST_MOODS⟩ := T.c_MOST_MOODS
  refine okStar (ps := []) (pv := "rows") F scWeather_seasons (fun kV doc pm an cdv ct us rest hl => match us, rest, hl with | [], [], _ => rfl | [], _ :: _, _ => rfl) (fun cdv A outer s H vs Q E hr h => ?_)
  · obtain ⟨t, rows, M, w, rfl, ht, hrs, hlen, hw1, hM1, kT, kE⟩ := h
    refine ⟨_, (pss_cons (ps_expr (pe_callS Gcheck_number (hr.mono (by decide)) (by rfl) mcheck_number kcheck_number bcheck_number (fun σ => passAt (takes_of rfl rfl rfl rfl) σ) (pa_cons pe_str (pa_cons (pe_callB call_len_seq (by rfl) T.b_len PySem.boot_len (pa_cons (pv 0) pa_nil)) (pa_cons pe_int (pa_cons (pe_glob (v := .int 4) rfl c_MOST_MOODS ⟨_, rfl⟩) pa_nil))))))
  (pss_cons (ps_set (i := 1) scWeather_seasons.nd rfl (by first | exact Or.inl rfl | exact Or.inr rfl) (pe_lst pa_nil))
  (pss_cons (ps_for (passes_of rfl) rfl (pi_enumT (by rfl) T.b_enumerate (pa_cons (pv 0) pa_nil)) (pg_tup rfl (pgs_cons (pg_name (i := 2) scWeather_seasons.nd rfl (by first | exact Or.inl rfl | exact Or.inr rfl)) (pgs_cons (pg_name (i := 3) scWeather_seasons.nd rfl (by first | exact Or.inl rfl | exact Or.inr rfl)) pgs_nil)))
  (pss_cons (ps_set (i := 4) scWeather_seasons.nd rfl (by first | exact Or.inl rfl | exact Or.inr rfl) (pe_op op_modN (pe_op op_add (pv 2) pe_int) (pe_callB call_len_seq (by rfl) T.b_len PySem.boot_len (pa_cons (pv 0) pa_nil))))
  (pss_one (ps_expr (pe_bm PySem.F.plainAttrs_list PySem.F.slot_list_append PySem.F.type_list_append mt_append (pv 1) (pa_cons (pe_lcX (g := gTup K 3 (gCons (gName 5) (gCons (gName 6) (gCons (gName 7) gNil)))) (own := [("dry", 5), ("rain", 6), ("fill", 7)]) (fun σ => air_of (takes_of rfl rfl rfl rfl) rfl rfl) rfl scWeather_seasons.nd (pi_list (pv 3)) (blkOk_by (own := [("dry", 5), ("rain", 6), ("fill", 7)]) (N := NWeather_seasons) (sc := defScope sWeather_seasons) (by decide +kernel)) (fun _ _ _ _ _ => (pg_tup rfl (pgs_cons (pg_name (i := 5) scWeather_seasons.nd rfl (by first | exact Or.inl rfl | exact Or.inr rfl)) (pgs_cons (pg_name (i := 6) scWeather_seasons.nd rfl (by first | exact Or.inl rfl | exact Or.inr rfl)) (pgs_cons (pg_name (i := 7) scWeather_seasons.nd rfl (by first | exact Or.inl rfl | exact Or.inr rfl)) pgs_nil))))) (fun _ _ _ _ _ => pts_nil) (fun _ _ _ _ _ _ _ air => (pe_makeS D_Day.mkk GDay___init__ (hr.mono (by decide)) (by rfl) D_Day.g bDay___init__ (fun σ => (air σ).pass) (pa_cons (pv 5) (pa_cons (pv 6) (pa_cons (pv 7) (pa_cons (pv 4) pa_nil))))))) pa_nil))))))
  (pss_one (ps_ret (pe_makeStar D_Weather.mkk GWeather___init__ (hr.mono (by decide)) (by rfl) D_Weather.g (fun σ => passAt (takes_of rfl rfl rfl rfl) σ) (pv 1))))))), ?_⟩
    have hlM : rows.length = M.length := hrs.len
    refine ⟨_, rfl, t, _, rfl, .inr (SqT.of ht), "moods", .int (rows.length : Nat), 1, 4, rfl, (by decide +kernel), .int _, fun t0 => ?_, fun t0 d H1 nd s1 hd => ?_⟩
    case refine_2 =>
      refine kE "moods" (.int (M.length : Nat)) ?_ d H1 nd s1 (by rw [← hlM]; exact hd)
      unfold sRef
      rw [if_neg]
      intro z
      have : decide ((1 : Int) ≤ (rows.length : Nat) ∧ ((rows.length : Nat) : Int) ≤ 4) = false := t0
      have := of_decide_eq_false this
      omega
    have t0 : 1 ≤ M.length ∧ M.length ≤ 4 := by
      have : decide ((1 : Int) ≤ (rows.length : Nat) ∧ ((rows.length : Nat) : Int) ≤ 4) = true := t0
      have := of_decide_eq_true this
      omega
    have eR : sRef M = M.findSome? rowsRef := by unfold sRef; rw [if_pos t0]
    refine ⟨bigN (by show 0 ≤ _; decide), fun D hD => ?_⟩
    refine ⟨_, rfl, t, _, rfl, SqT.of ((Same.new hD) _ _ ht), ?_⟩
    refine for_it walk_enumT (fun i σ H1 => ∃ (w2 w3 w4 : Option V) (qs : List V), σ = [some (.ref t), some (.ref D), w2, w3, w4, none, none, none] ∧ H1 D = some (.lst qs) ∧ qs.length = i ∧ Reps (repL (repDay C_Day)) (hid [D] H1) qs ((mkM M).take i) ∧ (M.take i).findSome? rowsRef = none ∧ Same H H1) ⟨_, _, _, [], rfl, upd_same, rfl, trivial, rfl, Same.new hD⟩ (fun i σ H1 _ ⟨_, _, _, _, _, _, _, _, _, s⟩ => SqT.of (s _ _ ht)) ?_ ?_
    · rintro i x σ H1o H1 hi ⟨w2, w3, w4, qs, rfl, g1, ql, gq, nr, s1⟩ ⟨T0, x, y, rfl, hT, rfl, hx, hy⟩
      obtain rfl : x = V.int (i : Nat) := (Option.some.inj hx).symm
      obtain ⟨r, hM, a, ys, rfl, ea, hd⟩ := hrs.at hy
      have hm := List.mem_of_getElem? hM
      obtain ⟨k1, k6, kw⟩ := hlen r hm
      have nn := nxt_range (i := i) t0.1 t0.2
      have s3 : Same H1o (upd H1o T0 (.tup [V.int (i : Nat), V.ref a])) := Same.new hT
      refine ⟨T0, _, rfl, SqT.of upd_same, rfl, _, _, rfl, _, _, rfl, rfl, ?_⟩
      generalize upd H1o T0 (.tup [V.int (i : Nat), V.ref a]) = H2 at s3 ⊢
      have s13 := s1.trans s3
      refine ⟨_, rfl, _, _, rfl, rfl, _, rfl, t, _, rfl, .inr (SqT.of (s13 _ _ ht)), _, _, rfl, rfl, by show ((rows.length : Nat) : Int) ≠ 0; omega, ?_⟩
      rw [hlM]
      have g2 := s3 _ _ g1
      refine ⟨_, rfl, .inl ⟨rfl, _, SqL.of g2⟩, _, rfl, a, rfl, ⟨_, SqL.of (s13 _ _ ea)⟩, fun D2 hD2 => ?_⟩
      have nDD : D2 ≠ D := fun e => by rw [e, g2] at hD2; cases hD2
      refine lc_it walk_list (fun j H3 => ∃ zs : List V, H3 D2 = some (.lst zs) ∧ zs.length = j ∧ Reps (repDay C_Day) H3 zs ((mkR (nxt i M.length) r).take j) ∧ (r.take j).findSome? rowRef = none ∧ Same H2 H3) ⟨[], upd_same, rfl, trivial, rfl, Same.new hD2⟩ (fun j H3 _ ⟨_, _, _, _, _, s⟩ => SqL.of (s _ _ (s13 _ _ ea))) ?_ ?_
      · rintro j z H3o H3 hj ⟨zs, g3, zl, gz, nz, s2⟩ ⟨rfl, hz⟩
        obtain ⟨d, hrd, p, da, db, rfl, ep, eda, edb⟩ := hd.at hz
        have s23 := s13.trans s2
        obtain ⟨kd1, kd2⟩ := kw d (List.mem_of_getElem? hrd)
        have hjr : j < r.length := (List.getElem?_eq_some_iff.mp hrd).1
        refine ⟨p, _, rfl, SqT.of (s23 _ _ ep), rfl, _, _, rfl, _, _, rfl, _, _, rfl, rfl, rfl, ?_⟩
        refine ⟨_, rfl, _, rfl, _, rfl, _, rfl, fun x dx nx nd _ => day_try nn.1 nn.2.1 (by omega) (by omega) (s23 _ _ eda) (s23 _ _ edb) nx nd (fun hv H4 s4 st => ?_) (fun tag v hb e H4 ne s4 he => ?_)⟩
        · have g4 := s4 _ _ g3
          refine ⟨zs, g4, small1000 (by omega), zs ++ [.ref x], upd_same, by rw [List.length_append, zl]; rfl, ?_, ?_, fun b o e => by rw [upd_ne (ne_of_none e hD2)]; exact s4 _ _ (s2 _ _ e)⟩
          · rw [take_snoc (show (mkR (nxt i M.length) r)[j]? = some (d.1, d.2.1, d.2.2, nxt i M.length) by rw [List.getElem?_map, hrd]; rfl)]
            exact Reps.app ((gz.mono repDay_mono s4).imp (repDay_keep (keep_lst g4))) (Reps.one (repDay_keep (keep_lst g4) _ _ ⟨x, rfl, st⟩))
          · rw [take_snoc hrd, List.findSome?_append, nz]
            show [d].findSome? rowRef = none
            rw [List.findSome?_cons, hv.ref]
            rfl
        · exact kE tag v (by rw [eR]; exact findSome_at hM nr (findSome_at hrd nz hb)) e H4 (s23.free ne) (s23.trans s4) he
      rintro H3 ⟨zs, g3, zl, gz, nz, s2⟩
      have lz : ys.length = (mkR (nxt i M.length) r).length := by rw [List.length_map]; exact hd.len
      have ly : ys.length = r.length := hd.len
      rw [lz, List.take_length] at gz
      rw [ly, List.take_length] at nz
      have g5 := s2 _ _ g2
      refine ⟨D, _, _, rfl, rfl, g5, small1000 (by omega), ?_⟩
      have fD : Frm [D] H1o (upd H3 D (.lst (qs ++ [.ref D2]))) := (Frm.of_same (s3.trans s2)).put' (by simp)
      have kD := hid_keep (X := [D]) (H := upd H3 D (.lst (qs ++ [.ref D2]))) (fun b hb o e' => by rw [List.mem_singleton.mp hb, upd_same] at e'; exact ⟨_, (Option.some.inj e').symm⟩)
      refine ⟨_, _, _, qs ++ [.ref D2], rfl, upd_same, by rw [List.length_append, ql]; rfl, ?_, ?_, fun b o e => by rw [upd_ne (ne_of_none e hD)]; exact s2 _ _ (s13 _ _ e)⟩
      · rw [take_snoc (mkM_at hM)]
        exact Reps.app (gq.mono (repL_mono repDay_mono) (hid_frm fD)) (Reps.one ⟨D2, zs, rfl, by rw [hid_eq (by simpa using nDD), upd_ne nDD]; exact g3, (gz.imp (repDay_keep (keep_lst g5))).imp (repDay_keep kD)⟩)
      · rw [take_snoc hM, List.findSome?_append, nr]
        show [r].findSome? rowsRef = none
        rw [List.findSome?_cons, show rowsRef r = none from nz]
        rfl
    rintro σ H1 ⟨w2, w3, w4, qs, rfl, g1, ql, gq, nr, s1⟩
    have lM : rows.length = (mkM M).length := by rw [mkM_len]; exact hlM
    rw [hlM, List.take_length] at nr
    rw [lM, List.take_length] at gq
    have okm := mkM_ok hlen t0.1 t0.2 nr
    have lm := mkM_len M
    refine ⟨_, rfl, D, _, rfl, .inr (SqL.of g1), fun x dx nx nd _ => w_call (Reps.q (gq.mono (repL_mono repDay_mono) (hid_same [D] H1))) (okm.small (by decide) (by omega)) nx nd (fun e H2 s2 hw => kT (by rw [eR]; exact nr) x H2 (s1.trans s2) hw) (fun tag v e => ?_)⟩
    rw [okm.ref (by decide) (by omega) (by omega)] at e
    cases e
end
end Wb

namespace Wb
open PySem PySem.Spec PyProof.Rows L2 Wx StX NdefX RZ StX PyProof.Rows.FinIter
section
variable {P : Program} {w : World} {K : PySem.W.Frag} {mg : Str → Option Value} {base : Heap}

def sp_law_rowS (K : PySem.W.Frag) : Sp := fun vs H Q _ => ∃ (a s : Addr) (many : Int) (X : List Addr), vs = [.ref a, .ref s, .int many] ∧ Scr K H a s ∧ 1 ≤ many ∧ many ≤ 4 ∧ (∀ b, b ∈ X → ∃ o, H b = some o) ∧
  ∀ (x : V) (H' : Hp) (d : RowD), repRow x (hid (s :: X) H') d → VRow d → (d.1.length : Int) = many → Frm [s] H H' → Scr K H' a s → Q x H'
def sp_law_madeS (CW CD : Addr) : Sp := fun vs H Q _ => ∃ (R : Addr) (rs : List V) (M : List (List RowD)) (w : Int), vs = [.ref R] ∧ H R = some (.lst rs) ∧ Reps (repL repRow) H rs M ∧ OkLen w M ∧ w ≤ 1000 ∧ M.length ≤ 5 ∧
  (sRef M = none → ∀ (x : Addr) (H' : Hp), Same H H' → WAt CW CD H' x (mkM M) → Q (.ref x) H') ∧
  (∀ (tag : Str) (v : V), sRef M = some (tag, v) → ∀ (q : Addr) (H' : Hp), H q = none → H' q = some (.tup [.str tag, v]) → Same H H' → Q (.ref q) H')
def sp_law_steadyS (CW CD : Addr) : Sp := fun vs H Q _ => ∃ (x : V) (d : RowD), vs = [x] ∧ repRow x H d ∧ d.1.length ≤ 1000 ∧ d.2.1.length ≤ 1000 ∧
  (VRow d → ∀ (x : Addr) (H' : Hp), Same H H' → WAt CW CD H' x [[(d.1, d.2.1, d.2.2, 0)]] → Q (.ref x) H') ∧
  (∀ (tag : Str) (v : V), rowRef d = some (tag, v) → ∀ (q : Addr) (H' : Hp), H q = none → H' q = some (.tup [.str tag, v]) → Same H H' → Q (.ref q) H')
theorem three_le : (3 : Nat) ≤ sizeLine := by rw [sizeLine_eq]; show 3 ≤ 16777216; decide

theorem ok_law_row {f : Addr} {fd : FuncData} (F : Fun K "_law_row" "_law_row" s_law_row f fd) (T : Txt K mg) (C_law_draw : Cal P w K mg base "_law_draw" P_law_draw 1 (sp_law_draw K)) : FnOk P w K mg base CX0 2 f fd P_law_row (sp_law_rowS K) := by
  obtain ⟨g_law_draw, gd_law_draw, G_law_draw, m_law_draw, k_law_draw, b_law_draw⟩ := C_law_draw.ex
  refine F.ok sc_law_row (fun vs H Q E h => ?_) (fun cdv A outer s H vs Q E hr h => ?_)
  · obtain ⟨a, s0, many, X, rfl, hS, hm1, hm4, hX, k⟩ := h
    rfl
  · obtain ⟨a, s0, many, X, rfl, hS, hm1, hm4, hX, k⟩ := h
    refine ⟨_, (pss_cons (ps_setLc (i := 3) (own := [("k", 5)]) rfl sc_law_row.nd rfl rfl (sw_true rfl rfl rfl (by decide +kernel)) (pi_range1 rfl T.b_range (pa_cons (pv 2) pa_nil)) (blkOk_by (own := [("k", 5)]) (N := N_law_row) (sc := defScope s_law_row) (by decide +kernel)) (fun _ _ _ _ _ => (pg_name (i := 5) sc_law_row.nd rfl (by first | exact Or.inl rfl | exact Or.inr rfl))) (fun _ _ _ _ _ => pts_nil) (fun _ _ _ _ _ => (pe_call G_law_draw (hr.mono (by decide)) (by rfl) m_law_draw k_law_draw b_law_draw .nil pass0 (pa_cons (pv 0) (pa_cons (pv 1) (pa_cons pe_int pa_nil))))))
  (pss_cons (ps_setLc (i := 4) (own := [("k", 5)]) rfl sc_law_row.nd rfl rfl (sw_true rfl rfl rfl (by decide +kernel)) (pi_range1 rfl T.b_range (pa_cons (pv 2) pa_nil)) (blkOk_by (own := [("k", 5)]) (N := N_law_row) (sc := defScope s_law_row) (by decide +kernel)) (fun _ _ _ _ _ => (pg_name (i := 5) sc_law_row.nd rfl (by first | exact Or.inl rfl | exact Or.inr rfl))) (fun _ _ _ _ _ => pts_nil) (fun _ _ _ _ _ => (pe_call G_law_draw (hr.mono (by decide)) (by rfl) m_law_draw k_law_draw b_law_draw .nil pass0 (pa_cons (pv 0) (pa_cons (pv 1) (pa_cons pe_int pa_nil))))))
  (pss_one (ps_ret (pe_tup (pa_cons (pv 3) (pa_cons (pv 4) (pa_cons (pe_call G_law_draw (hr.mono (by decide)) (by rfl) m_law_draw k_law_draw b_law_draw .nil pass0 (pa_cons (pv 0) (pa_cons (pv 1) (pa_cons pe_int pa_nil)))) pa_nil)))))))), ?_⟩
    refine ⟨_, rfl, _, rfl, by omega, by omega, fun D hD => ?_⟩
    have nDs : ¬ D = s0 := hS.ne hD
    have nD : ¬ D ∈ [s0] := fun y => nDs (by simpa using y)
    refine lc_it walk_range (fun i H3 => ∃ ks : List Int, H3 D = some (.lst (ks.map V.int)) ∧ ks.length = i ∧ (∀ x, x ∈ ks → 0 ≤ x ∧ x ≤ 8) ∧ Frm [D, s0] H H3 ∧ Scr K H3 a s0) ⟨[], upd_same, rfl, (fun x h => by cases h), (Frm.put List.mem_cons_self), hS.same (Same.new hD)⟩ (fun _ _ _ _ => trivial) ?_ ?_
    · rintro i x H3o H3 hi ⟨ks, g3, hk, hb, fq3, scq⟩ ⟨rfl, rfl⟩
      refine ⟨rfl, ?_⟩
      refine ⟨_, rfl, _, rfl, a, s0, 9, rfl, scq, by decide, by decide, fun d H4 d0 d1 f4 sc4 => ?_⟩
      have g4 := f4 _ _ nD g3
      have fr := (fq3.trans (f4.mono (fun b h => List.mem_cons_of_mem _ h))).put' (o := .lst (ks.map V.int ++ [.int d])) (List.mem_cons_self (a := D) (l := [s0]))
      refine ⟨_, g4, small1000 (by rw [List.length_map, hk]; omega), ks ++ [d], by rw [upd_same, List.map_append]; rfl, by rw [List.length_append, hk]; rfl, fun x hx => ?_, fr, ?_⟩
      · rcases List.mem_append.mp hx with q | q
        · exact hb x q
        · rw [List.mem_singleton.mp q]
          omega
      · obtain ⟨i1, i2, i3, i4, e4⟩ := sc4.2
        exact scr_of hS hD fr ⟨i1, i2, i3, i4, by rw [upd_ne (fun q => nDs q.symm)]; exact e4⟩
    rintro H3 ⟨ds, gds, hkds, hbds, fds, sc3⟩
    refine ⟨_, rfl, _, rfl, by omega, by omega, fun R hR => ?_⟩
    have nRs : ¬ R = s0 := sc3.ne hR
    have nR : ¬ R ∈ [s0] := fun y => nRs (by simpa using y)
    refine lc_it walk_range (fun i H5 => ∃ ks : List Int, H5 R = some (.lst (ks.map V.int)) ∧ ks.length = i ∧ (∀ x, x ∈ ks → 0 ≤ x ∧ x ≤ 8) ∧ Frm [R, s0] H3 H5 ∧ Scr K H5 a s0) ⟨[], upd_same, rfl, (fun x h => by cases h), (Frm.put List.mem_cons_self), sc3.same (Same.new hR)⟩ (fun _ _ _ _ => trivial) ?_ ?_
    · rintro i x H5o H5 hi ⟨ks, g3, hk, hb, fq3, scq⟩ ⟨rfl, rfl⟩
      refine ⟨rfl, ?_⟩
      refine ⟨_, rfl, _, rfl, a, s0, 9, rfl, scq, by decide, by decide, fun d H4 d0 d1 f4 sc4 => ?_⟩
      have g4 := f4 _ _ nR g3
      have fr := (fq3.trans (f4.mono (fun b h => List.mem_cons_of_mem _ h))).put' (o := .lst (ks.map V.int ++ [.int d])) (List.mem_cons_self (a := R) (l := [s0]))
      refine ⟨_, g4, small1000 (by rw [List.length_map, hk]; omega), ks ++ [d], by rw [upd_same, List.map_append]; rfl, by rw [List.length_append, hk]; rfl, fun x hx => ?_, fr, ?_⟩
      · rcases List.mem_append.mp hx with q | q
        · exact hb x q
        · rw [List.mem_singleton.mp q]
          omega
      · obtain ⟨i1, i2, i3, i4, e4⟩ := sc4.2
        exact scr_of sc3 hR fr ⟨i1, i2, i3, i4, by rw [upd_ne (fun q => nRs q.symm)]; exact e4⟩
    rintro H5 ⟨rs, grs, hkrs, hbrs, frs, sc5⟩
    refine ⟨_, rfl, _, rfl, _, rfl, _, rfl, a, s0, 9, rfl, sc5, by decide, by decide, fun fl H6 f0 f1 f6 sc6 => ⟨three_le, fun z hz => ?_⟩⟩
    have nRD : D ≠ R := ne_of_none gds hR
    have gR := f6 _ _ nR grs
    have gD := f6 _ _ nD (frs _ _ (by simp [nRD, nDs]) gds)
    have sz : Same H6 (upd H6 z (.tup [.ref D, .ref R, .int fl])) := Same.new hz
    have fA : Frm [s0] H (upd H6 z (.tup [.ref D, .ref R, .int fl])) := ((Frm.drop hD (Frm.refl _ _) fds).trans (Frm.drop hR (Frm.refl _ _) frs)).trans (f6.trans (Frm.of_same sz))
    have nX : ∀ b, b ∈ X → ∀ q, (H q = none ∨ H3 q = none ∨ H6 q = none) → b ≠ q := fun b hb q hq e => by
      obtain ⟨o, ho⟩ := hX b hb
      by_cases es : b = s0
      · obtain ⟨i1, i2, i3, i4, e4⟩ := hS.2
        obtain ⟨j1, j2, j3, j4, k4⟩ := sc3.2
        obtain ⟨l1, l2, l3, l4, m4⟩ := sc6.2
        rw [← e, es] at hq
        rcases hq with y | y | y
        · rw [e4] at y; cases y
        · rw [k4] at y; cases y
        · rw [m4] at y; cases y
      · have nb : ¬ b ∈ [s0] := by simpa using es
        have h3 := (Frm.drop hD (Frm.refl _ _) fds) _ _ nb ho
        have h6 := f6 _ _ nb ((Frm.drop hR (Frm.refl _ _) frs) _ _ nb h3)
        rw [← e] at hq
        rcases hq with y | y | y
        · rw [ho] at y; cases y
        · rw [h3] at y; cases y
        · rw [h6] at y; cases y
    have nin : ∀ q, q ≠ s0 → (H q = none ∨ H3 q = none ∨ H6 q = none) → ¬ q ∈ s0 :: X := fun q n hq m => by
      rcases List.mem_cons.mp m with y | y
      · exact n y
      · exact nX q y q hq rfl
    have nzs : z ≠ s0 := fun e => by
      obtain ⟨l1, l2, l3, l4, m4⟩ := sc6.2
      rw [e, m4] at hz; cases hz
    refine k (.ref z) _ (ds, rs, fl) ⟨z, D, R, rfl, ?_, ?_, ?_⟩ ⟨by show 1 ≤ ds.length; omega, by show ds.length ≤ 4; omega, by show rs.length = ds.length; omega, hbds, hbrs, by show 0 ≤ fl; omega, by show fl ≤ 8; omega, by decide, by decide⟩ (by show (ds.length : Int) = many; omega) fA (sc6.same sz)
    · rw [hid_eq (nin z nzs (.inr (.inr hz)))]; exact upd_same
    · rw [hid_eq (nin D nDs (.inl hD))]; exact sz _ _ gD
    · rw [hid_eq (nin R nRs (.inr (.inl hR)))]; exact sz _ _ gR

theorem ok_law_made {f : Addr} {fd : FuncData} (F : Fun K "_law_made" "_law_made" s_law_made f fd) (T : Txt K mg) {C_BadNumber f_BadNumber cda_BadNumber cc_BadNumber : Addr} {fd_BadNumber : FuncData} (E_BadNumber : ErrC P K mg "BadNumber" "BadNumber.__init__" C_BadNumber f_BadNumber cda_BadNumber cc_BadNumber) (G_BadNumber : FnOk P w K mg base CX0 2 f_BadNumber fd_BadNumber PBadNumber___init__ (spBadNumber C_BadNumber)) (b_BadNumber : Binds K fd_BadNumber PBadNumber___init__ []) {C_Day C_Weather fwi fwe : Addr} (D_Weather : DatC K mg "Weather" C_Weather fwi fwe ["moods", "width"]) (R_Weather : ClX.CRead K C_Weather (.type "type")) {pse fse : Addr} (S_Weather_seasons : SMet K C_Weather (.type "type") "seasons" pse fse) (GWeather_seasons : FnR P w K mg base (L2.CX P w) 9 fse (spStar 0 (spWeather_seasons C_Weather C_Day C_BadNumber))) : FnOk P w K mg base CX0 10 f fd P_law_made (sp_law_madeS C_Weather C_Day) := by
  refine F.ok sc_law_made (fun vs H Q E h => ?_) (fun cdv A outer s H vs Q E hr h => ?_)
  · obtain ⟨R, rs, M, w, rfl, eR, hrs, hlen, hw, hl5, kT, kE⟩ := h
    rfl
  · obtain ⟨R, rs, M, w, rfl, eR, hrs, hlen, hw, hl5, kT, kE⟩ := h
    refine ⟨_, (pss_one (ps_try_ass (i := 1) rfl rfl rfl sc_law_made.nd rfl rfl takes0 (fun W pn xe tk _ => (pss_cons (ps_if (pt_cmpR op_eq (pe_callB (r := rLenSeq K) call_len_seq (by rfl) T.b_len PySem.boot_len (pa_cons (pv 0) pa_nil)) pe_int (nomark _))
  (pss_one (ps_ret (pe_smethR0 (pe_glob (v := .ref C_Weather) rfl D_Weather.g rfl) R_Weather S_Weather_seasons GWeather_seasons (hr.mono (by decide)) (fun σ => passAt tk σ))))
  pss_nil)
  (pss_cons (ps_if (pt_cmpR op_eq (pe_callB (r := rLenSeq K) call_len_seq (by rfl) T.b_len PySem.boot_len (pa_cons (pv 0) pa_nil)) pe_int (nomark _))
  (pss_one (ps_ret (pe_smethR (pe_glob (v := .ref C_Weather) rfl D_Weather.g rfl) R_Weather S_Weather_seasons GWeather_seasons (hr.mono (by decide)) (fun σ => passAt tk σ) (pa_cons (pe_ix (r := rIxL K) ix_list (pv 0) pe_int (fun _ _ => rfl)) pa_nil))))
  pss_nil)
  (pss_cons (ps_if (pt_cmpR op_eq (pe_callB (r := rLenSeq K) call_len_seq (by rfl) T.b_len PySem.boot_len (pa_cons (pv 0) pa_nil)) pe_int (nomark _))
  (pss_one (ps_ret (pe_smethR (pe_glob (v := .ref C_Weather) rfl D_Weather.g rfl) R_Weather S_Weather_seasons GWeather_seasons (hr.mono (by decide)) (fun σ => passAt tk σ) (pa_cons (pe_ix (r := rIxL K) ix_list (pv 0) pe_int (fun _ _ => rfl)) (pa_cons (pe_ix (r := rIxL K) ix_list (pv 0) pe_int (fun _ _ => rfl)) pa_nil)))))
  pss_nil)
  (pss_cons (ps_if (pt_cmpR op_eq (pe_callB (r := rLenSeq K) call_len_seq (by rfl) T.b_len PySem.boot_len (pa_cons (pv 0) pa_nil)) pe_int (nomark _))
  (pss_one (ps_ret (pe_smethR (pe_glob (v := .ref C_Weather) rfl D_Weather.g rfl) R_Weather S_Weather_seasons GWeather_seasons (hr.mono (by decide)) (fun σ => passAt tk σ) (pa_cons (pe_ix (r := rIxL K) ix_list (pv 0) pe_int (fun _ _ => rfl)) (pa_cons (pe_ix (r := rIxL K) ix_list (pv 0) pe_int (fun _ _ => rfl)) (pa_cons (pe_ix (r := rIxL K) ix_list (pv 0) pe_int (fun _ _ => rfl)) pa_nil))))))
  pss_nil)
  (pss_cons (ps_if (pt_cmpR op_eq (pe_callB (r := rLenSeq K) call_len_seq (by rfl) T.b_len PySem.boot_len (pa_cons (pv 0) pa_nil)) pe_int (nomark _))
  (pss_one (ps_ret (pe_smethR (pe_glob (v := .ref C_Weather) rfl D_Weather.g rfl) R_Weather S_Weather_seasons GWeather_seasons (hr.mono (by decide)) (fun σ => passAt tk σ) (pa_cons (pe_ix (r := rIxL K) ix_list (pv 0) pe_int (fun _ _ => rfl)) (pa_cons (pe_ix (r := rIxL K) ix_list (pv 0) pe_int (fun _ _ => rfl)) (pa_cons (pe_ix (r := rIxL K) ix_list (pv 0) pe_int (fun _ _ => rfl)) (pa_cons (pe_ix (r := rIxL K) ix_list (pv 0) pe_int (fun _ _ => rfl)) pa_nil)))))))
  pss_nil)
  (pss_one (ps_ret (pe_smethR (pe_glob (v := .ref C_Weather) rfl D_Weather.g rfl) R_Weather S_Weather_seasons GWeather_seasons (hr.mono (by decide)) (fun σ => passAt tk σ) (pa_cons (pe_ix (r := rIxL K) ix_list (pv 0) pe_int (fun _ _ => rfl)) (pa_cons (pe_ix (r := rIxL K) ix_list (pv 0) pe_int (fun _ _ => rfl)) (pa_cons (pe_ix (r := rIxL K) ix_list (pv 0) pe_int (fun _ _ => rfl)) (pa_cons (pe_ix (r := rIxL K) ix_list (pv 0) pe_int (fun _ _ => rfl)) (pa_cons (pe_ix (r := rIxL K) ix_list (pv 0) pe_int (fun _ _ => rfl)) pa_nil)))))))))))))) (by exact (.cons ⟨rfl, by decide, Or.inl E_BadNumber.g⟩ (fun a oe cls d pn hz hf => (pss_one (ps_ret (pe_tup (pa_cons (pe_xf E_BadNumber.xf E_BadNumber.noWhat hz hf (pv 1)) (pa_cons (pe_xf E_BadNumber.xf E_BadNumber.noValue hz hf (pv 1)) pa_nil)))))) .nil)))), ?_⟩
    have hl := hrs.len
    rcases rs with _ | ⟨v0, _ | ⟨v1, _ | ⟨v2, _ | ⟨v3, _ | ⟨v4, _ | ⟨v5, rest⟩⟩⟩⟩⟩⟩
    · refine ⟨_, rfl, R, _, rfl, .inl (SqL.of eR), rfl, _, rfl, ite2 (fun _ => ?_) (fun z => absurd (by simp) z)⟩
      refine ⟨rfl, star0 (bigN (by show 0 ≤ _; decide)) fun p hp => ⟨p, _, M, w, rfl, upd_same, hrs.mono (repL_mono repRow_mono) (Same.new hp), hlen, hw, by omega, fun e x H2 s2 hx => ?_, fun tag v e d H2 nd2 s2 hd => ⟨true, E_BadNumber.exm, fun _ a na => ?_, fun q => by cases q⟩⟩⟩
      · exact kT e x H2 ((Same.new hp).trans s2) hx
      · refine ⟨_, rfl, rfl, rfl, d, _, _, rfl, hd, look_what, _, rfl, rfl, rfl, d, _, _, rfl, hd, look_val, two_le, fun q hq => ?_⟩
        exact kE tag v e q _ (((Same.new hp).trans s2).free hq) upd_same (((Same.new hp).trans s2).trans (Same.new hq))
    · refine ⟨_, rfl, R, _, rfl, .inl (SqL.of eR), rfl, _, rfl, ite2 (fun z => absurd z (by simp)) (fun _ => ?_)⟩
      refine ⟨_, rfl, R, _, rfl, .inl (SqL.of eR), rfl, _, rfl, ite2 (fun _ => ?_) (fun z => absurd (by simp) z)⟩
      refine ⟨rfl, _, rfl, R, _, _, _, rfl, rfl, SqL.of eR, rfl, star0 (bigN (by show 1 ≤ _; decide)) fun p hp => ⟨p, _, M, w, rfl, upd_same, hrs.mono (repL_mono repRow_mono) (Same.new hp), hlen, hw, by omega, fun e x H2 s2 hx => ?_, fun tag v e d H2 nd2 s2 hd => ⟨true, E_BadNumber.exm, fun _ a na => ?_, fun q => by cases q⟩⟩⟩
      · exact kT e x H2 ((Same.new hp).trans s2) hx
      · refine ⟨_, rfl, rfl, rfl, d, _, _, rfl, hd, look_what, _, rfl, rfl, rfl, d, _, _, rfl, hd, look_val, two_le, fun q hq => ?_⟩
        exact kE tag v e q _ (((Same.new hp).trans s2).free hq) upd_same (((Same.new hp).trans s2).trans (Same.new hq))
    · refine ⟨_, rfl, R, _, rfl, .inl (SqL.of eR), rfl, _, rfl, ite2 (fun z => absurd z (by simp)) (fun _ => ?_)⟩
      refine ⟨_, rfl, R, _, rfl, .inl (SqL.of eR), rfl, _, rfl, ite2 (fun z => absurd z (by simp)) (fun _ => ?_)⟩
      refine ⟨_, rfl, R, _, rfl, .inl (SqL.of eR), rfl, _, rfl, ite2 (fun _ => ?_) (fun z => absurd (by simp) z)⟩
      refine ⟨rfl, _, rfl, R, _, _, _, rfl, rfl, SqL.of eR, rfl, _, rfl, R, _, _, _, rfl, rfl, SqL.of eR, rfl, star0 (bigN (by show 2 ≤ _; decide)) fun p hp => ⟨p, _, M, w, rfl, upd_same, hrs.mono (repL_mono repRow_mono) (Same.new hp), hlen, hw, by omega, fun e x H2 s2 hx => ?_, fun tag v e d H2 nd2 s2 hd => ⟨true, E_BadNumber.exm, fun _ a na => ?_, fun q => by cases q⟩⟩⟩
      · exact kT e x H2 ((Same.new hp).trans s2) hx
      · refine ⟨_, rfl, rfl, rfl, d, _, _, rfl, hd, look_what, _, rfl, rfl, rfl, d, _, _, rfl, hd, look_val, two_le, fun q hq => ?_⟩
        exact kE tag v e q _ (((Same.new hp).trans s2).free hq) upd_same (((Same.new hp).trans s2).trans (Same.new hq))
    · refine ⟨_, rfl, R, _, rfl, .inl (SqL.of eR), rfl, _, rfl, ite2 (fun z => absurd z (by simp)) (fun _ => ?_)⟩
      refine ⟨_, rfl, R, _, rfl, .inl (SqL.of eR), rfl, _, rfl, ite2 (fun z => absurd z (by simp)) (fun _ => ?_)⟩
      refine ⟨_, rfl, R, _, rfl, .inl (SqL.of eR), rfl, _, rfl, ite2 (fun z => absurd z (by simp)) (fun _ => ?_)⟩
      refine ⟨_, rfl, R, _, rfl, .inl (SqL.of eR), rfl, _, rfl, ite2 (fun _ => ?_) (fun z => absurd (by simp) z)⟩
      refine ⟨rfl, _, rfl, R, _, _, _, rfl, rfl, SqL.of eR, rfl, _, rfl, R, _, _, _, rfl, rfl, SqL.of eR, rfl, _, rfl, R, _, _, _, rfl, rfl, SqL.of eR, rfl, star0 (bigN (by show 3 ≤ _; decide)) fun p hp => ⟨p, _, M, w, rfl, upd_same, hrs.mono (repL_mono repRow_mono) (Same.new hp), hlen, hw, by omega, fun e x H2 s2 hx => ?_, fun tag v e d H2 nd2 s2 hd => ⟨true, E_BadNumber.exm, fun _ a na => ?_, fun q => by cases q⟩⟩⟩
      · exact kT e x H2 ((Same.new hp).trans s2) hx
      · refine ⟨_, rfl, rfl, rfl, d, _, _, rfl, hd, look_what, _, rfl, rfl, rfl, d, _, _, rfl, hd, look_val, two_le, fun q hq => ?_⟩
        exact kE tag v e q _ (((Same.new hp).trans s2).free hq) upd_same (((Same.new hp).trans s2).trans (Same.new hq))
    · refine ⟨_, rfl, R, _, rfl, .inl (SqL.of eR), rfl, _, rfl, ite2 (fun z => absurd z (by simp)) (fun _ => ?_)⟩
      refine ⟨_, rfl, R, _, rfl, .inl (SqL.of eR), rfl, _, rfl, ite2 (fun z => absurd z (by simp)) (fun _ => ?_)⟩
      refine ⟨_, rfl, R, _, rfl, .inl (SqL.of eR), rfl, _, rfl, ite2 (fun z => absurd z (by simp)) (fun _ => ?_)⟩
      refine ⟨_, rfl, R, _, rfl, .inl (SqL.of eR), rfl, _, rfl, ite2 (fun z => absurd z (by simp)) (fun _ => ?_)⟩
      refine ⟨_, rfl, R, _, rfl, .inl (SqL.of eR), rfl, _, rfl, ite2 (fun _ => ?_) (fun z => absurd (by simp) z)⟩
      refine ⟨rfl, _, rfl, R, _, _, _, rfl, rfl, SqL.of eR, rfl, _, rfl, R, _, _, _, rfl, rfl, SqL.of eR, rfl, _, rfl, R, _, _, _, rfl, rfl, SqL.of eR, rfl, _, rfl, R, _, _, _, rfl, rfl, SqL.of eR, rfl, star0 (bigN (by show 4 ≤ _; decide)) fun p hp => ⟨p, _, M, w, rfl, upd_same, hrs.mono (repL_mono repRow_mono) (Same.new hp), hlen, hw, by omega, fun e x H2 s2 hx => ?_, fun tag v e d H2 nd2 s2 hd => ⟨true, E_BadNumber.exm, fun _ a na => ?_, fun q => by cases q⟩⟩⟩
      · exact kT e x H2 ((Same.new hp).trans s2) hx
      · refine ⟨_, rfl, rfl, rfl, d, _, _, rfl, hd, look_what, _, rfl, rfl, rfl, d, _, _, rfl, hd, look_val, two_le, fun q hq => ?_⟩
        exact kE tag v e q _ (((Same.new hp).trans s2).free hq) upd_same (((Same.new hp).trans s2).trans (Same.new hq))
    · refine ⟨_, rfl, R, _, rfl, .inl (SqL.of eR), rfl, _, rfl, ite2 (fun z => absurd z (by simp)) (fun _ => ?_)⟩
      refine ⟨_, rfl, R, _, rfl, .inl (SqL.of eR), rfl, _, rfl, ite2 (fun z => absurd z (by simp)) (fun _ => ?_)⟩
      refine ⟨_, rfl, R, _, rfl, .inl (SqL.of eR), rfl, _, rfl, ite2 (fun z => absurd z (by simp)) (fun _ => ?_)⟩
      refine ⟨_, rfl, R, _, rfl, .inl (SqL.of eR), rfl, _, rfl, ite2 (fun z => absurd z (by simp)) (fun _ => ?_)⟩
      refine ⟨_, rfl, R, _, rfl, .inl (SqL.of eR), rfl, _, rfl, ite2 (fun z => absurd z (by simp)) (fun _ => ?_)⟩
      refine ⟨rfl, _, rfl, R, _, _, _, rfl, rfl, SqL.of eR, rfl, _, rfl, R, _, _, _, rfl, rfl, SqL.of eR, rfl, _, rfl, R, _, _, _, rfl, rfl, SqL.of eR, rfl, _, rfl, R, _, _, _, rfl, rfl, SqL.of eR, rfl, _, rfl, R, _, _, _, rfl, rfl, SqL.of eR, rfl, star0 (bigN (by show 5 ≤ _; decide)) fun p hp => ⟨p, _, M, w, rfl, upd_same, hrs.mono (repL_mono repRow_mono) (Same.new hp), hlen, hw, by omega, fun e x H2 s2 hx => ?_, fun tag v e d H2 nd2 s2 hd => ⟨true, E_BadNumber.exm, fun _ a na => ?_, fun q => by cases q⟩⟩⟩
      · exact kT e x H2 ((Same.new hp).trans s2) hx
      · refine ⟨_, rfl, rfl, rfl, d, _, _, rfl, hd, look_what, _, rfl, rfl, rfl, d, _, _, rfl, hd, look_val, two_le, fun q hq => ?_⟩
        exact kE tag v e q _ (((Same.new hp).trans s2).free hq) upd_same (((Same.new hp).trans s2).trans (Same.new hq))
    · exact absurd hl (by simp only [List.length_cons]; omega)

theorem ok_law_steady {f : Addr} {fd : FuncData} (F : Fun K "_law_steady" "_law_steady" s_law_steady f fd) (T : Txt K mg) {C_BadNumber f_BadNumber cda_BadNumber cc_BadNumber : Addr} {fd_BadNumber : FuncData} (E_BadNumber : ErrC P K mg "BadNumber" "BadNumber.__init__" C_BadNumber f_BadNumber cda_BadNumber cc_BadNumber) (G_BadNumber : FnOk P w K mg base CX0 2 f_BadNumber fd_BadNumber PBadNumber___init__ (spBadNumber C_BadNumber)) (b_BadNumber : Binds K fd_BadNumber PBadNumber___init__ []) {C_Day C_Weather fwi fwe : Addr} (D_Weather : DatC K mg "Weather" C_Weather fwi fwe ["moods", "width"]) (R_Weather : ClX.CRead K C_Weather (.type "type")) {pst fst : Addr} {fdst : FuncData} (S_Weather_steady : SMet K C_Weather (.type "type") "steady" pst fst) (GWeather_steady : FnOk P w K mg base (L2.CX P w) 9 fst fdst PWeather_steady (spWeather_steady C_Weather C_Day C_BadNumber)) (bWeather_steady : Binds K fdst PWeather_steady []) : FnOk P w K mg base CX0 10 f fd P_law_steady (sp_law_steadyS C_Weather C_Day) := by
  refine F.ok sc_law_steady (fun vs H Q E h => ?_) (fun cdv A outer s H vs Q E hr h => ?_)
  · obtain ⟨x, d, rfl, hx, l1, l2, kT, kE⟩ := h
    rfl
  · obtain ⟨x, d, rfl, hx, l1, l2, kT, kE⟩ := h
    refine ⟨_, (pss_one (ps_try_ass (i := 1) rfl rfl rfl sc_law_steady.nd rfl rfl takes0 (fun W pn xe tk _ => (pss_one (ps_ret (pe_smeth (pe_glob (v := .ref C_Weather) rfl D_Weather.g rfl) R_Weather S_Weather_steady GWeather_steady (hr.mono (by decide)) bWeather_steady (fun σ => passAt tk σ) (pa_cons (pe_ix (r := rIxT K) ix_tup (pv 0) pe_int (fun _ _ => rfl)) (pa_cons (pe_ix (r := rIxT K) ix_tup (pv 0) pe_int (fun _ _ => rfl)) (pa_cons (pe_ix (r := rIxT K) ix_tup (pv 0) pe_int (fun _ _ => rfl)) pa_nil))))))) (by exact (.cons ⟨rfl, by decide, Or.inl E_BadNumber.g⟩ (fun a oe cls d pn hz hf => (pss_one (ps_ret (pe_tup (pa_cons (pe_xf E_BadNumber.xf E_BadNumber.noWhat hz hf (pv 1)) (pa_cons (pe_xf E_BadNumber.xf E_BadNumber.noValue hz hf (pv 1)) pa_nil)))))) .nil)))), ?_⟩
    obtain ⟨p, ea, eb, rfl, ep, e2, e3⟩ := hx
    refine ⟨rfl, _, rfl, p, _, _, _, rfl, rfl, SqT.of ep, rfl, _, rfl, p, _, _, _, rfl, rfl, SqT.of ep, rfl, _, rfl, p, _, _, _, rfl, rfl, SqT.of ep, rfl, ea, eb, d, rfl, e2, e3, l1, l2, fun hv x H2 s2 hx => ?_, fun tag v e d H2 nd2 s2 hd => ⟨true, E_BadNumber.exm, fun _ a na => ?_, fun q => by cases q⟩⟩
    · exact kT hv x H2 s2 hx
    · refine ⟨_, rfl, rfl, rfl, d, _, _, rfl, hd, look_what, _, rfl, rfl, rfl, d, _, _, rfl, hd, look_val, two_le, fun q hq => ?_⟩
      exact kE tag v e q _ (s2.free hq) upd_same (s2.trans (Same.new hq))
end
end Wb

namespace Wb
open PySem PySem.Spec PyProof.Rows L2 Wx StX NdefX RZ StX PyProof.Rows.FinIter
section
variable {P : Program} {w : World} {K : PySem.W.Frag} {mg : Str → Option Value} {base : Heap}
theorem ixN_m1 {n : Nat} (h : 0 < n) : ixN n (-1) = some (n - 1) := by
  unfold ixN
  rw [if_neg (by decide), if_pos (by omega)]
  congr 1
  omega
theorem atI_m1 {xs : List V} {v : V} (h : xs[xs.length - 1]? = some v) : atI xs (-1) = some v := by
  have hl : xs.length - 1 < xs.length := (List.getElem?_eq_some_iff.mp h).1
  unfold atI
  rw [ixN_m1 (by omega)]
  exact h
theorem cut_m1 {xs : List V} (h : 0 < xs.length) : cutV xs none (some (-1)) = xs.take (xs.length - 1) := by
  have e : ((-1 : Int) + (xs.length : Int)).toNat = xs.length - 1 := by omega
  show (xs.drop 0).take ((if (-1 : Int) < 0 then ((-1 : Int) + (xs.length : Int)).toNat else min (-1 : Int).toNat xs.length) - 0) = _
  rw [if_pos (by decide), e]
  rfl
theorem rep_flatV (n : Nat) (x : V) : (List.replicate n [x]).flatten = List.replicate n x := by
  induction n with
  | zero => rfl
  | succ n ih => rw [List.replicate_succ, List.flatten_cons, ih]; rfl
theorem rep_flatI (n : Nat) (x : Int) : (List.replicate n [V.int x]).flatten = (List.replicate n x).map V.int := by
  rw [rep_flatV, List.map_replicate]

theorem cut_to {xs : List V} {n : Nat} (h : n ≤ xs.length) : cutV xs none (some (n : Int)) = xs.take n := by
  show (xs.drop 0).take ((if ((n : Nat) : Int) < 0 then (((n : Nat) : Int) + (xs.length : Int)).toNat else min ((n : Nat) : Int).toNat xs.length) - 0) = _
  rw [if_neg (by omega), Int.toNat_natCast, Nat.min_eq_left h]
  rfl
theorem cut_from {xs : List V} {n : Nat} (h : n + 1 ≤ xs.length) : cutV xs (some ((n : Int) + 1)) none = xs.drop (n + 1) := by
  have e : ((n : Int) + 1).toNat = n + 1 := by omega
  show (xs.drop (if ((n : Int) + 1) < 0 then (((n : Int) + 1) + (xs.length : Int)).toNat else min ((n : Int) + 1).toNat xs.length)).take (xs.length - (if ((n : Int) + 1) < 0 then (((n : Int) + 1) + (xs.length : Int)).toNat else min ((n : Int) + 1).toNat xs.length)) = _
  rw [if_neg (by omega), e, Nat.min_eq_left h]
  exact List.take_of_length_le (by rw [List.length_drop]; exact Nat.le_refl _)
theorem Reps.flat {α : Type} {R : Rep α} {H : Hp} {xs : List V} {as : List α} (h : Reps R H xs as) : ∀ n, Reps R H (List.replicate n xs).flatten (List.replicate n as).flatten
  | 0 => trivial
  | n + 1 => by
    rw [List.replicate_succ, List.replicate_succ, List.flatten_cons, List.flatten_cons]
    exact Reps.app h (Reps.flat h n)
theorem flat_len {α : Type} (xs : List α) : ∀ n, (List.replicate n xs).flatten.length = n * xs.length
  | 0 => by simp
  | n + 1 => by rw [List.replicate_succ, List.flatten_cons, List.length_append, flat_len xs n, Nat.succ_mul, Nat.add_comm]
theorem flat_mem {α : Type} {xs : List α} {x : α} : ∀ {n : Nat}, x ∈ (List.replicate n xs).flatten → x ∈ xs
  | 0, h => by cases h
  | n + 1, h => by
    rw [List.replicate_succ, List.flatten_cons] at h
    rcases List.mem_append.mp h with z | z
    · exact z
    · exact flat_mem z
def OkAll (w : Int) (M : List (List RowD)) : Prop := OkLen w M ∧ ∀ r, r ∈ M → ∀ d, d ∈ r → VRow d
theorem OkAll.ref {w : Int} {M : List (List RowD)} (h : OkAll w M) : M.findSome? rowsRef = none := List.findSome?_eq_none_iff.mpr fun r hr => List.findSome?_eq_none_iff.mpr fun d hd => (h.2 r hr d hd).ref
def sp_law_refusalsS (K : PySem.W.Frag) : Sp := fun vs H Q _ => ∃ (a s R : Addr) (many : Int) (rs : List V) (M : List (List RowD)), vs = [.ref a, .ref s, .ref R, .int many] ∧ Scr K H a s ∧ H R = some (.lst rs) ∧ R ≠ s ∧ Reps (repL repRow) (hid [s, R] H) rs M ∧ OkAll many M ∧ 1 ≤ M.length ∧ M.length ≤ 4 ∧ 1 ≤ many ∧ many ≤ 3 ∧
  ∀ H', Frm [s, R] H H' → Q (.bl true) H'
theorem find_last {l : List Int} {n : Nat} {x : Int} (h : ∀ i, i ∈ l → 0 ≤ i ∧ i ≤ 8) (hx : 9 ≤ x) : ((l.take n ++ [x]).map V.int).find? bad8 = some (.int x) := by
  have h1 : ((l.take n).map V.int).find? bad8 = none := List.find?_eq_none.mpr fun y hy => by
    obtain ⟨i, hi, rfl⟩ := List.mem_map.mp hy
    have := h i (List.mem_of_mem_take hi)
    show ¬ (!decide (0 ≤ i ∧ i ≤ 8)) = true
    rw [decide_eq_true this]
    decide
  have h2 : bad8 (.int x) = true := by
    show (!decide (0 ≤ x ∧ x ≤ 8)) = true
    rw [decide_eq_false (by omega)]
    rfl
  rw [List.map_append, List.find?_append, h1]
  show [V.int x].find? bad8 = _
  rw [List.find?_cons, h2]
theorem VRow.n14 {d : RowD} (h : VRow d) {l : List Int} (e : l.length = d.1.length) : numB (.int (l.map V.int).length) 1 4 = true := by
  show decide _ = true
  rw [List.length_map, e]
  have := h.1
  have := h.2.1
  exact decide_eq_true (by omega)
theorem VRow.fok {l : List Int} (h : ∀ i, i ∈ l → 0 ≤ i ∧ i ≤ 8) : (l.map V.int).find? bad8 = none := find_ints h
theorem rowRef_dry {d : RowD} (h : VRow d) {x f : Int} {rs : List Int} (hx : 9 ≤ x) : rowRef (d.1.take (d.1.length - 1) ++ [x], rs, f) = some (("dry" : Str), V.int x) := by
  have hl : (d.1.take (d.1.length - 1) ++ [x]).length = d.1.length := by have := h.1; rw [List.length_append, List.length_take]; show min _ _ + 1 = _; omega
  exact dR_dry (h.n14 hl) (find_last h.2.2.2.1 hx)
theorem rowRef_rain {d : RowD} (h : VRow d) {x f : Int} (hx : 9 ≤ x) : rowRef (d.1, d.2.1.take (d.2.1.length - 1) ++ [x], f) = some (("rain" : Str), V.int x) := by
  have e := h.2.2.1
  have hl : (d.2.1.take (d.2.1.length - 1) ++ [x]).length = d.1.length := by have := h.1; rw [List.length_append, List.length_take]; show min _ _ + 1 = _; omega
  exact dR_rain (h.n14 rfl) (find_ints h.2.2.2.1) (by rw [List.length_map, List.length_map]; exact hl) (find_last h.2.2.2.2.1 hx)
theorem rowRef_fill {d : RowD} (h : VRow d) {x : Int} (hx : 9 ≤ x) : rowRef (d.1, d.2.1, x) = some (("fill" : Str), V.int x) :=
  dR_fill (h.n14 rfl) (find_ints h.2.2.2.1) (by rw [List.length_map, List.length_map]; exact h.2.2.1) (find_ints h.2.2.2.2.1) (decide_eq_false (by show ¬ (0 ≤ x ∧ x ≤ 8); omega))
theorem findSome_set {M : List (List RowD)} {i j : Nat} {r : List RowD} {d : RowD} {t : Str × V} (h0 : ∀ r, r ∈ M → ∀ d, d ∈ r → VRow d) (hM : M[i]? = some r) (hj : j < r.length) (hd : rowRef d = some t) : (M.set i (r.take j ++ [d] ++ r.drop (j + 1))).findSome? rowsRef = some t := by
  have hi : i < M.length := (List.getElem?_eq_some_iff.mp hM).1
  have lj : (r.take j).length = j := by rw [List.length_take]; omega
  refine findSome_at (i := i) (List.getElem?_set_self hi) ?_ ?_
  · rw [List.take_set_of_le (Nat.le_refl i)]
    exact List.findSome?_eq_none_iff.mpr fun q hq => List.findSome?_eq_none_iff.mpr fun e he => (h0 q (List.mem_of_mem_take hq) e he).ref
  · show List.findSome? rowRef _ = _
    rw [List.append_assoc, List.findSome?_append, List.findSome?_eq_none_iff.mpr fun e he => (h0 r (List.mem_of_getElem? hM) e (List.mem_of_mem_take he)).ref]
    show ([d] ++ r.drop (j + 1)).findSome? rowRef = _
    show (d :: r.drop (j + 1)).findSome? rowRef = _
    rw [List.findSome?_cons, hd]

theorem ok_law_refusals_hold {f : Addr} {fd : FuncData} (F : Fun K "_law_refusals_hold" "_law_refusals_hold" s_law_refusals_hold f fd) (T : Txt K mg) {C_Day C_Weather : Addr} (C_law_draw : Cal P w K mg base "_law_draw" P_law_draw 1 (sp_law_draw K)) (C_law_made : Cal P w K mg base "_law_made" P_law_made 10 (sp_law_madeS C_Weather C_Day)) (C_law_steady : Cal P w K mg base "_law_steady" P_law_steady 10 (sp_law_steadyS C_Weather C_Day)) : FnOk P w K mg base CX0 11 f fd P_law_refusals_hold (sp_law_refusalsS K) := by
  obtain ⟨g_law_draw, gd_law_draw, G_law_draw, m_law_draw, k_law_draw, b_law_draw⟩ := C_law_draw.ex
  obtain ⟨g_law_made, gd_law_made, G_law_made, m_law_made, k_law_made, b_law_made⟩ := C_law_made.ex
  obtain ⟨g_law_steady, gd_law_steady, G_law_steady, m_law_steady, k_law_steady, b_law_steady⟩ := C_law_steady.ex
  refine F.ok sc_law_refusals_hold (fun vs H Q E h => ?_) (fun cdv A outer s H vs Q E hr h => ?_)
  · obtain ⟨a, s0, R, many, rs, M, rfl, hS, eR, nRs, hrs, hok, hM1, hM4, hm1, hm3, k⟩ := h
    rfl
  · obtain ⟨a, s0, R, many, rs, M, rfl, hS, eR, nRs, hrs, hok, hM1, hM4, hm1, hm3, k⟩ := h
    refine ⟨_, (pss_cons (ps_set (i := 4) sc_law_refusals_hold.nd rfl (by first | exact Or.inl rfl | exact Or.inr rfl) (pe_call G_law_draw (hr.mono (by decide)) (by rfl) m_law_draw k_law_draw b_law_draw .nil pass0 (pa_cons (pv 0) (pa_cons (pv 1) (pa_cons (pe_callB call_len_seq (by rfl) T.b_len PySem.boot_len (pa_cons (pv 2) pa_nil)) pa_nil)))))
  (pss_cons (ps_set (i := 5) sc_law_refusals_hold.nd rfl (by first | exact Or.inl rfl | exact Or.inr rfl) (pe_call G_law_draw (hr.mono (by decide)) (by rfl) m_law_draw k_law_draw b_law_draw .nil pass0 (pa_cons (pv 0) (pa_cons (pv 1) (pa_cons (pe_callB call_len_seq (by rfl) T.b_len PySem.boot_len (pa_cons (pe_ix ix_list (pv 2) (pv 4) (fun _ _ => rfl)) pa_nil)) pa_nil)))))
  (pss_cons (ps_set (i := 6) sc_law_refusals_hold.nd rfl (by first | exact Or.inl rfl | exact Or.inr rfl) (pe_op op_add pe_int (pe_call G_law_draw (hr.mono (by decide)) (by rfl) m_law_draw k_law_draw b_law_draw .nil pass0 (pa_cons (pv 0) (pa_cons (pv 1) (pa_cons (pe_op op_pow pe_int pe_int) pa_nil))))))
  (pss_cons (ps_set (i := 7) sc_law_refusals_hold.nd rfl (by first | exact Or.inl rfl | exact Or.inr rfl) (pe_ix ix_list (pe_ix ix_list (pv 2) (pv 4) (fun _ _ => rfl)) (pv 5) (fun _ _ => rfl)))
  (pss_cons (ps_set (i := 8) sc_law_refusals_hold.nd rfl (by first | exact Or.inl rfl | exact Or.inr rfl) (pe_ix ix_list (pe_lst (pa_cons pe_str (pa_cons pe_str (pa_cons pe_str pa_nil)))) (pe_call G_law_draw (hr.mono (by decide)) (by rfl) m_law_draw k_law_draw b_law_draw .nil pass0 (pa_cons (pv 0) (pa_cons (pv 1) (pa_cons pe_int pa_nil)))) (fun _ _ => rfl)))
  (C8.pss_cut (ps_if (pt_cmpR op_eq (pv 8) pe_str (nomark _))
  (pss_one (ps_set (i := 7) sc_law_refusals_hold.nd rfl (by first | exact Or.inl rfl | exact Or.inr rfl) (pe_tup (pa_cons (pe_op op_cat (pe_slice sl_list (pe_ix ix_tup (pv 7) pe_int (fun _ _ => rfl)) po_none (po_some (pe_un un_neg pe_int))) (pe_lst (pa_cons (pv 6) pa_nil))) (pa_cons (pe_op op_rep (pe_lst (pa_cons pe_int pa_nil)) (pv 3)) (pa_cons pe_int pa_nil))))))
  (pss_one (ps_if (pt_cmpR op_eq (pv 8) pe_str (nomark _))
  (pss_one (ps_set (i := 7) sc_law_refusals_hold.nd rfl (by first | exact Or.inl rfl | exact Or.inr rfl) (pe_tup (pa_cons (pe_ix ix_tup (pv 7) pe_int (fun _ _ => rfl)) (pa_cons (pe_op op_cat (pe_slice sl_list (pe_ix ix_tup (pv 7) pe_int (fun _ _ => rfl)) po_none (po_some (pe_un un_neg pe_int))) (pe_lst (pa_cons (pv 6) pa_nil))) (pa_cons pe_int pa_nil))))))
  (pss_one (ps_set (i := 7) sc_law_refusals_hold.nd rfl (by first | exact Or.inl rfl | exact Or.inr rfl) (pe_tup (pa_cons (pe_ix ix_tup (pv 7) pe_int (fun _ _ => rfl)) (pa_cons (pe_ix ix_tup (pv 7) pe_int (fun _ _ => rfl)) (pa_cons (pv 6) pa_nil)))))))))
  (pss_cons (ps_asg (pe_op op_cat (pe_op op_cat (pe_slice sl_list (pe_ix ix_list (pv 2) (pv 4) (fun _ _ => rfl)) po_none (po_some (pv 5))) (pe_lst (pa_cons (pv 7) pa_nil))) (pe_slice sl_list (pe_ix ix_list (pv 2) (pv 4) (fun _ _ => rfl)) (po_some (pe_op op_add (pv 5) pe_int)) po_none)) (pg_sub (pv 2) (pv 4) set_list))
  (pss_cons (ps_if (PW.pt (pw_or (pt_cmpR (op_neD hr.units) (pe_call G_law_made (hr.mono (by decide)) (by rfl) m_law_made k_law_made b_law_made .nil pass0 (pa_cons (pv 2) pa_nil)) (pe_tup (pa_cons (pv 8) (pa_cons (pv 6) pa_nil))) (nomark _)) (pw_or1 (pt_cmpR (op_neD hr.units) (pe_call G_law_steady (hr.mono (by decide)) (by rfl) m_law_steady k_law_steady b_law_steady .nil pass0 (pa_cons (pv 7) pa_nil)) (pe_tup (pa_cons (pv 8) (pa_cons (pv 6) pa_nil))) (nomark _)))))
  (pss_one (ps_ret pe_bl))
  pss_nil)
  (pss_one (ps_ret (pe_and (pe_cmpR (op_eqD hr.units) (pe_call G_law_made (hr.mono (by decide)) (by rfl) m_law_made k_law_made b_law_made .nil pass0 (pa_cons (pe_slice sl_list (pe_op op_rep (pv 2) pe_int) po_none (po_some pe_int)) pa_nil)) (pe_tup (pa_cons pe_str (pa_cons pe_int pa_nil))) (nomark _)) (pe_one (pe_cmpR (op_eqD hr.units) (pe_call G_law_made (hr.mono (by decide)) (by rfl) m_law_made k_law_made b_law_made .nil pass0 (pa_cons (pe_lst pa_nil) pa_nil)) (pe_tup (pa_cons pe_str (pa_cons pe_int pa_nil))) (nomark _)))))))))))))), ?_⟩
    have hlr := hrs.len
    obtain ⟨hlen, hvr⟩ := id hok
    refine ⟨_, rfl, _, rfl, _, rfl, R, _, rfl, .inl (SqL.of eR), a, s0, _, rfl, hS, by omega, by omega, fun i_ H1 i0 i1 f1 sc1 => ?_⟩
    obtain ⟨i, rfl⟩ : ∃ i : Nat, i_ = (i : Int) := ⟨i_.toNat, by omega⟩
    have nR : ¬ R ∈ [s0] := by simpa using nRs
    have l1 : Frm [s0, R] H H1 := f1.mono (fun b hb => by rw [List.mem_singleton.mp hb]; exact List.mem_cons_self)
    have hrs1 := hrs.mono (repL_mono repRow_mono) (hid_frm l1)
    have eR1 := f1 _ _ nR eR
    obtain ⟨r, hM⟩ : ∃ r, M[i]? = some r := ⟨_, List.getElem?_eq_getElem (by omega)⟩
    have hrm := List.mem_of_getElem? hM
    obtain ⟨r1, r6, rw_⟩ := hlen r hrm
    obtain ⟨xq, hxq, q, qs, rfl, eq1, hq1⟩ := hrs1.at' hM
    have eq1 := hid_same _ _ _ _ eq1
    have lq := hq1.len
    have aR : atI rs (i : Int) = some (.ref q) := atI_nat hxq
    refine ⟨_, rfl, _, rfl, _, rfl, _, rfl, R, _, _, _, rfl, rfl, SqL.of eR1, aR, q, _, rfl, .inl (SqL.of eq1), a, s0, _, rfl, sc1, by omega, by omega, fun j_ H2 j0 j1 f2 sc2 => ?_⟩
    obtain ⟨j, rfl⟩ : ∃ j : Nat, j_ = (j : Int) := ⟨j_.toNat, by omega⟩
    refine ⟨_, rfl, _, rfl, _, _, rfl, rfl, ⟨by decide, by decide, by decide⟩, a, s0, _, rfl, sc2, by decide, by decide, fun dw H3 dw0 dw1 f3 sc3 => ⟨_, _, rfl, rfl, ?_⟩⟩
    have f13 := f2.trans f3
    have l13 : Frm [s0, R] H1 H3 := f13.mono (fun b hb => by rw [List.mem_singleton.mp hb]; exact List.mem_cons_self)
    have hrs3 := hrs1.mono (repL_mono repRow_mono) (hid_frm l13)
    have eR3 := f13 _ _ nR eR1
    obtain ⟨xq3, hxq3, q3, qs3, rfl, eq3h, hq3h⟩ := hrs3.at' hM
    rw [hxq] at hxq3
    cases hxq3
    have eq3 := hid_same _ _ _ _ eq3h
    have lq3 := hq3h.len
    obtain ⟨d, hrd⟩ : ∃ d, r[j]? = some d := ⟨_, List.getElem?_eq_getElem (by omega)⟩
    have hdm := List.mem_of_getElem? hrd
    have hv := hvr r hrm d hdm
    obtain ⟨dl1, dl2⟩ := rw_ d hdm
    obtain ⟨xp, hxp, p, ea, eb, rfl, ep, e2, e3⟩ := hq3h.at' hrd
    have aq : atI qs3 (j : Int) = some (.ref p) := atI_nat hxp
    refine ⟨_, rfl, _, rfl, R, _, _, _, rfl, rfl, SqL.of eR3, aR, _, rfl, q, _, _, _, rfl, rfl, SqL.of eq3, aq, ?_⟩
    refine ⟨bigN (by show 3 ≤ _; decide), fun lw hlw => ?_⟩
    have sw := Same.new (o := .lst [.str "dry", .str "rain", .str "fill"]) hlw
    have glw : (upd H3 lw (.lst [.str "dry", .str "rain", .str "fill"])) lw = some (.lst [.str "dry", .str "rain", .str "fill"]) := upd_same
    generalize (upd H3 lw (.lst [.str "dry", .str "rain", .str "fill"])) = H4 at sw glw ⊢
    refine ⟨_, rfl, _, rfl, a, s0, 3, rfl, sc3.same sw, by decide, by decide, fun c H5 c0 c1 f5 sc5 => ?_⟩
    have nlw : ¬ lw ∈ [s0] := by simpa using sc3.ne hlw
    have l35 : Frm [s0, R] H3 H5 := ((Frm.of_same sw).trans f5).mono (fun b hb => by rw [List.mem_singleton.mp hb]; exact List.mem_cons_self)
    have ep := hid_same _ _ _ _ (hid_frm l35 _ _ ep)
    have e2h := hid_frm l35 _ _ e2
    have e3h := hid_frm l35 _ _ e3
    have e2 := hid_same _ _ _ _ e2h
    have e3 := hid_same _ _ _ _ e3h
    have eR5 := f5 _ _ nR (sw _ _ eR3)
    have nin : ∀ b, H5 b = none → ¬ b ∈ [s0, R] := fun b hb m => by
      rcases List.mem_cons.mp m with z | z
      · obtain ⟨w1, w2, w3, w4, w5⟩ := sc5.2
        rw [z, w5] at hb; cases hb
      · rw [List.mem_singleton.mp z, eR5] at hb; cases hb
    have hrs5 := hrs3.mono (repL_mono repRow_mono) (hid_frm l35)
    have f15 := f13.trans ((Frm.of_same sw).trans f5)
    obtain ⟨tag, ht, htag⟩ : ∃ tag : Str, atI [V.str "dry", V.str "rain", V.str "fill"] c = some (V.str tag) ∧ (tag = ("dry" : Str) ∨ tag = ("rain" : Str) ∨ tag = ("fill" : Str)) := by
      have : c = 0 ∨ c = 1 ∨ c = 2 := by omega
      rcases this with rfl | rfl | rfl
      · exact ⟨_, rfl, .inl rfl⟩
      · exact ⟨_, rfl, .inr (.inl rfl)⟩
      · exact ⟨_, rfl, .inr (.inr rfl)⟩
    have hv1 := hv.1
    have hv2 := hv.2.1
    refine ⟨lw, _, _, _, rfl, rfl, SqL.of (f5 _ _ nlw glw), ht, ?_⟩
    refine ⟨fun σ H6 => ∃ (y : V) (d' : RowD), σ = [some (.ref a), some (.ref s0), some (.ref R), some (.int many), some (.int (i : Nat)), some (.int (j : Nat)), some (.int (9 + dw)), some y, some (.str tag)] ∧ repRow y (hid [s0, R] H6) d' ∧ rowRef d' = some (tag, .int (9 + dw)) ∧ d'.1.length = d.1.length ∧ d'.2.1.length = d.1.length ∧ Same H5 H6, ?_, ?_⟩
    · rcases htag with rfl | rfl | rfl
      · refine ⟨_, rfl, rfl, _, rfl, ite2 (fun _ => ?_) (fun z => absurd (by decide) z)⟩
        refine ⟨_, rfl, p, _, _, _, rfl, rfl, SqT.of ep, rfl, _, rfl, _, rfl, ea, _, rfl, SqL.of e2, fun x5 hx5 => ?_⟩
        rw [cut_m1 (by rw [List.length_map]; omega)]
        have t1 := Same.new (o := .lst ((d.1.map V.int).take ((d.1.map V.int).length - 1))) hx5
        refine ⟨_, rfl, bigN (by show 1 ≤ _; decide), fun u1 hu1 => ⟨x5, u1, _, _, rfl, rfl, (Same.new hu1) _ _ upd_same, upd_same, bigN (by rw [List.length_take, List.length_map]; show _ + 1 ≤ _; omega), fun v1 hv1' => ?_⟩⟩
        have nv1 := nin v1 ((t1.trans (Same.new hu1)).free hv1')
        have t2 := (t1.trans (Same.new (o := .lst [.int (9 + dw)]) hu1)).trans (Same.new (o := .lst ((d.1.map V.int).take ((d.1.map V.int).length - 1) ++ [.int (9 + dw)])) hv1')
        have g1 : (upd (upd (upd H5 x5 (.lst ((d.1.map V.int).take ((d.1.map V.int).length - 1)))) u1 (.lst [.int (9 + dw)])) v1 (.lst ((d.1.map V.int).take ((d.1.map V.int).length - 1) ++ [.int (9 + dw)]))) v1 = some (.lst ((d.1.take (d.1.length - 1) ++ [9 + dw]).map V.int)) := by
          rw [upd_same, List.map_append, List.map_take, List.length_map]
          rfl
        generalize (upd (upd (upd H5 x5 (.lst ((d.1.map V.int).take ((d.1.map V.int).length - 1)))) u1 (.lst [.int (9 + dw)])) v1 (.lst ((d.1.map V.int).take ((d.1.map V.int).length - 1) ++ [.int (9 + dw)]))) = H6 at t2 g1 ⊢
        refine ⟨bigN (by show 1 ≤ _; decide), fun z1 hz1 => ⟨_, rfl, z1, _, _, rfl, rfl, upd_same, by omega, by omega, bigN (by show 1 * _ ≤ _; omega), fun y1 hy1 => ⟨three_le, fun q1 hq1 => ?_⟩⟩⟩
        have t3 := (Same.new (o := .lst [.int 9]) hz1).trans (Same.new (o := .lst (List.replicate many.toNat [V.int 9]).flatten) hy1)
        have t4 := Same.new (o := .tup [.ref v1, .ref y1, .int 9]) hq1
        refine ⟨.ref q1, (d.1.take (d.1.length - 1) ++ [9 + dw], List.replicate many.toNat 9, 9), rfl, ⟨q1, v1, y1, rfl, by rw [hid_eq (nin q1 ((t2.trans t3).free hq1))]; exact upd_same, by rw [hid_eq nv1]; exact t4 _ _ (t3 _ _ g1), by rw [hid_eq (nin y1 ((t2.trans (Same.new hz1)).free hy1))]; exact t4 _ _ (by rw [upd_same, rep_flatI])⟩, rowRef_dry hv (by omega), ?_, ?_, (t2.trans t3).trans t4⟩
        · show (d.1.take (d.1.length - 1) ++ [9 + dw]).length = _
          rw [List.length_append, List.length_take]
          show min _ _ + 1 = _
          omega
        · show (List.replicate many.toNat (9 : Int)).length = _
          rw [List.length_replicate]
          omega
      · refine ⟨_, rfl, rfl, _, rfl, ite2 (fun z => absurd z (by decide)) (fun _ => ?_)⟩
        refine ⟨_, rfl, rfl, _, rfl, ite2 (fun _ => ?_) (fun z => absurd (by decide) z)⟩
        refine ⟨_, rfl, p, _, _, _, rfl, rfl, SqT.of ep, rfl, _, rfl, p, _, _, _, rfl, rfl, SqT.of ep, rfl, _, rfl, _, rfl, eb, _, rfl, SqL.of e3, fun x5 hx5 => ?_⟩
        rw [cut_m1 (by rw [List.length_map]; omega)]
        have t1 := Same.new (o := .lst ((d.2.1.map V.int).take ((d.2.1.map V.int).length - 1))) hx5
        refine ⟨_, rfl, bigN (by show 1 ≤ _; decide), fun u1 hu1 => ⟨x5, u1, _, _, rfl, rfl, (Same.new hu1) _ _ upd_same, upd_same, bigN (by rw [List.length_take, List.length_map]; show _ + 1 ≤ _; omega), fun v1 hv1' => ⟨three_le, fun q1 hq1 => ?_⟩⟩⟩
        have nv1 := nin v1 ((t1.trans (Same.new hu1)).free hv1')
        have t2 := (t1.trans (Same.new (o := .lst [.int (9 + dw)]) hu1)).trans (Same.new (o := .lst ((d.2.1.map V.int).take ((d.2.1.map V.int).length - 1) ++ [.int (9 + dw)])) hv1')
        have g1 : (upd (upd (upd H5 x5 (.lst ((d.2.1.map V.int).take ((d.2.1.map V.int).length - 1)))) u1 (.lst [.int (9 + dw)])) v1 (.lst ((d.2.1.map V.int).take ((d.2.1.map V.int).length - 1) ++ [.int (9 + dw)]))) v1 = some (.lst ((d.2.1.take (d.2.1.length - 1) ++ [9 + dw]).map V.int)) := by
          rw [upd_same, List.map_append, List.map_take, List.length_map]
          rfl
        generalize (upd (upd (upd H5 x5 (.lst ((d.2.1.map V.int).take ((d.2.1.map V.int).length - 1)))) u1 (.lst [.int (9 + dw)])) v1 (.lst ((d.2.1.map V.int).take ((d.2.1.map V.int).length - 1) ++ [.int (9 + dw)]))) = H6 at t2 g1 hq1 ⊢
        have t4 := Same.new (o := .tup [.ref ea, .ref v1, .int 9]) hq1
        refine ⟨.ref q1, (d.1, d.2.1.take (d.2.1.length - 1) ++ [9 + dw], 9), rfl, ⟨q1, ea, v1, rfl, by rw [hid_eq (nin q1 (t2.free hq1))]; exact upd_same, hid_frm (Frm.of_same (t2.trans t4)) _ _ e2h, by rw [hid_eq nv1]; exact t4 _ _ g1⟩, rowRef_rain hv (by omega), rfl, ?_, t2.trans t4⟩
        show (d.2.1.take (d.2.1.length - 1) ++ [9 + dw]).length = _
        rw [List.length_append, List.length_take]
        show min _ _ + 1 = _
        omega
      · refine ⟨_, rfl, rfl, _, rfl, ite2 (fun z => absurd z (by decide)) (fun _ => ?_)⟩
        refine ⟨_, rfl, rfl, _, rfl, ite2 (fun z => absurd z (by decide)) (fun _ => ?_)⟩
        refine ⟨_, rfl, p, _, _, _, rfl, rfl, SqT.of ep, rfl, _, rfl, p, _, _, _, rfl, rfl, SqT.of ep, rfl, _, rfl, three_le, fun q1 hq1 => ?_⟩
        have t4 := Same.new (o := .tup [.ref ea, .ref eb, .int (9 + dw)]) hq1
        exact ⟨.ref q1, (d.1, d.2.1, 9 + dw), rfl, ⟨q1, ea, eb, rfl, by rw [hid_eq (nin q1 hq1)]; exact upd_same, hid_frm (Frm.of_same t4) _ _ e2h, hid_frm (Frm.of_same t4) _ _ e3h⟩, rowRef_fill hv (by omega), rfl, dl2, t4⟩
    rintro σ H6 ⟨y, d', rfl, hy, hrf, hd1, hd2, s6⟩
    have hokt : PyData.strOk tag = true := by rcases htag with rfl | rfl | rfl <;> decide +kernel
    clear htag ht glw e2h e3h ep e2 e3 l35 l13 hrs3 hrs1 hq1 hq3h
    have hj : j < r.length := (List.getElem?_eq_some_iff.mp hrd).1
    have hi : i < M.length := (List.getElem?_eq_some_iff.mp hM).1
    have eR6 := s6 _ _ eR5
    have hrs6 := hrs5.mono (repL_mono repRow_mono) (hid_frm (Frm.of_same s6))
    obtain ⟨xq6, hxq6, q6, qs6, rfl, eq6h, hq6⟩ := hrs6.at' hM
    rw [hxq] at hxq6
    cases hxq6
    have eq6 := hid_same _ _ _ _ eq6h
    have lq6 := hq6.len
    refine ⟨_, rfl, _, rfl, R, _, _, _, rfl, rfl, SqL.of eR6, aR, _, rfl, _, rfl, q, _, rfl, SqL.of eq6, fun x1 hx1 => ?_⟩
    rw [cut_to (by omega)]
    refine ⟨_, rfl, bigN (by show 1 ≤ _; decide), fun u1 hu1 => ⟨x1, u1, _, _, rfl, rfl, (Same.new hu1) _ _ upd_same, upd_same, bigN (by rw [List.length_take]; show _ + 1 ≤ _; omega), fun v1 hv1' => ?_⟩⟩
    have t1 := ((Same.new (o := .lst (qs6.take j)) hx1).trans (Same.new (o := .lst [y]) hu1)).trans (Same.new (o := .lst (qs6.take j ++ [y])) hv1')
    have g1 : (upd (upd (upd H6 x1 (.lst (qs6.take j))) u1 (.lst [y])) v1 (.lst (qs6.take j ++ [y]))) v1 = some (.lst (qs6.take j ++ [y])) := upd_same
    generalize (upd (upd (upd H6 x1 (.lst (qs6.take j))) u1 (.lst [y])) v1 (.lst (qs6.take j ++ [y]))) = H7 at t1 g1 ⊢
    refine ⟨_, rfl, _, rfl, R, _, _, _, rfl, rfl, SqL.of (t1 _ _ eR6), aR, _, rfl, _, _, rfl, rfl, _, rfl, q, _, rfl, SqL.of (t1 _ _ eq6), fun x2 hx2 => ?_⟩
    rw [cut_from (by omega)]
    refine ⟨v1, x2, _, _, rfl, rfl, (Same.new hx2) _ _ g1, upd_same, bigN (by rw [List.length_append, List.length_take, List.length_drop]; show _ + 1 + _ ≤ _; omega), fun v2 hv2 => ?_⟩
    have t2 := (t1.trans (Same.new (o := .lst (qs6.drop (j + 1))) hx2)).trans (Same.new (o := .lst (qs6.take j ++ [y] ++ qs6.drop (j + 1))) hv2)
    have g2 : (upd (upd H7 x2 (.lst (qs6.drop (j + 1)))) v2 (.lst (qs6.take j ++ [y] ++ qs6.drop (j + 1)))) v2 = some (.lst (qs6.take j ++ [y] ++ qs6.drop (j + 1))) := upd_same
    have nv2 : H5 v2 = none := (s6.trans (t1.trans (Same.new hx2))).free hv2
    generalize (upd (upd H7 x2 (.lst (qs6.drop (j + 1)))) v2 (.lst (qs6.take j ++ [y] ++ qs6.drop (j + 1)))) = H8 at t2 g2 ⊢
    have eR8 := t2 _ _ eR6
    refine ⟨_, rfl, _, rfl, R, _, _, i, rfl, rfl, eR8, by unfold ixN; rw [if_pos (by omega), if_pos (by omega)]; rfl, ?_⟩
    have l89 : Frm [s0, R] H8 (upd H8 R (.lst (rs.set i (.ref v2)))) := Frm.put (List.mem_cons_of_mem _ List.mem_cons_self)
    have eR9 : (upd H8 R (.lst (rs.set i (.ref v2)))) R = some (.lst (rs.set i (.ref v2))) := upd_same
    have hrs9 : Reps (repL repRow) (upd H8 R (.lst (rs.set i (.ref v2)))) (rs.set i (.ref v2)) (M.set i (r.take j ++ [d'] ++ r.drop (j + 1))) := by
      have b := hid_frm ((Frm.of_same t2 : Frm [s0, R] H6 H8).trans l89)
      have c : Same (hid [s0, R] (upd H8 R (.lst (rs.set i (.ref v2))))) (upd H8 R (.lst (rs.set i (.ref v2)))) := hid_same _ _
      have bc : Same (hid [s0, R] H6) (upd H8 R (.lst (rs.set i (.ref v2)))) := fun b' o e => c _ _ (b _ _ e)
      refine Reps.set i (hrs6.mono (repL_mono repRow_mono) bc) ⟨v2, _, rfl, by rw [upd_ne (fun z => nin v2 nv2 (by rw [z]; exact List.mem_cons_of_mem _ List.mem_cons_self))]; exact g2, ?_⟩
      have hqq := hq6.mono repRow_mono bc
      exact Reps.app (Reps.app (hqq.take j) (Reps.one (repRow_mono _ _ _ _ bc hy))) (hqq.drop (j + 1))
    have f69 : Frm [s0, R] H6 (upd H8 R (.lst (rs.set i (.ref v2)))) := (Frm.of_same t2).trans l89
    have hy9 : repRow y (upd H8 R (.lst (rs.set i (.ref v2)))) d' := repRow_mono _ _ _ _ (fun b' o e => hid_same _ _ _ _ (hid_frm f69 _ _ e)) hy
    generalize (upd H8 R (.lst (rs.set i (.ref v2)))) = H9 at l89 eR9 hrs9 f69 hy9 ⊢
    have eS : sRef (M.set i (r.take j ++ [d'] ++ r.drop (j + 1))) = some (tag, .int (9 + dw)) := by
      unfold sRef
      rw [if_pos (by rw [List.length_set]; exact ⟨hM1, hM4⟩)]
      exact findSome_set hvr hM hj hrf
    have hlen9 : OkLen many (M.set i (r.take j ++ [d'] ++ r.drop (j + 1))) := fun r' hr' => by
      rcases List.mem_or_eq_of_mem_set hr' with z | z
      · exact hlen r' z
      · rw [z]
        refine ⟨by rw [List.length_append, List.length_append, List.length_take, List.length_drop]; show 1 ≤ _ + 1 + _; omega, by rw [List.length_append, List.length_append, List.length_take, List.length_drop]; show min _ _ + 1 + _ ≤ 6; omega, fun e he => ?_⟩
        rcases List.mem_append.mp he with w | w
        · rcases List.mem_append.mp w with w | w
          · exact rw_ e (List.mem_of_mem_take w)
          · rw [List.mem_singleton.mp w]; exact ⟨by omega, by omega⟩
        · exact rw_ e (List.mem_of_mem_drop w)
    have hl9 : (M.set i (r.take j ++ [d'] ++ r.drop (j + 1))).length = M.length := List.length_set
    generalize (M.set i (r.take j ++ [d'] ++ r.drop (j + 1))) = N at hrs9 eS hlen9 hl9
    generalize rs.set i (.ref v2) = rs9 at eR9 hrs9
    refine ⟨_, rfl, R, rs9, N, many, rfl, eR9, hrs9, hlen9, by omega, by omega, fun e => (by rw [eS] at e; cases e), fun tg v e qa H10 nqa eqa s10 => ?_⟩
    rw [eS] at e
    cases e
    refine ⟨_, rfl, _, rfl, two_le, fun ra hra => ?_⟩
    have z1 := Same.new (o := .tup [.str tag, .int (9 + dw)]) hra
    obtain ⟨dd, ee, D1', D2', S1, S2, E⟩ := pair_eq (K := K) (H := upd H10 ra (.tup [.str tag, .int (9 + dw)])) (q := qa) (r := ra) (t := tag) (v := .int (9 + dw)) hokt (.int _) nofun (z1 _ _ eqa) upd_same
    refine ⟨dd, ee, D1', D2', S1, S2, _, rfl, ite2 (fun y => absurd y (by rw [E]; decide)) (fun _ => ?_)⟩
    generalize (upd H10 ra (.tup [.str tag, .int (9 + dw)])) = H11 at z1 ⊢
    have t11 := s10.trans z1
    refine ⟨_, rfl, y, d', rfl, repRow_mono _ _ _ _ t11 hy9, by omega, by omega, fun hv' => (by rw [hv'.ref] at hrf; cases hrf), fun tg v e qb H12 nqb eqb s12 => ?_⟩
    rw [hrf] at e
    cases e
    refine ⟨_, rfl, _, rfl, two_le, fun rb hrb => ?_⟩
    have z2 := Same.new (o := .tup [.str tag, .int (9 + dw)]) hrb
    obtain ⟨dd, ee, D1', D2', S1, S2, E⟩ := pair_eq (K := K) (H := upd H12 rb (.tup [.str tag, .int (9 + dw)])) (q := qb) (r := rb) (t := tag) (v := .int (9 + dw)) hokt (.int _) nofun (z2 _ _ eqb) upd_same
    refine ⟨dd, ee, D1', D2', S1, S2, _, rfl, ite2 (fun y => absurd y (by rw [E]; decide)) (fun _ => ?_)⟩
    generalize (upd H12 rb (.tup [.str tag, .int (9 + dw)])) = H13 at z2 ⊢
    have t13 := (t11.trans s12).trans z2
    have eR13 := t13 _ _ eR9
    have hrs13 := hrs9.mono (repL_mono repRow_mono) t13
    have lr9 := hrs9.len
    refine ⟨_, rfl, R, 5, _, rfl, rfl, eR13, by decide, by decide, bigN (by show _ * 5 ≤ _; omega), fun p5 hp5 => ⟨_, rfl, p5, _, rfl, SqL.of upd_same, fun p6 hp6 => ?_⟩⟩
    have c5 : cutV (List.replicate (Int.toNat 5) rs9).flatten none (some 5) = (List.replicate (Int.toNat 5) rs9).flatten.take 5 := cut_to (n := 5) (by rw [flat_len]; show 5 ≤ 5 * _; omega)
    rw [c5]
    have lN5 : ((List.replicate (Int.toNat 5) N).flatten.take 5).length = 5 := by rw [List.length_take, flat_len]; show min 5 (5 * _) = 5; omega
    have eS5 : sRef ((List.replicate (Int.toNat 5) N).flatten.take 5) = some (("moods" : Str), .int 5) := by
      unfold sRef
      rw [if_neg (by rw [lN5]; decide), lN5]
      rfl
    have t14 := (Same.new (o := .lst (List.replicate (Int.toNat 5) rs9).flatten) hp5).trans (Same.new (o := .lst ((List.replicate (Int.toNat 5) rs9).flatten.take 5)) (by rw [c5] at *; exact hp6))
    refine ⟨p6, _, (List.replicate (Int.toNat 5) N).flatten.take 5, many, rfl, upd_same, ((Reps.flat hrs13 _).take 5).mono (repL_mono repRow_mono) t14, fun r' hr' => hlen9 r' (flat_mem (List.mem_of_mem_take hr')), by omega, by omega, fun e => (by rw [eS5] at e; cases e), fun tg v e qc H14 nqc eqc s14 => ?_⟩
    rw [eS5] at e
    cases e
    refine ⟨two_le, fun rc hrc => ?_⟩
    have z3 := Same.new (o := .tup [.str "moods", .int 5]) hrc
    obtain ⟨dd, ee, D1', D2', S1, S2, E⟩ := pair_eq (K := K) (H := upd H14 rc (.tup [.str "moods", .int 5])) (q := qc) (r := rc) (t := "moods") (v := .int 5) (by decide +kernel) (.int _) nofun (z3 _ _ eqc) upd_same
    refine ⟨dd, ee, D1', D2', S1, S2, _, rfl, ite2 (fun _ => ?_) (fun z => absurd E z)⟩
    have eS0 : sRef [] = some (("moods" : Str), .int 0) := by
      unfold sRef
      rw [if_neg (by decide)]
      rfl
    refine ⟨bigN (by show 0 ≤ _; decide), fun p7 hp7 => ⟨p7, _, [], many, rfl, upd_same, trivial, (fun r h => by cases h), by omega, by decide, fun e => (by rw [eS0] at e; cases e), fun tg v e qd H15 nqd eqd s15 => ?_⟩⟩
    rw [eS0] at e
    cases e
    refine ⟨two_le, fun rd hrd' => ?_⟩
    have z4 := Same.new (o := .tup [.str "moods", .int 0]) hrd'
    obtain ⟨dd, ee, D1', D2', S1, S2, E⟩ := pair_eq (K := K) (H := upd H15 rd (.tup [.str "moods", .int 0])) (q := qd) (r := rd) (t := "moods") (v := .int 0) (by decide +kernel) (.int _) nofun (z4 _ _ eqd) upd_same
    refine ⟨dd, ee, D1', D2', S1, S2, ?_⟩
    rw [E]
    refine k _ ?_
    have fa : Frm [s0, R] H H5 := (f1.trans f15).mono (fun b hb => by rw [List.mem_singleton.mp hb]; exact List.mem_cons_self)
    exact ((fa.trans (Frm.of_same s6)).trans f69).trans (Frm.of_same ((((((t13.trans t14).trans s14).trans z3).trans (Same.new hp7)).trans s15).trans z4))
end
end Wb

namespace Wb
open PySem PySem.Spec PyProof.Rows L2 Wx StX NdefX RZ StX PyProof.Rows.FinIter
section
variable {P : Program} {w : World} {K : PySem.W.Frag} {mg : Str → Option Value} {base : Heap}

theorem one_le : (1 : Nat) ≤ sizeLine := by rw [sizeLine_eq]; show 1 ≤ 16777216; decide
theorem repDay_frm {C : Addr} {K : PySem.W.Frag} {H H' : Hp} {a s : Addr} (h : Scr K H a s) (f : Frm [s] H H') : ∀ x d, repDay C x H d → repDay C x H' d := repDay_keep fun b o e n _ => f b o (fun m => by rw [List.mem_singleton.mp m] at e; obtain ⟨xs, z⟩ := h.lstS _ e; exact n xs z) e
theorem WAt.frm {CW CD : Addr} {H H' : Hp} {X : List Addr} {p : Addr} {M : List (List DayD)} (x : WAt CW CD H p M) (f : Frm X H H') (nX : ∀ b, b ∈ X → ∀ o, H b = some o → ∃ l, o = .lst l) : WAt CW CD H' p M := by
  obtain ⟨dx, q, e1, e2⟩ := x
  have go : ∀ b o, H b = some o → (∀ xs, o ≠ .lst xs) → H' b = some o := fun b o e n => f b o (fun m => by obtain ⟨l, z⟩ := nX b m o e; exact n l z) e
  exact ⟨dx, q, go _ _ e1 (fun xs z => by cases z), repTT_keep (fun b o e n _ => go b o e n) _ _ e2⟩
def rowP (d : RowD) : PyData := .tuple [.list (d.1.map PyData.int), .list (d.2.1.map PyData.int), .int d.2.2]
def rowsP (r : List RowD) : PyData := .list (r.map rowP)
theorem row_dp {K : PySem.W.Frag} {H : Hp} {x : V} {d : RowD} (h : repRow x H d) : Dp K H x (rowP d) := by
  obtain ⟨p, a, b, rfl, e1, e2, e3⟩ := h
  exact .tup (SqT.of e1) (.cons (dp_intsL (SqL.of e2)) (.cons (dp_intsL (SqL.of e3)) (.cons (.int _) .nil)))
theorem dpAll_of {K : PySem.W.Frag} {H : Hp} {α : Type} {R : Rep α} {f : α → PyData} (h : ∀ x a, R x H a → Dp K H x (f a)) : ∀ {xs : List V} {as : List α}, Reps R H xs as → DpAll K H xs (as.map f)
  | [], [], _ => .nil
  | _ :: _, _ :: _, r => .cons (h _ _ r.1) (dpAll_of h r.2)
  | [], _ :: _, r => r.elim
  | _ :: _, [], r => r.elim
theorem rows_dp {K : PySem.W.Frag} {H : Hp} {x : V} {r : List RowD} (h : repL repRow x H r) : Dp K H x (rowsP r) := by
  obtain ⟨a, xs, rfl, e, hr⟩ := h
  exact .lst (SqL.of e) (dpAll_of (fun _ _ => row_dp) hr)
theorem all_dp {K : PySem.W.Frag} {H : Hp} {p : Addr} {vs : List V} {M : List (List RowD)} (e : H p = some (.lst vs)) (h : Reps (repL repRow) H vs M) : Dp K H (.ref p) (.list (M.map rowsP)) := .lst (SqL.of e) (dpAll_of (fun _ _ => rows_dp) h)
theorem lay_all {α : Type} {f : α → PyData} (h : ∀ a, (f a).canLay0 = true) : ∀ as : List α, PyData.canLayAll0 (as.map f) = true
  | [] => rfl
  | a :: as => by
    show (PyData.canLay0 (f a) && PyData.canLayAll0 (as.map f)) = true
    rw [h a, lay_all h as]
    rfl
theorem depth_all {α : Type} {f : α → PyData} {n : Nat} (h : ∀ a, (f a).depth ≤ n) : ∀ as : List α, PyData.depthAll (as.map f) ≤ n
  | [] => Nat.zero_le _
  | a :: as => by
    show max (PyData.depth (f a)) (PyData.depthAll (as.map f)) ≤ n
    exact Nat.max_le.mpr ⟨h a, depth_all h as⟩
theorem rowP_lay (d : RowD) : (rowP d).canLay0 = true := by
  unfold rowP
  simp only [PyData.canLay0, PyData.canLayAll0, lay_ints]
  rfl
theorem rowP_depth (d : RowD) : (rowP d).depth ≤ 3 := by
  have h1 := depth_ints d.1
  have h2 := depth_ints d.2.1
  unfold rowP
  simp only [PyData.depth, PyData.depthAll]
  omega
theorem rowsP_lay (r : List RowD) : (rowsP r).canLay0 = true := by
  unfold rowsP
  simp only [PyData.canLay0]
  exact lay_all rowP_lay r
theorem rowsP_depth (r : List RowD) : (rowsP r).depth ≤ 4 := by
  have := depth_all (n := 3) rowP_depth r
  unfold rowsP
  simp only [PyData.depth]
  omega
theorem all_shaped (M : List (List RowD)) : SeqAt.shaped (.list (M.map rowsP)) = true := by
  show (PyData.canLay0 (.list (M.map rowsP)) && decide (PyData.depth (.list (M.map rowsP)) ≤ 64)) = true
  have := depth_all (n := 4) rowsP_depth M
  rw [Bool.and_eq_true]
  refine ⟨?_, decide_eq_true ?_⟩
  · simp only [PyData.canLay0]
    exact lay_all rowsP_lay M
  · simp only [PyData.depth]
    omega
/-- rows of the law -/
def OkG (w : Int) (M : List (List RowD)) : Prop := ∀ r, r ∈ M → 1 ≤ r.length ∧ r.length ≤ 4 ∧ ∀ d : RowD, d ∈ r → VRow d ∧ (d.1.length : Int) = w
theorem OkG.all {w : Int} {M : List (List RowD)} (h : OkG w M) : OkAll w M :=
  ⟨fun r hr => ⟨(h r hr).1, Nat.le_trans (h r hr).2.1 (by decide), fun d hd => ⟨((h r hr).2.2 d hd).2, ((h r hr).2.2 d hd).1.2.2.1⟩⟩, fun r hr d hd => ((h r hr).2.2 d hd).1⟩

theorem oklaw {f : Addr} {fd : FuncData} (F : Fun K "law" "law" slaw f fd) (T : Txt K mg) {C_BadNumber C_Day C_Weather fi fe fwi fwe : Addr} (D_Day : DatC K mg "Day" C_Day fi fe ["dry", "rain", "fill", "mood"]) (D_Weather : DatC K mg "Weather" C_Weather fwi fwe ["moods", "width"]) {fdi : FuncData} (GDay___init__ : FnOk P w K mg base (L2.CX P w) 6 fi fdi PDay___init__ (spDay_init K C_Day C_BadNumber)) (bDay___init__ : Binds K fdi PDay___init__ []) (GWeather___init__ : FnR P w K mg base (L2.CX P w) 7 fwi (spStar 1 (spWeather_init K C_Weather C_Day C_BadNumber))) {fwl fwg : Addr} {fde fdwe fdwl fdwg : FuncData} (N_Weather : PySem.W.findIn K (.ref C_Weather) "__len__" = some (some (.ref fwl)) ∧ PySem.W.isFn K (.ref fwl) = true) (I_Weather : PySem.W.findIn K (.ref C_Weather) "__getitem__" = some (some (.ref fwg)) ∧ PySem.W.fnIn K fwg = true ∧ PySem.W.isFn K (.ref fwg) = true) (GDay___eq__ : FnOk P w K mg base CX0 1 fe fde PDay___eq__ (spDay_eq C_Day)) (bDay___eq__ : Binds K fde PDay___eq__ []) (GWeather___eq__ : FnOk P w K mg base CX0 4 fwe fdwe PWeather___eq__ (spWeather_eq C_Weather C_Day)) (bWeather___eq__ : Binds K fdwe PWeather___eq__ []) (GWeather___len__ : FnOk P w K mg base CX0 1 fwl fdwl PWeather___len__ (spWeather_len C_Weather C_Day)) (bWeather___len__ : Binds K fdwl PWeather___len__ []) (GWeather___getitem__ : FnOk P w K mg base (L2.CX P w) 5 fwg fdwg PWeather___getitem__ (spWeather_get C_Weather C_Day C_BadNumber)) (bWeather___getitem__ : Binds K fdwg PWeather___getitem__ []) (C_law_start : Cal P w K mg base "_law_start" P_law_start 1 (sp_law_start K)) (C_law_draw : Cal P w K mg base "_law_draw" P_law_draw 1 (sp_law_draw K)) (C_law_row : Cal P w K mg base "_law_row" P_law_row 2 (sp_law_rowS K)) (C_law_made : Cal P w K mg base "_law_made" P_law_made 10 (sp_law_madeS C_Weather C_Day)) (C_law_steady : Cal P w K mg base "_law_steady" P_law_steady 10 (sp_law_steadyS C_Weather C_Day)) (C_law_refusals_hold : Cal P w K mg base "_law_refusals_hold" P_law_refusals_hold 11 (sp_law_refusalsS K)) : FnOk P w K mg base CX0 12 f fd Plaw (splaw K) := by
  obtain ⟨g_law_start, gd_law_start, G_law_start, m_law_start, k_law_start, b_law_start⟩ := C_law_start.ex
  obtain ⟨g_law_draw, gd_law_draw, G_law_draw, m_law_draw, k_law_draw, b_law_draw⟩ := C_law_draw.ex
  obtain ⟨g_law_row, gd_law_row, G_law_row, m_law_row, k_law_row, b_law_row⟩ := C_law_row.ex
  obtain ⟨g_law_made, gd_law_made, G_law_made, m_law_made, k_law_made, b_law_made⟩ := C_law_made.ex
  obtain ⟨g_law_steady, gd_law_steady, G_law_steady, m_law_steady, k_law_steady, b_law_steady⟩ := C_law_steady.ex
  obtain ⟨g_law_refusals_hold, gd_law_refusals_hold, G_law_refusals_hold, m_law_refusals_hold, k_law_refusals_hold, b_law_refusals_hold⟩ := C_law_refusals_hold.ex
  refine F.ok sclaw (fun vs H Q E h => ?_) (fun cdv A outer s H vs Q E hr h => ?_)
  · obtain ⟨a, ns, rfl, hS, hlen, k⟩ := h
    rfl
  · obtain ⟨a, ns, rfl, hS, hlen, k⟩ := h
    refine ⟨_, (pss_cons (ps_set (i := 1) sclaw.nd rfl (by first | exact Or.inl rfl | exact Or.inr rfl) (pe_call G_law_start (hr.mono (by decide)) (by rfl) m_law_start k_law_start b_law_start .nil pass0 (pa_cons (pv 0) pa_nil)))
  (pss_cons (ps_set (i := 2) sclaw.nd rfl (by first | exact Or.inl rfl | exact Or.inr rfl) (pe_op op_add pe_int (pe_call G_law_draw (hr.mono (by decide)) (by rfl) m_law_draw k_law_draw b_law_draw .nil pass0 (pa_cons (pv 0) (pa_cons (pv 1) (pa_cons pe_int pa_nil))))))
  (pss_cons (ps_set (i := 3) sclaw.nd rfl (by first | exact Or.inl rfl | exact Or.inr rfl) (pe_lst pa_nil))
  (pss_cons (ps_for PassesOwn.never rfl (pi_range1 rfl T.b_range (pa_cons (pe_op op_add pe_int (pe_call G_law_draw (hr.mono (by decide)) (by rfl) m_law_draw k_law_draw b_law_draw .nil pass0 (pa_cons (pv 0) (pa_cons (pv 1) (pa_cons pe_int pa_nil))))) pa_nil)) (pg_name (i := 4) sclaw.nd rfl (by first | exact Or.inl rfl | exact Or.inr rfl))
  (pss_cons (ps_set (i := 5) sclaw.nd rfl (by first | exact Or.inl rfl | exact Or.inr rfl) (pe_op op_add pe_int (pe_call G_law_draw (hr.mono (by decide)) (by rfl) m_law_draw k_law_draw b_law_draw .nil pass0 (pa_cons (pv 0) (pa_cons (pv 1) (pa_cons pe_int pa_nil))))))
  (pss_one (ps_expr (pe_bm PySem.F.plainAttrs_list PySem.F.slot_list_append PySem.F.type_list_append mt_append (pv 3) (pa_cons (pe_lc (own := [("j", 13)]) rfl sclaw.nd (pi_range1 rfl T.b_range (pa_cons (pv 5) pa_nil)) (blkOk_by (own := [("j", 13)]) (N := Nlaw) (sc := defScope slaw) (by decide +kernel)) (fun _ _ _ _ _ => (pg_name (i := 13) sclaw.nd rfl (by first | exact Or.inl rfl | exact Or.inr rfl))) (fun _ _ _ _ _ => pts_nil) (fun _ _ _ _ _ => (pe_call G_law_row (hr.mono (by decide)) (by rfl) m_law_row k_law_row b_law_row .nil pass0 (pa_cons (pv 0) (pa_cons (pv 1) (pa_cons (pv 2) pa_nil)))))) pa_nil))))))
  (pss_cons (ps_setLc (i := 6) (own := [("season", 9)]) rfl sclaw.nd rfl rfl (sw_true rfl rfl rfl (by decide +kernel)) (pi_list (pv 3)) (blkOk_by (own := [("season", 9)]) (N := Nlaw) (sc := defScope slaw) (by decide +kernel)) (fun _ _ _ _ _ => (pg_name (i := 9) sclaw.nd rfl (by first | exact Or.inl rfl | exact Or.inr rfl))) (fun _ _ _ _ _ => pts_nil) (fun _ _ _ _ _ => (pe_callTy (T := "list") (r := rListOf K) call_list_of (by rfl) T.b_list (by decide +kernel) (pa_cons (pv 9) pa_nil))))
  (pss_cons (ps_set (i := 7) sclaw.nd rfl (by first | exact Or.inl rfl | exact Or.inr rfl) (pe_call G_law_made (hr.mono (by decide)) (by rfl) m_law_made k_law_made b_law_made .nil pass0 (pa_cons (pv 3) pa_nil)))
  (pss_cons (ps_if (PW.pt (pw_or (pt_cmpR (op_neD hr.units) (pv 3) (pv 6) (nomark _)) (pw_or (pt_not (pt_val (pe_callB (id := "isinstance") call_isi (by rfl) T.b_isinstance (by decide +kernel) (pa_cons (pv 7) (pa_cons (pe_glob (v := .ref C_Weather) rfl D_Weather.g rfl) pa_nil))))) (pw_or1 (pt_cmpR op_ne (pe_callB (call_lenOwn GWeather___len__ (hr.mono (by decide)) N_Weather.1 N_Weather.2 bWeather___len__ pass0) (by rfl) T.b_len PySem.boot_len (pa_cons (pv 7) pa_nil)) (pe_callB call_len_seq (by rfl) T.b_len PySem.boot_len (pa_cons (pv 3) pa_nil)) (nomark _))))))
  (pss_one (ps_ret pe_bl))
  pss_nil)
  (pss_cons (ps_for PassesOwn.never rfl (pi_enum (by rfl) T.b_enumerate (pa_cons (pv 3) pa_nil)) (pg_tup rfl (pgs_cons (pg_name (i := 8) sclaw.nd rfl (by first | exact Or.inl rfl | exact Or.inr rfl)) (pgs_cons (pg_name (i := 9) sclaw.nd rfl (by first | exact Or.inl rfl | exact Or.inr rfl)) pgs_nil)))
  (pss_cons (ps_set (i := 10) sclaw.nd rfl (by first | exact Or.inl rfl | exact Or.inr rfl) (pe_op op_modN (pe_callTy (T := "int") call_int1 (by rfl) T.b_int (by decide +kernel) (pa_cons (pe_op op_add (pv 8) pe_int) pa_nil)) (pe_callB call_len_seq (by rfl) T.b_len PySem.boot_len (pa_cons (pv 3) pa_nil))))
  (pss_one (ps_if (pt_cmpR (op_neR (rc_L (.inr ⟨rfl, rfl⟩) repDay_mono (eqR_Day GDay___eq__ D_Day.eq D_Day.fe bDay___eq__)) (hr.mono (by decide))) (pe_callTy (T := "list") call_list_of (by rfl) T.b_list (by decide +kernel) (pa_cons (pe_ixOwn GWeather___getitem__ (hr.mono (by decide)) I_Weather.1 I_Weather.2.1 I_Weather.2.2 bWeather___getitem__ (fun σ => passAt takes0 σ) (pv 7) (pv 8)) pa_nil)) (pe_lc (own := [("row", 14)]) rfl sclaw.nd (pi_list (pv 9)) (blkOk_by (own := [("row", 14)]) (N := Nlaw) (sc := defScope slaw) (by decide +kernel)) (fun _ _ _ _ _ => (pg_name (i := 14) sclaw.nd rfl (by first | exact Or.inl rfl | exact Or.inr rfl))) (fun _ _ _ _ _ => pts_nil) (fun _ _ _ _ _ => (pe_makeS D_Day.mkk GDay___init__ (hr.mono (by decide)) (by rfl) D_Day.g bDay___init__ (fun σ => passNo σ) (pa_cons (pe_ix (r := rIxT K) ix_tup (pv 14) pe_int (fun _ _ => rfl)) (pa_cons (pe_ix (r := rIxT K) ix_tup (pv 14) pe_int (fun _ _ => rfl)) (pa_cons (pe_ix (r := rIxT K) ix_tup (pv 14) pe_int (fun _ _ => rfl)) (pa_cons (pv 10) pa_nil))))))) (nomark _))
  (pss_one (ps_ret pe_bl))
  pss_nil))))
  (pss_cons (ps_set (i := 11) sclaw.nd rfl (by first | exact Or.inl rfl | exact Or.inr rfl) (pe_ix ix_list (pe_ix ix_list (pv 3) pe_int (fun _ _ => rfl)) pe_int (fun _ _ => rfl)))
  (pss_cons (ps_set (i := 12) sclaw.nd rfl (by first | exact Or.inl rfl | exact Or.inr rfl) (pe_call G_law_steady (hr.mono (by decide)) (by rfl) m_law_steady k_law_steady b_law_steady .nil pass0 (pa_cons (pv 11) pa_nil)))
  (pss_cons (ps_if (PW.pt (pw_or (pt_not (pt_val (pe_callB (id := "isinstance") call_isi (by rfl) T.b_isinstance (by decide +kernel) (pa_cons (pv 12) (pa_cons (pe_glob (v := .ref C_Weather) rfl D_Weather.g rfl) pa_nil))))) (pw_or1 (pt_cmpR (op_neR (rc_T (.inr ⟨rfl, rfl⟩) (repT_mono repDay_mono) (eqR_T repDay_mono repDay_fn (eqR_Day GDay___eq__ D_Day.eq D_Day.fe bDay___eq__))) (hr.mono (by decide))) (pe_fld (pv 12) rfl) (pe_tup (pa_cons (pe_tup (pa_cons (pe_makeS D_Day.mkk GDay___init__ (hr.mono (by decide)) (by rfl) D_Day.g bDay___init__ (fun σ => passAt takes0 σ) (pa_cons (pe_ix ix_tup (pv 11) pe_int (fun _ _ => rfl)) (pa_cons (pe_ix ix_tup (pv 11) pe_int (fun _ _ => rfl)) (pa_cons (pe_ix ix_tup (pv 11) pe_int (fun _ _ => rfl)) (pa_cons pe_int pa_nil))))) pa_nil)) pa_nil)) (nomark _)))))
  (pss_one (ps_ret pe_bl))
  pss_nil)
  (pss_cons (ps_if (pt_not (pt_val (pe_call G_law_refusals_hold (hr.mono (by decide)) (by rfl) m_law_refusals_hold k_law_refusals_hold b_law_refusals_hold .nil pass0 (pa_cons (pv 0) (pa_cons (pv 1) (pa_cons (pv 3) (pa_cons (pv 2) pa_nil)))))))
  (pss_one (ps_ret pe_bl))
  pss_nil)
  (pss_one (ps_ret (pe_cmpR (op_eqI GWeather___eq__ (hr.mono (by decide)) D_Weather.eq D_Weather.fe bWeather___eq__ pass0) (pe_call G_law_made (hr.mono (by decide)) (by rfl) m_law_made k_law_made b_law_made .nil pass0 (pa_cons (pv 6) pa_nil)) (pv 7) (nomark _)))))))))))))))), ?_⟩
    refine ⟨_, rfl, a, ns, rfl, hS, hlen, fun s0 H1 s1 h0s sc1 => ?_⟩
    refine ⟨_, rfl, _, rfl, a, s0, 3, rfl, sc1, by decide, by decide, fun mn H2 mn0 mn1 f2 sc2 => ⟨_, _, rfl, rfl, ?_⟩⟩
    refine ⟨bigN (by show 0 ≤ _; decide), fun R hR => ?_⟩
    have nRs : ¬ R = s0 := sc2.ne hR
    have nR : ¬ R ∈ [s0] := by simpa using nRs
    refine ⟨_, rfl, _, rfl, a, s0, 4, rfl, sc2.same (Same.new hR), by decide, by decide, fun mr H3 mr0 mr1 f3 sc3 => ⟨_, _, rfl, rfl, _, rfl, by omega, by omega, ?_⟩⟩
    refine for_it walk_range (fun i σ H4 => ∃ (w4 w5 : Option V) (vs : List V) (M : List (List RowD)), σ = [some (.ref a), some (.ref s0), some (.int (1 + mn)), some (.ref R), w4, w5, none, none, none, none, none, none, none, none, none] ∧ H4 R = some (.lst vs) ∧ vs.length = i ∧ Reps (repL repRow) (hid [s0, R] H4) vs M ∧ OkG (1 + mn) M ∧ Frm [R, s0] H2 H4 ∧ Scr K H4 a s0)
      ⟨_, _, [], [], rfl, f3 _ _ nR upd_same, rfl, trivial, (fun r h => by cases h), (Frm.put List.mem_cons_self).trans (f3.mono (fun b h => List.mem_cons_of_mem _ h)), sc3⟩ (fun _ _ _ _ _ => trivial) ?_ ?_
    · rintro i x σ H4o H4 hi ⟨w4, w5, vs, M, rfl, eR, vl, hrs, hok, f4, sc4⟩ ⟨rfl, rfl⟩
      refine ⟨_, rfl, _, rfl, a, s0, 4, rfl, sc4, by decide, by decide, fun c H5 c0 c1 f5 sc5 => ⟨_, _, rfl, rfl, ?_⟩⟩
      have eR5 := f5 _ _ nR eR
      refine ⟨_, rfl, .inl ⟨rfl, _, SqL.of eR5⟩, _, rfl, _, rfl, by omega, by omega, fun D hD => ?_⟩
      have nDs : ¬ D = s0 := sc5.ne hD
      have nDR : ¬ D = R := fun e => by rw [e, eR5] at hD; cases hD
      refine lc_it walk_range (fun j H6 => ∃ (xs : List V) (ds : List RowD), H6 D = some (.lst xs) ∧ xs.length = j ∧ Reps repRow (hid [s0, R, D] H6) xs ds ∧ (∀ d : RowD, d ∈ ds → VRow d ∧ (d.1.length : Int) = 1 + mn) ∧ Frm [D, s0] H5 H6 ∧ Scr K H6 a s0) ⟨[], [], upd_same, rfl, trivial, (fun d h => by cases h), Frm.put List.mem_cons_self, sc5.same (Same.new hD)⟩ (fun _ _ _ _ => trivial) ?_ ?_
      · rintro j x H6o H6 hj ⟨xs, ds, g6, hxl, hrd, hvd, f6, sc6⟩ ⟨rfl, rfl⟩
        refine ⟨rfl, ?_⟩
        refine ⟨_, rfl, _, rfl, _, rfl, a, s0, 1 + mn, [R, D], rfl, sc6, by omega, by omega, fun b hb => ?_, fun x H7 d hx hv hd f7 sc7 => ?_⟩
        · rcases List.mem_cons.mp hb with z | z
          · exact ⟨_, by rw [z]; exact f6 _ _ (fun m => (List.mem_cons.mp m).elim (fun y => nDR y.symm) (fun y => nRs (List.mem_singleton.mp y))) eR5⟩
          · exact ⟨_, by rw [List.mem_singleton.mp z]; exact g6⟩
        have g7 := f7 _ _ (by simpa using nDs) g6
        have fr := (f6.trans (f7.mono (fun b h => List.mem_cons_of_mem _ h))).put' (o := .lst (xs ++ [x])) (List.mem_cons_self (a := D) (l := [s0]))
        have f67 : Frm [s0, R, D] H6 (upd H7 D (.lst (xs ++ [x]))) := (f7.mono (fun b hb => by rw [List.mem_singleton.mp hb]; exact List.mem_cons_self)).put' (by simp)
        have f77 : Frm [s0, R, D] H7 (upd H7 D (.lst (xs ++ [x]))) := Frm.put (by simp)
        refine ⟨xs, g7, small1000 (by have : j < (1 + c).toNat := hj; omega), xs ++ [x], ds ++ [d], upd_same, by rw [List.length_append, hxl]; rfl, Reps.app (hrd.mono repRow_mono (hid_frm f67)) (Reps.one (repRow_mono _ _ _ _ (hid_frm f77) hx)), fun d' hd' => ?_, fr, ?_⟩
        · rcases List.mem_append.mp hd' with z | z
          · exact hvd _ z
          · rw [List.mem_singleton.mp z]; exact ⟨hv, hd⟩
        · obtain ⟨i1, i2, i3, i4, e4⟩ := sc7.2
          exact scr_of sc5 hD fr ⟨i1, i2, i3, i4, by rw [upd_ne (fun q => nDs q.symm)]; exact e4⟩
      rintro H6 ⟨xs, ds, g6, hxl, hrd, hvd, f6, sc6⟩
      have f56 : Frm [s0] H5 H6 := Frm.drop hD (Frm.refl _ _) f6
      have eR6 := f56 _ _ nR eR5
      refine ⟨R, _, _, rfl, rfl, eR6, small1000 (by have : i < (1 + mr).toNat := hi; omega), ?_⟩
      have up : Frm [s0, R] H6 (upd H6 R (.lst (vs ++ [.ref D]))) := Frm.put (by simp)
      have f46 : Frm [s0, R] H4 (upd H6 R (.lst (vs ++ [.ref D]))) := ((f5.trans f56).mono (fun b hb => by rw [List.mem_singleton.mp hb]; exact List.mem_cons_self)).trans up
      have fR : Frm [R, s0] H2 (upd H6 R (.lst (vs ++ [.ref D]))) := f4.trans (f46.mono (fun b hb => by
        rcases List.mem_cons.mp hb with z | z
        · rw [z]; simp
        · rw [List.mem_singleton.mp z]; simp))
      refine ⟨_, _, vs ++ [.ref D], M ++ [ds], rfl, upd_same, by rw [List.length_append, vl]; rfl, Reps.app (hrs.mono (repL_mono repRow_mono) (hid_frm f46)) (Reps.one ⟨D, xs, rfl, ?_, ?_⟩), fun r hr => ?_, fR, ?_⟩
      · rw [hid_eq (by simp [nDs, nDR]), upd_ne nDR]; exact g6
      · refine hrd.mono repRow_mono fun b o e => hid_frm up _ _ (hid_mono (fun b hb => ?_) _ _ e)
        rcases List.mem_cons.mp hb with z | z
        · rw [z]; exact List.mem_cons_self
        · rw [List.mem_singleton.mp z]; simp
      · rcases List.mem_append.mp hr with z | z
        · exact hok r z
        · rw [List.mem_singleton.mp z]
          have := hrd.len
          have hx2 : xs.length = (1 + c).toNat := hxl
          exact ⟨by omega, by omega, hvd⟩
      · obtain ⟨i1, i2, i3, i4, e4⟩ := sc6.2
        exact scr_of sc2 hR fR ⟨i1, i2, i3, i4, by rw [upd_ne (fun q => nRs q.symm)]; exact e4⟩
    rintro σ H4 ⟨w4, w5, vs, M, rfl, eR, vl, hrs, hok, f4, sc4⟩
    have hlM : vs.length = M.length := hrs.len
    have vl2 : vs.length = (1 + mr).toNat := vl
    have hM1 : 1 ≤ M.length := by omega
    have hM4 : M.length ≤ 4 := by omega
    clear vl f4 f3 f2 s1 sc1 sc2 sc3
    -- kept
    refine ⟨_, rfl, R, rfl, ⟨_, SqL.of eR⟩, fun Kp hKp => ?_⟩
    refine lc_it walk_list (fun i H5 => ∃ qs : List V, H5 Kp = some (.lst qs) ∧ qs.length = i ∧ Reps (repL repRow) (hid [s0, R, Kp] H5) qs (M.take i) ∧ Same H4 H5) ⟨[], upd_same, rfl, trivial, Same.new hKp⟩ (fun i _ _ ⟨_, _, _, _, s⟩ => SqL.of (s _ _ eR)) ?_ ?_
    · rintro i x HQo HQ hi ⟨qs, g1, ql, gq, s2⟩ ⟨rfl, hx⟩
      obtain ⟨r, hM, q, xs, rfl, eq, hd⟩ := hrs.at hx
      have h4 := hid_frm (Frm.of_same s2 : Frm [s0, R] H4 HQ)
      refine ⟨rfl, ?_⟩
      refine ⟨_, rfl, q, _, rfl, .inl (SqL.of (hid_same _ _ _ _ (h4 _ _ eq))), fun z hz => ?_⟩
      have sz : Same HQ (upd HQ z (.lst xs)) := Same.new hz
      have g1z := sz _ _ g1
      have nz : ¬ z ∈ [s0, R, Kp] := fun m => by
        simp only [List.mem_cons, List.not_mem_nil, or_false] at m
        rcases m with y | y | y
        · obtain ⟨i1, i2, i3, i4, e4⟩ := sc4.2
          rw [y, s2 _ _ e4] at hz; cases hz
        · rw [y, s2 _ _ eR] at hz; cases hz
        · rw [y, g1] at hz; cases hz
      have up : Frm [s0, R, Kp] HQ (upd (upd HQ z (.lst xs)) Kp (.lst (qs ++ [.ref z]))) := (Frm.of_same sz).put' (by simp)
      refine ⟨qs, g1z, small1000 (by have := hlM; have := (List.getElem?_eq_some_iff.mp hM).1; omega), qs ++ [.ref z], upd_same, by rw [List.length_append, ql]; rfl, ?_, fun b o e => by rw [upd_ne (ne_of_none e hKp)]; exact sz _ _ (s2 _ _ e)⟩
      rw [take_snoc hM]
      refine Reps.app (gq.mono (repL_mono repRow_mono) (hid_frm up)) (Reps.one ⟨z, xs, rfl, ?_, ?_⟩)
      · rw [hid_eq nz, upd_ne (fun e => nz (by rw [e]; simp))]; exact upd_same
      · refine hd.mono repRow_mono fun b o e => ?_
        have nb : ¬ b ∈ [s0, R] := fun m => by rw [show hid [s0, R] H4 b = none from if_pos m] at e; cases e
        have e0 := hid_same _ _ _ _ e
        have nk : b ≠ Kp := ne_of_none e0 hKp
        rw [hid_eq (fun m => by
          simp only [List.mem_cons, List.not_mem_nil, or_false] at m nb
          rcases m with y | y | y
          · exact nb (.inl y)
          · exact nb (.inr y)
          · exact nk y), upd_ne nk]
        exact sz _ _ (s2 _ _ e0)
    rintro H5 ⟨qs, gK, ql, gq, s5⟩
    rw [hlM, List.take_length] at gq
    have nKR : Kp ≠ R := fun e => by rw [e, eR] at hKp; cases hKp
    have nKs : Kp ≠ s0 := sc4.ne hKp
    have eR5 := s5 _ _ eR
    have hrs5 := hrs.mono (repL_mono repRow_mono) (hid_frm (Frm.of_same s5 : Frm [s0, R] H4 H5))
    have hks5 : Reps (repL repRow) (hid [s0, R] H5) qs M := gq.mono (repL_mono repRow_mono) (hid_mono (fun b hb => by
      simp only [List.mem_cons, List.not_mem_nil, or_false] at hb ⊢
      rcases hb with z | z
      · exact .inl z
      · exact .inr (.inl z)))
    have sc5 := sc4.same s5
    have hAll := hok.all
    have sN : sRef M = none := by unfold sRef; rw [if_pos ⟨hM1, hM4⟩]; exact hAll.ref
    clear gq s5 hrs eR sc4
    refine ⟨_, rfl, R, vs, M, 1 + mn, rfl, eR5, hrs5.mono (repL_mono repRow_mono) (hid_same _ _), hAll.1, by omega, by omega, fun _ W H6 s6 hW => ?_, fun tg v e => (by rw [sN] at e; cases e)⟩
    have eR6 := s6 _ _ eR5
    have gK6 := s6 _ _ gK
    have hrs6 := hrs5.mono (repL_mono repRow_mono) (hid_frm (Frm.of_same s6 : Frm [s0, R] H5 H6))
    have hks6 := hks5.mono (repL_mono repRow_mono) (hid_frm (Frm.of_same s6 : Frm [s0, R] H5 H6))
    have sc6 := sc5.same s6
    have dR := all_dp (K := K) eR6 (hrs6.mono (repL_mono repRow_mono) (hid_same _ _))
    have dK := all_dp (K := K) gK6 (hks6.mono (repL_mono repRow_mono) (hid_same _ _))
    have E := PySem.SeqAt.eqv_refl _ (PySem.SeqAt.canLay_of_shaped (all_shaped M))
    refine ⟨_, rfl, _, rfl, _, _, dR, dK, all_shaped M, all_shaped M, _, rfl, ite2 (fun y => absurd y (by rw [E]; decide)) (fun _ => ?_)⟩
    clear dR dK E
    obtain ⟨dxw, qw, eW, rW⟩ := id hW
    have lm := mkM_len M
    refine ⟨_, rfl, _, _, _, _, true, rfl, .own _, .base (.ins eW D_Weather.cls D_Weather.ha D_Weather.hn D_Weather.htk D_Weather.hm), D_Weather.kit, true, rfl, ite2 (fun y => absurd y (by decide)) (fun _ => ?_)⟩
    refine ⟨_, rfl, W, dxw, _, rfl, eW, W, mkM M, rfl, hW, (mkM M).length, rfl, by omega, _, rfl, R, _, rfl, .inl (SqL.of eR6), rfl, _, rfl, ite2 (fun y => absurd y (by rw [lm, hlM]; exact ne_self)) (fun _ => ?_)⟩
    refine ⟨_, rfl, R, _, rfl, SqL.of eR6, ?_⟩
    refine for_it walk_enum (fun i σ H7 => ∃ w8 w9 w10 : Option V, σ = [some (.ref a), some (.ref s0), some (.int (1 + mn)), some (.ref R), w4, w5, some (.ref Kp), some (.ref W), w8, w9, w10, none, none, none, none] ∧ Same H6 H7) ⟨_, _, _, rfl, Same.refl _⟩ (fun i σ H7 _ ⟨_, _, _, _, s⟩ => SqL.of (s _ _ eR6)) ?_ ?_
    · rintro i x σ H7o H7 hi ⟨w8, w9, w10, rfl, s7⟩ ⟨T0, x, y, rfl, hT, rfl, hx, hy⟩
      obtain rfl : x = V.int (i : Nat) := (Option.some.inj hx).symm
      obtain ⟨r, hM, q, xs, rfl, eq, hd⟩ := (hrs6.mono (repL_mono repRow_mono) (hid_same _ _)).at hy
      have hi4 : i < M.length := (List.getElem?_eq_some_iff.mp hM).1
      have nn := nxt_range (i := i) hM1 hM4
      have hor := hok r (List.mem_of_getElem? hM)
      have s3 : Same H7o (upd H7o T0 (.tup [V.int (i : Nat), V.ref q])) := Same.new hT
      refine ⟨T0, _, rfl, SqT.of upd_same, rfl, _, _, rfl, _, _, rfl, rfl, ?_⟩
      generalize upd H7o T0 (.tup [V.int (i : Nat), V.ref q]) = H8 at s3 ⊢
      have t8 := s7.trans s3
      refine ⟨_, rfl, _, _, rfl, rfl, .inl ⟨_, rfl, _, rfl, R, _, rfl, .inl (SqL.of (t8 _ _ eR6)), _, _, rfl, rfl, by show ((vs.length : Nat) : Int) ≠ 0; omega, ?_⟩⟩
      rw [hlM]
      refine ⟨_, rfl, _, rfl, W, dxw, _, rfl, t8 _ _ eW, W, mkM M, (i : Int), rfl, hW.same t8, fun n r' hn hr' x H9 s9 hx9 => ?_, fun nk => absurd ⟨by omega, by rw [lm]; omega⟩ nk⟩
      have hni : n = i := by omega
      subst hni
      rw [mkM_at hM] at hr'
      cases hr'
      obtain ⟨qt, ys, rfl, eqt, hdy⟩ := hx9
      refine ⟨qt, _, rfl, .inr (SqT.of eqt), fun L hL => ?_⟩
      have t9 := t8.trans s9
      have s10 := Same.new (o := .lst ys) hL
      have gL : (upd H9 L (.lst ys)) L = some (.lst ys) := upd_same
      have hdL := hdy.mono repDay_mono s10
      generalize upd H9 L (.lst ys) = H10 at s10 gL hdL ⊢
      have t10 := t9.trans s10
      refine ⟨_, rfl, q, rfl, ⟨_, SqL.of (t10 _ _ eq)⟩, fun D hD => ?_⟩
      refine lc_it walk_list (fun j H11 => ∃ zs : List V, H11 D = some (.lst zs) ∧ zs.length = j ∧ Reps (repDay C_Day) H11 zs ((mkR (nxt n M.length) r).take j) ∧ Same H10 H11) ⟨[], upd_same, rfl, trivial, Same.new hD⟩ (fun j H11 _ ⟨_, _, _, _, s⟩ => SqL.of (s _ _ (t10 _ _ eq))) ?_ ?_
      · rintro j z H11o H11 hj ⟨zs, g3, zl, gz, s2⟩ ⟨rfl, hz⟩
        obtain ⟨d, hrd, p, da, db, rfl, ep, eda, edb⟩ := hd.at hz
        have t11 := t10.trans s2
        have hjr : j < r.length := (List.getElem?_eq_some_iff.mp hrd).1
        have hv := (hor.2.2 d (List.mem_of_getElem? hrd)).1
        refine ⟨rfl, ?_⟩
        refine ⟨_, rfl, p, _, _, _, rfl, rfl, SqT.of (t11 _ _ ep), rfl, _, rfl, p, _, _, _, rfl, rfl, SqT.of (t11 _ _ ep), rfl, _, rfl, p, _, _, _, rfl, rfl, SqT.of (t11 _ _ ep), rfl, _, rfl, fun x dx nx nd _ => day_make (hv.day nn.1 nn.2.1) (.inl (SqL.of (t11 _ _ eda))) (.inl (SqL.of (t11 _ _ edb))) nx nd fun H12 s12 st => ?_⟩
        have g4 := s12 _ _ g3
        refine ⟨zs, g4, small1000 (by have := hor.2.1; omega), zs ++ [.ref x], upd_same, by rw [List.length_append, zl]; rfl, ?_, fun b o e => by rw [upd_ne (ne_of_none e hD)]; exact s12 _ _ (s2 _ _ e)⟩
        rw [take_snoc (show (mkR (nxt n M.length) r)[j]? = some (d.1, d.2.1, d.2.2, nxt n M.length) by rw [List.getElem?_map, hrd]; rfl)]
        exact Reps.app ((gz.mono repDay_mono s12).imp (repDay_keep (keep_lst g4))) (Reps.one (repDay_keep (keep_lst g4) _ _ ⟨x, rfl, st⟩))
      rintro H11 ⟨zs, g3, zl, gz, s2⟩
      have lz : xs.length = (mkR (nxt n M.length) r).length := by rw [List.length_map]; exact hd.len
      rw [lz, List.take_length] at gz
      exact ⟨mkR (nxt n M.length) r, mkR (nxt n M.length) r, ⟨L, _, rfl, s2 _ _ gL, hdL.mono repDay_mono s2⟩, ⟨D, _, rfl, g3, gz⟩, fun H13 s13 => ⟨_, rfl, ite2 (fun y => absurd y (by simp)) (fun _ => ⟨_, _, _, rfl, (t10.trans s2).trans s13⟩)⟩⟩
    rintro σ H7 ⟨w8, w9, w10, rfl, s7⟩
    have eR7 := s7 _ _ eR6
    have hrs7 := hrs6.mono (repL_mono repRow_mono) (hid_frm (Frm.of_same s7 : Frm [s0, R] H6 H7))
    have hks7 := hks6.mono (repL_mono repRow_mono) (hid_frm (Frm.of_same s7 : Frm [s0, R] H6 H7))
    have gK7 := s7 _ _ gK6
    have sc7 := sc6.same s7
    have hW7 := hW.same s7
    clear hrs6 hks6 gK6 sc6 eR6 eW rW hW s7 hrs5 hks5 sc5 eR5 gK s6
    obtain ⟨r0, hr0⟩ : ∃ r, M[0]? = some r := ⟨_, List.getElem?_eq_getElem (by omega)⟩
    have hor := hok r0 (List.mem_of_getElem? hr0)
    obtain ⟨d0, hd0⟩ : ∃ d, r0[0]? = some d := ⟨_, List.getElem?_eq_getElem (by have := hor.1; omega)⟩
    obtain ⟨hv, hd0l⟩ := hor.2.2 d0 (List.mem_of_getElem? hd0)
    obtain ⟨xq, hxq, q, xs, rfl, eq, hd⟩ := (hrs7.mono (repL_mono repRow_mono) (hid_same _ _)).at' hr0
    obtain ⟨xp, hxp, hrow⟩ := hd.at' hd0
    refine ⟨_, rfl, R, _, _, _, rfl, rfl, SqL.of eR7, at0 hxq, q, _, _, _, rfl, rfl, SqL.of eq, at0 hxp, ?_⟩
    have k1 := hv.2.1
    have k2 := hv.2.2.1
    refine ⟨_, rfl, xp, d0, rfl, hrow, by omega, by omega, fun _ X H9 s9 hX => ?_, fun tg v e => (by rw [hv.ref] at e; cases e)⟩
    obtain ⟨p, da, db, rfl, ep, eda, edb⟩ := repRow_mono _ _ _ _ s9 hrow
    obtain ⟨dxX, qX, eX, rX⟩ := id hX
    refine ⟨_, rfl, _, _, _, _, true, rfl, .own _, .base (.ins eX D_Weather.cls D_Weather.ha D_Weather.hn D_Weather.htk D_Weather.hm), D_Weather.kit, true, rfl, ite2 (fun y => absurd y (by decide)) (fun _ => ?_)⟩
    refine ⟨_, rfl, X, C_Weather, dxX, _, _, rfl, eX, D_Weather.cls, D_Weather.no _ (by decide), rfl, _, rfl, p, _, _, _, rfl, rfl, SqT.of ep, rfl, _, rfl, p, _, _, _, rfl, rfl, SqT.of ep, rfl, _, rfl, p, _, _, _, rfl, rfl, SqT.of ep, rfl, fun x dx nx nd _ => day_make hv (.inl (SqL.of eda)) (.inl (SqL.of edb)) nx nd fun H10 s10 st => ⟨one_le, fun z1 hz1 => ⟨one_le, fun z2 hz2 => ?_⟩⟩⟩
    have t1 := Same.new (o := .tup [.ref x]) hz1
    have t2 := Same.new (o := .tup [.ref z1]) hz2
    refine ⟨[[(d0.1, d0.2.1, d0.2.2, 0)]], [[(d0.1, d0.2.1, d0.2.2, 0)]], repT_mono (repT_mono repDay_mono) _ _ _ _ ((s10.trans t1).trans t2) rX, ⟨z2, _, rfl, upd_same, Reps.one ⟨z1, _, rfl, t2 _ _ upd_same, Reps.one ⟨x, rfl, (st.same t1).same t2⟩⟩⟩, fun H11 s11 => ⟨_, rfl, ite2 (fun y => absurd y (by simp)) (fun _ => ?_)⟩⟩
    have t11 : Same H7 H11 := ((s9.trans s10).trans (t1.trans t2)).trans s11
    have hrs11 := hrs7.mono (repL_mono repRow_mono) (hid_frm (Frm.of_same t11 : Frm [s0, R] H7 H11))
    have hks11 := hks7.mono (repL_mono repRow_mono) (hid_frm (Frm.of_same t11 : Frm [s0, R] H7 H11))
    have sc11 := sc7.same t11
    have eR11 := t11 _ _ eR7
    refine ⟨_, rfl, _, rfl, _, rfl, _, rfl, a, s0, R, 1 + mn, vs, M, rfl, sc11, eR11, nRs, hrs11, hAll, hM1, hM4, by omega, by omega, fun H12 f12 => ⟨_, rfl, ite2 (fun y => absurd y (by decide)) (fun _ => ?_)⟩⟩
    have lX : ∀ b, b ∈ [s0, R] → ∀ o, H11 b = some o → ∃ l, o = .lst l := fun b hb o e => by
      rcases List.mem_cons.mp hb with z | z
      · rw [z] at e; exact sc11.lstS _ e
      · rw [List.mem_singleton.mp z, eR11] at e; exact ⟨_, (Option.some.inj e).symm⟩
    have hW12 := (hW7.same t11).frm f12 lX
    have hks12 := hks11.mono (repL_mono repRow_mono) (hid_frm f12)
    have gK12 := f12 _ _ (by simp [nKs, nKR]) (t11 _ _ gK7)
    refine ⟨_, rfl, Kp, qs, M, 1 + mn, rfl, gK12, hks12.mono (repL_mono repRow_mono) (hid_same _ _), hAll.1, by omega, by omega, fun _ W2 H13 s13 hW2 => ?_, fun tg v e => (by rw [sN] at e; cases e)⟩
    have hW13 := hW12.same s13
    obtain ⟨dxa, qa, ea, _⟩ := id hW2
    obtain ⟨dxb, qb, eb, _⟩ := id hW13
    refine ⟨_, rfl, W2, dxa, _, W, dxb, _, rfl, rfl, ea, eb, W2, W, mkM M, mkM M, rfl, hW2, hW13, fun H14 s14 => ⟨_, rfl, ?_⟩⟩
    rw [decide_eq_true (rfl : mkM M = mkM M)]
    exact k _
end
end Wb

namespace Wb
open PySem PySem.Spec PyProof.Rows L2 Wx StX NdefX RZ StX PyProof.Rows.FinIter
section
theorem all_mk {l : PySem.W.OpenLaw} {w : World} {K : PySem.W.Frag} {h : Heap} {mg : Str → Option Value} {fa : Addr}
    {oc0 kV0 dc0 pm0 cd0 ct0 : Value} {od0 an0 : Option Addr} {sl0 : Array (Option Value)} {f0 : Addr}
    {oc1 kV1 dc1 pm1 cd1 ct1 : Value} {od1 an1 : Option Addr} {sl1 : Array (Option Value)} {f1 : Addr}
    {oc2 kV2 dc2 pm2 cd2 ct2 : Value} {od2 an2 : Option Addr} {sl2 : Array (Option Value)} {f2 : Addr}
    {oc3 kV3 dc3 pm3 cd3 ct3 : Value} {od3 an3 : Option Addr} {sl3 : Array (Option Value)} {f3 : Addr}
    {oc4 kV4 dc4 pm4 cd4 ct4 : Value} {od4 an4 : Option Addr} {sl4 : Array (Option Value)} {f4 : Addr}
    {oc5 kV5 dc5 pm5 cd5 ct5 : Value} {od5 an5 : Option Addr} {sl5 : Array (Option Value)} {f5 : Addr}
    {oc6 kV6 dc6 pm6 cd6 ct6 : Value} {od6 an6 : Option Addr} {sl6 : Array (Option Value)} {f6 : Addr}
    {oc7 kV7 dc7 pm7 cd7 ct7 : Value} {od7 an7 : Option Addr} {sl7 : Array (Option Value)} {f7 : Addr}
    {oc8 kV8 dc8 pm8 cd8 ct8 : Value} {od8 an8 : Option Addr} {sl8 : Array (Option Value)} {f8 : Addr}
    {oc9 kV9 dc9 pm9 cd9 ct9 : Value} {od9 an9 : Option Addr} {sl9 : Array (Option Value)} {f9 : Addr}
    {oc10 kV10 dc10 pm10 cd10 ct10 : Value} {od10 an10 : Option Addr} {sl10 : Array (Option Value)} {f10 : Addr}
    {t_MOST_PLOTS : Tok}
    {t_MOST_UNITS : Tok}
    {t_MOST_MOODS : Tok}
    {t__MOST_DAYS : Tok}
    {nm_BadNumber qn_BadNumber fl_BadNumber : Str} {N_BadNumber C_BadNumber f_BadNumber cda_BadNumber cc_BadNumber : Addr} {bs_BadNumber sub_BadNumber bm_BadNumber : List Value} {sn_BadNumber : List Str} {ab_BadNumber : Bool} {col_BadNumber : Option Bool} {dd_BadNumber od_BadNumber an_BadNumber cdd_BadNumber cld_BadNumber : Option Addr} {m0_BadNumber m1_BadNumber m2_BadNumber m3_BadNumber m5_BadNumber : Option Value} {oc_BadNumber kV_BadNumber doc_BadNumber pm_BadNumber ct_BadNumber ccl_BadNumber clv_BadNumber : Value} {osl_BadNumber ccs_BadNumber csl_BadNumber : Array (Option Value)} {vs_BadNumber : Array Value} {tf_BadNumber : Tok}
    {C_Day : Addr}
    {oc_Day_init kV_Day_init dc_Day_init pm_Day_init cd_Day_init ct_Day_init : Value} {od_Day_init an_Day_init : Option Addr} {sl_Day_init : Array (Option Value)} {f_Day_init : Addr}
    {oc_Day_eq kV_Day_eq dc_Day_eq pm_Day_eq cd_Day_eq ct_Day_eq : Value} {od_Day_eq an_Day_eq : Option Addr} {sl_Day_eq : Array (Option Value)} {f_Day_eq : Addr}
    {C_Weather : Addr}
    {oc_Weather_init kV_Weather_init dc_Weather_init pm_Weather_init cd_Weather_init ct_Weather_init : Value} {od_Weather_init an_Weather_init : Option Addr} {sl_Weather_init : Array (Option Value)} {f_Weather_init : Addr}
    {oc_Weather_eq kV_Weather_eq dc_Weather_eq pm_Weather_eq cd_Weather_eq ct_Weather_eq : Value} {od_Weather_eq an_Weather_eq : Option Addr} {sl_Weather_eq : Array (Option Value)} {f_Weather_eq : Addr}
    {oc_Weather_len kV_Weather_len dc_Weather_len pm_Weather_len cd_Weather_len ct_Weather_len : Value} {od_Weather_len an_Weather_len : Option Addr} {sl_Weather_len : Array (Option Value)} {f_Weather_len : Addr}
    {oc_Weather_get kV_Weather_get dc_Weather_get pm_Weather_get cd_Weather_get ct_Weather_get : Value} {od_Weather_get an_Weather_get : Option Addr} {sl_Weather_get : Array (Option Value)} {f_Weather_get : Addr}
    {oc_Weather_steady kV_Weather_steady dc_Weather_steady pm_Weather_steady cd_Weather_steady ct_Weather_steady : Value} {od_Weather_steady an_Weather_steady : Option Addr} {sl_Weather_steady : Array (Option Value)} {f_Weather_steady p_Weather_steady : Addr} {rest_Weather_steady : List Value}
    {oc_Weather_seasons kV_Weather_seasons dc_Weather_seasons pm_Weather_seasons cd_Weather_seasons ct_Weather_seasons : Value} {od_Weather_seasons an_Weather_seasons : Option Addr} {sl_Weather_seasons : Array (Option Value)} {f_Weather_seasons p_Weather_seasons : Addr} {rest_Weather_seasons : List Value}
    (X : K.In h) (G : h.Ns mainGlobals mg) (hfa : mg "law" = some (.ref fa))
    (a0 : PySem.W.nsIn K mainGlobals "_shown" = some (some (.ref f0)))
    (l0 : K.lookup f0 = some ⟨oc0, od0, .func (PySem.W.fnOf "_shown" "_shown" (defArgs s_shown) (defBody s_shown) (defScope s_shown) .none kV0 dc0 pm0 an0 cd0 ct0), sl0⟩)
    (c0 : PySem.W.codeIn K cd0 "_shown" = true)
    (k0 : PySem.W.keepIn K (.ref f0) = true)
    (a1 : PySem.W.nsIn K mainGlobals "check_number" = some (some (.ref f1)))
    (l1 : K.lookup f1 = some ⟨oc1, od1, .func (PySem.W.fnOf "check_number" "check_number" (defArgs scheck_number) (defBody scheck_number) (defScope scheck_number) .none kV1 dc1 pm1 an1 cd1 ct1), sl1⟩)
    (c1 : PySem.W.codeIn K cd1 "check_number" = true)
    (k1 : PySem.W.keepIn K (.ref f1) = true)
    (a2 : PySem.W.nsIn K mainGlobals "check_units" = some (some (.ref f2)))
    (l2 : K.lookup f2 = some ⟨oc2, od2, .func (PySem.W.fnOf "check_units" "check_units" (defArgs scheck_units) (defBody scheck_units) (defScope scheck_units) .none kV2 dc2 pm2 an2 cd2 ct2), sl2⟩)
    (c2 : PySem.W.codeIn K cd2 "check_units" = true)
    (k2 : PySem.W.keepIn K (.ref f2) = true)
    (a3 : PySem.W.nsIn K mainGlobals "_check_days" = some (some (.ref f3)))
    (l3 : K.lookup f3 = some ⟨oc3, od3, .func (PySem.W.fnOf "_check_days" "_check_days" (defArgs s_check_days) (defBody s_check_days) (defScope s_check_days) .none kV3 dc3 pm3 an3 cd3 ct3), sl3⟩)
    (c3 : PySem.W.codeIn K cd3 "_check_days" = true)
    (k3 : PySem.W.keepIn K (.ref f3) = true)
    (a4 : PySem.W.nsIn K mainGlobals "_law_start" = some (some (.ref f4)))
    (l4 : K.lookup f4 = some ⟨oc4, od4, .func (PySem.W.fnOf "_law_start" "_law_start" (defArgs s_law_start) (defBody s_law_start) (defScope s_law_start) .none kV4 dc4 pm4 an4 cd4 ct4), sl4⟩)
    (c4 : PySem.W.codeIn K cd4 "_law_start" = true)
    (k4 : PySem.W.keepIn K (.ref f4) = true)
    (a5 : PySem.W.nsIn K mainGlobals "_law_draw" = some (some (.ref f5)))
    (l5 : K.lookup f5 = some ⟨oc5, od5, .func (PySem.W.fnOf "_law_draw" "_law_draw" (defArgs s_law_draw) (defBody s_law_draw) (defScope s_law_draw) .none kV5 dc5 pm5 an5 cd5 ct5), sl5⟩)
    (c5 : PySem.W.codeIn K cd5 "_law_draw" = true)
    (k5 : PySem.W.keepIn K (.ref f5) = true)
    (a6 : PySem.W.nsIn K mainGlobals "_law_made" = some (some (.ref f6)))
    (l6 : K.lookup f6 = some ⟨oc6, od6, .func (PySem.W.fnOf "_law_made" "_law_made" (defArgs s_law_made) (defBody s_law_made) (defScope s_law_made) .none kV6 dc6 pm6 an6 cd6 ct6), sl6⟩)
    (c6 : PySem.W.codeIn K cd6 "_law_made" = true)
    (k6 : PySem.W.keepIn K (.ref f6) = true)
    (a7 : PySem.W.nsIn K mainGlobals "_law_steady" = some (some (.ref f7)))
    (l7 : K.lookup f7 = some ⟨oc7, od7, .func (PySem.W.fnOf "_law_steady" "_law_steady" (defArgs s_law_steady) (defBody s_law_steady) (defScope s_law_steady) .none kV7 dc7 pm7 an7 cd7 ct7), sl7⟩)
    (c7 : PySem.W.codeIn K cd7 "_law_steady" = true)
    (k7 : PySem.W.keepIn K (.ref f7) = true)
    (a8 : PySem.W.nsIn K mainGlobals "_law_row" = some (some (.ref f8)))
    (l8 : K.lookup f8 = some ⟨oc8, od8, .func (PySem.W.fnOf "_law_row" "_law_row" (defArgs s_law_row) (defBody s_law_row) (defScope s_law_row) .none kV8 dc8 pm8 an8 cd8 ct8), sl8⟩)
    (c8 : PySem.W.codeIn K cd8 "_law_row" = true)
    (k8 : PySem.W.keepIn K (.ref f8) = true)
    (a9 : PySem.W.nsIn K mainGlobals "_law_refusals_hold" = some (some (.ref f9)))
    (l9 : K.lookup f9 = some ⟨oc9, od9, .func (PySem.W.fnOf "_law_refusals_hold" "_law_refusals_hold" (defArgs s_law_refusals_hold) (defBody s_law_refusals_hold) (defScope s_law_refusals_hold) .none kV9 dc9 pm9 an9 cd9 ct9), sl9⟩)
    (c9 : PySem.W.codeIn K cd9 "_law_refusals_hold" = true)
    (k9 : PySem.W.keepIn K (.ref f9) = true)
    (a10 : PySem.W.nsIn K mainGlobals "law" = some (some (.ref f10)))
    (l10 : K.lookup f10 = some ⟨oc10, od10, .func (PySem.W.fnOf "law" "law" (defArgs slaw) (defBody slaw) (defScope slaw) .none kV10 dc10 pm10 an10 cd10 ct10), sl10⟩)
    (c10 : PySem.W.codeIn K cd10 "law" = true)
    (k10 : PySem.W.keepIn K (.ref f10) = true)
    (z_len : PySem.W.nsIn K mainGlobals "len" = some none)
    (z_abs : PySem.W.nsIn K mainGlobals "abs" = some none)
    (z_int : PySem.W.nsIn K mainGlobals "int" = some none)
    (z_bool : PySem.W.nsIn K mainGlobals "bool" = some none)
    (z_str : PySem.W.nsIn K mainGlobals "str" = some none)
    (z_range : PySem.W.nsIn K mainGlobals "range" = some none)
    (z_all : PySem.W.nsIn K mainGlobals "all" = some none)
    (z_isinstance : PySem.W.nsIn K mainGlobals "isinstance" = some none)
    (z_repr : PySem.W.nsIn K mainGlobals "repr" = some none)
    (z_super : PySem.W.nsIn K mainGlobals "super" = some none)
    (z_tuple : PySem.W.nsIn K mainGlobals "tuple" = some none)
    (z_list : PySem.W.nsIn K mainGlobals "list" = some none)
    (z_zip : PySem.W.nsIn K mainGlobals "zip" = some none)
    (z_enumerate : PySem.W.nsIn K mainGlobals "enumerate" = some none)
    (g_MOST_PLOTS : PySem.W.nsIn K mainGlobals "MOST_PLOTS" = some (some (.int 4 t_MOST_PLOTS)))
    (g_MOST_UNITS : PySem.W.nsIn K mainGlobals "MOST_UNITS" = some (some (.int 8 t_MOST_UNITS)))
    (g_MOST_MOODS : PySem.W.nsIn K mainGlobals "MOST_MOODS" = some (some (.int 4 t_MOST_MOODS)))
    (g__MOST_DAYS : PySem.W.nsIn K mainGlobals "_MOST_DAYS" = some (some (.int 6 t__MOST_DAYS)))
    (g_BadNumber : PySem.W.nsIn K mainGlobals "BadNumber" = some (some (.ref C_BadNumber)))
    (x_BadNumber : K.lookup C_BadNumber = some (excClassObj nm_BadNumber qn_BadNumber C_BadNumber N_BadNumber bs_BadNumber bm_BadNumber true sn_BadNumber sub_BadNumber ab_BadNumber col_BadNumber dd_BadNumber m0_BadNumber m1_BadNumber m2_BadNumber m3_BadNumber m5_BadNumber "ValueError.__new__"))
    (r_BadNumber : PySem.HandSPX.refsVE bm_BadNumber = true)
    (sa_BadNumber : PySem.W.findIn K (.ref C_BadNumber) "__setattr__" = some (some (.builtin "object.__setattr__")))
    (ex_BadNumber : PySem.W.subIn K (.ref C_BadNumber) (.type "BaseException") = some true)
    (ty_BadNumber : PySem.W.typeIn K (.ref C_BadNumber) = some (.type "type"))
    (kp_BadNumber : PySem.W.keepIn K (.ref C_BadNumber) = true)
    (i_BadNumber : PySem.W.findIn K (.ref C_BadNumber) "__init__" = some (some (.ref f_BadNumber)))
    (l_BadNumber : K.lookup f_BadNumber = some ⟨oc_BadNumber, od_BadNumber, .func (PySem.W.fnX "__init__" "BadNumber.__init__" (defArgs sBadNumber___init__) (defBody sBadNumber___init__) (defScope sBadNumber___init__) [("__class__", cc_BadNumber)] .none kV_BadNumber doc_BadNumber pm_BadNumber an_BadNumber (.ref cda_BadNumber) ct_BadNumber), osl_BadNumber⟩)
    (cd_BadNumber : PySem.W.codeIn K (.ref cda_BadNumber) "BadNumber.__init__" = true)
    (cf_BadNumber : K.lookup cda_BadNumber = some ⟨ccl_BadNumber, cdd_BadNumber, .fields vs_BadNumber, ccs_BadNumber⟩)
    (v2_BadNumber : vs_BadNumber[2]? = some (.str fl_BadNumber tf_BadNumber))
    (fi_BadNumber : ((l.prog.main.file : Str) == fl_BadNumber) = true)
    (cl_BadNumber : K.lookup cc_BadNumber = some ⟨clv_BadNumber, cld_BadNumber, .cell (some (.ref C_BadNumber)), csl_BadNumber⟩)
    (mr_BadNumber : PySem.W.mroIn K C_BadNumber (.ref C_BadNumber) = some true)
    (sb_BadNumber : PySem.W.subIn K (.ref C_BadNumber) (.type "ValueError") = some true)
    (su_BadNumber : PySem.W.ks_superIn K C_BadNumber C_BadNumber "__init__" = some (some (.builtin "ValueError.__init__")))
    (ti_BadNumber : PySem.W.typeIn K (.ref f_BadNumber) = some (.type "function"))
    (ga_BadNumber : PySem.W.findIn K (.ref C_BadNumber) "__getattribute__" = some (some (.builtin "BaseException.__getattribute__")))
    (gg_BadNumber : PySem.W.findIn K (.ref C_BadNumber) "__getattr__" = some none)
    (hd_BadNumber : PySem.W.hasDictIn K C_BadNumber = true)
    (ha_BadNumber : PySem.W.findIn K (.ref C_BadNumber) "__class__" = some (some (.builtin "object.__class__")))
    (mo_BadNumber : PySem.W.mroIn K C_BadNumber (.type "object") = some true)
    (em_BadNumber : PySem.W.subIn K (.ref C_BadNumber) (.ref C_BadNumber) = some true)
    (nw_BadNumber : PySem.W.findIn K (.ref C_BadNumber) "what" = some none)
    (nv_BadNumber : PySem.W.findIn K (.ref C_BadNumber) "value" = some none)
    (nn_BadNumber : PySem.W.findIn K (.ref C_BadNumber) "name" = some none)
    (nt_BadNumber : PySem.W.findIn K (.ref C_BadNumber) "turn" = some none)
    (opq : PySem.W.nsIn K cStatics "thirdparty.any" = some none)
    (htop : (l.prog.main.scope.names.lookup ("super" : Str)).isSome = false)
    (spc : PySem.W.specialIn K (.builtin "object.__class__") "__get__" = some (some (.builtin "getset_descriptor.__get__")))
    (tks : PySem.W.takesIn K (.builtin "object.__class__") = some true)
    (g_Day : PySem.W.nsIn K mainGlobals "Day" = some (some (.ref C_Day)))
    (mk_Day : PySem.W.makesIn K C_Day = true)
    (kp_Day : PySem.W.keepIn K (.ref C_Day) = true)
    (pg_Day : PySem.W.plainGet K C_Day Str.empty = true)
    (hd_Day : PySem.W.hasDictIn K C_Day = true)
    (po_Day : PySem.W.plainOver K C_Day = true)
    (sa_Day : PySem.W.findIn K (.ref C_Day) "__setattr__" = some (some (.builtin "object.__setattr__")))
    (ne_Day : PySem.W.findIn K (.ref C_Day) "__ne__" = some (some (.builtin "object.__ne__")))
    (ob_Day : PySem.W.subIn K (.ref C_Day) (.type "object") = some true)
    (ha_Day : PySem.W.findIn K (.ref C_Day) "__class__" = some (some (.builtin "object.__class__")))
    (hm_Day : PySem.W.mroIn K C_Day (.type "object") = some true)
    (kk_Day : PySem.W.kitOne K (.ref C_Day) (.ref C_Day) = some true)
    (no_Day_dry : PySem.W.findIn K (.ref C_Day) "dry" = some none)
    (no_Day_rain : PySem.W.findIn K (.ref C_Day) "rain" = some none)
    (no_Day_fill : PySem.W.findIn K (.ref C_Day) "fill" = some none)
    (no_Day_mood : PySem.W.findIn K (.ref C_Day) "mood" = some none)
    (i_Day_init : PySem.W.findIn K (.ref C_Day) "__init__" = some (some (.ref f_Day_init)))
    (fn_Day_init : PySem.W.isFn K (.ref f_Day_init) = true)
    (l_Day_init : K.lookup f_Day_init = some ⟨oc_Day_init, od_Day_init, .func (PySem.W.fnOf "__init__" "Day.__init__" (defArgs sDay___init__) (defBody sDay___init__) (defScope sDay___init__) .none kV_Day_init dc_Day_init pm_Day_init an_Day_init cd_Day_init ct_Day_init), sl_Day_init⟩)
    (c_Day_init : PySem.W.codeIn K cd_Day_init "Day.__init__" = true)
    (k_Day_init : PySem.W.keepIn K (.ref f_Day_init) = true)
    (i_Day_eq : PySem.W.findIn K (.ref C_Day) "__eq__" = some (some (.ref f_Day_eq)))
    (fn_Day_eq : PySem.W.isFn K (.ref f_Day_eq) = true)
    (l_Day_eq : K.lookup f_Day_eq = some ⟨oc_Day_eq, od_Day_eq, .func (PySem.W.fnOf "__eq__" "Day.__eq__" (defArgs sDay___eq__) (defBody sDay___eq__) (defScope sDay___eq__) .none kV_Day_eq dc_Day_eq pm_Day_eq an_Day_eq cd_Day_eq ct_Day_eq), sl_Day_eq⟩)
    (c_Day_eq : PySem.W.codeIn K cd_Day_eq "Day.__eq__" = true)
    (k_Day_eq : PySem.W.keepIn K (.ref f_Day_eq) = true)
    (g_Weather : PySem.W.nsIn K mainGlobals "Weather" = some (some (.ref C_Weather)))
    (mk_Weather : PySem.W.makesIn K C_Weather = true)
    (kp_Weather : PySem.W.keepIn K (.ref C_Weather) = true)
    (pg_Weather : PySem.W.plainGet K C_Weather Str.empty = true)
    (hd_Weather : PySem.W.hasDictIn K C_Weather = true)
    (po_Weather : PySem.W.plainOver K C_Weather = true)
    (sa_Weather : PySem.W.findIn K (.ref C_Weather) "__setattr__" = some (some (.builtin "object.__setattr__")))
    (ne_Weather : PySem.W.findIn K (.ref C_Weather) "__ne__" = some (some (.builtin "object.__ne__")))
    (ob_Weather : PySem.W.subIn K (.ref C_Weather) (.type "object") = some true)
    (ha_Weather : PySem.W.findIn K (.ref C_Weather) "__class__" = some (some (.builtin "object.__class__")))
    (hm_Weather : PySem.W.mroIn K C_Weather (.type "object") = some true)
    (kk_Weather : PySem.W.kitOne K (.ref C_Weather) (.ref C_Weather) = some true)
    (no_Weather_moods : PySem.W.findIn K (.ref C_Weather) "moods" = some none)
    (no_Weather_width : PySem.W.findIn K (.ref C_Weather) "width" = some none)
    (i_Weather_init : PySem.W.findIn K (.ref C_Weather) "__init__" = some (some (.ref f_Weather_init)))
    (fn_Weather_init : PySem.W.isFn K (.ref f_Weather_init) = true)
    (l_Weather_init : K.lookup f_Weather_init = some ⟨oc_Weather_init, od_Weather_init, .func (PySem.W.fnOf "__init__" "Weather.__init__" (defArgs sWeather___init__) (defBody sWeather___init__) (defScope sWeather___init__) .none kV_Weather_init dc_Weather_init pm_Weather_init an_Weather_init cd_Weather_init ct_Weather_init), sl_Weather_init⟩)
    (c_Weather_init : PySem.W.codeIn K cd_Weather_init "Weather.__init__" = true)
    (k_Weather_init : PySem.W.keepIn K (.ref f_Weather_init) = true)
    (i_Weather_eq : PySem.W.findIn K (.ref C_Weather) "__eq__" = some (some (.ref f_Weather_eq)))
    (fn_Weather_eq : PySem.W.isFn K (.ref f_Weather_eq) = true)
    (l_Weather_eq : K.lookup f_Weather_eq = some ⟨oc_Weather_eq, od_Weather_eq, .func (PySem.W.fnOf "__eq__" "Weather.__eq__" (defArgs sWeather___eq__) (defBody sWeather___eq__) (defScope sWeather___eq__) .none kV_Weather_eq dc_Weather_eq pm_Weather_eq an_Weather_eq cd_Weather_eq ct_Weather_eq), sl_Weather_eq⟩)
    (c_Weather_eq : PySem.W.codeIn K cd_Weather_eq "Weather.__eq__" = true)
    (k_Weather_eq : PySem.W.keepIn K (.ref f_Weather_eq) = true)
    (i_Weather_len : PySem.W.findIn K (.ref C_Weather) "__len__" = some (some (.ref f_Weather_len)))
    (fn_Weather_len : PySem.W.isFn K (.ref f_Weather_len) = true)
    (l_Weather_len : K.lookup f_Weather_len = some ⟨oc_Weather_len, od_Weather_len, .func (PySem.W.fnOf "__len__" "Weather.__len__" (defArgs sWeather___len__) (defBody sWeather___len__) (defScope sWeather___len__) .none kV_Weather_len dc_Weather_len pm_Weather_len an_Weather_len cd_Weather_len ct_Weather_len), sl_Weather_len⟩)
    (c_Weather_len : PySem.W.codeIn K cd_Weather_len "Weather.__len__" = true)
    (k_Weather_len : PySem.W.keepIn K (.ref f_Weather_len) = true)
    (i_Weather_get : PySem.W.findIn K (.ref C_Weather) "__getitem__" = some (some (.ref f_Weather_get)))
    (fn_Weather_get : PySem.W.isFn K (.ref f_Weather_get) = true)
    (l_Weather_get : K.lookup f_Weather_get = some ⟨oc_Weather_get, od_Weather_get, .func (PySem.W.fnOf "__getitem__" "Weather.__getitem__" (defArgs sWeather___getitem__) (defBody sWeather___getitem__) (defScope sWeather___getitem__) .none kV_Weather_get dc_Weather_get pm_Weather_get an_Weather_get cd_Weather_get ct_Weather_get), sl_Weather_get⟩)
    (c_Weather_get : PySem.W.codeIn K cd_Weather_get "Weather.__getitem__" = true)
    (k_Weather_get : PySem.W.keepIn K (.ref f_Weather_get) = true)
    (fg_Weather : PySem.W.fnIn K f_Weather_get = true)
    (rd_Weather : PySem.W.readsIn K C_Weather (.type "type") = true)
    (rg_Weather : PySem.W.specialIn K (.ref C_Weather) "__getattribute__" = some (some (.builtin "type.__getattribute__")))
    (i_Weather_steady : PySem.W.findCls K (.ref C_Weather) (.type "type") "steady" = some (.get (.builtin "staticmethod.__get__") (.ref p_Weather_steady) .none (.ref C_Weather)))
    (r_Weather_steady : PySem.W.recIn K p_Weather_steady "staticmethod" = some (.ref f_Weather_steady :: rest_Weather_steady))
    (l_Weather_steady : K.lookup f_Weather_steady = some ⟨oc_Weather_steady, od_Weather_steady, .func (PySem.W.fnOf "steady" "Weather.steady" (defArgs sWeather_steady) (defBody sWeather_steady) (defScope sWeather_steady) .none kV_Weather_steady dc_Weather_steady pm_Weather_steady an_Weather_steady cd_Weather_steady ct_Weather_steady), sl_Weather_steady⟩)
    (c_Weather_steady : PySem.W.codeIn K cd_Weather_steady "Weather.steady" = true)
    (k_Weather_steady : PySem.W.keepIn K (.ref f_Weather_steady) = true)
    (i_Weather_seasons : PySem.W.findCls K (.ref C_Weather) (.type "type") "seasons" = some (.get (.builtin "staticmethod.__get__") (.ref p_Weather_seasons) .none (.ref C_Weather)))
    (r_Weather_seasons : PySem.W.recIn K p_Weather_seasons "staticmethod" = some (.ref f_Weather_seasons :: rest_Weather_seasons))
    (l_Weather_seasons : K.lookup f_Weather_seasons = some ⟨oc_Weather_seasons, od_Weather_seasons, .func (PySem.W.fnOf "seasons" "Weather.seasons" (defArgs sWeather_seasons) (defBody sWeather_seasons) (defScope sWeather_seasons) .none kV_Weather_seasons dc_Weather_seasons pm_Weather_seasons an_Weather_seasons cd_Weather_seasons ct_Weather_seasons), sl_Weather_seasons⟩)
    (c_Weather_seasons : PySem.W.codeIn K cd_Weather_seasons "Weather.seasons" = true)
    (k_Weather_seasons : PySem.W.keepIn K (.ref f_Weather_seasons) = true) :
    ∃ fd : FuncData, (∀ (s : Shared) (v : Value), BindsTo s fd ⟨[v], []⟩ [("script", v)]) ∧ ∀ base : Heap, K.In base → base.Ns mainGlobals mg → FnOk l.prog w K mg base CX0 12 fa fd ["script"] (splaw K) := by
  have e := hfa.symm.trans (PySem.W.mg_of X G a10)
  cases e
  have T : Txt K mg := ⟨PySem.W.mg_none_of X G z_len, PySem.W.mg_none_of X G z_abs, PySem.W.mg_none_of X G z_int, PySem.W.mg_none_of X G z_bool, PySem.W.mg_none_of X G z_str, PySem.W.mg_none_of X G z_range, PySem.W.mg_none_of X G z_all, PySem.W.mg_none_of X G z_isinstance, PySem.W.mg_none_of X G z_repr, PySem.W.mg_none_of X G z_super, PySem.W.mg_none_of X G z_tuple, PySem.W.mg_none_of X G z_list, PySem.W.mg_none_of X G z_zip, PySem.W.mg_none_of X G z_enumerate, ⟨_, PySem.W.mg_of X G g_MOST_PLOTS⟩, ⟨_, PySem.W.mg_of X G g_MOST_UNITS⟩, ⟨_, PySem.W.mg_of X G g_MOST_MOODS⟩, ⟨_, PySem.W.mg_of X G g__MOST_DAYS⟩⟩
  have E_BadNumber : ErrC l.prog K mg "BadNumber" "BadNumber.__init__" C_BadNumber f_BadNumber cda_BadNumber cc_BadNumber := ⟨PySem.W.mg_of X G g_BadNumber, ⟨⟨⟨_, _, _, _, _, _, _, _, _, _, _, _, _, _, _, x_BadNumber, r_BadNumber⟩, sa_BadNumber, ex_BadNumber, ty_BadNumber, kp_BadNumber⟩, cd_BadNumber, ⟨_, _, _, _, _, _, cf_BadNumber, v2_BadNumber, fi_BadNumber⟩, ⟨_, _, _, cl_BadNumber⟩, T.b_super, htop, mr_BadNumber, sb_BadNumber, su_BadNumber, opq⟩, i_BadNumber, ti_BadNumber, ⟨ga_BadNumber, gg_BadNumber, ex_BadNumber, hd_BadNumber⟩, ⟨ga_BadNumber, gg_BadNumber, ex_BadNumber, hd_BadNumber, ha_BadNumber, spc, tks, mo_BadNumber⟩, PySem.W.exm_ref ex_BadNumber hd_BadNumber ty_BadNumber em_BadNumber, nw_BadNumber, nv_BadNumber, nn_BadNumber, nt_BadNumber⟩
  have F_Day_init := fun_mk (st := sDay___init__) l_Day_init c_Day_init k_Day_init
  have b_Day_init := F_Day_init.binds (ps := PDay___init__) fun _ _ _ _ _ _ us hl => match us, hl with | [_, _, _, _, _], _ => rfl
  have F_Day_eq := fun_mk (st := sDay___eq__) l_Day_eq c_Day_eq k_Day_eq
  have b_Day_eq := F_Day_eq.binds (ps := PDay___eq__) fun _ _ _ _ _ _ us hl => match us, hl with | [_, _], _ => rfl
  have D_Day : DatC K mg "Day" C_Day f_Day_init f_Day_eq ["dry", "rain", "fill", "mood"] := ⟨PySem.W.mg_of X G g_Day, ⟨mk_Day, i_Day_init, fn_Day_init, kp_Day⟩, ⟨pg_Day, hd_Day, po_Day, sa_Day⟩, (fun f hf => by
    simp only [List.mem_cons, List.not_mem_nil, or_false] at hf
    rcases hf with rfl | rfl | rfl | rfl
    · exact no_Day_dry
    · exact no_Day_rain
    · exact no_Day_fill
    · exact no_Day_mood), i_Day_eq, fn_Day_eq, ne_Day, ob_Day, ha_Day, spc, tks, hm_Day, kk_Day⟩
  have F_Weather_init := fun_mk (st := sWeather___init__) l_Weather_init c_Weather_init k_Weather_init
  have F_Weather_eq := fun_mk (st := sWeather___eq__) l_Weather_eq c_Weather_eq k_Weather_eq
  have b_Weather_eq := F_Weather_eq.binds (ps := PWeather___eq__) fun _ _ _ _ _ _ us hl => match us, hl with | [_, _], _ => rfl
  have F_Weather_len := fun_mk (st := sWeather___len__) l_Weather_len c_Weather_len k_Weather_len
  have b_Weather_len := F_Weather_len.binds (ps := PWeather___len__) fun _ _ _ _ _ _ us hl => match us, hl with | [_], _ => rfl
  have F_Weather_get := fun_mk (st := sWeather___getitem__) l_Weather_get c_Weather_get k_Weather_get
  have b_Weather_get := F_Weather_get.binds (ps := PWeather___getitem__) fun _ _ _ _ _ _ us hl => match us, hl with | [_, _], _ => rfl
  have D_Weather : DatC K mg "Weather" C_Weather f_Weather_init f_Weather_eq ["moods", "width"] := ⟨PySem.W.mg_of X G g_Weather, ⟨mk_Weather, i_Weather_init, fn_Weather_init, kp_Weather⟩, ⟨pg_Weather, hd_Weather, po_Weather, sa_Weather⟩, (fun f hf => by
    simp only [List.mem_cons, List.not_mem_nil, or_false] at hf
    rcases hf with rfl | rfl
    · exact no_Weather_moods
    · exact no_Weather_width), i_Weather_eq, fn_Weather_eq, ne_Weather, ob_Weather, ha_Weather, spc, tks, hm_Weather, kk_Weather⟩
  have R_Weather : ClX.CRead K C_Weather (.type "type") := ⟨rd_Weather, rg_Weather⟩
  have F_Weather_steady := fun_mk (st := sWeather_steady) l_Weather_steady c_Weather_steady k_Weather_steady
  have b_Weather_steady := F_Weather_steady.binds (ps := PWeather_steady) fun _ _ _ _ _ _ us hl => match us, hl with | [_, _, _], _ => rfl
  have S_Weather_steady : SMet K C_Weather (.type "type") "steady" p_Weather_steady f_Weather_steady := ⟨i_Weather_steady, ⟨_, r_Weather_steady⟩, k_Weather_steady⟩
  have F_Weather_seasons := fun_mk (st := sWeather_seasons) l_Weather_seasons c_Weather_seasons k_Weather_seasons
  have S_Weather_seasons : SMet K C_Weather (.type "type") "seasons" p_Weather_seasons f_Weather_seasons := ⟨i_Weather_seasons, ⟨_, r_Weather_seasons⟩, k_Weather_seasons⟩
  have F0 := fun_mk (st := s_shown) l0 c0 k0
  have b0 := F0.binds (ps := P_shown) fun _ _ _ _ _ _ us hl => match us, hl with | [_], _ => rfl
  have F1 := fun_mk (st := scheck_number) l1 c1 k1
  have b1 := F1.binds (ps := Pcheck_number) fun _ _ _ _ _ _ us hl => match us, hl with | [_, _, _, _], _ => rfl
  have F2 := fun_mk (st := scheck_units) l2 c2 k2
  have b2 := F2.binds (ps := Pcheck_units) fun _ _ _ _ _ _ us hl => match us, hl with | [_, _], _ => rfl
  have F3 := fun_mk (st := s_check_days) l3 c3 k3
  have b3 := F3.binds (ps := P_check_days) fun _ _ _ _ _ _ us hl => match us, hl with | [_], _ => rfl
  have F4 := fun_mk (st := s_law_start) l4 c4 k4
  have b4 := F4.binds (ps := P_law_start) fun _ _ _ _ _ _ us hl => match us, hl with | [_], _ => rfl
  have F5 := fun_mk (st := s_law_draw) l5 c5 k5
  have b5 := F5.binds (ps := P_law_draw) fun _ _ _ _ _ _ us hl => match us, hl with | [_, _, _], _ => rfl
  have F6 := fun_mk (st := s_law_made) l6 c6 k6
  have b6 := F6.binds (ps := P_law_made) fun _ _ _ _ _ _ us hl => match us, hl with | [_], _ => rfl
  have F7 := fun_mk (st := s_law_steady) l7 c7 k7
  have b7 := F7.binds (ps := P_law_steady) fun _ _ _ _ _ _ us hl => match us, hl with | [_], _ => rfl
  have F8 := fun_mk (st := s_law_row) l8 c8 k8
  have b8 := F8.binds (ps := P_law_row) fun _ _ _ _ _ _ us hl => match us, hl with | [_, _, _], _ => rfl
  have F9 := fun_mk (st := s_law_refusals_hold) l9 c9 k9
  have b9 := F9.binds (ps := P_law_refusals_hold) fun _ _ _ _ _ _ us hl => match us, hl with | [_, _, _, _], _ => rfl
  have F10 := fun_mk (st := slaw) l10 c10 k10
  have bI_BadNumber : Binds K (PySem.W.fnX "__init__" "BadNumber.__init__" (defArgs sBadNumber___init__) (defBody sBadNumber___init__) (defScope sBadNumber___init__) [("__class__", cc_BadNumber)] .none kV_BadNumber doc_BadNumber pm_BadNumber an_BadNumber (.ref cda_BadNumber) ct_BadNumber) PBadNumber___init__ [] := .all fun us hl => match us, hl with | [_, _, _], _ => rfl
  refine ⟨PySem.W.fnOf "law" "law" (defArgs slaw) (defBody slaw) (defScope slaw) .none kV10 dc10 pm10 an10 cd10 ct10, fun s v => .of_eq rfl, fun base _ _ => ?_⟩
  have C_shown := Cal.mk (ok_shown (P := l.prog) (w := w) (base := base) F0 T) (PySem.W.mg_of X G a0) k0 b0
  have G_BadNumber := okBadNumber___init__ (P := l.prog) (w := w) (base := base) l_BadNumber E_BadNumber T C_shown
  have Gcheck_number := okcheck_number (P := l.prog) (w := w) (base := base) F1 T E_BadNumber G_BadNumber bI_BadNumber
  have Gcheck_units := okcheck_units (P := l.prog) (w := w) (base := base) F2 T (C_BadNumber := C_BadNumber) ⟨_, _, Gcheck_number, PySem.W.mg_of X G a1, k1, b1⟩
  have GDay___init__ := okDay___init__ (P := l.prog) (w := w) (base := base) F_Day_init T (C_BadNumber := C_BadNumber) D_Day ⟨_, _, Gcheck_number, PySem.W.mg_of X G a1, k1, b1⟩ ⟨_, _, Gcheck_units, PySem.W.mg_of X G a2, k2, b2⟩
  have GDay___eq__ := okDay___eq__ (P := l.prog) (w := w) (base := base) F_Day_eq T (C_BadNumber := C_BadNumber) D_Day
  have G_check_days := ok_check_days (P := l.prog) (w := w) (base := base) F3 T (C_BadNumber := C_BadNumber) D_Day D_Weather ⟨_, _, Gcheck_number, PySem.W.mg_of X G a1, k1, b1⟩
  have GWeather___init__ := okWeather___init__ (P := l.prog) (w := w) (base := base) F_Weather_init T (C_BadNumber := C_BadNumber) D_Day D_Weather ⟨_, _, Gcheck_number, PySem.W.mg_of X G a1, k1, b1⟩ ⟨_, _, G_check_days, PySem.W.mg_of X G a3, k3, b3⟩
  have GWeather___eq__ := okWeather___eq__ (P := l.prog) (w := w) (base := base) F_Weather_eq T (C_BadNumber := C_BadNumber) D_Day D_Weather GDay___eq__ b_Day_eq
  have GWeather___len__ := okWeather___len__ (P := l.prog) (w := w) (base := base) F_Weather_len T (C_BadNumber := C_BadNumber) D_Day D_Weather
  have GWeather___getitem__ := okWeather___getitem__ (P := l.prog) (w := w) (base := base) F_Weather_get T (C_BadNumber := C_BadNumber) D_Day D_Weather ⟨_, _, Gcheck_number, PySem.W.mg_of X G a1, k1, b1⟩
  have GWeather_steady := okWeather_steady (P := l.prog) (w := w) (base := base) F_Weather_steady T (C_BadNumber := C_BadNumber) D_Day D_Weather GDay___init__ b_Day_init GWeather___init__
  have GWeather_seasons := okWeather_seasons (P := l.prog) (w := w) (base := base) F_Weather_seasons T (C_BadNumber := C_BadNumber) D_Day D_Weather GDay___init__ b_Day_init GWeather___init__ ⟨_, _, Gcheck_number, PySem.W.mg_of X G a1, k1, b1⟩
  have C_law_start := Cal.mk (ok_law_start (P := l.prog) (w := w) (base := base) F4 T) (PySem.W.mg_of X G a4) k4 b4
  have C_law_draw := Cal.mk (ok_law_draw (P := l.prog) (w := w) (base := base) F5 T) (PySem.W.mg_of X G a5) k5 b5
  have C_law_made := Cal.mk (ok_law_made (P := l.prog) (w := w) (base := base) F6 T E_BadNumber G_BadNumber bI_BadNumber D_Weather R_Weather S_Weather_seasons GWeather_seasons) (PySem.W.mg_of X G a6) k6 b6
  have C_law_steady := Cal.mk (ok_law_steady (P := l.prog) (w := w) (base := base) F7 T E_BadNumber G_BadNumber bI_BadNumber D_Weather R_Weather S_Weather_steady GWeather_steady b_Weather_steady) (PySem.W.mg_of X G a7) k7 b7
  have C_law_row := Cal.mk (ok_law_row (P := l.prog) (w := w) (base := base) F8 T C_law_draw) (PySem.W.mg_of X G a8) k8 b8
  have C_law_refusals_hold := Cal.mk (ok_law_refusals_hold (P := l.prog) (w := w) (base := base) F9 T C_law_draw C_law_made C_law_steady) (PySem.W.mg_of X G a9) k9 b9
  exact oklaw (P := l.prog) (w := w) (base := base) F10 T D_Day D_Weather GDay___init__ b_Day_init GWeather___init__ ⟨i_Weather_len, fn_Weather_len⟩ ⟨i_Weather_get, fg_Weather, fn_Weather_get⟩ GDay___eq__ b_Day_eq GWeather___eq__ b_Weather_eq GWeather___len__ b_Weather_len GWeather___getitem__ b_Weather_get C_law_start C_law_draw C_law_row C_law_made C_law_steady C_law_refusals_hold
theorem walk {l : PySem.W.OpenLaw} {q : Program} {loose : List Str} {XP : (Str → Option Value) → Heap → Prop} {YP : World → Heap → Prop} {d : DefRec} {K : Params → PySem.W.Frag} (hn : l.most = some 63) (hdf : d.params.defaults = [])
    (hY : ∀ (w : World) (h : Heap), YP w h → (K w.params).In h)
    (F : ∀ (w : World) (mg : Str → Option Value) (fa : Addr) (h : Heap), (K w.params).In h → h.Ns mainGlobals mg → mg d.name = some (.ref fa) →
      ∃ fd : FuncData, (∀ (s : Shared) (u : Value), BindsTo s fd ⟨[u], []⟩ [("script", u)]) ∧ ∀ base : Heap, (K w.params).In base → base.Ns mainGlobals mg → FnOk l.prog w (K w.params) mg base CX0 12 fa fd ["script"] (splaw (K w.params))) :
    PySem.W.WalkO q loose XP YP l.row.toRowW d [] (fun f vs => PySem.call f vs) :=
  L2.walk_of (n := 63) (k := 12) (x := "script") (CX := fun _ => CX0) (sp := fun w => splaw (K w.params)) hn (by decide) hdf ⟨rfl, by decide, by decide⟩ hY F (fun _ _ a ns hl _ hS => ⟨a, ns, rfl, hS, hl, fun _ => rfl⟩) fun _ _ _ _ _ z => z
end
end Wb
open PySem PySem.W PyProof.Rows in
set_option maxRecDepth 100000 in
set_option maxHeartbeats 0 in
theorem PySem.Challenge.cw_waterbyturns_k12_seasons_and_steady_weat_holds : PySem.Challenge.rw_waterbyturns_k12_seasons_and_steady_weat.Holds := by
  w_on; o_law; k_head; (case hw => w_witness2)
  k_fill
  refine Wb.walk (l := PySem.Challenge.rw_waterbyturns_k12_seasons_and_steady_weat) rfl rfl (fun w h Y => PySem.W.kIn_of Y) ?F
  case F =>
    intro w mg fa h KX G hmg
    refine' Wb.all_mk KX G hmg ?a0 ?l0 ?c0 ?k0 ?a1 ?l1 ?c1 ?k1 ?a2 ?l2 ?c2 ?k2 ?a3 ?l3 ?c3 ?k3 ?a4 ?l4 ?c4 ?k4 ?a5 ?l5 ?c5 ?k5 ?a6 ?l6 ?c6 ?k6 ?a7 ?l7 ?c7 ?k7 ?a8 ?l8 ?c8 ?k8 ?a9 ?l9 ?c9 ?k9 ?a10 ?l10 ?c10 ?k10 ?z_len ?z_abs ?z_int ?z_bool ?z_str ?z_range ?z_all ?z_isinstance ?z_repr ?z_super ?z_tuple ?z_list ?z_zip ?z_enumerate ?g_MOST_PLOTS ?g_MOST_UNITS ?g_MOST_MOODS ?g__MOST_DAYS ?g_BadNumber ?x_BadNumber ?r_BadNumber ?sa_BadNumber ?ex_BadNumber ?ty_BadNumber ?kp_BadNumber ?i_BadNumber ?l_BadNumber ?cd_BadNumber ?cf_BadNumber ?v2_BadNumber ?fi_BadNumber ?cl_BadNumber ?mr_BadNumber ?sb_BadNumber ?su_BadNumber ?ti_BadNumber ?ga_BadNumber ?gg_BadNumber ?hd_BadNumber ?ha_BadNumber ?mo_BadNumber ?em_BadNumber ?nw_BadNumber ?nv_BadNumber ?nn_BadNumber ?nt_BadNumber ?opq ?htop ?spc ?tks ?g_Day ?mk_Day ?kp_Day ?pg_Day ?hd_Day ?po_Day ?sa_Day ?ne_Day ?ob_Day ?ha_Day ?hm_Day ?kk_Day ?no_Day_dry ?no_Day_rain ?no_Day_fill ?no_Day_mood ?i_Day_init ?fn_Day_init ?l_Day_init ?c_Day_init ?k_Day_init ?i_Day_eq ?fn_Day_eq ?l_Day_eq ?c_Day_eq ?k_Day_eq ?g_Weather ?mk_Weather ?kp_Weather ?pg_Weather ?hd_Weather ?po_Weather ?sa_Weather ?ne_Weather ?ob_Weather ?ha_Weather ?hm_Weather ?kk_Weather ?no_Weather_moods ?no_Weather_width ?i_Weather_init ?fn_Weather_init ?l_Weather_init ?c_Weather_init ?k_Weather_init ?i_Weather_eq ?fn_Weather_eq ?l_Weather_eq ?c_Weather_eq ?k_Weather_eq ?i_Weather_len ?fn_Weather_len ?l_Weather_len ?c_Weather_len ?k_Weather_len ?i_Weather_get ?fn_Weather_get ?l_Weather_get ?c_Weather_get ?k_Weather_get ?fg_Weather ?rd_Weather ?rg_Weather ?i_Weather_steady ?r_Weather_steady ?l_Weather_steady ?c_Weather_steady ?k_Weather_steady ?i_Weather_seasons ?r_Weather_seasons ?l_Weather_seasons ?c_Weather_seasons ?k_Weather_seasons
    (case a0 => k_is)
    (case l0 => k_is)
    (case c0 => k_is)
    (case k0 => k_is)
    (case a1 => k_is)
    (case l1 => k_is)
    (case c1 => k_is)
    (case k1 => k_is)
    (case a2 => k_is)
    (case l2 => k_is)
    (case c2 => k_is)
    (case k2 => k_is)
    (case a3 => k_is)
    (case l3 => k_is)
    (case c3 => k_is)
    (case k3 => k_is)
    (case a4 => k_is)
    (case l4 => k_is)
    (case c4 => k_is)
    (case k4 => k_is)
    (case a5 => k_is)
    (case l5 => k_is)
    (case c5 => k_is)
    (case k5 => k_is)
    (case a6 => k_is)
    (case l6 => k_is)
    (case c6 => k_is)
    (case k6 => k_is)
    (case a7 => k_is)
    (case l7 => k_is)
    (case c7 => k_is)
    (case k7 => k_is)
    (case a8 => k_is)
    (case l8 => k_is)
    (case c8 => k_is)
    (case k8 => k_is)
    (case a9 => k_is)
    (case l9 => k_is)
    (case c9 => k_is)
    (case k9 => k_is)
    (case a10 => k_is)
    (case l10 => k_is)
    (case c10 => k_is)
    (case k10 => k_is)
    (case z_len => k_is)
    (case z_abs => k_is)
    (case z_int => k_is)
    (case z_bool => k_is)
    (case z_str => k_is)
    (case z_range => k_is)
    (case z_all => k_is)
    (case z_isinstance => k_is)
    (case z_repr => k_is)
    (case z_super => k_is)
    (case z_tuple => k_is)
    (case z_list => k_is)
    (case z_zip => k_is)
    (case z_enumerate => k_is)
    (case g_MOST_PLOTS => k_is)
    (case g_MOST_UNITS => k_is)
    (case g_MOST_MOODS => k_is)
    (case g__MOST_DAYS => k_is)
    (case g_BadNumber => k_is)
    (case x_BadNumber => k_is)
    (case r_BadNumber => first | rfl | decide +kernel)
    (case sa_BadNumber => k_is)
    (case ex_BadNumber => k_is)
    (case ty_BadNumber => k_is)
    (case kp_BadNumber => k_is)
    (case i_BadNumber => k_is)
    (case l_BadNumber => k_is)
    (case cd_BadNumber => k_is)
    (case cf_BadNumber => k_is)
    (case v2_BadNumber => first | rfl | decide +kernel)
    (case fi_BadNumber => first | rfl | decide +kernel)
    (case cl_BadNumber => k_is)
    (case mr_BadNumber => k_is)
    (case sb_BadNumber => k_is)
    (case su_BadNumber => ks_is)
    (case ti_BadNumber => k_is)
    (case ga_BadNumber => k_is)
    (case gg_BadNumber => k_is)
    (case hd_BadNumber => k_is)
    (case ha_BadNumber => k_is)
    (case mo_BadNumber => k_is)
    (case em_BadNumber => k_is)
    (case nw_BadNumber => k_is)
    (case nv_BadNumber => k_is)
    (case nn_BadNumber => k_is)
    (case nt_BadNumber => k_is)
    (case opq => k_is)
    (case htop => first | rfl | decide +kernel)
    (case spc => k_is)
    (case tks => k_is)
    (case g_Day => k_is)
    (case mk_Day => k_is)
    (case kp_Day => k_is)
    (case pg_Day => k_is)
    (case hd_Day => k_is)
    (case po_Day => k_is)
    (case sa_Day => k_is)
    (case ne_Day => k_is)
    (case ob_Day => k_is)
    (case ha_Day => k_is)
    (case hm_Day => k_is)
    (case kk_Day => first | k_is | kit_is)
    (case no_Day_dry => k_is)
    (case no_Day_rain => k_is)
    (case no_Day_fill => k_is)
    (case no_Day_mood => k_is)
    (case i_Day_init => k_is)
    (case fn_Day_init => k_is)
    (case l_Day_init => k_is)
    (case c_Day_init => k_is)
    (case k_Day_init => k_is)
    (case i_Day_eq => k_is)
    (case fn_Day_eq => k_is)
    (case l_Day_eq => k_is)
    (case c_Day_eq => k_is)
    (case k_Day_eq => k_is)
    (case g_Weather => k_is)
    (case mk_Weather => k_is)
    (case kp_Weather => k_is)
    (case pg_Weather => k_is)
    (case hd_Weather => k_is)
    (case po_Weather => k_is)
    (case sa_Weather => k_is)
    (case ne_Weather => k_is)
    (case ob_Weather => k_is)
    (case ha_Weather => k_is)
    (case hm_Weather => k_is)
    (case kk_Weather => first | k_is | kit_is)
    (case no_Weather_moods => k_is)
    (case no_Weather_width => k_is)
    (case i_Weather_init => k_is)
    (case fn_Weather_init => k_is)
    (case l_Weather_init => k_is)
    (case c_Weather_init => k_is)
    (case k_Weather_init => k_is)
    (case i_Weather_eq => k_is)
    (case fn_Weather_eq => k_is)
    (case l_Weather_eq => k_is)
    (case c_Weather_eq => k_is)
    (case k_Weather_eq => k_is)
    (case i_Weather_len => k_is)
    (case fn_Weather_len => k_is)
    (case l_Weather_len => k_is)
    (case c_Weather_len => k_is)
    (case k_Weather_len => k_is)
    (case i_Weather_get => k_is)
    (case fn_Weather_get => k_is)
    (case l_Weather_get => k_is)
    (case c_Weather_get => k_is)
    (case k_Weather_get => k_is)
    (case fg_Weather => k_is)
    (case rd_Weather => k_is)
    (case rg_Weather => k_is)
    (case i_Weather_steady => k_is)
    (case r_Weather_steady => first | rfl | decide +kernel)
    (case l_Weather_steady => k_is)
    (case c_Weather_steady => k_is)
    (case k_Weather_steady => k_is)
    (case i_Weather_seasons => k_is)
    (case r_Weather_seasons => first | rfl | decide +kernel)
    (case l_Weather_seasons => k_is)
    (case c_Weather_seasons => k_is)
    (case k_Weather_seasons => k_is)

