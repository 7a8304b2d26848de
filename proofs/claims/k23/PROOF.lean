import PyProof.Rows.All
import Wide.All
import OpenK.AllK
import Wide.FinOn
import HandS.ForMost
import HandS.Exc
import HandS.ExcInit
import HandS.Nested
import HandS.WordsExc
import KE.KExcSuper
import HandS.ExcIs
import HandS.ExcField
import HandS.IsInst
import HandS.FStr
import HandS.RaiseMore
import KE.KExcIs
import PyProof.NeKinds
import PyProof.CallStr
import HandS.Text
import PyProof.InstNe
import HandS.SlotsOwn
import HandS.OwnEq
import KE.KCallOwn
import HandS.Zip
import HandS.Walk
import HandS.Star
import PyProof.Rows.FinIter
import KE.KOpsOwn
import OpenK.KMeth
import OpenK.KOps
import PyProof.TwoTypes
import PyProof.FactsAll.int_1
import KE.GoesMore
import PyProof.Draws
import PyProof.EnumMake
import HandS.Iter
import HandS.ClsMeth
import HandS.ExcOwn
import HandS.Wide
import KE.IntTextLaws
import HandS.Codes
import PySem.Challenge.RW_waterbyturns_k23_games_that_are_refused
set_option Elab.async false
set_option linter.all false
set_option maxRecDepth 100000
set_option maxHeartbeats 4000000
namespace Wx
open PySem PySem.Spec PyProof.Rows L2 NdefX
/-! super().__init__(..) in the __init__ of an own exception class whose line goes over own classes to ValueError -/
section
variable {prog : Program} {w : World} {A : Around} {E : Value → Shared → Prop} {hp : Heap} {g : Array GenState} {d : Drawn} {t : Nat} {os : OsState}
theorem mw_called {u x t0 : Addr} {us : List Value} {Q : Value → Shared → Prop} {C N : Addr} {nm q : Str} {bs bm : List Value} {hdct : Bool} {sn : List Str} {sub : List Value} {ab : Bool} {col : Option Bool} {dd : Option Addr} {k0 k1 k2 k3 k5 : Option Value}
    (cC : hp.get? C = some (excClassObj nm q C N bs bm hdct sn sub ab col dd k0 k1 k2 k3 k5 "ValueError.__new__")) (cx : hp.get? x = some (PySem.HandSPX.excO C t0)) (cu : hp.get? u = some (PySem.W.kxs_mw "ValueError.__init__" x)) (hl : us.length ≤ sizeLine)
    (fin : ∀ h' t1, (∀ b o, b ≠ x → hp.get? b = some o → h'.get? b = some o) → h'.get? x = some (PySem.HandSPX.excO C t1) → Q .none ⟨h', g, d, t, os⟩) : wpAny (model prog w) A (call (.ref u) us) Q E ⟨hp, g, d, t, os⟩ := by
  refine wpAny_call (codeAny_of_tree ?_)
  show wpAny _ A.in1 (callAny (Value.ref u) (Args.mk us [])) _ _ _
  unfold callAny
  dsimp only
  refine wpAny_bind (wpAny_load cu ?_)
  have mt : (Value.type "method-wrapper" == Value.type "method" || Value.type "method-wrapper" == Value.type "builtin_function_or_method" || Value.type "method-wrapper" == Value.type "method-wrapper") = true := by decide
  simp only [PySem.W.kxs_mw, mt, if_true]
  refine PySem.W.KFB.if_so (by decide) (wpAny_bind (PySem.W.check_bound_init F.excBase_ValueError.toExcCallFacts cC cx rfl (wpAny_bind (wpAny_pure (wpAny_pure ?_)))))
  refine And.intro (plainId_quiet F.excBase_ValueError.init.plain _) (codeAny_builtin F.excBase_ValueError.initEntry ?_)
  exact PySem.W.exc_init_tree (cls := Value.ref C) (t0 := t0) (dv := Option.none) (c2 := Value.none) (c3 := Value.none) (b4 := Value.bool false) cx hl fun h' k e _ => fin h' _ k e
end
/-- the first statement: super().__init__(e, ..) -/
abbrev stSuper (p0 p1 p2 p3 p4 : Pos) (e : Expr) (es : List Expr) : Stmt := .Expr (.Call (.Attribute (.Call (.Name "super" p0) [] [] p1) "__init__" p2) (e :: es) [] p3) p4
abbrev nfS (name qual : Str) (params : Arguments) (body : List Stmt) (scope : Scope) (cc cda : Addr) : NF := ⟨name, qual, params, body, scope, [("__class__", cc)], cda⟩
/-- what the written part says -/
structure SupTxt (P : Program) (K : PySem.W.Frag) (mg : Str → Option Value) (C cda cc : Addr) (qual : Str) : Prop where
  oex : OexC K C
  code : PySem.W.codeIn K (.ref cda) qual = true
  file : ∃ (ccl : Value) (cdd : Option Addr) (vs : Array Value) (ccs : Array (Option Value)) (fl : Str) (tf : Tok), K.lookup cda = some ⟨ccl, cdd, .fields vs, ccs⟩ ∧ vs[2]? = some (.str fl tf) ∧ ((P.main.file : Str) == fl) = true
  cell : ∃ (cl : Value) (cld : Option Addr) (csl : Array (Option Value)), K.lookup cc = some ⟨cl, cld, .cell (some (.ref C)), csl⟩
  sup : mg "super" = none
  top : (P.main.scope.names.lookup ("super" : Str)).isSome = false
  mro : PySem.W.mroIn K C (.ref C) = some true
  subB : PySem.W.subIn K (.ref C) (.type "ValueError") = some true
  ini : PySem.W.ks_superIn K C C "__init__" = some (some (.builtin "ValueError.__init__"))
  opq : PySem.W.nsIn K cStatics "thirdparty.any" = some none
theorem exo_upd {H : Hp} {a C : Addr} {d : Option Addr} (e : H a = some (exo a C d)) : upd H a (exo a C d) = H := by
  funext b
  by_cases hb : b = a
  · rw [hb, upd_same, e]
  · rw [upd_ne hb]
section
variable {CX : CXT} {P : Program} {w : World} {K : PySem.W.Frag} {mg : Str → Option Value} {base : Heap} {name qual : Str} {params : Arguments} {scope : Scope} {dV kV doc pm ct oc : Value} {an od : Option Addr} {osl : Array (Option Value)} {f cda cc C : Addr}
  {N ps : List Str} {k : Nat} {sp : Sp} {e : Expr} {es : List Expr} {rest : List Stmt} {p0 p1 p2 p3 p4 : Pos} {ar : Arg}
theorem fn_super (lk : K.lookup f = some ⟨oc, od, .func (PySem.W.fnX name qual params (stSuper p0 p1 p2 p3 p4 e es :: rest) scope [("__class__", cc)] dV kV doc pm an (.ref cda) ct), osl⟩)
    (T : SupTxt P K mg C cda cc qual) (S : NScope N ps ["__class__"] scope) (hp : (params.posonlyargs ++ params.args).head? = some ar) (har : N[0]? = some ar.arg) (hal : scope.names.lookup ar.arg = some .local) (hks : scope.names.lookup ("super" : Str) = some .globalImplicit)
    (len : ∀ vs H Q E, sp vs H Q E → vs.length = ps.length)
    (hbody : ∀ (A : Around) (outer : List Env) (s : Shared) (H : Hp) (vs : List V) (Q : VK) (E : XK), Room k (A.deeper (envF (nfS name qual params (stSuper p0 p1 p2 p3 p4 e es :: rest) scope cc cda) f s.heap.objs.size)) → sp vs H Q E →
      ∃ ta tr, PA (ncx CX P w K mg base N (nfS name qual params (stSuper p0 p1 p2 p3 p4 e es :: rest) scope cc cda) f A outer s H E) (e :: es) ta ∧ PSs (ncx CX P w K mg base N (nfS name qual params (stSuper p0 p1 p2 p3 p4 e es :: rest) scope cc cda) f A outer s H E) rest tr ∧ ∃ (a : Addr) (vr : List V), vs = .ref a :: vr ∧ H a = some (exo a C none) ∧
        ta (startF N vs [some (.ref C)]) H fun ws H1 => ws.length ≤ 1000 ∧ H1 a = some (exo a C none) ∧ tr { nx := fun _ H' => Q .non H', rt := Q } (startF N vs [some (.ref C)]) H1)
    (hi : ∀ L : Addr, interactive (envF (nfS name qual params (stSuper p0 p1 p2 p3 p4 e es :: rest) scope cc cda) f L) = false := by intros; rfl)
    (hs : ∀ L : Addr, swapsWith (.Call (.Attribute (.Call (.Name "super" p0) [] [] p1) "__init__" p2) (e :: es) [] p3) none p4.line (envF (nfS name qual params (stSuper p0 p1 p2 p3 p4 e es :: rest) scope cc cda) f L) = pure false := by intros; rfl)
    (he : ∀ L : Addr, starEach (e :: es) (envF (nfS name qual params (stSuper p0 p1 p2 p3 p4 e es :: rest) scope cc cda) f L) = (false, eval e (envF (nfS name qual params (stSuper p0 p1 p2 p3 p4 e es :: rest) scope cc cda) f L)) :: starEach es (envF (nfS name qual params (stSuper p0 p1 p2 p3 p4 e es :: rest) scope cc cda) f L) := by intros; rfl)
    (hpl : ∀ L : Addr, (backTo p3 (starEach es (envF (nfS name qual params (stSuper p0 p1 p2 p3 p4 e es :: rest) scope cc cda) f L))).any (·.1) = false := by intros; rfl)
    (hev : ∀ L : Addr, ∃ pl, eval (.Call (.Attribute (.Call (.Name "super" p0) [] [] p1) "__init__" p2) (e :: es) [] p3) (envF (nfS name qual params (stSuper p0 p1 p2 p3 p4 e es :: rest) scope cc cda) f L) = (do
      let ov ← attributeBase (.Call (.Name "super" p0) [] [] p1) "__init__" (envF (nfS name qual params (stSuper p0 p1 p2 p3 p4 e es :: rest) scope cc cda) f L) (eval (.Call (.Name "super" p0) [] [] p1) (envF (nfS name qual params (stSuper p0 p1 p2 p3 p4 e es :: rest) scope cc cda) f L))
      standAt p2.atName
      let r ← holding [ov] (getMethod ov "__init__" pl)
      callWith p3 r.1 r.2 (backTo p3 (starEach (e :: es) (envF (nfS name qual params (stSuper p0 p1 p2 p3 p4 e es :: rest) scope cc cda) f L))) []) := by intros; exact ⟨_, rfl⟩) :
    FnOk P w K mg base CX (k + 1) f (PySem.W.fnX name qual params (stSuper p0 p1 p2 p3 p4 e es :: rest) scope [("__class__", cc)] dV kV doc pm an (.ref cda) ct) ps sp := by
  obtain ⟨clv, cld, csl, hcell⟩ := T.cell
  obtain ⟨ccl, cdd, vsC, ccs, flC, tfC, hcode, hvsC, hfile⟩ := T.file
  refine ⟨len, fun A outer s H args us vs Q E hr e0 hbind r hsp => ?_⟩
  have hl := len _ _ _ _ hsp
  have KX : K.In s.heap := e0.mod.kin.keeps fun b o z => (e0.bs b o z).1
  have lim : s.heap.NoLimit := e0.mod.nolimit.keeps fun b o z => (e0.bs b o z).1
  let F : NF := (nfS name qual params (stSuper p0 p1 p2 p3 p4 e es :: rest) scope cc cda)
  have Hc : H cc = none := (e0.bs cc _ (e0.mod.kin _ _ hcell)).2
  have CA : CellsAt F.cl ["__class__"] [some (V.ref C)] s.heap H := by
    have key : ∀ y c, F.cl.lookup y = some c → y = "__class__" ∧ c = cc := fun y c z => by
      by_cases q : y = "__class__"
      · subst q
        have z : some cc = some c := by simpa [F, List.lookup] using z
        exact ⟨rfl, (Option.some.inj z).symm⟩
      · have : (y == ("__class__" : Str)) = false := by simpa using q
        simp [F, List.lookup, this] at z
    refine ⟨rfl, fun y c z => ?_, fun x y c z z' => ?_, fun i y z => ?_⟩
    · obtain ⟨_, rfl⟩ := key y c z
      exact ⟨Hc, _, _, KX _ _ hcell, rfl⟩
    · rw [(key x c z).1, (key y c z').1]
    · have hi : i = 0 ∧ y = "__class__" := by
        cases i with
        | zero => exact ⟨rfl, (Option.some.inj z).symm⟩
        | succ i => simp at z
      obtain ⟨rfl, rfl⟩ := hi
      refine ⟨cc, by simp [F, List.lookup], fun v hv => ?_⟩
      have hv : V.ref C = v := Option.some.inj (Option.some.inj hv)
      subst hv
      exact ⟨.ref C, rfl, _, KX _ _ hcell, rfl⟩
  refine PySem.ks_codeAny_call_defAt (fd := PySem.W.fnX name qual params (stSuper p0 p1 p2 p3 p4 e es :: rest) scope [("__class__", cc)] dV kV doc pm an (.ref cda) ct) (body := stSuper p0 p1 p2 p3 p4 e es :: rest) (binds := ps.zip us) hr.depth (KX _ _ lk) rfl lim
    (PySem.W.codeRec_of KX T.code) rfl hbind S.nocell (fun y hy => S.par y.1 (List.of_mem_zip hy).1) (fun h₁ hns kp => ?_) S.co S.gen S.kind
  show PySem.wpAt (model P w) (A.deeper (envF F f s.heap.objs.size)) (.func (stSuper p0 p1 p2 p3 p4 e es :: rest) (envF F f s.heap.objs.size)) (execs (stSuper p0 p1 p2 p3 p4 e es :: rest) (envF F f s.heap.objs.size)) _ _ _
  have I : Inv (ncx CX P w K mg base N F f A outer s H E) [] (startF N vs [some (.ref C)]) H { s with heap := h₁, toks := s.toks + (ps.zip us).length } := inv_startN (F := F) S hr.hd e0 hl r CA hns kp
  obtain ⟨ta, tr, hA, hR, a, vr, rfl, ea, hq⟩ := hbody A outer s H vs Q E (hr.deeper _) hsp
  obtain ⟨nm, qn, Nn, bs, bm, sn, sub, ab, col, dd, k0, k1, k2, k3, k5, hC, hbm⟩ := T.oex.cls
  have hcl : PySem.W.clsIn K C = some { name := nm, bases := bs, mro := .ref C :: bm, ns := Nn, qualname := qn, hasDict := true, slotNames := sn, subclasses := sub, abstract := ab, collection := col, hasDel := false } := by unfold PySem.W.clsIn; rw [hC] <;> rfl
  -- the local that holds the object
  have self : ∀ {s1 : Shared} {H1 : Hp} {pins : List (Addr × Obj)}, Inv (ncx CX P w K mg base N F f A outer s H E) pins (startF N (.ref a :: vr) [some (.ref C)]) H1 s1 → ∃ m, s1.heap.Ns (envF F f s.heap.objs.size).locals m ∧ m ar.arg = some (.ref a) := fun J => by
    obtain ⟨m, hm, hl⟩ := J.loc
    obtain ⟨u, ru, hk⟩ := hl 0 ar.arg (.ref a) har rfl (.inl hal)
    refine ⟨m, hm, ?_⟩
    rcases hk with ⟨_, hk⟩ | ⟨hk, _⟩
    · rw [hk]
      exact congrArg some ru
    · exfalso
      have hk : scope.names.lookup ar.arg = some .cell ∨ scope.names.lookup ar.arg = some .free := hk
      rw [hal] at hk
      rcases hk with z | z <;> cases z
  have fin : ∀ {fl : Flow} {s' : Shared}, SP (ncx CX P w K mg base N F f A outer s H E) [] { nx := fun _ H' => Q .non H', rt := Q } fl s' → CR CX outer P w H s Q E (.ok (.ret (match fl with | .ret v => v | _ => .none))) s' := fun {fl s'} hs' => by
    have out : ∀ {σ' : L2.St} {H' : Hp} {v : V} {u : Value}, Inv (ncx CX P w K mg base N F f A outer s H E) [] σ' H' s' → L2.RelV v u → Q v H' → CE outer P w H s Q u s' := fun {σ' H' v u} J rv q => ⟨v, H', J.os, J.bare, J.base, J.hok, rv, q⟩
    cases fl with
    | ret u =>
      obtain ⟨v, σ', H', J, rv, q⟩ := hs'
      exact out J rv q
    | next =>
      obtain ⟨σ', H', J, q⟩ := hs'
      exact out (v := V.non) (u := Value.none) J rfl q
    | brk =>
      obtain ⟨_, _, _, q⟩ := hs'
      exact q.elim
    | cont =>
      obtain ⟨_, _, _, q⟩ := hs'
      exact q.elim
  obtain ⟨pl, hev⟩ := hev s.heap.objs.size
  refine PySem.ks_wpAt_execs_cons (PySem.ks_wpAt_Expr_any (PySem.ks_wpAt_MethodCall (pl := pl) ?_ hev) (hi _) (hs _))
  · obtain ⟨m, hm, hma⟩ := self I
    obtain ⟨oD, hD1, hD2⟩ : ∃ oD, h₁.get? C = some oD ∧ oD.data = .cls { name := nm, bases := bs, mro := .ref C :: bm, ns := Nn, qualname := qn, hasDict := true, slotNames := sn, subclasses := sub, abstract := ab, collection := col, hasDel := false } := ⟨_, I.kIn _ _ hC, rfl⟩
    refine PySem.ks_wpAt_super_base (env := envF F f s.heap.objs.size) hks (S.frk _ (by simp)) rfl rfl (I.kIn _ _ lk) rfl hp rfl (I.kIn _ _ hcode) rfl hvsC hfile T.top ?_
    obtain ⟨mb, hb1, hb2⟩ := I.mod.blt
    refine PySem.W.ks_loadName_global S.kind hks (Calls.loadGlobal_builtin (I.mod.glob.keeps I.bk) T.sup (hb1.keeps I.bk) ((hb2 "super" (by decide)).trans (by decide +kernel : bootBuiltins "super" = some (.type "super"))) ⟨rfl, ?_⟩)
    refine wpAny_loadName_free S.kind (S.frk _ (by simp)) rfl ⟨_, I.kIn _ _ hcell, rfl⟩ ?_
    refine wpAny_loadName_local S.kind hal hm hma ?_
    refine PySem.ks_wpAny_isType_cls hD1 hD2 ⟨rfl, ?_⟩
    obtain ⟨t1, ho⟩ := exo_at I.hok ea
    have IA : PySem.W.InstAt h₁ a { cls := .ref C, dict := none, data := .fields #[.ref t1, .none, .none, .none, .bool false, .none] } C none := ⟨ho, rfl, rfl, trivial⟩
    refine PySem.ks_wpAny_call_super hD1 hD2 ho rfl (fun c z => by cases z) (PySem.W.looks_mroIn I.kIn T.mro) (fun h2 e2 k2 => ?_)
    have J2 : Inv (ncx CX P w K mg base N F f A outer s H E) [] (startF N (.ref a :: vr) [some (.ref C)]) H { s with heap := h2, toks := s.toks + (ps.zip us).length } := I.kept k2
    have ni : PySem.W.alongIn K "__init__" (((Value.ref C :: bm).dropWhile (· != .ref C)).drop 1) = some (some (.builtin "ValueError.__init__")) := by
      have z := T.ini
      unfold PySem.W.ks_superIn at z
      rw [hcl] at z
      exact z
    have ho2 := k2 _ _ ho
    have hI : PySem.W.Looks (model P w) h2 (isInstance (.ref a) (.type "ValueError")) true := (show PySem.W.InstAt h2 a _ C none from ⟨ho2, rfl, rfl, trivial⟩).type.andThen (PySem.W.looks_subIn J2.kIn T.subB)
    refine PySem.W.kxs_getMethod PySem.W.kxs_ValueError e2 (PySem.W.looks_opaque J2.kIn T.opq) ((PySem.W.looks_clsIn J2.kIn hcl).andThen .now) rfl J2.kIn ni hI (PySem.W.ks_ne I.kIn IA hcl) (by decide) ?_
    have J3 : Inv (ncx CX P w K mg base N F f A outer s H E) [] (startF N (.ref a :: vr) [some (.ref C)]) H { s with heap := h2.push (PySem.W.kxs_mw "ValueError.__init__" a), toks := s.toks + (ps.zip us).length + 1 } := J2.kept fun b o z => Heap.get?_push_of_some _ z
    have hmw : (h2.push (PySem.W.kxs_mw "ValueError.__init__" a)).get? h2.objs.size = some (PySem.W.kxs_mw "ValueError.__init__" a) := Heap.get?_push_at rfl rfl
    have J4 : Inv (ncx CX P w K mg base N F f A outer s H E) [(h2.objs.size, PySem.W.kxs_mw "ValueError.__init__" a)] (startF N (.ref a :: vr) [some (.ref C)]) H { s with heap := h2.push (PySem.W.kxs_mw "ValueError.__init__" a), toks := s.toks + (ps.zip us).length + 1 } := by
      refine ⟨J3.ok, J3.os, J3.bare, J3.base, J3.loc, J3.cell, J3.free, J3.freeC, fun p hp => ?_, J3.hok, J3.len⟩
      have hp : p = (h2.objs.size, PySem.W.kxs_mw "ValueError.__init__" a) := by
        have z : p ∈ ([] : List (Addr × Obj)) ++ [(h2.objs.size, PySem.W.kxs_mw "ValueError.__init__" a)] := hp
        simpa using z
      subst hp
      refine ⟨hmw, J2.hok.fresh (Nat.le_refl _), fun z => absurd J2.lt ?_, fun z => ?_, fun v z => by cases z⟩
      · rw [← z]
        exact Nat.lt_irrefl _
      · obtain ⟨_, o1, ho1, _⟩ := J2.ok.funs.mem z
        obtain ⟨o2, ho2'⟩ := J2.base.there _ _ ho1 (fun y => absurd (show _ ∈ ([] : List Addr) from y) (by simp))
        exact absurd (Heap.lt_size ho2') (Nat.lt_irrefl _)
    rw [he s.heap.objs.size]
    refine PySem.W.kxs_callWith (i := "ValueError.__init__") (x := a) (by show (false || (backTo p3 (starEach es (envF F f s.heap.objs.size))).any fun y => y.1) = false; rw [hpl s.heap.objs.size]; rfl) ?_
    refine Calls.evalArgs_plain ?_
    have run := hA.run p3 _ _ _ _ _ J4 hq
    rw [show starEach (e :: es) (ncx CX P w K mg base N F f A outer s H E).env = _ from he s.heap.objs.size] at run
    refine thn run fun us4 s4 hap => ?_
    obtain ⟨ws, H4, I4, r4, hw, ea4, tr4⟩ := hap
    obtain ⟨cu4, _⟩ := I4.pin _ (List.mem_append_right _ List.mem_cons_self)
    refine ⟨cu4, ?_⟩
    obtain ⟨t4, ho4⟩ := exo_at I4.hok ea4
    have hlen4 : us4.length ≤ sizeLine := by
      rw [← Paired.length r4]
      exact Nat.le_of_lt (small1000 hw)
    obtain ⟨h4, g4, d4, tk4, os4⟩ := s4
    refine mw_called (I4.kIn _ _ hC) ho4 cu4 hlen4 fun h5 t5 k5 e5 => ?_
    have I5 := I4.write (t' := tk4) (x := a) (e := a) (o := exo a C none) (by rw [ea4]; exact True.intro) (.inl rfl) k5 ⟨_, e5⟩ (exo_ok e5)
    rw [exo_upd ea4] at I5
    have I6 : Inv (ncx CX P w K mg base N F f A outer s H E) [] (startF N (.ref a :: vr) [some (.ref C)]) H4 ⟨h5, g4, d4, tk4, os4⟩ := ⟨I5.ok, I5.os, I5.bare, I5.base, I5.loc, I5.cell, I5.free, I5.freeC, fun p hp => absurd (show p ∈ ([] : List (Addr × Obj)) ++ [] from hp) (by simp), I5.hok, I5.len⟩
    exact wpAt_of_wpAny (wpAny_mono (hR.run [] _ _ _ _ I6 tr4) (fun fl s' z => fin z) fun _ _ z => z)
end
end Wx

namespace Wx
open PySem PySem.Spec PyProof.Rows L2
/-! a caught exception that is kept behind its except suite -/
/-- at a: an exception of the class cls, its dict d -/
def exv (cls : Value) (d : Option Addr) (a : Addr) : HO := .ext fun h => ∃ (oe : Obj) (vs : Array Value), h.get? a = some oe ∧ Zc cls d oe ∧ oe.data = .fields vs
theorem exv_ok {P : Program} {w : World} {H : Hp} {h : Heap} {a : Addr} {cls : Value} {d : Option Addr} {oe : Obj} {vs : Array Value} (e : h.get? a = some oe) (z : Zc cls d oe) (q : oe.data = .fields vs) : ObjOk P w H h a (exv cls d a) :=
  ⟨⟨oe, vs, e, z, q⟩, ⟨oe, e⟩, fun _ _ ⟨o, v, x, y⟩ k => ⟨o, v, k o x, y⟩⟩
theorem exv_at {P : Program} {w : World} {H : Hp} {h : Heap} {a : Addr} {cls : Value} {d : Option Addr} (x : HOk P w H h) (e : H a = some (exv cls d a)) : ∃ (oe : Obj) (vs : Array Value), h.get? a = some oe ∧ Zc cls d oe ∧ oe.data = .fields vs := by
  have y : ObjOk P w H h a (.ext fun h => ∃ (oe : Obj) (vs : Array Value), h.get? a = some oe ∧ Zc cls d oe ∧ oe.data = .fields vs) := x a _ e
  exact y.1
section
variable {X : Cx} {pins : List (Addr × Obj)} {σ : L2.St} {H : Hp} {s : Shared}
theorem tracked {a : Addr} {oe : Obj} {vs : Array Value} {cls : Value} {d : Option Addr} (J : Inv X ((a, oe) :: pins) σ H s) (n0 : X.s_0.heap.get? a = none) (np : ∀ p, p ∈ X.pn ++ pins → p.1 ≠ a) (hz : Zc cls d oe) (hd : oe.data = .fields vs) :
    Inv X pins σ (upd H a (exv cls d a)) s := by
  obtain ⟨ga, na, nL, nF, nc⟩ := J.pin (a, oe) (List.mem_append_right _ List.mem_cons_self)
  have ga : s.heap.get? a = some oe := ga
  have na : H a = none := na
  have neS : ∀ {b : Addr} {o : HO}, H b = some o → b ≠ a := fun e => ne_of_none e na
  have ne0 : ∀ {b : Addr} {o : Obj}, X.s_0.heap.get? b = some o → b ≠ a := fun {b o} e z => by
    rw [z, n0] at e
    cases e
  refine ⟨J.ok, J.os, J.bare, ⟨J.base.keep, J.base.slot, fun b o e n x => ?_, J.base.there, fun b xs e => ?_, fun b o u e => ?_, fun b ps e => ?_⟩, J.loc, J.cell, ?_, fun y c e => ?_, fun p hp => ?_, fun b u e => ?_, J.len⟩
  · rw [upd_ne (ne0 e)]
    exact J.base.free b o e n x
  · have q := J.base.tups b xs e
    rw [upd_ne (neS q)]
    exact q
  · have q := J.base.frzs b o u e
    rw [upd_ne (neS q)]
    exact q
  · obtain ⟨ms, q⟩ := J.base.tbls b ps e
    exact ⟨ms, by rw [upd_ne (neS q)]; exact q⟩
  · rw [upd_ne (fun z => nL z.symm)]
    exact J.free
  · have nca : c ≠ a := fun z => by
      obtain ⟨v, o, q1, q2⟩ := J.cell y c e
      rw [z, ga] at q1
      cases q1
      exact nc _ q2
    rw [upd_ne nca]
    exact J.freeC y c e
  · have hm : p ∈ X.pn ++ (a, oe) :: pins := by
      rcases List.mem_append.mp hp with z | z
      · exact List.mem_append_left _ z
      · exact List.mem_append_right _ (List.mem_cons_of_mem _ z)
    obtain ⟨q1, q2, q3, q4, q5⟩ := J.pin p hm
    exact ⟨q1, by rw [upd_ne (np p hp)]; exact q2, q3, q4, q5⟩
  · by_cases hb : b = a
    · subst hb
      rw [upd_same] at e
      cases e
      exact exv_ok ga hz hd
    · rw [upd_ne hb] at e
      exact (J.hok b u e).stay (fun _ _ _ q => q) (fun c q => by rw [upd_ne (neS q)]; exact q) fun c xs q => by rw [upd_ne (neS q)]; exact q
end
/-- what 'except x as n: ..' wishes, the exception kept: slot i is n's -/
def wKeep (K : PySem.W.Frag) (c : Value) (i : Nat) (ts : Addr → Value → Option Addr → TS) (Wout : WX) (D : Ends) : WX := fun cls d σ H =>
  ∃ b, PySem.W.exmOne K cls c = some b ∧ (b = true → ∀ a, H a = none → ts a cls d { nx := fun σ1 H1 => D.nx (σ1.set i none) (upd H1 a (exv cls d a)), rt := fun v H1 => D.rt v (upd H1 a (exv cls d a)), bk := fun σ1 H1 => D.bk (σ1.set i none) (upd H1 a (exv cls d a)), ct := fun σ1 H1 => D.ct (σ1.set i none) (upd H1 a (exv cls d a)) } (σ.set i (some (.ref a))) H) ∧
    (b = false → Wout cls d σ H)
section
variable {X : Cx} {x n : Str} {c : Value} {i : Nat} {body suite : List Stmt} {b₀ : Stmt} {np pos pos' : Pos} {tb : WX → TS} {ts : Addr → Value → Option Addr → TS} {Wout : WX}
theorem ps_try_keep (hex : X.ex = []) (stk : X.stack = X.env :: X.outer) (frm : X.env.frame = some X.env.locals) (nd : X.N.Nodup) (atI : X.N[i]? = some n) (lcl : X.env.kindOf n = some .local) (nms : Names X x c) (tko : Takes X Wout)
    (hbody : ∀ (W : WX) (pn : List (Addr × Obj)) (xe : Value → Shared → Prop), Takes (X.tr pn xe) W → PassesOwn (model X.prog X.w) X.A X.env xe → PSs (X.tr pn xe) body (tb W))
    (hsuite : ∀ (a : Addr) (oe : Obj) (cls : Value) (d : Option Addr) (pn : List (Addr × Obj)), Zc cls d oe → (∃ vs, oe.data = .fields vs) → PSs (X.suite a ((a, oe) :: pn)) (b₀ :: suite) (ts a cls d)) :
    PS X (.Try body [.ExceptHandler (some (.Name x np)) (some n) (b₀ :: suite) pos'] [] [] pos) (fun D σ H => tb (wKeep X.K c i ts Wout D) D σ H) := by
  refine ⟨fun pins s σ H D I0 rd => ?_⟩
  have okX := I0.ok
  have frA : X.A.frames = some (X.env :: X.outer) := okX.frames.trans (congrArg some stk)
  have locN : Loc X.env.scope n := Or.inl lcl
  refine wpAny_Try_except (wpAny_mono ((hbody (wKeep X.K c i ts Wout D) (X.pn ++ pins) (fun e s₁ => wpAny (model X.prog X.w) X.A (noteFrame e X.env) (fun _ s₂ => wpAny (model X.prog X.w) X.A (setFlight e none) (fun _ s₃ =>
      wpAny (model X.prog X.w) X.A (handleBy e X.env [.ExceptHandler (some (.Name x np)) (some n) (b₀ :: suite) pos']) (SP X pins D) X.xe s₃) X.xe s₂) X.xe s₁) (fun u s' caught => ?_) PassesOwn.looking).run [] s σ H D (I0.toTry _) rd) (fun fl s1 done => ?_) (fun _ _ z => z))
  · obtain ⟨a, B, sI, pinsT, σT, HT, cls, d, rfl, JT, nb, upT, skyT, naT, osT, agT, b, hcl, hyes, hno⟩ := caught
    have JX : Inv X pins σT HT sI := Inv.ofTry JT okX
    have skyX : Sky B (X.env :: X.outer) a (Zc cls d) X.env.locals s'.heap := stk ▸ skyT
    show wpAny _ X.A (noteFrame (Value.ref a) X.env) _ _ _
    refine Sky.land Zc.steady frA frm skyX (fun hq flq upq => ?_)
    have Jq : Inv X pins σT HT { s' with heap := hq } := JX.landed nb flq.1 (upT.trans upq) osT agT
    obtain ⟨oeq, vsq, heq, hzq, hdq⟩ := flq.there
    have nfr : a ∉ frs (X.env :: X.outer) := fun hm => by
      obtain ⟨_, o', e', nf'⟩ := flq.2.2.1.mem hm
      have z := heq.symm.trans e'
      cases z
      exact nf' _ hdq
    have nLoc : a ≠ X.env.locals := fun z => nfr (List.mem_filterMap.mpr ⟨X.env, List.mem_cons_self, frm.trans (congrArg some z.symm)⟩)
    have nOut : a ∉ X.fs := fun hm => by
      obtain ⟨ev, hev, qv⟩ := List.mem_filterMap.mp hm
      exact nfr (List.mem_filterMap.mpr ⟨ev, List.mem_cons_of_mem _ hev, qv⟩)
    -- the exception is younger than the frame
    have sInone : sI.heap.get? a = none := by
      cases z : sI.heap.get? a with
      | none => rfl
      | some o =>
        have Bn : B.get? a = none := by
          rcases skyX with ⟨_, q, _⟩ | q | q
          · exact q
          · exact q.2.1
          · exact q.2.1
        have y := nb a o z (fun hm => nfr (by rw [← stk]; exact hm))
        rw [Bn] at y
        cases y
    have s0none : X.s_0.heap.get? a = none := by
      cases z : X.s_0.heap.get? a with
      | none => rfl
      | some o =>
        obtain ⟨o2, y⟩ := JX.base.there a o z (by rw [hex]; simp)
        rw [sInone] at y
        cases y
    have pinNe : ∀ p, p ∈ X.pn ++ pins → p.1 ≠ a := fun p hp z => by
      have y := (JX.pin p hp).1
      rw [z, sInone] at y
      cases y
    have Sq := Jq.suite heq hdq naT nLoc nOut
    refine wpAny_handleBy_cons (codeAny_handlers_test ?_) (by rintro ⟨⟩)
    have LTy : PySem.W.Looks (model X.prog X.w) hq (typeOf (.ref a)) cls := fun A Q E s k q => wpAny_typeOf_ref (k _ _ heq) (hzq.1 ▸ q)
    have LEx := PySem.W.exm_one (M := model X.prog X.w) Jq.kIn LTy hcl
    have tst : ∀ {Q : Value → Shared → Prop} {E : Value → Shared → Prop}, Q c { s' with heap := hq } → wpAny (model X.prog X.w) (X.A.mark (some (.ref a))) (eval (.Name x np) X.env) Q E { s' with heap := hq } := fun {Q E} q => by
      obtain ⟨g1, g2, g3 | ⟨g3, g4, g5⟩⟩ := nms
      · exact ld_glob (X := X.suite a ((a, oeq) :: (X.pn ++ pins))) Sq g1 g3 q g2
      · exact ld_blt (X := X.suite a ((a, oeq) :: (X.pn ++ pins))) Sq g1 g3 g4 q g5 g2
    refine tst (LEx.here ?_)
    cases b with
    | true =>
      refine codeAny_handlers_suite_as (HandSPX.lands_againZ flq fun hr flr upr => ?_)
      have Jr : Inv X pins σT HT { s' with heap := hr } := JX.landed nb flr.1 ((upT.trans upq).trans upr) osT agT
      obtain ⟨oer, vsr, her, hzr, hdr⟩ := flr.there
      have Sr := Jr.suite her hdr naT nLoc nOut
      refine store_ok (X := X.suite a ((a, oer) :: (X.pn ++ pins))) (v := V.ref a) Sr nd atI locN rfl (fun s5 S5 => ?_) (Or.inr lcl)
      refine wpAny_mono ((hsuite a oer cls d (X.pn ++ pins) hzr ⟨_, hdr⟩).run [] s5 _ HT _ S5 (hyes rfl a naT)) (fun fl s6 out => ?_) (fun _ _ z => z.elim)
      have leave : ∀ {σ6 : L2.St} {H6 : Hp} {Q : Shared → Prop}, Inv (X.suite a ((a, oer) :: (X.pn ++ pins))) [] σ6 H6 s6 → (∀ s7, Inv X pins (σ6.set i none) (upd H6 a (exv cls d a)) s7 → Q s7) →
          wpAny (model X.prog X.w) X.A (do bindName X.env n .none; unbindBehindTheSuite X.env n pos') (fun _ s7 => Q s7) X.xe s6 := fun {σ6 H6 Q} S6 hQ => by
        have S7 : Inv X ((a, oer) :: pins) σ6 H6 s6 := ⟨okX, S6.os, S6.bare, S6.base, S6.loc, S6.cell, S6.free, S6.freeC, fun p hp => S6.pin p (by
          rw [List.append_nil]
          rcases List.mem_append.mp hp with z | z
          · exact List.mem_cons_of_mem _ (List.mem_append_left _ z)
          · rcases List.mem_cons.mp z with y | y
            · rw [y]
              exact List.mem_cons_self
            · exact List.mem_cons_of_mem _ (List.mem_append_right _ y)), S6.hok, S6.len⟩
        exact gone_ok S7 nd atI lcl fun s7 J7 => hQ s7 (tracked J7 s0none pinNe hzr hdr)
      cases fl with
      | next =>
        obtain ⟨σ6, H6, S6, q6⟩ := out
        exact leave S6 fun s7 J7 => ⟨_, _, J7, q6⟩
      | brk =>
        obtain ⟨σ6, H6, S6, q6⟩ := out
        exact leave S6 fun s7 J7 => ⟨_, _, J7, q6⟩
      | cont =>
        obtain ⟨σ6, H6, S6, q6⟩ := out
        exact leave S6 fun s7 J7 => ⟨_, _, J7, q6⟩
      | ret u =>
        obtain ⟨v6, σ6, H6, S6, r6, q6⟩ := out
        exact leave S6 fun s7 J7 => ⟨_, _, _, J7, r6, q6⟩
    | false =>
      show wpAny _ X.A (handleBy (Value.ref a) X.env []) _ _ _
      refine wpAny_handleBy_nil ?_
      obtain ⟨z1, z2, z3, oe, vs, T1, oT1, tsT, he, hz, hd, h1, hr1⟩ := id flq
      unfold PySem.passOn
      refine wpAny_bind (wpAny_field he hd h1 ?_)
      rw [if_neg (show ¬ ((Value.ref T1 == Value.none) = true) by simp)]
      have fin : wpAny (model X.prog X.w) X.A (setFlight (.ref a) X.env.frame) (fun _ s4 => wpAny (model X.prog X.w) X.A (throw (.ref a) : Sem Flow) (SP X pins D) X.xe s4) X.xe { s' with heap := hq } := by
        rw [frm]
        exact HandSPX.setFlight_upZ flq fun h4 hh4 up4 => wpAny_throw (tko _ _ ⟨a, B, sI, pins, σT, HT, cls, d, rfl, JX, nb, (upT.trans upq).trans up4, .inr (.inr (by rw [stk]; exact hh4)), naT, osT, agT, hno rfl⟩)
      first
        | exact wpAny_bind (wpAny_pure (wpAny_bind fin))
        | exact wpAny_bind fin
  · cases fl with
    | next =>
      obtain ⟨σ1, H1, J1, q1⟩ := done
      exact wpAny_execs_nil ⟨σ1, H1, J1.ofTry okX, q1⟩
    | brk =>
      obtain ⟨σ1, H1, J1, q1⟩ := done
      exact ⟨σ1, H1, J1.ofTry okX, q1⟩
    | cont =>
      obtain ⟨σ1, H1, J1, q1⟩ := done
      exact ⟨σ1, H1, J1.ofTry okX, q1⟩
    | ret u =>
      obtain ⟨v1, σ1, H1, J1, r1, q1⟩ := done
      exact ⟨v1, σ1, H1, J1.ofTry okX, r1, q1⟩
end
end Wx

namespace Wx
open PySem PySem.Spec PyProof.Rows L2 NdefX
section
variable {X : Cx}
/-- e.n, e a kept exception of an own class -/
def tEv (K : PySem.W.Frag) (n : Str) (te : TE) : TE := fun σ H Q => te σ H fun x H1 => ∃ (a C dd : Addr) (fs : List (Str × V)) (v : V), x = .ref a ∧ XfC K C ∧ PySem.W.findIn K (.ref C) n = some none ∧ H1 a = some (exv (.ref C) (some dd) a) ∧ H1 dd = some (.xd fs) ∧ fs.lookup n = some v ∧ Q v H1
theorem pe_ev {e : Expr} {te : TE} {pos : Pos} {n : Str} (he : PE X e te) (hb : attributeBase e n X.env (eval e X.env) = eval e X.env := by rfl) : PE X (.Attribute e n pos) (tEv X.K n te) := by
  refine ⟨fun pins s σ H Q I h => attr_of hb (thn (he.run pins s σ H _ I h) fun u s1 got => ?_)⟩
  obtain ⟨x, H1, I1, rx, a, C, dd, fs, v, ex, T, hno, ea, ed, hl, q⟩ := got
  subst ex
  obtain rfl : u = Value.ref a := rx
  obtain ⟨oe, vs, ga, hz, hd⟩ := exv_at I1.hok ea
  obtain ⟨mA, hns, hr⟩ : ObjOk X.prog X.w H1 s1.heap dd (.xd fs) := I1.hok dd _ ed
  obtain ⟨od, ho, hlk⟩ := lookIn_ns hns
  obtain ⟨u, hu, ru⟩ := RelO.some_of (v := v) (o := mA n) (by rw [← hl]; exact hr n)
  have inst : PySem.W.InstAt s1.heap a oe C (some od) := ⟨ga, hz.1, by unfold PySem.W.notCls; rw [hd] <;> rfl, by rw [hz.2]; exact ho⟩
  exact HandSPX.exc_get I1.kIn inst T.ga T.gg T.exC (PySem.W.findObj_own T.hdC hno rfl (by rw [hlk, hu])) (handed_of ru) ⟨v, H1, I1.tok _, ru, q⟩
/-- isinstance(e, c), e a kept exception of an own class -/
def rIsX (K : PySem.W.Frag) : List V → Hp → VK → Prop := fun xs H Q => ∃ (a C : Addr) (d : Option Addr) (c : V) (u : Value) (b : Bool), xs = [.ref a, c] ∧ ClsV c u ∧ ExcC K C ∧ H a = some (exv (.ref C) d a) ∧ (∀ dd, d = some dd → ∃ fs, H dd = some (.xd fs)) ∧ PySem.W.kitOne K (.ref C) u = some b ∧ Q (.bl b) H
theorem call_isX : CallR X (.builtin "isinstance") (rIsX X.K) := by
  intro pins s σ H xs us Q I r h
  obtain ⟨a, C, d, c, u, b, rfl, hc, T, ea, hd, hk, q⟩ := h
  cases r with
  | cons r1 r2 =>
    cases r2 with
    | cons r3 r4 =>
      cases r4
      cases r1
      have eu := hc.eq r3
      subst eu
      obtain ⟨oe, vs, ga, hz, hf⟩ := exv_at I.hok ea
      have inst : ∃ od, PySem.W.InstAt s.heap a oe C od := by
        cases d with
        | none => exact ⟨none, ga, hz.1, by unfold PySem.W.notCls; rw [hf] <;> rfl, by rw [hz.2]; trivial⟩
        | some dd =>
          obtain ⟨fs, ed⟩ := hd dd rfl
          obtain ⟨mA, hns, _⟩ : ObjOk X.prog X.w H s.heap dd (.xd fs) := I.hok dd _ ed
          obtain ⟨od, ho, _⟩ := lookIn_ns hns
          exact ⟨some od, ga, hz.1, by unfold PySem.W.notCls; rw [hf] <;> rfl, by rw [hz.2]; exact ho⟩
      obtain ⟨od, inst⟩ := inst
      have hcl : (PySem.W.clsIn X.K C).isSome = true := by
        obtain ⟨cd, hcd, _⟩ := PySem.W.any_some T.hd
        rw [hcd]
        rfl
      exact PySem.W.kia_one (PySem.W.kitx_exc hcl T.hg T.hk T.hs T.ha T.hn T.ht T.hm) I.kIn inst hk (fun z => nomatch z) fun tk => ⟨.bl b, H, I.kept (t' := tk) fun _ _ z => z, rfl, q⟩
theorem call_repr_str : CallR X (.builtin "repr") (fun xs H Q => ∃ z, xs = [.str z] ∧ (reprText z).length ≤ sizeLine ∧ Q (.str (reprText z)) H) := by
  intro pins s σ H xs us Q I r h
  obtain ⟨z, rfl, hz, q⟩ := h
  obtain ⟨u, rfl, t, rfl⟩ := vals1 r
  exact PySem.P.repr_of_str ⟨.str (reprText z), H, I.tok _, ⟨_, rfl⟩, q⟩ hz
end
/-! ### what the errors' modules promise -/
/-- a value that a message can show -/
def ShowOk (x : V) : Prop := (∃ z, x = .str z ∧ (reprText z).length ≤ 20000) ∨ (∃ i, x = .int i) ∨ x = .non ∨ ∃ b, x = .bl b
def sp_shown : Sp := fun vs H Q _ => ∃ x, vs = [x] ∧ ShowOk x ∧ ∀ y : Str, y.length ≤ 20000 → Q (.str y) H
/-- __init__ of an own error: the object at a gets a dict of these fields -/
def InitLeaves (H : Hp) (a C : Addr) (fs : List (Str × V)) (Q : VK) : Prop := ∀ (dx : Addr) (H' : Hp), H dx = none → (∀ b o, b ≠ a → H b = some o → H' b = some o) → H' a = some (exo a C (some dx)) → H' dx = some (exd dx fs) → Q .non H'
def spBadNumber (C : Addr) : Sp := fun vs H Q _ => ∃ (a : Addr) (z : Str) (v : V), vs = [.ref a, .str z, v] ∧ H a = some (exo a C none) ∧ z.length ≤ 1000 ∧ ShowOk v ∧ InitLeaves H a C [("value", v), ("what", .str z)] Q
def spBadName (C : Addr) : Sp := fun vs H Q _ => ∃ (a : Addr) (v : V), vs = [.ref a, v] ∧ H a = some (exo a C none) ∧ ShowOk v ∧ InitLeaves H a C [("name", v)] Q
/-- all that is asked of an own error class -/
structure ErrC (P : Program) (K : PySem.W.Frag) (mg : Str → Option Value) (x qual : Str) (C f cda cc : Addr) : Prop where
  g : mg x = some (.ref C)
  sup : SupTxt P K mg C cda cc qual
  ini : PySem.W.findIn K (.ref C) "__init__" = some (some (.ref f))
  tyI : PySem.W.typeIn K (.ref f) = some (.type "function")
  xf : XfC K C
  isx : ExcC K C
  exm : PySem.W.exmOne K (.ref C) (.ref C) = some true
  noWhat : PySem.W.findIn K (.ref C) "what" = some none
  noValue : PySem.W.findIn K (.ref C) "value" = some none
  noName : PySem.W.findIn K (.ref C) "name" = some none
  noTurn : PySem.W.findIn K (.ref C) "turn" = some none
theorem init_leaves2 {H : Hp} {a C : Addr} {f1 f2 : Str} {v1 v2 : V} {Q : VK} (ha : H a = some (exo a C none)) (k : InitLeaves H a C [(f2, v2), (f1, v1)] Q) {dx : Addr} (nd : H dx = none) (ne : dx ≠ a) :
    Q .non (upd (upd (upd H dx (exd dx [(f1, v1)])) a (exo a C (some dx))) dx (exd dx [(f2, v2), (f1, v1)])) := by
  refine k dx _ nd (fun b o nb e => ?_) ?_ upd_same
  · have nbd : b ≠ dx := ne_of_none e nd
    rw [upd_ne nbd, upd_ne nb, upd_ne nbd]
    exact e
  · rw [upd_ne (Ne.symm ne)]
    exact upd_same
theorem init_leaves1 {H : Hp} {a C : Addr} {f1 : Str} {v1 : V} {Q : VK} (k : InitLeaves H a C [(f1, v1)] Q) {dx : Addr} (nd : H dx = none) (ne : dx ≠ a) : Q .non (upd (upd H dx (exd dx [(f1, v1)])) a (exo a C (some dx))) := by
  refine k dx _ nd (fun b o nb e => ?_) upd_same ?_
  · rw [upd_ne nb, upd_ne (ne_of_none e nd)]
    exact e
  · rw [upd_ne ne]
    exact upd_same
/-- C(..) made: its promise by what __init__ leaves; the exception itself goes, its dict stays -/
theorem made_of {H1 : Hp} {a C : Addr} {fs : List (Str × V)} {Q : XK} (na : H1 a = none) (k : ∀ (d : Addr) (H' : Hp), H1 d = none → Same H1 H' → H' d = some (.xd fs) → Q (.ref C) (some d) H') :
    InitLeaves (upd H1 a (exo a C none)) a C fs (fun v H2 => v = .non ∧ ∃ (d : Addr) (gs : List (Str × V)), H2 a = some (exo a C (some d)) ∧ H2 d = some (exd d gs) ∧ H1 d = none ∧ Q (.ref C) (some d) (upd (del H2 a) d (.xd gs))) := fun dx H' nd keep ha hd => by
  have nda : dx ≠ a := fun z => by
    rw [z, upd_same] at nd
    cases nd
  have nd1 : H1 dx = none := by
    rw [upd_ne nda] at nd
    exact nd
  refine ⟨rfl, dx, fs, ha, hd, nd1, k dx _ nd1 (fun b o e => ?_) upd_same⟩
  have nba : b ≠ a := ne_of_none e na
  rw [upd_ne (ne_of_none e nd1), del_ne nba]
  exact keep b o nba (by rw [upd_ne nba]; exact e)
end Wx

namespace Wx
open PySem PySem.Spec PyProof.Rows L2 NdefX
theorem gives_lt_ib (p : Bool) (b : Int) (u : Tok) : Gives (Builtin.«int.__lt__» ⟨[.bool p, .int b u], []⟩) (.val (Value.bool (decide ((if p = true then (1 : Int) else 0) < b)))) :=
  .of_wp fun M A E s Q h => by obtain ⟨hp, g, d, tk, os⟩ := s; wp_walk; exact ⟨_, rfl, h⟩
theorem gives_gt_ib (p : Bool) (b : Int) (u : Tok) : Gives (Builtin.«int.__gt__» ⟨[.bool p, .int b u], []⟩) (.val (Value.bool (decide ((if p = true then (1 : Int) else 0) > b)))) :=
  .of_wp fun M A E s Q h => by obtain ⟨hp, g, d, tk, os⟩ := s; wp_walk; exact ⟨_, rfl, h⟩
section
variable {prog : Program} {w : World} {A : Around} {E : Value → Shared → Prop} {s : Shared}
theorem lt_bool_int {p : Bool} {b : Int} {u : Tok} {Q : Value → Shared → Prop} (h : Q (.bool (decide (PyProof.Rows.b2i p < b))) s) : wpAny (model prog w) A (compareOp .Lt (.bool p) (.int b u)) Q E s := by
  show wpAny _ A (richCompare .Lt _ _) Q E s
  exact PySem.SeqAt.rc_left_or rfl (typeIs_int s b u) (by decide) F.sub_int_bool F.slot_bool_lt
    (call_gives F.slot_bool_lt rfl F.entry_int_lt (F.args_int_lt_2 _ _) (gives_lt_ib p b u) ⟨nofun, h⟩) (.inl rfl)
theorem lt_int_bool {p : Bool} {a : Int} {t : Tok} {Q : Value → Shared → Prop} (h : Q (.bool (decide (a < PyProof.Rows.b2i p))) s) : wpAny (model prog w) A (compareOp .Lt (.int a t) (.bool p)) Q E s := by
  show wpAny _ A (richCompare .Lt _ _) Q E s
  exact PySem.SeqAt.rc_sub_first_or (typeIs_int s a t) rfl (by decide) F.sub_bool_int F.slot_bool_gt
    (call_gives F.slot_bool_gt rfl F.entry_int_gt (F.args_int_gt_2 _ _) (gives_gt_ib p a t) ⟨nofun, h⟩) (.inl rfl)
end
def nV : V → Option Int | .int i => some i | .bl b => some (if b = true then 1 else 0) | _ => none
section
variable {X : Cx}
theorem op_ltM : OpR X (compareOp .Lt) (fun x y H Q => ∃ i j, nV x = some i ∧ nV y = some j ∧ Q (.bl (decide (i < j))) H) := by
  intro pins s σ H x y v u Q I rx ry h
  obtain ⟨i, j, hx, hy, q⟩ := h
  cases x with
  | int a =>
    obtain rfl : a = i := Option.some.inj hx
    obtain ⟨t, rfl⟩ := rx
    cases y with
    | int b =>
      obtain rfl : b = j := Option.some.inj hy
      obtain ⟨t', rfl⟩ := ry
      exact PyProof.Rows.lt_int (fin_bl I q rfl)
    | bl b =>
      obtain rfl : (if b = true then 1 else 0) = j := Option.some.inj hy
      cases ry
      exact lt_int_bool (fin_bl I q rfl)
    | _ => cases hy
  | bl a =>
    obtain rfl : (if a = true then 1 else 0) = i := Option.some.inj hx
    cases rx
    cases y with
    | int b =>
      obtain rfl : b = j := Option.some.inj hy
      obtain ⟨t', rfl⟩ := ry
      exact lt_bool_int (fin_bl I q rfl)
    | bl b =>
      obtain rfl : (if b = true then 1 else 0) = j := Option.some.inj hy
      cases ry
      exact PyProof.Rows.lt_bool (fin_bl I q rfl)
    | _ => cases hy
  | _ => cases hx
theorem call_str_ib : CallR X (.type "str") (fun xs H Q => (∃ i, xs = [.int i] ∧ i.natAbs.log2 < 1920 ∧ Q (.str (toString i)) H) ∨ ∃ b, xs = [.bl b] ∧ Q (.str (if b = true then "True" else "False")) H) := by
  intro pins s σ H xs us Q I r h
  rcases h with ⟨i, rfl, hz, q⟩ | ⟨b, rfl, q⟩
  · obtain ⟨u, rfl, t, rfl⟩ := vals1 r
    exact PySem.P.str_of_int hz ⟨.str _, H, I.tok _, ⟨_, rfl⟩, q⟩
  · obtain ⟨u, rfl, hu⟩ := vals1 r
    obtain rfl : u = Value.bool b := hu
    exact PySem.P.str_of_bool ⟨.str _, H, I.tok _, ⟨_, by cases b <;> rfl⟩, q⟩
end
end Wx

namespace Wx
open PySem PySem.Spec PyProof.Rows L2 NdefX
/-! == and != by an own __eq__, any answer; C(..) inside a try -/
section
variable {prog : Program} {w : World} {A : Around} {E : Value → Shared → Prop} {K : PySem.W.Frag} {s : Shared} {x C f : Addr} {ox : Obj} {od : Option Obj}
theorem ifBound_B {M : Model} {name : Str} {id : String} {args : List Value} {Q : Option Value → Shared → Prop} (X : K.In s.heap) (I : PySem.W.InstAt s.heap x ox C od) (hs : PySem.W.findIn K (.ref C) name = some (some (.builtin id)))
    (hb : ∀ self, bindSpecial (.builtin id) self = pure (.builtin id, [self]))
    (h : wpAny M A (call (.builtin id) (.ref x :: args)) (fun v => Q (some v)) E s) : wpAny M A (callSpecialIfBound? (.ref x) name args) Q E s := by
  simp only [callSpecialIfBound?, bindSpecialIfBound?]
  refine wpAny_holding (wpAny_bind (wpAny_bind (wpAny_bind (I.type.here ((PySem.W.looks_findIn X hs).here ?_)))))
  refine wpAny_bind (wpAny_askSetting (wpAny_ite ?_))
  have fin : wpAny M A (call (.builtin id) ([.ref x] ++ args) >>= fun v => pure (some v)) Q E s := wpAny_bind (wpAny_mono h (fun v s' h' => wpAny_pure h') fun _ _ h' => h')
  simp only [hb]
  split
  · exact wpAny_bind (wpAny_pure (wpAny_pure (by exact fin)))
  · exact wpAny_tryCatch (wpAny_bind (wpAny_pure (wpAny_pure (by exact fin))))
theorem objNe_K {b : Value} {Q : Fin → Shared → Prop} (X : K.In s.heap) (I : PySem.W.InstAt s.heap x ox C od) (hs : PySem.W.findIn K (.ref C) "__eq__" = some (some (.ref f))) (hf : PySem.W.isFn K (.ref f) = true) (hu : A.units < cLine)
    (h : wpAny (model prog w) A (call (.ref f) [.ref x, b]) (fun v s' => ∃ k, v = .bool k ∧ Q (.done (.ret (.bool (!k)))) s') E s) : wpAny (model prog w) A (Builtin.«object.__ne__» ⟨[.ref x, b], []⟩) Q E s := by
  unfold Builtin.«object.__ne__»
  repeat (first
    | with_reducible refine wpAny_cRoomFor hu ?_
    | (refine wpAny_bind (m := callSpecialIfBound? (.ref x) (Str.ofString "__eq__") [b])
        (PySem.W.ifBound_K X I hs hf (wpAny_mono h (fun r s' hr => by
          obtain ⟨k, rfl, hq⟩ := hr
          repeat (first | exact hq | exact wpAny_pure hq | exact wpAny_truthy_bool hq | (refine wpAny_bind (m := truthy (.bool _)) (wpAny_truthy_bool ?_)) | wp_step)) fun _ _ e => e)))
    | wp_step)
/-- x != y by the class's own __eq__ -/
theorem ne_K {L : Addr} {h₀ : Heap} {m : Str → Option Value} {b tb : Value} {Q : Value → Shared → Prop} (hu : A.units + 1 < cLine) (FR : Fr h₀ L s.heap m) (X₀ : K.In h₀) (I : PySem.W.InstAt s.heap x ox C od) (hb : PySem.W.Looks (model prog w) s.heap (typeOf b) tb) (hn : PySem.W.notFirst K C tb = true)
    (hne : PySem.W.findIn K (.ref C) "__ne__" = some (some (.builtin "object.__ne__"))) (ho : PySem.W.subIn K (.ref C) (.type "object") = some true)
    (hs : PySem.W.findIn K (.ref C) "__eq__" = some (some (.ref f))) (hf : PySem.W.isFn K (.ref f) = true)
    (h : wpAny (model prog w) A.in1 (call (.ref f) [.ref x, b]) (fun v s' => ∃ k, v = .bool k ∧ Q (.bool (!k)) s') E s) : wpAny (model prog w) A (richCompare .NotEq (.ref x) b) Q E s := by
  have X := X₀.keeps FR.keep
  have one : wpAny (model prog w) A (tryCompare (.ref x) "__ne__" b) (fun r s' => ∃ v, r = some v ∧ Q v s') E s := by
    simp only [tryCompare]
    refine wpAny_bind (ifBound_B X I hne F.cmp_object.ne.bind (wpAny_call (codeAny_call_builtin F.cmp_object.ne.plain F.cmpEntry_ne
      (@PySem.W.check_slot (model prog w) _ _ s "object.__ne__" "object" "__ne__" (.ref x) [b] [] _ F.cmpKind_ne F.cmpSplit_ne (I.type.andThen (PySem.W.looks_subIn X ho)) (F.cmpArgs_ne _ _)
        (objNe_K (A := A.in1) X I hs hf hu (wpAny_mono h (fun v s' hv => ?_) fun _ _ e => e))))))
    obtain ⟨k, rfl, hq⟩ := hv
    first | exact ⟨k, rfl, wpAny_pure ⟨_, rfl, hq⟩⟩ | exact ⟨k, rfl, wpAny_pure (wpAny_pure ⟨_, rfl, hq⟩)⟩ | exact ⟨k, rfl, _, rfl, hq⟩
  unfold richCompare
  simp only [oneThing_ref]
  refine wpAny_holding (wpAny_bind (wpAny_cRoomFor (Nat.lt_of_succ_lt hu) ?_))
  rw [cmpInfo_NotEq]
  dsimp only
  refine wpAny_bind (I.type.here (wpAny_bind (hb.here ?_)))
  split
  · rename_i q
    have e : PySem.W.subIn K tb (.ref C) = some false := by
      rcases Bool.or_eq_true_iff.mp hn with e | e
      · rw [beq_iff_eq.mp e] at q; simp at q
      · exact beq_iff_eq.mp e
    refine wpAny_bind ((PySem.W.looks_subIn X e).here ?_)
    simp only [Bool.false_eq_true, if_false]
    refine wpAny_bind (wpAny_mono one (fun r s' z => ?_) fun _ _ e => e)
    obtain ⟨v, rfl, hq⟩ := z
    exact wpAny_pure hq
  · refine wpAny_bind (wpAny_pure ?_)
    simp only [Bool.false_eq_true, if_false]
    refine wpAny_bind (wpAny_mono one (fun r s' z => ?_) fun _ _ e => e)
    obtain ⟨v, rfl, hq⟩ := z
    exact wpAny_pure hq
end
/-- two instances of the class at C -/
def rOwnI (K : PySem.W.Frag) (C : Addr) (sp : Sp) (E : XK) (g : Bool → Bool) : R2 := fun x y H Q => ∃ a dx fs b dy gs, x = .ref a ∧ y = .ref b ∧ H a = some (.ins C dx fs) ∧ H b = some (.ins C dy gs) ∧ sp [x, y] H (fun z H' => ∃ k, z = .bl k ∧ Q (.bl (g k)) H') E
section
variable {X : Cx} {CX : CXT} {C f : Addr} {n : Nat} {fd : FuncData} {ps : List Str} {sp : Sp} {E : XK}
theorem run_two {A : Around} {pins : List (Addr × Obj)} {σ : L2.St} {H : Hp} {s : Shared} {us : List Value} {vs : List V} {Q : VK} (F : FnOk X.prog X.w X.K X.mg X.base CX n f fd ps sp) (hr : Room n A) (e0 : Env0 X.prog X.w X.K X.mg X.base A X.stack s H) (hb : Binds X.K fd ps []) (hx : Passes CX X E)
    (I : Inv X pins σ H s) (r : Vals vs us) (h : sp vs H Q E) : wpAny (model X.prog X.w) A (call (.ref f) us) (EP X pins σ Q) X.xe s := by
  have hl : us.length = ps.length := by rw [← r.length]; exact F.len _ _ _ _ h
  refine wpAny_call (codeAny_mono (F.run A X.stack s H ⟨us, []⟩ us vs Q E hr e0 (by
    have := hb s us I.kIn (by simpa using hl)
    simpa using this) r h) fun r s' hq => ?_)
  cases r with
  | error e => exact hx pins σ H s e s' I hq
  | ok fl =>
    cases fl with
    | ret w => exact I.after hq
    | next => exact False.elim hq
    | brk => exact False.elim hq
    | cont => exact False.elim hq
theorem op_eqI (F : FnOk X.prog X.w X.K X.mg X.base CX n f fd ps sp) (hr : Room n X.A) (hs : PySem.W.findIn X.K (.ref C) "__eq__" = some (some (.ref f))) (hf : PySem.W.isFn X.K (.ref f) = true) (hb : Binds X.K fd ps []) (hx : Passes CX X E) : OpR X (compareOp .Eq) (rOwnI X.K C sp E id) := by
  intro pins s σ H x y v u Q I rx ry h
  obtain ⟨a, dx, fs, b, dy, gs, rfl, rfl, ha, hb', q⟩ := h
  cases (show v = Value.ref a from rx)
  cases (show u = Value.ref b from ry)
  obtain ⟨mA, J, _⟩ := ins_get I.hok ha
  obtain ⟨mB, J', _⟩ := ins_get I.hok hb'
  obtain ⟨od, J, _⟩ := J.look
  obtain ⟨od', J', _⟩ := J'.look
  obtain ⟨m, hF⟩ := I.fr
  show wpAny (model X.prog X.w) X.A (richCompare .Eq _ _) (EP X pins σ Q) X.xe s
  refine PySem.W.cmp_K (op := .Eq) (tb := .ref C) hr.units0 hF I.ok.mod.kin J J'.type (by simp [PySem.W.notFirst]) hs hf ?_
  refine wpAny_mono (run_two (us := [.ref a, .ref b]) (vs := [.ref a, .ref b]) F hr I.env0 hb hx I (.cons rfl (.cons rfl .nil)) q) (fun w s' z => ?_) fun _ _ x => x
  obtain ⟨z', H', I', rz, k, ez, qz⟩ := z
  subst ez
  cases (show w = Value.bool k from rz)
  exact ⟨.bl k, H', I', rfl, qz⟩
theorem op_neI (F : FnOk X.prog X.w X.K X.mg X.base CX n f fd ps sp) (hr : Room (n + 1) X.A) (hne : PySem.W.findIn X.K (.ref C) "__ne__" = some (some (.builtin "object.__ne__"))) (ho : PySem.W.subIn X.K (.ref C) (.type "object") = some true)
    (hs : PySem.W.findIn X.K (.ref C) "__eq__" = some (some (.ref f))) (hf : PySem.W.isFn X.K (.ref f) = true) (hb : Binds X.K fd ps []) (hx : Passes CX X E) : OpR X (compareOp .NotEq) (rOwnI X.K C sp E not) := by
  intro pins s σ H x y v u Q I rx ry h
  obtain ⟨a, dx, fs, b, dy, gs, rfl, rfl, ha, hb', q⟩ := h
  cases (show v = Value.ref a from rx)
  cases (show u = Value.ref b from ry)
  obtain ⟨mA, J, _⟩ := ins_get I.hok ha
  obtain ⟨mB, J', _⟩ := ins_get I.hok hb'
  obtain ⟨od, J, _⟩ := J.look
  obtain ⟨od', J', _⟩ := J'.look
  obtain ⟨m, hF⟩ := I.fr
  show wpAny (model X.prog X.w) X.A (richCompare .NotEq _ _) (EP X pins σ Q) X.xe s
  have hr1 : Room n X.A.in1 := hr.in1
  refine ne_K (tb := .ref C) hr1.units0 hF I.ok.mod.kin J J'.type (by simp [PySem.W.notFirst]) hne ho hs hf ?_
  refine wpAny_mono (run_two (us := [.ref a, .ref b]) (vs := [.ref a, .ref b]) F hr1 I.env0.in1 hb hx I (.cons rfl (.cons rfl .nil)) q) (fun w s' z => ?_) fun _ _ x => x
  obtain ⟨z', H', I', rz, k, ez, qz⟩ := z
  subst ez
  cases (show w = Value.bool k from rz)
  exact ⟨k, rfl, .bl (!k), H', I', rfl, qz⟩
end
section
variable {X : Cx} {CX : CXT} {k : Nat} {f C : Addr} {fd : FuncData} {ps : List Str} {sp : Sp} {E : L2.St → XK} {x : Str} {p pos : Pos} {e : Expr} {es : List Expr} {t : TA}
/-- C(..) where what is raised is wished for at the caller's slots -/
def tMakeS (C : Addr) (sp : Sp) (E : L2.St → XK) (t : TA) : TE := fun σ H Q => t σ H fun vs H1 => ∀ x dx, H1 x = none → H1 dx = none → dx ≠ x → sp (.ref x :: vs) (upd (upd H1 dx (.own x)) x (.ins C dx [])) (fun v H2 => v = .non ∧ Q (.ref x) H2) (E σ)
theorem pe_makeS (M : Mk X.K C f) (F : FnOk X.prog X.w X.K X.mg X.base CX k f fd ps sp) (hr : Room (k + 1) X.A) (hg : Gl X x) (hm : X.mg x = some (.ref C)) (hb : Binds X.K fd ps []) (hx : ∀ σ, PassesAt CX X σ (E σ))
    (ha : PA X (e :: es) t) (hdb : (x == ("__debug__" : Str)) = false := by decide) (he : starEach (e :: es) X.env = (false, eval e X.env) :: starEach es X.env := by rfl) (hpl : (backTo pos (starEach es X.env)).any (·.1) = false := by rfl) :
    PE X (.Call (.Name x p) (e :: es) [] pos) (tMakeS C sp E t) := by
  refine ⟨fun pins s σ H Q I h => ?_⟩
  refine wpAny_Call_Name_kw (ld_glob I hg hm ?_ hdb)
  refine PySem.W.callWith_K (h₀ := X.base) I.ok.mod.kin M.kp (thn (ha.run pos pins s σ H _ I h) fun us s1 ⟨vs, H1, I1, r, q⟩ => ⟨I1.kIn, ?_⟩) he hpl
  have hq := q (s1.heap.objs.size + 1) s1.heap.objs.size (I1.hok.fresh (Nat.le_succ _)) (I1.hok.fresh (Nat.le_refl _)) (Nat.ne_of_lt (Nat.lt_succ_self _))
  have I2 := Inv.made (C := C) I1
  have r2 : Vals (V.ref (s1.heap.objs.size + 1) :: vs) (Value.ref (s1.heap.objs.size + 1) :: us) := .cons rfl r
  have hl : (Value.ref (s1.heap.objs.size + 1) :: us).length = ps.length := by
    have e := r2.length
    rw [F.len _ _ _ _ hq] at e
    exact e.symm
  refine wpAny_call (make_map (f := f) I1.kIn M.makes M.init (beq_iff_eq.mp M.fn) (codeAny_mono (F.run _ X.stack _ _ ⟨Value.ref (s1.heap.objs.size + 1) :: us, []⟩ (Value.ref (s1.heap.objs.size + 1) :: us) _ _ (E σ) (hr.make C us [])
    (I2.env0.make C us []) (by
      have := hb _ (Value.ref (s1.heap.objs.size + 1) :: us) I2.kIn (by simpa using hl)
      simpa using this) r2 hq) fun r s' hq' => ?_))
  cases r with
  | error e => exact hx σ pins _ _ e s' I2 hq'
  | ok fl =>
    cases fl with
    | ret u =>
      obtain ⟨v, H', I3, rv, ev, q3⟩ := I2.after hq'
      subst ev
      exact ⟨rv, ⟨V.ref (s1.heap.objs.size + 1), H', I3, rfl, q3⟩⟩
    | next => exact False.elim hq'
    | brk => exact False.elim hq'
    | cont => exact False.elim hq'
end
end Wx

namespace Wx
open PySem PySem.Spec PyProof.Rows L2 NdefX
def wKeeps (K : PySem.W.Frag) (i : Nat) (Wout : WX) (D : Ends) : List (Value × (Addr → Value → Option Addr → TS)) → WX
  | [] => Wout
  | (c, ts) :: r => fun cls d σ H =>
    ∃ b, PySem.W.exmOne K cls c = some b ∧ (b = true → ∀ a, H a = none → ts a cls d { nx := fun σ1 H1 => D.nx (σ1.set i none) (upd H1 a (exv cls d a)), rt := fun v H1 => D.rt v (upd H1 a (exv cls d a)), bk := fun σ1 H1 => D.bk (σ1.set i none) (upd H1 a (exv cls d a)), ct := fun σ1 H1 => D.ct (σ1.set i none) (upd H1 a (exv cls d a)) } (σ.set i (some (.ref a))) H) ∧
      (b = false → wKeeps K i Wout D r cls d σ H)
inductive HdsKeep (X : Cx) (n : Str) : List ExceptHandler → List (Value × (Addr → Value → Option Addr → TS)) → Prop
  | nil : HdsKeep X n [] []
  | cons {x : Str} {c : Value} {ts : Addr → Value → Option Addr → TS} {b₀ : Stmt} {suite : List Stmt} {np pos' : Pos} {hds : List ExceptHandler} {l : List (Value × (Addr → Value → Option Addr → TS))} (hc : Names X x c)
      (hsu : ∀ (a : Addr) (oe : Obj) (cls : Value) (d : Option Addr) (pn : List (Addr × Obj)), Zc cls d oe → (∃ vs, oe.data = .fields vs) → PSs (X.suite a ((a, oe) :: pn)) (b₀ :: suite) (ts a cls d)) (r : HdsKeep X n hds l) :
      HdsKeep X n (.ExceptHandler (some (.Name x np)) (some n) (b₀ :: suite) pos' :: hds) ((c, ts) :: l)
section
variable {X : Cx} {n : Str} {i : Nat} {body : List Stmt} {h₀ : ExceptHandler} {hds : List ExceptHandler} {l : List (Value × (Addr → Value → Option Addr → TS))} {pos : Pos} {tb : WX → TS} {Wout : WX}
/-- several clauses, each one keeping its exception under the same name -/
theorem ps_try_keeps (hex : X.ex = []) (stk : X.stack = X.env :: X.outer) (frm : X.env.frame = some X.env.locals) (nd : X.N.Nodup) (atI : X.N[i]? = some n) (lcl : X.env.kindOf n = some .local) (tko : Takes X Wout)
    (hbody : ∀ (W : WX) (pn : List (Addr × Obj)) (xe : Value → Shared → Prop), Takes (X.tr pn xe) W → PassesOwn (model X.prog X.w) X.A X.env xe → PSs (X.tr pn xe) body (tb W))
    (hh : HdsKeep X n (h₀ :: hds) l) :
    PS X (.Try body (h₀ :: hds) [] [] pos) (fun D σ H => tb (wKeeps X.K i Wout D l) D σ H) := by
  refine ⟨fun pins s σ H D I0 rd => ?_⟩
  have okX := I0.ok
  have frA : X.A.frames = some (X.env :: X.outer) := okX.frames.trans (congrArg some stk)
  have locN : Loc X.env.scope n := Or.inl lcl
  refine wpAny_Try_except (wpAny_mono ((hbody (wKeeps X.K i Wout D l) (X.pn ++ pins) (fun e s₁ => wpAny (model X.prog X.w) X.A (noteFrame e X.env) (fun _ s₂ => wpAny (model X.prog X.w) X.A (setFlight e none) (fun _ s₃ =>
      wpAny (model X.prog X.w) X.A (handleBy e X.env (h₀ :: hds)) (SP X pins D) X.xe s₃) X.xe s₂) X.xe s₁) (fun u s' caught => ?_) PassesOwn.looking).run [] s σ H D (I0.toTry _) rd) (fun fl s1 done => ?_) (fun _ _ z => z))
  · obtain ⟨a, B, sI, pinsT, σT, HT, cls, d, rfl, JT, nb, upT, skyT, naT, osT, agT, wl⟩ := caught
    have JX : Inv X pins σT HT sI := Inv.ofTry JT okX
    have skyX : Sky B (X.env :: X.outer) a (Zc cls d) X.env.locals s'.heap := stk ▸ skyT
    show wpAny _ X.A (noteFrame (Value.ref a) X.env) _ _ _
    refine Sky.land Zc.steady frA frm skyX (fun hq flq upq => ?_)
    have Jq : Inv X pins σT HT { s' with heap := hq } := JX.landed nb flq.1 (upT.trans upq) osT agT
    obtain ⟨oeq, vsq, heq, hzq, hdq⟩ := flq.there
    have nfr : a ∉ frs (X.env :: X.outer) := fun hm => by
      obtain ⟨_, o', e', nf'⟩ := flq.2.2.1.mem hm
      have z := heq.symm.trans e'
      cases z
      exact nf' _ hdq
    have nLoc : a ≠ X.env.locals := fun z => nfr (List.mem_filterMap.mpr ⟨X.env, List.mem_cons_self, frm.trans (congrArg some z.symm)⟩)
    have nOut : a ∉ X.fs := fun hm => by
      obtain ⟨ev, hev, qv⟩ := List.mem_filterMap.mp hm
      exact nfr (List.mem_filterMap.mpr ⟨ev, List.mem_cons_of_mem _ hev, qv⟩)
    -- the exception is younger than the frame
    have sInone : sI.heap.get? a = none := by
      cases z : sI.heap.get? a with
      | none => rfl
      | some o =>
        have Bn : B.get? a = none := by
          rcases skyX with ⟨_, q, _⟩ | q | q
          · exact q
          · exact q.2.1
          · exact q.2.1
        have y := nb a o z (fun hm => nfr (by rw [← stk]; exact hm))
        rw [Bn] at y
        cases y
    have s0none : X.s_0.heap.get? a = none := by
      cases z : X.s_0.heap.get? a with
      | none => rfl
      | some o =>
        obtain ⟨o2, y⟩ := JX.base.there a o z (by rw [hex]; simp)
        rw [sInone] at y
        cases y
    have pinNe : ∀ p, p ∈ X.pn ++ pins → p.1 ≠ a := fun p hp z => by
      have y := (JX.pin p hp).1
      rw [z, sInone] at y
      cases y
    have Sq := Jq.suite heq hdq naT nLoc nOut
    have LTy : PySem.W.Looks (model X.prog X.w) hq (typeOf (.ref a)) cls := fun A Q E s k q => wpAny_typeOf_ref (k _ _ heq) (hzq.1 ▸ q)
    have go : ∀ (hs : List ExceptHandler) (l : List (Value × (Addr → Value → Option Addr → TS))), HdsKeep X n hs l → wKeeps X.K i Wout D l cls d σT HT → wpAny (model X.prog X.w) X.A (handleBy (Value.ref a) X.env hs) (SP X pins D) X.xe { s' with heap := hq } := by
      intro hs l hk
      induction hk with
      | nil =>
        intro wout
        refine wpAny_handleBy_nil ?_
        obtain ⟨z1, z2, z3, oe, vs, T1, oT1, tsT, he, hz, hd, h1, hr1⟩ := id flq
        unfold PySem.passOn
        refine wpAny_bind (wpAny_field he hd h1 ?_)
        rw [if_neg (show ¬ ((Value.ref T1 == Value.none) = true) by simp)]
        have fin : wpAny (model X.prog X.w) X.A (setFlight (.ref a) X.env.frame) (fun _ s4 => wpAny (model X.prog X.w) X.A (throw (.ref a) : Sem Flow) (SP X pins D) X.xe s4) X.xe { s' with heap := hq } := by
          rw [frm]
          exact HandSPX.setFlight_upZ flq fun h4 hh4 up4 => wpAny_throw (tko _ _ ⟨a, B, sI, pins, σT, HT, cls, d, rfl, JX, nb, (upT.trans upq).trans up4, .inr (.inr (by rw [stk]; exact hh4)), naT, osT, agT, wout⟩)
        first
          | exact wpAny_bind (wpAny_pure (wpAny_bind fin))
          | exact wpAny_bind fin
      | @cons x c ts b₀ suite np pos' hs l nms hsuite hrest ih =>
        intro wl
        obtain ⟨b, hcl, hyes, hno⟩ := wl
        refine wpAny_handleBy_cons (codeAny_handlers_test ?_) (by rintro ⟨⟩)
        have LEx := PySem.W.exm_one (M := model X.prog X.w) Jq.kIn LTy hcl
        have tst : ∀ {Q : Value → Shared → Prop} {E : Value → Shared → Prop}, Q c { s' with heap := hq } → wpAny (model X.prog X.w) (X.A.mark (some (.ref a))) (eval (.Name x np) X.env) Q E { s' with heap := hq } := fun {Q E} q => by
          obtain ⟨g1, g2, g3 | ⟨g3, g4, g5⟩⟩ := nms
          · exact ld_glob (X := X.suite a ((a, oeq) :: (X.pn ++ pins))) Sq g1 g3 q g2
          · exact ld_blt (X := X.suite a ((a, oeq) :: (X.pn ++ pins))) Sq g1 g3 g4 q g5 g2
        refine tst (LEx.here ?_)
        cases b with
        | true =>
          refine codeAny_handlers_suite_as (HandSPX.lands_againZ flq fun hr flr upr => ?_)
          have Jr : Inv X pins σT HT { s' with heap := hr } := JX.landed nb flr.1 ((upT.trans upq).trans upr) osT agT
          obtain ⟨oer, vsr, her, hzr, hdr⟩ := flr.there
          have Sr := Jr.suite her hdr naT nLoc nOut
          refine store_ok (X := X.suite a ((a, oer) :: (X.pn ++ pins))) (v := V.ref a) Sr nd atI locN rfl (fun s5 S5 => ?_) (Or.inr lcl)
          refine wpAny_mono ((hsuite a oer cls d (X.pn ++ pins) hzr ⟨_, hdr⟩).run [] s5 _ HT _ S5 (hyes rfl a naT)) (fun fl s6 out => ?_) (fun _ _ z => z.elim)
          have leave : ∀ {σ6 : L2.St} {H6 : Hp} {Q : Shared → Prop}, Inv (X.suite a ((a, oer) :: (X.pn ++ pins))) [] σ6 H6 s6 → (∀ s7, Inv X pins (σ6.set i none) (upd H6 a (exv cls d a)) s7 → Q s7) →
              wpAny (model X.prog X.w) X.A (do bindName X.env n .none; unbindBehindTheSuite X.env n pos') (fun _ s7 => Q s7) X.xe s6 := fun {σ6 H6 Q} S6 hQ => by
            have S7 : Inv X ((a, oer) :: pins) σ6 H6 s6 := ⟨okX, S6.os, S6.bare, S6.base, S6.loc, S6.cell, S6.free, S6.freeC, fun p hp => S6.pin p (by
              rw [List.append_nil]
              rcases List.mem_append.mp hp with z | z
              · exact List.mem_cons_of_mem _ (List.mem_append_left _ z)
              · rcases List.mem_cons.mp z with y | y
                · rw [y]
                  exact List.mem_cons_self
                · exact List.mem_cons_of_mem _ (List.mem_append_right _ y)), S6.hok, S6.len⟩
            exact gone_ok S7 nd atI lcl fun s7 J7 => hQ s7 (tracked J7 s0none pinNe hzr hdr)
          cases fl with
          | next =>
            obtain ⟨σ6, H6, S6, q6⟩ := out
            exact leave S6 fun s7 J7 => ⟨_, _, J7, q6⟩
          | brk =>
            obtain ⟨σ6, H6, S6, q6⟩ := out
            exact leave S6 fun s7 J7 => ⟨_, _, J7, q6⟩
          | cont =>
            obtain ⟨σ6, H6, S6, q6⟩ := out
            exact leave S6 fun s7 J7 => ⟨_, _, J7, q6⟩
          | ret u =>
            obtain ⟨v6, σ6, H6, S6, r6, q6⟩ := out
            exact leave S6 fun s7 J7 => ⟨_, _, _, J7, r6, q6⟩
        | false => exact ih (hno rfl)
    exact go _ _ hh wl
  · cases fl with
    | next =>
      obtain ⟨σ1, H1, J1, q1⟩ := done
      exact wpAny_execs_nil ⟨σ1, H1, J1.ofTry okX, q1⟩
    | brk =>
      obtain ⟨σ1, H1, J1, q1⟩ := done
      exact ⟨σ1, H1, J1.ofTry okX, q1⟩
    | cont =>
      obtain ⟨σ1, H1, J1, q1⟩ := done
      exact ⟨σ1, H1, J1.ofTry okX, q1⟩
    | ret u =>
      obtain ⟨v1, σ1, H1, J1, r1, q1⟩ := done
      exact ⟨v1, σ1, H1, J1.ofTry okX, r1, q1⟩
end
end Wx

namespace Wx
open PySem PySem.Spec PyProof.Rows L2 NdefX
theorem dropPin {X : Cx} {pins : List (Addr × Obj)} {σ : L2.St} {H : Hp} {s : Shared} {p : Addr × Obj} (J : Inv X (p :: pins) σ H s) : Inv X pins σ H s :=
  ⟨J.ok, J.os, J.bare, J.base, J.loc, J.cell, J.free, J.freeC, fun q hq => J.pin q (by
    rcases List.mem_append.mp hq with z | z
    · exact List.mem_append_left _ z
    · exact List.mem_append_right _ (List.mem_cons_of_mem _ z)), J.hok, J.len⟩
def wAss (K : PySem.W.Frag) (i : Nat) (Wout : WX) (D : Ends) : List (Value × (Addr → Value → Option Addr → TS)) → WX
  | [] => Wout
  | (c, ts) :: r => fun cls d σ H =>
    ∃ b, PySem.W.exmOne K cls c = some b ∧ (b = true → ∀ a, H a = none → ts a cls d { nx := fun σ1 H1 => D.nx (σ1.set i none) H1, rt := D.rt, bk := fun σ1 H1 => D.bk (σ1.set i none) H1, ct := fun σ1 H1 => D.ct (σ1.set i none) H1 } (σ.set i (some (.ref a))) H) ∧
      (b = false → wAss K i Wout D r cls d σ H)
inductive HdsAs (X : Cx) (n : Str) : List ExceptHandler → List (Value × (Addr → Value → Option Addr → TS)) → Prop
  | nil : HdsAs X n [] []
  | cons {x : Str} {c : Value} {ts : Addr → Value → Option Addr → TS} {b₀ : Stmt} {suite : List Stmt} {np pos' : Pos} {hds : List ExceptHandler} {l : List (Value × (Addr → Value → Option Addr → TS))} (hc : Names X x c)
      (hsu : ∀ (a : Addr) (oe : Obj) (cls : Value) (d : Option Addr) (pn : List (Addr × Obj)), Zc cls d oe → (∃ vs, oe.data = .fields vs) → PSs (X.suite a ((a, oe) :: pn)) (b₀ :: suite) (ts a cls d)) (r : HdsAs X n hds l) :
      HdsAs X n (.ExceptHandler (some (.Name x np)) (some n) (b₀ :: suite) pos' :: hds) ((c, ts) :: l)
section
variable {X : Cx} {n : Str} {i : Nat} {body : List Stmt} {h₀ : ExceptHandler} {hds : List ExceptHandler} {l : List (Value × (Addr → Value → Option Addr → TS))} {pos : Pos} {tb : WX → TS} {Wout : WX}
/-- several clauses with the same name; the exception is let go behind the suite -/
theorem ps_try_ass (hex : X.ex = []) (stk : X.stack = X.env :: X.outer) (frm : X.env.frame = some X.env.locals) (nd : X.N.Nodup) (atI : X.N[i]? = some n) (lcl : X.env.kindOf n = some .local) (tko : Takes X Wout)
    (hbody : ∀ (W : WX) (pn : List (Addr × Obj)) (xe : Value → Shared → Prop), Takes (X.tr pn xe) W → PassesOwn (model X.prog X.w) X.A X.env xe → PSs (X.tr pn xe) body (tb W))
    (hh : HdsAs X n (h₀ :: hds) l) :
    PS X (.Try body (h₀ :: hds) [] [] pos) (fun D σ H => tb (wAss X.K i Wout D l) D σ H) := by
  refine ⟨fun pins s σ H D I0 rd => ?_⟩
  have okX := I0.ok
  have frA : X.A.frames = some (X.env :: X.outer) := okX.frames.trans (congrArg some stk)
  have locN : Loc X.env.scope n := Or.inl lcl
  refine wpAny_Try_except (wpAny_mono ((hbody (wAss X.K i Wout D l) (X.pn ++ pins) (fun e s₁ => wpAny (model X.prog X.w) X.A (noteFrame e X.env) (fun _ s₂ => wpAny (model X.prog X.w) X.A (setFlight e none) (fun _ s₃ =>
      wpAny (model X.prog X.w) X.A (handleBy e X.env (h₀ :: hds)) (SP X pins D) X.xe s₃) X.xe s₂) X.xe s₁) (fun u s' caught => ?_) PassesOwn.looking).run [] s σ H D (I0.toTry _) rd) (fun fl s1 done => ?_) (fun _ _ z => z))
  · obtain ⟨a, B, sI, pinsT, σT, HT, cls, d, rfl, JT, nb, upT, skyT, naT, osT, agT, wl⟩ := caught
    have JX : Inv X pins σT HT sI := Inv.ofTry JT okX
    have skyX : Sky B (X.env :: X.outer) a (Zc cls d) X.env.locals s'.heap := stk ▸ skyT
    show wpAny _ X.A (noteFrame (Value.ref a) X.env) _ _ _
    refine Sky.land Zc.steady frA frm skyX (fun hq flq upq => ?_)
    have Jq : Inv X pins σT HT { s' with heap := hq } := JX.landed nb flq.1 (upT.trans upq) osT agT
    obtain ⟨oeq, vsq, heq, hzq, hdq⟩ := flq.there
    have nfr : a ∉ frs (X.env :: X.outer) := fun hm => by
      obtain ⟨_, o', e', nf'⟩ := flq.2.2.1.mem hm
      have z := heq.symm.trans e'
      cases z
      exact nf' _ hdq
    have nLoc : a ≠ X.env.locals := fun z => nfr (List.mem_filterMap.mpr ⟨X.env, List.mem_cons_self, frm.trans (congrArg some z.symm)⟩)
    have nOut : a ∉ X.fs := fun hm => by
      obtain ⟨ev, hev, qv⟩ := List.mem_filterMap.mp hm
      exact nfr (List.mem_filterMap.mpr ⟨ev, List.mem_cons_of_mem _ hev, qv⟩)
    -- the exception is younger than the frame
    have sInone : sI.heap.get? a = none := by
      cases z : sI.heap.get? a with
      | none => rfl
      | some o =>
        have Bn : B.get? a = none := by
          rcases skyX with ⟨_, q, _⟩ | q | q
          · exact q
          · exact q.2.1
          · exact q.2.1
        have y := nb a o z (fun hm => nfr (by rw [← stk]; exact hm))
        rw [Bn] at y
        cases y
    have s0none : X.s_0.heap.get? a = none := by
      cases z : X.s_0.heap.get? a with
      | none => rfl
      | some o =>
        obtain ⟨o2, y⟩ := JX.base.there a o z (by rw [hex]; simp)
        rw [sInone] at y
        cases y
    have pinNe : ∀ p, p ∈ X.pn ++ pins → p.1 ≠ a := fun p hp z => by
      have y := (JX.pin p hp).1
      rw [z, sInone] at y
      cases y
    have Sq := Jq.suite heq hdq naT nLoc nOut
    have LTy : PySem.W.Looks (model X.prog X.w) hq (typeOf (.ref a)) cls := fun A Q E s k q => wpAny_typeOf_ref (k _ _ heq) (hzq.1 ▸ q)
    have go : ∀ (hs : List ExceptHandler) (l : List (Value × (Addr → Value → Option Addr → TS))), HdsAs X n hs l → wAss X.K i Wout D l cls d σT HT → wpAny (model X.prog X.w) X.A (handleBy (Value.ref a) X.env hs) (SP X pins D) X.xe { s' with heap := hq } := by
      intro hs l hk
      induction hk with
      | nil =>
        intro wout
        refine wpAny_handleBy_nil ?_
        obtain ⟨z1, z2, z3, oe, vs, T1, oT1, tsT, he, hz, hd, h1, hr1⟩ := id flq
        unfold PySem.passOn
        refine wpAny_bind (wpAny_field he hd h1 ?_)
        rw [if_neg (show ¬ ((Value.ref T1 == Value.none) = true) by simp)]
        have fin : wpAny (model X.prog X.w) X.A (setFlight (.ref a) X.env.frame) (fun _ s4 => wpAny (model X.prog X.w) X.A (throw (.ref a) : Sem Flow) (SP X pins D) X.xe s4) X.xe { s' with heap := hq } := by
          rw [frm]
          exact HandSPX.setFlight_upZ flq fun h4 hh4 up4 => wpAny_throw (tko _ _ ⟨a, B, sI, pins, σT, HT, cls, d, rfl, JX, nb, (upT.trans upq).trans up4, .inr (.inr (by rw [stk]; exact hh4)), naT, osT, agT, wout⟩)
        first
          | exact wpAny_bind (wpAny_pure (wpAny_bind fin))
          | exact wpAny_bind fin
      | @cons x c ts b₀ suite np pos' hs l nms hsuite hrest ih =>
        intro wl
        obtain ⟨b, hcl, hyes, hno⟩ := wl
        refine wpAny_handleBy_cons (codeAny_handlers_test ?_) (by rintro ⟨⟩)
        have LEx := PySem.W.exm_one (M := model X.prog X.w) Jq.kIn LTy hcl
        have tst : ∀ {Q : Value → Shared → Prop} {E : Value → Shared → Prop}, Q c { s' with heap := hq } → wpAny (model X.prog X.w) (X.A.mark (some (.ref a))) (eval (.Name x np) X.env) Q E { s' with heap := hq } := fun {Q E} q => by
          obtain ⟨g1, g2, g3 | ⟨g3, g4, g5⟩⟩ := nms
          · exact ld_glob (X := X.suite a ((a, oeq) :: (X.pn ++ pins))) Sq g1 g3 q g2
          · exact ld_blt (X := X.suite a ((a, oeq) :: (X.pn ++ pins))) Sq g1 g3 g4 q g5 g2
        refine tst (LEx.here ?_)
        cases b with
        | true =>
          refine codeAny_handlers_suite_as (HandSPX.lands_againZ flq fun hr flr upr => ?_)
          have Jr : Inv X pins σT HT { s' with heap := hr } := JX.landed nb flr.1 ((upT.trans upq).trans upr) osT agT
          obtain ⟨oer, vsr, her, hzr, hdr⟩ := flr.there
          have Sr := Jr.suite her hdr naT nLoc nOut
          refine store_ok (X := X.suite a ((a, oer) :: (X.pn ++ pins))) (v := V.ref a) Sr nd atI locN rfl (fun s5 S5 => ?_) (Or.inr lcl)
          refine wpAny_mono ((hsuite a oer cls d (X.pn ++ pins) hzr ⟨_, hdr⟩).run [] s5 _ HT _ S5 (hyes rfl a naT)) (fun fl s6 out => ?_) (fun _ _ z => z.elim)
          have leave : ∀ {σ6 : L2.St} {H6 : Hp} {Q : Shared → Prop}, Inv (X.suite a ((a, oer) :: (X.pn ++ pins))) [] σ6 H6 s6 → (∀ s7, Inv X pins (σ6.set i none) H6 s7 → Q s7) →
              wpAny (model X.prog X.w) X.A (do bindName X.env n .none; unbindBehindTheSuite X.env n pos') (fun _ s7 => Q s7) X.xe s6 := fun {σ6 H6 Q} S6 hQ => by
            have S7 : Inv X ((a, oer) :: pins) σ6 H6 s6 := ⟨okX, S6.os, S6.bare, S6.base, S6.loc, S6.cell, S6.free, S6.freeC, fun p hp => S6.pin p (by
              rw [List.append_nil]
              rcases List.mem_append.mp hp with z | z
              · exact List.mem_cons_of_mem _ (List.mem_append_left _ z)
              · rcases List.mem_cons.mp z with y | y
                · rw [y]
                  exact List.mem_cons_self
                · exact List.mem_cons_of_mem _ (List.mem_append_right _ y)), S6.hok, S6.len⟩
            exact gone_ok S7 nd atI lcl fun s7 J7 => hQ s7 (dropPin J7)
          cases fl with
          | next =>
            obtain ⟨σ6, H6, S6, q6⟩ := out
            exact leave S6 fun s7 J7 => ⟨_, _, J7, q6⟩
          | brk =>
            obtain ⟨σ6, H6, S6, q6⟩ := out
            exact leave S6 fun s7 J7 => ⟨_, _, J7, q6⟩
          | cont =>
            obtain ⟨σ6, H6, S6, q6⟩ := out
            exact leave S6 fun s7 J7 => ⟨_, _, J7, q6⟩
          | ret u =>
            obtain ⟨v6, σ6, H6, S6, r6, q6⟩ := out
            exact leave S6 fun s7 J7 => ⟨_, _, _, J7, r6, q6⟩
        | false => exact ih (hno rfl)
    exact go _ _ hh wl
  · cases fl with
    | next =>
      obtain ⟨σ1, H1, J1, q1⟩ := done
      exact wpAny_execs_nil ⟨σ1, H1, J1.ofTry okX, q1⟩
    | brk =>
      obtain ⟨σ1, H1, J1, q1⟩ := done
      exact ⟨σ1, H1, J1.ofTry okX, q1⟩
    | cont =>
      obtain ⟨σ1, H1, J1, q1⟩ := done
      exact ⟨σ1, H1, J1.ofTry okX, q1⟩
    | ret u =>
      obtain ⟨v1, σ1, H1, J1, r1, q1⟩ := done
      exact ⟨v1, σ1, H1, J1.ofTry okX, r1, q1⟩
end
end Wx

namespace Wx
open PySem PySem.Spec PyProof.Rows L2 NdefX
/-! a list comprehension from which an exception may leave -/
/-- in the air over the frames l, the frame L at work: sI is the state without it -/
def Aloft (stk : List Env) (L : Addr) (sI : Shared) (H : Hp) (E : XK) (u : Value) (s' : Shared) : Prop :=
  ∃ (a : Addr) (B : Heap) (cls : Value) (d : Option Addr), u = .ref a ∧ (∀ b o, sI.heap.get? b = some o → b ∉ frs stk → B.get? b = some o) ∧ sI.heap.UpToSlots s'.heap ∧
    Sky B stk a (Zc cls d) L s'.heap ∧ H a = none ∧ s'.os = sI.os ∧ AllBare s'.gens ∧ E cls d H
/-- what is let out at the slots σ is taken -/
structure Air (X : Cx) (σ : L2.St) (E : XK) : Prop where
  ex : ∃ (ev : Env) (outer : List Env) (L : Addr), X.stack = ev :: outer ∧ ev.frame = some L ∧ X.env.frame = some L ∧
    ∀ (pins : List (Addr × Obj)) (H : Hp) (sI : Shared) (u : Value) (s' : Shared), Inv X pins σ H sI → Aloft X.stack L sI H E u s' → X.xe u s'
section
variable {X : Cx} {pins : List (Addr × Obj)} {σ : L2.St} {H : Hp} {s s' : Shared} {E : XK} {W : WX}
theorem air_of {σ : L2.St} (tk : Takes X W) (hs : X.stack = X.env :: X.outer) (hf : X.env.frame = some X.env.locals) : Air X σ (WE W σ) :=
  ⟨X.env, X.outer, X.env.locals, hs, hf, hf, fun pins H sI u s' I ⟨a, B, cls, d, e, nb, up, sky, na, os, ag, w⟩ => tk u s' ⟨a, B, sI, pins, σ, H, cls, d, e, I, nb, up, sky, na, os, ag, w⟩⟩
theorem Air.pass (x : Air X σ E) : PassesAt (L2.CX X.prog X.w) X σ E := fun pins H s u s' I c => by
  obtain ⟨ev, outer, L, hs, hf, hg, k⟩ := x.ex
  obtain ⟨a, B, H', cls, d, rfl, fl, hok, ub, na, os, ag, hE⟩ := c
  obtain ⟨G, g1, g2⟩ := restrict s'.heap fun b => (B.get? b).isSome || decide (b ∈ frs X.stack)
  have st : B.StaysIn s'.heap := fl.1
  have gB : ∀ b o, B.get? b = some o → G.get? b = some o := fun b o e => by
    have q : ((B.get? b).isSome || decide (b ∈ frs X.stack)) = true := by rw [e]; rfl
    exact (g1 b q).trans (st b o e)
  have gF : ∀ b, b ∈ frs X.stack → G.get? b = s'.heap.get? b := fun b hb => g1 b (by rw [decide_eq_true hb, Bool.or_true])
  have back : ∀ b o, G.get? b = some o → s'.heap.get? b = some o ∧ ((B.get? b).isSome = true ∨ b ∈ frs X.stack) := fun b o e => by
    by_cases q : ((B.get? b).isSome || decide (b ∈ frs X.stack)) = true
    · rw [g1 b q] at e
      refine ⟨e, ?_⟩
      rcases Bool.or_eq_true_iff.mp q with y | y
      · exact .inl y
      · exact .inr (of_decide_eq_true y)
    · rw [g2 b (Bool.eq_false_iff.mpr q)] at e
      cases e
  have I1 : Inv X pins σ H' { s with heap := G, gens := s'.gens, drawn := s'.drawn, toks := s'.toks } := by
    refine I.call (ch := []) ⟨fun b o e n hb _ => gB b o (ub.keep b o e n hb), fun b o e n hb _ => ?_, fun b o e n _ => ub.free b o e n, fun b o e _ => ?_, ub.tups, ub.frzs, ub.tbls⟩ (hok.kept gB) ag (fun _ z => nomatch z)
    · obtain ⟨sl, q⟩ := ub.slot b o e hb
      exact ⟨sl, (gF b hb).trans q⟩
    · by_cases hb : b ∈ frs X.stack
      · obtain ⟨sl, q⟩ := ub.slot b o e hb
        exact ⟨_, (gF b hb).trans q⟩
      · obtain ⟨o', q⟩ := ub.there b o e hb
        exact ⟨o', gB b o' q⟩
  refine k pins H' _ _ _ I1 ⟨a, B, cls, d, rfl, fun b o e hb => ?_, Heap.UpToSlots.of_keeps fun b o e => (back b o e).1, .inr (.inl fl), na, os, ag, hE⟩
  obtain ⟨e1, e2 | e2⟩ := back b o e
  · obtain ⟨o', q⟩ := Option.isSome_iff_exists.mp e2
    have z := (st b o' q).symm.trans e1
    cases z
    exact q
  · exact absurd e2 hb
end
theorem passNo {X : Cx} (σ : L2.St) : PassesAt (L2.CX X.prog X.w) X σ ((fun _ _ _ _ => False : L2.St → XK) σ) := fun _ _ _ _ _ _ c => by
  obtain ⟨_, _, _, _, _, _, _, _, _, _, _, _, hE⟩ := c
  exact hE.elim
theorem funFrames_step {h h2 B B' : Heap} : ∀ {l : List Env}, h.FunFrames B l → (∀ b, B.get? b = none → B'.get? b = none) → (∀ b o, B.get? b = none → h.get? b = some o → h2.get? b = some o) → h2.FunFrames B' l
  | [], _, _, _ => trivial
  | env :: l, hl, k1, k2 => by
    obtain ⟨hk, ⟨L, o, hf, hn, ho, hd⟩, hr⟩ := hl
    exact ⟨hk, ⟨L, o, hf, k1 _ hn, k2 _ _ hn ho, hd⟩, funFrames_step hr k1 k2⟩
theorem note_same {e : Value} {e1 e2 : Env} (h : e1.frame = e2.frame) : noteFrame e e1 = noteFrame e e2 := by
  unfold noteFrame PySem.frameOf
  rw [h]
section
variable {M : Model} {A : Around} {E : Value → Shared → Prop} {s : Shared} {env : Env}
/-- behind a block: let go of its names; an exception goes on by the block's own environment -/
def postX (M : Model) (A : Around) (E : Value → Shared → Prop) (use : Option (Value → Sem Unit)) (Q : Value → Shared → Prop) (acc : Value) (cenv : Env) (r : Result) (s' : Shared) : Prop :=
  match r, use with
  | .ok _, none => ∃ m, s'.heap.Ns cenv.locals m ∧ ∀ h', Heap.SameBut cenv.locals s'.heap h' → Q acc { s' with heap := h' }
  | .ok _, some u => wpAny M A (u acc) (fun _ s'' => ∃ m, s''.heap.Ns cenv.locals m ∧ ∀ h', Heap.SameBut cenv.locals s''.heap h' → Q .none { s'' with heap := h' }) E s'
  | .error x, _ => ∃ m, s'.heap.Ns cenv.locals m ∧ ∀ h', Heap.SameBut cenv.locals s'.heap h' → wpAny M A (passOn "comprehension.variables-let-go" x cenv : Sem Value) (fun _ _ => False) E { s' with heap := h' }
theorem comprehension_freeX {e : Expr} {scope : Scope} {pos : Pos} {newAcc first : Sem Value} {g : Comprehension} {gs : List Comprehension} {cl : List (Str × Addr)} {use : Option (Value → Sem Unit)}
    {Q : Value → Shared → Prop}
    (hcl : clausesOf e = g :: gs) (hs : ∀ x, foldedSetIterable g.iter env x = pure x) (hclos : closureFor scope env = pure cl)
    (hkind : scope.kind = .function) (hnames : ∀ x ∈ scope.names, x.2 = .local → scope.names.lookup x.1 = some .local)
    (h : wpAny M A first (fun x s₁ => wpAny M A (pyIter x) (fun it s₂ => wpAny M A newAcc (fun acc s₃ =>
      wpAny M A (newFunctionEnv scope env.globals cl [] env.qual none .none (some env)) (fun cenv s₄ =>
        codeAny M A (.compStart e 0 it acc { cenv with scope := relabel scope env }) (postX M A E use Q acc { cenv with scope := relabel scope env }) s₄) E s₃) E s₂) E s₁) E s) :
    wpAny M A (comprehension e scope env pos newAcc false first use) Q E s := by
  unfold comprehension
  rw [hclos, hcl]
  refine wpAny_bind (wpAny_mono h (fun x s₁ h₁ => wpAny_bind (wpAny_standAt (wpAny_bind (wpAny_of_eq (hs x) (wpAny_bind (wpAny_holding (wpAny_mono h₁ (fun it s₂ h₂ =>
    wpAny_standIf (wpAny_bind (wpAny_mono h₂ (fun acc s₃ h₃ => wpAny_bind (wpAny_pure (wpAny_bind (wpAny_mono h₃ (fun cenv s₄ h₄ => ?_) fun _ _ h' => h')))) fun _ _ h' => h')))
      fun _ _ h' => h'))))))) fun _ _ h' => h')
  dsimp only
  have hv : ∀ x ∈ (scope.names.filter fun x => (x.2 == .local || x.2 == .cell) && x.1 != (".0" : Str)).reverse, x.2 = .local →
      Env.kindOf { cenv with scope := relabel scope env } x.1 = some .local := fun x hx hl => lookup_relabel_local (hnames x (List.mem_filter.mp (List.mem_reverse.mp hx)).1 hl)
  have hv' : ∀ x ∈ (scope.names.filter fun x => (x.2 == .local || x.2 == .cell) && x.1 != (".0" : Str)).reverse.drop 1 ++ (scope.names.filter fun x => (x.2 == .local || x.2 == .cell) && x.1 != (".0" : Str)).reverse.take 1,
      x.2 = .local → Env.kindOf { cenv with scope := relabel scope env } x.1 = some .local := fun x hx hl => by
    rcases List.mem_append.mp hx with h1 | h1
    · exact hv x (List.mem_of_mem_drop h1) hl
    · exact hv x (List.mem_of_mem_take h1) hl
  refine wpAny_holding (wpAny_bind (wpAny_attempt (wpAny_holding (wpAny_run (codeAny_mono h₄ fun r s' hr => ?_)))))
  cases r with
  | ok f =>
    cases use with
    | none =>
      obtain ⟨m, hn, hr⟩ := hr
      exact wpAny_bind (wpAny_holding (wpAny_comp_letGo (cenv := { cenv with scope := relabel scope env }) hkind _ s' m hv hn fun h' m' _ hs' => wpAny_pure (hr h' hs')))
    | some u =>
      refine wpAny_bind (wpAny_rule (wpAny_bind (wpAny_holding (wpAny_mono hr (fun _ s'' hr' => ?_) fun _ _ h' => h'))))
      obtain ⟨m, hn, hr'⟩ := hr'
      exact wpAny_bind (wpAny_comp_letGo (cenv := { cenv with scope := relabel scope env }) hkind _ s'' m hv' hn fun h' m' _ hs' => wpAny_pure (hr' h' hs'))
  | error x =>
    have hr' : ∃ m, s'.heap.Ns cenv.locals m ∧ ∀ h', Heap.SameBut cenv.locals s'.heap h' → wpAny M A (passOn "comprehension.variables-let-go" x { cenv with scope := relabel scope env } : Sem Value) (fun _ _ => False) E { s' with heap := h' } := by cases use <;> exact hr
    obtain ⟨m, hn, hr⟩ := hr'
    exact wpAny_bind (wpAny_holding (wpAny_comp_letGo (cenv := { cenv with scope := relabel scope env }) hkind _ s' m hv hn fun h' m' _ hs' => wpAny_mono (hr h' hs') (fun _ _ f => f.elim) fun _ _ y => y))
end
section
variable {X : Cx}
theorem lc_coreX {E : L2.St → XK} {pins : List (Addr × Obj)} {s : Shared} {σ : L2.St} {H : Hp} {Q : VK} {elt tg iter : Expr} {ifs : List Expr} {scope : Scope} {own : List (Str × Nat)} {pos pos' : Pos} {wi : TI} {g : TG} {tt : TT} {te : XK → TE} {Qf : Value → Shared → Prop}
    (hc : X.calm = true) (hN : X.N.Nodup) (I : Inv X pins σ H s) (hi : PI X tg iter wi) (ok : BlkOk X.N X.env.scope scope own)
    (hg : ∀ (s : Shared) (H : Hp) (C : Addr) (cl : List (Str × Addr)) (fp : List Addr), PG (X.blk s H scope (compEnvC scope cl C X.env) fp) tg g) (ht : ∀ (s : Shared) (H : Hp) (C : Addr) (cl : List (Str × Addr)) (fp : List Addr), PTs (X.blk s H scope (compEnvC scope cl C X.env) fp) ifs tt)
    (air : Air X σ (E σ)) (he : ∀ (s : Shared) (H : Hp) (C : Addr) (cl : List (Str × Addr)) (fp : List Addr) (xe : Value → Shared → Prop) (E1 : XK), (∀ σ1, Air ((X.blk s H scope (compEnvC scope cl C X.env) fp).wish xe) σ1 E1) → PE ((X.blk s H scope (compEnvC scope cl C X.env) fp).wish xe) elt (te E1)) (hs : ∀ x, foldedSetIterable iter X.env x = pure x)
    (h : tLc wi g tt (te (E σ)) (own.map (·.2)) σ H Q)
    (hRR : ∀ D C s' m H', Inv X pins σ H' s' → Q (.ref D) H' → s'.heap.Ns C m → FpOk X pins H' C → compPost (model X.prog X.w) X.A X.xe none Qf (.ref D) C (.ok .next) s') :
    wpAny (model X.prog X.w) X.A (comprehension (.ListComp elt [⟨tg, iter, ifs, 0⟩] scope pos) scope X.env pos' (newList []) false (eval iter X.env) none) Qf X.xe s := by
  have hfree : ∀ y ∈ scope.names, y.2 = .free → ∃ c, X.env.cells.lookup y.1 = some c := fun y hy e => by
    rcases ok.free y hy e with k | k
    · exact I.ok.has _ (.inl k)
    · exact I.ok.has _ (.inr k)
  refine comprehension_freeX (use := none) rfl hs (closure_ok hfree) ok.kind (fun y hy e => by rw [ok.uniq y hy, e])
    (thn (hi.run pins s σ H _ I h) fun xv s1 hx => thn hx fun itv s2 h2 => ?_)
  obtain ⟨it, fp, tn, J, H2, e, I2, T, st2, f2, q⟩ := h2
  subst e
  refine wpAny_newObj_type (newEnv_comp ?_) (by show 0 ≤ sizeLine; decide)
  generalize hD : s2.heap.objs.size = D
  have hDn : H2 D = none := I2.hok.fresh (Nat.le_of_eq hD)
  obtain ⟨W, ⟨m0, w0⟩, turn⟩ := q D hDn
  -- the new list
  generalize hs3 : ({ s2 with heap := s2.heap.push { cls := .type "list", data := .seq ([] : List Value).toArray } } : Shared) = s3
  have I3 : Inv X pins σ (upd H2 D (.lst [])) s3 := by
    rw [← hs3]
    refine I2.laid (t' := s2.toks) (fun b o e => Heap.get?_push_of_some _ e) (Nat.le_of_eq hD) ⟨Nat.zero_le _, [], 0, .nil, ?_⟩
    rw [← hD]
    exact Heap.get?_push_size _ rfl
  have h3 : s3.heap = s2.heap.push { cls := .type "list", data := .seq ([] : List Value).toArray } := by rw [← hs3]
  have sz : ∀ b ∈ fp, b < s2.heap.objs.size := fun b hb => by
    obtain ⟨o, e, _⟩ := T.obj _ _ st2 b hb
    exact Heap.lt_size e
  have f3 : ∀ b ∈ fp, FpOk X pins (upd H2 D (.lst [])) b ∧ b < s3.heap.objs.size := fun b hb => by
    have hlt := sz b hb
    refine ⟨⟨?_, (f2 b hb).2⟩, by rw [h3, Heap.size_push]; exact Nat.lt_succ_of_lt hlt⟩
    rw [upd_ne (by rw [← hD]; exact Nat.ne_of_lt hlt)]
    exact (f2 b hb).1
  have st3 : tn 0 s3.heap := T.keep _ _ _ st2 fun b _ o e => by rw [h3]; exact Heap.get?_push_of_some _ e
  have I4 := block_start I3 ok hN f3
  have pg := hg s3 (upd H2 D (.lst [])) s3.heap.objs.size (cellsFrom (s3.heap.objs.size + 1) scope.names (cloFrom X.env.cells scope.names [])) fp
  have pt := ht s3 (upd H2 D (.lst [])) s3.heap.objs.size (cellsFrom (s3.heap.objs.size + 1) scope.names (cloFrom X.env.cells scope.names [])) fp
  have pe := he s3 (upd H2 D (.lst [])) s3.heap.objs.size (cellsFrom (s3.heap.objs.size + 1) scope.names (cloFrom X.env.cells scope.names [])) fp
  have cF : (compEnvC scope (cellsFrom (s3.heap.objs.size + 1) scope.names (cloFrom X.env.cells scope.names [])) s3.heap.objs.size X.env).frame = X.env.frame := rfl
  show codeAny _ _ (.compStart (.ListComp elt [⟨tg, iter, ifs, 0⟩] scope pos) 0 (.ref it) (.ref D) (compEnvC scope (cellsFrom (s3.heap.objs.size + 1) scope.names (cloFrom X.env.cells scope.names [])) s3.heap.objs.size X.env)) (postX (model X.prog X.w) X.A X.xe none Qf (.ref D) (compEnvC scope (cellsFrom (s3.heap.objs.size + 1) scope.names (cloFrom X.env.cells scope.names [])) s3.heap.objs.size X.env)) { s3 with heap := pushCells (s3.heap.push { cls := .type "dict", data := .dict #[] }) scope.names }
  have nfp : ∀ b ∈ fp, (upd H2 D (.lst [])) b = none := fun b hb => (f3 b hb).1.1
  generalize hce : compEnvC scope (cellsFrom (s3.heap.objs.size + 1) scope.names (cloFrom X.env.cells scope.names [])) s3.heap.objs.size X.env = ce at I4 pg pt pe cF ⊢
  have cL : ce.locals = s3.heap.objs.size := by subst hce; rfl
  generalize hH3 : upd H2 D (.lst []) = H3 at I3 I4 pg pt pe w0 nfp f3
  generalize hs4 : ({ s3 with heap := pushCells (s3.heap.push { cls := .type "dict", data := .dict #[] }) scope.names } : Shared) = s4 at I4 ⊢
  have st4 : tn 0 s4.heap := T.keep _ _ _ st3 fun b _ o e => by rw [← hs4]; exact pushCells_keeps _ _ _ _ (Heap.get?_push_of_some _ e)
  have stat : ∀ {σ' : L2.St} {H' : Hp} {s' : Shared}, Inv (X.blk s3 H3 scope ce fp) [] σ' H' s' → (∀ b ∈ fp, H' b = none) → ∀ b ∈ fp, FpOk (X.blk s3 H3 scope ce fp) [] H' b := fun {σ' H' s'} I' hn b hb =>
    ⟨hn b hb, (I'.ok.exf b hb).1, I'.ok.exfs b hb, .inl hb, fun x c e => (I'.ok.exf b hb).2 x c e, fun p hp => absurd (show p ∈ ([] : List (Addr × Obj)) ++ [] from hp) (by simp)⟩
  have loop : codeAny (model X.prog X.w) X.A (.compLoop (.ListComp elt [⟨tg, iter, ifs, 0⟩] scope pos) 0 (.ref it) (.ref D) ce) (postX (model X.prog X.w) X.A X.xe none Qf (.ref D) ce) s4 := by
    refine compLoop_any (fun n s' => ∃ i H', Inv (X.blk s3 H3 scope ce fp) [] (wipe σ (own.map (·.2))) H' s' ∧ tn i s'.heap ∧ (∀ b ∈ fp, H' b = none) ∧ W i n H') ?_ m0 ⟨0, H3, I4, st4, nfp, w0⟩
    rintro n s5 ⟨i, H5, I5, st5, n5, w5⟩
    rcases turn i n H5 w5 with ⟨stop, qq⟩ | ⟨go, Nx, hNx, step⟩
    · have td := T.done (X.blk s3 H3 scope ce fp) rfl rfl rfl hc i [] s5 _ H5 (fun _ _ => False) I5 (stat I5 n5) st5 stop
      refine thnF td fun r s6 ⟨hr, I6⟩ => ?_
      subst hr
      -- back in the def's context
      have I7 : Inv X pins σ H5 s6 := I3.call' (ch := fp) I6.os I6.base I6.hok I6.bare fun b hb => ⟨(f3 b hb).1.2.2.2.1, (f3 b hb).1.2.1, (f3 b hb).1.2.2.2.2.1, (f3 b hb).1.2.2.2.2.2⟩
      have nC : H5 s3.heap.objs.size = none := by
        have z : H5 ce.locals = none := I6.free
        rw [cL] at z
        exact z
      obtain ⟨m, hn, _⟩ := I6.loc
      have hn : s6.heap.Ns ce.locals m := hn
      rw [cL] at hn
      have hR := hRR D s3.heap.objs.size s6 m H5 I7 qq hn (I3.fpOk (Nat.le_refl _) nC)
      rw [← cL] at hR
      exact hR
    · have ti := T.item (X.blk s3 H3 scope ce fp) rfl rfl rfl hc i [] s5 _ H5 (fun _ _ => False) I5 (stat I5 n5) st5 go
      refine thnF ti fun r s6 ⟨u, hr, h6⟩ => ?_
      subst hr
      refine thnF h6 fun _ s7 ⟨x, H7, I7, r7, y7, st7, n7⟩ => ?_
      have I7' := I7.pinned (stat I7 n7) (T.obj _ _ st7)
      refine thnF (pg.run _ s7 _ H7 x u _ I7' r7 (step x H7 y7)) fun _ s8 ⟨σ8, H8, I8, hw8, q8⟩ => ?_
      refine thnF (pt.run _ s8 σ8 H8 _ I8 q8) fun b s9 ⟨H9, I9, q9⟩ => ?_
      -- the turn's end
      have fin : ∀ {s' : Shared} {H' : Hp}, Inv (X.blk s3 H3 scope ce fp) ([] ++ pinsAt fp s7.heap) σ8 H' s' → Nx H' → ∃ m, m < n ∧ ∃ i H', Inv (X.blk s3 H3 scope ce fp) [] (wipe σ (own.map (·.2))) H' s' ∧ tn i s'.heap ∧ (∀ b ∈ fp, H' b = none) ∧ W i m H' := fun {s' H'} I' nx => by
        obtain ⟨m', hm, w'⟩ := hNx H' nx
        have pin' : ∀ b ∈ fp, ∀ o, s7.heap.get? b = some o → s'.heap.get? b = some o ∧ H' b = none := fun b hb o e =>
          let z := I'.pin (b, o) (List.mem_append_right _ (List.mem_append_right _ (mem_pinsAt hb e)))
          ⟨z.1, z.2.1⟩
        have hl : (wipe σ (own.map (·.2))).length = σ8.length := by rw [← hw8, wipe_length]
        refine ⟨m', hm, i + 1, H', (I'.unpinned (pins := [])).weak hl (fun j v e => ?_), T.keep _ _ _ st7 fun b hb o e => (pin' b hb o e).1, fun b hb => ?_, w'⟩
        · rw [← hw8] at e
          exact (wipe_some e).1
        · obtain ⟨o, e, _⟩ := T.obj _ _ st7 b hb
          exact (pin' b hb o e).2
      cases b with
      | false =>
        simp only [Bool.false_eq_true, if_false] at q9 ⊢
        exact fin I9 q9
      | true =>
        simp only [if_true] at q9 ⊢
        obtain ⟨ev, outer, L, hstk, hfr, hXf, kx⟩ := air.ex
        refine wpAny_mono ((pe (fun u s' => ∃ H' sI, Inv X pins σ H' sI ∧ (∃ m, sI.heap.Ns ce.locals m) ∧ H' ce.locals = none ∧ Aloft X.stack L sI H' (E σ) u s') (E σ) (fun σ1 => ⟨ev, outer, L, hstk, hfr, cF.trans hXf, fun pins1 H1 sI u s' I1 al => ?_⟩)).run _ s9 σ8 H9 _ (I9.wish _) q9) (fun z s10 ⟨yv, H10, I10, r10, acc, hD10, hz10, nx⟩ => ?_) (fun u s10 hx => ?_)
        · have I1' := I1.unwish
          obtain ⟨m, hn, _⟩ := I1'.loc
          exact ⟨H1, sI, I3.call' (ch := fp) I1'.os I1'.base I1'.hok I1'.bare fun b hb => ⟨(f3 b hb).1.2.2.2.1, (f3 b hb).1.2.1, (f3 b hb).1.2.2.2.2.1, (f3 b hb).1.2.2.2.2.2⟩, ⟨m, hn⟩, I1'.free, al⟩
        · exact app_ok (X := X.blk s3 H3 scope ce fp) I10.unwish hD10 hz10 r10 fun s11 I11 => fin I11 nx
        · obtain ⟨H', sI, JX, ⟨m, hn⟩, nC, a, B, cls, d, rfl, nb, up, sky, na, os, ag, w⟩ := hx
          have fpC : FpOk X pins H' ce.locals := I3.fpOk (by rw [cL]; exact Nat.le_refl _) nC
          obtain ⟨f0, f1, f2, f3', f4, f5⟩ := fpC
          have frA : X.A.frames = some (ev :: outer) := I3.ok.frames.trans (congrArg some hstk)
          have cNot : ce.locals ∉ frs X.stack := fun hm => by
            rcases List.mem_cons.mp (I3.stkSub _ hm) with z | z
            · exact f1 z
            · exact f2 z
          show wpAny _ X.A (noteFrame (Value.ref a) ce) _ _ _
          rw [note_same (e2 := ev) (by rw [cF, hXf, hfr])]
          -- noted by the frame
          have held : ∀ {Q : Unit → Shared → Prop} {E' : Value → Shared → Prop}, (∀ h1, HandSPX.HeldZ B (ev :: outer) a (Zc cls d) L h1 → s10.heap.UpToSlots h1 → Q () { s10 with heap := h1 }) → wpAny (model X.prog X.w) X.A (noteFrame (.ref a) ev) Q E' s10 := fun {Q E'} k => by
            rw [hstk] at sky
            rcases sky with ⟨hB, hn, hl, oe, vs, he, hz, hd, h1⟩ | fl | hh
            · exact HandSPX.look_newZ Zc.steady frA hl hfr he hB hn hd h1 hz k
            · exact HandSPX.looks_onZ Zc.steady frA hfr fl k
            · exact HandSPX.againZ hfr hh.2.2.2 (k s10.heap hh (Heap.UpToSlots.refl _))
          refine held fun h1 hh1 up1 => ?_
          have upH : sI.heap.UpToSlots h1 := up.trans up1
          refine ⟨m, upH.ns hn, fun h2 sb2 => ?_⟩
          -- the ground without the block's names
          obtain ⟨B', b1, b2⟩ := restrict B fun b => decide (b ≠ ce.locals)
          obtain ⟨G, g1, g2⟩ := restrict sI.heap fun b => decide (b ≠ ce.locals)
          have bB : ∀ b o, B'.get? b = some o → b ≠ ce.locals ∧ B.get? b = some o := fun b o e => by
            by_cases q : b = ce.locals
            · rw [b2 b (by simp [q])] at e
              cases e
            · exact ⟨q, by rw [b1 b (by simp [q])] at e; exact e⟩
          have gG : ∀ b o, G.get? b = some o → b ≠ ce.locals ∧ sI.heap.get? b = some o := fun b o e => by
            by_cases q : b = ce.locals
            · rw [g2 b (by simp [q])] at e
              cases e
            · exact ⟨q, by rw [g1 b (by simp [q])] at e; exact e⟩
          obtain ⟨k1, k2, k3, oe, vs, T1, oT1, ts, he1, hz1, hd1, hv1, hbT, hTa, hT1, hdT, hfl⟩ := hh1
          obtain ⟨oC, es, ep, hoC, hdC, _⟩ := hn
          have BC : B.get? ce.locals = some oC := nb _ _ hoC cNot
          have aC : a ≠ ce.locals := fun z => by rw [z] at k2; rw [k2] at BC; cases BC
          have TC : T1 ≠ ce.locals := fun z => by rw [z] at hbT; rw [hbT] at BC; cases BC
          have sb : ∀ b, b ≠ ce.locals → h2.get? b = h1.get? b := sb2.2
          have B'a : B'.get? a = none := by rw [b1 a (by simp [aC])]; exact k2
          have B'T : B'.get? T1 = none := by rw [b1 T1 (by simp [TC])]; exact hbT
          have fF : h2.FunFrames B' (ev :: outer) := funFrames_step k3 (fun b q => by
              cases z : B'.get? b with
              | none => rfl
              | some o =>
                rw [(bB b o z).2] at q
                cases q) fun b o q e => (sb b (fun z => by rw [z, BC] at q; cases q)).trans e
          have kB : B'.StaysIn h2 := fun b o e => (sb b (bB b o e).1).trans (k1 b o (bB b o e).2)
          have he2 : h2.get? a = some oe := (sb a aC).trans he1
          have hh2 : HandSPX.HeldZ B' (ev :: outer) a (Zc cls d) L h2 := ⟨kB, B'a, fF, oe, vs, T1, oT1, ts, he2, hz1, hd1, hv1, B'T, hTa, (sb T1 TC).trans hT1, hdT, hfl⟩
          unfold PySem.passOn
          refine wpAny_bind (wpAny_field he2 hd1 hv1 ?_)
          rw [if_neg (show ¬ ((Value.ref T1 == Value.none) = true) by simp)]
          have fin2 : wpAny (model X.prog X.w) X.A (setFlight (.ref a) ce.frame) (fun _ s4 => wpAny (model X.prog X.w) X.A (throw (.ref a) : Sem Value) (fun _ _ => False) X.xe s4) X.xe { s10 with heap := h2 } := by
            rw [cF, hXf]
            refine HandSPX.setFlight_onZ hh2 fun h4 hh4 up4 => wpAny_throw ?_
            refine kx pins H' { sI with heap := G } _ _ (JX.turned (t' := sI.toks) (fun b o hb e => (g1 b (by simp [hb])).trans e) f0 f1 f3' f4 f5) ⟨a, B', cls, d, rfl, fun b o e hb => ?_, ?_, ?_, na, os, ag, w⟩
            · obtain ⟨q1, q2⟩ := gG b o e
              exact (b1 b (by simp [q1])).trans (nb b o q2 hb)
            · refine Heap.UpToSlots.trans (fun b o e nf => ?_) up4
              obtain ⟨q1, q2⟩ := gG b o e
              obtain ⟨sl, q3⟩ := upH b o q2 nf
              exact ⟨sl, (sb b q1).trans q3⟩
            · rw [hstk]
              exact .inr (.inr hh4)
          first
            | exact wpAny_bind (wpAny_pure (wpAny_bind fin2))
            | exact wpAny_bind fin2
  exact codeAny_compStart_list loop (T.self X.A 0 _ _ _ st4 loop)
/-- [elt for target in iter if ..]; what elt lets out is let out -/
theorem pe_lcX {E : L2.St → XK} {elt tg iter : Expr} {ifs : List Expr} {scope : Scope} {own : List (Str × Nat)} {pos : Pos} {wi : TI} {g : TG} {tt : TT} {te : XK → TE} (air : ∀ σ, Air X σ (E σ)) (hc : X.calm = true) (hN : X.N.Nodup) (hi : PI X tg iter wi) (ok : BlkOk X.N X.env.scope scope own)
    (hg : ∀ (s : Shared) (H : Hp) (C : Addr) (cl : List (Str × Addr)) (fp : List Addr), PG (X.blk s H scope (compEnvC scope cl C X.env) fp) tg g) (ht : ∀ (s : Shared) (H : Hp) (C : Addr) (cl : List (Str × Addr)) (fp : List Addr), PTs (X.blk s H scope (compEnvC scope cl C X.env) fp) ifs tt)
    (he : ∀ (s : Shared) (H : Hp) (C : Addr) (cl : List (Str × Addr)) (fp : List Addr) (xe : Value → Shared → Prop) (E1 : XK), (∀ σ1, Air ((X.blk s H scope (compEnvC scope cl C X.env) fp).wish xe) σ1 E1) → PE ((X.blk s H scope (compEnvC scope cl C X.env) fp).wish xe) elt (te E1)) (hs : ∀ x, foldedSetIterable iter X.env x = pure x := by intro _; rfl) :
    PE X (.ListComp elt [⟨tg, iter, ifs, 0⟩] scope pos) (fun σ H Q => tLc wi g tt (te (E σ)) (own.map (·.2)) σ H Q) := by
  refine ⟨fun pins s σ H Q I h => ?_⟩
  rw [eval_ListComp]
  refine lc_coreX hc hN I hi ok hg ht (air σ) he hs h fun D C s' m H' I' q hn f => ⟨m, hn, fun h'' sb => ?_⟩
  obtain ⟨f0, f1, f2, f3, f4, f5⟩ := f
  exact ⟨.ref D, H', I'.turned (t' := s'.toks) (fun b o hb e => (sb.2 b hb).trans e) f0 f1 f3 f4 f5, rfl, q⟩
end
end Wx

namespace Wx
open PySem PySem.Spec PyProof.Rows L2 NdefX RZ
/-! walks over a list or a tuple; <= and str by own defs; tuples of ints compared -/
section
variable {X : Cx} {tg : Expr}
def iSeq (K : PySem.W.Frag) (tl : TE) : TI := fun σ H R => tl σ H fun x H1 => ∃ a xs, x = .ref a ∧ ((SqL K H1 a xs ∧ R (Itl K a) H1) ∨ (SqT K H1 a xs ∧ R (Itt K a) H1))
theorem pi_seq {l : Expr} {tl : TE} (hl : PE X l tl) : PI X tg l (iSeq X.K tl) := by
  refine ⟨fun pins s σ H R I h => ?_⟩
  refine thn (hl.run pins s σ H _ I h) fun v s1 ⟨x, H1, I1, r1, q1⟩ => ?_
  obtain ⟨a, xs, e, q⟩ := q1
  subst e
  cases r1
  have fresh : ∀ b ∈ [s1.heap.objs.size], FpOk X pins H1 b := fun b hb => by
    have e : b = s1.heap.objs.size := by simpa using hb
    subst e
    exact I1.fpOk (Nat.le_refl _) (I1.hok.fresh (Nat.le_refl _))
  rcases q with ⟨hq, q⟩ | ⟨hq, q⟩
  · obtain ⟨its, rv, p, hz⟩ := I1.list hq
    refine wpAny_pyIter_list p.isList ?_
    exact ⟨s1.heap.objs.size, [s1.heap.objs.size], _, _, H1, rfl, I1.kept (t' := s1.toks) fun b o e => Heap.get?_push_of_some _ e, turn_list a _, ⟨_, Heap.get?_push_size _ rfl, rfl, rfl⟩, fresh, q⟩
  · obtain ⟨its, rv, p, hz⟩ := I1.tuple hq
    refine wpAny_pyIter_tuple (show s1.heap.IsTuple a its.toArray from p) ?_
    exact ⟨s1.heap.objs.size, [s1.heap.objs.size], _, _, H1, rfl, I1.kept (t' := s1.toks) fun b o e => Heap.get?_push_of_some _ e, turn_tuple a _, ⟨_, Heap.get?_push_size _ rfl, rfl, rfl⟩, fresh, q⟩
end
section
variable {X : Cx} {CX : CXT} {C f : Addr} {n : Nat} {fd : FuncData} {ps : List Str} {sp : Sp} {E : XK}
theorem op_leI (F : FnOk X.prog X.w X.K X.mg X.base CX n f fd ps sp) (hr : Room n X.A) (hs : PySem.W.findIn X.K (.ref C) "__le__" = some (some (.ref f))) (hf : PySem.W.isFn X.K (.ref f) = true) (hb : Binds X.K fd ps []) (hx : Passes CX X E) : OpR X (compareOp .LtE) (rOwnI X.K C sp E id) := by
  intro pins s σ H x y v u Q I rx ry h
  obtain ⟨a, dx, fs, b, dy, gs, rfl, rfl, ha, hb', q⟩ := h
  cases (show v = Value.ref a from rx)
  cases (show u = Value.ref b from ry)
  obtain ⟨mA, J, _⟩ := ins_get I.hok ha
  obtain ⟨mB, J', _⟩ := ins_get I.hok hb'
  obtain ⟨od, J, _⟩ := J.look
  obtain ⟨od', J', _⟩ := J'.look
  obtain ⟨m, hF⟩ := I.fr
  show wpAny (model X.prog X.w) X.A (richCompare .LtE _ _) (EP X pins σ Q) X.xe s
  refine PySem.W.cmp_K (op := .LtE) (tb := .ref C) hr.units0 hF I.ok.mod.kin J J'.type (by simp [PySem.W.notFirst]) hs hf ?_
  refine wpAny_mono (run_two (us := [.ref a, .ref b]) (vs := [.ref a, .ref b]) F hr I.env0 hb hx I (.cons rfl (.cons rfl .nil)) q) (fun w s' z => ?_) fun _ _ x => x
  obtain ⟨z', H', I', rz, k, ez, qz⟩ := z
  subst ez
  cases (show w = Value.bool k from rz)
  exact ⟨.bl k, H', I', rfl, qz⟩
/-- str(x) by the class's own __str__ -/
theorem call_strOwn (F : FnOk X.prog X.w X.K X.mg X.base CX n f fd ps sp) (hr : Room (n + 2) X.A) (hs : PySem.W.findIn X.K (.ref C) "__str__" = some (some (.ref f))) (hf : PySem.W.isFn X.K (.ref f) = true) (hb : Binds X.K fd ps []) (hx : Passes CX X E) :
    CallR X (.type "str") (fun xs H Q => ∃ a dx fs, xs = [.ref a] ∧ H a = some (.ins C dx fs) ∧ sp xs H (fun z H' => ∃ t : Str, z = .str t ∧ Q z H') E) := by
  intro pins s σ H xs us Q I r h
  obtain ⟨a, dx, fs, rfl, ha, q⟩ := h
  obtain ⟨u, rfl, hu⟩ := vals1 r
  cases (show u = Value.ref a from hu)
  obtain ⟨mA, J, _⟩ := ins_get I.hok ha
  obtain ⟨od, J, _⟩ := J.look
  have hr1 : Room (n + 1) X.A.in1 := hr.in1
  have hr2 : Room n X.A.in1.in1 := hr1.in1
  refine PySem.W.kso_call hr2.units0 I.kIn J hs hf ?_
  refine wpAny_mono (run_two (us := [.ref a]) (vs := [.ref a]) F hr2 I.env0.in1.in1 hb hx I (.cons rfl .nil) q) (fun w s' z => ?_) fun _ _ x => x
  obtain ⟨z', H', I', rz, t, ez, qz⟩ := z
  subst ez
  obtain ⟨tk, rfl⟩ := rz
  exact ⟨.str t, H', I', ⟨_, rfl⟩, qz⟩
end
/-! ### data -/
theorem eqvAll_ints : ∀ (xs ys : List Int), PyData.eqvAll (xs.map PyData.int) (ys.map PyData.int) = decide (xs = ys)
  | [], [] => rfl
  | [], y :: ys => rfl
  | x :: xs, [] => rfl
  | x :: xs, y :: ys => by
    show (PyData.eqv (.int x) (.int y) && PyData.eqvAll (xs.map PyData.int) (ys.map PyData.int)) = _
    rw [eqvAll_ints xs ys]
    show ((x == y) && _) = _
    by_cases h : x = y
    · subst h
      by_cases h2 : xs = ys
      · subst h2
        simp
      · simp [h2]
    · have e : (x == y) = false := beq_eq_false_iff_ne.mpr h
      rw [e, Bool.false_and, decide_eq_false (fun q => h (by injection q))]
theorem eqv_intsT (xs ys : List Int) : PyData.eqv (.tuple (xs.map PyData.int)) (.tuple (ys.map PyData.int)) = decide (xs = ys) := eqvAll_ints xs ys
theorem eqv_intsL (xs ys : List Int) : PyData.eqv (.list (xs.map PyData.int)) (.list (ys.map PyData.int)) = decide (xs = ys) := eqvAll_ints xs ys
theorem lay_ints : ∀ xs : List Int, PyData.canLayAll0 (xs.map PyData.int) = true
  | [] => rfl
  | x :: xs => lay_ints xs
theorem depth_ints : ∀ xs : List Int, PyData.depthAll (xs.map PyData.int) ≤ 1
  | [] => by decide
  | x :: xs => by
    have ih := depth_ints xs
    simp only [List.map_cons, PyData.depthAll, PyData.depth]
    omega
theorem shaped_intsT (xs : List Int) : SeqAt.shaped (.tuple (xs.map PyData.int)) = true := by
  have h := depth_ints xs
  show (PyData.canLay0 (.tuple (xs.map PyData.int)) && decide ((PyData.tuple (xs.map PyData.int)).depth ≤ 64)) = true
  rw [Bool.and_eq_true]
  refine ⟨by simp only [PyData.canLay0]; exact lay_ints xs, decide_eq_true ?_⟩
  simp only [PyData.depth]
  omega
theorem shaped_intsL (xs : List Int) : SeqAt.shaped (.list (xs.map PyData.int)) = true := by
  have h := depth_ints xs
  show (PyData.canLay0 (.list (xs.map PyData.int)) && decide ((PyData.list (xs.map PyData.int)).depth ≤ 64)) = true
  rw [Bool.and_eq_true]
  refine ⟨by simp only [PyData.canLay0]; exact lay_ints xs, decide_eq_true ?_⟩
  simp only [PyData.depth]
  omega
theorem dpAll_ints {K : PySem.W.Frag} {H : Hp} : ∀ xs : List Int, DpAll K H (xs.map V.int) (xs.map PyData.int)
  | [] => .nil
  | x :: xs => .cons (.int x) (dpAll_ints xs)
theorem dp_intsT {K : PySem.W.Frag} {H : Hp} {a : Addr} {xs : List Int} (h : SqT K H a (xs.map V.int)) : Dp K H (.ref a) (.tuple (xs.map PyData.int)) := .tup h (dpAll_ints xs)
theorem dp_intsL {K : PySem.W.Frag} {H : Hp} {a : Addr} {xs : List Int} (h : SqL K H a (xs.map V.int)) : Dp K H (.ref a) (.list (xs.map PyData.int)) := .lst h (dpAll_ints xs)
theorem walk_zipT {K : PySem.W.Frag} {a b : Addr} {xs ys : List V} {n : Nat} (hn : n = min xs.length ys.length) : Walk (ItzT K a b) n (fun H => SqT K H a xs ∧ SqT K H b ys) (YPair (fun i => xs[i]?) (fun i => ys[i]?)) := by
  subst hn
  refine ⟨fun i _ hi q => ?_, fun _ q => ⟨xs, ys, q.1, q.2, by omega⟩, fun i H v H' _ q y => ?_⟩
  · have h1 : i < xs.length := by omega
    have h2 : i < ys.length := by omega
    exact ⟨xs, ys, xs[i], ys[i], q.1, q.2, by simp [h1], by simp [h2]⟩
  · obtain ⟨T, x, z, h1, h2, h3, h4, h5⟩ := y
    exact ⟨T, x, z, h1, h2, h3, h4 xs q.1, h5 ys q.2⟩
end Wx

namespace Wx
open PySem PySem.Spec PyProof.Rows L2 NdefX RZ
/-! own operators: an instance and a whole number, two instances of one class -/
theorem back_rel {Q : Value → Shared → Prop} {x : V} {v : Value} {s : Shared} (r : RelV x v) (h : Q v s) : PySem.W.CmpBack Q v s := by
  cases x with
  | non => cases (show v = Value.none from r); exact h
  | bl b => cases (show v = Value.bool b from r); exact h
  | int i => obtain ⟨t, rfl⟩ := r; exact h
  | str z => obtain ⟨t, rfl⟩ := r; exact h
  | byt b => obtain ⟨t, rfl⟩ := r; exact h
  | flt b => obtain ⟨t, rfl⟩ := r; exact h
  | ref a => cases (show v = Value.ref a from r); exact h
  | ty n => cases (show v = Value.type n from r); exact h
/-- what the class at C says of an own operator of the names nm, rn -/
structure OpC (K : PySem.W.Frag) (C f : Addr) (nm rn : Str) : Prop where
  first : PySem.W.selfFirst K C = true
  own : PySem.W.findIn K (.ref C) nm = some (some (.ref f))
  fn : PySem.W.isFn K (.ref f) = true
  back : ∃ rc, PySem.W.findIn K (.ref C) rn = some rc ∧ (rc = none ∨ ∃ g : Addr, rc = some (.ref g))
  i1 : ∃ fo, PySem.W.findIn K (.type "int") nm = some fo
  i2 : ∃ ro, PySem.W.findIn K (.type "int") rn = some ro
  isub : PySem.W.subIn K (.type "int") (.ref C) = some false
def tOwnN (C : Addr) (sp : Sp) (E : L2.St → XK) (ta tb : TE) : TE := fun σ H Q => ta σ H fun x H1 => tb σ H1 fun y H2 => ∃ a dx fs i, x = .ref a ∧ y = .int i ∧ H2 a = some (.ins C dx fs) ∧ sp [x, y] H2 Q (E σ)
def tOwnB (C : Addr) (sp : Sp) (E : L2.St → XK) (ta tb : TE) : TE := fun σ H Q => ta σ H fun x H1 => tb σ H1 fun y H2 => ∃ a dx fs b dy gs, x = .ref a ∧ y = .ref b ∧ H2 a = some (.ins C dx fs) ∧ H2 b = some (.ins C dy gs) ∧ sp [x, y] H2 Q (E σ)
section
variable {X : Cx} {CX : CXT} {C f : Addr} {n : Nat} {fd : FuncData} {ps : List Str} {sp : Sp} {E : L2.St → XK} {op : Operator} {a b : Expr} {ta tb : TE} {pos : Pos} {nm rn : Str}
theorem pe_ownN (F : FnOk X.prog X.w X.K X.mg X.base CX n f fd ps sp) (hr : Room n X.A) (O : OpC X.K C f nm rn) (hb : Binds X.K fd ps []) (hx : ∀ σ, PassesAt CX X σ (E σ)) (en : PySem.dunder op.info.2 = nm) (er : PySem.dunderR op.info.2 = rn) (ha : PE X a ta) (hb' : PE X b tb) : PE X (.BinOp a op b pos) (tOwnN C sp E ta tb) := by
  subst en er
  refine ⟨fun pins s σ H Q I h => ?_⟩
  refine wpAny_BinOp (binT ha hb' I h fun v u s2 x y H2 I2 rx ry q => ?_)
  obtain ⟨p, dx, fs, i, rfl, rfl, hp, q⟩ := q
  cases (show v = Value.ref p from rx)
  obtain ⟨t, rfl⟩ := id ry
  obtain ⟨mA, J, _⟩ := ins_get I2.hok hp
  obtain ⟨od, J, _⟩ := J.look
  obtain ⟨m, hF⟩ := I2.fr
  obtain ⟨rc, e1, e2⟩ := O.back
  obtain ⟨fo, e3⟩ := O.i1
  obtain ⟨ro, e4⟩ := O.i2
  refine PySem.W.ksp_binT (T := "int") hF I2.ok.mod.kin J rfl O.first O.own O.fn e1 e2 e3 e4 O.isub ?_
  exact wpAny_mono (run_fnS (us := [.ref p, .int i t]) (vs := [.ref p, .int i]) F hr hb (hx σ) I2 (.cons rfl (.cons ⟨t, rfl⟩ .nil)) q) (fun w s' z => by
    obtain ⟨z', H', I', rz, qz⟩ := z
    exact back_rel rz ⟨z', H', I', rz, qz⟩) fun _ _ x => x
theorem pe_ownB (F : FnOk X.prog X.w X.K X.mg X.base CX n f fd ps sp) (hr : Room n X.A) (O : OpC X.K C f nm rn) (hb : Binds X.K fd ps []) (hx : ∀ σ, PassesAt CX X σ (E σ)) (en : PySem.dunder op.info.2 = nm) (er : PySem.dunderR op.info.2 = rn) (ha : PE X a ta) (hb' : PE X b tb) : PE X (.BinOp a op b pos) (tOwnB C sp E ta tb) := by
  subst en er
  refine ⟨fun pins s σ H Q I h => ?_⟩
  refine wpAny_BinOp (binT ha hb' I h fun v u s2 x y H2 I2 rx ry q => ?_)
  obtain ⟨p, dx, fs, r, dy, gs, rfl, rfl, hp, hq, q⟩ := q
  cases (show v = Value.ref p from rx)
  cases (show u = Value.ref r from ry)
  obtain ⟨mA, J, _⟩ := ins_get I2.hok hp
  obtain ⟨mB, J', _⟩ := ins_get I2.hok hq
  obtain ⟨od, J, _⟩ := J.look
  obtain ⟨od', J', _⟩ := J'.look
  obtain ⟨m, hF⟩ := I2.fr
  refine PySem.W.binop_K hF I2.ok.mod.kin J J'.type O.first O.own O.fn ?_
  exact wpAny_mono (run_fnS (us := [.ref p, .ref r]) (vs := [.ref p, .ref r]) F hr hb (hx σ) I2 (.cons rfl (.cons rfl .nil)) q) (fun w s' z => by
    obtain ⟨z', H', I', rz, qz⟩ := z
    exact back_rel rz ⟨z', H', I', rz, qz⟩) fun _ _ x => x
end
end Wx

/-! == and != of lists and tuples whose items have an own ==, with either answer -/
namespace GB
open PySem PySem.SeqAt
open AutoSeq1 (wpAny_loadPart')
open MeetsSeq MeetsSeq2 MeetsSeq3 SeqRoads2
open GQ (FinOf call_here)
theorem all_take {e : Nat → Bool} {N i : Nat} (h : ((List.range N).take i).all e = true) (hi : i < N) (t : e i = true) : ((List.range N).take (i + 1)).all e = true := by
  have q : (List.range N).take (i + 1) = (List.range N).take i ++ [i] := by
    rw [List.take_add_one, List.getElem?_range hi]
    rfl
  rw [q, List.all_append, h]
  simp [t]
theorem all_no {e : Nat → Bool} {N i : Nat} (hi : i < N) (t : e i = false) : (List.range N).all e = false := by
  refine Bool.eq_false_iff.mpr fun h => ?_
  have := List.all_eq_true.mp h i (List.mem_range.mpr hi)
  rw [t] at this
  cases this
theorem all_end {e : Nat → Bool} {N i : Nat} (h : ((List.range N).take i).all e = true) (hi : N ≤ i) : (List.range N).all e = true := by
  rw [List.take_of_length_le (by simpa using hi)] at h
  exact h
section
variable {prog : Program} {w : World} {A : Around} {R : Result → Shared → Prop}
def ListB (prog : Program) (w : World) (A : Around) (E : Value → Shared → Prop) (l b : Addr) (N : Nat) (e : Nat → Bool) (I : Shared → Prop) : Prop :=
  ∀ s, I s → ∃ (items items2 : Array Value) (n n2 : Nat), s.heap.get? l = some { cls := .type "list", data := .seq items n } ∧ s.heap.get? b = some { cls := .type "list", data := .seq items2 n2 } ∧ items.size = N ∧ items2.size = N ∧
    ∀ i (h1 : i < items.size) (h2 : i < items2.size), wpAny (model prog w) A.in1 (eqBool items[i] items2[i]) (fun r s' => r = e i ∧ I s') E s

theorem eq_loopB (l b : Addr) (N : Nat) (e : Nat → Bool) (I : Shared → Prop) (hl : ListB prog w A (fun e s' => R (.error e) s') l b N e I)
    (fin : ∀ s, I s → R (.ok (.ret (.bool ((List.range N).all e)))) s) (k : Nat) :
    ∀ i : Nat, N - i = k → i ≤ N → ((List.range N).take i).all e = true → ∀ s, I s →
      wpAny (model prog w) A.in1 (Builtin.«list.__eq__.loop» ⟨[.ref l, .ref b, rawInt i, rawInt 2], []⟩) (FinOf prog w A R) (fun e s' => R (.error e) s') s := by
  induction k with
  | zero =>
    intro i hk hi ha s h
    obtain ⟨items, items2, n, n2, hl1, hb1, hs1, hs2, _⟩ := hl _ h
    have hi' : i = N := by omega
    have hR := fin s h
    rw [all_end ha (by omega)] at hR
    obtain ⟨hp, g, d, tk, os⟩ := s
    wp_walk using wpAny_loadPart' hl1, wpAny_loadPart' hb1
    have hi1 : items[((i : Nat) : Int).toNat]? = none := by simp; omega
    have hi2 : items2[((i : Nat) : Int).toNat]? = none := by simp; omega
    rw [hi1, hi2]
    wp_walk using wpAny_loadPart' hl1, wpAny_loadPart' hb1
    show R (.ok (.ret (.bool (items.size == items2.size)))) _
    rw [hs1, hs2]
    simpa using hR
  | succ k ih =>
    intro i hk hi ha s h
    obtain ⟨items, items2, n, n2, hl1, hb1, hs1, hs2, turn⟩ := hl _ h
    have hlt : i < items.size := by omega
    have hlt2 : i < items2.size := by omega
    have ht := turn i hlt hlt2
    obtain ⟨hp, g, d, tk, os⟩ := s
    wp_walk using wpAny_loadPart' hl1, wpAny_loadPart' hb1
    have hi1 : items[((i : Nat) : Int).toNat]? = some items[i] := by simp [hlt]
    have hi2 : items2[((i : Nat) : Int).toNat]? = some items2[i] := by simp [hlt2]
    have hc : ((i : Int) + 1) = ((i + 1 : Nat) : Int) := by omega
    rw [hi1, hi2]
    refine wpAny_bind (wpAny_mono ht (fun r s2 h2 => ?_) fun _ _ x => x)
    obtain ⟨hr, h2⟩ := h2
    subst hr
    cases hb' : e i with
    | true =>
      have hrec := ih (i + 1) (by omega) (by omega) (all_take ha (by omega) hb') s2 h2
      obtain ⟨hp2, g2, d2, tk2, os2⟩ := s2
      wp_walk
      rw [hc]
      exact ⟨plainId_quiet plain_eq_loop _, codeAny_builtin entry_eq_loop (by
        rw [Around.under_plainId plain_eq_loop _]
        exact hrec)⟩
    | false =>
      obtain ⟨items', items2', n', n2', hl1', hb1', hs1', hs2', _⟩ := hl _ h2
      have hR := fin s2 h2
      rw [all_no (by omega) hb'] at hR
      obtain ⟨hp2, g2, d2, tk2, os2⟩ := s2
      wp_walk using wpAny_loadPart' hl1', wpAny_loadPart' hb1'
      have hi1 : items'[((i : Nat) : Int).toNat]? = some (items'[i]'(by omega)) := by simp [show i < items'.size by omega]
      have hi2 : items2'[((i : Nat) : Int).toNat]? = some (items2'[i]'(by omega)) := by simp [show i < items2'.size by omega]
      rw [hi1, hi2]
      wp_walk
      simpa using hR
theorem list_eqB (l b : Addr) (N : Nat) (e : Nat → Bool) (I : Shared → Prop) (hl : ListB prog w A (fun e s' => R (.error e) s') l b N e I)
    (fin : ∀ s, I s → R (.ok (.ret (.bool ((List.range N).all e)))) s) {s : Shared} (h : I s) :
    wpAny (model prog w) A.in1 (Builtin.«list.__eq__» ⟨[.ref l, .ref b], []⟩) (FinOf prog w A R) (fun e s' => R (.error e) s') s := by
  obtain ⟨items, items2, n, n2, hl1, hb1, hs1, hs2, _⟩ := hl _ h
  have hrec := eq_loopB (A := A) (R := R) l b N e I hl fin _ 0 rfl (Nat.zero_le _) rfl s h
  obtain ⟨hp, g, d, tk, os⟩ := s
  have f3 := AutoSeq1.sub_list_list
  have hne : ¬ (items.size != items2.size) = true := by simp [hs1, hs2]
  wp_walk using wpAny_loadPart' hl1, wpAny_loadPart' hb1
  exact ⟨plainId_quiet plain_eq_loop _, codeAny_builtin entry_eq_loop (by
    rw [Around.under_plainId plain_eq_loop _]
    exact hrec)⟩
theorem list_eqD (l b : Addr) (items items2 : Array Value) (n n2 : Nat) (hc0 : (items.size != items2.size) = true) {s : Shared} (hl1 : s.heap.get? l = some { cls := .type "list", data := .seq items n }) (hb1 : s.heap.get? b = some { cls := .type "list", data := .seq items2 n2 })
    (fin : R (.ok (.ret (.bool false))) s) :
    wpAny (model prog w) A.in1 (Builtin.«list.__eq__» ⟨[.ref l, .ref b], []⟩) (FinOf prog w A R) (fun e s' => R (.error e) s') s := by
  obtain ⟨hp, g, d, tk, os⟩ := s
  have f3 := AutoSeq1.sub_list_list
  wp_walk using wpAny_loadPart' hl1, wpAny_loadPart' hb1
  exact fin
theorem tuple_eqB (l b : Addr) (items items2 : Array Value) (n n2 : Nat) (dd dd2 : Option Addr) (sl sl2 : Array (Option Value)) (e : Nat → Bool) (I : Shared → Prop)
    (turn : ∀ i (h1 : i < items.size) (h2 : i < items2.size) s, I s → wpAny (model prog w) A.in1 (eqBool items[i] items2[i]) (fun r s' => r = e i ∧ I s') (fun e s' => R (.error e) s') s)
    (fin : ∀ s, I s → R (.ok (.ret (.bool ((List.range (min items.size items2.size)).all e && items.size == items2.size)))) s) {s : Shared} (hl1 : s.heap.get? l = some { cls := .type "tuple", dict := dd, data := .seq items n, slots := sl }) (hb1 : s.heap.get? b = some { cls := .type "tuple", dict := dd2, data := .seq items2 n2, slots := sl2 }) (h : I s) :
    wpAny (model prog w) A.in1 (Builtin.«tuple.__eq__» ⟨[.ref l, .ref b], []⟩) (FinOf prog w A R) (fun e s' => R (.error e) s') s := by
  have f2 := AutoSeq1.sub_tuple_tuple
  have hZ : (items.toList.zip items2.toList).length = min items.size items2.size := by simp
  have h0 := h
  obtain ⟨hp, g, d, tk, os⟩ := s
  wp_walk using wpAny_loadPart' hl1, wpAny_loadPart' hb1, wpAny_forIn_list _ (fun rest b s' => b.1 = none ∧ ∃ i, rest = (items.toList.zip items2.toList).drop i ∧ ((List.range (min items.size items2.size)).take i).all e = true ∧ I s') _
  case turn =>
    rintro ⟨y, x⟩ rest b s' ⟨hb', i, hz, ha, hI⟩
    have hlt : i < (items.toList.zip items2.toList).length := by
      rcases Nat.lt_or_ge i (items.toList.zip items2.toList).length with h' | h'
      · exact h'
      · rw [List.drop_of_length_le h'] at hz; cases hz
    have hm : i < min items.size items2.size := hZ ▸ hlt
    have h1 : i < items.size := Nat.lt_of_lt_of_le hm (Nat.min_le_left _ _)
    have h2 : i < items2.size := Nat.lt_of_lt_of_le hm (Nat.min_le_right _ _)
    rw [List.drop_eq_getElem_cons hlt] at hz
    injection hz with hyx hrest
    have hy : y = items[i] := by have := congrArg Prod.fst hyx; simpa using this
    have hx : x = items2[i] := by have := congrArg Prod.snd hyx; simpa using this
    subst hy hx
    refine wpAny_bind (wpAny_mono (turn i h1 h2 s' hI) (fun r s2 q2 => ?_) fun _ _ x => x)
    obtain ⟨hr, q2⟩ := q2
    subst hr
    cases hy : e i with
    | true =>
      wp_walk
      exact ⟨rfl, i + 1, hrest, all_take ha hm hy, q2⟩
    | false =>
      have hR := fin s2 q2
      rw [all_no hm hy] at hR
      wp_walk
      simpa using hR
  case fin =>
    rintro ⟨b1, b2⟩ s' ⟨hb', i, hz, ha, hI⟩
    simp only at hb'
    subst hb'
    have hge : min items.size items2.size ≤ i := by
      rcases Nat.lt_or_ge i (items.toList.zip items2.toList).length with h' | h'
      · rw [List.drop_eq_getElem_cons h'] at hz; cases hz
      · exact hZ ▸ h'
    have hR := fin s' hI
    rw [all_end ha hge] at hR
    wp_walk
    simpa [Builtin.Tuple.tupleCompareSizes, bne] using hR
  case h =>
    exact ⟨rfl, 0, rfl, rfl, h0⟩
section
variable {E : Value → Shared → Prop} {s : Shared}
theorem rc_list_eq {l b : Addr} {N : Nat} {e : Nat → Bool} {Q : Value → Shared → Prop} (hu : A.units < cLine) (I : Shared → Prop) (hl : ListB prog w A E l b N e I)
    (fin : ∀ s, I s → Q (.bool ((List.range N).all e)) s) (h : I s) : wpAny (model prog w) A (richCompare .Eq (.ref l) (.ref b)) Q E s := by
  obtain ⟨items, items2, n, n2, hl1, hb1, _, _, _⟩ := hl _ h
  refine wpAny_richCompare_same_room (op := .Eq) ⟨_, hl1, rfl⟩ ⟨_, hb1, rfl⟩ F.slot_list_eq (call_here F.slot_list_eq ⟨_, hl1, rfl⟩ F.entry_list_eq (F.args_list_eq_2 _ _) ?_) hu
  exact list_eqB (R := wants (fun v s' => v ≠ .notImplemented ∧ Q v s') E) l b N e I hl (fun s' q => ⟨(fun x => nomatch x), fin s' q⟩) h
theorem rc_list_eqD {l b : Addr} {items items2 : Array Value} {n n2 : Nat} {Q : Value → Shared → Prop} (hu : A.units < cLine) (hc0 : (items.size != items2.size) = true) (hl1 : s.heap.get? l = some { cls := .type "list", data := .seq items n }) (hb1 : s.heap.get? b = some { cls := .type "list", data := .seq items2 n2 })
    (fin : Q (.bool false) s) : wpAny (model prog w) A (richCompare .Eq (.ref l) (.ref b)) Q E s := by
  refine wpAny_richCompare_same_room (op := .Eq) ⟨_, hl1, rfl⟩ ⟨_, hb1, rfl⟩ F.slot_list_eq (call_here F.slot_list_eq ⟨_, hl1, rfl⟩ F.entry_list_eq (F.args_list_eq_2 _ _) ?_) hu
  exact list_eqD (R := wants (fun v s' => v ≠ .notImplemented ∧ Q v s') E) l b items items2 n n2 hc0 hl1 hb1 ⟨(fun x => nomatch x), fin⟩
theorem rc_tup_eq {l b : Addr} {items items2 : Array Value} {e : Nat → Bool} {Q : Value → Shared → Prop} (hu : A.units < cLine) (I : Shared → Prop) (hl : s.heap.IsTuple l items) (hb : s.heap.IsTuple b items2)
    (turn : ∀ i (h1 : i < items.size) (h2 : i < items2.size) s, I s → wpAny (model prog w) A.in1 (eqBool items[i] items2[i]) (fun r s' => r = e i ∧ I s') E s)
    (fin : ∀ s, I s → Q (.bool ((List.range (min items.size items2.size)).all e && items.size == items2.size)) s) (h : I s) : wpAny (model prog w) A (richCompare .Eq (.ref l) (.ref b)) Q E s := by
  obtain ⟨⟨cls, dd, data, sl⟩, ho, hc, n, hd⟩ := id hl
  obtain ⟨⟨cls2, dd2, data2, sl2⟩, ho2, hc2, n2, hd2⟩ := id hb
  simp only at hc hd hc2 hd2
  subst hc hd hc2 hd2
  refine wpAny_richCompare_same_room (op := .Eq) ⟨_, ho, rfl⟩ ⟨_, ho2, rfl⟩ F.slot_tuple_eq (call_here F.slot_tuple_eq ⟨_, ho, rfl⟩ F.entry_tuple_eq (F.args_tuple_eq_2 _ _) ?_) hu
  exact tuple_eqB (R := wants (fun v s' => v ≠ .notImplemented ∧ Q v s') E) l b items items2 n n2 dd dd2 sl sl2 e I turn (fun s' q => ⟨(fun x => nomatch x), fin s' q⟩) ho ho2 h
end

theorem ne_loopB (l b : Addr) (N : Nat) (e : Nat → Bool) (I : Shared → Prop) (hl : ListB prog w A (fun e s' => R (.error e) s') l b N e I)
    (fin : ∀ s, I s → R (.ok (.ret (.bool (!(List.range N).all e)))) s) (k : Nat) :
    ∀ i : Nat, N - i = k → i ≤ N → ((List.range N).take i).all e = true → ∀ s, I s →
      wpAny (model prog w) A.in1 (Builtin.«list.__eq__.loop» ⟨[.ref l, .ref b, rawInt i, rawInt 3], []⟩) (FinOf prog w A R) (fun e s' => R (.error e) s') s := by
  induction k with
  | zero =>
    intro i hk hi ha s h
    obtain ⟨items, items2, n, n2, hl1, hb1, hs1, hs2, _⟩ := hl _ h
    have hi' : i = N := by omega
    have hR := fin s h
    rw [all_end ha (by omega)] at hR
    obtain ⟨hp, g, d, tk, os⟩ := s
    wp_walk using wpAny_loadPart' hl1, wpAny_loadPart' hb1
    have hi1 : items[((i : Nat) : Int).toNat]? = none := by simp; omega
    have hi2 : items2[((i : Nat) : Int).toNat]? = none := by simp; omega
    rw [hi1, hi2]
    wp_walk using wpAny_loadPart' hl1, wpAny_loadPart' hb1
    show R (.ok (.ret (.bool (items.size != items2.size)))) _
    rw [hs1, hs2]
    simpa using hR
  | succ k ih =>
    intro i hk hi ha s h
    obtain ⟨items, items2, n, n2, hl1, hb1, hs1, hs2, turn⟩ := hl _ h
    have hlt : i < items.size := by omega
    have hlt2 : i < items2.size := by omega
    have ht := turn i hlt hlt2
    obtain ⟨hp, g, d, tk, os⟩ := s
    wp_walk using wpAny_loadPart' hl1, wpAny_loadPart' hb1
    have hi1 : items[((i : Nat) : Int).toNat]? = some items[i] := by simp [hlt]
    have hi2 : items2[((i : Nat) : Int).toNat]? = some items2[i] := by simp [hlt2]
    have hc : ((i : Int) + 1) = ((i + 1 : Nat) : Int) := by omega
    rw [hi1, hi2]
    refine wpAny_bind (wpAny_mono ht (fun r s2 h2 => ?_) fun _ _ x => x)
    obtain ⟨hr, h2⟩ := h2
    subst hr
    cases hb' : e i with
    | true =>
      have hrec := ih (i + 1) (by omega) (by omega) (all_take ha (by omega) hb') s2 h2
      obtain ⟨hp2, g2, d2, tk2, os2⟩ := s2
      wp_walk
      rw [hc]
      exact ⟨plainId_quiet plain_eq_loop _, codeAny_builtin entry_eq_loop (by
        rw [Around.under_plainId plain_eq_loop _]
        exact hrec)⟩
    | false =>
      obtain ⟨items', items2', n', n2', hl1', hb1', hs1', hs2', _⟩ := hl _ h2
      have hR := fin s2 h2
      rw [all_no (by omega) hb'] at hR
      obtain ⟨hp2, g2, d2, tk2, os2⟩ := s2
      wp_walk using wpAny_loadPart' hl1', wpAny_loadPart' hb1'
      have hi1 : items'[((i : Nat) : Int).toNat]? = some (items'[i]'(by omega)) := by simp [show i < items'.size by omega]
      have hi2 : items2'[((i : Nat) : Int).toNat]? = some (items2'[i]'(by omega)) := by simp [show i < items2'.size by omega]
      rw [hi1, hi2]
      wp_walk
      simpa using hR
theorem list_neB (l b : Addr) (N : Nat) (e : Nat → Bool) (I : Shared → Prop) (hl : ListB prog w A (fun e s' => R (.error e) s') l b N e I)
    (fin : ∀ s, I s → R (.ok (.ret (.bool (!(List.range N).all e)))) s) {s : Shared} (h : I s) :
    wpAny (model prog w) A.in1 (Builtin.«list.__ne__» ⟨[.ref l, .ref b], []⟩) (FinOf prog w A R) (fun e s' => R (.error e) s') s := by
  obtain ⟨items, items2, n, n2, hl1, hb1, hs1, hs2, _⟩ := hl _ h
  have hrec := ne_loopB (A := A) (R := R) l b N e I hl fin _ 0 rfl (Nat.zero_le _) rfl s h
  obtain ⟨hp, g, d, tk, os⟩ := s
  have f3 := AutoSeq1.sub_list_list
  have hne : ¬ (items.size != items2.size) = true := by simp [hs1, hs2]
  wp_walk using wpAny_loadPart' hl1, wpAny_loadPart' hb1
  exact ⟨plainId_quiet plain_eq_loop _, codeAny_builtin entry_eq_loop (by
    rw [Around.under_plainId plain_eq_loop _]
    exact hrec)⟩
theorem list_neD (l b : Addr) (items items2 : Array Value) (n n2 : Nat) (hc0 : (items.size != items2.size) = true) {s : Shared} (hl1 : s.heap.get? l = some { cls := .type "list", data := .seq items n }) (hb1 : s.heap.get? b = some { cls := .type "list", data := .seq items2 n2 })
    (fin : R (.ok (.ret (.bool true))) s) :
    wpAny (model prog w) A.in1 (Builtin.«list.__ne__» ⟨[.ref l, .ref b], []⟩) (FinOf prog w A R) (fun e s' => R (.error e) s') s := by
  obtain ⟨hp, g, d, tk, os⟩ := s
  have f3 := AutoSeq1.sub_list_list
  wp_walk using wpAny_loadPart' hl1, wpAny_loadPart' hb1
  exact fin
theorem tuple_neB (l b : Addr) (items items2 : Array Value) (n n2 : Nat) (dd dd2 : Option Addr) (sl sl2 : Array (Option Value)) (e : Nat → Bool) (I : Shared → Prop)
    (turn : ∀ i (h1 : i < items.size) (h2 : i < items2.size) s, I s → wpAny (model prog w) A.in1 (eqBool items[i] items2[i]) (fun r s' => r = e i ∧ I s') (fun e s' => R (.error e) s') s)
    (fin : ∀ s, I s → R (.ok (.ret (.bool (!((List.range (min items.size items2.size)).all e && items.size == items2.size))))) s) {s : Shared} (hl1 : s.heap.get? l = some { cls := .type "tuple", dict := dd, data := .seq items n, slots := sl }) (hb1 : s.heap.get? b = some { cls := .type "tuple", dict := dd2, data := .seq items2 n2, slots := sl2 }) (h : I s) :
    wpAny (model prog w) A.in1 (Builtin.«tuple.__ne__» ⟨[.ref l, .ref b], []⟩) (FinOf prog w A R) (fun e s' => R (.error e) s') s := by
  have f2 := AutoSeq1.sub_tuple_tuple
  have hZ : (items.toList.zip items2.toList).length = min items.size items2.size := by simp
  have h0 := h
  obtain ⟨hp, g, d, tk, os⟩ := s
  wp_walk using wpAny_loadPart' hl1, wpAny_loadPart' hb1, wpAny_forIn_list _ (fun rest b s' => b.1 = none ∧ ∃ i, rest = (items.toList.zip items2.toList).drop i ∧ ((List.range (min items.size items2.size)).take i).all e = true ∧ I s') _
  case turn =>
    rintro ⟨y, x⟩ rest b s' ⟨hb', i, hz, ha, hI⟩
    have hlt : i < (items.toList.zip items2.toList).length := by
      rcases Nat.lt_or_ge i (items.toList.zip items2.toList).length with h' | h'
      · exact h'
      · rw [List.drop_of_length_le h'] at hz; cases hz
    have hm : i < min items.size items2.size := hZ ▸ hlt
    have h1 : i < items.size := Nat.lt_of_lt_of_le hm (Nat.min_le_left _ _)
    have h2 : i < items2.size := Nat.lt_of_lt_of_le hm (Nat.min_le_right _ _)
    rw [List.drop_eq_getElem_cons hlt] at hz
    injection hz with hyx hrest
    have hy : y = items[i] := by have := congrArg Prod.fst hyx; simpa using this
    have hx : x = items2[i] := by have := congrArg Prod.snd hyx; simpa using this
    subst hy hx
    refine wpAny_bind (wpAny_mono (turn i h1 h2 s' hI) (fun r s2 q2 => ?_) fun _ _ x => x)
    obtain ⟨hr, q2⟩ := q2
    subst hr
    cases hy : e i with
    | true =>
      wp_walk
      exact ⟨rfl, i + 1, hrest, all_take ha hm hy, q2⟩
    | false =>
      have hR := fin s2 q2
      rw [all_no hm hy] at hR
      wp_walk
      simpa using hR
  case fin =>
    rintro ⟨b1, b2⟩ s' ⟨hb', i, hz, ha, hI⟩
    simp only at hb'
    subst hb'
    have hge : min items.size items2.size ≤ i := by
      rcases Nat.lt_or_ge i (items.toList.zip items2.toList).length with h' | h'
      · rw [List.drop_eq_getElem_cons h'] at hz; cases hz
      · exact hZ ▸ h'
    have hR := fin s' hI
    rw [all_end ha hge] at hR
    wp_walk
    simpa [Builtin.Tuple.tupleCompareSizes, bne] using hR
  case h =>
    exact ⟨rfl, 0, rfl, rfl, h0⟩
section
variable {E : Value → Shared → Prop} {s : Shared}
theorem rc_list_ne {l b : Addr} {N : Nat} {e : Nat → Bool} {Q : Value → Shared → Prop} (hu : A.units < cLine) (I : Shared → Prop) (hl : ListB prog w A E l b N e I)
    (fin : ∀ s, I s → Q (.bool (!(List.range N).all e)) s) (h : I s) : wpAny (model prog w) A (richCompare .NotEq (.ref l) (.ref b)) Q E s := by
  obtain ⟨items, items2, n, n2, hl1, hb1, _, _, _⟩ := hl _ h
  refine wpAny_richCompare_same_room (op := .NotEq) ⟨_, hl1, rfl⟩ ⟨_, hb1, rfl⟩ F.slot_list_ne (call_here F.slot_list_ne ⟨_, hl1, rfl⟩ F.entry_list_ne (F.args_list_ne_2 _ _) ?_) hu
  exact list_neB (R := wants (fun v s' => v ≠ .notImplemented ∧ Q v s') E) l b N e I hl (fun s' q => ⟨(fun x => nomatch x), fin s' q⟩) h
theorem rc_list_neD {l b : Addr} {items items2 : Array Value} {n n2 : Nat} {Q : Value → Shared → Prop} (hu : A.units < cLine) (hc0 : (items.size != items2.size) = true) (hl1 : s.heap.get? l = some { cls := .type "list", data := .seq items n }) (hb1 : s.heap.get? b = some { cls := .type "list", data := .seq items2 n2 })
    (fin : Q (.bool true) s) : wpAny (model prog w) A (richCompare .NotEq (.ref l) (.ref b)) Q E s := by
  refine wpAny_richCompare_same_room (op := .NotEq) ⟨_, hl1, rfl⟩ ⟨_, hb1, rfl⟩ F.slot_list_ne (call_here F.slot_list_ne ⟨_, hl1, rfl⟩ F.entry_list_ne (F.args_list_ne_2 _ _) ?_) hu
  exact list_neD (R := wants (fun v s' => v ≠ .notImplemented ∧ Q v s') E) l b items items2 n n2 hc0 hl1 hb1 ⟨(fun x => nomatch x), fin⟩
theorem rc_tup_ne {l b : Addr} {items items2 : Array Value} {e : Nat → Bool} {Q : Value → Shared → Prop} (hu : A.units < cLine) (I : Shared → Prop) (hl : s.heap.IsTuple l items) (hb : s.heap.IsTuple b items2)
    (turn : ∀ i (h1 : i < items.size) (h2 : i < items2.size) s, I s → wpAny (model prog w) A.in1 (eqBool items[i] items2[i]) (fun r s' => r = e i ∧ I s') E s)
    (fin : ∀ s, I s → Q (.bool (!((List.range (min items.size items2.size)).all e && items.size == items2.size))) s) (h : I s) : wpAny (model prog w) A (richCompare .NotEq (.ref l) (.ref b)) Q E s := by
  obtain ⟨⟨cls, dd, data, sl⟩, ho, hc, n, hd⟩ := id hl
  obtain ⟨⟨cls2, dd2, data2, sl2⟩, ho2, hc2, n2, hd2⟩ := id hb
  simp only at hc hd hc2 hd2
  subst hc hd hc2 hd2
  refine wpAny_richCompare_same_room (op := .NotEq) ⟨_, ho, rfl⟩ ⟨_, ho2, rfl⟩ F.slot_tuple_ne (call_here F.slot_tuple_ne ⟨_, ho, rfl⟩ F.entry_tuple_ne (F.args_tuple_ne_2 _ _) ?_) hu
  exact tuple_neB (R := wants (fun v s' => v ≠ .notImplemented ∧ Q v s') E) l b items items2 n n2 dd dd2 sl sl2 e I turn (fun s' q => ⟨(fun x => nomatch x), fin s' q⟩) ho ho2 h
end
end
end GB
namespace Wx
open PySem PySem.Spec PyProof.Rows L2 NdefX RZ
/-! what a value stands for, and == by it -/
abbrev Rep (α : Type) := V → Hp → α → Prop
def RMon {α : Type} (R : Rep α) : Prop := ∀ x H H' a, Ext H H' → R x H a → R x H' a
def RFun {α : Type} (R : Rep α) : Prop := ∀ x H a a', R x H a → R x H a' → a = a'
def Reps {α : Type} (R : Rep α) (H : Hp) : List V → List α → Prop
  | [], [] => True
  | x :: xs, a :: as => R x H a ∧ Reps R H xs as
  | _, _ => False
section
variable {α : Type} {R : Rep α} {H H' : Hp}
theorem Reps.len : ∀ {xs : List V} {as : List α}, Reps R H xs as → xs.length = as.length
  | [], [], _ => rfl
  | _ :: xs, _ :: as, h => by rw [List.length_cons, List.length_cons, Reps.len h.2]
  | [], _ :: _, h => h.elim
  | _ :: _, [], h => h.elim
theorem Reps.mono (hR : RMon R) (e : Ext H H') : ∀ {xs : List V} {as : List α}, Reps R H xs as → Reps R H' xs as
  | [], [], _ => trivial
  | _ :: xs, _ :: as, h => ⟨hR _ _ _ _ e h.1, Reps.mono hR e h.2⟩
  | [], _ :: _, h => h.elim
  | _ :: _, [], h => h.elim
theorem Reps.imp {S : Rep α} (hR : ∀ x a, R x H a → S x H' a) : ∀ {xs : List V} {as : List α}, Reps R H xs as → Reps S H' xs as
  | [], [], _ => trivial
  | _ :: xs, _ :: as, h => ⟨hR _ _ h.1, Reps.imp hR h.2⟩
  | [], _ :: _, h => h.elim
  | _ :: _, [], h => h.elim
theorem Reps.fn (hR : RFun R) : ∀ {xs : List V} {as bs : List α}, Reps R H xs as → Reps R H xs bs → as = bs
  | [], [], [], _, _ => rfl
  | _ :: xs, _ :: as, _ :: bs, h, h' => by rw [hR _ _ _ _ h.1 h'.1, Reps.fn hR h.2 h'.2]
  | [], _ :: _, _, h, _ => h.elim
  | [], _, _ :: _, _, h => h.elim
  | _ :: _, [], _, h, _ => h.elim
  | _ :: _, _, [], _, h => h.elim
theorem Reps.get : ∀ {xs : List V} {as : List α} {i : Nat} {x : V} {a : α}, Reps R H xs as → xs[i]? = some x → as[i]? = some a → R x H a
  | _ :: xs, _ :: as, 0, x, a, h, h1, h2 => by
    have e1 := Option.some.inj h1
    have e2 := Option.some.inj h2
    subst e1 e2
    exact h.1
  | _ :: xs, _ :: as, i + 1, x, a, h, h1, h2 => Reps.get (i := i) h.2 h1 h2
  | [], _, _, _, _, _, h, _ => by simp at h
  | _ :: _, [], _, _, _, h, _, _ => h.elim
theorem Reps.at {xs : List V} {as : List α} {i : Nat} {x : V} (h : Reps R H xs as) (h1 : xs[i]? = some x) : ∃ a, as[i]? = some a ∧ R x H a := by
  have hi : i < as.length := by rw [← h.len]; exact (List.getElem?_eq_some_iff.mp h1).1
  exact ⟨_, List.getElem?_eq_getElem hi, h.get h1 (List.getElem?_eq_getElem hi)⟩
theorem Reps.at' {xs : List V} {as : List α} {i : Nat} {a : α} (h : Reps R H xs as) (h1 : as[i]? = some a) : ∃ x, xs[i]? = some x ∧ R x H a := by
  have hi : i < xs.length := by rw [h.len]; exact (List.getElem?_eq_some_iff.mp h1).1
  exact ⟨_, List.getElem?_eq_getElem hi, h.get (List.getElem?_eq_getElem hi) h1⟩
theorem Reps.app : ∀ {xs ys : List V} {as bs : List α}, Reps R H xs as → Reps R H ys bs → Reps R H (xs ++ ys) (as ++ bs)
  | [], _, [], _, _, h' => h'
  | _ :: xs, _, _ :: as, _, h, h' => ⟨h.1, Reps.app h.2 h'⟩
  | [], _, _ :: _, _, h, _ => h.elim
  | _ :: _, _, [], _, h, _ => h.elim
theorem Reps.one {x : V} {a : α} (h : R x H a) : Reps R H [x] [a] := ⟨h, trivial⟩
theorem Reps.rep {x : V} {a : α} (h : R x H a) : ∀ n, Reps R H (List.replicate n x) (List.replicate n a)
  | 0 => trivial
  | n + 1 => ⟨h, Reps.rep h n⟩
theorem Reps.take : ∀ {xs : List V} {as : List α} (n : Nat), Reps R H xs as → Reps R H (xs.take n) (as.take n)
  | _, _, 0, _ => by rw [List.take_zero, List.take_zero]; trivial
  | [], [], n + 1, _ => trivial
  | _ :: xs, _ :: as, n + 1, h => ⟨h.1, Reps.take n h.2⟩
  | [], _ :: _, _ + 1, h => h.elim
  | _ :: _, [], _ + 1, h => h.elim
theorem Reps.drop : ∀ {xs : List V} {as : List α} (n : Nat), Reps R H xs as → Reps R H (xs.drop n) (as.drop n)
  | _, _, 0, h => h
  | [], [], n + 1, _ => trivial
  | _ :: xs, _ :: as, n + 1, h => Reps.drop n h.2
  | [], _ :: _, _ + 1, h => h.elim
  | _ :: _, [], _ + 1, h => h.elim
theorem Reps.set : ∀ {xs : List V} {as : List α} (i : Nat) {x : V} {a : α}, Reps R H xs as → R x H a → Reps R H (xs.set i x) (as.set i a)
  | [], [], _, _, _, _, _ => trivial
  | _ :: xs, _ :: as, 0, _, _, h, h' => ⟨h', h.2⟩
  | _ :: xs, _ :: as, i + 1, _, _, h, h' => ⟨h.1, Reps.set i h.2 h'⟩
  | [], _ :: _, _, _, _, h, _ => h.elim
  | _ :: _, [], _, _, _, h, _ => h.elim
end
/-- a tuple, a list whose items stand for as -/
def repT {α : Type} (R : Rep α) : Rep (List α) := fun x H as => ∃ p xs, x = .ref p ∧ H p = some (.tup xs) ∧ Reps R H xs as
def repL {α : Type} (R : Rep α) : Rep (List α) := fun x H as => ∃ p xs, x = .ref p ∧ H p = some (.lst xs) ∧ Reps R H xs as
def repI : Rep Int := fun x _ i => x = .int i
section
variable {α : Type} {R : Rep α}
theorem repT_mono (hR : RMon R) : RMon (repT R) := fun x H H' a e h => by
  obtain ⟨p, xs, rfl, h1, h2⟩ := h
  exact ⟨p, xs, rfl, e _ _ h1, h2.mono hR e⟩
theorem repL_mono (hR : RMon R) : RMon (repL R) := fun x H H' a e h => by
  obtain ⟨p, xs, rfl, h1, h2⟩ := h
  exact ⟨p, xs, rfl, e _ _ h1, h2.mono hR e⟩
theorem repT_fn (hR : RFun R) : RFun (repT R) := fun x H a b h h' => by
  obtain ⟨p, xs, rfl, h1, h2⟩ := h
  obtain ⟨q, ys, e, h3, h4⟩ := h'
  cases e
  rw [h1] at h3
  cases h3
  exact h2.fn hR h4
theorem repL_fn (hR : RFun R) : RFun (repL R) := fun x H a b h h' => by
  obtain ⟨p, xs, rfl, h1, h2⟩ := h
  obtain ⟨q, ys, e, h3, h4⟩ := h'
  cases e
  rw [h1] at h3
  cases h3
  exact h2.fn hR h4
theorem repI_mono : RMon repI := fun _ _ _ _ _ h => h
theorem repI_fn : RFun repI := fun x H a b h h' => by rw [h] at h'; injection h'
end
theorem all_eqs {α : Type} [DecidableEq α] [Inhabited α] : ∀ (as bs : List α), ((List.range (min as.length bs.length)).all (fun i => decide (as[i]? = bs[i]?)) && as.length == bs.length) = decide (as = bs) := fun as bs => by
  rw [Bool.eq_iff_iff, Bool.and_eq_true, List.all_eq_true, decide_eq_true_iff, beq_iff_eq]
  constructor
  · rintro ⟨h, hl⟩
    apply List.ext_getElem?
    intro i
    by_cases hi : i < as.length
    · exact of_decide_eq_true (h i (List.mem_range.mpr (by omega)))
    · rw [List.getElem?_eq_none (by omega), List.getElem?_eq_none (by omega)]
  · rintro rfl
    exact ⟨fun i _ => decide_eq_true rfl, rfl⟩
def EqR {α : Type} [DecidableEq α] (X : Cx) (n : Nat) (R : Rep α) : Prop :=
  ∀ (A : Around) (pins : List (Addr × Obj)) (s : Shared) (σ : L2.St) (H : Hp) (x y : V) (u v : Value) (a b : α), Sub X n A → Inv X pins σ H s → RelV x u → RelV y v → R x H a → R y H b →
    wpAny (model X.prog X.w) A (eqBool u v) (fun r s' => r = decide (a = b) ∧ ∃ H', Inv X pins σ H' s' ∧ Ext H H') X.xe s
def RcR {α : Type} [DecidableEq α] (op : CmpOp) (g : Bool → Bool) (X : Cx) (n : Nat) (R : Rep α) : Prop :=
  ∀ (A : Around) (pins : List (Addr × Obj)) (s : Shared) (σ : L2.St) (H : Hp) (x y : V) (u v : Value) (a b : α), Sub X n A → Inv X pins σ H s → RelV x u → RelV y v → R x H a → R y H b →
    wpAny (model X.prog X.w) A (richCompare op u v) (fun r s' => r = .bool (g (decide (a = b))) ∧ ∃ H', Inv X pins σ H' s' ∧ Ext H H') X.xe s
section
variable {α : Type} [DecidableEq α] {R : Rep α} {X : Cx} {n m : Nat}
theorem EqR.mono (h : EqR X n R) (hn : n ≤ m) : EqR X m R := fun A pins s σ H x y u v a b sb => h A pins s σ H x y u v a b (sb.mono hn)
theorem eqR_int : EqR X 0 repI := by
  intro A pins s σ H x y u v a b sb I rx ry h1 h2
  cases h1
  cases h2
  have q := eqAt_V (A := A) (s := s) rx ry rfl rfl
  refine q X.prog X.w X.xe _ ⟨?_, H, I, Ext.rfl'⟩
  show eqV (.int a) (.int b) = decide (a = b)
  first | rfl | simp [eqV]
theorem RcR.eqR (h : RcR .Eq id X n R) (hr : ∀ x H a, R x H a → ∃ p, x = .ref p) (hf : RFun R) : EqR X n R := by
  intro A pins s σ H x y u v a b sb I rx ry h1 h2
  obtain ⟨p, rfl⟩ := hr _ _ _ h1
  obtain ⟨q, rfl⟩ := hr _ _ _ h2
  cases rx
  cases ry
  by_cases hab : p = q
  · subst hab
    have e := hf _ _ _ _ h1 h2
    subst e
    rw [decide_eq_true rfl]
    exact SeqAt.EqAt.same (A := A) (s := s) (.ref p) X.prog X.w X.xe _ ⟨rfl, H, I, Ext.rfl'⟩
  · refine GQ.eqBool_refG hab (wpAny_mono (h A pins s σ H (.ref p) (.ref q) _ _ a b sb I rfl rfl h1 h2) (fun r s' z => ?_) fun _ _ x => x)
    obtain ⟨hr', z⟩ := z
    exact ⟨_, hr', rfl, z⟩
theorem turnR (hM : RMon R) (h : EqR X n R) {A : Around} (sb : Sub X (n + 1) A) {pins : List (Addr × Obj)} {σ : L2.St} {H : Hp} {xs ys : List V} {as bs : List α} {its its2 : List Value} (p : Reps R H xs as) (q : Reps R H ys bs) (r : Vals xs its) (r2 : Vals ys its2)
    (i : Nat) (h1 : i < its.toArray.size) (h2 : i < its2.toArray.size) (s' : Shared) (l : LoopI X pins σ H s') :
    wpAny (model X.prog X.w) A.in1 (eqBool its.toArray[i] its2.toArray[i]) (fun r s2 => r = decide (as[i]? = bs[i]?) ∧ LoopI X pins σ H s2) X.xe s' := by
  obtain ⟨H1, I1, e1⟩ := l
  have g1 : its[i]? = some its.toArray[i] := by
    have h1' : i < its.length := by simpa using h1
    rw [List.getElem?_eq_getElem h1'] <;> simp
  have g2 : its2[i]? = some its2.toArray[i] := by
    have h2' : i < its2.length := by simpa using h2
    rw [List.getElem?_eq_getElem h2'] <;> simp
  have k1 : i < xs.length := by rw [r.length]; simpa using h1
  have k2 : i < ys.length := by rw [r2.length]; simpa using h2
  obtain ⟨u, hu, ru⟩ := r.get (List.getElem?_eq_getElem k1)
  obtain ⟨v, hv, rv⟩ := r2.get (List.getElem?_eq_getElem k2)
  rw [g1] at hu
  rw [g2] at hv
  rw [Option.some.inj hu, Option.some.inj hv]
  obtain ⟨a, ha, ra⟩ := p.at (List.getElem?_eq_getElem k1)
  obtain ⟨b, hb, rb⟩ := q.at (List.getElem?_eq_getElem k2)
  refine wpAny_mono (h A.in1 pins s' σ H1 _ _ u v a b sb.in1 I1 ru rv (hM _ _ _ _ e1 ra) (hM _ _ _ _ e1 rb)) (fun r s2 z => ?_) fun _ _ x => x
  obtain ⟨hr, H2, I2, e2⟩ := z
  refine ⟨?_, H2, I2, e1.trans e2⟩
  rw [hr, ha, hb]
  simp
theorem rc_T {op : CmpOp} {g : Bool → Bool} (hop : (op = .Eq ∧ g = id) ∨ (op = .NotEq ∧ g = not)) [Inhabited α] (hM : RMon R) (h : EqR X n R) : RcR op g X (n + 1) (repT R) := by
  intro A pins s σ H x y u v as bs sb I rx ry h1 h2
  obtain ⟨a, xs, rfl, ha, p⟩ := h1
  obtain ⟨b, ys, rfl, hb, q⟩ := h2
  cases rx
  cases ry
  obtain ⟨its, r, e, z⟩ := I.tuple (SqT.of (K := X.K) ha)
  obtain ⟨its2, r2, e2, z2⟩ := I.tuple (SqT.of (K := X.K) hb)
  have l1 : its.toArray.size = as.length := by rw [List.size_toArray, ← r.length]; exact p.len
  have l2 : its2.toArray.size = bs.length := by rw [List.size_toArray, ← r2.length]; exact q.len
  have ans : ((List.range (min its.toArray.size its2.toArray.size)).all (fun i => decide (as[i]? = bs[i]?)) && its.toArray.size == its2.toArray.size) = decide (as = bs) := by rw [l1, l2]; exact all_eqs as bs
  rcases hop with ⟨rfl, rfl⟩ | ⟨rfl, rfl⟩
  · exact GB.rc_tup_eq (e := fun i => decide (as[i]? = bs[i]?)) sb.room.units0 (fun s' => LoopI X pins σ H s') e e2 (fun i h1 h2 s' l => turnR hM h sb p q r r2 i h1 h2 s' l) (fun s' l => ⟨by rw [ans]; rfl, l⟩) ⟨H, I, Ext.rfl'⟩
  · exact GB.rc_tup_ne (e := fun i => decide (as[i]? = bs[i]?)) sb.room.units0 (fun s' => LoopI X pins σ H s') e e2 (fun i h1 h2 s' l => turnR hM h sb p q r r2 i h1 h2 s' l) (fun s' l => ⟨by rw [ans], l⟩) ⟨H, I, Ext.rfl'⟩
theorem rc_L {op : CmpOp} {g : Bool → Bool} (hop : (op = .Eq ∧ g = id) ∨ (op = .NotEq ∧ g = not)) [Inhabited α] (hM : RMon R) (h : EqR X n R) : RcR op g X (n + 1) (repL R) := by
  intro A pins s σ H x y u v as bs sb I rx ry h1 h2
  obtain ⟨a, xs, rfl, ha, p⟩ := h1
  obtain ⟨b, ys, rfl, hb, q⟩ := h2
  cases rx
  cases ry
  by_cases hl : as.length = bs.length
  · have ans : ((List.range xs.length).all (fun i => decide (as[i]? = bs[i]?))) = decide (as = bs) := by
      rw [← all_eqs as bs, p.len, hl]
      simp
    have LB : GB.ListB X.prog X.w A X.xe a b xs.length (fun i => decide (as[i]? = bs[i]?)) (fun s' => LoopI X pins σ H s') := fun s' l => by
      obtain ⟨H1, I1, e1⟩ := id l
      obtain ⟨z, its, k, r, e⟩ := I1.hok a _ (e1 _ _ ha)
      obtain ⟨z2, its2, k2, r2, e2⟩ := I1.hok b _ (e1 _ _ hb)
      refine ⟨its.toArray, its2.toArray, k, k2, e, e2, by rw [List.size_toArray, ← r.length], by rw [List.size_toArray, ← r2.length, q.len, p.len, hl], fun i h1 h2 => ?_⟩
      exact turnR hM h sb p q r r2 i h1 h2 s' l
    rcases hop with ⟨rfl, rfl⟩ | ⟨rfl, rfl⟩
    · exact GB.rc_list_eq sb.room.units0 _ LB (fun s' l => ⟨by rw [ans]; rfl, l⟩) ⟨H, I, Ext.rfl'⟩
    · exact GB.rc_list_ne sb.room.units0 _ LB (fun s' l => ⟨by rw [ans], l⟩) ⟨H, I, Ext.rfl'⟩
  · obtain ⟨z, its, k, r, e⟩ := I.hok a _ ha
    obtain ⟨z2, its2, k2, r2, e2⟩ := I.hok b _ hb
    have hc : (its.toArray.size != its2.toArray.size) = true := by
      rw [List.size_toArray, List.size_toArray, ← r.length, ← r2.length, p.len, q.len]
      simpa using hl
    have ans : decide (as = bs) = false := decide_eq_false (fun z => hl (by rw [z]))
    rcases hop with ⟨rfl, rfl⟩ | ⟨rfl, rfl⟩
    · exact GB.rc_list_eqD sb.room.units0 hc e e2 ⟨by rw [ans]; rfl, H, I, Ext.rfl'⟩
    · exact GB.rc_list_neD sb.room.units0 hc e e2 ⟨by rw [ans]; rfl, H, I, Ext.rfl'⟩
theorem eqR_T [Inhabited α] (hM : RMon R) (hF : RFun R) (h : EqR X n R) : EqR X (n + 1) (repT R) := (rc_T (.inl ⟨rfl, rfl⟩) hM h).eqR (fun _ _ _ d => let ⟨p, _, hx, _⟩ := d; ⟨p, hx⟩) (repT_fn hF)
theorem eqR_L [Inhabited α] (hM : RMon R) (hF : RFun R) (h : EqR X n R) : EqR X (n + 1) (repL R) := (rc_L (.inl ⟨rfl, rfl⟩) hM h).eqR (fun _ _ _ d => let ⟨p, _, hx, _⟩ := d; ⟨p, hx⟩) (repL_fn hF)
/-- x == y, x != y as expressions -/
def rEqR (R : Rep α) (g : Bool → Bool) : R2 := fun x y H Q => ∃ a b, R x H a ∧ R y H b ∧ ∀ H', Ext H H' → Q (.bl (g (decide (a = b)))) H'
theorem op_eqR {g : Bool → Bool} (h : RcR .Eq g X n R) (hr : Room n X.A) : OpR X (compareOp .Eq) (rEqR R g) := by
  intro pins s σ H x y v u Q I rx ry hq
  obtain ⟨a, b, ra, rb, q⟩ := hq
  show wpAny (model X.prog X.w) X.A (richCompare .Eq v u) (EP X pins σ Q) X.xe s
  refine wpAny_mono (h X.A pins s σ H x y v u a b ⟨hr, rfl⟩ I rx ry ra rb) (fun r s' z => ?_) fun _ _ x => x
  obtain ⟨hr', H', I', e⟩ := z
  subst hr'
  exact ⟨.bl _, H', I', rfl, q H' e⟩
theorem op_neR {g : Bool → Bool} (h : RcR .NotEq g X n R) (hr : Room n X.A) : OpR X (compareOp .NotEq) (rEqR R g) := by
  intro pins s σ H x y v u Q I rx ry hq
  obtain ⟨a, b, ra, rb, q⟩ := hq
  show wpAny (model X.prog X.w) X.A (richCompare .NotEq v u) (EP X pins σ Q) X.xe s
  refine wpAny_mono (h X.A pins s σ H x y v u a b ⟨hr, rfl⟩ I rx ry ra rb) (fun r s' z => ?_) fun _ _ x => x
  obtain ⟨hr', H', I', e⟩ := z
  subst hr'
  exact ⟨.bl _, H', I', rfl, q H' e⟩
/-- an own class: its __eq__ answers by what the instances stand for -/
theorem rcR_ins {CX : CXT} {C f : Addr} {fd : FuncData} {ps : List Str} {sp : Sp} {E : XK} (F : FnOk X.prog X.w X.K X.mg X.base CX n f fd ps sp)
    (hs : PySem.W.findIn X.K (.ref C) "__eq__" = some (some (.ref f))) (hf : PySem.W.isFn X.K (.ref f) = true) (hb : Binds X.K fd ps []) (hx : Passes CX X E)
    (hi : ∀ x H a, R x H a → ∃ p dx fs, x = .ref p ∧ H p = some (.ins C dx fs))
    (hsp : ∀ p q H a b (Q : VK), R (.ref p) H a → R (.ref q) H b → (∀ H', Ext H H' → Q (.bl (decide (a = b))) H') → sp [.ref p, .ref q] H Q E) : RcR .Eq id X n R := by
  intro A pins s σ H x y u v a b sb I rx ry h1 h2
  obtain ⟨p, dx, fs, rfl, ha⟩ := hi _ _ _ h1
  obtain ⟨q, dy, gs, rfl, hb'⟩ := hi _ _ _ h2
  cases rx
  cases ry
  obtain ⟨mA, J, _⟩ := ins_get I.hok ha
  obtain ⟨mB, J', _⟩ := ins_get I.hok hb'
  obtain ⟨od, J, _⟩ := J.look
  obtain ⟨od', J', _⟩ := J'.look
  obtain ⟨m, hF⟩ := I.fr
  refine PySem.W.cmp_K (op := .Eq) (tb := .ref C) sb.room.units0 hF I.ok.mod.kin J J'.type (by simp [PySem.W.notFirst]) hs hf ?_
  have h := hsp p q H a b (fun v H' => v = .bl (decide (a = b)) ∧ Ext H H') h1 h2 (fun H' e => ⟨rfl, e⟩)
  have e0 : Env0 X.prog X.w X.K X.mg X.base A X.stack s H := by
    have e := I.env0
    exact ⟨by rw [sb.fr]; exact e.frames, e.mod, e.bs, e.bsz, e.funs, e.frf, e.hok, e.bare⟩
  have hl := F.len _ _ _ _ h
  have r2 : Vals [V.ref p, V.ref q] [Value.ref p, Value.ref q] := .cons rfl (.cons rfl .nil)
  refine wpAny_call (codeAny_mono (F.run A X.stack s H ⟨[.ref p, .ref q], []⟩ [.ref p, .ref q] [.ref p, .ref q] _ E sb.room e0 (by
    have := hb s [.ref p, .ref q] I.kIn (by simpa using hl)
    simpa using this) r2 h) fun r s' hq => ?_)
  cases r with
  | error e => exact hx pins σ H s e s' I hq
  | ok fl =>
    cases fl with
    | ret w =>
      obtain ⟨z, H', I', rz, ez, ex⟩ := I.after hq
      subst ez
      cases rz
      exact ⟨rfl, H', I', ex⟩
    | next => exact False.elim hq
    | brk => exact False.elim hq
    | cont => exact False.elim hq
theorem eqR_ins {CX : CXT} {C f : Addr} {fd : FuncData} {ps : List Str} {sp : Sp} {E : XK} (F : FnOk X.prog X.w X.K X.mg X.base CX n f fd ps sp)
    (hs : PySem.W.findIn X.K (.ref C) "__eq__" = some (some (.ref f))) (hf : PySem.W.isFn X.K (.ref f) = true) (hb : Binds X.K fd ps []) (hx : Passes CX X E)
    (hi : ∀ x H a, R x H a → ∃ p dx fs, x = .ref p ∧ H p = some (.ins C dx fs))
    (hsp : ∀ p q H a b (Q : VK), R (.ref p) H a → R (.ref q) H b → (∀ H', Ext H H' → Q (.bl (decide (a = b))) H') → sp [.ref p, .ref q] H Q E) (hF : RFun R) : EqR X n R :=
  (rcR_ins F hs hf hb hx hi hsp).eqR (fun x H a h => let ⟨p, _, _, e, _⟩ := hi x H a h; ⟨p, e⟩) hF
end
end Wx

namespace Wx
open PySem PySem.Spec PyProof.Rows L2 NdefX RZ StX
/-! own [..] and len, a class made of a starred list, defs with a starred parameter that may raise -/
abbrev rTupOf (K : PySem.W.Frag) : List V → Hp → VK → Prop := fun xs H Q => ∃ p ys, xs = [.ref p] ∧ ((SqL K H p ys ∧ ∀ l, H l = none → Q (.ref l) (upd H l (.tup ys))) ∨ (SqT K H p ys ∧ Q (.ref p) H))
section
variable {X : Cx}
def rIxA (K : PySem.W.Frag) : R2 := fun x y H Q => ∃ p xs i v, x = .ref p ∧ y = .int i ∧ (SqL K H p xs ∨ SqT K H p xs) ∧ atI xs i = some v ∧ Q v H
theorem ix_lortu : IxR X (rIxA X.K) := by
  intro value slice pins s σ H x y v u Q I rx ry h hs
  obtain ⟨p, xs, i, z, hx, hy, hq, he, q⟩ := h
  rcases hq with hq | hq
  · exact ix_list value slice pins s σ H x y v u Q I rx ry ⟨p, xs, i, z, hx, hy, hq, he, q⟩ hs
  · exact ix_tup value slice pins s σ H x y v u Q I rx ry ⟨p, xs, i, z, hx, hy, hq, he, q⟩ hs
end
section
variable {X : Cx} {CX : CXT} {C f : Addr} {n k : Nat} {fd : FuncData} {ps : List Str} {sp : Sp} {E : L2.St → XK} {a b e : Expr} {es : List Expr} {ta tb te : TE} {t : TA} {x : Str} {pos p sp_ : Pos}
/-- a call in a deeper place, what is raised told at the slots -/
theorem run_inS {A : Around} {pins : List (Addr × Obj)} {σ : L2.St} {H : Hp} {s : Shared} {us : List Value} {vs : List V} {Q : VK} {E : XK} (F : FnOk X.prog X.w X.K X.mg X.base CX n f fd ps sp) (hr : Room n A) (e0 : Env0 X.prog X.w X.K X.mg X.base A X.stack s H) (hb : Binds X.K fd ps []) (hx : PassesAt CX X σ E)
    (I : Inv X pins σ H s) (r : Vals vs us) (h : sp vs H Q E) : wpAny (model X.prog X.w) A (call (.ref f) us) (EP X pins σ Q) X.xe s := by
  have hl : us.length = ps.length := by rw [← r.length]; exact F.len _ _ _ _ h
  refine wpAny_call (codeAny_mono (F.run A X.stack s H ⟨us, []⟩ us vs Q E hr e0 (by
    have := hb s us I.kIn (by simpa using hl)
    simpa using this) r h) fun r s' hq => ?_)
  cases r with
  | error e => exact hx pins H s e s' I hq
  | ok fl =>
    cases fl with
    | ret w => exact I.after hq
    | next => exact False.elim hq
    | brk => exact False.elim hq
    | cont => exact False.elim hq
theorem run_inR {A : Around} {pins : List (Addr × Obj)} {σ : L2.St} {H : Hp} {s : Shared} {us : List Value} {vs : List V} {Q : VK} {E : XK} (F : FnR X.prog X.w X.K X.mg X.base CX n f sp) (hr : Room n A) (e0 : Env0 X.prog X.w X.K X.mg X.base A X.stack s H) (hx : PassesAt CX X σ E)
    (I : Inv X pins σ H s) (r : Vals vs us) (h : sp vs H Q E) : codeAny (model X.prog X.w) A (.call (.ref f) ⟨us, []⟩) (fun r s' => match r with | .ok (.ret v) => EP X pins σ Q v s' | .ok _ => False | .error e => X.xe e s') s := by
  refine codeAny_mono (F A X.stack s H us vs Q E hr e0 r h) fun r s' hq => ?_
  cases r with
  | error e => exact hx pins H s e s' I hq
  | ok fl =>
    cases fl with
    | ret w => exact I.after hq
    | next => exact False.elim hq
    | brk => exact False.elim hq
    | cont => exact False.elim hq
def tIxOwn (C : Addr) (sp : Sp) (E : L2.St → XK) (ta tb : TE) : TE := fun σ H Q => ta σ H fun x H1 => tb σ H1 fun y H2 => ∃ a dx fs, x = .ref a ∧ H2 a = some (.ins C dx fs) ∧ sp [x, y] H2 Q (E σ)
/-- x[i] by an own __getitem__ -/
theorem pe_ixOwn (F : FnOk X.prog X.w X.K X.mg X.base CX n f fd ps sp) (hr : Room (n + 1) X.A) (hs : PySem.W.findIn X.K (.ref C) "__getitem__" = some (some (.ref f))) (hf : PySem.W.fnIn X.K f = true) (hfn : PySem.W.isFn X.K (.ref f) = true) (hb : Binds X.K fd ps []) (hx : ∀ σ, PassesAt CX X σ (E σ))
    (ha : PE X a ta) (hb' : PE X b tb) (hsl : ∀ v i, subscripted b true v i = runValue (.builtin "lifetime.subscript" ⟨[v, i], []⟩) := by intro _ _; with_unfolding_all rfl) : PE X (.Subscript a b pos) (tIxOwn C sp E ta tb) := by
  refine ⟨fun pins s σ H Q I h => ?_⟩
  refine Subscript_ (binT ha hb' I h fun v u s2 x y H2 I2 rx ry q => ?_)
  obtain ⟨p, dx, fs, rfl, hp, q⟩ := q
  cases (show v = Value.ref p from rx)
  obtain ⟨mA, J, _⟩ := ins_get I2.hok hp
  obtain ⟨od, J, _⟩ := J.look
  obtain ⟨m, hF⟩ := I2.fr
  refine PySem.W.sub_K hF I2.ok.mod.kin J hs hf hfn ?_ (hsl _ _)
  exact run_inS (us := [.ref p, u]) (vs := [.ref p, y]) F hr.in1 I2.env0.in1 hb (hx σ) I2 (.cons rfl (.cons ry .nil)) q
/-- len(x) by an own __len__ -/
theorem call_lenOwn {E : XK} (F : FnOk X.prog X.w X.K X.mg X.base CX n f fd ps sp) (hr : Room (n + 1) X.A) (hs : PySem.W.findIn X.K (.ref C) "__len__" = some (some (.ref f))) (hfn : PySem.W.isFn X.K (.ref f) = true) (hb : Binds X.K fd ps []) (hx : Passes CX X E) :
    CallR X (.builtin "len") (fun xs H Q => ∃ a dx fs, xs = [.ref a] ∧ H a = some (.ins C dx fs) ∧ sp xs H (fun z H' => ∃ n : Nat, z = .int n ∧ n ≤ 1000000 ∧ Q (.int n) H') E) := by
  intro pins s σ H xs us Q I r h
  obtain ⟨p, dx, fs, rfl, hp, q⟩ := h
  obtain ⟨u, rfl, rx⟩ := vals1 r
  cases (show u = Value.ref p from rx)
  obtain ⟨mA, J, _⟩ := ins_get I.hok hp
  obtain ⟨od, J, _⟩ := J.look
  obtain ⟨m, hF⟩ := I.fr
  refine PySem.W.len_K hF I.ok.mod.kin J hs hfn ?_
  refine wpAny_mono (run_inS (us := [.ref p]) (vs := [.ref p]) F hr.in1 I.env0.in1 hb (fun pins H s e s' I c => hx pins σ H s e s' I c) I (.cons rfl .nil) q) (fun w s' z => ?_) fun _ _ x => x
  obtain ⟨z', H', I', rz, k, ez, hk, qz⟩ := z
  subst ez
  obtain ⟨t, rfl⟩ := rz
  exact ⟨⟨by omega, by omega⟩, .int k, H', I'.tok _, ⟨_, rfl⟩, qz⟩
/-- the spec of a def with a starred last parameter, as it is called -/
def spStar (m : Nat) (sp : Sp) : Sp := fun vs H Q E => ∃ ws rest, vs = ws ++ rest ∧ ws.length = m ∧ rest.length ≤ sizeLine ∧ ∀ p, H p = Option.none → sp (ws ++ [V.ref p]) (upd H p (.tup rest)) Q E
theorem star1 {sp : Sp} {a : V} {rest : List V} {H : Hp} {Q : VK} {E : XK} (hl : rest.length ≤ sizeLine) (h : ∀ p, H p = Option.none → sp [a, .ref p] (upd H p (.tup rest)) Q E) : spStar 1 sp (a :: rest) H Q E := ⟨[a], rest, rfl, rfl, hl, h⟩
def tMakeRS (C : Addr) (sp : Sp) (E : L2.St → XK) (t : TA) : TE := fun σ H Q => t σ H fun vs H1 => ∀ x dx, H1 x = Option.none → H1 dx = Option.none → dx ≠ x →
  sp (V.ref x :: vs) (upd (upd H1 dx (.own x)) x (.ins C dx [])) (fun v H2 => v = .non ∧ Q (.ref x) H2) (E σ)
theorem run_makeRS {pins : List (Addr × Obj)} {σ : L2.St} {H : Hp} {s : Shared} {Q : VK} {us : List Value} {vs : List V} {E : XK} (M : Mk X.K C f) (F : FnR X.prog X.w X.K X.mg X.base CX k f sp) (hr : Room (k + 1) X.A) (hx : PassesAt CX X σ E) (I : Inv X pins σ H s) (r : Vals vs us)
    (h : ∀ x dx, H x = Option.none → H dx = Option.none → dx ≠ x → sp (V.ref x :: vs) (upd (upd H dx (.own x)) x (.ins C dx [])) (fun v H2 => v = .non ∧ Q (.ref x) H2) E) :
    wpAny (model X.prog X.w) X.A (call (.ref C) us) (EP X pins σ Q) X.xe s := by
  have hq := h (s.heap.objs.size + 1) s.heap.objs.size (I.hok.fresh (Nat.le_succ _)) (I.hok.fresh (Nat.le_refl _)) (Nat.ne_of_lt (Nat.lt_succ_self _))
  have I2 := Inv.made (C := C) I
  have r2 : Vals (V.ref (s.heap.objs.size + 1) :: vs) (Value.ref (s.heap.objs.size + 1) :: us) := .cons rfl r
  refine wpAny_call (make_map (f := f) I.kIn M.makes M.init (beq_iff_eq.mp M.fn) (codeAny_mono (F _ X.stack _ _ (Value.ref (s.heap.objs.size + 1) :: us) _ _ E (hr.make C us []) (I2.env0.make C us []) r2 hq) fun r s' hq' => ?_))
  cases r with
  | error e => exact hx pins _ _ e s' I2 hq'
  | ok fl =>
    cases fl with
    | ret u =>
      obtain ⟨v, H', I3, rv, ev, q3⟩ := I2.after hq'
      subst ev
      exact ⟨rv, ⟨V.ref (s.heap.objs.size + 1), H', I3, rfl, q3⟩⟩
    | next => exact False.elim hq'
    | brk => exact False.elim hq'
    | cont => exact False.elim hq'
/-- C(e, ..) -/
theorem pe_makeRS (M : Mk X.K C f) (F : FnR X.prog X.w X.K X.mg X.base CX k f sp) (hr : Room (k + 1) X.A) (hg : Gl X x) (hm : X.mg x = some (.ref C)) (hx : ∀ σ, PassesAt CX X σ (E σ)) (ha : PA X (e :: es) t) (hdb : (x == ("__debug__" : Str)) = false := by decide)
    (he : starEach (e :: es) X.env = (false, eval e X.env) :: starEach es X.env := by rfl) (hpl : (backTo pos (starEach es X.env)).any (·.1) = false := by rfl) : PE X (.Call (.Name x p) (e :: es) [] pos) (tMakeRS C sp E t) := by
  refine ⟨fun pins s σ H Q I h => ?_⟩
  refine wpAny_Call_Name_kw (ld_glob I hg hm ?_ hdb)
  refine PySem.W.callWith_K (h₀ := X.base) I.ok.mod.kin M.kp (thn (ha.run pos pins s σ H _ I h) fun us s1 ⟨vs, H1, I1, r, q⟩ => ⟨I1.kIn, ?_⟩) he hpl
  exact run_makeRS M F hr (hx σ) I1 r q
/-- C() -/
theorem pe_makeRS0 (M : Mk X.K C f) (F : FnR X.prog X.w X.K X.mg X.base CX k f sp) (hr : Room (k + 1) X.A) (hg : Gl X x) (hm : X.mg x = some (.ref C)) (hx : ∀ σ, PassesAt CX X σ (E σ)) (hdb : (x == ("__debug__" : Str)) = false := by decide) :
    PE X (.Call (.Name x p) [] [] pos) (tMakeRS C sp E (fun _ H Q => Q [] H)) := by
  refine ⟨fun pins s σ H Q I h => ?_⟩
  refine wpAny_Call_Name_kw (ld_glob I hg hm ?_ hdb)
  refine PySem.W.callWith_K0 I.kIn M.kp ?_
  exact run_makeRS (us := []) M F hr (hx σ) I .nil h
/-- C(*y) -/
def tMakeStar (K : PySem.W.Frag) (C : Addr) (sp : Sp) (E : L2.St → XK) (te : TE) : TE := fun σ H Q => te σ H fun y H1 => ∃ a xs, y = V.ref a ∧ (SqT K H1 a xs ∨ SqL K H1 a xs) ∧ ∀ x dx, H1 x = Option.none → H1 dx = Option.none → dx ≠ x →
  sp (V.ref x :: xs) (upd (upd H1 dx (.own x)) x (.ins C dx [])) (fun v H2 => v = .non ∧ Q (.ref x) H2) (E σ)
theorem pe_makeStar (M : Mk X.K C f) (F : FnR X.prog X.w X.K X.mg X.base CX k f sp) (hr : Room (k + 1) X.A) (hg : Gl X x) (hm : X.mg x = some (.ref C)) (hx : ∀ σ, PassesAt CX X σ (E σ)) (he : PE X e te) (hdb : (x == ("__debug__" : Str)) = false := by decide)
    (hst : starEach [.Starred e sp_] X.env = [(true, eval e X.env)] := by rfl) : PE X (.Call (.Name x p) [.Starred e sp_] [] pos) (tMakeStar X.K C sp E te) := by
  refine ⟨fun pins s σ H Q I h => ?_⟩
  refine wpAny_Call_Name_kw (ld_glob I hg hm ?_ hdb)
  refine PySem.W.callWith_S (h₀ := X.base) I.ok.mod.kin M.kp (thn (he.run pins s σ H _ I h) fun v s1 ⟨y, H1, I1, ry, a, xs, ey, hxs, q⟩ => ?_) hst
  subst ey
  obtain rfl : v = Value.ref a := ry
  exact star_any I1 hxs fun us s2 I2 rv => ⟨I2.kIn, run_makeRS M F hr (hx σ) I2 rv q⟩
end
section
variable {P : Program} {w : World} {K : PySem.W.Frag} {mg : Str → Option Value} {base : Heap}
/-- a def whose last parameter is starred -/
theorem okStar {x qual : Str} {st : Stmt} {f : Addr} {fd : FuncData} {N ps : List Str} {pv : Str} {k : Nat} {sp : Sp} (F : L2.Fun K x qual st f fd) (S : FnScope N (ps ++ [pv]) (defScope st))
    (hb : ∀ (kV doc pm : Value) (an : Option Addr) (cdv ct : Value) (us rest : List Value), us.length = ps.length → bindArgs (PySem.W.fnOf x qual (defArgs st) (defBody st) (defScope st) .none kV doc pm an cdv ct) ⟨us ++ rest, []⟩ = (newTuple rest >>= fun t => pure (ps.zip us ++ [(pv, t)])))
    (hbody : ∀ (cdv : Value) (A : Around) (outer : List Env) (s : Shared) (H : Hp) (vs : List V) (Q : VK) (E : XK), Room k (A.deeper (envOfC qual (defScope st) s.heap.objs.size f cdv)) → sp vs H Q E →
      ∃ t, PSs (cxOf (L2.CX P w) P w K mg base N qual (defScope st) f cdv A outer s H E) (defBody st) t ∧ t { nx := fun _ H' => Q .non H', rt := Q } (start N vs) H) : FnR P w K mg base (L2.CX P w) (k + 1) f (spStar ps.length sp) := by
  obtain ⟨oc, od, kV, doc, pm, an, cdv, ct, osl, rfl, lk, hcd⟩ := F.ex
  exact fn_star lk hcd S cxUp (hb kV doc pm an cdv ct) fun A outer s H vs Q E hr hsp => hbody cdv A outer s H vs Q E hr hsp
end
end Wx

namespace Wx
open PySem PySem.Spec PyProof.Rows L2 NdefX RZ StX
section
variable {X : Cx}
theorem lc_coreU {E : L2.St → XK} {pins : List (Addr × Obj)} {s : Shared} {σ : L2.St} {H : Hp} {Q : VK} {elt tg iter : Expr} {ifs : List Expr} {scope : Scope} {own : List (Str × Nat)} {pos pos' : Pos} {wi : TI} {g : TG} {tt : TT} {te : XK → TE} {Qf : Value → Shared → Prop} {us_ : Value → Sem Unit}
    (hc : X.calm = true) (hN : X.N.Nodup) (I : Inv X pins σ H s) (hi : PI X tg iter wi) (ok : BlkOk X.N X.env.scope scope own)
    (hg : ∀ (s : Shared) (H : Hp) (C : Addr) (cl : List (Str × Addr)) (fp : List Addr), PG (X.blk s H scope (compEnvC scope cl C X.env) fp) tg g) (ht : ∀ (s : Shared) (H : Hp) (C : Addr) (cl : List (Str × Addr)) (fp : List Addr), PTs (X.blk s H scope (compEnvC scope cl C X.env) fp) ifs tt)
    (air : Air X σ (E σ)) (he : ∀ (s : Shared) (H : Hp) (C : Addr) (cl : List (Str × Addr)) (fp : List Addr) (xe : Value → Shared → Prop) (E1 : XK), (∀ σ1, Air ((X.blk s H scope (compEnvC scope cl C X.env) fp).wish xe) σ1 E1) → PE ((X.blk s H scope (compEnvC scope cl C X.env) fp).wish xe) elt (te E1)) (hs : ∀ x, foldedSetIterable iter X.env x = pure x)
    (h : tLc wi g tt (te (E σ)) (own.map (·.2)) σ H Q)
    (hRR : ∀ D C s' m H', Inv X pins σ H' s' → Q (.ref D) H' → s'.heap.Ns C m → FpOk X pins H' C → compPost (model X.prog X.w) X.A X.xe (some us_) Qf (.ref D) C (.ok .next) s') :
    wpAny (model X.prog X.w) X.A (comprehension (.ListComp elt [⟨tg, iter, ifs, 0⟩] scope pos) scope X.env pos' (newList []) false (eval iter X.env) (some us_)) Qf X.xe s := by
  have hfree : ∀ y ∈ scope.names, y.2 = .free → ∃ c, X.env.cells.lookup y.1 = some c := fun y hy e => by
    rcases ok.free y hy e with k | k
    · exact I.ok.has _ (.inl k)
    · exact I.ok.has _ (.inr k)
  refine comprehension_freeX (use := some us_) rfl hs (closure_ok hfree) ok.kind (fun y hy e => by rw [ok.uniq y hy, e])
    (thn (hi.run pins s σ H _ I h) fun xv s1 hx => thn hx fun itv s2 h2 => ?_)
  obtain ⟨it, fp, tn, J, H2, e, I2, T, st2, f2, q⟩ := h2
  subst e
  refine wpAny_newObj_type (newEnv_comp ?_) (by show 0 ≤ sizeLine; decide)
  generalize hD : s2.heap.objs.size = D
  have hDn : H2 D = none := I2.hok.fresh (Nat.le_of_eq hD)
  obtain ⟨W, ⟨m0, w0⟩, turn⟩ := q D hDn
  -- the new list
  generalize hs3 : ({ s2 with heap := s2.heap.push { cls := .type "list", data := .seq ([] : List Value).toArray } } : Shared) = s3
  have I3 : Inv X pins σ (upd H2 D (.lst [])) s3 := by
    rw [← hs3]
    refine I2.laid (t' := s2.toks) (fun b o e => Heap.get?_push_of_some _ e) (Nat.le_of_eq hD) ⟨Nat.zero_le _, [], 0, .nil, ?_⟩
    rw [← hD]
    exact Heap.get?_push_size _ rfl
  have h3 : s3.heap = s2.heap.push { cls := .type "list", data := .seq ([] : List Value).toArray } := by rw [← hs3]
  have sz : ∀ b ∈ fp, b < s2.heap.objs.size := fun b hb => by
    obtain ⟨o, e, _⟩ := T.obj _ _ st2 b hb
    exact Heap.lt_size e
  have f3 : ∀ b ∈ fp, FpOk X pins (upd H2 D (.lst [])) b ∧ b < s3.heap.objs.size := fun b hb => by
    have hlt := sz b hb
    refine ⟨⟨?_, (f2 b hb).2⟩, by rw [h3, Heap.size_push]; exact Nat.lt_succ_of_lt hlt⟩
    rw [upd_ne (by rw [← hD]; exact Nat.ne_of_lt hlt)]
    exact (f2 b hb).1
  have st3 : tn 0 s3.heap := T.keep _ _ _ st2 fun b _ o e => by rw [h3]; exact Heap.get?_push_of_some _ e
  have I4 := block_start I3 ok hN f3
  have pg := hg s3 (upd H2 D (.lst [])) s3.heap.objs.size (cellsFrom (s3.heap.objs.size + 1) scope.names (cloFrom X.env.cells scope.names [])) fp
  have pt := ht s3 (upd H2 D (.lst [])) s3.heap.objs.size (cellsFrom (s3.heap.objs.size + 1) scope.names (cloFrom X.env.cells scope.names [])) fp
  have pe := he s3 (upd H2 D (.lst [])) s3.heap.objs.size (cellsFrom (s3.heap.objs.size + 1) scope.names (cloFrom X.env.cells scope.names [])) fp
  have cF : (compEnvC scope (cellsFrom (s3.heap.objs.size + 1) scope.names (cloFrom X.env.cells scope.names [])) s3.heap.objs.size X.env).frame = X.env.frame := rfl
  show codeAny _ _ (.compStart (.ListComp elt [⟨tg, iter, ifs, 0⟩] scope pos) 0 (.ref it) (.ref D) (compEnvC scope (cellsFrom (s3.heap.objs.size + 1) scope.names (cloFrom X.env.cells scope.names [])) s3.heap.objs.size X.env)) (postX (model X.prog X.w) X.A X.xe (some us_) Qf (.ref D) (compEnvC scope (cellsFrom (s3.heap.objs.size + 1) scope.names (cloFrom X.env.cells scope.names [])) s3.heap.objs.size X.env)) { s3 with heap := pushCells (s3.heap.push { cls := .type "dict", data := .dict #[] }) scope.names }
  have nfp : ∀ b ∈ fp, (upd H2 D (.lst [])) b = none := fun b hb => (f3 b hb).1.1
  generalize hce : compEnvC scope (cellsFrom (s3.heap.objs.size + 1) scope.names (cloFrom X.env.cells scope.names [])) s3.heap.objs.size X.env = ce at I4 pg pt pe cF ⊢
  have cL : ce.locals = s3.heap.objs.size := by subst hce; rfl
  generalize hH3 : upd H2 D (.lst []) = H3 at I3 I4 pg pt pe w0 nfp f3
  generalize hs4 : ({ s3 with heap := pushCells (s3.heap.push { cls := .type "dict", data := .dict #[] }) scope.names } : Shared) = s4 at I4 ⊢
  have st4 : tn 0 s4.heap := T.keep _ _ _ st3 fun b _ o e => by rw [← hs4]; exact pushCells_keeps _ _ _ _ (Heap.get?_push_of_some _ e)
  have stat : ∀ {σ' : L2.St} {H' : Hp} {s' : Shared}, Inv (X.blk s3 H3 scope ce fp) [] σ' H' s' → (∀ b ∈ fp, H' b = none) → ∀ b ∈ fp, FpOk (X.blk s3 H3 scope ce fp) [] H' b := fun {σ' H' s'} I' hn b hb =>
    ⟨hn b hb, (I'.ok.exf b hb).1, I'.ok.exfs b hb, .inl hb, fun x c e => (I'.ok.exf b hb).2 x c e, fun p hp => absurd (show p ∈ ([] : List (Addr × Obj)) ++ [] from hp) (by simp)⟩
  have loop : codeAny (model X.prog X.w) X.A (.compLoop (.ListComp elt [⟨tg, iter, ifs, 0⟩] scope pos) 0 (.ref it) (.ref D) ce) (postX (model X.prog X.w) X.A X.xe (some us_) Qf (.ref D) ce) s4 := by
    refine compLoop_any (fun n s' => ∃ i H', Inv (X.blk s3 H3 scope ce fp) [] (wipe σ (own.map (·.2))) H' s' ∧ tn i s'.heap ∧ (∀ b ∈ fp, H' b = none) ∧ W i n H') ?_ m0 ⟨0, H3, I4, st4, nfp, w0⟩
    rintro n s5 ⟨i, H5, I5, st5, n5, w5⟩
    rcases turn i n H5 w5 with ⟨stop, qq⟩ | ⟨go, Nx, hNx, step⟩
    · have td := T.done (X.blk s3 H3 scope ce fp) rfl rfl rfl hc i [] s5 _ H5 (fun _ _ => False) I5 (stat I5 n5) st5 stop
      refine thnF td fun r s6 ⟨hr, I6⟩ => ?_
      subst hr
      -- back in the def's context
      have I7 : Inv X pins σ H5 s6 := I3.call' (ch := fp) I6.os I6.base I6.hok I6.bare fun b hb => ⟨(f3 b hb).1.2.2.2.1, (f3 b hb).1.2.1, (f3 b hb).1.2.2.2.2.1, (f3 b hb).1.2.2.2.2.2⟩
      have nC : H5 s3.heap.objs.size = none := by
        have z : H5 ce.locals = none := I6.free
        rw [cL] at z
        exact z
      obtain ⟨m, hn, _⟩ := I6.loc
      have hn : s6.heap.Ns ce.locals m := hn
      rw [cL] at hn
      have hR := hRR D s3.heap.objs.size s6 m H5 I7 qq hn (I3.fpOk (Nat.le_refl _) nC)
      rw [← cL] at hR
      exact hR
    · have ti := T.item (X.blk s3 H3 scope ce fp) rfl rfl rfl hc i [] s5 _ H5 (fun _ _ => False) I5 (stat I5 n5) st5 go
      refine thnF ti fun r s6 ⟨u, hr, h6⟩ => ?_
      subst hr
      refine thnF h6 fun _ s7 ⟨x, H7, I7, r7, y7, st7, n7⟩ => ?_
      have I7' := I7.pinned (stat I7 n7) (T.obj _ _ st7)
      refine thnF (pg.run _ s7 _ H7 x u _ I7' r7 (step x H7 y7)) fun _ s8 ⟨σ8, H8, I8, hw8, q8⟩ => ?_
      refine thnF (pt.run _ s8 σ8 H8 _ I8 q8) fun b s9 ⟨H9, I9, q9⟩ => ?_
      -- the turn's end
      have fin : ∀ {s' : Shared} {H' : Hp}, Inv (X.blk s3 H3 scope ce fp) ([] ++ pinsAt fp s7.heap) σ8 H' s' → Nx H' → ∃ m, m < n ∧ ∃ i H', Inv (X.blk s3 H3 scope ce fp) [] (wipe σ (own.map (·.2))) H' s' ∧ tn i s'.heap ∧ (∀ b ∈ fp, H' b = none) ∧ W i m H' := fun {s' H'} I' nx => by
        obtain ⟨m', hm, w'⟩ := hNx H' nx
        have pin' : ∀ b ∈ fp, ∀ o, s7.heap.get? b = some o → s'.heap.get? b = some o ∧ H' b = none := fun b hb o e =>
          let z := I'.pin (b, o) (List.mem_append_right _ (List.mem_append_right _ (mem_pinsAt hb e)))
          ⟨z.1, z.2.1⟩
        have hl : (wipe σ (own.map (·.2))).length = σ8.length := by rw [← hw8, wipe_length]
        refine ⟨m', hm, i + 1, H', (I'.unpinned (pins := [])).weak hl (fun j v e => ?_), T.keep _ _ _ st7 fun b hb o e => (pin' b hb o e).1, fun b hb => ?_, w'⟩
        · rw [← hw8] at e
          exact (wipe_some e).1
        · obtain ⟨o, e, _⟩ := T.obj _ _ st7 b hb
          exact (pin' b hb o e).2
      cases b with
      | false =>
        simp only [Bool.false_eq_true, if_false] at q9 ⊢
        exact fin I9 q9
      | true =>
        simp only [if_true] at q9 ⊢
        obtain ⟨ev, outer, L, hstk, hfr, hXf, kx⟩ := air.ex
        refine wpAny_mono ((pe (fun u s' => ∃ H' sI, Inv X pins σ H' sI ∧ (∃ m, sI.heap.Ns ce.locals m) ∧ H' ce.locals = none ∧ Aloft X.stack L sI H' (E σ) u s') (E σ) (fun σ1 => ⟨ev, outer, L, hstk, hfr, cF.trans hXf, fun pins1 H1 sI u s' I1 al => ?_⟩)).run _ s9 σ8 H9 _ (I9.wish _) q9) (fun z s10 ⟨yv, H10, I10, r10, acc, hD10, hz10, nx⟩ => ?_) (fun u s10 hx => ?_)
        · have I1' := I1.unwish
          obtain ⟨m, hn, _⟩ := I1'.loc
          exact ⟨H1, sI, I3.call' (ch := fp) I1'.os I1'.base I1'.hok I1'.bare fun b hb => ⟨(f3 b hb).1.2.2.2.1, (f3 b hb).1.2.1, (f3 b hb).1.2.2.2.2.1, (f3 b hb).1.2.2.2.2.2⟩, ⟨m, hn⟩, I1'.free, al⟩
        · exact app_ok (X := X.blk s3 H3 scope ce fp) I10.unwish hD10 hz10 r10 fun s11 I11 => fin I11 nx
        · obtain ⟨H', sI, JX, ⟨m, hn⟩, nC, a, B, cls, d, rfl, nb, up, sky, na, os, ag, w⟩ := hx
          have fpC : FpOk X pins H' ce.locals := I3.fpOk (by rw [cL]; exact Nat.le_refl _) nC
          obtain ⟨f0, f1, f2, f3', f4, f5⟩ := fpC
          have frA : X.A.frames = some (ev :: outer) := I3.ok.frames.trans (congrArg some hstk)
          have cNot : ce.locals ∉ frs X.stack := fun hm => by
            rcases List.mem_cons.mp (I3.stkSub _ hm) with z | z
            · exact f1 z
            · exact f2 z
          show wpAny _ X.A (noteFrame (Value.ref a) ce) _ _ _
          rw [note_same (e2 := ev) (by rw [cF, hXf, hfr])]
          -- noted by the frame
          have held : ∀ {Q : Unit → Shared → Prop} {E' : Value → Shared → Prop}, (∀ h1, HandSPX.HeldZ B (ev :: outer) a (Zc cls d) L h1 → s10.heap.UpToSlots h1 → Q () { s10 with heap := h1 }) → wpAny (model X.prog X.w) X.A (noteFrame (.ref a) ev) Q E' s10 := fun {Q E'} k => by
            rw [hstk] at sky
            rcases sky with ⟨hB, hn, hl, oe, vs, he, hz, hd, h1⟩ | fl | hh
            · exact HandSPX.look_newZ Zc.steady frA hl hfr he hB hn hd h1 hz k
            · exact HandSPX.looks_onZ Zc.steady frA hfr fl k
            · exact HandSPX.againZ hfr hh.2.2.2 (k s10.heap hh (Heap.UpToSlots.refl _))
          refine held fun h1 hh1 up1 => ?_
          have upH : sI.heap.UpToSlots h1 := up.trans up1
          refine ⟨m, upH.ns hn, fun h2 sb2 => ?_⟩
          -- the ground without the block's names
          obtain ⟨B', b1, b2⟩ := restrict B fun b => decide (b ≠ ce.locals)
          obtain ⟨G, g1, g2⟩ := restrict sI.heap fun b => decide (b ≠ ce.locals)
          have bB : ∀ b o, B'.get? b = some o → b ≠ ce.locals ∧ B.get? b = some o := fun b o e => by
            by_cases q : b = ce.locals
            · rw [b2 b (by simp [q])] at e
              cases e
            · exact ⟨q, by rw [b1 b (by simp [q])] at e; exact e⟩
          have gG : ∀ b o, G.get? b = some o → b ≠ ce.locals ∧ sI.heap.get? b = some o := fun b o e => by
            by_cases q : b = ce.locals
            · rw [g2 b (by simp [q])] at e
              cases e
            · exact ⟨q, by rw [g1 b (by simp [q])] at e; exact e⟩
          obtain ⟨k1, k2, k3, oe, vs, T1, oT1, ts, he1, hz1, hd1, hv1, hbT, hTa, hT1, hdT, hfl⟩ := hh1
          obtain ⟨oC, es, ep, hoC, hdC, _⟩ := hn
          have BC : B.get? ce.locals = some oC := nb _ _ hoC cNot
          have aC : a ≠ ce.locals := fun z => by rw [z] at k2; rw [k2] at BC; cases BC
          have TC : T1 ≠ ce.locals := fun z => by rw [z] at hbT; rw [hbT] at BC; cases BC
          have sb : ∀ b, b ≠ ce.locals → h2.get? b = h1.get? b := sb2.2
          have B'a : B'.get? a = none := by rw [b1 a (by simp [aC])]; exact k2
          have B'T : B'.get? T1 = none := by rw [b1 T1 (by simp [TC])]; exact hbT
          have fF : h2.FunFrames B' (ev :: outer) := funFrames_step k3 (fun b q => by
              cases z : B'.get? b with
              | none => rfl
              | some o =>
                rw [(bB b o z).2] at q
                cases q) fun b o q e => (sb b (fun z => by rw [z, BC] at q; cases q)).trans e
          have kB : B'.StaysIn h2 := fun b o e => (sb b (bB b o e).1).trans (k1 b o (bB b o e).2)
          have he2 : h2.get? a = some oe := (sb a aC).trans he1
          have hh2 : HandSPX.HeldZ B' (ev :: outer) a (Zc cls d) L h2 := ⟨kB, B'a, fF, oe, vs, T1, oT1, ts, he2, hz1, hd1, hv1, B'T, hTa, (sb T1 TC).trans hT1, hdT, hfl⟩
          unfold PySem.passOn
          refine wpAny_bind (wpAny_field he2 hd1 hv1 ?_)
          rw [if_neg (show ¬ ((Value.ref T1 == Value.none) = true) by simp)]
          have fin2 : wpAny (model X.prog X.w) X.A (setFlight (.ref a) ce.frame) (fun _ s4 => wpAny (model X.prog X.w) X.A (throw (.ref a) : Sem Value) (fun _ _ => False) X.xe s4) X.xe { s10 with heap := h2 } := by
            rw [cF, hXf]
            refine HandSPX.setFlight_onZ hh2 fun h4 hh4 up4 => wpAny_throw ?_
            refine kx pins H' { sI with heap := G } _ _ (JX.turned (t' := sI.toks) (fun b o hb e => (g1 b (by simp [hb])).trans e) f0 f1 f3' f4 f5) ⟨a, B', cls, d, rfl, fun b o e hb => ?_, ?_, ?_, na, os, ag, w⟩
            · obtain ⟨q1, q2⟩ := gG b o e
              exact (b1 b (by simp [q1])).trans (nb b o q2 hb)
            · refine Heap.UpToSlots.trans (fun b o e nf => ?_) up4
              obtain ⟨q1, q2⟩ := gG b o e
              obtain ⟨sl, q3⟩ := upH b o q2 nf
              exact ⟨sl, (sb b q1).trans q3⟩
            · rw [hstk]
              exact .inr (.inr hh4)
          first
            | exact wpAny_bind (wpAny_pure (wpAny_bind fin2))
            | exact wpAny_bind fin2
  exact codeAny_compStart_list loop (T.self X.A 0 _ _ _ st4 loop)
/-- name = [..], what the element lets out is let out -/
theorem ps_setLcX {E : L2.St → XK} {i : Nat} {y : Str} {py : Pos} {elt tg iter : Expr} {ifs : List Expr} {scope : Scope} {own : List (Str × Nat)} {pos spos : Pos} {wi : TI} {g : TG} {tt : TT} {te : XK → TE} (air : ∀ σ, Air X σ (E σ)) (hc : X.calm = true) (hN : X.N.Nodup) (hy : X.N[i]? = some y) (hyl : X.env.scope.names.lookup y = some .local)
    (hsw : swapsWith (.ListComp elt [⟨tg, iter, ifs, 0⟩] scope pos) (some (.Name y py)) spos.line X.env = pure true) (hi : PI X tg iter wi) (ok : BlkOk X.N X.env.scope scope own)
    (hg : ∀ (s : Shared) (H : Hp) (C : Addr) (cl : List (Str × Addr)) (fp : List Addr), PG (X.blk s H scope (compEnvC scope cl C X.env) fp) tg g) (ht : ∀ (s : Shared) (H : Hp) (C : Addr) (cl : List (Str × Addr)) (fp : List Addr), PTs (X.blk s H scope (compEnvC scope cl C X.env) fp) ifs tt)
    (he : ∀ (s : Shared) (H : Hp) (C : Addr) (cl : List (Str × Addr)) (fp : List Addr) (xe : Value → Shared → Prop) (E1 : XK), (∀ σ1, Air ((X.blk s H scope (compEnvC scope cl C X.env) fp).wish xe) σ1 E1) → PE ((X.blk s H scope (compEnvC scope cl C X.env) fp).wish xe) elt (te E1)) (hs : ∀ x, foldedSetIterable iter X.env x = pure x := by intro _; rfl) :
    PS X (.Assign [.Name y py] (.ListComp elt [⟨tg, iter, ifs, 0⟩] scope pos) spos) (tAsg (fun σ H Q => tLc wi g tt (te (E σ)) (own.map (·.2)) σ H Q) (gName i)) := by
  refine ⟨fun pins s σ H D I h => ?_⟩
  rw [exec_Assign_Name_used _ _ _ _ hsw]
  refine wpAny_bind (wpAny_standAt (wpAny_bind ?_))
  show wpAny _ X.A (do let _ ← comprehension (.ListComp elt [⟨tg, iter, ifs, 0⟩] scope pos) scope X.env (firstIterPos [⟨tg, iter, ifs, 0⟩] pos) (newList []) false (eval iter X.env) (some (assign (.Name y py) X.env))) _ _ s
  have h : tLc wi g tt (te (E σ)) (own.map (·.2)) σ H (fun x H1 => gName i x σ H1 D.nx) := h
  refine wpAny_bind (thn (lc_coreU (Qf := fun _ s' => SP X pins D .next s') hc hN I hi ok hg ht (air σ) he hs h fun L C s' m H' I' q hn f => ?_) fun _ s' hq => wpAny_pure (wpAny_pure hq))
  show wpAny _ _ (assign (.Name y py) X.env (.ref L)) _ _ _
  refine wpAny_assign_Name (store_ok2 (v := V.ref L) I' hN hy (.inl hyl) rfl (fun s2 I2 ⟨a, sb, ha⟩ => ?_) (.inr hyl))
  obtain ⟨f0, f1, f2, f3, f4, f5⟩ := f
  have haC : C ≠ a := by
    rcases ha with z | z
    · rw [z]; exact f1
    · exact fun e => f4 y a z e.symm
  refine ⟨m, hn.sameBut sb haC, fun h3 sb3 => ?_⟩
  exact ⟨_, H', I2.turned (t' := s2.toks) (fun b o hb e => (sb3.2 b hb).trans e) f0 f1 f3 f4 f5, q⟩
end
end Wx

namespace Wx
open PySem PySem.Spec PyProof.Rows L2 NdefX RZ StX
/-! a whole number + an instance, by the instance's __radd__ -/
section
variable {prog : Program} {w : World} {A : Around} {E : Value → Shared → Prop} {s : Shared} {K : PySem.W.Frag} {x C f g : Addr} {ox : Obj} {od : Option Obj} {h₀ : Heap} {L : Addr} {m : Str → Option Value}
open AutoSeq1 (wpAny_loadPart')
theorem int_add_inst {i : Int} {t : Tok} {Q : Value → Shared → Prop} {cls : Value} {dd : Option Addr} {sl : Array (Option Value)} (hx : s.heap.get? x = some { cls := cls, dict := dd, data := .plain, slots := sl }) (q : Q .notImplemented s) :
    wpAny (model prog w) A (call (.builtin "int.__add__") [.int i t, .ref x]) Q E s := by
  refine wpAny_call (codeAny_call_builtin PySem.F.slot_int_add.plain PySem.F.entry_int_add (PySem.F.slot_int_add.check _ _ _ _ _ _ _ _ (by exact typeIs_int _ _ _) (PySem.F.args_int_add_2 _ _) ?_))
  obtain ⟨hp, g, d, tk, os⟩ := s
  wp_walk using wpAny_loadPart' hx
  exact q
theorem binop_rev {i : Int} {t : Tok} {Q : Value → Shared → Prop} {dd : Option Addr} {sl : Array (Option Value)} {cls : Value} (hx : s.heap.get? x = some { cls := cls, dict := dd, data := .plain, slots := sl }) (FR : Fr h₀ L s.heap m) (X₀ : K.In h₀) (I : PySem.W.InstAt s.heap x ox C od) (hc : PySem.W.selfFirst K C = true)
    (hs : PySem.W.findIn K (.ref C) (PySem.dunder "add") = some (some (.ref g))) (hr : PySem.W.findIn K (.ref C) (PySem.dunderR "add") = some (some (.ref f))) (hf : PySem.W.isFn K (.ref f) = true) (hsub : PySem.W.subIn K (.ref C) (.type "int") = some false)
    (h : wpAny (model prog w) A (call (.ref f) [.ref x, .int i t]) (PySem.W.CmpBack Q) E s) : wpAny (model prog w) A (binaryOp .Add (.int i t) (.ref x)) Q E s := by
  have X := X₀.keeps FR.keep
  obtain ⟨cd, rest, hcd, hm⟩ := PySem.W.ksp_first hc
  have one := PySem.W.ksp_try X I hr hf h
  have dec : ∀ {Q' : Option Value → Shared → Prop}, Q' none s → wpAny (model prog w) A (tryMethod (.int i t) (PySem.dunder "add") (.ref x)) Q' E s := fun q =>
    wpAny_tryMethod_declines (typeIs_int _ _ _) PySem.F.slot_int_add (int_add_inst hx ⟨rfl, q⟩)
  obtain ⟨hh, g, d, tt, os⟩ := s
  have L1 : PySem.W.Looks (model prog w) hh (typeOf (.int i t)) (.type "int") := PySem.W.Looks.of_pure rfl
  have L2 : PySem.W.Looks (model prog w) hh (typeOf (.ref x)) (.ref C) := I.type
  have L3 : PySem.W.Looks (model prog w) hh (fillsNumberSlot (.type "int") "add") true := PySem.W.Looks.of_pure (fillsNumberSlot_of PySem.F.slot_int_add.lookup (by kernel_rfl) PySem.F.slot_int_radd.lookup)
  have L4 : PySem.W.Looks (model prog w) hh (fillsNumberSlot (.ref C) "add") true := PySem.W.fills_K X hcd hm hs
  have L5 : PySem.W.Looks (model prog w) hh (isSubtype (.ref C) (.type "int")) false := PySem.W.looks_subIn X hsub
  have L7 : PySem.W.Looks (model prog w) hh (numberSlotInPython (.type "int") "add") false := PySem.W.Looks.of_pure rfl
  have hne : (Value.type "int" == Value.ref C) = false := Bool.eq_false_iff.mpr fun q => by cases beq_iff_eq.mp q
  have hi : Operator.Add.info = ("+", "add") := rfl
  simp only [binaryOp, hi]
  refine wpAny_holding (wpAny_bind ?_)
  unfold binaryOp1
  refine wpAny_bind (L1.at (wpAny_bind (L2.at (wpAny_bind (L3.at ?_)))))
  simp only [hne, Bool.false_eq_true, if_false]
  refine wpAny_bind (L4.at ?_)
  simp only [Bool.and_self, if_true]
  refine wpAny_bind (L5.at ?_)
  simp only [Bool.false_eq_true, if_false, Bool.not_false, Bool.and_self, if_true]
  refine wpAny_bind (L7.at ?_)
  simp only [Bool.false_eq_true, if_false]
  refine wpAny_bind (dec ?_)
  dsimp only
  refine wpAny_bind (wpAny_mono one (fun r s' hr' => ?_) fun _ _ e => e)
  obtain ⟨v, rfl, hq⟩ := hr'
  exact wpAny_bind (wpAny_rule (wpAny_pure (wpAny_pure hq)))
end
/-- what the class at C says of n + x -/
structure RevC (K : PySem.W.Frag) (C f : Addr) : Prop where
  first : PySem.W.selfFirst K C = true
  own : ∃ g : Addr, PySem.W.findIn K (.ref C) "__add__" = some (some (.ref g))
  back : PySem.W.findIn K (.ref C) "__radd__" = some (some (.ref f))
  fn : PySem.W.isFn K (.ref f) = true
  isub : PySem.W.subIn K (.ref C) (.type "int") = some false
def tRevN (C : Addr) (sp : Sp) (E : L2.St → XK) (ta tb : TE) : TE := fun σ H Q => ta σ H fun x H1 => tb σ H1 fun y H2 => ∃ i a dx fs, x = .int i ∧ y = .ref a ∧ H2 a = some (.ins C dx fs) ∧ sp [y, x] H2 Q (E σ)
section
variable {X : Cx} {CX : CXT} {C f : Addr} {n : Nat} {fd : FuncData} {ps : List Str} {sp : Sp} {E : L2.St → XK} {a b : Expr} {ta tb : TE} {pos : Pos}
theorem pe_revN (F : FnOk X.prog X.w X.K X.mg X.base CX n f fd ps sp) (hr : Room n X.A) (O : RevC X.K C f) (hb : Binds X.K fd ps []) (hx : ∀ σ, PassesAt CX X σ (E σ)) (ha : PE X a ta) (hb' : PE X b tb) : PE X (.BinOp a .Add b pos) (tRevN C sp E ta tb) := by
  refine ⟨fun pins s σ H Q I h => ?_⟩
  refine wpAny_BinOp (binT ha hb' I h fun v u s2 x y H2 I2 rx ry q => ?_)
  obtain ⟨i, p, dx, fs, rfl, rfl, hp, q⟩ := q
  obtain ⟨t, rfl⟩ := id rx
  cases (show u = Value.ref p from ry)
  obtain ⟨mA, J, _⟩ := ins_get I2.hok hp
  obtain ⟨od, J, _⟩ := J.look
  obtain ⟨m, hF⟩ := I2.fr
  obtain ⟨g, hg⟩ := O.own
  refine binop_rev J.at_ hF I2.ok.mod.kin J O.first hg O.back O.fn O.isub ?_
  exact wpAny_mono (run_fnS (us := [.ref p, .int i t]) (vs := [.ref p, .int i]) F hr hb (hx σ) I2 (.cons rfl (.cons ⟨t, rfl⟩ .nil)) q) (fun w s' z => by
    obtain ⟨z', H', I', rz, qz⟩ := z
    exact back_rel rz ⟨z', H', I', rz, qz⟩) fun _ _ x => x
end
end Wx

/-! enumerate of a tuple -/
namespace PySem
open AutoSeq1 (wpAny_loadPart')
theorem meets_enumerate_newTup (l : Addr) (items : Array Value) (n : Nat) (dct : Option Addr) (sl : Array (Option Value)) :
    Meets (Builtin.«enumerate.__new__» ⟨[.type "enumerate", .ref l], []⟩) (fun _ R s => s.heap.get? l = some { cls := .type "tuple", dict := dct, data := .seq items n, slots := sl } ∧
      R (.ok (.ret (.ref (s.heap.push { cls := .type "tuple_iterator", data := .fields #[.ref l, .int 0 0] }).objs.size)))
        { s with heap := (s.heap.push { cls := .type "tuple_iterator", data := .fields #[.ref l, .int 0 0] }).push { cls := .type "enumerate", data := .fields #[.none, .bool false, .ref s.heap.objs.size, rawInt 0, .none, .none] } }) :=
  .of_wp fun prog w A R s h => by
    obtain ⟨hp, g, d, tk, os⟩ := s; obtain ⟨hl, h⟩ := h
    have hsub := sub_enumerate
    have hL : Heap.IsTuple (Shared.heap ⟨hp, g, d, tk, os⟩) l items := ⟨_, hl, rfl, n, rfl⟩
    wp_walk using wpAny_loadPart' hl
    refine wpAny_stack_any fun st => wpAny_pure ?_
    split
    · rename_i c _ _ _ _ _
      cases (c == Value.type "enumerate")
      · wp_walk using wpAny_loadPart' hl, wpAny_pyIter_tuple hL
        exact ⟨_, rfl, h⟩
      · wp_walk using wpAny_loadPart' hl, wpAny_pyIter_tuple hL
        exact ⟨_, rfl, h⟩
    · wp_walk using wpAny_loadPart' hl, wpAny_pyIter_tuple hL
      exact ⟨_, rfl, h⟩
section
variable {prog : Program} {w : World} {A : Around} {E : Value → Shared → Prop} {s : Shared}
theorem call_enumerate_tuple {l : Addr} {items : Array Value} {Q : Value → Shared → Prop} (hL : s.heap.IsTuple l items)
    (h : ∀ h', IsEnum h' (s.heap.objs.size + 1) s.heap.objs.size 0 .none → h'.IsTupleIter s.heap.objs.size l 0 → h'.objs.size = s.heap.objs.size + 2 →
      (∀ b o, s.heap.get? b = some o → h'.get? b = some o) → Q (.ref (s.heap.objs.size + 1)) { s with heap := h' }) :
    wpAny (model prog w) A (call (.type "enumerate") [.ref l]) Q E s := by
  obtain ⟨⟨c, dct, dt, sl⟩, hl, hc, n, hd⟩ := hL
  replace hc : c = .type "tuple" := hc
  replace hd : dt = .seq items n := hd
  subst hc hd
  refine callType_new F.called_enumerate (by decide) (F.typeCall_enumerate_1 _) (F.newCall_enumerate_1 _) (fun obj => F.args_object_init_2 obj _) F.entry_enumerate_new
    (meets_enumerate_newTup l items n dct sl) ⟨hl, ?_⟩
  have hz : (s.heap.push { cls := .type "tuple_iterator", data := .fields #[.ref l, .int 0 0] }).objs.size = s.heap.objs.size + 1 := Heap.size_push ..
  show _ ∧ _
  rw [hz]
  have he : IsEnum ((s.heap.push { cls := .type "tuple_iterator", data := .fields #[.ref l, .int 0 0] }).push
      { cls := .type "enumerate", data := .fields #[.none, .bool false, .ref s.heap.objs.size, rawInt 0, .none, .none] }) (s.heap.objs.size + 1) s.heap.objs.size 0 .none := by
    have := Heap.get?_push_size (s.heap.push { cls := .type "tuple_iterator", data := .fields #[.ref l, .int 0 0] })
      (o := { cls := .type "enumerate", data := .fields #[.none, .bool false, .ref s.heap.objs.size, rawInt 0, .none, .none] }) rfl
    rw [hz] at this; exact this
  refine ⟨⟨_, he, rfl⟩, h _ he ⟨_, Heap.get?_push_of_some _ (Heap.get?_push_size _ rfl), rfl, rfl⟩ (by rw [Heap.size_push, hz]) fun b o x => Heap.get?_push_of_some _ (Heap.get?_push_of_some _ x)⟩
theorem wpAny_pyNext_enum_endT {e it l : Addr} {i : Nat} {items : Array Value} {old : Value} {c : Int} {Q : Option Value → Shared → Prop} (hh : A.handled = none)
    (he : IsEnum s.heap e it c old) (hit : s.heap.IsTupleIter it l i) (hl : s.heap.IsTuple l items) (hx : items[i]? = none)
    (hQ : ∀ h', Heap.ExtBut it s.heap h' → Q none { s with heap := h' }) : wpAny (model prog w) A (pyNext (.ref e)) Q E s := by
  have hTy : s.TypeIs (.ref e) "enumerate" := ⟨_, he, rfl⟩
  unfold pyNext
  refine wpAny_bind (wpAny_attempt (wpAny_callSpecial?_slot (name := Str.ofString "__next__") hTy F.slot_enumerate_next
    (wpAny_call_entry F.slot_enumerate_next hTy F.entry_enumerate_next ?_ (F.args_enumerate_next_1 _))))
  show wpAny _ _ (field (.ref e) 2 >>= _) _ _ _
  refine wpAny_bind (wpAny_field he rfl (x := .ref it) rfl ?_)
  refine wpAny_bind (wpAny_nextOf_tuple_end hh hit hl hx fun h' x he' hx' => ?_)
  obtain ⟨o, ho, hc⟩ := hx'
  refine wpAny_bind (wpAny_isInstance (T := "StopIteration") (b := true) ⟨o, ho, hc⟩ isSubtype_stop ?_)
  exact wpAny_pure (hQ _ he')
end
end PySem
namespace Wx
open PySem PySem.Spec PyProof.Rows L2 NdefX RZ StX
/-- the tuple at a as it stands at each turn, each item in a new pair -/
def IteT (K : PySem.W.Frag) (a : Addr) : It :=
  ⟨fun i H => ∃ (xs : List V) (x : V), SqT K H a xs ∧ xs[i]? = some x, fun i H v H' => ∃ T x, v = .ref T ∧ H T = none ∧ H' = upd H T (.tup [.int (i : Nat), x]) ∧ ∀ xs, SqT K H a xs → xs[i]? = some x, fun i H => ∃ xs : List V, SqT K H a xs ∧ xs.length ≤ i⟩
theorem turn_enumT {P : Program} {w : World} {K : PySem.W.Frag} {elts : List Expr} {kk : Nat} {tpos : Pos} (a e it : Addr) (nai : a ≠ it) (nae : a ≠ e) :
    Turn P w K (.Tuple elts kk tpos) (IteT K a) [e, it] e (fun i h => (∃ old, IsEnum h e it ((i : Nat) : Int) old) ∧ h.IsTupleIter it a i ∧ e ≠ it) where
  mem := by simp
  obj := fun i h st b hb => by
    obtain ⟨⟨old, he⟩, ⟨o, ho, hc, hd⟩, _⟩ := st
    have e' : b = e ∨ b = it := by simpa using hb
    rcases e' with z | z
    · rw [z]; exact ⟨_, he, fun v q => nomatch q⟩
    · rw [z]; exact ⟨o, ho, fun v q => by rw [hd] at q; cases q⟩
  keep := fun i h h' st k => let ⟨⟨old, he⟩, hi, hne⟩ := st; ⟨⟨old, k e (by simp) _ he⟩, hi.at fun o q => k it (by simp) o q, hne⟩
  item := by
    intro X hP hw hK hc i pins s σ H E I hf st hg
    subst hP hw hK
    obtain ⟨⟨old, he⟩, hit, hne⟩ := st
    obtain ⟨xs, x, hq, hx⟩ := hg
    obtain ⟨its, rv, p, hz⟩ := I.tuple hq
    obtain ⟨u, hu, ru⟩ := rv.get hx
    have hel : e < s.heap.objs.size := Heap.lt_size he
    have hil : it < s.heap.objs.size := by obtain ⟨_, q, _⟩ := hit; exact Heap.lt_size q
    have hpt : s.heap.IsTuple a its.toArray := p
    have hlt : i < its.toArray.size := by
      have := (List.getElem?_eq_some_iff.mp hu).1
      simpa using this
    refine wpAny_pyNext_enum_itemD (Draws.tuple (A := X.A.in1) (show X.A.in1.handled = none from I.ok.hd hc) it a nai its.toArray) he ⟨hit, hpt⟩ hlt hne (by simp [hne, Ne.symm nae]) fun x' h' tk hx' ho hit' hT hsz hk => ?_
    have ex : x' = u := by
      have z : its.toArray[i]? = some u := by simpa using hu
      rw [z] at hx'
      exact (Option.some.inj hx').symm
    subst ex
    refine ⟨_, rfl, wpAny_letOwnedTupleGo_enum (s := { s with heap := h', toks := tk + 1 }) ho fun h'' he' sb => ?_⟩
    have hT2 : h''.get? s.heap.objs.size = some { cls := .type "tuple", data := .seq #[.int i tk, x'] } := (sb.2 _ (Nat.ne_of_gt hel)).trans hT
    have new : ObjOk X.prog X.w (upd H s.heap.objs.size (.tup [.int (i : Nat), x])) h'' s.heap.objs.size (.tup [.int (i : Nat), x]) :=
      ⟨by show 2 ≤ sizeLine; decide, [.int i tk, x'], .cons ⟨_, rfl⟩ (.cons ru .nil), ⟨_, hT2, rfl, _, rfl⟩⟩
    have I1 : Inv X pins σ (upd H s.heap.objs.size (.tup [.int (i : Nat), x])) { s with heap := h'', toks := tk + 1 } :=
      I.turnedNew (ch := [e, it]) (fun b ob hb q => (sb.2 b (fun z => hb (by simp [z]))).trans (hk b ob (fun z => hb (by simp [z])) (fun z => hb (by simp [z])) q)) hf (Nat.le_refl _) new
    refine ⟨.ref s.heap.objs.size, _, I1, rfl, ⟨_, x, rfl, I.hok.fresh (Nat.le_refl _), rfl, fun ys hy => by rw [I.tuple_inj hy hq]; exact hx⟩, ⟨⟨x', ?_⟩, hit'.1.at fun o q => (sb.2 it (Ne.symm hne)).trans q, hne⟩, fun b hb => ?_⟩
    · have e1 : ((i + 1 : Nat) : Int) = (i : Int) + 1 := by omega
      rw [e1]; exact he'
    · have hb' : b < s.heap.objs.size := by
        have e' : b = e ∨ b = it := by simpa using hb
        rcases e' with z | z
        · rw [z]; exact hel
        · rw [z]; exact hil
      rw [upd_ne (Nat.ne_of_lt hb')]
      exact (hf b hb).1
  done := by
    intro X hP hw hK hc i pins s σ H E I hf st hg
    subst hP hw hK
    obtain ⟨⟨old, he⟩, hit, hne⟩ := st
    obtain ⟨xs, hq, hx⟩ := hg
    obtain ⟨its, rv, p, hz⟩ := I.tuple hq
    obtain ⟨f0, f1, f2, f3, f4, f5⟩ := hf it (by simp)
    have hl := rv.length
    exact wpAny_pyNext_enum_endT (I.ok.hd hc) he hit (show s.heap.IsTuple a its.toArray from p) (by simp; omega) fun h' eb => ⟨rfl, I.turned (t' := s.toks) (fun b o hb q => eb b o hb q) f0 f1 f3 f4 f5⟩
  self := fun A i s Q E st h => let ⟨⟨_, he⟩, _⟩ := st; wpAny_pyIter_enum he h
def iEnumT (K : PySem.W.Frag) (ta : TA) : TI := fun σ H R => ta σ H fun vs H1 => ∃ a xs, vs = [.ref a] ∧ SqT K H1 a xs ∧ R (IteT K a) H1
theorem pi_enumT {X : Cx} {e : Expr} {ta : TA} {p pos tpos : Pos} {elts : List Expr} {kk : Nat} (hg : Gl X "enumerate") (hm : X.mg "enumerate" = none) (ha : PA X [e] ta) (hs : starEach [e] X.env = [(false, eval e X.env)] := by rfl) :
    PI X (.Tuple elts kk tpos) (.Call (.Name "enumerate" p) [e] [] pos) (iEnumT X.K ta) := by
  refine ⟨fun pins s σ H R I h => ?_⟩
  refine Call_ (ld_blt I hg hm boot_enumerate (PyProof.Rows.callWith_type1 (thn (ha.run pos pins s σ H _ I h) fun us s1 ⟨vs, H1, I1, r1, q1⟩ => ?_) hs rfl))
  obtain ⟨a, xs, ex, hq, q⟩ := q1
  subst ex
  cases r1 with
  | cons r rr =>
    cases rr
    cases r
    obtain ⟨its, rv, p', hz⟩ := I1.tuple hq
    have hat : a < s1.heap.objs.size := by obtain ⟨_, z, _⟩ := id p'; exact Heap.lt_size z
    refine call_enumerate_tuple (show s1.heap.IsTuple a its.toArray from p') fun h' he hit hsz hk => wpAny_pyIter_enum he ?_
    have I2 : Inv X pins σ H1 { s1 with heap := h' } := I1.kept (t' := s1.toks) hk
    refine ⟨s1.heap.objs.size + 1, [s1.heap.objs.size + 1, s1.heap.objs.size], _, _, H1, rfl, I2, turn_enumT a (s1.heap.objs.size + 1) s1.heap.objs.size (Nat.ne_of_lt hat) (Nat.ne_of_lt (Nat.lt_succ_of_lt hat)), ⟨⟨.none, he⟩, hit, Nat.succ_ne_self _⟩, fun b hb => ?_, q⟩
    have e' : b = s1.heap.objs.size + 1 ∨ b = s1.heap.objs.size := by simpa using hb
    have hle : s1.heap.objs.size ≤ b := by
      rcases e' with z | z
      · rw [z]; exact Nat.le_add_right _ _
      · rw [z]; exact Nat.le_refl _
    exact I1.fpOk hle (I1.hok.fresh hle)
theorem walk_enumT {K : PySem.W.Frag} {a : Addr} {xs : List V} : Walk (IteT K a) xs.length (fun H => SqT K H a xs) (YPair (fun i => some (.int (i : Nat))) (fun i => xs[i]?)) := by
  refine ⟨fun i _ hi q => ⟨xs, xs[i], q, by simp [hi]⟩, fun _ q => ⟨xs, q, Nat.le_refl _⟩, fun i H v H' _ q y => ?_⟩
  obtain ⟨T, x, h1, h2, h3, h4⟩ := y
  exact ⟨T, .int (i : Nat), x, h1, h2, h3, rfl, h4 xs q⟩
end Wx

namespace Wx
open PySem PySem.Spec PyProof.Rows L2 NdefX RZ StX
/-! C.m(..) and C.m(), m a staticmethod that may raise -/
/-- C.m is a staticmethod: its record at p, its def at g -/
structure SMet (K : PySem.W.Frag) (C : Addr) (mc : Value) (m : Str) (p g : Addr) : Prop where
  at_ : PySem.W.findCls K (.ref C) mc m = some (.get (.builtin "staticmethod.__get__") (.ref p) .none (.ref C))
  rc : ∃ rest, PySem.W.recIn K p "staticmethod" = some (.ref g :: rest)
  kp : PySem.W.keepIn K (.ref g) = true
def tSMeth (C : Addr) (sp : Sp) (E : L2.St → XK) (ta : TE) (t : TA) : TE := fun σ H Q => ta σ H fun x H1 => x = .ref C ∧ t σ H1 fun vs H2 => sp vs H2 Q (E σ)
section
variable {X : Cx} {CX : CXT} {k : Nat} {C p g : Addr} {mc : Value} {fd : FuncData} {ps : List Str} {sp : Sp} {E : L2.St → XK} {o e : Expr} {es : List Expr} {m : Str} {pos apos : Pos} {ta : TE} {t : TA} {pl : Sem Bool}
theorem getsmet_ok {pins : List (Addr × Obj)} {σ : L2.St} {H : Hp} {s : Shared} {A : Around} {Q : Value × List Value → Shared → Prop} {Ex : Value → Shared → Prop} (I : Inv X pins σ H s) (r : ClX.CRead X.K C mc) (c : SMet X.K C mc m p g)
    (h : ∀ s', Inv X pins σ H s' → Q (.ref g, []) s') : wpAny (model X.prog X.w) A (getMethod (.ref C) m pl) Q Ex s := by
  refine PySem.W.method_cls I.kIn r.ga ?_
  obtain ⟨rest, hp⟩ := c.rc
  refine PySem.W.cls_bind I.kIn r.rd c.at_ ?_
  refine wpAny_call (PySem.W.sm_get (s := { s with toks := s.toks + 1 }) I.kIn hp (PySem.W.handed_on rfl ?_))
  exact h _ (I.tok _)
theorem run_fnRS {pins : List (Addr × Obj)} {σ : L2.St} {H : Hp} {s : Shared} {Q : VK} {us : List Value} {vs : List V} {E : XK} (F : FnR X.prog X.w X.K X.mg X.base CX k g sp) (hr : Room k X.A) (hx : PassesAt CX X σ E)
    (I : Inv X pins σ H s) (r : Vals vs us) (h : sp vs H Q E) : wpAny (model X.prog X.w) X.A (call (.ref g) us) (EP X pins σ Q) X.xe s := by
  refine wpAny_call (codeAny_mono (F X.A X.stack s H us vs Q E hr I.env0 r h) fun r s' hq => ?_)
  cases r with
  | error e => exact hx pins H s e s' I hq
  | ok fl =>
    cases fl with
    | ret u => exact I.after hq
    | next => exact False.elim hq
    | brk => exact False.elim hq
    | cont => exact False.elim hq
/-- C.m(..), a def -/
theorem pe_smeth (he : PE X o ta) (r : ClX.CRead X.K C mc) (c : SMet X.K C mc m p g) (F : FnOk X.prog X.w X.K X.mg X.base CX k g fd ps sp) (hr : Room k X.A) (hb : Binds X.K fd ps []) (hx : ∀ σ, PassesAt CX X σ (E σ)) (ha : PA X (e :: es) t)
    (hst : starEach (e :: es) X.env = (false, eval e X.env) :: starEach es X.env := by rfl) (hpl : (backTo pos (starEach es X.env)).any (·.1) = false := by rfl)
    (ht : eval (.Call (.Attribute o m apos) (e :: es) [] pos) X.env = (do
      let ov ← eval o X.env
      standAt apos.atName
      let (f, first) ← holding [ov] (getMethod ov m pl)
      callWith pos f first (backTo pos (starEach (e :: es) X.env)) (backToKw pos (keywordEach [] X.env))) := by rfl) :
    PE X (.Call (.Attribute o m apos) (e :: es) [] pos) (tSMeth C sp E ta t) := by
  refine ⟨fun pins s σ H Q I h => ?_⟩
  refine PySem.W.methodCall_KW (pl := pl) (thn (he.run pins s σ H _ I h) fun u s1 ⟨x, H1, I1, rx, ex, q⟩ => ?_) ht
  subst ex
  obtain rfl : u = Value.ref C := rx
  refine getsmet_ok I1 r c fun s2 I2 => ?_
  refine PySem.W.callWith_K (first := []) (h₀ := X.base) I.ok.mod.kin c.kp (thn (ha.run pos pins s2 σ H1 _ I2 q) fun us s3 ⟨vs, H2, I3, rv, q2⟩ => ⟨I3.kIn, ?_⟩) hst hpl
  exact run_fnS F hr hb (hx σ) I3 rv q2
/-- .. a def with a starred parameter -/
theorem pe_smethR (he : PE X o ta) (r : ClX.CRead X.K C mc) (c : SMet X.K C mc m p g) (F : FnR X.prog X.w X.K X.mg X.base CX k g sp) (hr : Room k X.A) (hx : ∀ σ, PassesAt CX X σ (E σ)) (ha : PA X (e :: es) t)
    (hst : starEach (e :: es) X.env = (false, eval e X.env) :: starEach es X.env := by rfl) (hpl : (backTo pos (starEach es X.env)).any (·.1) = false := by rfl)
    (ht : eval (.Call (.Attribute o m apos) (e :: es) [] pos) X.env = (do
      let ov ← eval o X.env
      standAt apos.atName
      let (f, first) ← holding [ov] (getMethod ov m pl)
      callWith pos f first (backTo pos (starEach (e :: es) X.env)) (backToKw pos (keywordEach [] X.env))) := by rfl) :
    PE X (.Call (.Attribute o m apos) (e :: es) [] pos) (tSMeth C sp E ta t) := by
  refine ⟨fun pins s σ H Q I h => ?_⟩
  refine PySem.W.methodCall_KW (pl := pl) (thn (he.run pins s σ H _ I h) fun u s1 ⟨x, H1, I1, rx, ex, q⟩ => ?_) ht
  subst ex
  obtain rfl : u = Value.ref C := rx
  refine getsmet_ok I1 r c fun s2 I2 => ?_
  refine PySem.W.callWith_K (first := []) (h₀ := X.base) I.ok.mod.kin c.kp (thn (ha.run pos pins s2 σ H1 _ I2 q) fun us s3 ⟨vs, H2, I3, rv, q2⟩ => ⟨I3.kIn, ?_⟩) hst hpl
  exact run_fnRS F hr (hx σ) I3 rv q2
/-- .. without arguments -/
theorem pe_smethR0 (he : PE X o ta) (r : ClX.CRead X.K C mc) (c : SMet X.K C mc m p g) (F : FnR X.prog X.w X.K X.mg X.base CX k g sp) (hr : Room k X.A) (hx : ∀ σ, PassesAt CX X σ (E σ))
    (ht : eval (.Call (.Attribute o m apos) [] [] pos) X.env = (do
      let ov ← eval o X.env
      standAt apos.atName
      let (f, first) ← holding [ov] (getMethod ov m pl)
      callWith pos f first (backTo pos (starEach [] X.env)) (backToKw pos (keywordEach [] X.env))) := by rfl) :
    PE X (.Call (.Attribute o m apos) [] [] pos) (tSMeth C sp E ta (fun _ H Q => Q [] H)) := by
  refine ⟨fun pins s σ H Q I h => ?_⟩
  refine PySem.W.methodCall_KW (pl := pl) (thn (he.run pins s σ H _ I h) fun u s1 ⟨x, H1, I1, rx, ex, q⟩ => ?_) ht
  subst ex
  obtain rfl : u = Value.ref C := rx
  refine getsmet_ok I1 r c fun s2 I2 => ?_
  exact PySem.W.callWith_K0 (first := []) I2.kIn c.kp (run_fnRS (us := []) F hr (hx σ) I2 .nil q)
end
end Wx

namespace Wx
open PySem PySem.Spec PyProof.Rows L2
section
variable {X : Cx} {C : Addr} {bmB : List Value} {B newId initId : String}
/-- X(), X an own exception class without own __init__ -/
theorem pmk_own0 {x : Str} {p pos : Pos} (F : ExcBaseFacts B newId initId bmB) (q : PySem.W.excIn X.K C bmB newId = true) (gC : X.mg x = some (.ref C)) (kC : PySem.W.keepIn X.K (.ref C) = true) (r : Raises X (.ref C)) (hg : Gl X x)
    (hdb : (x == ("__debug__" : Str)) = false := by decide) : PMk X (.Call (.Name x p) [] [] pos) (fun _ H Q => Q (.ref C) none H) := by
  intro pins s σ H Q I h
  refine wpAny_Call_Name_kw (ld_glob I hg gC ?_ hdb)
  refine PySem.W.callWith_K0 I.kIn kC ?_
  obtain ⟨bm, N, nm, qn, bs, hdct, sn, sub, ab, col, dd, k0, k1, k2, k3, k5, mN, hC, hN, hni, T⟩ := exc_obj I.kIn q
  show wpAny _ _ (call (.ref C) []) _ _ _
  refine wpAny_call_exc_subT F T hC hN hni (fun h' e hm => ?_) (by show 0 ≤ sizeLine; exact Nat.zero_le _)
  exact mk_of I hm r h (I.hok.gone hm.new)
end
end Wx

namespace Wx
open PySem PySem.Spec PyProof.Rows L2
/-! in an except suite of a base class: e.f and isinstance(e, c), whatever own class e is of -/
def tXd (K : PySem.W.Frag) (a : Addr) (cls : Value) (d : Option Addr) (f : Str) (te : TE) : TE := fun σ H Q => te σ H fun x H1 => ∃ (C dd : Addr) (fs : List (Str × V)) (v : V), x = .ref a ∧ cls = .ref C ∧ d = some dd ∧ XfC K C ∧ PySem.W.findIn K (.ref C) f = some none ∧ H1 dd = some (.xd fs) ∧ fs.lookup f = some v ∧ Q v H1
theorem pe_xd {X : Cx} {a : Addr} {oe : Obj} {cls : Value} {d : Option Addr} {pn : List (Addr × Obj)} {e : Expr} {te : TE} {pos : Pos} {n : Str}
    (hz : Zc cls d oe) (hf : ∃ vs, oe.data = .fields vs) (he : PE (X.suite a ((a, oe) :: pn)) e te) (hb : attributeBase e n X.env (eval e X.env) = eval e X.env := by rfl) :
    PE (X.suite a ((a, oe) :: pn)) (.Attribute e n pos) (tXd X.K a cls d n te) := by
  refine ⟨fun pins s σ H Q I h => ?_⟩
  refine attr_of hb (thn (he.run pins s σ H _ I h) fun u s1 hh => ?_)
  obtain ⟨x, H1, I1, rx, C, dd, fs, v, ex, ec, ed, T, hno, ea, l, q⟩ := hh
  subst ex
  obtain rfl : u = Value.ref a := rx
  subst ec
  subst ed
  obtain ⟨ha, _⟩ := I1.pin (a, oe) (List.mem_append_left _ List.mem_cons_self)
  obtain ⟨vs, hd⟩ := hf
  have hx : ObjOk X.prog X.w H1 s1.heap dd (.xd fs) := I1.hok dd _ ea
  obtain ⟨mA, hns, hr⟩ := hx
  obtain ⟨od, ho, hl⟩ := lookIn_ns hns
  obtain ⟨u, hu, ru⟩ := RelO.some_of (v := v) (o := mA n) (by rw [← l]; exact hr n)
  have J : PySem.W.InstAt s1.heap a oe C (some od) := ⟨ha, hz.1, by unfold PySem.W.notCls; rw [hd] <;> rfl, by rw [hz.2]; exact ho⟩
  exact HandSPX.exc_get I1.kIn J T.ga T.gg T.exC (PySem.W.findObj_own T.hdC hno rfl (by rw [hl, hu])) (handed_of ru) ⟨v, H1, I1.tok _, ru, q⟩
def rIsD (K : PySem.W.Frag) (a : Addr) (cls : Value) (d : Option Addr) : List V → Hp → VK → Prop := fun xs H Q => ∃ (C : Addr) (c : V) (u : Value) (b : Bool), xs = [.ref a, c] ∧ cls = .ref C ∧ ClsV c u ∧ ExcC K C ∧ (∀ dd, d = some dd → ∃ fs, H dd = some (.xd fs)) ∧ PySem.W.kitOne K (.ref C) u = some b ∧ Q (.bl b) H
theorem call_isD {X : Cx} {a : Addr} {oe : Obj} {cls : Value} {d : Option Addr} {pn : List (Addr × Obj)} (hz : Zc cls d oe) (hf : ∃ vs, oe.data = .fields vs) : CallR (X.suite a ((a, oe) :: pn)) (.builtin "isinstance") (rIsD X.K a cls d) := by
  intro pins s σ H xs us Q I r h
  obtain ⟨C, c, u, b, rfl, ec, hc, T, hd, hk, q⟩ := h
  cases r with
  | cons r1 r2 =>
    cases r2 with
    | cons r3 r4 =>
      cases r4
      cases r1
      have eu := hc.eq r3
      subst eu
      subst ec
      obtain ⟨ga, _⟩ := I.pin (a, oe) (List.mem_append.mpr (.inl List.mem_cons_self))
      obtain ⟨vs, hv⟩ := hf
      have inst : ∃ od, PySem.W.InstAt s.heap a oe C od := by
        cases d with
        | none => exact ⟨none, ga, hz.1, by unfold PySem.W.notCls; rw [hv] <;> rfl, by rw [hz.2]; trivial⟩
        | some dd =>
          obtain ⟨fs, ed⟩ := hd dd rfl
          obtain ⟨mA, hns, _⟩ : ObjOk X.prog X.w H s.heap dd (.xd fs) := I.hok dd _ ed
          obtain ⟨od, ho, _⟩ := lookIn_ns hns
          exact ⟨some od, ga, hz.1, by unfold PySem.W.notCls; rw [hv] <;> rfl, by rw [hz.2]; exact ho⟩
      obtain ⟨od, inst⟩ := inst
      have hcl : (PySem.W.clsIn X.K C).isSome = true := by
        obtain ⟨cd, hcd, _⟩ := PySem.W.any_some T.hd
        rw [hcd]
        rfl
      exact PySem.W.kia_one (PySem.W.kitx_exc hcl T.hg T.hk T.hs T.ha T.hn T.ht T.hm) I.kIn inst hk (fun z => nomatch z) fun tk => ⟨.bl b, H, I.kept (t' := tk) fun _ _ z => z, rfl, q⟩
end Wx

namespace Wb
open PySem PySem.Spec PyProof.Rows L2 Wx NdefX
def top (i : Nat) : Stmt := PySem.Challenge.pw_waterbyturns_k23_games_that_are_refused.main.body.getD i (.Pass ⟨0, 0, 0, 0⟩)
/-! ### a def that stands, by its name: what a caller needs -/
structure Cal (P : Program) (w : World) (K : PySem.W.Frag) (mg : Str → Option Value) (base : Heap) (name : Str) (ps : List Str) (k : Nat) (sp : Sp) : Prop where
  mk0 ::
  ex : ∃ (g : Addr) (gd : FuncData), FnOk P w K mg base CX0 k g gd ps sp ∧ mg name = some (.ref g) ∧ PySem.W.keepIn K (.ref g) = true ∧ Binds K gd ps []
/-! ### frames -/
/-- what is tracked outside xs stays -/
def Frm (xs : List Addr) (H H' : Hp) : Prop := ∀ b o, ¬ b ∈ xs → H b = some o → H' b = some o
theorem Frm.refl (xs : List Addr) (H : Hp) : Frm xs H H := fun _ _ _ h => h
theorem Frm.trans {xs : List Addr} {H H1 H2 : Hp} (a : Frm xs H H1) (b : Frm xs H1 H2) : Frm xs H H2 := fun c o n h => b c o n (a c o n h)
theorem Frm.of_same {xs : List Addr} {H H' : Hp} (a : Same H H') : Frm xs H H' := fun b o _ h => a b o h
theorem Frm.mono {xs ys : List Addr} {H H' : Hp} (a : Frm xs H H') (h : ∀ b, b ∈ xs → b ∈ ys) : Frm ys H H' := fun b o n e => a b o (fun m => n (h b m)) e
theorem Frm.put {xs : List Addr} {H : Hp} {a : Addr} {o : HO} (m : a ∈ xs) : Frm xs H (upd H a o) := fun b p n e => by
  rw [upd_ne (fun q => n (by rw [q]; exact m))]
  exact e
theorem Same.new {H : Hp} {a : Addr} {o : HO} (n : H a = none) : Same H (upd H a o) := fun b p e => by
  rw [upd_ne (ne_of_none e n)]
  exact e
theorem Frm.new {xs : List Addr} {H : Hp} {a : Addr} {o : HO} (n : H a = none) : Frm xs H (upd H a o) := Frm.of_same (Same.new n)
theorem Frm.same {H H' : Hp} (a : Frm [] H H') : Same H H' := fun b o e => a b o (by simp) e
/-- an address that was new and may change behind its making is no part of the frame of what was there before -/
theorem Frm.drop {x : Addr} {xs : List Addr} {H0 H1 H2 : Hp} (n : H0 x = none) (a : Frm xs H0 H1) (b : Frm (x :: xs) H1 H2) : Frm xs H0 H2 := fun c o nc e => by
  refine b c o ?_ (a c o nc e)
  intro m
  rcases List.mem_cons.mp m with q | q
  · rw [q] at e
    rw [n] at e
    cases e
  · exact nc q
theorem Frm.none {xs : List Addr} {H H' : Hp} (a : Frm xs H H') {l : Addr} (nl : ¬ l ∈ xs) (h : H' l = Option.none) : H l = Option.none := by
  cases q : H l with
  | none => rfl
  | some o =>
    have := a l o nl q
    rw [this] at h
    cases h
/-- the heap without xs -/
def hid (xs : List Addr) (H : Hp) : Hp := fun b => if b ∈ xs then none else H b
theorem hid_same (xs : List Addr) (H : Hp) : Same (hid xs H) H := fun b o e => by
  unfold hid at e
  split at e
  · cases e
  · exact e
theorem hid_frm {xs : List Addr} {H H' : Hp} (a : Frm xs H H') : Same (hid xs H) (hid xs H') := fun b o e => by
  unfold hid at e ⊢
  split at e
  · cases e
  · rename_i n
    rw [if_neg n]
    exact a b o n e
theorem hid_eq {xs : List Addr} {H : Hp} {b : Addr} (n : ¬ b ∈ xs) : hid xs H b = H b := if_neg n
theorem hid_mono {xs ys : List Addr} {H : Hp} (h : ∀ b, b ∈ xs → b ∈ ys) : Same (hid ys H) (hid xs H) := fun b o e => by
  unfold hid at e ⊢
  split at e
  · cases e
  · rename_i n
    rw [if_neg (fun m => n (h b m))]
    exact e
theorem hid_nil (H : Hp) : hid [] H = H := by
  funext b
  exact if_neg (by simp)
theorem rd_same {H H' : Hp} (s : Same H H') {a : Addr} {o : HO} (h : Rd H a o) : Rd H' a o := by
  rcases h with h | ⟨x, h⟩
  · exact .inl (s _ _ h)
  · exact .inr ⟨x, s _ _ h⟩
theorem seqT {K : PySem.W.Frag} {H H' : Hp} {a : Addr} {xs : List V} (s : Same H H') (h : SqT K H a xs) : SqT K H' a xs := h.imp (rd_same s) id
/-! data in the heap, seen from a larger heap -/
mutual
theorem dp_same {K : PySem.W.Frag} {H H' : Hp} (s : Same H H') : ∀ {v : V} {d : PyData}, Dp K H v d → Dp K H' v d
  | _, _, .non => .non
  | _, _, .bl b => .bl b
  | _, _, .int i => .int i
  | _, _, .str x => .str x
  | _, _, .lst h r => .lst (s.seq h) (dpAll_same s r)
  | _, _, .tup h r => .tup (seqT s h) (dpAll_same s r)
theorem dpAll_same {K : PySem.W.Frag} {H H' : Hp} (s : Same H H') : ∀ {v : List V} {d : List PyData}, DpAll K H v d → DpAll K H' v d
  | _, _, .nil => .nil
  | _, _, .cons a b => .cons (dp_same s a) (dpAll_same s b)
end
theorem dpAll_get {K : PySem.W.Frag} {H : Hp} : ∀ {vs : List V} {ds : List PyData}, DpAll K H vs ds → ∀ {i : Nat} {v : V}, vs[i]? = some v → ∃ d, ds[i]? = some d ∧ Dp K H v d
  | _, _, .nil, i, v, h => by simp at h
  | _, _, .cons a b, 0, v, h => by
    have e := Option.some.inj h
    subst e
    exact ⟨_, rfl, a⟩
  | _, _, .cons a b, i + 1, v, h => dpAll_get b (i := i) h
theorem dpAll_len {K : PySem.W.Frag} {H : Hp} : ∀ {vs : List V} {ds : List PyData}, DpAll K H vs ds → vs.length = ds.length
  | _, _, .nil => rfl
  | _, _, .cons _ b => congrArg (· + 1) (dpAll_len b)
theorem dpAll_snoc {K : PySem.W.Frag} {H : Hp} : ∀ {vs : List V} {ds : List PyData} {v : V} {d : PyData}, DpAll K H vs ds → Dp K H v d → DpAll K H (vs ++ [v]) (ds ++ [d])
  | _, _, _, _, .nil, h => .cons h .nil
  | _, _, _, _, .cons a b, h => .cons a (dpAll_snoc b h)
theorem dpAll_ints {K : PySem.W.Frag} {H : Hp} : ∀ (l : List Int), DpAll K H (l.map V.int) (l.map PyData.int)
  | [] => .nil
  | i :: l => .cons (.int i) (dpAll_ints l)
theorem dpAll_ints_eq {K : PySem.W.Frag} {H : Hp} : ∀ {l : List Int} {vs : List V}, DpAll K H vs (l.map PyData.int) → vs = l.map V.int
  | [], _, .nil => rfl
  | i :: l, _, .cons (.int _) b => congrArg (V.int i :: ·) (dpAll_ints_eq b)
/-- o[i] of a list, for o[i] += e -/
theorem get_list {X : Cx} : PGet X (fun o i H Q => ∃ p xs k z, o = .ref p ∧ i = .int k ∧ SqL X.K H p xs ∧ 0 ≤ k ∧ xs[k.toNat]? = some z ∧ Q z H) := by
  intro pins s σ H o i ov iv Q I ro ri h
  obtain ⟨p, xs, k, z, rfl, rfl, hq, h0, hz, q⟩ := h
  cases ro
  obtain ⟨t, rfl⟩ := ri
  obtain ⟨its, r, pl, hs⟩ := I.list hq
  obtain ⟨w, ew, rw'⟩ := r.get hz
  have hl := r.length
  have hn := line63
  have hlt : k.toNat < xs.length := (List.getElem?_eq_some_iff.mp hz).1
  exact wpAny_getItem_list pl.isList h0 (by omega) (by simpa using ew) ⟨z, H, I, rw', q⟩
def rListOf (K : PySem.W.Frag) : List V → Hp → VK → Prop := fun xs H Q => ∃ p ys, xs = [.ref p] ∧ (SqL K H p ys ∨ SqT K H p ys) ∧ ∀ l, H l = none → Q (.ref l) (upd H l (.lst ys))
def rLenSeq (K : PySem.W.Frag) : List V → Hp → VK → Prop := fun xs H Q => ∃ p ys, xs = [.ref p] ∧ (SqL K H p ys ∨ SqT K H p ys) ∧ Q (.int ys.length) H
theorem Cal.mk {P : Program} {w : World} {K : PySem.W.Frag} {mg : Str → Option Value} {base : Heap} {name : Str} {ps : List Str} {k : Nat} {sp : Sp} {g : Addr} {gd : FuncData} (G : FnOk P w K mg base CX0 k g gd ps sp) (m : mg name = some (.ref g)) (kp : PySem.W.keepIn K (.ref g) = true) (b : Binds K gd ps []) : Cal P w K mg base name ps k sp := .mk0 ⟨g, gd, G, m, kp, b⟩
abbrev s_shown : Stmt := top 1
abbrev N_shown : List Str := ["value"]
abbrev P_shown : List Str := ["value"]
theorem sc_shown : FnScope N_shown P_shown (defScope s_shown) := ⟨rfl, rfl, rfl, by decide +kernel, rfl, by decide +kernel, by decide +kernel⟩
abbrev sBadNumber___init__ : Stmt := inClass (top 3) 0
abbrev NBadNumber___init__ : List Str := ["self", "what", "value", "__class__"]
abbrev PBadNumber___init__ : List Str := ["self", "what", "value"]
theorem scBadNumber___init__ : NScope NBadNumber___init__ PBadNumber___init__ ["__class__"] (defScope sBadNumber___init__) := nscope_by (by decide +kernel)
abbrev sTooMany___init__ : Stmt := inClass (top 4) 0
abbrev NTooMany___init__ : List Str := ["self", "limit", "__class__"]
abbrev PTooMany___init__ : List Str := ["self", "limit"]
theorem scTooMany___init__ : NScope NTooMany___init__ PTooMany___init__ ["__class__"] (defScope sTooMany___init__) := nscope_by (by decide +kernel)
abbrev scheck_number : Stmt := top 6
abbrev Ncheck_number : List Str := ["what", "value", "low", "high"]
abbrev Pcheck_number : List Str := ["what", "value", "low", "high"]
theorem sccheck_number : FnScope Ncheck_number Pcheck_number (defScope scheck_number) := ⟨rfl, rfl, rfl, by decide +kernel, rfl, by decide +kernel, by decide +kernel⟩
abbrev sranks : Stmt := top 9
abbrev Nranks : List Str := ["game", "owners", "uses", "node", "options", "option", "target", "_"]
abbrev Pranks : List Str := ["game"]
theorem scranks : FnScope Nranks Pranks (defScope sranks) := ⟨rfl, rfl, rfl, by decide +kernel, rfl, by decide +kernel, by decide +kernel⟩
abbrev s_check_nodes : Stmt := top 10
abbrev N_check_nodes : List Str := ["game", "last", "options", "option", "target"]
abbrev P_check_nodes : List Str := ["game"]
theorem sc_check_nodes : FnScope N_check_nodes P_check_nodes (defScope s_check_nodes) := ⟨rfl, rfl, rfl, by decide +kernel, rfl, by decide +kernel, by decide +kernel⟩
abbrev s_lost_in_turn : Stmt := top 11
abbrev N_lost_in_turn : List Str := ["owners", "uses", "left", "owner", "lost", "found", "failed", "done", "node", "option", "_", "count"]
abbrev P_lost_in_turn : List Str := ["owners", "uses"]
theorem sc_lost_in_turn : FnScope N_lost_in_turn P_lost_in_turn (defScope s_lost_in_turn) := ⟨rfl, rfl, rfl, by decide +kernel, rfl, by decide +kernel, by decide +kernel⟩
abbrev s_law_start : Stmt := top 13
abbrev N_law_start : List Str := ["script", "first"]
abbrev P_law_start : List Str := ["script"]
theorem sc_law_start : FnScope N_law_start P_law_start (defScope s_law_start) := ⟨rfl, rfl, rfl, by decide +kernel, rfl, by decide +kernel, by decide +kernel⟩
abbrev s_law_draw : Stmt := top 14
abbrev N_law_draw : List Str := ["script", "state", "limit", "number", "cell", "mixed"]
abbrev P_law_draw : List Str := ["script", "state", "limit"]
theorem sc_law_draw : FnScope N_law_draw P_law_draw (defScope s_law_draw) := ⟨rfl, rfl, rfl, by decide +kernel, rfl, by decide +kernel, by decide +kernel⟩
abbrev s_law_target : Stmt := top 15
abbrev N_law_target : List Str := ["script", "state", "many"]
abbrev P_law_target : List Str := ["script", "state", "many"]
theorem sc_law_target : FnScope N_law_target P_law_target (defScope s_law_target) := ⟨rfl, rfl, rfl, by decide +kernel, rfl, by decide +kernel, by decide +kernel⟩
abbrev s_law_game : Stmt := top 16
abbrev N_law_game : List Str := ["script", "state", "many", "game", "node", "options", "k", "size", "j"]
abbrev P_law_game : List Str := ["script", "state", "many"]
theorem sc_law_game : FnScope N_law_game P_law_game (defScope s_law_game) := ⟨rfl, rfl, rfl, by decide +kernel, rfl, by decide +kernel, by decide +kernel⟩
abbrev s_law_copy : Stmt := top 17
abbrev N_law_copy : List Str := ["game", "copy", "options", "option"]
abbrev P_law_copy : List Str := ["game"]
theorem sc_law_copy : FnScope N_law_copy P_law_copy (defScope s_law_copy) := ⟨rfl, rfl, rfl, by decide +kernel, rfl, by decide +kernel, by decide +kernel⟩
abbrev s_law_odd : Stmt := top 18
abbrev N_law_odd : List Str := ["script", "state", "many", "far"]
abbrev P_law_odd : List Str := ["script", "state", "many"]
theorem sc_law_odd : FnScope N_law_odd P_law_odd (defScope s_law_odd) := ⟨rfl, rfl, rfl, by decide +kernel, rfl, by decide +kernel, by decide +kernel⟩
abbrev s_law_error : Stmt := top 19
abbrev N_law_error : List Str := ["game", "e"]
abbrev P_law_error : List Str := ["game"]
theorem sc_law_error : FnScope N_law_error P_law_error (defScope s_law_error) := ⟨rfl, rfl, rfl, by decide +kernel, rfl, by decide +kernel, by decide +kernel⟩
abbrev s_law_first : Stmt := top 20
abbrev N_law_first : List Str := ["game", "options", "option", "target"]
abbrev P_law_first : List Str := ["game"]
theorem sc_law_first : FnScope N_law_first P_law_first (defScope s_law_first) := ⟨rfl, rfl, rfl, by decide +kernel, rfl, by decide +kernel, by decide +kernel⟩
abbrev s_law_bent : Stmt := top 21
abbrev N_law_bent : List Str := ["script", "state", "game", "bent", "k", "node", "place", "options", "option"]
abbrev P_law_bent : List Str := ["script", "state", "game"]
theorem sc_law_bent : FnScope N_law_bent P_law_bent (defScope s_law_bent) := ⟨rfl, rfl, rfl, by decide +kernel, rfl, by decide +kernel, by decide +kernel⟩
abbrev slaw : Stmt := top 22
abbrev Nlaw : List Str := ["script", "state", "many", "game", "bent", "passed", "large", "found", "at", "k"]
abbrev Plaw : List Str := ["script"]
theorem sclaw : FnScope Nlaw Plaw (defScope slaw) := ⟨rfl, rfl, rfl, by decide +kernel, rfl, by decide +kernel, by decide +kernel⟩
/-- what the top has written -/
structure Txt (K : PySem.W.Frag) (mg : Str → Option Value) : Prop where
  b_len : mg "len" = none
  b_abs : mg "abs" = none
  b_int : mg "int" = none
  b_bool : mg "bool" = none
  b_str : mg "str" = none
  b_range : mg "range" = none
  b_all : mg "all" = none
  b_isinstance : mg "isinstance" = none
  b_repr : mg "repr" = none
  b_super : mg "super" = none
  b_tuple : mg "tuple" = none
  b_list : mg "list" = none
  b_zip : mg "zip" = none
  b_enumerate : mg "enumerate" = none
  b_max : mg "max" = none
  b_min : mg "min" = none
  c__MOST_NODES : ∃ t, mg "_MOST_NODES" = some (.int 12000 t)
end Wb

namespace Wb
open PySem PySem.Spec PyProof.Rows L2 Wx NdefX RZ StX PyProof.Rows.FinIter
section
variable {P : Program} {w : World} {K : PySem.W.Frag} {mg : Str → Option Value} {base : Heap}

/-- a state: four ints -/
def St4 (H : Hp) (a : Addr) : Prop := ∃ i j k l : Int, H a = some (.lst [.int i, .int j, .int k, .int l])
/-- the script at a and the state at s -/
def Scr (K : PySem.W.Frag) (H : Hp) (a s : Addr) : Prop := (∃ ns : List Int, SqL K (hid [s] H) a (ns.map V.int) ∧ ns.length ≤ 63) ∧ St4 H s
theorem Frm.put' {xs : List Addr} {H H1 : Hp} {a : Addr} {o : HO} (f : Frm xs H H1) (m : a ∈ xs) : Frm xs H (upd H1 a o) := f.trans (Frm.put m)
theorem Scr.frm {K : PySem.W.Frag} {H H' : Hp} {a s : Addr} (h : Scr K H a s) (f : Frm [s] H H') (q : St4 H' s) : Scr K H' a s := by
  obtain ⟨⟨ns, h1, h2⟩, _⟩ := h
  exact ⟨⟨ns, (hid_frm f).seq h1, h2⟩, q⟩
/-- what else is made or changed is not the state -/
theorem Scr.same {K : PySem.W.Frag} {H H' : Hp} {a s : Addr} (h : Scr K H a s) (f : Same H H') : Scr K H' a s := by
  obtain ⟨i, j, k, l, e⟩ := h.2
  exact h.frm (Frm.of_same f) ⟨i, j, k, l, f _ _ e⟩
theorem Scr.ne {K : PySem.W.Frag} {H : Hp} {a s p : Addr} (h : Scr K H a s) (n : H p = none) : ¬ p = s := by
  rintro rfl
  obtain ⟨_, _, _, _, e⟩ := h.2
  rw [n] at e
  cases e
theorem Scr.made {K : PySem.W.Frag} {H : Hp} {a p : Addr} {ns : List Int} (hS : SqL K H a (ns.map V.int)) (hl : ns.length ≤ 63) (n : H p = none) {i j k l : Int} : Scr K (upd H p (.lst [.int i, .int j, .int k, .int l])) a p := by
  refine ⟨⟨ns, Same.seq (H := H) (fun b o e => ?_) hS, hl⟩, i, j, k, l, upd_same⟩
  have nb : b ≠ p := ne_of_none e n
  rw [hid_eq (by simpa using nb), upd_ne nb]
  exact e
theorem ints_at {ns : List Int} {i : Int} (h0 : 0 ≤ i) (h1 : i < ns.length) : ∃ z : Int, atI (ns.map V.int) i = some (.int z) := by
  obtain ⟨j, rfl⟩ : ∃ j : Nat, i = (j : Int) := ⟨i.toNat, by omega⟩
  have hj : j < ns.length := by omega
  exact ⟨ns[j], atI_nat (by simp [hj])⟩
theorem fmod0 {a b : Int} (h : 0 < b) : 0 ≤ a.fmod b := by
  rw [Int.fmod_eq_emod_of_nonneg _ (by omega)]
  exact Int.emod_nonneg _ (by omega)
theorem fmod1 {a b : Int} (h : 0 < b) : a.fmod b < b := by
  rw [Int.fmod_eq_emod_of_nonneg _ (by omega)]
  exact Int.emod_lt_of_pos _ h
def sp_law_start (K : PySem.W.Frag) : Sp := fun vs H Q _ => ∃ (a : Addr) (ns : List Int), vs = [.ref a] ∧ SqL K H a (ns.map V.int) ∧ ns.length ≤ 63 ∧ ∀ p H', Same H H' → H p = none → Scr K H' a p → Q (.ref p) H'
def sp_law_draw (K : PySem.W.Frag) : Sp := fun vs H Q _ => ∃ (a s : Addr) (n : Int), vs = [.ref a, .ref s, .int n] ∧ Scr K H a s ∧ 0 < n ∧ n < 1152921504606846976 ∧ ∀ (r : Int) (H' : Hp), 0 ≤ r → r < n → Frm [s] H H' → Scr K H' a s → Q (.int r) H'

theorem ok_law_start {f : Addr} {fd : FuncData} (F : Fun K "_law_start" "_law_start" s_law_start f fd) (T : Txt K mg) : FnOk P w K mg base CX0 1 f fd P_law_start (sp_law_start K) := by
  refine F.ok sc_law_start (fun vs H Q E h => ?_) (fun cdv A outer s H vs Q E hr h => ?_)
  · obtain ⟨a, ns, rfl, hS, hlen, k⟩ := h
    rfl
  · obtain ⟨a, ns, rfl, hS, hlen, k⟩ := h
    refine ⟨_, (pss_cons (ps_set (i := 1) sc_law_start.nd rfl (by first | exact Or.inl rfl | exact Or.inr rfl) pe_int)
  (pss_cons (ps_if (pt_cmpR op_gt (pe_callB call_len_seq (by rfl) T.b_len PySem.boot_len (pa_cons (pv 0) pa_nil)) pe_int (nomark _))
  (pss_one (ps_set (i := 1) sc_law_start.nd rfl (by first | exact Or.inl rfl | exact Or.inr rfl) (pe_ix ix_list (pv 0) pe_int (fun _ _ => rfl))))
  pss_nil)
  (pss_one (ps_ret (pe_lst (pa_cons (pe_callB (id := "abs") call_abs (by rfl) T.b_abs (by decide +kernel) (pa_cons (pe_callTy (T := "int") call_int1 (by rfl) T.b_int (by decide +kernel) (pa_cons (pv 1) pa_nil)) pa_nil)) (pa_cons (pe_callTy (T := "int") call_int1 (by rfl) T.b_int (by decide +kernel) (pa_cons (pe_cmpR op_ge (pe_callB (id := "abs") call_abs (by rfl) T.b_abs (by decide +kernel) (pa_cons (pe_callTy (T := "int") call_int1 (by rfl) T.b_int (by decide +kernel) (pa_cons (pv 1) pa_nil)) pa_nil)) (pe_op op_pow pe_int pe_int) (nomark _)) pa_nil)) (pa_cons pe_int (pa_cons pe_int pa_nil))))))))), ?_⟩
    refine ⟨_, rfl, a, _, rfl, .inl hS, _, _, rfl, rfl, _, rfl, ?_⟩
    refine ite2 (fun c => ?_) (fun c => ?_)
    · have hp : (0 : Int) < ns.length := by simpa using of_decide_eq_true c
      obtain ⟨z, hz⟩ := ints_at (ns := ns) (i := 0) (by omega) hp
      refine ⟨_, rfl, a, _, _, _, rfl, rfl, hS, hz, ?_⟩
      refine ⟨_, rfl, .inl ⟨_, rfl, _, rfl, _, rfl, .inl ⟨_, rfl, _, rfl, _, _, rfl, rfl, ⟨by decide, by decide, by decide⟩, _, _, rfl, rfl, .inr ⟨_, rfl, (by show 4 ≤ sizeLine; decide), fun l hl => k _ _ (Same.new hl) hl (Scr.made hS hlen hl)⟩⟩⟩⟩
    · refine ⟨_, rfl, .inl ⟨_, rfl, _, rfl, _, rfl, .inl ⟨_, rfl, _, rfl, _, _, rfl, rfl, ⟨by decide, by decide, by decide⟩, _, _, rfl, rfl, .inr ⟨_, rfl, (by show 4 ≤ sizeLine; decide), fun l hl => k _ _ (Same.new hl) hl (Scr.made hS hlen hl)⟩⟩⟩⟩

theorem ok_law_draw {f : Addr} {fd : FuncData} (F : Fun K "_law_draw" "_law_draw" s_law_draw f fd) (T : Txt K mg) : FnOk P w K mg base CX0 1 f fd P_law_draw (sp_law_draw K) := by
  refine F.ok sc_law_draw (fun vs H Q E h => ?_) (fun cdv A outer s H vs Q E hr h => ?_)
  · obtain ⟨a, s0, n, rfl, hScr, n0, n1, k⟩ := h
    rfl
  · obtain ⟨a, s0, n, rfl, hScr, n0, n1, k⟩ := h
    refine ⟨_, (pss_cons (ps_asg (pe_op op_add (pe_ix ix_list (pv 1) pe_int (fun _ _ => rfl)) pe_int) (pg_sub (pv 1) pe_int set_list))
  (pss_cons (ps_if (PW.pt (pw_and (pt_cmpR op_eq (pe_ix ix_list (pv 1) pe_int (fun _ _ => rfl)) pe_int (nomark _)) (pw_and1 (pt_cmpR op_gt (pe_ix ix_list (pv 1) pe_int (fun _ _ => rfl)) pe_int (nomark _)))))
  (pss_cons (ps_set (i := 3) sc_law_draw.nd rfl (by first | exact Or.inl rfl | exact Or.inr rfl) (pe_op op_modN (pe_callTy (T := "int") call_int1 (by rfl) T.b_int (by decide +kernel) (pa_cons (pe_ix ix_list (pv 1) pe_int (fun _ _ => rfl)) pa_nil)) (pv 2)))
  (pss_cons (ps_asg (pe_op op_fdivW (pe_ix ix_list (pv 1) pe_int (fun _ _ => rfl)) (pv 2)) (pg_sub (pv 1) pe_int set_list))
  (pss_one (ps_ret (pv 3)))))
  pss_nil)
  (pss_cons (ps_asg pe_int (pg_sub (pv 1) pe_int set_list))
  (pss_cons (ps_set (i := 4) sc_law_draw.nd rfl (by first | exact Or.inl rfl | exact Or.inr rfl) pe_int)
  (pss_cons (ps_if (pt_cmpR op_gt (pe_callB call_len_seq (by rfl) T.b_len PySem.boot_len (pa_cons (pv 0) pa_nil)) pe_int (nomark _))
  (pss_one (ps_set (i := 4) sc_law_draw.nd rfl (by first | exact Or.inl rfl | exact Or.inr rfl) (pe_ix ix_list (pv 0) (pe_op op_modN (pe_callTy (T := "int") call_int1 (by rfl) T.b_int (by decide +kernel) (pa_cons (pe_ix ix_list (pv 1) pe_int (fun _ _ => rfl)) pa_nil)) (pe_callB call_len_seq (by rfl) T.b_len PySem.boot_len (pa_cons (pv 0) pa_nil))) (fun _ _ => rfl))))
  pss_nil)
  (pss_cons (ps_asg (pe_op op_add (pe_ix ix_list (pv 1) pe_int (fun _ _ => rfl)) pe_int) (pg_sub (pv 1) pe_int set_list))
  (pss_cons (ps_set (i := 5) sc_law_draw.nd rfl (by first | exact Or.inl rfl | exact Or.inr rfl) (pe_op op_mul (pe_op op_modN (pe_callTy (T := "int") call_int1 (by rfl) T.b_int (by decide +kernel) (pa_cons (pe_ix ix_list (pv 1) pe_int (fun _ _ => rfl)) pa_nil)) pe_int) pe_int))
  (pss_cons (ps_set (i := 5) sc_law_draw.nd rfl (by first | exact Or.inl rfl | exact Or.inr rfl) (pe_op op_add (pe_op op_add (pe_op op_add (pv 5) (pe_op op_modN (pe_callTy (T := "int") call_int1 (by rfl) T.b_int (by decide +kernel) (pa_cons (pv 4) pa_nil)) pe_int)) (pe_op op_mul pe_int (pe_ix ix_list (pv 1) pe_int (fun _ _ => rfl)))) pe_int))
  (pss_cons (ps_asg (pe_op op_modN (pe_callTy (T := "int") call_int1 (by rfl) T.b_int (by decide +kernel) (pa_cons (pv 5) pa_nil)) pe_int) (pg_sub (pv 1) pe_int set_list))
  (pss_cons (ps_set (i := 5) sc_law_draw.nd rfl (by first | exact Or.inl rfl | exact Or.inr rfl) (pe_op op_modN (pe_callTy (T := "int") call_int1 (by rfl) T.b_int (by decide +kernel) (pa_cons (pe_op op_add (pe_op op_mul (pe_ix ix_list (pv 1) pe_int (fun _ _ => rfl)) pe_int) (pe_ix ix_list (pv 1) pe_int (fun _ _ => rfl))) pa_nil)) pe_int))
  (pss_one (ps_ret (pe_op op_modN (pe_callTy (T := "int") call_int1 (by rfl) T.b_int (by decide +kernel) (pa_cons (pe_op op_fdivN (pv 5) pe_int) pa_nil)) (pv 2)))))))))))))), ?_⟩
    obtain ⟨⟨ns, hS, hl⟩, i0, i1, i2, i3, h4⟩ := id hScr
    have hA : ∀ H', Frm [s0] H H' → SqL K H' a (ns.map V.int) := fun H' fr => ((hid_frm fr).trans (hid_same _ _)).seq hS
    -- state[3] = state[3] + 1
    refine ⟨_, rfl, s0, _, _, _, rfl, rfl, SqL.of h4, rfl, _, _, rfl, rfl, _, rfl, s0, _, _, _, rfl, rfl, h4, rfl, ?_⟩
    refine ⟨_, rfl, s0, _, _, _, rfl, rfl, SqL.of upd_same, rfl, rfl, _, rfl, ?_⟩
    refine ite2 (fun c1 => ?_) (fun c1 => ?_)
    · refine ⟨_, rfl, s0, _, _, _, rfl, rfl, SqL.of upd_same, rfl, _, _, rfl, rfl, _, rfl, ?_⟩
      refine ite2 (fun c2 => ?_) (fun c2 => ?_)
      · refine ⟨_, rfl, s0, _, _, _, rfl, rfl, SqL.of upd_same, rfl, .inl ⟨_, rfl, _, rfl, _, _, rfl, rfl, (by show (_ : Int) ≠ 0; omega), ?_⟩⟩
        refine ⟨_, rfl, s0, _, _, _, rfl, rfl, SqL.of upd_same, rfl, _, rfl, _, _, rfl, rfl, ⟨by omega, Nat.lt_of_lt_of_le (PySem.Flt.log2_lt_of (k := 60) (by decide) (by omega)) (by decide)⟩, _, rfl, s0, _, _, _, rfl, rfl, upd_same, rfl, ?_⟩
        exact ⟨_, rfl, k _ _ (fmod0 n0) (fmod1 n0) (by repeat (first | exact Frm.refl _ _ | refine Frm.put' ?_ (by simp))) (hScr.frm (by repeat (first | exact Frm.refl _ _ | refine Frm.put' ?_ (by simp))) ⟨_, _, _, _, upd_same⟩)⟩
      · refine ⟨_, rfl, s0, _, _, _, rfl, rfl, upd_same, rfl, ?_⟩
        refine ⟨_, rfl, a, _, rfl, .inl (hA _ (by repeat (first | exact Frm.refl _ _ | refine Frm.put' ?_ (by simp)))), _, _, rfl, rfl, _, rfl, ?_⟩
        refine ite2 (fun c => ?_) (fun c => ?_)
        · have hp : (0 : Int) < ns.length := by simpa using of_decide_eq_true c
          obtain ⟨z, hz⟩ := ints_at (ns := ns) (i := i2.fmod ((ns.map V.int).length : Nat)) (fmod0 (by simpa using hp)) (by simpa using fmod1 (a := i2) hp)
          refine ⟨_, rfl, _, rfl, s0, _, _, _, rfl, rfl, SqL.of upd_same, rfl, .inl ⟨_, rfl, _, rfl, a, _, rfl, .inl (hA _ (by repeat (first | exact Frm.refl _ _ | refine Frm.put' ?_ (by simp)))), _, _, rfl, rfl, (by show (((ns.map V.int).length : Nat) : Int) ≠ 0; rw [List.length_map]; omega), a, _, _, _, rfl, rfl, hA _ (by repeat (first | exact Frm.refl _ _ | refine Frm.put' ?_ (by simp))), hz, ?_⟩⟩
          -- state[2] = state[2] + 1; mixed = ..
          refine ⟨_, rfl, s0, _, _, _, rfl, rfl, SqL.of upd_same, rfl, _, _, rfl, rfl, _, rfl, s0, _, _, _, rfl, rfl, upd_same, rfl, ?_⟩
          refine ⟨_, rfl, s0, _, _, _, rfl, rfl, SqL.of upd_same, rfl, .inl ⟨_, rfl, _, _, rfl, rfl, (by show (_ : Int) ≠ 0; decide), _, _, rfl, rfl, .inr ⟨by decide, by decide⟩, ?_⟩⟩
          refine ⟨_, rfl, _, rfl, .inl ⟨_, rfl, _, _, rfl, rfl, (by show (_ : Int) ≠ 0; decide), _, _, rfl, rfl, _, rfl, s0, _, _, _, rfl, rfl, SqL.of upd_same, rfl, _, _, rfl, rfl, .inl ⟨by decide, by decide⟩, _, _, rfl, rfl, _, _, rfl, rfl, ?_⟩⟩
          refine ⟨_, rfl, .inl ⟨_, rfl, _, _, rfl, rfl, (by show (_ : Int) ≠ 0; decide), _, rfl, s0, _, _, _, rfl, rfl, upd_same, rfl, ?_⟩⟩
          refine ⟨_, rfl, s0, _, _, _, rfl, rfl, SqL.of upd_same, rfl, _, _, rfl, rfl, .inr ⟨by decide, by decide⟩, _, rfl, s0, _, _, _, rfl, rfl, SqL.of upd_same, rfl, _, _, rfl, rfl, .inl ⟨_, rfl, _, _, rfl, rfl, (by show (_ : Int) ≠ 0; decide), ?_⟩⟩
          refine ⟨_, rfl, _, _, rfl, rfl, ⟨by decide, by decide⟩, .inl ⟨_, rfl, _, rfl, _, _, rfl, rfl, (by show (_ : Int) ≠ 0; omega), ?_⟩⟩
          exact k _ _ (fmod0 n0) (fmod1 n0) (by repeat (first | exact Frm.refl _ _ | refine Frm.put' ?_ (by simp))) (hScr.frm (by repeat (first | exact Frm.refl _ _ | refine Frm.put' ?_ (by simp))) ⟨_, _, _, _, upd_same⟩)
        · -- state[2] = state[2] + 1; mixed = ..
          refine ⟨_, rfl, s0, _, _, _, rfl, rfl, SqL.of upd_same, rfl, _, _, rfl, rfl, _, rfl, s0, _, _, _, rfl, rfl, upd_same, rfl, ?_⟩
          refine ⟨_, rfl, s0, _, _, _, rfl, rfl, SqL.of upd_same, rfl, .inl ⟨_, rfl, _, _, rfl, rfl, (by show (_ : Int) ≠ 0; decide), _, _, rfl, rfl, .inr ⟨by decide, by decide⟩, ?_⟩⟩
          refine ⟨_, rfl, _, rfl, .inl ⟨_, rfl, _, _, rfl, rfl, (by show (_ : Int) ≠ 0; decide), _, _, rfl, rfl, _, rfl, s0, _, _, _, rfl, rfl, SqL.of upd_same, rfl, _, _, rfl, rfl, .inl ⟨by decide, by decide⟩, _, _, rfl, rfl, _, _, rfl, rfl, ?_⟩⟩
          refine ⟨_, rfl, .inl ⟨_, rfl, _, _, rfl, rfl, (by show (_ : Int) ≠ 0; decide), _, rfl, s0, _, _, _, rfl, rfl, upd_same, rfl, ?_⟩⟩
          refine ⟨_, rfl, s0, _, _, _, rfl, rfl, SqL.of upd_same, rfl, _, _, rfl, rfl, .inr ⟨by decide, by decide⟩, _, rfl, s0, _, _, _, rfl, rfl, SqL.of upd_same, rfl, _, _, rfl, rfl, .inl ⟨_, rfl, _, _, rfl, rfl, (by show (_ : Int) ≠ 0; decide), ?_⟩⟩
          refine ⟨_, rfl, _, _, rfl, rfl, ⟨by decide, by decide⟩, .inl ⟨_, rfl, _, rfl, _, _, rfl, rfl, (by show (_ : Int) ≠ 0; omega), ?_⟩⟩
          exact k _ _ (fmod0 n0) (fmod1 n0) (by repeat (first | exact Frm.refl _ _ | refine Frm.put' ?_ (by simp))) (hScr.frm (by repeat (first | exact Frm.refl _ _ | refine Frm.put' ?_ (by simp))) ⟨_, _, _, _, upd_same⟩)
    · refine ⟨_, rfl, s0, _, _, _, rfl, rfl, upd_same, rfl, ?_⟩
      refine ⟨_, rfl, a, _, rfl, .inl (hA _ (by repeat (first | exact Frm.refl _ _ | refine Frm.put' ?_ (by simp)))), _, _, rfl, rfl, _, rfl, ?_⟩
      refine ite2 (fun c => ?_) (fun c => ?_)
      · have hp : (0 : Int) < ns.length := by simpa using of_decide_eq_true c
        obtain ⟨z, hz⟩ := ints_at (ns := ns) (i := i2.fmod ((ns.map V.int).length : Nat)) (fmod0 (by simpa using hp)) (by simpa using fmod1 (a := i2) hp)
        refine ⟨_, rfl, _, rfl, s0, _, _, _, rfl, rfl, SqL.of upd_same, rfl, .inl ⟨_, rfl, _, rfl, a, _, rfl, .inl (hA _ (by repeat (first | exact Frm.refl _ _ | refine Frm.put' ?_ (by simp)))), _, _, rfl, rfl, (by show (((ns.map V.int).length : Nat) : Int) ≠ 0; rw [List.length_map]; omega), a, _, _, _, rfl, rfl, hA _ (by repeat (first | exact Frm.refl _ _ | refine Frm.put' ?_ (by simp))), hz, ?_⟩⟩
        -- state[2] = state[2] + 1; mixed = ..
        refine ⟨_, rfl, s0, _, _, _, rfl, rfl, SqL.of upd_same, rfl, _, _, rfl, rfl, _, rfl, s0, _, _, _, rfl, rfl, upd_same, rfl, ?_⟩
        refine ⟨_, rfl, s0, _, _, _, rfl, rfl, SqL.of upd_same, rfl, .inl ⟨_, rfl, _, _, rfl, rfl, (by show (_ : Int) ≠ 0; decide), _, _, rfl, rfl, .inr ⟨by decide, by decide⟩, ?_⟩⟩
        refine ⟨_, rfl, _, rfl, .inl ⟨_, rfl, _, _, rfl, rfl, (by show (_ : Int) ≠ 0; decide), _, _, rfl, rfl, _, rfl, s0, _, _, _, rfl, rfl, SqL.of upd_same, rfl, _, _, rfl, rfl, .inl ⟨by decide, by decide⟩, _, _, rfl, rfl, _, _, rfl, rfl, ?_⟩⟩
        refine ⟨_, rfl, .inl ⟨_, rfl, _, _, rfl, rfl, (by show (_ : Int) ≠ 0; decide), _, rfl, s0, _, _, _, rfl, rfl, upd_same, rfl, ?_⟩⟩
        refine ⟨_, rfl, s0, _, _, _, rfl, rfl, SqL.of upd_same, rfl, _, _, rfl, rfl, .inr ⟨by decide, by decide⟩, _, rfl, s0, _, _, _, rfl, rfl, SqL.of upd_same, rfl, _, _, rfl, rfl, .inl ⟨_, rfl, _, _, rfl, rfl, (by show (_ : Int) ≠ 0; decide), ?_⟩⟩
        refine ⟨_, rfl, _, _, rfl, rfl, ⟨by decide, by decide⟩, .inl ⟨_, rfl, _, rfl, _, _, rfl, rfl, (by show (_ : Int) ≠ 0; omega), ?_⟩⟩
        exact k _ _ (fmod0 n0) (fmod1 n0) (by repeat (first | exact Frm.refl _ _ | refine Frm.put' ?_ (by simp))) (hScr.frm (by repeat (first | exact Frm.refl _ _ | refine Frm.put' ?_ (by simp))) ⟨_, _, _, _, upd_same⟩)
      · -- state[2] = state[2] + 1; mixed = ..
        refine ⟨_, rfl, s0, _, _, _, rfl, rfl, SqL.of upd_same, rfl, _, _, rfl, rfl, _, rfl, s0, _, _, _, rfl, rfl, upd_same, rfl, ?_⟩
        refine ⟨_, rfl, s0, _, _, _, rfl, rfl, SqL.of upd_same, rfl, .inl ⟨_, rfl, _, _, rfl, rfl, (by show (_ : Int) ≠ 0; decide), _, _, rfl, rfl, .inr ⟨by decide, by decide⟩, ?_⟩⟩
        refine ⟨_, rfl, _, rfl, .inl ⟨_, rfl, _, _, rfl, rfl, (by show (_ : Int) ≠ 0; decide), _, _, rfl, rfl, _, rfl, s0, _, _, _, rfl, rfl, SqL.of upd_same, rfl, _, _, rfl, rfl, .inl ⟨by decide, by decide⟩, _, _, rfl, rfl, _, _, rfl, rfl, ?_⟩⟩
        refine ⟨_, rfl, .inl ⟨_, rfl, _, _, rfl, rfl, (by show (_ : Int) ≠ 0; decide), _, rfl, s0, _, _, _, rfl, rfl, upd_same, rfl, ?_⟩⟩
        refine ⟨_, rfl, s0, _, _, _, rfl, rfl, SqL.of upd_same, rfl, _, _, rfl, rfl, .inr ⟨by decide, by decide⟩, _, rfl, s0, _, _, _, rfl, rfl, SqL.of upd_same, rfl, _, _, rfl, rfl, .inl ⟨_, rfl, _, _, rfl, rfl, (by show (_ : Int) ≠ 0; decide), ?_⟩⟩
        refine ⟨_, rfl, _, _, rfl, rfl, ⟨by decide, by decide⟩, .inl ⟨_, rfl, _, rfl, _, _, rfl, rfl, (by show (_ : Int) ≠ 0; omega), ?_⟩⟩
        exact k _ _ (fmod0 n0) (fmod1 n0) (by repeat (first | exact Frm.refl _ _ | refine Frm.put' ?_ (by simp))) (hScr.frm (by repeat (first | exact Frm.refl _ _ | refine Frm.put' ?_ (by simp))) ⟨_, _, _, _, upd_same⟩)
end
section
variable {P : Program} {w : World} {K : PySem.W.Frag} {mg : Str → Option Value} {base : Heap}

theorem ok_shown {f : Addr} {fd : FuncData} (F : Fun K "_shown" "_shown" s_shown f fd) (T : Txt K mg) : FnOk P w K mg base CX0 1 f fd P_shown sp_shown := by
  refine F.ok sc_shown (fun vs H Q E h => ?_) (fun cdv A outer s H vs Q E hr h => ?_)
  · obtain ⟨x, rfl, hx, k⟩ := h
    rfl
  · obtain ⟨x, rfl, hx, k⟩ := h
    refine ⟨_, (pss_cons (ps_if (pt_val (pe_callB (id := "isinstance") call_isi (by rfl) T.b_isinstance (by decide +kernel) (pa_cons (pv 0) (pa_cons (pe_bltn (v := .ty "str") (by rfl) T.b_str (by decide +kernel) rfl) pa_nil))))
  (pss_one (ps_ret (pe_callB (id := "repr") call_repr_str (by rfl) T.b_repr (by decide +kernel) (pa_cons (pv 0) pa_nil))))
  pss_nil)
  (pss_cons (ps_if (PW.pt (pw_and (pt_val (pe_callB (id := "isinstance") call_isi (by rfl) T.b_isinstance (by decide +kernel) (pa_cons (pv 0) (pa_cons (pe_bltn (v := .ty "int") (by rfl) T.b_int (by decide +kernel) rfl) pa_nil)))) (pw_and1 (pt_chain op_ltM op_ltM (pe_un un_neg pe_int) (pv 0) pe_int))))
  (pss_one (ps_ret (pe_callTy (T := "str") call_str_ib (by rfl) T.b_str (by decide +kernel) (pa_cons (pv 0) pa_nil))))
  pss_nil)
  (pss_one (ps_ret pe_str)))), ?_⟩
    rcases hx with ⟨z, rfl, hz⟩ | ⟨i, rfl⟩ | rfl | ⟨b, rfl⟩
    · refine ⟨_, rfl, _, _, _, _, true, rfl, .ty _, .base (.str _), kit_ty (by decide +kernel), true, rfl, iteT ?_⟩
      exact ⟨_, rfl, z, rfl, Nat.le_trans hz (by rw [sizeLine_eq]; decide), k _ hz⟩
    · refine ⟨_, rfl, _, _, _, _, false, rfl, .ty _, .base (.int _), kit_ty (by decide +kernel), false, rfl, iteF ?_⟩
      refine ⟨_, rfl, _, _, _, _, true, rfl, .ty _, .base (.int _), kit_ty (by decide +kernel), true, rfl, iteT ?_⟩
      refine ⟨_, rfl, _, rfl, _, _, rfl, rfl, _, rfl, ?_⟩
      refine ite2 (fun c1 => ?_) (fun c1 => ?_)
      · have c1 := of_decide_eq_true c1
        refine ⟨_, _, rfl, rfl, _, rfl, ?_⟩
        refine ite2 (fun c2 => ?_) (fun c2 => ?_)
        · have c2 := of_decide_eq_true c2
          have hn : i.natAbs < 10 ^ 4 := by
            have e : (10 : Nat) ^ 4 = 10000 := by decide
            rw [e]
            omega
          refine ⟨_, rfl, .inl ⟨_, rfl, ?_, k _ ?_⟩⟩
          · have h2 : i.natAbs < 2 ^ 1920 := Nat.lt_of_lt_of_le hn (by decide)
            by_cases h0 : i.natAbs = 0
            · rw [h0]
              decide
            · exact (Nat.log2_lt h0).mpr h2
          · have e := int_text_length_le10 (k := 4) (by decide) hn
            show (Str.ofString (toString i)).length ≤ _
            rw [PySem.ofString_length]
            omega
        · exact k _ (by decide +kernel)
      · refine ⟨_, rfl, ite2 (fun z => absurd z (by decide)) (fun _ => ?_)⟩
        exact k _ (by decide +kernel)
    · refine ⟨_, rfl, _, _, _, _, false, rfl, .ty _, .base .non, kit_ty (by decide +kernel), false, rfl, iteF ?_⟩
      refine ⟨_, rfl, _, _, _, _, false, rfl, .ty _, .base .non, kit_ty (by decide +kernel), false, rfl, iteF ?_⟩
      exact k _ (by decide +kernel)
    · refine ⟨_, rfl, _, _, _, _, false, rfl, .ty _, .base (.bl _), kit_ty (by decide +kernel), false, rfl, iteF ?_⟩
      refine ⟨_, rfl, _, _, _, _, true, rfl, .ty _, .base (.bl _), kit_ty (by decide +kernel), true, rfl, iteT ?_⟩
      refine ⟨_, rfl, _, rfl, _, _, rfl, rfl, _, rfl, ?_⟩
      refine ite2 (fun c1 => ?_) (fun c1 => absurd (decide_eq_true (by cases b <;> decide)) c1)
      refine ⟨_, _, rfl, rfl, _, rfl, ?_⟩
      refine ite2 (fun c2 => ?_) (fun c2 => absurd (decide_eq_true (by cases b <;> decide)) c2)
      exact ⟨_, rfl, .inr ⟨b, rfl, k _ (by cases b <;> decide +kernel)⟩⟩

theorem okBadNumber___init__ {f C cda cc : Addr} {oc dV kV doc pm ct : Value} {an od : Option Addr} {osl : Array (Option Value)} (lk : K.lookup f = some ⟨oc, od, .func (PySem.W.fnX "__init__" "BadNumber.__init__" (defArgs sBadNumber___init__) (defBody sBadNumber___init__) (defScope sBadNumber___init__) [("__class__", cc)] dV kV doc pm an (.ref cda) ct), osl⟩) (EC : ErrC P K mg "BadNumber" "BadNumber.__init__" C f cda cc) (T : Txt K mg)
    (C_shown : Cal P w K mg base "_shown" P_shown 1 sp_shown) : FnOk P w K mg base CX0 2 f (PySem.W.fnX "__init__" "BadNumber.__init__" (defArgs sBadNumber___init__) (defBody sBadNumber___init__) (defScope sBadNumber___init__) [("__class__", cc)] dV kV doc pm an (.ref cda) ct) PBadNumber___init__ (spBadNumber C) := by
  obtain ⟨g_shown, gd_shown, G_shown, m_shown, k_shown, b_shown⟩ := C_shown.ex
  refine fn_super (N := NBadNumber___init__) lk EC.sup scBadNumber___init__ rfl rfl rfl rfl (fun vs H Q E h => ?_) (fun A outer s H vs Q E hr h => ?_)
  · obtain ⟨a, z, v, rfl, ha, hz, hv, k⟩ := h
    rfl
  · obtain ⟨a, z, v, rfl, ha, hz, hv, k⟩ := h
    refine ⟨_, _, (pa_cons (pe_joined (.cons pe_str (.cons (pe_fmt (pv 1)) (.cons pe_str (.cons (pe_fmt (pe_call G_shown (hr.mono (by decide)) (by rfl) m_shown k_shown b_shown .nil pass0 (pa_cons (pv 2) pa_nil))) .nil))))) pa_nil), (pss_cons (ps_ost (pv 0) (pv 1)) (pss_one (ps_ost (pv 0) (pv 2)))), ?_⟩
    have h1 : (Str.empty ++ ("bad number for " : Str)).length ≤ 15 := by decide +kernel
    have h2 : (Str.empty ++ ("bad number for " : Str) ++ z).length ≤ 1015 := by rw [PySem.Str.length_append]; omega
    have h3 : (Str.empty ++ ("bad number for " : Str) ++ z ++ (": " : Str)).length ≤ 1017 := by rw [PySem.Str.length_append]; rw [show (": " : Str).length = 2 by decide +kernel]; omega
    refine ⟨a, _, rfl, ha, ?_⟩
    refine ⟨_, rfl, Nat.le_trans h1 (by rw [sizeLine_eq]; decide), ?_⟩
    refine ⟨_, rfl, .inl ⟨z, rfl, Nat.le_trans hz (by rw [sizeLine_eq]; decide), z, rfl, Nat.le_trans h2 (by rw [sizeLine_eq]; decide), ?_⟩⟩
    refine ⟨_, rfl, Nat.le_trans h3 (by rw [sizeLine_eq]; decide), ?_⟩
    refine ⟨_, rfl, v, rfl, hv, fun y hy => .inl ⟨y, rfl, Nat.le_trans hy (by rw [sizeLine_eq]; decide), y, rfl, ?_, ?_⟩⟩
    · rw [PySem.Str.length_append, sizeLine_eq]
      omega
    refine ⟨(by show 1 ≤ 1000; decide), ha, ?_⟩
    refine ⟨_, rfl, _, rfl, a, C, rfl, EC.sup.oex, EC.noWhat, .inl ⟨ha, fun dx nd ne => ?_⟩⟩
    refine ⟨_, rfl, _, rfl, a, C, rfl, EC.sup.oex, EC.noValue, .inr ⟨dx, _, upd_same, (by rw [upd_ne ne]; exact upd_same), (by show 1 ≤ 900; decide), ?_⟩⟩
    exact init_leaves2 ha k nd ne
end
section
variable {P : Program} {w : World} {K : PySem.W.Frag} {mg : Str → Option Value} {base : Heap}

def spBadTurn (C : Addr) : Sp := fun vs H Q _ => ∃ (a t : Addr) (xs : List V), vs = [.ref a, .ref t] ∧ H a = some (exo a C none) ∧ H t = some (.tup xs) ∧ InitLeaves H a C [("turn", .ref t)] Q
def sp1any (f : Str) (C : Addr) : Sp := fun vs H Q _ => ∃ (a : Addr) (v : V), vs = [.ref a, v] ∧ H a = some (exo a C none) ∧ InitLeaves H a C [(f, v)] Q
def sp1show (f : Str) (C : Addr) : Sp := fun vs H Q _ => ∃ (a : Addr) (v : V), vs = [.ref a, v] ∧ H a = some (exo a C none) ∧ ShowOk v ∧ InitLeaves H a C [(f, v)] Q
def sp2show (f1 f2 : Str) (C : Addr) : Sp := fun vs H Q _ => ∃ (a : Addr) (v1 v2 : V), vs = [.ref a, v1, v2] ∧ H a = some (exo a C none) ∧ ShowOk v1 ∧ ShowOk v2 ∧ InitLeaves H a C [(f2, v2), (f1, v1)] Q
abbrev spBadStanding := sp1any "standing"
abbrev spNotSafe := sp1any "standing"
abbrev spTooMany := sp1show "limit"
abbrev spNothingFits := sp1show "day"
abbrev spBadText := sp1show "line"
abbrev spBadDeed := sp1show "place"
abbrev spDriedOut := sp2show "plot" "day"
abbrev spBadPaper := sp2show "row" "reason"

theorem okTooMany___init__ {f C cda cc : Addr} {oc dV kV doc pm ct : Value} {an od : Option Addr} {osl : Array (Option Value)} (lk : K.lookup f = some ⟨oc, od, .func (PySem.W.fnX "__init__" "TooMany.__init__" (defArgs sTooMany___init__) (defBody sTooMany___init__) (defScope sTooMany___init__) [("__class__", cc)] dV kV doc pm an (.ref cda) ct), osl⟩) (EC : ErrC P K mg "TooMany" "TooMany.__init__" C f cda cc) (T : Txt K mg) (nf : PySem.W.findIn K (.ref C) "limit" = some none)
    (C_shown : Cal P w K mg base "_shown" P_shown 1 sp_shown) : FnOk P w K mg base CX0 2 f (PySem.W.fnX "__init__" "TooMany.__init__" (defArgs sTooMany___init__) (defBody sTooMany___init__) (defScope sTooMany___init__) [("__class__", cc)] dV kV doc pm an (.ref cda) ct) PTooMany___init__ (spTooMany C) := by
  obtain ⟨g_shown, gd_shown, G_shown, m_shown, k_shown, b_shown⟩ := C_shown.ex
  refine fn_super (N := NTooMany___init__) lk EC.sup scTooMany___init__ rfl rfl rfl rfl (fun vs H Q E h => ?_) (fun A outer s H vs Q E hr h => ?_)
  · obtain ⟨a, v, rfl, ha, hv, k⟩ := h
    rfl
  · obtain ⟨a, v, rfl, ha, hv, k⟩ := h
    refine ⟨_, _, (pa_cons (pe_joined (.cons pe_str (.cons (pe_fmt (pe_call G_shown (hr.mono (by decide)) (by rfl) m_shown k_shown b_shown .nil pass0 (pa_cons (pv 1) pa_nil))) .nil))) pa_nil), (pss_one (ps_ost (pv 0) (pv 1))), ?_⟩
    refine ⟨a, _, rfl, ha, ?_⟩
    have l0 : (Str.empty).length = 0 := by decide +kernel
    have lc1 : ("more than " : Str).length = 10 := by decide +kernel
    have h1 : (Str.empty ++ ("more than " : Str)).length ≤ 10 := by simp only [PySem.Str.length_append]; omega
    refine ⟨_, rfl, Nat.le_trans h1 (by rw [sizeLine_eq]; decide), ?_⟩
    refine ⟨_, rfl, v, rfl, hv, fun y2 qy2 => .inl ⟨y2, rfl, Nat.le_trans qy2 (by rw [sizeLine_eq]; decide), y2, rfl, ?_, ?_⟩⟩
    · refine Nat.le_trans (m := 20010) ?_ (by rw [sizeLine_eq]; decide)
      show (Str.empty ++ ("more than " : Str) ++ y2).length ≤ 20010
      simp only [PySem.Str.length_append]
      omega
    refine ⟨(by show 1 ≤ 1000; decide), ha, ?_⟩
    refine ⟨_, rfl, _, rfl, a, C, rfl, EC.sup.oex, nf, .inl ⟨ha, fun dx nd ne => ?_⟩⟩
    exact init_leaves1 k nd ne
end
end Wb

set_option pp.maxSteps 500
set_option pp.deepTerms false
namespace Wb
open PySem PySem.Spec PyProof.Rows L2 Wx NdefX RZ StX PyProof.Rows.FinIter
section
variable {P : Program} {w : World} {K : PySem.W.Frag} {mg : Str → Option Value} {base : Heap}

theorem take_snoc {α : Type} : ∀ {l : List α} {i : Nat} {x : α}, l[i]? = some x → l.take (i + 1) = l.take i ++ [x]
  | [], i, x, h => by simp at h
  | a :: l, 0, x, h => by
    have e : a = x := Option.some.inj h
    subst e
    rfl
  | a :: l, i + 1, x, h => by
    have ih := take_snoc (l := l) (i := i) (x := x) h
    show a :: l.take (i + 1) = a :: l.take i ++ [x]
    rw [ih]
    rfl
abbrev codes (z : Str) : List Nat := z.cps.toList
theorem codes_len (z : Str) : (codes z).length = z.length := Array.length_toList
theorem codes_app (x y : Str) : codes (x ++ y) = codes x ++ codes y := by
  show (x ++ y).cps.toList = _
  rw [PySem.Str.cps_append, Array.toList_append]
theorem bigN {n : Nat} (h : n ≤ 1000000) : n ≤ sizeLine := Nat.le_trans h (by rw [sizeLine_eq]; decide)
theorem lt1 {c d : Nat} : ([c] : List Nat) < [d] ↔ c < d := by
  rw [List.cons_lt_cons_iff]
  simp
theorem aS : ("a" : Str).cps.toList = [97] := by decide +kernel
theorem zS : ("z" : Str).cps.toList = [122] := by decide +kernel
def lowB (z : Str) : Bool := (codes z).all fun c => decide (97 ≤ c ∧ c ≤ 122)
def nameB : V → Bool
  | .str z => decide (1 ≤ z.length ∧ z.length ≤ 8) && lowB z
  | _ => false
def numB (v : V) (lo hi : Int) : Bool := match v with | .int i => decide (lo ≤ i ∧ i ≤ hi) | _ => false
/-- a value of one of the kinds that are asked -/
inductive OddV : V → Prop
  | str (z : Str) : z.length ≤ 1000 → (reprText z).length ≤ 20000 → OddV (.str z)
  | int (i : Int) : OddV (.int i)
  | non : OddV .non
  | bl (b : Bool) : OddV (.bl b)
theorem OddV.shows {x : V} (h : OddV x) : ShowOk x := by
  cases h with
  | str z h1 h2 => exact .inl ⟨z, rfl, h2⟩
  | int i => exact .inr (.inl ⟨i, rfl⟩)
  | non => exact .inr (.inr (.inl rfl))
  | bl b => exact .inr (.inr (.inr ⟨b, rfl⟩))
theorem OddV.self {x : V} (h : OddV x) : scal x x = true := by cases h <;> rfl
theorem OddV.text {x : V} (h : OddV x) (z : Str) : scal x (.str z) = true := by cases h <;> rfl
theorem OddV.tyOf {x : V} (h : OddV x) {K : PySem.W.Frag} {H : Hp} : ∃ T, TyOf K H x T ∧ True := by
  cases h with
  | str z h1 h2 => exact ⟨_, .str _, trivial⟩
  | int i => exact ⟨_, .int _, trivial⟩
  | non => exact ⟨_, .non, trivial⟩
  | bl b => exact ⟨_, .bl _, trivial⟩
def spis_name : Sp := fun vs H Q _ => ∃ x, vs = [x] ∧ OddV x ∧ ∀ H', Same H H' → Q (.bl (nameB x)) H'
def spcheck_name (C : Addr) : Sp := fun vs H Q E => ∃ x, vs = [x] ∧ OddV x ∧ (nameB x = true → ∀ H', Same H H' → Q x H') ∧
  (nameB x = false → ∀ (d : Addr) (H' : Hp), H d = none → Same H H' → H' d = some (.xd [("name", x)]) → E (.ref C) (some d) H')
def spcheck_number (C : Addr) : Sp := fun vs H Q E => ∃ (z : Str) (v : V) (lo hi : Int), vs = [.str z, v, .int lo, .int hi] ∧ z.length ≤ 1000 ∧ OddV v ∧ (numB v lo hi = true → Q v H) ∧
  (numB v lo hi = false → ∀ (d : Addr) (H' : Hp), H d = none → Same H H' → H' d = some (.xd [("value", v), ("what", .str z)]) → E (.ref C) (some d) H')
def sp_law_is_integer : Sp := fun vs H Q _ => ∃ i : Int, vs = [.int i] ∧ Q (.bl true) H
theorem look_val {v w : V} : ([("value", v), ("what", w)] : List (Str × V)).lookup ("value" : Str) = some v := by rw [lookup_put, if_pos rfl]
theorem look_what {v w : V} : ([("value", v), ("what", w)] : List (Str × V)).lookup ("what" : Str) = some w := by rw [lookup_put, if_neg (by decide +kernel), lookup_put, if_pos rfl]
theorem look_name {v : V} : ([("name", v)] : List (Str × V)).lookup ("name" : Str) = some v := by rw [lookup_put, if_pos rfl]
theorem ne_self {x : V} : ¬ (!decide (x = x)) = true := by rw [decide_eq_true rfl]; exact Bool.false_ne_true
theorem upd_upd {H : Hp} {a : Addr} {o o1 : HO} : upd (upd H a o) a o1 = upd H a o1 := by
  funext b
  by_cases h : b = a
  · rw [h, upd_same, upd_same]
  · rw [upd_ne h, upd_ne h, upd_ne h]
def TxtOk (n : Nat) (z : Str) : Prop := z.length ≤ n ∧ ∀ c, c ∈ codes z → c < 128
theorem TxtOk.repr {n : Nat} {z : Str} (h : TxtOk n z) (hn : n ≤ 1000) : (reprText z).length ≤ 20000 := by
  have := PySem.StrLaws.reprText_len z (fun c hc => Nat.lt_trans (h.2 c hc) (by decide))
  have := h.1
  omega
theorem TxtOk.mono {m n : Nat} {z : Str} (h : TxtOk m z) (hn : m ≤ n) : TxtOk n z := ⟨Nat.le_trans h.1 hn, h.2⟩
theorem TxtOk.app {m n : Nat} {x y : Str} (h1 : TxtOk m x) (h2 : TxtOk n y) : TxtOk (m + n) (x ++ y) := by
  refine ⟨by rw [PySem.Str.length_append]; have := h1.1; have := h2.1; omega, fun c hc => ?_⟩
  have e : codes (x ++ y) = codes x ++ codes y := by
    show (x ++ y).cps.toList = _
    rw [PySem.Str.cps_append, Array.toList_append]
  rw [e] at hc
  rcases List.mem_append.mp hc with q | q
  · exact h1.2 c q
  · exact h2.2 c q
theorem TxtOk.cut {n : Nat} {z : Str} {lo hi : Option Int} (h : TxtOk n z) : TxtOk n (cutS z lo hi) := by
  have e : codes (cutS z lo hi) = ((codes z).drop (HT.sIx z.length 0 lo)).take (HT.sIx z.length z.length hi - HT.sIx z.length 0 lo) := by
    unfold cutS codes
    simp
  refine ⟨?_, fun c hc => ?_⟩
  · rw [← codes_len, e, List.length_take, List.length_drop, codes_len]
    have := h.1
    omega
  · rw [e] at hc
    exact h.2 c (List.mem_of_mem_drop (List.mem_of_mem_take hc))
theorem TxtOk.one {c : Nat} (h : c < 128) : TxtOk 1 ⟨#[c]⟩ := ⟨Nat.le_refl _, fun d hd => by
  have : d = c := by simpa [codes] using hd
  omega⟩
theorem Str.odd {n : Nat} {z : Str} (h : TxtOk n z) (hn : n ≤ 1000) : OddV (.str z) := .str z (Nat.le_trans h.1 hn) (h.repr hn)
theorem scr_of {K : PySem.W.Frag} {H H' : Hp} {a s p : Addr} (h : Scr K H a s) (n : H p = none) (f : Frm [p, s] H H') (q : St4 H' s) : Scr K H' a s := by
  obtain ⟨⟨ns, h1, h2⟩, _⟩ := h
  refine ⟨⟨ns, Same.seq (fun b o e => ?_) h1, h2⟩, q⟩
  have nb : ¬ b ∈ [s] := fun y => by
    rw [show hid [s] H b = none from if_pos y] at e
    cases e
  rw [hid_eq nb] at e ⊢
  refine f b o (fun y => ?_) e
  rcases List.mem_cons.mp y with z | z
  · rw [z, n] at e
    cases e
  · exact nb z
theorem OddV.dp {x : V} (h : OddV x) (hs : ∀ z, x = .str z → PyData.strOk z = true) : ∃ d, (∀ K H, Dp K H x d) ∧ (∀ t : Str, PyData.strOk t = true → SeqAt.shaped (.tuple [.str t, d]) = true) := by
  cases h with
  | str z h1 h2 => exact ⟨_, fun _ _ => .str z, fun t ht => by simp [SeqAt.shaped, PyData.canLay0, PyData.canLayAll0, PyData.depth, PyData.depthAll, ht, hs z rfl]⟩
  | int i => exact ⟨_, fun _ _ => .int i, fun t ht => by simp [SeqAt.shaped, PyData.canLay0, PyData.canLayAll0, PyData.depth, PyData.depthAll, ht]⟩
  | non => exact ⟨_, fun _ _ => .non, fun t ht => by simp [SeqAt.shaped, PyData.canLay0, PyData.canLayAll0, PyData.depth, PyData.depthAll, ht]⟩
  | bl b => exact ⟨_, fun _ _ => .bl b, fun t ht => by simp [SeqAt.shaped, PyData.canLay0, PyData.canLayAll0, PyData.depth, PyData.depthAll, ht]⟩
theorem TxtOk.strOk {n : Nat} {z : Str} (h : TxtOk n z) : PyData.strOk z = true := by
  unfold PyData.strOk
  rw [Array.all_eq_true_iff_forall_mem]
  intro c hc
  exact decide_eq_true (Nat.lt_trans (h.2 c (by simpa [codes] using hc)) (by decide))
/-- the two told pairs are equal -/
theorem pair_eq {K : PySem.W.Frag} {H : Hp} {q r : Addr} {t : Str} {v : V} (ht : PyData.strOk t = true) (o : OddV v) (hs : ∀ z, v = .str z → PyData.strOk z = true) (h1 : H q = some (.tup [.str t, v])) (h2 : H r = some (.tup [.str t, v])) :
    ∃ d e, Dp K H (.ref q) d ∧ Dp K H (.ref r) e ∧ SeqAt.shaped d = true ∧ SeqAt.shaped e = true ∧ PyData.eqv d e = true := by
  obtain ⟨d, hd, sd⟩ := o.dp hs
  exact ⟨_, _, .tup (.inl (.inl h1)) (.cons (.str t) (.cons (hd K H) .nil)), .tup (.inl (.inl h2)) (.cons (.str t) (.cons (hd K H) .nil)), sd t ht, sd t ht, PySem.SeqAt.eqv_refl _ (PySem.SeqAt.canLay_of_shaped (sd t ht))⟩

/-- what is asked of a class with __init__ and __eq__ -/
structure DatC (K : PySem.W.Frag) (mg : Str → Option Value) (x : Str) (C fi fe : Addr) (fs : List Str) : Prop where
  g : mg x = some (.ref C)
  mkk : Mk K C fi
  cls : Cls K C
  no : ∀ f, f ∈ fs → NoAttr K C f
  eq : PySem.W.findIn K (.ref C) "__eq__" = some (some (.ref fe))
  fe : PySem.W.isFn K (.ref fe) = true
  ne : PySem.W.findIn K (.ref C) "__ne__" = some (some (.builtin "object.__ne__"))
  ob : PySem.W.subIn K (.ref C) (.type "object") = some true
  ha : PySem.W.findIn K (.ref C) "__class__" = some (some (.builtin "object.__class__"))
  hn : PySem.W.specialIn K (.builtin "object.__class__") "__get__" = some (some (.builtin "getset_descriptor.__get__"))
  htk : PySem.W.takesIn K (.builtin "object.__class__") = some true
  hm : PySem.W.mroIn K C (.type "object") = some true
  kit : PySem.W.kitOne K (.ref C) (.ref C) = some true
def splaw (K : PySem.W.Frag) : Sp := fun vs H Q _ => ∃ (a : Addr) (ns : List Int), vs = [.ref a] ∧ SqL K H a (ns.map V.int) ∧ ns.length ≤ 63 ∧ ∀ H', Q (.bl true) H'

theorem okcheck_number {f : Addr} {fd : FuncData} (F : Fun K "check_number" "check_number" scheck_number f fd) (T : Txt K mg) {C_BadNumber f_BadNumber cda_BadNumber cc_BadNumber : Addr} {fd_BadNumber : FuncData} (E_BadNumber : ErrC P K mg "BadNumber" "BadNumber.__init__" C_BadNumber f_BadNumber cda_BadNumber cc_BadNumber) (G_BadNumber : FnOk P w K mg base CX0 2 f_BadNumber fd_BadNumber PBadNumber___init__ (spBadNumber C_BadNumber)) (b_BadNumber : Binds K fd_BadNumber PBadNumber___init__ []) : FnOk P w K mg base (L2.CX P w) 4 f fd Pcheck_number (spcheck_number C_BadNumber) := by
  refine F.okX sccheck_number (fun vs H Q E h => ?_) (fun cdv A outer s H vs Q E hr h => ?_)
  · obtain ⟨z, v, lo, hi, rfl, hz, hv, kT, kE⟩ := h
    rfl
  · obtain ⟨z, v, lo, hi, rfl, hz, hv, kT, kE⟩ := h
    refine ⟨_, (pss_cons (ps_if (PW.pt (pw_or (pt_val (pe_callB (id := "isinstance") call_isi (by rfl) T.b_isinstance (by decide +kernel) (pa_cons (pv 1) (pa_cons (pe_bltn (v := .ty "bool") (by rfl) T.b_bool (by decide +kernel) rfl) pa_nil)))) (pw_or1 (pt_not (pt_val (pe_callB (id := "isinstance") call_isi (by rfl) T.b_isinstance (by decide +kernel) (pa_cons (pv 1) (pa_cons (pe_bltn (v := .ty "int") (by rfl) T.b_int (by decide +kernel) rfl) pa_nil))))))))
  (pss_one (ps_raise rfl (takes_of rfl rfl rfl rfl) (pmk_oex E_BadNumber.sup.oex E_BadNumber.ini E_BadNumber.tyI G_BadNumber (hr.mono (by decide)) b_BadNumber .nil pass0 (by rfl) E_BadNumber.g (pa_cons (pv 0) (pa_cons (pv 1) pa_nil)))))
  pss_nil)
  (pss_cons (ps_if (PW.pt (pw_or (pt_cmpR op_lt (pv 1) (pv 2) (nomark _)) (pw_or1 (pt_cmpR op_gt (pv 1) (pv 3) (nomark _)))))
  (pss_one (ps_raise rfl (takes_of rfl rfl rfl rfl) (pmk_oex E_BadNumber.sup.oex E_BadNumber.ini E_BadNumber.tyI G_BadNumber (hr.mono (by decide)) b_BadNumber .nil pass0 (by rfl) E_BadNumber.g (pa_cons (pv 0) (pa_cons (pv 1) pa_nil)))))
  pss_nil)
  (pss_one (ps_ret (pv 1))))), ?_⟩
    have hv0 := hv
    cases hv with
    | int i =>
      refine ⟨_, rfl, _, _, _, _, false, rfl, .ty _, .base (.int _), kit_ty (by decide +kernel), false, rfl, iteF ?_⟩
      refine ⟨_, rfl, _, _, _, _, true, rfl, .ty _, .base (.int _), kit_ty (by decide +kernel), true, rfl, iteF ?_⟩
      refine ⟨_, rfl, _, rfl, _, _, rfl, rfl, _, rfl, ?_⟩
      refine ite2 (fun c1 => ?_) (fun c1 => ?_)
      · have c1 := of_decide_eq_true c1
        exact ⟨_, rfl, _, rfl, (by show 2 ≤ 1000; decide), fun a na => ⟨a, z, _, rfl, upd_same, hz, hv0.shows, made_of na fun d H' nd s' hd => kE (decide_eq_false (by omega)) d H' nd s' hd⟩⟩
      · have c1 : ¬ i < lo := fun q => c1 (decide_eq_true q)
        refine ⟨_, rfl, _, rfl, _, _, rfl, rfl, _, rfl, ?_⟩
        refine ite2 (fun c2 => ?_) (fun c2 => ?_)
        · have c2 := of_decide_eq_true c2
          exact ⟨_, rfl, _, rfl, (by show 2 ≤ 1000; decide), fun a na => ⟨a, z, _, rfl, upd_same, hz, hv0.shows, made_of na fun d H' nd s' hd => kE (decide_eq_false (by omega)) d H' nd s' hd⟩⟩
        · have c2 : ¬ hi < i := fun q => c2 (decide_eq_true q)
          exact ⟨_, rfl, kT (decide_eq_true (by omega))⟩
    | non =>
      refine ⟨_, rfl, _, _, _, _, false, rfl, .ty _, .base .non, kit_ty (by decide +kernel), false, rfl, iteF ?_⟩
      refine ⟨_, rfl, _, _, _, _, false, rfl, .ty _, .base .non, kit_ty (by decide +kernel), false, rfl, iteT ?_⟩
      exact ⟨_, rfl, _, rfl, (by show 2 ≤ 1000; decide), fun a na => ⟨a, z, _, rfl, upd_same, hz, hv0.shows, made_of na fun d H' nd s' hd => kE rfl d H' nd s' hd⟩⟩
    | bl b =>
      refine ⟨_, rfl, _, _, _, _, true, rfl, .ty _, .base (.bl _), kit_ty (by decide +kernel), true, rfl, iteT ?_⟩
      exact ⟨_, rfl, _, rfl, (by show 2 ≤ 1000; decide), fun a na => ⟨a, z, _, rfl, upd_same, hz, hv0.shows, made_of na fun d H' nd s' hd => kE rfl d H' nd s' hd⟩⟩
    | str y h1 h2 =>
      refine ⟨_, rfl, _, _, _, _, false, rfl, .ty _, .base (.str _), kit_ty (by decide +kernel), false, rfl, iteF ?_⟩
      refine ⟨_, rfl, _, _, _, _, false, rfl, .ty _, .base (.str _), kit_ty (by decide +kernel), false, rfl, iteT ?_⟩
      exact ⟨_, rfl, _, rfl, (by show 2 ≤ 1000; decide), fun a na => ⟨a, z, _, rfl, upd_same, hz, hv0.shows, made_of na fun d H' nd s' hd => kE rfl d H' nd s' hd⟩⟩

def optD : Option (List Int) → PyData
  | none => .none
  | some l => .list (l.map .int)
abbrev Node := List (Option (List Int))
def nodeD (n : Node) : PyData := .list (n.map optD)
def gameD (g : List Node) : PyData := .list (g.map nodeD)
def OptOk (many : Int) (o : Option (List Int)) : Prop := ∀ l, o = some l → l.length ≤ 3 ∧ ∀ t, t ∈ l → 0 ≤ t ∧ t < many
def NodeOk (many : Int) (n : Node) : Prop := n.length ≤ 20 ∧ ∀ o, o ∈ n → OptOk many o
def GOk (many : Int) (g : List Node) : Prop := ∀ n, n ∈ g → NodeOk many n
def GOk3 (many : Int) (g : List Node) : Prop := ∀ n, n ∈ g → n.length ≤ 3 ∧ ∀ o, o ∈ n → OptOk many o
theorem GOk3.ok {m : Int} {g : List Node} (h : GOk3 m g) : GOk m g := fun n hn => ⟨by have := (h n hn).1; omega, (h n hn).2⟩
theorem hid_to {xs ys : List Addr} {H H' : Hp} (f : Frm xs H H') (h : ∀ b, b ∈ ys → b ∈ xs) : Same (hid xs H) (hid ys H') := (hid_frm f).trans (hid_mono h)
theorem Scr.put {K : PySem.W.Frag} {H1 H4 : Hp} {a s o : Addr} {x : HO} (h : Scr K H1 a s) (n : H1 o = none) (f : Frm [o, s] H1 (upd H4 o x)) (q : Scr K H4 a s) : Scr K (upd H4 o x) a s := by
  obtain ⟨i, j, k, l, e⟩ := q.2
  refine h.frm (Frm.drop n (Frm.refl _ _) f) ⟨i, j, k, l, ?_⟩
  rw [upd_ne (fun z => h.ne n z.symm)]
  exact e
theorem pick4 (z r : Int) (r0 : 0 ≤ r) (r1 : r < 4) (z0 : 0 ≤ z) (z1 : z < 4) : ∃ y : Int, atI [V.int 1, V.int 1, V.int 2, V.int z] r = some (.int y) ∧ 0 ≤ y ∧ y ≤ 3 := by
  have : r = 0 ∨ r = 1 ∨ r = 2 ∨ r = 3 := by omega
  rcases this with rfl | rfl | rfl | rfl
  · exact ⟨1, rfl, by decide, by decide⟩
  · exact ⟨1, rfl, by decide, by decide⟩
  · exact ⟨2, rfl, by decide, by decide⟩
  · exact ⟨z, rfl, z0, by omega⟩
def sp_law_target (K : PySem.W.Frag) : Sp := fun vs H Q _ => ∃ (a s : Addr) (n : Int), vs = [.ref a, .ref s, .int n] ∧ Scr K H a s ∧ 0 < n ∧ n < 1152921504606846976 ∧ ∀ (r : Int) (H' : Hp), 0 ≤ r → r < n → Frm [s] H H' → Scr K H' a s → Q (.int r) H'
def sp_law_game (K : PySem.W.Frag) : Sp := fun vs H Q _ => ∃ (a s : Addr) (m : Int), vs = [.ref a, .ref s, .int m] ∧ Scr K H a s ∧ 0 ≤ m ∧ m ≤ 59 ∧
  ∀ (g : Addr) (G : List Node) (H' : Hp), Frm [s] H H' → Scr K H' a s → H g = none → (G.length : Int) = m → GOk3 m G → Dp K (hid [s] H') (.ref g) (gameD G) → Q (.ref g) H'

theorem ok_law_target {f : Addr} {fd : FuncData} (F : Fun K "_law_target" "_law_target" s_law_target f fd) (T : Txt K mg) (C_law_draw : Cal P w K mg base "_law_draw" P_law_draw 1 (sp_law_draw K)) : FnOk P w K mg base CX0 2 f fd P_law_target (sp_law_target K) := by
  obtain ⟨g_law_draw, gd_law_draw, G_law_draw, m_law_draw, k_law_draw, b_law_draw⟩ := C_law_draw.ex
  refine F.ok sc_law_target (fun vs H Q E h => ?_) (fun cdv A outer s H vs Q E hr h => ?_)
  · obtain ⟨a, s0, n, rfl, hScr, n0, n1, k⟩ := h
    rfl
  · obtain ⟨a, s0, n, rfl, hScr, n0, n1, k⟩ := h
    refine ⟨_, (pss_cons (ps_if (pt_cmpR op_eq (pe_call G_law_draw (hr.mono (by decide)) (by rfl) m_law_draw k_law_draw b_law_draw .nil pass0 (pa_cons (pv 0) (pa_cons (pv 1) (pa_cons pe_int pa_nil)))) pe_int (nomark _))
  (pss_one (ps_ret (pe_call G_law_draw (hr.mono (by decide)) (by rfl) m_law_draw k_law_draw b_law_draw .nil pass0 (pa_cons (pv 0) (pa_cons (pv 1) (pa_cons (pv 2) pa_nil))))))
  pss_nil)
  (pss_one (ps_ret (pe_callTy (T := "int") call_int1 (by rfl) T.b_int (by decide +kernel) (pa_cons (pe_op op_sub (pe_op op_sub (pv 2) pe_int) (pe_call G_law_draw (hr.mono (by decide)) (by rfl) m_law_draw k_law_draw b_law_draw .nil pass0 (pa_cons (pv 0) (pa_cons (pv 1) (pa_cons (pe_callB (id := "min") (call_min2 rfl) (by rfl) T.b_min (by decide +kernel) (pa_cons (pv 2) (pa_cons pe_int pa_nil))) pa_nil))))) pa_nil))))), ?_⟩
    refine ⟨_, rfl, _, rfl, a, s0, 3, rfl, hScr, by decide, by decide, fun r H1 r0 r1 f1 sc1 => ⟨rfl, _, rfl, ite2 (fun c => ?_) (fun c => ?_)⟩⟩
    · exact ⟨_, rfl, _, rfl, _, rfl, a, s0, n, rfl, sc1, n0, n1, fun r' H2 p0 p1 f2 sc2 => k _ _ p0 p1 (f1.trans f2) sc2⟩
    · have h4 : (if (4 : Int) < n then (4 : Int) else n) ≤ n ∧ 0 < (if (4 : Int) < n then (4 : Int) else n) := by split <;> omega
      refine ⟨_, rfl, _, _, rfl, rfl, _, rfl, _, rfl, _, rfl, _, _, rfl, a, s0, _, rfl, sc1, h4.2, by omega, fun r' H2 p0 p1 f2 sc2 => ?_⟩
      exact ⟨_, _, rfl, rfl, .inl ⟨_, rfl, k _ _ (by omega) (by omega) (f1.trans f2) sc2⟩⟩

theorem ok_law_game {f : Addr} {fd : FuncData} (F : Fun K "_law_game" "_law_game" s_law_game f fd) (T : Txt K mg) (C_law_draw : Cal P w K mg base "_law_draw" P_law_draw 1 (sp_law_draw K)) (C_law_target : Cal P w K mg base "_law_target" P_law_target 2 (sp_law_target K)) : FnOk P w K mg base CX0 3 f fd P_law_game (sp_law_game K) := by
  obtain ⟨g_law_draw, gd_law_draw, G_law_draw, m_law_draw, k_law_draw, b_law_draw⟩ := C_law_draw.ex
  obtain ⟨g_law_target, gd_law_target, G_law_target, m_law_target, k_law_target, b_law_target⟩ := C_law_target.ex
  refine F.ok sc_law_game (fun vs H Q E h => ?_) (fun cdv A outer s H vs Q E hr h => ?_)
  · obtain ⟨a, s0, m, rfl, hScr, m0, m1, k⟩ := h
    rfl
  · obtain ⟨a, s0, m, rfl, hScr, m0, m1, k⟩ := h
    refine ⟨_, (pss_cons (ps_set (i := 3) sc_law_game.nd rfl (by first | exact Or.inl rfl | exact Or.inr rfl) (pe_lst pa_nil))
  (pss_cons (ps_for PassesOwn.never rfl (pi_range1 rfl T.b_range (pa_cons (pv 2) pa_nil)) (pg_name (i := 4) sc_law_game.nd rfl (by first | exact Or.inl rfl | exact Or.inr rfl))
  (pss_cons (ps_set (i := 5) sc_law_game.nd rfl (by first | exact Or.inl rfl | exact Or.inr rfl) (pe_lst pa_nil))
  (pss_cons (ps_for PassesOwn.never rfl (pi_range1 rfl T.b_range (pa_cons (pe_call G_law_draw (hr.mono (by decide)) (by rfl) m_law_draw k_law_draw b_law_draw .nil pass0 (pa_cons (pv 0) (pa_cons (pv 1) (pa_cons pe_int pa_nil)))) pa_nil)) (pg_name (i := 6) sc_law_game.nd rfl (by first | exact Or.inl rfl | exact Or.inr rfl))
  (pss_one (ps_if (pt_cmpR op_eq (pe_call G_law_draw (hr.mono (by decide)) (by rfl) m_law_draw k_law_draw b_law_draw .nil pass0 (pa_cons (pv 0) (pa_cons (pv 1) (pa_cons pe_int pa_nil)))) pe_int (nomark _))
  (pss_one (ps_expr (pe_bm PySem.F.plainAttrs_list PySem.F.slot_list_append PySem.F.type_list_append mt_append (pv 5) (pa_cons pe_non pa_nil))))
  (pss_cons (ps_set (i := 7) sc_law_game.nd rfl (by first | exact Or.inl rfl | exact Or.inr rfl) (pe_ix ix_list (pe_lst (pa_cons pe_int (pa_cons pe_int (pa_cons pe_int (pa_cons (pe_call G_law_draw (hr.mono (by decide)) (by rfl) m_law_draw k_law_draw b_law_draw .nil pass0 (pa_cons (pv 0) (pa_cons (pv 1) (pa_cons pe_int pa_nil)))) pa_nil))))) (pe_call G_law_draw (hr.mono (by decide)) (by rfl) m_law_draw k_law_draw b_law_draw .nil pass0 (pa_cons (pv 0) (pa_cons (pv 1) (pa_cons pe_int pa_nil)))) (fun _ _ => rfl)))
  (pss_one (ps_expr (pe_bm PySem.F.plainAttrs_list PySem.F.slot_list_append PySem.F.type_list_append mt_append (pv 5) (pa_cons (pe_lc (own := [("j", 8)]) rfl sc_law_game.nd (pi_range1 rfl T.b_range (pa_cons (pv 7) pa_nil)) (blkOk_by (own := [("j", 8)]) (N := N_law_game) (sc := defScope s_law_game) (by decide +kernel)) (fun _ _ _ _ _ => (pg_name (i := 8) sc_law_game.nd rfl (by first | exact Or.inl rfl | exact Or.inr rfl))) (fun _ _ _ _ _ => pts_nil) (fun _ _ _ _ _ => (pe_call G_law_target (hr.mono (by decide)) (by rfl) m_law_target k_law_target b_law_target .nil pass0 (pa_cons (pv 0) (pa_cons (pv 1) (pa_cons (pv 2) pa_nil)))))) pa_nil))))))))
  (pss_one (ps_expr (pe_bm PySem.F.plainAttrs_list PySem.F.slot_list_append PySem.F.type_list_append mt_append (pv 3) (pa_cons (pv 5) pa_nil)))))))
  (pss_one (ps_ret (pv 3))))), ?_⟩
    refine ⟨Nat.zero_le _, fun g hg => ?_⟩
    have ngs : ¬ g = s0 := hScr.ne hg
    refine ⟨_, rfl, _, rfl, (by omega), (by omega), ?_⟩
    refine for_it walk_range (fun i σ H1 => ∃ (vs : List V) (G : List Node) (w4 w5 w6 w7 w8 : Option V), σ = [some (.ref a), some (.ref s0), some (.int m), some (.ref g), w4, w5, w6, w7, w8] ∧ H1 g = some (.lst vs) ∧
        DpAll K (hid [s0, g] H1) vs (G.map nodeD) ∧ G.length = i ∧ GOk3 m G ∧ Frm [s0] H H1 ∧ Scr K H1 a s0)
      ⟨[], [], _, _, _, _, _, rfl, upd_same, .nil, rfl, (by intro n h; cases h), Frm.new hg, hScr.same (Same.new hg)⟩ (fun _ _ _ _ _ => trivial) ?_ ?_
    · rintro i x σ H1o H1 hi ⟨vs, G, w4, w5, w6, w7, w8, rfl, hH, hD, hG, hok, hf, hs⟩ ⟨rfl, rfl⟩
      have mpos : 0 < m := by omega
      refine ⟨Nat.zero_le _, fun o ho => ?_⟩
      have nos : ¬ o = s0 := hs.ne ho
      have nog : ¬ g = o := ne_of_none hH ho
      have hlv : vs.length = i := by rw [dpAll_len hD, List.length_map, hG]
      refine ⟨_, rfl, _, rfl, a, s0, 4, rfl, hs.same (Same.new ho), by decide, by decide, fun d H2 d0 d1 f2 sc2 => ?_⟩
      refine ⟨_, rfl, (by omega), (by omega), ?_⟩
      refine for_it walk_range (fun j σ H3 => ∃ (ws : List V) (nd : Node) (w4 w6 w7 w8 : Option V), σ = [some (.ref a), some (.ref s0), some (.int m), some (.ref g), w4, some (.ref o), w6, w7, w8] ∧ H3 o = some (.lst ws) ∧
          DpAll K (hid [o, s0, g] H3) ws (nd.map optD) ∧ nd.length = j ∧ (∀ x, x ∈ nd → OptOk m x) ∧ Frm [o, s0] H1 H3 ∧ Scr K H3 a s0)
        ⟨[], [], _, _, _, _, rfl, f2 _ _ (by simpa using nos) upd_same, .nil, rfl, (by intro n h; cases h), (Frm.new ho).trans (f2.mono (ys := [o, s0]) (by simp)), sc2⟩ (fun _ _ _ _ _ => trivial) ?_ ?_
      · rintro j x σ H3o H3 hj ⟨ws, nd, u4, u6, u7, u8, rfl, hO, hW, hn, hk, hf3, hs3⟩ ⟨rfl, rfl⟩
        have hlw : ws.length = j := by rw [dpAll_len hW, List.length_map, hn]
        refine ⟨_, rfl, _, rfl, a, s0, 4, rfl, hs3, by decide, by decide, fun r H4 r0 r1 f4 sc4 => ⟨rfl, _, rfl, ite2 (fun c => ?_) (fun c => ?_)⟩⟩
        · have hO4 := f4 _ _ (by simpa using nos) hO
          have fr : Frm [o, s0] H1 (upd H4 o (.lst (ws ++ [V.non]))) := (hf3.trans (f4.mono (ys := [o, s0]) (by simp))).put' (by simp)
          have fr3 : Frm [o, s0, g] H3 (upd H4 o (.lst (ws ++ [V.non]))) := (f4.mono (ys := [o, s0, g]) (by simp)).put' (by simp)
          refine ⟨_, rfl, .inl ⟨rfl, _, SqL.of hO4⟩, o, _, _, rfl, rfl, hO4, small1000 (by omega), ?_⟩
          refine ⟨_, nd ++ [none], _, _, _, _, rfl, upd_same, ?_, by rw [List.length_append, hn]; rfl, ?_, fr, hs.put ho fr sc4⟩
          · rw [List.map_append]
            exact dpAll_snoc (dpAll_same (hid_frm fr3) hW) .non
          · intro x hx
            rcases List.mem_append.mp hx with q | q
            · exact hk x q
            · rw [List.mem_singleton.mp q]
              intro l e
              cases e
        · refine ⟨_, rfl, _, rfl, a, s0, 4, rfl, sc4, by decide, by decide, fun z H5 z0 z1 f5 sc5 => ⟨(by show 4 ≤ sizeLine; decide), fun l hl => ?_⟩⟩
          have nls : ¬ l = s0 := sc5.ne hl
          refine ⟨_, rfl, _, rfl, a, s0, 4, rfl, sc5.same (Same.new hl), by decide, by decide, fun r' H6 p0 p1 f6 sc6 => ?_⟩
          obtain ⟨y, hy, y0, y1⟩ := pick4 z r' p0 p1 z0 z1
          refine ⟨l, _, _, _, rfl, rfl, SqL.of (f6 _ _ (by simpa using nls) upd_same), hy, ?_⟩
          have f36 : Frm [s0] H3 H6 := ((f4.trans f5).trans (Frm.new hl)).trans f6
          have hO6 := f36 _ _ (by simpa using nos) hO
          refine ⟨_, rfl, .inl ⟨rfl, _, SqL.of hO6⟩, _, rfl, _, rfl, (by omega), (by omega), fun D hD0 => ?_⟩
          have nDs : ¬ D = s0 := sc6.ne hD0
          refine lc_it walk_range (fun t H7 => ∃ ts : List Int, H7 D = some (.lst (ts.map V.int)) ∧ ts.length = t ∧ (∀ x, x ∈ ts → 0 ≤ x ∧ x < m) ∧ Frm [D, s0] H6 H7 ∧ Scr K H7 a s0)
            ⟨[], upd_same, rfl, by simp, Frm.new hD0, sc6.same (Same.new hD0)⟩ (fun _ _ _ _ => trivial) ?_ ?_
          · rintro t x H7o H7 ht ⟨ts, e7, l7, b7, f7, s7⟩ ⟨rfl, rfl⟩
            refine ⟨rfl, ?_⟩
            refine ⟨_, rfl, _, rfl, _, rfl, a, s0, m, rfl, s7, mpos, by omega, fun x H8 x0 x1 f8 sc8 => ?_⟩
            have e8 := f8 _ _ (by simpa using nDs) e7
            have fr : Frm [D, s0] H6 (upd H8 D (.lst (ts.map V.int ++ [V.int x]))) := (f7.trans (f8.mono (ys := [D, s0]) (by simp))).put' (by simp)
            refine ⟨_, e8, small1000 (by simp; omega), ts ++ [x], by rw [List.map_append]; exact upd_same, by simp [l7], ?_, fr, sc6.put hD0 fr sc8⟩
            intro q hq
            rcases List.mem_append.mp hq with q1 | q1
            · exact b7 q q1
            · rw [List.mem_singleton.mp q1]
              exact ⟨x0, x1⟩
          · rintro H7 ⟨ts, e7, l7, b7, f7, s7⟩
            have f67 : Frm [s0] H6 H7 := Frm.drop hD0 (Frm.refl _ _) f7
            have f37 := f36.trans f67
            have hO7 := f67 _ _ (by simpa using nos) hO6
            have fr : Frm [o, s0] H1 (upd H7 o (.lst (ws ++ [V.ref D]))) := (hf3.trans (f37.mono (ys := [o, s0]) (by simp))).put' (by simp)
            have fr3 : Frm [o, s0, g] H3 (upd H7 o (.lst (ws ++ [V.ref D]))) := (f37.mono (ys := [o, s0, g]) (by simp)).put' (by simp)
            have nDo : ¬ D = o := fun e => by rw [e, hO6] at hD0; cases hD0
            have nDg : ¬ D = g := fun e => by
              have q := (f36 _ _ (by simpa using ngs) (hf3 _ _ (by simp [nog, ngs]) hH))
              rw [e, q] at hD0
              cases hD0
            refine ⟨o, _, _, rfl, rfl, hO7, small1000 (by omega), ?_⟩
            refine ⟨_, nd ++ [some ts], _, _, _, _, rfl, upd_same, ?_, by rw [List.length_append, hn]; rfl, ?_, fr, hs.put ho fr s7⟩
            · rw [List.map_append]
              refine dpAll_snoc (dpAll_same (hid_frm fr3) hW) (.lst (SqL.of ?_) (dpAll_ints ts))
              rw [hid_eq (by simp [nDo, nDs, nDg]), upd_ne nDo]
              exact e7
            · intro x hx
              rcases List.mem_append.mp hx with q | q
              · exact hk x q
              · rw [List.mem_singleton.mp q]
                intro l e
                cases e
                exact ⟨by omega, b7⟩
      · rintro σ H3 ⟨ws, nd, u4, u6, u7, u8, rfl, hO, hW, hn, hk, hf3, hs3⟩
        have hg3 := hf3 _ _ (by simp [nog, ngs]) hH
        have f13 : Frm [s0] H1 H3 := Frm.drop ho (Frm.refl _ _) hf3
        refine ⟨_, rfl, .inl ⟨rfl, _, SqL.of hg3⟩, _, rfl, g, _, _, rfl, rfl, hg3, small1000 (by omega), ?_⟩
        have fr : Frm [g, s0] H (upd H3 g (.lst (vs ++ [V.ref o]))) := ((hf.trans f13).mono (ys := [g, s0]) (by simp)).put' (by simp)
        refine ⟨_, G ++ [nd], _, _, _, _, _, rfl, upd_same, ?_, by rw [List.length_append, hG]; rfl, ?_, Frm.drop hg (Frm.refl _ _) fr, hScr.put hg fr hs3⟩
        · rw [List.map_append]
          refine dpAll_snoc (dpAll_same (hid_frm ((f13.mono (ys := [s0, g]) (by simp)).put' (by simp))) hD) (.lst (SqL.of ?_) (dpAll_same (hid_to (xs := [o, s0, g]) (Frm.put (by simp)) (by simp)) hW))
          rw [hid_eq (by simp [nos, Ne.symm nog]), upd_ne (Ne.symm nog)]
          exact hO
        · intro x hx
          rcases List.mem_append.mp hx with q | q
          · exact hok x q
          · rw [List.mem_singleton.mp q]
            exact ⟨by omega, hk⟩
    · rintro σ H1 ⟨vs, G, w4, w5, w6, w7, w8, rfl, hH, hD, hG, hok, hf, hs⟩
      refine ⟨_, rfl, k g G H1 hf hs hg (by omega) hok (.lst (SqL.of ?_) (dpAll_same (hid_mono (by simp)) hD))⟩
      rw [hid_eq (by simpa using ngs)]
      exact hH
end
end Wb

set_option pp.maxSteps 500
set_option pp.deepTerms false
namespace Wb
open PySem PySem.Spec PyProof.Rows L2 Wx NdefX RZ StX PyProof.Rows.FinIter
section
variable {P : Program} {w : World} {K : PySem.W.Frag} {mg : Str → Option Value} {base : Heap}

theorem drop_cons {α : Type} : ∀ {l : List α} {i : Nat} {x : α}, l[i]? = some x → l.drop i = x :: l.drop (i + 1)
  | [], i, x, h => by simp at h
  | a :: l, 0, x, h => by
    have e : a = x := Option.some.inj h
    subst e
    rfl
  | a :: l, i + 1, x, h => by
    show l.drop i = x :: l.drop (i + 1)
    exact drop_cons (l := l) (i := i) h
theorem map_at {α β : Type} {f : α → β} {l : List α} {i : Nat} {y : β} (h : (l.map f)[i]? = some y) : ∃ x, l[i]? = some x ∧ y = f x := by
  rw [List.getElem?_map] at h
  cases e : l[i]? with
  | none => rw [e] at h; cases h
  | some x => rw [e] at h; exact ⟨x, rfl, (Option.some.inj h).symm⟩
theorem dp_ref {K : PySem.W.Frag} {H : Hp} {v : V} {ds : List PyData} (h : Dp K H v (.list ds)) : ∃ p xs, v = .ref p ∧ SqL K H p xs ∧ DpAll K H xs ds := by
  cases h with
  | lst a b => exact ⟨_, _, rfl, a, b⟩
theorem dp_list {K : PySem.W.Frag} {H : Hp} {p : Addr} {ds : List PyData} (h : Dp K H (.ref p) (.list ds)) : ∃ xs, SqL K H p xs ∧ DpAll K H xs ds := by
  cases h with
  | lst a b => exact ⟨_, a, b⟩
theorem opt_v {K : PySem.W.Frag} {H : Hp} {v : V} {o : Option (List Int)} (h : Dp K H v (optD o)) : (o = none ∧ v = .non) ∨ ∃ l p, o = some l ∧ v = .ref p ∧ SqL K H p (l.map V.int) := by
  cases o with
  | none =>
    cases h
    exact .inl ⟨rfl, rfl⟩
  | some l =>
    obtain ⟨p, xs, rfl, a, b⟩ := dp_ref h
    rw [dpAll_ints_eq b] at a
    exact .inr ⟨l, p, rfl, rfl, a⟩
def atR (R : List Int) (t : Int) : Int := R.getD t.toNat 0
theorem at_int {R : List Int} {t : Int} (h0 : 0 ≤ t) (h1 : t < R.length) : atI (R.map V.int) t = some (.int (atR R t)) := by
  obtain ⟨j, rfl⟩ : ∃ j : Nat, t = (j : Int) := ⟨t.toNat, by omega⟩
  have hj : j < R.length := by omega
  exact atI_nat (by simp [atR, hj])
def fateL (R : List Int) (l : List Int) : Int := l.foldl (fun least t => if 0 < atR R t ∧ (least = 0 ∨ atR R t + 1 < least) then atR R t + 1 else least) 0
def fate (R : List Int) : Option (List Int) → Int
  | none => 1
  | some l => fateL R l
theorem fateL_snoc (R l : List Int) (t : Int) : fateL R (l ++ [t]) = if 0 < atR R t ∧ (fateL R l = 0 ∨ atR R t + 1 < fateL R l) then atR R t + 1 else fateL R l := by
  unfold fateL
  rw [List.foldl_append]
  rfl
def dueFrom (R : List Int) : Int → Node → Int
  | worst, [] => worst
  | worst, o :: r => if fate R o = 0 then 0 else dueFrom R (if fate R o > worst then fate R o else worst) r
def due (R : List Int) (n : Node) : Int := dueFrom R 1 n
/-- the ranks of a game: the equations that have one answer -/
structure IsR (G : List Node) (R : List Int) : Prop where
  len : R.length = G.length
  pos : ∀ r, r ∈ R → 0 ≤ r
  eq : ∀ (i : Nat) (nd : Node), G[i]? = some nd → R[i]? = some (due R nd)

/-- a node's list and its options' lists, by their places -/
abbrev TN := Addr × List (Option (Addr × List Int))
def ov : Option (Addr × List Int) → V
  | none => .non
  | some (q, _) => .ref q
def eraO (o : Option (Addr × List Int)) : Option (List Int) := o.map (·.2)
def era (T : List TN) : List Node := T.map fun n => n.2.map eraO
structure Tree (H : Hp) (c : Addr) (T : List TN) : Prop where
  top : H c = some (.lst (T.map fun n => V.ref n.1))
  nd : ∀ (i : Nat) (p : Addr) (os : List (Option (Addr × List Int))), T[i]? = some (p, os) → H p = some (.lst (os.map ov)) ∧ p ≠ c
  op : ∀ (i : Nat) (p : Addr) (os : List (Option (Addr × List Int))) (j : Nat) (q : Addr) (l : List Int), T[i]? = some (p, os) → os[j]? = some (some (q, l)) → H q = some (.lst (l.map V.int)) ∧ q ≠ c
  pp : ∀ (i i' : Nat) (p : Addr) (os os' : List (Option (Addr × List Int))), T[i]? = some (p, os) → T[i']? = some (p, os') → i = i'
  qq : ∀ (i : Nat) (p : Addr) (os : List (Option (Addr × List Int))) (j : Nat) (q : Addr) (l : List Int) (i' : Nat) (p' : Addr) (os' : List (Option (Addr × List Int))) (j' : Nat) (l' : List Int), T[i]? = some (p, os) → os[j]? = some (some (q, l)) → T[i']? = some (p', os') → os'[j']? = some (some (q, l')) → i = i' ∧ j = j'
  pq : ∀ (i : Nat) (p : Addr) (os : List (Option (Addr × List Int))) (i' : Nat) (p' : Addr) (os' : List (Option (Addr × List Int))) (j' : Nat) (l' : List Int), T[i]? = some (p, os) → T[i']? = some (p', os') → os'[j']? = some (some (p, l')) → False
/-- the places of a tree -/
def InT (T : List TN) (a : Addr) : Prop := ∃ (i : Nat) (p : Addr) (os : List (Option (Addr × List Int))), T[i]? = some (p, os) ∧ (a = p ∨ ∃ (j : Nat) (q : Addr) (l : List Int), os[j]? = some (some (q, l)) ∧ a = q)
theorem Tree.keep {H H' : Hp} {c : Addr} {T : List TN} (t : Tree H c T) (h : ∀ a o, a = c ∨ InT T a → H a = some o → H' a = some o) : Tree H' c T :=
  ⟨h _ _ (.inl rfl) t.top, fun i p os e => ⟨h _ _ (.inr ⟨i, p, os, e, .inl rfl⟩) (t.nd i p os e).1, (t.nd i p os e).2⟩,
   fun i p os j q l e f => ⟨h _ _ (.inr ⟨i, p, os, e, .inr ⟨j, q, l, f, rfl⟩⟩) (t.op i p os j q l e f).1, (t.op i p os j q l e f).2⟩, t.pp, t.qq, t.pq⟩
theorem Tree.same {H H' : Hp} {c : Addr} {T : List TN} (t : Tree H c T) (s : Same H H') : Tree H' c T := t.keep fun a o _ e => s a o e
theorem Tree.at {H : Hp} {c : Addr} {T : List TN} (t : Tree H c T) {a : Addr} (h : a = c ∨ InT T a) : ∃ xs, H a = some (.lst xs) := by
  rcases h with rfl | ⟨i, p, os, e, rfl | ⟨j, q, l, f, rfl⟩⟩
  · exact ⟨_, t.top⟩
  · exact ⟨_, (t.nd i _ os e).1⟩
  · exact ⟨_, (t.op i p os j _ l e f).1⟩
theorem at_snoc {α : Type} {l : List α} {x y : α} {j : Nat} (h : (l ++ [x])[j]? = some y) : (j < l.length ∧ l[j]? = some y) ∨ (j = l.length ∧ x = y) := by
  by_cases q : j < l.length
  · rw [List.getElem?_append_left q] at h
    exact .inl ⟨q, h⟩
  · rw [List.getElem?_append_right (by omega)] at h
    cases e : j - l.length with
    | zero =>
      rw [e] at h
      exact .inr ⟨by omega, Option.some.inj h⟩
    | succ n =>
      rw [e] at h
      simp at h
theorem dpAll_map {K : PySem.W.Frag} {H : Hp} {α : Type} {f : α → V} {d : α → PyData} : ∀ {l : List α}, (∀ x, x ∈ l → Dp K H (f x) (d x)) → DpAll K H (l.map f) (l.map d)
  | [], _ => .nil
  | x :: l, h => .cons (h x List.mem_cons_self) (dpAll_map fun y hy => h y (List.mem_cons_of_mem _ hy))
theorem Tree.dp {K : PySem.W.Frag} {H : Hp} {c : Addr} {T : List TN} (t : Tree H c T) : Dp K H (.ref c) (gameD (era T)) := by
  refine .lst (SqL.of t.top) ?_
  unfold era
  rw [List.map_map]
  refine dpAll_map fun n hn => ?_
  obtain ⟨i, hi⟩ := List.getElem?_of_mem hn
  obtain ⟨p, os⟩ := n
  refine .lst (SqL.of (t.nd i p os hi).1) ?_
  rw [List.map_map]
  refine dpAll_map fun o ho => ?_
  obtain ⟨j, hj⟩ := List.getElem?_of_mem ho
  cases o with
  | none => exact .non
  | some ql =>
    obtain ⟨q, l⟩ := ql
    exact .lst (SqL.of (t.op i p os j q l hi hj).1) (dpAll_ints l)
def sp_law_copyT (K : PySem.W.Frag) : Sp := fun vs H Q _ => ∃ (g : Addr) (G : List Node), vs = [.ref g] ∧ Dp K H (.ref g) (gameD G) ∧ G.length ≤ 60 ∧ (∀ n, n ∈ G → n.length ≤ 20 ∧ True) ∧
  ∀ (c : Addr) (T : List TN) (H' : Hp), Same H H' → H c = none → (∀ a, InT T a → H a = none) → Tree H' c T → era T = G → Q (.ref c) H'
theorem InT.snoc {T : List TN} {n : TN} {a : Addr} (h : InT (T ++ [n]) a) : InT T a ∨ a = n.1 ∨ ∃ (j : Nat) (q : Addr) (l : List Int), n.2[j]? = some (some (q, l)) ∧ a = q := by
  obtain ⟨i, p, os, e, k⟩ := h
  rcases at_snoc e with ⟨_, e⟩ | ⟨_, e⟩
  · exact .inl ⟨i, p, os, e, k⟩
  · subst e
    exact .inr k
/-- one more node, new -/
theorem Tree.snoc {H H' : Hp} {c D : Addr} {T : List TN} {os : List (Option (Addr × List Int))} (t : Tree H c T) (s : ∀ a o, a ≠ c → H a = some o → H' a = some o)
    (hc : H' c = some (.lst ((T ++ [(D, os)]).map fun n => V.ref n.1))) (hD : H' D = some (.lst (os.map ov))) (nD : H D = none)
    (ho : ∀ (j : Nat) (q : Addr) (l : List Int), os[j]? = some (some (q, l)) → H' q = some (.lst (l.map V.int)) ∧ H q = none ∧ q ≠ D)
    (hq : ∀ (j j' : Nat) (q : Addr) (l l' : List Int), os[j]? = some (some (q, l)) → os[j']? = some (some (q, l')) → j = j') : Tree H' c (T ++ [(D, os)]) := by
  have cH : ∃ xs, H c = some (.lst xs) := ⟨_, t.top⟩
  obtain ⟨cx, cH⟩ := cH
  have nc : ∀ {a : Addr}, H a = none → a ≠ c := fun {a} n z => by rw [z, cH] at n; cases n
  have old : ∀ {a : Addr}, H a = none → InT T a → False := fun {a} n x => by
    obtain ⟨xs, e⟩ := t.at (.inr x)
    rw [n] at e
    cases e
  refine ⟨hc, fun i p os' e => ?_, fun i p os' j q l e f => ?_, fun i i' p o1 o2 e e' => ?_, fun i p o1 j q l i' p' o2 j' l' e f e' f' => ?_, fun i p o1 i' p' o2 j' l' e e' f' => ?_⟩
  · rcases at_snoc e with ⟨_, e⟩ | ⟨_, e⟩
    · obtain ⟨a, b⟩ := t.nd i p os' e
      exact ⟨s _ _ b a, b⟩
    · cases e
      exact ⟨hD, nc nD⟩
  · rcases at_snoc e with ⟨_, e⟩ | ⟨_, e⟩
    · obtain ⟨a, b⟩ := t.op i p os' j q l e f
      exact ⟨s _ _ b a, b⟩
    · cases e
      obtain ⟨a, b, _⟩ := ho j q l f
      exact ⟨a, nc b⟩
  · rcases at_snoc e with ⟨_, e⟩ | ⟨h1, e⟩ <;> rcases at_snoc e' with ⟨_, e'⟩ | ⟨h2, e'⟩
    · exact t.pp i i' p o1 o2 e e'
    · cases e'
      exact (old nD ⟨i, _, o1, e, .inl rfl⟩).elim
    · cases e
      exact (old nD ⟨i', _, o2, e', .inl rfl⟩).elim
    · omega
  · rcases at_snoc e with ⟨_, e⟩ | ⟨h1, e⟩ <;> rcases at_snoc e' with ⟨_, e'⟩ | ⟨h2, e'⟩
    · exact t.qq i p o1 j q l i' p' o2 j' l' e f e' f'
    · cases e'
      exact (old (ho j' q l' f').2.1 ⟨i, p, o1, e, .inr ⟨j, q, l, f, rfl⟩⟩).elim
    · cases e
      exact (old (ho j q l f).2.1 ⟨i', p', o2, e', .inr ⟨j', q, l', f', rfl⟩⟩).elim
    · cases e
      cases e'
      exact ⟨by omega, hq j j' q l l' f f'⟩
  · rcases at_snoc e with ⟨_, e⟩ | ⟨h1, e⟩ <;> rcases at_snoc e' with ⟨_, e'⟩ | ⟨h2, e'⟩
    · exact t.pq i p o1 i' p' o2 j' l' e e' f'
    · cases e'
      exact old (ho j' p l' f').2.1 ⟨i, p, o1, e, .inl rfl⟩
    · cases e
      exact old nD ⟨i', p', o2, e', .inr ⟨j', _, l', f', rfl⟩⟩
    · cases e
      cases e'
      exact (ho j' _ l' f').2.2 rfl

/-- all targets, in order -/
def tgN (nd : Node) : List Int := nd.flatMap fun o => o.getD []
def tg (G : List Node) : List Int := G.flatMap tgN
def badT (n : Nat) (t : Int) : Bool := decide (t < 0 ∨ (n : Int) ≤ t)
def firstBad (G : List Node) : Option Int := (tg G).find? (badT G.length)
theorem flat_snoc {α β : Type} {f : α → List β} {l : List α} {i : Nat} {x : α} (h : l[i]? = some x) : (l.take (i + 1)).flatMap f = (l.take i).flatMap f ++ f x := by
  rw [take_snoc h, List.flatMap_append, List.flatMap_singleton]
theorem flat_split {α β : Type} {f : α → List β} {l : List α} {i : Nat} {x : α} (h : l[i]? = some x) : l.flatMap f = (l.take i).flatMap f ++ (f x ++ (l.drop (i + 1)).flatMap f) := by
  have e : l = l.take i ++ x :: l.drop (i + 1) := by rw [← drop_cons h, List.take_append_drop]
  conv => lhs; rw [e]
  rw [List.flatMap_append, List.flatMap_cons]
/-- where the walk stands -/
theorem first_at {G : List Node} {i j k : Nat} {nd : Node} {l : List Int} {t : Int} (hi : G[i]? = some nd) (hj : nd[j]? = some (some l)) (hk : l[k]? = some t) (g1 : ∀ y, y ∈ tg (G.take i) → badT G.length y = false) (g2 : ∀ y, y ∈ tgN (nd.take j) → badT G.length y = false)
    (g3 : ∀ y, y ∈ l.take k → badT G.length y = false) (b : badT G.length t = true) : firstBad G = some t := by
  have e : tg G = (tg (G.take i) ++ (tgN (nd.take j) ++ l.take k)) ++ t :: (l.drop (k + 1) ++ (tgN (nd.drop (j + 1)) ++ tg (G.drop (i + 1)))) := by
    have e1 : tg G = tg (G.take i) ++ (tgN nd ++ tg (G.drop (i + 1))) := flat_split hi
    have e2 : tgN nd = tgN (nd.take j) ++ (l ++ tgN (nd.drop (j + 1))) := flat_split hj
    have e3 : l = l.take k ++ t :: l.drop (k + 1) := by rw [← drop_cons hk, List.take_append_drop]
    rw [e1, e2]
    conv => lhs; rw [e3]
    simp
  unfold firstBad
  rw [e, List.find?_append, List.find?_eq_none.mpr, Option.none_or, List.find?_cons, b]
  intro y hy
  have : badT G.length y = false := by
    rcases List.mem_append.mp hy with q | q
    · exact g1 y q
    · rcases List.mem_append.mp q with q | q
      · exact g2 y q
      · exact g3 y q
  rw [this]
  exact Bool.false_ne_true
theorem first_none {G : List Node} (g : ∀ y, y ∈ tg G → badT G.length y = false) : firstBad G = none := List.find?_eq_none.mpr fun y hy => by rw [g y hy]; exact Bool.false_ne_true
def sp_check_nodes (K : PySem.W.Frag) (C : Addr) : Sp := fun vs H Q E => ∃ (g : Addr) (G : List Node), vs = [.ref g] ∧ Dp K H (.ref g) (gameD G) ∧ (firstBad G = none → Q .non H) ∧
  ∀ t, firstBad G = some t → ∀ (d : Addr) (H' : Hp), H d = none → Same H H' → H' d = some (.xd [("value", .int t), ("what", .str "node")]) → E (.ref C) (some d) H'

theorem ok_law_copy {f : Addr} {fd : FuncData} (F : Fun K "_law_copy" "_law_copy" s_law_copy f fd) (T : Txt K mg) : FnOk P w K mg base CX0 1 f fd P_law_copy (sp_law_copyT K) := by
  refine F.ok sc_law_copy (fun vs H Q E h => ?_) (fun cdv A outer s H vs Q E hr h => ?_)
  · obtain ⟨g, G, rfl, hD, hlen, hok, k⟩ := h
    rfl
  · obtain ⟨g, G, rfl, hD, hlen, hok, k⟩ := h
    refine ⟨_, (pss_cons (ps_set (i := 1) sc_law_copy.nd rfl (by first | exact Or.inl rfl | exact Or.inr rfl) (pe_lst pa_nil))
  (pss_cons (ps_for PassesOwn.never rfl (pi_list (pv 0)) (pg_name (i := 2) sc_law_copy.nd rfl (by first | exact Or.inl rfl | exact Or.inr rfl))
  (pss_one (ps_expr (pe_bm PySem.F.plainAttrs_list PySem.F.slot_list_append PySem.F.type_list_append mt_append (pv 1) (pa_cons (pe_lc (own := [("option", 3)]) rfl sc_law_copy.nd (pi_list (pv 2)) (blkOk_by (own := [("option", 3)]) (N := N_law_copy) (sc := defScope s_law_copy) (by decide +kernel)) (fun _ _ _ _ _ => (pg_name (i := 3) sc_law_copy.nd rfl (by first | exact Or.inl rfl | exact Or.inr rfl))) (fun _ _ _ _ _ => pts_nil) (fun _ _ _ _ _ => (pe_ifExp (pt_cmpR op_isN (pv 3) pe_non (nomark _)) pe_non (pe_callTy (T := "list") (r := rListOf K) call_list_of (by rfl) T.b_list (by decide +kernel) (pa_cons (pv 3) pa_nil))))) pa_nil)))))
  (pss_one (ps_ret (pv 1))))), ?_⟩
    obtain ⟨xs, hS, hA⟩ := dp_list hD
    have hxl : xs.length = G.length := by rw [dpAll_len hA, List.length_map]
    refine ⟨Nat.zero_le _, fun c hc => ?_⟩
    refine ⟨_, rfl, g, rfl, ⟨_, (Same.new hc).seq hS⟩, ?_⟩
    refine for_it walk_list (fun i σ H1 => ∃ (T : List TN) (w2 w3 : Option V), σ = [some (.ref g), some (.ref c), w2, w3] ∧ Tree H1 c T ∧ era T = G.take i ∧ (∀ a, InT T a → H a = none) ∧ Same H H1)
      ⟨[], _, _, rfl, ⟨upd_same, fun i p os e => by simp at e, fun i p os j q l e => by simp at e, fun i i' p os os' e => by simp at e, fun i p os j q l i' p' os' j' l' e => by simp at e, fun i p os i' p' os' j' l' e => by simp at e⟩, rfl, fun a ⟨i, p, os, e, _⟩ => by simp at e, Same.new hc⟩ (fun i σ H1 _ ⟨_, _, _, _, _, _, _, s1⟩ => s1.seq hS) ?_ ?_
    · rintro i x σ H1o H1 hi ⟨T, w2, w3, rfl, tr, eT, fr, s1⟩ ⟨rfl, hx⟩
      obtain ⟨d, hd, hxd⟩ := dpAll_get hA hx
      obtain ⟨nd, hnd, rfl⟩ := map_at hd
      obtain ⟨p, ws, rfl, hp, hws⟩ := dp_ref hxd
      have hok1 := hok nd (List.mem_of_getElem? hnd)
      have hwl : ws.length = nd.length := by rw [dpAll_len hws, List.length_map]
      have hvl : T.length ≤ 60 := by
        have := congrArg List.length eT
        unfold era at this
        rw [List.length_map, List.length_take] at this
        omega
      refine ⟨_, rfl, .inl ⟨rfl, _, SqL.of tr.top⟩, _, rfl, p, rfl, ⟨_, s1.seq hp⟩, fun D hD0 => ?_⟩
      have nDc : ¬ D = c := fun e => by rw [e, tr.top] at hD0; cases hD0
      refine lc_it walk_list (fun j H2 => ∃ os : List (Option (Addr × List Int)), H2 D = some (.lst (os.map ov)) ∧ os.map eraO = nd.take j ∧ (∀ (k : Nat) (q : Addr) (l : List Int), os[k]? = some (some (q, l)) → H2 q = some (.lst (l.map V.int)) ∧ H1 q = none ∧ q ≠ D) ∧ (∀ (k k' : Nat) (q : Addr) (l l' : List Int), os[k]? = some (some (q, l)) → os[k']? = some (some (q, l')) → k = k') ∧ Same H1 H2)
        ⟨[], upd_same, rfl, fun k q l e => by simp at e, fun k k' q l l' e => by simp at e, Same.new hD0⟩ (fun j H2 _ ⟨_, _, _, _, _, s2⟩ => (s1.trans s2).seq hp) ?_ ?_
      · rintro j y H2o H2 hj ⟨os, e2, d2, ho2, hq2, s2⟩ ⟨rfl, hy⟩
        obtain ⟨d, hd', hyd⟩ := dpAll_get hws hy
        obtain ⟨o, ho, rfl⟩ := map_at hd'
        have hul : os.length ≤ 20 := by
          have := congrArg List.length d2
          rw [List.length_map, List.length_take] at this
          have := hok1.1
          omega
        refine ⟨rfl, _, rfl, rfl, _, rfl, ?_⟩
        rcases opt_v hyd with ⟨rfl, rfl⟩ | ⟨l, q, rfl, rfl, hq⟩
        · refine ite2 (fun _ => ?_) (fun z => absurd (decide_eq_true rfl) z)
          refine ⟨_, e2, small1000 (by rw [List.length_map]; omega), os ++ [none], by rw [upd_same, List.map_append]; rfl, by rw [take_snoc ho, List.map_append, d2]; rfl, fun k q l e => ?_, fun k k' q l l' e e' => ?_, fun b o e => ?_⟩
          · rcases at_snoc e with ⟨_, e⟩ | ⟨_, e⟩
            · obtain ⟨a1, a2, a3⟩ := ho2 k q l e
              exact ⟨by rw [upd_ne a3]; exact a1, a2, a3⟩
            · cases e
          · rcases at_snoc e with ⟨_, e⟩ | ⟨_, e⟩
            · rcases at_snoc e' with ⟨_, e'⟩ | ⟨_, e'⟩
              · exact hq2 k k' q l l' e e'
              · cases e'
            · cases e
          · rw [upd_ne (ne_of_none e hD0)]
            exact s2 _ _ e
        · refine ite2 (fun z => absurd (of_decide_eq_true z) (by intro z; cases z)) (fun _ => ?_)
          refine ⟨_, rfl, q, _, rfl, .inl ((s1.trans s2).seq hq), fun l' hl' => ?_⟩
          have nl : ¬ D = l' := fun e => by rw [← e, e2] at hl'; cases hl'
          refine ⟨_, (by rw [upd_ne nl]; exact e2), small1000 (by rw [List.length_map]; omega), os ++ [some (l', l)], by rw [upd_same, List.map_append]; rfl, by rw [take_snoc ho, List.map_append, d2]; rfl, fun k q l e => ?_, fun k k' q l l' e e' => ?_, fun b o e => ?_⟩
          · rcases at_snoc e with ⟨_, e⟩ | ⟨_, e⟩
            · obtain ⟨a1, a2, a3⟩ := ho2 k q l e
              exact ⟨by rw [upd_ne a3, upd_ne (ne_of_none a1 hl')]; exact a1, a2, a3⟩
            · cases e
              exact ⟨by rw [upd_ne (Ne.symm nl)]; exact upd_same, s2.free hl', Ne.symm nl⟩
          · rcases at_snoc e with ⟨_, e⟩ | ⟨k1, e⟩ <;> rcases at_snoc e' with ⟨_, e'⟩ | ⟨k2, e'⟩
            · exact hq2 k k' q l l' e e'
            · cases e'
              have := (ho2 k _ l e).1
              rw [hl'] at this
              cases this
            · cases e
              have := (ho2 k' _ l' e').1
              rw [hl'] at this
              cases this
            · omega
          · rw [upd_ne (ne_of_none e hD0)]
            exact Same.new hl' _ _ (s2 _ _ e)
      · rintro H2 ⟨os, e2, d2, ho2, hq2, s2⟩
        rw [hwl, List.take_length] at d2
        have etop := s2 _ _ tr.top
        refine ⟨c, _, _, rfl, rfl, etop, small1000 (by rw [List.length_map]; omega), ?_⟩
        have hcH : ∀ {a : Addr} {o o2 : HO}, a ≠ c → H2 a = some o → (upd H2 c o2) a = some o := fun n e => by rw [upd_ne n]; exact e
        have nqc : ∀ {q : Addr}, H1 q = none → q ≠ c := fun {q} n z => by rw [z, tr.top] at n; cases n
        refine ⟨T ++ [(D, os)], _, _, rfl, tr.snoc (fun a o n e => hcH n (s2 _ _ e)) (by rw [upd_same, List.map_append]; rfl) (hcH nDc e2) hD0 (fun j q l e => ⟨hcH (nqc (ho2 j q l e).2.1) (ho2 j q l e).1, (ho2 j q l e).2⟩) hq2, ?_, fun a ha => ?_, fun b o e => ?_⟩
        · rw [take_snoc hnd]
          unfold era at eT ⊢
          rw [List.map_append, eT, List.map_cons, List.map_nil, d2]
        · rcases ha.snoc with z | z | ⟨j, q, l, e, z⟩
          · exact fr a z
          · rw [z]
            exact s1.free hD0
          · rw [z]
            exact s1.free (ho2 j q l e).2.1
        · rw [upd_ne (ne_of_none e hc)]
          exact s2 _ _ (s1 _ _ e)
    · rintro σ H1 ⟨T, w2, w3, rfl, tr, eT, fr, s1⟩
      rw [hxl, List.take_length] at eT
      exact ⟨_, rfl, k c T H1 s1 hc fr tr eT⟩

theorem ok_check_nodes {f : Addr} {fd : FuncData} (F : Fun K "_check_nodes" "_check_nodes" s_check_nodes f fd) (T : Txt K mg) {C_BadNumber : Addr} (C_xcheck_number : ∃ (g : Addr) (gd : FuncData), FnOk P w K mg base (L2.CX P w) 4 g gd Pcheck_number (spcheck_number C_BadNumber) ∧ mg "check_number" = some (.ref g) ∧ PySem.W.keepIn K (.ref g) = true ∧ Binds K gd Pcheck_number []) : FnOk P w K mg base (L2.CX P w) 5 f fd P_check_nodes (sp_check_nodes K C_BadNumber) := by
  obtain ⟨gcheck_number, gdcheck_number, Gcheck_number, mcheck_number, kcheck_number, bcheck_number⟩ := C_xcheck_number
  refine F.okX sc_check_nodes (fun vs H Q E h => ?_) (fun cdv A outer s H vs Q E hr h => ?_)
  · obtain ⟨g, G, rfl, hD, k, kE⟩ := h
    rfl
  · obtain ⟨g, G, rfl, hD, k, kE⟩ := h
    refine ⟨_, (pss_cons (ps_set (i := 1) sc_check_nodes.nd rfl (by first | exact Or.inl rfl | exact Or.inr rfl) (pe_op op_sub (pe_callB call_len_seq (by rfl) T.b_len PySem.boot_len (pa_cons (pv 0) pa_nil)) pe_int))
  (pss_one (ps_for (passes_of rfl) rfl (pi_list (pv 0)) (pg_name (i := 2) sc_check_nodes.nd rfl (by first | exact Or.inl rfl | exact Or.inr rfl))
  (pss_one (ps_for (passes_of rfl) rfl (pi_list (pv 2)) (pg_name (i := 3) sc_check_nodes.nd rfl (by first | exact Or.inl rfl | exact Or.inr rfl))
  (pss_one (ps_if (pt_cmpR op_notN (pv 3) pe_non (nomark _))
  (pss_one (ps_for (passes_of rfl) rfl (pi_list (pv 3)) (pg_name (i := 4) sc_check_nodes.nd rfl (by first | exact Or.inl rfl | exact Or.inr rfl))
  (pss_one (ps_expr (pe_callS Gcheck_number (hr.mono (by decide)) (by rfl) mcheck_number kcheck_number bcheck_number (fun σ => passAt (takes_of rfl rfl rfl rfl) σ) (pa_cons pe_str (pa_cons (pv 4) (pa_cons pe_int (pa_cons (pv 1) pa_nil)))))))))
  pss_nil))))))), ?_⟩
    obtain ⟨xs, hS, hA⟩ := dp_list hD
    have hxl : xs.length = G.length := by rw [dpAll_len hA, List.length_map]
    refine ⟨_, rfl, g, _, rfl, .inl hS, _, _, rfl, rfl, ?_⟩
    refine ⟨_, rfl, g, rfl, ⟨_, hS⟩, ?_⟩
    refine for_it walk_list (fun i σ H1 => ∃ (w2 w3 w4 : Option V), σ = [some (.ref g), some (.int ((xs.length : Nat) - 1 : Int)), w2, w3, w4] ∧ H1 = H ∧ ∀ y, y ∈ tg (G.take i) → badT G.length y = false)
      ⟨_, _, _, rfl, rfl, fun y hy => by cases hy⟩ (fun i σ H1 _ ⟨_, _, _, _, e, _⟩ => by rw [e]; exact hS) ?_ ?_
    · rintro i x σ H1o H1 hi ⟨w2, w3, w4, rfl, rfl, g1⟩ ⟨rfl, hx⟩
      obtain ⟨d, hd, hxd⟩ := dpAll_get hA hx
      obtain ⟨nd, hnd, rfl⟩ := map_at hd
      obtain ⟨p, ws, rfl, hp, hws⟩ := dp_ref hxd
      refine ⟨_, rfl, p, rfl, ⟨_, hp⟩, ?_⟩
      refine for_it walk_list (fun j σ H2 => ∃ (w3 w4 : Option V), σ = [some (.ref g), some (.int ((xs.length : Nat) - 1 : Int)), some (.ref p), w3, w4] ∧ H2 = H1 ∧ ∀ y, y ∈ tgN (nd.take j) → badT G.length y = false)
        ⟨_, _, rfl, rfl, fun y hy => by cases hy⟩ (fun i σ H2 _ ⟨_, _, _, e, _⟩ => by rw [e]; exact hp) ?_ ?_
      · rintro j y σ H2o H2 hj ⟨w3, w4, rfl, rfl, g2⟩ ⟨rfl, hy⟩
        obtain ⟨d, hd', hyd⟩ := dpAll_get hws hy
        obtain ⟨o, ho, rfl⟩ := map_at hd'
        refine ⟨_, rfl, rfl, _, rfl, ?_⟩
        rcases opt_v hyd with ⟨rfl, rfl⟩ | ⟨l, q, rfl, rfl, hq⟩
        · refine ite2 (fun z => absurd z (by decide)) (fun _ => ?_)
          exact ⟨_, _, rfl, rfl, fun y hy => g2 y (by unfold tgN at hy ⊢; rw [flat_snoc ho] at hy; simpa using hy)⟩
        · refine ite2 (fun _ => ?_) (fun z => absurd (by rfl) z)
          refine ⟨_, rfl, q, rfl, ⟨_, hq⟩, ?_⟩
          refine for_it walk_list (fun k σ H3 => ∃ (w4 : Option V), σ = [some (.ref g), some (.int ((xs.length : Nat) - 1 : Int)), some (.ref p), some (.ref q), w4] ∧ H3 = H2 ∧ ∀ y, y ∈ l.take k → badT G.length y = false)
            ⟨_, rfl, rfl, fun y hy => by cases hy⟩ (fun i σ H3 _ ⟨_, _, e, _⟩ => by rw [e]; exact hq) ?_ ?_
          · rintro k' z σ H3o H3 hk ⟨w4, rfl, rfl, g3⟩ ⟨rfl, hz⟩
            obtain ⟨t, ht, rfl⟩ := map_at hz
            have hlast : ((xs.length : Nat) : Int) - 1 = (G.length : Int) - 1 := by rw [hxl]
            refine ⟨_, rfl, _, rfl, "node", .int t, 0, _, rfl, (by decide +kernel), .int t, fun hT => ?_, fun hF d H' nd' s' hd => ?_⟩
            · have hT : 0 ≤ t ∧ t ≤ ((xs.length : Nat) : Int) - 1 := of_decide_eq_true hT
              refine ⟨_, rfl, rfl, fun y hy => ?_⟩
              rw [take_snoc ht] at hy
              rcases List.mem_append.mp hy with q | q
              · exact g3 y q
              · rw [List.mem_singleton.mp q]
                exact decide_eq_false (by omega)
            · have hF : ¬ (0 ≤ t ∧ t ≤ ((xs.length : Nat) : Int) - 1) := of_decide_eq_false hF
              exact kE t (first_at hnd ho ht g1 g2 g3 (decide_eq_true (by omega))) d H' nd' s' hd
          · rintro σ H3 ⟨w4, rfl, rfl, g3⟩
            rw [List.length_map, List.take_length] at g3
            refine ⟨_, _, rfl, rfl, fun y hy => ?_⟩
            unfold tgN at hy
            rw [flat_snoc ho] at hy
            rcases List.mem_append.mp hy with q | q
            · exact g2 y q
            · exact g3 y q
      · rintro σ H2 ⟨w3, w4, rfl, rfl, g2⟩
        rw [dpAll_len hws, List.length_map, List.take_length] at g2
        refine ⟨_, _, _, rfl, rfl, fun y hy => ?_⟩
        unfold tg at hy
        rw [flat_snoc hnd] at hy
        rcases List.mem_append.mp hy with q | q
        · exact g1 y q
        · exact g2 y q
    · rintro σ H1 ⟨w2, w3, w4, rfl, rfl, g1⟩
      rw [hxl, List.take_length] at g1
      exact k (first_none g1)
end
end Wb

namespace Wb
open PySem PySem.Spec PyProof.Rows L2 Wx NdefX RZ StX PyProof.Rows.FinIter

def atN (R : List Int) (t : Nat) : Int := R.getD t 0
theorem atN_set_eq {R : List Int} {i : Nat} {x : Int} (h : i < R.length) : atN (R.set i x) i = x := by
  unfold atN
  rw [List.getD_eq_getElem?_getD, List.getElem?_set_self h]
  rfl
theorem atN_set_ne {R : List Int} {i j : Nat} {x : Int} (h : i ≠ j) : atN (R.set i x) j = atN R j := by
  unfold atN
  rw [List.getD_eq_getElem?_getD, List.getElem?_set_ne h, List.getD_eq_getElem?_getD]
theorem nodup_le : ∀ (n : Nat) (l : List Nat), l.Nodup → (∀ v, v ∈ l → v < n) → l.length ≤ n
  | 0, [], _, _ => Nat.le_refl _
  | 0, a :: l, _, h => absurd (h a List.mem_cons_self) (by omega)
  | n + 1, l, hn, h => by
    by_cases m : n ∈ l
    · have h1 := nodup_le n (l.erase n) (hn.erase n) (fun v hv => by
        have q := (hn.mem_erase_iff).mp hv
        have := h v q.2
        have := q.1
        omega)
      have h2 := List.length_erase_of_mem m
      have h3 : 0 < l.length := List.length_pos_of_mem m
      omega
    · have h1 := nodup_le n l hn (fun v hv => by
        have := h v hv
        have : v ≠ n := fun e => m (e ▸ hv)
        omega)
      omega
/-- options of v that have not failed -/
def cnt (mK : Nat) (ow : Nat → Nat) (ft : Nat → Int) (v : Nat) : Nat := (List.range mK).countP fun k => decide (ow k = v ∧ ft k = 0)
theorem countP_change (p q : Nat → Bool) (k : Nat) (hp : p k = true) (hq : q k = false) (h : ∀ j, j ≠ k → p j = q j) : ∀ m, k < m → (List.range m).countP p = (List.range m).countP q + 1
  | 0, hk => absurd hk (by omega)
  | m + 1, hk => by
    rw [List.range_succ, List.countP_append, List.countP_append]
    by_cases e : k = m
    · have h1 : (List.range m).countP p = (List.range m).countP q := by
        apply List.countP_congr
        intro x hx
        have : x ≠ k := by have := List.mem_range.mp hx; omega
        rw [h x this]
      rw [h1, ← e]
      simp [hp, hq]
    · have h1 := countP_change p q k hp hq h m (by omega)
      have h2 : p m = q m := h m (fun z => e z.symm)
      rw [h1]
      simp only [List.countP_cons, List.countP_nil, h2]
      omega
def upF (ft : Nat → Int) (k : Nat) (c : Int) : Nat → Int := fun j => if j = k then c else ft j
theorem cnt_up {mK : Nat} {ow : Nat → Nat} {ft : Nat → Int} {k : Nat} {c : Int} (hk : k < mK) (h0 : ft k = 0) (hc : 0 < c) : cnt mK ow ft (ow k) = cnt mK ow (upF ft k c) (ow k) + 1 := by
  refine countP_change _ _ k ?_ ?_ (fun j hj => ?_) mK hk
  · simp [h0]
  · simp only [upF, if_pos, decide_eq_false_iff_not]
    intro z
    have := z.2
    omega
  · simp only [upF, if_neg hj]
theorem cnt_ne {mK : Nat} {ow : Nat → Nat} {ft : Nat → Int} {k v : Nat} {c : Int} (h : ow k ≠ v) : cnt mK ow (upF ft k c) v = cnt mK ow ft v := by
  refine List.countP_congr fun j hj => ?_
  by_cases e : j = k
  · subst e
    simp [h]
  · simp only [upF, if_neg e]
theorem cnt_zero {mK : Nat} {ow : Nat → Nat} {ft : Nat → Int} {v : Nat} (h : cnt mK ow ft v = 0) : ∀ k, k < mK → ow k = v → ft k ≠ 0 := by
  intro k hk e z
  have := List.countP_eq_zero.mp h k (List.mem_range.mpr hk)
  simp [e, z] at this
theorem cnt_pos {mK : Nat} {ow : Nat → Nat} {ft : Nat → Int} {v : Nat} (h : cnt mK ow ft v ≠ 0) : ∃ k, k < mK ∧ ow k = v ∧ ft k = 0 := by
  have := List.countP_pos_iff.mp (Nat.pos_of_ne_zero h)
  obtain ⟨k, hk, e⟩ := this
  exact ⟨k, List.mem_range.mp hk, of_decide_eq_true e⟩
/-- the state of the search: the first d of lost are done, the node of rank cur is under way -/
structure BI (n mK : Nat) (ow : Nat → Nat) (T : Nat → List Nat) (left found : List Int) (lost : List Nat) (ft : Nat → Int) (d : Nat) (cur : Int) : Prop where
  lenL : left.length = n
  lenF : found.length = n
  nd : lost.Nodup
  lostR : ∀ v, v ∈ lost → v < n ∧ 0 < atN found v
  lostI : ∀ v, v < n → 0 < atN found v → v ∈ lost
  pos : ∀ v, v < n → 0 ≤ atN found v
  cur1 : 1 ≤ cur
  top : ∀ v, v ∈ lost → atN found v ≤ cur + 1
  todo : ∀ (i v : Nat), d ≤ i → lost[i]? = some v → cur ≤ atN found v
  sorted : ∀ (i j u v : Nat), i ≤ j → lost[i]? = some u → lost[j]? = some v → atN found u ≤ atN found v
  ft0 : ∀ k, k < mK → 0 ≤ ft k ∧ ft k ≤ cur
  ftw : ∀ k, k < mK → 0 < ft k → ∃ t, t ∈ T k ∧ atN found t = ft k
  ftm : ∀ k, k < mK → ∀ t, t ∈ T k → 0 < ft k → 0 < atN found t → ft k ≤ atN found t
  lft : ∀ v, v < n → atN left v = (cnt mK ow ft v : Nat)
  rk : ∀ v, v < n → (0 < atN found v ↔ atN left v = 0)
  val : ∀ v, v < n → 0 < atN found v → (∀ k, k < mK → ow k = v → ft k + 1 ≤ atN found v) ∧ (atN found v = 1 ∨ ∃ k, k < mK ∧ ow k = v ∧ atN found v = ft k + 1)
  cmpl : ∀ (i t : Nat), i < d → lost[i]? = some t → ∀ k, k < mK → t ∈ T k → 0 < ft k
section
variable {n mK : Nat} {ow : Nat → Nat} {T : Nat → List Nat} {left found : List Int} {lost : List Nat} {ft : Nat → Int} {d : Nat} {cur : Int}
/-- the next node -/
theorem BI.next (B : BI n mK ow T left found lost ft d cur) {v : Nat} (h : lost[d]? = some v) : BI n mK ow T left found lost ft d (atN found v) := by
  have hc := B.todo d v (Nat.le_refl _) h
  refine { B with cur1 := ?_, top := ?_, todo := ?_, ft0 := ?_ }
  · exact Int.le_trans B.cur1 hc
  · intro u hu
    have := B.top u hu
    omega
  · intro i u hi hu
    exact B.sorted d i v u hi h hu
  · intro k hk
    have := B.ft0 k hk
    omega
/-- the node is done -/
theorem BI.over (B : BI n mK ow T left found lost ft d cur) {v : Nat} (h : lost[d]? = some v) (hc : ∀ k, k < mK → v ∈ T k → 0 < ft k) : BI n mK ow T left found lost ft (d + 1) cur := by
  refine { B with todo := ?_, cmpl := ?_ }
  · intro i u hi hu
    exact B.todo i u (by omega) hu
  · intro i t hi ht k hk hm
    by_cases e : i = d
    · rw [e, h] at ht
      rw [← Option.some.inj ht] at hm
      exact hc k hk hm
    · exact B.cmpl i t (by omega) ht k hk hm
/-- an option fails, its owner has others left -/
theorem BI.fail (B : BI n mK ow T left found lost ft d cur) {v k : Nat} (hv : lost[d]? = some v) (hcur : atN found v = cur) (hk : k < mK) (hm : v ∈ T k) (h0 : ft k = 0) (how : ow k < n) (hne : atN left (ow k) - 1 ≠ 0) :
    BI n mK ow T (left.set (ow k) (atN left (ow k) - 1)) found lost (upF ft k cur) d cur := by
  have c1 := B.cur1
  have hcn := cnt_up (ow := ow) (c := cur) hk h0 (by omega)
  have hl := B.lft (ow k) how
  have hkk : upF ft k cur k = cur := if_pos rfl
  have hko : ∀ j, j ≠ k → upF ft k cur j = ft j := fun j hj => if_neg hj
  have hfo : ¬ 0 < atN found (ow k) := fun z => by
    have := (B.rk (ow k) how).mp z
    have := hl
    omega
  have late : ∀ t, t ∈ T k → 0 < atN found t → t < n → cur ≤ atN found t := fun t ht hp htn => by
    obtain ⟨i, hi, e⟩ := List.getElem_of_mem (B.lostI t htn hp)
    have e' : lost[i]? = some t := by rw [List.getElem?_eq_getElem hi, e]
    by_cases hd : i < d
    · have := B.cmpl i t hd e' k hk ht
      omega
    · exact B.todo i t (by omega) e'
  refine { B with lenL := ?_, ft0 := ?_, ftw := ?_, ftm := ?_, lft := ?_, rk := ?_, val := ?_, cmpl := ?_ }
  · rw [List.length_set]
    exact B.lenL
  · intro j hj
    by_cases e : j = k
    · rw [e, hkk]
      omega
    · rw [hko j e]
      exact B.ft0 j hj
  · intro j hj hp
    by_cases e : j = k
    · rw [e, hkk]
      exact ⟨v, hm, hcur⟩
    · rw [hko j e] at hp ⊢
      exact B.ftw j hj hp
  · intro j hj t ht hp hf
    by_cases e : j = k
    · rw [e] at ht
      rw [e, hkk]
      by_cases htn : t < n
      · exact late t ht hf htn
      · have : atN found t = 0 := by
          unfold atN
          rw [List.getD_eq_getElem?_getD, List.getElem?_eq_none (by rw [B.lenF]; omega)]
          rfl
        omega
    · rw [hko j e] at hp ⊢
      exact B.ftm j hj t ht hp hf
  · intro u hu
    by_cases e : ow k = u
    · subst e
      rw [atN_set_eq (by rw [B.lenL]; exact hu), hl]
      omega
    · rw [atN_set_ne e, cnt_ne e]
      exact B.lft u hu
  · intro u hu
    by_cases e : ow k = u
    · subst e
      rw [atN_set_eq (by rw [B.lenL]; exact hu)]
      exact ⟨fun z => absurd z hfo, fun z => absurd z hne⟩
    · rw [atN_set_ne e]
      exact B.rk u hu
  · intro u hu hp
    have e : ow k ≠ u := fun z => hfo (z ▸ hp)
    obtain ⟨p1, p2⟩ := B.val u hu hp
    refine ⟨fun j hj hju => ?_, ?_⟩
    · rw [hko j (fun z => e (z ▸ hju))]
      exact p1 j hj hju
    · rcases p2 with q | ⟨j, hj, hju, q⟩
      · exact .inl q
      · exact .inr ⟨j, hj, hju, by rw [hko j (fun z => e (z ▸ hju))]; exact q⟩
  · intro i t hi ht j hj hm'
    by_cases e : j = k
    · rw [e, hkk]
      omega
    · rw [hko j e]
      exact B.cmpl i t hi ht j hj hm'
/-- an option fails, the last of its owner -/
theorem BI.lose (B : BI n mK ow T left found lost ft d cur) {v k : Nat} (hv : lost[d]? = some v) (hcur : atN found v = cur) (hk : k < mK) (hm : v ∈ T k) (h0 : ft k = 0) (how : ow k < n) (hz : atN left (ow k) - 1 = 0) :
    BI n mK ow T (left.set (ow k) (atN left (ow k) - 1)) (found.set (ow k) (cur + 1)) (lost ++ [ow k]) (upF ft k cur) d cur := by
  have c1 := B.cur1
  have hcn := cnt_up (ow := ow) (c := cur) hk h0 (by omega)
  have hl := B.lft (ow k) how
  have hkk : upF ft k cur k = cur := if_pos rfl
  have hko : ∀ j, j ≠ k → upF ft k cur j = ft j := fun j hj => if_neg hj
  have hfo : ¬ 0 < atN found (ow k) := fun z => by
    have := (B.rk (ow k) how).mp z
    omega
  have hnl : ¬ ow k ∈ lost := fun z => hfo (B.lostR _ z).2
  have hdl : d < lost.length := (List.getElem?_eq_some_iff.mp hv).1
  have late : ∀ t, t ∈ T k → 0 < atN found t → t < n → cur ≤ atN found t := fun t ht hp htn => by
    obtain ⟨i, hi, e⟩ := List.getElem_of_mem (B.lostI t htn hp)
    have e' : lost[i]? = some t := by rw [List.getElem?_eq_getElem hi, e]
    by_cases hd : i < d
    · have := B.cmpl i t hd e' k hk ht
      omega
    · exact B.todo i t (by omega) e'
  have fs : atN (found.set (ow k) (cur + 1)) (ow k) = cur + 1 := atN_set_eq (by rw [B.lenF]; exact how)
  have fo : ∀ u, ow k ≠ u → atN (found.set (ow k) (cur + 1)) u = atN found u := fun u e => atN_set_ne e
  have out : ∀ t, ¬ t < n → atN found t = 0 := fun t ht => by
    unfold atN
    rw [List.getD_eq_getElem?_getD, List.getElem?_eq_none (by rw [B.lenF]; omega)]
    rfl
  have app : ∀ i u, (lost ++ [ow k])[i]? = some u → (lost[i]? = some u ∧ ow k ≠ u) ∨ (i = lost.length ∧ u = ow k) := fun i u h => by
    by_cases hi : i < lost.length
    · rw [List.getElem?_append_left hi] at h
      exact .inl ⟨h, fun z => hnl (z ▸ List.mem_of_getElem? h)⟩
    · rw [List.getElem?_append_right (by omega)] at h
      have hi' : i - lost.length < 1 := by
        have := (List.getElem?_eq_some_iff.mp h).1
        simpa using this
      have : i = lost.length := by omega
      subst this
      simp at h
      exact .inr ⟨rfl, h.symm⟩
  refine { lenL := ?_, lenF := ?_, nd := ?_, lostR := ?_, lostI := ?_, pos := ?_, cur1 := c1, top := ?_, todo := ?_, sorted := ?_, ft0 := ?_, ftw := ?_, ftm := ?_, lft := ?_, rk := ?_, val := ?_, cmpl := ?_ }
  · rw [List.length_set]; exact B.lenL
  · rw [List.length_set]; exact B.lenF
  · rw [List.nodup_append]
    refine ⟨B.nd, by simp, fun a ha b hb e => ?_⟩
    rw [List.mem_singleton.mp hb] at e
    exact hnl (e ▸ ha)
  · intro u hu
    rcases List.mem_append.mp hu with q | q
    · have e : ow k ≠ u := fun z => hnl (z ▸ q)
      rw [fo u e]
      exact B.lostR u q
    · rw [List.mem_singleton.mp q, fs]
      exact ⟨how, by omega⟩
  · intro u hu hp
    by_cases e : ow k = u
    · rw [← e]; simp
    · rw [fo u e] at hp
      exact List.mem_append_left _ (B.lostI u hu hp)
  · intro u hu
    by_cases e : ow k = u
    · rw [← e, fs]; omega
    · rw [fo u e]; exact B.pos u hu
  · intro u hu
    rcases List.mem_append.mp hu with q | q
    · have e : ow k ≠ u := fun z => hnl (z ▸ q)
      rw [fo u e]
      exact B.top u q
    · rw [List.mem_singleton.mp q, fs]; omega
  · intro i u hi hu
    rcases app i u hu with ⟨q, e⟩ | ⟨q, e⟩
    · rw [fo u e]; exact B.todo i u hi q
    · rw [e, fs]; omega
  · intro i j u w hij hu hw
    rcases app i u hu with ⟨q, e⟩ | ⟨q, e⟩
    · rcases app j w hw with ⟨q', e'⟩ | ⟨q', e'⟩
      · rw [fo u e, fo w e']; exact B.sorted i j u w hij q q'
      · rw [fo u e, e', fs]; exact B.top u (List.mem_of_getElem? q)
    · rcases app j w hw with ⟨q', e'⟩ | ⟨q', e'⟩
      · have := (List.getElem?_eq_some_iff.mp q').1
        omega
      · rw [e, e']; exact Int.le_refl _
  · intro j hj
    by_cases e : j = k
    · rw [e, hkk]; omega
    · rw [hko j e]; exact B.ft0 j hj
  · intro j hj hp
    by_cases e : j = k
    · rw [e, hkk]
      refine ⟨v, hm, ?_⟩
      rw [fo v (fun z => hnl (z ▸ List.mem_of_getElem? hv))]
      exact hcur
    · rw [hko j e] at hp ⊢
      obtain ⟨t, ht, q⟩ := B.ftw j hj hp
      refine ⟨t, ht, ?_⟩
      rw [fo t (fun z => hfo (by rw [z, q]; exact hp))]
      exact q
  · intro j hj t ht hp hf
    by_cases eo : ow k = t
    · rw [← eo, fs]
      by_cases e : j = k
      · rw [e, hkk]; omega
      · rw [hko j e]; have := B.ft0 j hj; omega
    · rw [fo t eo] at hf ⊢
      by_cases e : j = k
      · rw [e] at ht
        rw [e, hkk]
        by_cases htn : t < n
        · exact late t ht hf htn
        · have := out t htn; omega
      · rw [hko j e] at hp ⊢
        exact B.ftm j hj t ht hp hf
  · intro u hu
    by_cases e : ow k = u
    · subst e
      rw [atN_set_eq (by rw [B.lenL]; exact hu), hl]
      omega
    · rw [atN_set_ne e, cnt_ne e]
      exact B.lft u hu
  · intro u hu
    by_cases e : ow k = u
    · subst e
      rw [fs, atN_set_eq (by rw [B.lenL]; exact hu)]
      exact ⟨fun _ => hz, fun _ => by omega⟩
    · rw [fo u e, atN_set_ne e]
      exact B.rk u hu
  · intro u hu hp
    by_cases e : ow k = u
    · subst e
      rw [fs]
      refine ⟨fun j hj hju => ?_, .inr ⟨k, hk, rfl, by rw [hkk]⟩⟩
      by_cases e' : j = k
      · rw [e', hkk]; omega
      · rw [hko j e']; have := B.ft0 j hj; omega
    · rw [fo u e] at hp ⊢
      obtain ⟨p1, p2⟩ := B.val u hu hp
      refine ⟨fun j hj hju => ?_, ?_⟩
      · rw [hko j (fun z => e (z ▸ hju))]
        exact p1 j hj hju
      · rcases p2 with q | ⟨j, hj, hju, q⟩
        · exact .inl q
        · exact .inr ⟨j, hj, hju, by rw [hko j (fun z => e (z ▸ hju))]; exact q⟩
  · intro i t hi ht j hj hm'
    rcases app i t ht with ⟨q, e⟩ | ⟨q, e⟩
    · by_cases e : j = k
      · rw [e, hkk]; omega
      · rw [hko j e]
        exact B.cmpl i t hi q j hj hm'
    · omega
/-- what the search says at its end -/
structure Post (n mK : Nat) (ow : Nat → Nat) (T : Nat → List Nat) (found : List Int) (ft : Nat → Int) : Prop where
  len : found.length = n
  pos : ∀ v, v < n → 0 ≤ atN found v
  f0 : ∀ k, k < mK → 0 ≤ ft k
  fw : ∀ k, k < mK → 0 < ft k → ∃ t, t ∈ T k ∧ atN found t = ft k
  fm : ∀ k, k < mK → ∀ t, t ∈ T k → t < n → 0 < atN found t → 0 < ft k ∧ ft k ≤ atN found t
  zero : ∀ v, v < n → atN found v = 0 → ∃ k, k < mK ∧ ow k = v ∧ ft k = 0
  val : ∀ v, v < n → 0 < atN found v → (∀ k, k < mK → ow k = v → 0 < ft k ∧ ft k + 1 ≤ atN found v) ∧ (atN found v = 1 ∨ ∃ k, k < mK ∧ ow k = v ∧ atN found v = ft k + 1)
theorem BI.post (B : BI n mK ow T left found lost ft d cur) (h : lost.length ≤ d) : Post n mK ow T found ft where
  len := B.lenF
  pos := B.pos
  f0 := fun k hk => (B.ft0 k hk).1
  fw := B.ftw
  fm := fun k hk t ht htn hp => by
    obtain ⟨i, hi, e⟩ := List.getElem_of_mem (B.lostI t htn hp)
    have e' : lost[i]? = some t := by rw [List.getElem?_eq_getElem hi, e]
    have q := B.cmpl i t (by omega) e' k hk ht
    exact ⟨q, B.ftm k hk t ht q hp⟩
  zero := fun v hv h0 => by
    refine cnt_pos fun z => ?_
    have q : atN left v = 0 := by rw [B.lft v hv, z]; rfl
    have := (B.rk v hv).mpr q
    omega
  val := fun v hv hp => by
    have q := (B.rk v hv).mp hp
    have z : cnt mK ow ft v = 0 := by have := B.lft v hv; omega
    obtain ⟨p1, p2⟩ := B.val v hv hp
    refine ⟨fun k hk e => ⟨?_, p1 k hk e⟩, p2⟩
    have := cnt_zero z k hk e
    have := (B.ft0 k hk).1
    omega
/-- the start -/
theorem BI.start (hl : left.length = n) (hf : found.length = n) (hlost : lost = (List.range n).filter fun v => decide (atN left v = 0)) (hc : ∀ v, v < n → atN left v = (cnt mK ow (fun _ => 0) v : Nat))
    (hfv : ∀ v, v < n → atN found v = if atN left v = 0 then 1 else 0) : BI n mK ow T left found lost (fun _ => 0) 0 1 := by
  have mem : ∀ v, v ∈ lost ↔ v < n ∧ atN left v = 0 := fun v => by
    rw [hlost, List.mem_filter, List.mem_range]
    simp
  have one : ∀ v, v ∈ lost → atN found v = 1 := fun v hv => by
    obtain ⟨h1, h2⟩ := (mem v).mp hv
    rw [hfv v h1, if_pos h2]
  refine { lenL := hl, lenF := hf, nd := ?_, lostR := ?_, lostI := ?_, pos := ?_, cur1 := Int.le_refl _, top := ?_, todo := ?_, sorted := ?_, ft0 := ?_, ftw := ?_, ftm := ?_, lft := hc, rk := ?_, val := ?_, cmpl := ?_ }
  · rw [hlost]
    exact List.nodup_range.filter _
  · intro v hv
    exact ⟨((mem v).mp hv).1, by rw [one v hv]; decide⟩
  · intro v hv hp
    rw [hfv v hv] at hp
    split at hp
    · rename_i q; exact (mem v).mpr ⟨hv, q⟩
    · omega
  · intro v hv
    rw [hfv v hv]
    split <;> omega
  · intro v hv
    rw [one v hv]; decide
  · intro i v _ h
    rw [one v (List.mem_of_getElem? h)]; exact Int.le_refl _
  · intro i j u v _ h1 h2
    rw [one u (List.mem_of_getElem? h1), one v (List.mem_of_getElem? h2)]; exact Int.le_refl _
  · intro k _; exact ⟨Int.le_refl _, by decide⟩
  · intro k _ h; exact absurd h (by decide)
  · intro k _ t _ h; exact absurd h (by decide)
  · intro v hv
    rw [hfv v hv]
    split
    · rename_i q; exact ⟨fun _ => q, fun _ => by decide⟩
    · rename_i q; exact ⟨fun z => absurd z (by decide), fun z => absurd z q⟩
  · intro v hv hp
    rw [hfv v hv] at hp ⊢
    split at hp
    · rename_i q
      rw [if_pos q]
      exact ⟨fun _ _ _ => Int.le_refl _, .inl rfl⟩
    · omega
  · intro i t hi; omega
end

theorem atR_nat (R : List Int) (t : Nat) : atR R (t : Int) = atN R t := by
  unfold atR atN
  rw [Int.toNat_natCast]
theorem atR_toNat (R : List Int) (t : Int) : atR R t = atN R t.toNat := rfl
theorem fateL_take (R l : List Int) : ∀ i, i ≤ l.length → (fateL R (l.take i) = 0 ∧ ∀ t, t ∈ l.take i → ¬ 0 < atR R t) ∨ ∃ m, 0 < m ∧ fateL R (l.take i) = m + 1 ∧ (∃ t, t ∈ l.take i ∧ atR R t = m) ∧ ∀ t, t ∈ l.take i → 0 < atR R t → m ≤ atR R t
  | 0, _ => .inl ⟨rfl, by simp⟩
  | i + 1, h => by
    have hx : l[i]? = some l[i] := List.getElem?_eq_getElem (by omega)
    have ts := take_snoc hx
    have fs := fateL_snoc R (l.take i) l[i]
    rw [ts]
    generalize l[i] = x at *
    rcases fateL_take R l i (by omega) with ⟨h1, h2⟩ | ⟨m, h0, h1, ⟨t, ht, he⟩, h3⟩
    · by_cases c : 0 < atR R x
      · rw [if_pos ⟨c, .inl h1⟩] at fs
        refine .inr ⟨atR R x, c, fs, ⟨x, by simp, rfl⟩, fun u hu hp => ?_⟩
        rcases List.mem_append.mp hu with q | q
        · exact absurd hp (h2 u q)
        · rw [List.mem_singleton.mp q]
          exact Int.le_refl _
      · rw [if_neg (fun z => c z.1), h1] at fs
        refine .inl ⟨fs, fun u hu => ?_⟩
        rcases List.mem_append.mp hu with q | q
        · exact h2 u q
        · rw [List.mem_singleton.mp q]
          exact c
    · by_cases c : 0 < atR R x ∧ (fateL R (l.take i) = 0 ∨ atR R x + 1 < fateL R (l.take i))
      · rw [if_pos c] at fs
        have c2 : atR R x < m := by
          rcases c.2 with z | z <;> omega
        refine .inr ⟨atR R x, c.1, fs, ⟨x, by simp, rfl⟩, fun u hu hp => ?_⟩
        rcases List.mem_append.mp hu with q | q
        · have := h3 u q hp
          omega
        · rw [List.mem_singleton.mp q]
          exact Int.le_refl _
      · rw [if_neg c, h1] at fs
        refine .inr ⟨m, h0, fs, ⟨t, by simp [ht], he⟩, fun u hu hp => ?_⟩
        rcases List.mem_append.mp hu with q | q
        · exact h3 u q hp
        · rw [List.mem_singleton.mp q] at hp ⊢
          have : ¬ (fateL R (l.take i) = 0 ∨ atR R x + 1 < fateL R (l.take i)) := fun z => c ⟨hp, z⟩
          omega
theorem fateL_cases (R l : List Int) : (fateL R l = 0 ∧ ∀ t, t ∈ l → ¬ 0 < atR R t) ∨ ∃ m, 0 < m ∧ fateL R l = m + 1 ∧ (∃ t, t ∈ l ∧ atR R t = m) ∧ ∀ t, t ∈ l → 0 < atR R t → m ≤ atR R t := by
  have := fateL_take R l l.length (Nat.le_refl _)
  rwa [List.take_length] at this
theorem due_zero (R : List Int) : ∀ (nd : Node) (w : Int), (∃ o, o ∈ nd ∧ fate R o = 0) → dueFrom R w nd = 0
  | [], w, ⟨o, h, _⟩ => by cases h
  | a :: nd, w, ⟨o, h, e⟩ => by
    unfold dueFrom
    by_cases c : fate R a = 0
    · rw [if_pos c]
    · rw [if_neg c]
      rcases List.mem_cons.mp h with q | q
      · rw [q] at e; exact absurd e c
      · exact due_zero R nd _ ⟨o, q, e⟩
theorem due_val (R : List Int) (x : Int) : ∀ (nd : Node) (w : Int), (∀ o, o ∈ nd → fate R o ≠ 0 ∧ fate R o ≤ x) → w ≤ x → (w = x ∨ ∃ o, o ∈ nd ∧ fate R o = x) → dueFrom R w nd = x
  | [], w, _, _, h => by
    rcases h with h | ⟨o, h, _⟩
    · exact h
    · cases h
  | a :: nd, w, h, hw, hx => by
    have ha := h a List.mem_cons_self
    unfold dueFrom
    rw [if_neg ha.1]
    refine due_val R x nd _ (fun o ho => h o (List.mem_cons_of_mem _ ho)) ?_ ?_
    · split
      · exact ha.2
      · exact hw
    · rcases hx with e | ⟨o, ho, e⟩
      · left
        split
        · have := ha.2; omega
        · exact e
      · rcases List.mem_cons.mp ho with q | q
        · left
          rw [← q, e]
          split
          · rfl
          · omega
        · exact .inr ⟨o, q, e⟩
/-- the options of a node, with the node's number -/
def opts (i : Nat) (nd : Node) : List (Nat × List Int) := nd.filterMap fun o => o.map fun l => (i, l)
def flatN (G : List Node) (i : Nat) : List (Nat × List Int) := (List.range i).flatMap fun j => opts j (G.getD j [])
theorem flatN_succ (G : List Node) (i : Nat) : flatN G (i + 1) = flatN G i ++ opts i (G.getD i []) := by
  unfold flatN
  rw [List.range_succ, List.flatMap_append]
  simp
theorem mem_opts {i j : Nat} {nd : Node} {l : List Int} : (j, l) ∈ opts i nd ↔ j = i ∧ some l ∈ nd := by
  unfold opts
  rw [List.mem_filterMap]
  constructor
  · rintro ⟨o, ho, e⟩
    cases o with
    | none => cases e
    | some l' =>
      simp at e
      obtain ⟨rfl, rfl⟩ := e
      exact ⟨rfl, ho⟩
  · rintro ⟨rfl, h⟩
    exact ⟨_, h, rfl⟩
theorem mem_flat {G : List Node} {i : Nat} {l : List Int} {n : Nat} (hn : n ≤ G.length) : (i, l) ∈ flatN G n ↔ i < n ∧ ∃ nd, G[i]? = some nd ∧ some l ∈ nd := by
  unfold flatN
  rw [List.mem_flatMap]
  constructor
  · rintro ⟨j, hj, h⟩
    obtain ⟨rfl, h⟩ := mem_opts.mp h
    have hj := List.mem_range.mp hj
    refine ⟨hj, _, List.getElem?_eq_getElem (by omega), ?_⟩
    rw [List.getD_eq_getElem?_getD, List.getElem?_eq_getElem (by omega)] at h
    exact h
  · rintro ⟨hi, nd, e, h⟩
    refine ⟨i, List.mem_range.mpr hi, mem_opts.mpr ⟨rfl, ?_⟩⟩
    rw [List.getD_eq_getElem?_getD, e]
    exact h
def owF (F : List (Nat × List Int)) (k : Nat) : Nat := (F.getD k (0, [])).1
def tgF (F : List (Nat × List Int)) (k : Nat) : List Nat := (F.getD k (0, [])).2.map Int.toNat
/-- what the search says is what the game's equations ask -/
theorem isR_of {G : List Node} {R : List Int} {ft : Nat → Int} (hG : GOk G.length G) (P : Post G.length (flatN G G.length).length (owF (flatN G G.length)) (tgF (flatN G G.length)) R ft) : IsR G R := by
  have fk : ∀ k, k < (flatN G G.length).length → ∀ i l, (flatN G G.length)[k]? = some (i, l) → fateL R l = if ft k = 0 then 0 else ft k + 1 := by
    intro k hk i l e
    have et : tgF (flatN G G.length) k = l.map Int.toNat := by
      unfold tgF
      rw [List.getD_eq_getElem?_getD, e]
      rfl
    obtain ⟨_, nd, hnd, hm⟩ := (mem_flat (Nat.le_refl _)).mp (List.mem_of_getElem? e)
    have hb := ((hG nd (List.mem_of_getElem? hnd)).2 _ hm l rfl).2
    have hf0 := P.f0 k hk
    have hw := P.fw k hk
    have hmm := P.fm k hk
    rw [et] at hw hmm
    rcases fateL_cases R l with ⟨h1, h2⟩ | ⟨m, h0, h1, ⟨t, ht, he⟩, h3⟩
    · rw [h1, if_pos]
      by_cases c : 0 < ft k
      · obtain ⟨t, ht, q⟩ := hw c
        obtain ⟨t', ht', rfl⟩ := List.mem_map.mp ht
        exact absurd (by rw [atR_toNat, q]; exact c) (h2 t' ht')
      · omega
    · have q := hmm t.toNat (List.mem_map.mpr ⟨t, ht, rfl⟩) (by have := hb t ht; omega) (by rw [← atR_toNat, he]; exact h0)
      obtain ⟨t2, ht2, q2⟩ := hw q.1
      obtain ⟨t3, ht3, rfl⟩ := List.mem_map.mp ht2
      have q3 := h3 t3 ht3 (by rw [atR_toNat, q2]; exact q.1)
      rw [atR_toNat] at he q3
      rw [h1, if_neg (by omega)]
      omega
  refine ⟨P.len, fun r hr => ?_, fun i nd hnd => ?_⟩
  · obtain ⟨j, hj, e⟩ := List.getElem_of_mem hr
    have := P.pos j (by rw [← P.len]; exact hj)
    unfold atN at this
    rw [List.getD_eq_getElem?_getD, List.getElem?_eq_getElem hj] at this
    simpa [e] using this
  · have hi : i < G.length := (List.getElem?_eq_some_iff.mp hnd).1
    have hiR : R[i]? = some (atN R i) := by
      unfold atN
      rw [List.getD_eq_getElem?_getD, List.getElem?_eq_getElem (by rw [P.len]; exact hi)]
      rfl
    rw [hiR]
    congr 1
    have own : ∀ k l, (flatN G G.length)[k]? = some (i, l) → owF (flatN G G.length) k = i := fun k l e => by
      unfold owF
      rw [List.getD_eq_getElem?_getD, e]
      rfl
    have back : ∀ k, k < (flatN G G.length).length → owF (flatN G G.length) k = i → ∃ l, (flatN G G.length)[k]? = some (i, l) ∧ some l ∈ nd := fun k hk e => by
      have e1 : (flatN G G.length)[k]? = some (flatN G G.length)[k] := List.getElem?_eq_getElem hk
      generalize hp : (flatN G G.length)[k] = p at e1
      obtain ⟨j, l⟩ := p
      unfold owF at e
      rw [List.getD_eq_getElem?_getD, e1] at e
      have e : j = i := e
      subst e
      obtain ⟨_, nd', h1, h2⟩ := (mem_flat (Nat.le_refl _)).mp (List.mem_of_getElem? e1)
      rw [hnd] at h1
      rw [← Option.some.inj h1] at h2
      exact ⟨l, e1, h2⟩
    have forth : ∀ l, some l ∈ nd → ∃ k, k < (flatN G G.length).length ∧ (flatN G G.length)[k]? = some (i, l) := fun l h => by
      have := (mem_flat (G := G) (Nat.le_refl _)).mpr ⟨hi, nd, hnd, h⟩
      obtain ⟨k, hk, e⟩ := List.getElem_of_mem this
      exact ⟨k, hk, by rw [List.getElem?_eq_getElem hk, e]⟩
    by_cases c : 0 < atN R i
    · obtain ⟨p1, p2⟩ := P.val i hi c
      refine (due_val R _ nd 1 (fun o ho => ?_) (by omega) ?_).symm
      · cases o with
        | none => exact ⟨by show (1 : Int) ≠ 0; decide, by show (1 : Int) ≤ _; omega⟩
        | some l =>
          obtain ⟨k, hk, e⟩ := forth l ho
          have q := p1 k hk (own k l e)
          show fateL R l ≠ 0 ∧ fateL R l ≤ _
          rw [fk k hk i l e, if_neg (by omega)]
          exact ⟨by omega, by omega⟩
      · rcases p2 with q | ⟨k, hk, e, q⟩
        · exact .inl q.symm
        · obtain ⟨l, e1, h⟩ := back k hk e
          refine .inr ⟨some l, h, ?_⟩
          have := p1 k hk e
          show fateL R l = _
          rw [fk k hk i l e1, if_neg (by omega), q]
    · have z : atN R i = 0 := by have := P.pos i hi; omega
      obtain ⟨k, hk, e, q⟩ := P.zero i hi z
      obtain ⟨l, e1, h⟩ := back k hk e
      rw [z]
      refine (due_zero R nd 1 ⟨some l, h, ?_⟩).symm
      show fateL R l = 0
      rw [fk k hk i l e1, if_pos q]
section
variable {P : Program} {w : World} {K : PySem.W.Frag} {mg : Str → Option Value} {base : Heap}

abbrev nv (k : Nat) : V := .int (k : Int)
theorem smallM {n : Nat} (h : n ≤ 1000000) : n < sizeLine := Nat.lt_of_le_of_lt h (by rw [sizeLine_eq]; decide)
theorem ixN_n {n j : Nat} (hj : j < n) : ixN n (j : Int) = some j := by
  unfold ixN
  rw [if_pos (by omega), if_pos (by omega)]
  simp
theorem at_nat' {α : Type} {f : α → V} {l : List α} {k : Nat} {x : α} (h : l[k]? = some x) : atI (l.map f) (k : Int) = some (f x) := atI_nat (by rw [List.getElem?_map, h]; rfl)
theorem atN_get {R : List Int} {i : Nat} (h : i < R.length) : R[i]? = some (atN R i) := by
  unfold atN
  rw [List.getD_eq_getElem?_getD, List.getElem?_eq_getElem h]
  rfl
theorem set_map {α : Type} {f : α → V} {l : List α} {k : Nat} {x : α} : (l.map f).set k (f x) = (l.set k x).map f := by
  rw [List.map_set]
def failV (mK : Nat) (ft : Nat → Int) : List V := (List.range mK).map fun k => V.bl (decide (0 < ft k))
theorem failV_set {mK k : Nat} {ft : Nat → Int} {c : Int} (hc : 0 < c) : (failV mK ft).set k (.bl true) = failV mK (upF ft k c) := by
  apply List.ext_getElem?
  intro i
  unfold failV
  by_cases e : k = i
  · subst e
    by_cases h : k < mK
    · rw [List.getElem?_set_self (by simpa using h), List.getElem?_map, List.getElem?_range h]
      simp [upF, hc]
    · rw [List.getElem?_eq_none (by simp; omega), List.getElem?_eq_none (by simp; omega)]
  · rw [List.getElem?_set_ne e, List.getElem?_map, List.getElem?_map]
    by_cases h : i < mK
    · rw [List.getElem?_range h]
      show some (V.bl (decide (0 < ft i))) = some (V.bl (decide (0 < upF ft k c i)))
      rw [show upF ft k c i = ft i from if_neg (fun z : i = k => e z.symm)]
    · rw [List.getElem?_eq_none (by simp; omega)]
      rfl
theorem range_getD {α : Type} (F : List α) (d : α) : (List.range F.length).map (fun k => F.getD k d) = F := by
  apply List.ext_getElem?
  intro i
  rw [List.getElem?_map]
  by_cases h : i < F.length
  · rw [List.getElem?_range h]
    show some (F.getD i d) = _
    rw [List.getD_eq_getElem?_getD, List.getElem?_eq_getElem h]
    rfl
  · rw [List.getElem?_eq_none (by simp; omega), List.getElem?_eq_none (by omega)]
    rfl
theorem cnt_start (F : List (Nat × List Int)) (v : Nat) : cnt F.length (owF F) (fun _ => 0) v = F.countP fun p => decide (p.1 = v) := by
  have e : F.countP (fun p => decide (p.1 = v)) = ((List.range F.length).map (fun k => F.getD k (0, []))).countP (fun p => decide (p.1 = v)) := by rw [range_getD]
  rw [e, List.countP_map]
  unfold cnt
  apply List.countP_congr
  intro k hk
  simp [owF]
theorem failV_at {mK k : Nat} {ft : Nat → Int} (h : k < mK) : (failV mK ft)[k]? = some (V.bl (decide (0 < ft k))) := by
  unfold failV
  rw [List.getElem?_map, List.getElem?_range h]
  rfl
theorem failV_len {mK : Nat} {ft : Nat → Int} : (failV mK ft).length = mK := by simp [failV]
def doneOf (i : Nat) (σ : L2.St) : Nat := match (σ[i]? : Option (Option V)) with
  | some (some (V.int d)) => d.toNat
  | _ => 0
def sp_lost_in_turn (K : PySem.W.Frag) : Sp := fun vs H Q _ => ∃ (o u : Addr) (F : List (Nat × List Int)) (us : List Addr) (ut : Nat → List Nat), vs = [.ref o, .ref u] ∧ SqL K H o (F.map fun p => nv p.1) ∧ SqL K H u (us.map V.ref) ∧
  (∀ t p, us[t]? = some p → SqL K H p ((ut t).map nv)) ∧ (∀ t, t < us.length → ∀ k, k ∈ ut t ↔ k < F.length ∧ t ∈ tgF F k) ∧ (∀ k, k < F.length → owF F k < us.length) ∧ us.length ≤ 12000 ∧ F.length ≤ 240000 ∧
  ∀ (p : Addr) (R : List Int) (ft : Nat → Int) (H' : Hp), Same H H' → H p = none → H' p = some (.lst (R.map V.int)) → Post us.length F.length (owF F) (tgF F) R ft → Q (.ref p) H'

theorem ok_lost_in_turn {f : Addr} {fd : FuncData} (F : Fun K "_lost_in_turn" "_lost_in_turn" s_lost_in_turn f fd) (T : Txt K mg) : FnOk P w K mg base CX0 1 f fd P_lost_in_turn (sp_lost_in_turn K) := by
  refine F.ok sc_lost_in_turn (fun vs H Q E h => ?_) (fun cdv A outer s H vs Q E hr h => ?_)
  · obtain ⟨o, u, F, us, ut, rfl, hO, hU, hut, huse, hown, hn, hF, k⟩ := h
    rfl
  · obtain ⟨o, u, F, us, ut, rfl, hO, hU, hut, huse, hown, hn, hF, k⟩ := h
    refine ⟨_, (pss_cons (ps_setLc (i := 2) (own := [("_", 10)]) rfl sc_lost_in_turn.nd rfl rfl (sw_true rfl rfl rfl (by decide +kernel)) (pi_list (pv 1)) (blkOk_by (own := [("_", 10)]) (N := N_lost_in_turn) (sc := defScope s_lost_in_turn) (by decide +kernel)) (fun _ _ _ _ _ => (pg_name (i := 10) sc_lost_in_turn.nd rfl (by first | exact Or.inl rfl | exact Or.inr rfl))) (fun _ _ _ _ _ => pts_nil) (fun _ _ _ _ _ => pe_int))
  (pss_cons (ps_for PassesOwn.never rfl (pi_list (pv 0)) (pg_name (i := 3) sc_lost_in_turn.nd rfl (by first | exact Or.inl rfl | exact Or.inr rfl))
  (pss_one (ps_augS (pv 2) (pv 3) get_list pe_int ip_add set_list)))
  (pss_cons (ps_setLc (i := 4) (g := gTup K 2 (gCons (gName 8) (gCons (gName 11) gNil))) (own := [("node", 8), ("count", 11)]) rfl sc_lost_in_turn.nd rfl rfl (sw_true rfl rfl rfl (by decide +kernel)) (pi_enum (by rfl) T.b_enumerate (pa_cons (pv 2) pa_nil)) (blkOk_by (own := [("node", 8), ("count", 11)]) (N := N_lost_in_turn) (sc := defScope s_lost_in_turn) (by decide +kernel)) (fun _ _ _ _ _ => (pg_tup rfl (pgs_cons (pg_name (i := 8) sc_lost_in_turn.nd rfl (by first | exact Or.inl rfl | exact Or.inr rfl)) (pgs_cons (pg_name (i := 11) sc_lost_in_turn.nd rfl (by first | exact Or.inl rfl | exact Or.inr rfl)) pgs_nil)))) (fun _ _ _ _ _ => (pts_one (pt_cmpR op_eq (pv 11) pe_int (nomark _)))) (fun _ _ _ _ _ => (pv 8)))
  (pss_cons (ps_setLc (i := 5) (own := [("count", 11)]) rfl sc_lost_in_turn.nd rfl rfl (sw_true rfl rfl rfl (by decide +kernel)) (pi_list (pv 2)) (blkOk_by (own := [("count", 11)]) (N := N_lost_in_turn) (sc := defScope s_lost_in_turn) (by decide +kernel)) (fun _ _ _ _ _ => (pg_name (i := 11) sc_lost_in_turn.nd rfl (by first | exact Or.inl rfl | exact Or.inr rfl))) (fun _ _ _ _ _ => pts_nil) (fun _ _ _ _ _ => (pe_ifExp (pt_cmpR op_eq (pv 11) pe_int (nomark _)) pe_int pe_int)))
  (pss_cons (ps_setLc (i := 6) (own := [("_", 10)]) rfl sc_lost_in_turn.nd rfl rfl (sw_true rfl rfl rfl (by decide +kernel)) (pi_list (pv 0)) (blkOk_by (own := [("_", 10)]) (N := N_lost_in_turn) (sc := defScope s_lost_in_turn) (by decide +kernel)) (fun _ _ _ _ _ => (pg_name (i := 10) sc_lost_in_turn.nd rfl (by first | exact Or.inl rfl | exact Or.inr rfl))) (fun _ _ _ _ _ => pts_nil) (fun _ _ _ _ _ => pe_bl))
  (pss_cons (ps_set (i := 7) sc_lost_in_turn.nd rfl (by first | exact Or.inl rfl | exact Or.inr rfl) pe_int)
  (pss_cons (ps_while PassesOwn.never (pt_cmpR op_lt (pv 7) (pe_callB call_len_seq (by rfl) T.b_len PySem.boot_len (pa_cons (pv 4) pa_nil)) (nomark _))
  (pss_cons (ps_set (i := 8) sc_lost_in_turn.nd rfl (by first | exact Or.inl rfl | exact Or.inr rfl) (pe_ix ix_list (pv 4) (pv 7) (fun _ _ => rfl)))
  (pss_cons (ps_aug (i := 7) sc_lost_in_turn.nd rfl (by first | exact Or.inl rfl | exact Or.inr rfl) pe_int ip_add)
  (pss_one (ps_for PassesOwn.never rfl (pi_list (pe_ix ix_list (pv 1) (pv 8) (fun _ _ => rfl))) (pg_name (i := 9) sc_lost_in_turn.nd rfl (by first | exact Or.inl rfl | exact Or.inr rfl))
  (pss_cons (ps_if (pt_val (pe_ix ix_list (pv 6) (pv 9) (fun _ _ => rfl)))
  (pss_one ps_continue)
  pss_nil)
  (pss_cons (ps_asg pe_bl (pg_sub (pv 6) (pv 9) set_list))
  (pss_cons (ps_set (i := 3) sc_lost_in_turn.nd rfl (by first | exact Or.inl rfl | exact Or.inr rfl) (pe_ix ix_list (pv 0) (pv 9) (fun _ _ => rfl)))
  (pss_cons (ps_augS (pv 2) (pv 3) get_list pe_int ip_sub set_list)
  (pss_one (ps_if (pt_cmpR op_eq (pe_ix ix_list (pv 2) (pv 3) (fun _ _ => rfl)) pe_int (nomark _))
  (pss_cons (ps_asg (pe_op op_add (pe_ix ix_list (pv 5) (pv 8) (fun _ _ => rfl)) pe_int) (pg_sub (pv 5) (pv 3) set_list))
  (pss_one (ps_expr (pe_bm PySem.F.plainAttrs_list PySem.F.slot_list_append PySem.F.type_list_append mt_append (pv 4) (pa_cons (pv 3) pa_nil)))))
  pss_nil)))))))))))
  (pss_one (ps_ret (pv 5)))))))))), ?_⟩
    -- left = [0 for _ in uses]
    refine ⟨_, rfl, u, rfl, ⟨_, hU⟩, fun L hL => ?_⟩
    refine lc_it walk_list (fun i H1 => H1 L = some (.lst (List.replicate i (V.int 0))) ∧ Same H H1) ⟨upd_same, Same.new hL⟩ (fun i H1 _ h => h.2.seq hU) ?_ ?_
    · rintro i x H1o H1 hi ⟨e1, s1⟩ ⟨rfl, hx⟩
      refine ⟨rfl, _, e1, smallM (by simp at hi; simp; omega), ?_, fun b o e => ?_⟩
      · rw [List.replicate_succ']
        exact upd_same
      · rw [upd_ne (ne_of_none e hL)]
        exact s1 _ _ e
    rintro H1 ⟨e1, s1⟩
    rw [List.length_map] at e1
    -- for owner in owners: left[owner] += 1
    refine ⟨_, rfl, o, rfl, ⟨_, s1.seq hO⟩, ?_⟩
    refine for_it walk_list (fun i σ H2 => ∃ (w3 : Option V) (lf : List Int), σ = [some (.ref o), some (.ref u), some (.ref L), w3, none, none, none, none, none, none, none, none] ∧ H2 L = some (.lst (lf.map V.int)) ∧ lf.length = us.length ∧
        (∀ v, v < us.length → atN lf v = (((F.take i).countP fun p => decide (p.1 = v)) : Nat)) ∧ Same H H2)
      ⟨_, List.replicate us.length 0, rfl, by rw [List.map_replicate]; exact e1, by simp, fun v hv => by simp [atN, List.getElem?_replicate, hv], s1⟩ (fun i σ H2 _ ⟨_, _, _, _, _, _, s2⟩ => s2.seq hO) ?_ ?_
    · rintro i x σ H2o H2 hi ⟨w3, lf, rfl, e2, l2, c2, s2⟩ ⟨rfl, hx⟩
      obtain ⟨p, hp, rfl⟩ := map_at hx
      have hpi : i < F.length := (List.getElem?_eq_some_iff.mp hp).1
      have hpn : p.1 < us.length := by
        have := hown i hpi
        unfold owF at this
        rwa [List.getD_eq_getElem?_getD, hp] at this
      refine ⟨_, rfl, _, rfl, ?_⟩
      refine ⟨L, _, _, _, rfl, rfl, SqL.of e2, by omega, (by rw [Int.toNat_natCast, List.getElem?_map, atN_get (by omega)]; rfl), ?_⟩
      refine ⟨_, _, rfl, rfl, L, _, _, p.1, rfl, rfl, e2, ixN_n (by simp; omega), ?_⟩
      refine ⟨_, lf.set p.1 (atN lf p.1 + 1), rfl, by rw [← set_map]; exact upd_same, by rw [List.length_set]; exact l2, fun v hv => ?_, fun b o' e => ?_⟩
      · rw [take_snoc hp, List.countP_append]
        by_cases e : p.1 = v
        · subst e
          rw [atN_set_eq (by omega), c2 _ hv]
          simp
        · rw [atN_set_ne e, c2 _ hv]
          simp [e]
      · rw [upd_ne (ne_of_none e hL)]
        exact s2 _ _ e
    rintro σ H2 ⟨w3, lf, rfl, e2, l2, c2, s2⟩
    rw [List.length_map, List.take_length] at c2
    -- lost = [node for node, count in enumerate(left) if count == 0]
    refine ⟨_, rfl, L, _, rfl, SqL.of e2, fun D hD => ?_⟩
    refine lc_it walk_enum (fun i H3 => ∃ ls, ls = (List.range i).filter (fun v => decide (atN lf v = 0)) ∧ H3 D = some (.lst (ls.map nv)) ∧ Same H2 H3)
      ⟨[], rfl, upd_same, Same.new hD⟩ (fun i H3 _ ⟨_, _, _, s3⟩ => s3.seq (SqL.of e2)) ?_ ?_
    · rintro i x H3o H3 hi ⟨ls, rfl, e3, s3⟩ ⟨T0, x0, y0, rfl, hT, rfl, hx, hy⟩
      obtain rfl : x0 = nv i := (Option.some.inj hx).symm
      obtain ⟨z, hz, rfl⟩ := map_at hy
      have hi' : i < us.length := by rw [← l2]; simpa using hi
      have hzz : z = atN lf i := by rw [atN_get (by omega)] at hz; exact (Option.some.inj hz).symm
      have nDT : D ≠ T0 := ne_of_none e3 hT
      have hll : ((List.range i).filter (fun v => decide (atN lf v = 0))).length ≤ i := by
        have := List.length_filter_le (fun v => decide (atN lf v = 0)) (List.range i)
        rwa [List.length_range] at this
      refine ⟨T0, _, rfl, SqT.of upd_same, rfl, _, _, rfl, _, _, rfl, rfl, rfl, ?_⟩
      refine ⟨_, rfl, rfl, _, rfl, ?_⟩
      refine ite2 (fun c => ?_) (fun c => ?_)
      · have c : atN lf i = 0 := by have q := of_decide_eq_true c; injection q with q; rw [← hzz]; exact q
        refine ⟨_, rfl, _, (by rw [upd_ne nDT]; exact e3), smallM (by simp; omega), _, rfl, ?_, fun b o' e => ?_⟩
        · rw [List.range_succ, List.filter_append, List.map_append]
          simp only [List.filter_cons, List.filter_nil, c, decide_true, if_true]
          exact upd_same
        · rw [upd_ne (ne_of_none e hD), upd_ne (ne_of_none (s3 _ _ e) hT)]
          exact s3 _ _ e
      · have c : ¬ atN lf i = 0 := fun q => c (decide_eq_true (by rw [hzz, q]))
        refine ⟨_, rfl, ?_, fun b o' e => ?_⟩
        · rw [List.range_succ, List.filter_append, List.map_append]
          simp only [List.filter_cons, List.filter_nil, c, decide_false, Bool.false_eq_true, if_false, List.map_nil, List.append_nil]
          rw [upd_ne nDT]
          exact e3
        · rw [upd_ne (ne_of_none (s3 _ _ e) hT)]
          exact s3 _ _ e
    rintro H3 ⟨ls, hls, e3, s3⟩
    rw [List.length_map, l2] at hls
    have e3L := s3 _ _ e2
    have nLD : L ≠ D := ne_of_none e2 hD
    -- found
    refine ⟨_, rfl, L, rfl, ⟨_, SqL.of e3L⟩, fun Fd hFd => ?_⟩
    refine lc_it walk_list (fun i H4 => H4 Fd = some (.lst ((List.range i).map fun v => V.int (if atN lf v = 0 then 1 else 0))) ∧ Same H3 H4)
      ⟨upd_same, Same.new hFd⟩ (fun i H4 _ h => h.2.seq (SqL.of e3L)) ?_ ?_
    · rintro i x H4o H4 hi ⟨e4, s4⟩ ⟨rfl, hx⟩
      obtain ⟨z, hz, rfl⟩ := map_at hx
      have hi' : i < us.length := by rw [← l2]; simpa using hi
      have hzz : z = atN lf i := by rw [atN_get (by omega)] at hz; exact (Option.some.inj hz).symm
      have ss : ∀ y, Same H3 (upd H4 Fd y) := fun y b o' e => by
        rw [upd_ne (ne_of_none e hFd)]
        exact s4 _ _ e
      refine ⟨rfl, _, rfl, rfl, _, rfl, ?_⟩
      refine ite2 (fun c => ?_) (fun c => ?_)
      · have c : atN lf i = 0 := by have q := of_decide_eq_true c; injection q with q; rw [← hzz]; exact q
        refine ⟨_, e4, smallM (by simp; omega), ?_, ss _⟩
        rw [List.range_succ, List.map_append]
        simp only [List.map_cons, List.map_nil, c, if_true]
        exact upd_same
      · have c : ¬ atN lf i = 0 := fun q => c (decide_eq_true (by rw [hzz, q]))
        refine ⟨_, e4, smallM (by simp; omega), ?_, ss _⟩
        rw [List.range_succ, List.map_append]
        simp only [List.map_cons, List.map_nil, c, if_false]
        exact upd_same
    rintro H4 ⟨e4, s4⟩
    rw [List.length_map, l2] at e4
    have s04 : Same H H4 := (s2.trans s3).trans s4
    -- failed
    refine ⟨_, rfl, o, rfl, ⟨_, s04.seq hO⟩, fun X hX => ?_⟩
    refine lc_it walk_list (fun i H5 => H5 X = some (.lst (List.replicate i (V.bl false))) ∧ Same H4 H5) ⟨upd_same, Same.new hX⟩ (fun i H5 _ h => (s04.trans h.2).seq hO) ?_ ?_
    · rintro i x H5o H5 hi ⟨e5, s5⟩ ⟨rfl, hx⟩
      refine ⟨rfl, _, e5, smallM (by simp at hi; simp; omega), ?_, fun b o e => ?_⟩
      · rw [List.replicate_succ']
        exact upd_same
      · rw [upd_ne (ne_of_none e hX)]
        exact s5 _ _ e
    rintro H5 ⟨e5, s5⟩
    rw [List.length_map] at e5
    have e5L := s5 _ _ (s4 _ _ e3L)
    have e5D := s5 _ _ (s4 _ _ e3)
    have e5F := s5 _ _ e4
    have nLF : L ≠ Fd := ne_of_none e3L hFd
    have nDF : D ≠ Fd := ne_of_none e3 hFd
    have nLX : L ≠ X := ne_of_none (s4 _ _ e3L) hX
    have nDX : D ≠ X := ne_of_none (s4 _ _ e3) hX
    have nFX : Fd ≠ X := ne_of_none e4 hX
    have s05 : Same H H5 := s04.trans s5
    have h0L : H L = none := hL
    have h0D : H D = none := s2.free hD
    have h0F : H Fd = none := (s2.trans s3).free hFd
    have h0X : H X = none := s04.free hX
    let ow := owF F
    let T' := tgF F
    have B0 : BI us.length F.length ow T' lf ((List.range us.length).map fun v => if atN lf v = 0 then 1 else 0) ls (fun _ => 0) 0 1 := by
      refine BI.start l2 (by simp) hls (fun v hv => ?_) (fun v hv => ?_)
      · rw [c2 v hv, cnt_start]
      · show atN _ _ = _
        unfold atN
        rw [List.getD_eq_getElem?_getD, List.getElem?_map, List.getElem?_range hv]
        rfl
    -- the search
    refine while_by (fun σ H6 => ∃ (lf fd : List Int) (ls : List Nat) (ft : Nat → Int) (d : Nat) (cur : Int) (w3 w8 w9 w10 w11 : Option V), σ = [some (.ref o), some (.ref u), some (.ref L), w3, some (.ref D), some (.ref Fd), some (.ref X), some (nv d), w8, w9, w10, w11] ∧
        H6 L = some (.lst (lf.map V.int)) ∧ H6 D = some (.lst (ls.map nv)) ∧ H6 Fd = some (.lst (fd.map V.int)) ∧ H6 X = some (.lst (failV F.length ft)) ∧ Same H H6 ∧ BI us.length F.length ow T' lf fd ls ft d cur)
      (fun σ _ => us.length - doneOf 7 σ) ?_ ?_ ?_
    · refine ⟨lf, _, ls, fun _ => 0, 0, 1, _, _, _, _, _, rfl, e5L, e5D, by rw [List.map_map]; exact e5F, ?_, s05, B0⟩
      rw [e5]
      congr 2
      apply List.ext_getElem?
      intro i
      by_cases h : i < F.length
      · rw [failV_at h, List.getElem?_replicate, if_pos h]
        rfl
      · rw [List.getElem?_eq_none (by simp; omega), List.getElem?_eq_none (by rw [failV_len]; omega)]
    · rintro σ H6 ⟨lf, fd, ls, ft, d, cur, w3, w8, w9, w10, w11, rfl, e6L, e6D, e6F, e6X, s6, B⟩
      refine ⟨_, rfl, _, rfl, D, _, rfl, .inl (SqL.of e6D), _, _, rfl, rfl, _, rfl, ?_⟩
      have hll : ls.length ≤ us.length := nodup_le _ _ B.nd fun v hv => (B.lostR v hv).1
      refine ite2 (fun c => ?_) (fun c => ?_)
      · have c : d < ls.length := by have q := of_decide_eq_true c; rw [List.length_map] at q; omega
        have hv : ls[d]? = some ls[d] := List.getElem?_eq_getElem c
        generalize ls[d] = v at hv
        have hvn := (B.lostR v (List.mem_of_getElem? hv)).1
        have hus : us[v]? = some us[v] := List.getElem?_eq_getElem hvn
        generalize us[v] = q at hus
        have B1 := B.next hv
        refine ⟨_, rfl, _, rfl, D, _, _, _, rfl, rfl, SqL.of e6D, at_nat' hv, ?_⟩
        refine ⟨_, rfl, _, _, rfl, rfl, ?_⟩
        refine ⟨_, rfl, _, rfl, u, _, _, _, rfl, rfl, s6.seq hU, at_nat' hus, q, rfl, ⟨_, s6.seq (hut v q hus)⟩, ?_⟩
        refine for_it walk_list (fun j σ H7 => ∃ (lf fd : List Int) (ls : List Nat) (ft : Nat → Int) (w3 w9 w10 w11 : Option V), σ = [some (.ref o), some (.ref u), some (.ref L), w3, some (.ref D), some (.ref Fd), some (.ref X), some (.int ((d : Int) + 1)), some (nv v), w9, w10, w11] ∧
            H7 L = some (.lst (lf.map V.int)) ∧ H7 D = some (.lst (ls.map nv)) ∧ H7 Fd = some (.lst (fd.map V.int)) ∧ H7 X = some (.lst (failV F.length ft)) ∧ Same H H7 ∧
            (∃ cur, BI us.length F.length ow T' lf fd ls ft d cur ∧ atN fd v = cur) ∧ ls[d]? = some v ∧ ∀ k, k ∈ (ut v).take j → 0 < ft k)
          ⟨lf, fd, ls, ft, _, _, _, _, rfl, e6L, e6D, e6F, e6X, s6, ⟨_, B1, rfl⟩, hv, by simp⟩ (fun i σ H7 _ ⟨_, _, _, _, _, _, _, _, _, _, _, _, _, s7, _⟩ => s7.seq (hut v q hus)) ?_ ?_
        · rintro j x σ H7o H7 hj ⟨lf, fd, ls, ft, w3, w9, w10, w11, rfl, e7L, e7D, e7F, e7X, s7, ⟨cur, B, hcur⟩, hv, hdone⟩ ⟨rfl, hx⟩
          obtain ⟨k0, hk0, rfl⟩ := map_at hx
          obtain ⟨hkF, hkT⟩ := (huse v hvn k0).mp (List.mem_of_getElem? hk0)
          refine ⟨_, rfl, _, rfl, X, _, _, _, rfl, rfl, SqL.of e7X, atI_nat (failV_at hkF), _, rfl, ?_⟩
          refine ite2 (fun c => ?_) (fun c => ?_)
          · have c := of_decide_eq_true c
            refine ⟨lf, fd, ls, ft, _, _, _, _, rfl, e7L, e7D, e7F, e7X, s7, ⟨cur, B, hcur⟩, hv, fun k hk => ?_⟩
            rw [take_snoc hk0] at hk
            rcases List.mem_append.mp hk with z | z
            · exact hdone k z
            · rw [List.mem_singleton.mp z]
              exact c
          · have c : ft k0 = 0 := by
              have h1 : ¬ 0 < ft k0 := fun z => c (decide_eq_true z)
              have := (B.ft0 k0 hkF).1
              omega
            have c1 := B.cur1
            have hp : F[k0]? = some F[k0] := List.getElem?_eq_getElem hkF
            have how : ow k0 = (F[k0]).1 := by
              show (F.getD k0 (0, [])).1 = _
              rw [List.getD_eq_getElem?_getD, hp]
              rfl
            have hon : ow k0 < us.length := hown k0 hkF
            have hdone' : ∀ k, k ∈ (ut v).take (j + 1) → 0 < upF ft k0 cur k := fun k hk => by
              unfold upF
              split
              · omega
              · rename_i ne
                rw [take_snoc hk0] at hk
                rcases List.mem_append.mp hk with z | z
                · exact hdone k z
                · exact absurd (List.mem_singleton.mp z) ne
            refine ⟨_, rfl, _, rfl, X, _, _, k0, rfl, rfl, e7X, ixN_n (by rw [failV_len]; exact hkF), ?_⟩
            rw [failV_set (c := cur) (by omega)]
            refine ⟨_, rfl, _, rfl, o, _, _, _, rfl, rfl, (by
              refine Same.seq (fun b o' e => ?_) hO
              rw [upd_ne (ne_of_none e h0X)]
              exact s7 _ _ e), at_nat' hp, ?_⟩
            rw [← how]
            have e7L' : (upd H7 X (.lst (failV F.length (upF ft k0 cur)))) L = some (.lst (lf.map V.int)) := by rw [upd_ne nLX]; exact e7L
            refine ⟨_, rfl, _, rfl, L, _, _, _, rfl, rfl, SqL.of e7L', by omega, (by rw [Int.toNat_natCast, List.getElem?_map, atN_get (by rw [B.lenL]; exact hon)]; rfl), ?_⟩
            refine ⟨_, _, rfl, rfl, L, _, _, ow k0, rfl, rfl, e7L', ixN_n (by rw [List.length_map, B.lenL]; exact hon), ?_⟩
            rw [show (lf.map V.int).set (ow k0) (V.int (atN lf (ow k0) - 1)) = (lf.set (ow k0) (atN lf (ow k0) - 1)).map V.int from set_map]
            refine ⟨_, rfl, _, rfl, L, _, _, _, rfl, rfl, SqL.of upd_same, at_nat' (atN_get (by rw [List.length_set, B.lenL]; exact hon)), rfl, _, rfl, ?_⟩
            rw [atN_set_eq (by rw [B.lenL]; exact hon)]
            have s8 : ∀ y z, Same H (upd (upd H7 X y) L z) := fun y z b o' e => by
              rw [upd_ne (ne_of_none e h0L), upd_ne (ne_of_none e h0X)]
              exact s7 _ _ e
            refine ite2 (fun cz => ?_) (fun cz => ?_)
            · have cz : atN lf (ow k0) - 1 = 0 := by have q := of_decide_eq_true cz; injection q
              have hvF : fd[v]? = some (atN fd v) := atN_get (by rw [B.lenF]; exact hvn)
              have e8F : ∀ y z, (upd (upd H7 X y) L z) Fd = some (.lst (fd.map V.int)) := fun y z => by rw [upd_ne (Ne.symm nLF), upd_ne nFX]; exact e7F
              refine ⟨_, rfl, _, rfl, Fd, _, _, _, rfl, rfl, SqL.of (e8F _ _), at_nat' hvF, _, _, rfl, rfl, _, rfl, _, rfl, Fd, _, _, ow k0, rfl, rfl, e8F _ _, ixN_n (by rw [List.length_map, B.lenF]; exact hon), ?_⟩
              rw [hcur]
              rw [show (fd.map V.int).set (ow k0) (V.int (cur + 1)) = (fd.set (ow k0) (cur + 1)).map V.int from set_map]
              have e8D : ∀ y z x, (upd (upd (upd H7 X y) L z) Fd x) D = some (.lst (ls.map nv)) := fun y z x => by rw [upd_ne nDF, upd_ne (Ne.symm nLD), upd_ne nDX]; exact e7D
              have hl2 : ls.length ≤ us.length := nodup_le _ _ B.nd fun v hv => (B.lostR v hv).1
              refine ⟨_, rfl, .inl ⟨rfl, _, SqL.of (e8D _ _ _)⟩, _, rfl, D, _, _, rfl, rfl, e8D _ _ _, smallM (by simp; omega), ?_⟩
              have hvo : ow k0 ≠ v := fun z => by
                have h1 := (B.lostR v (List.mem_of_getElem? hv)).2
                have h2 := (B.rk v hvn).mp h1
                rw [← z] at h2
                omega
              have hdl : d < ls.length := (List.getElem?_eq_some_iff.mp hv).1
              refine ⟨_, _, ls ++ [ow k0], _, _, _, _, _, rfl, ?_, ?_, ?_, ?_, ?_, ⟨cur, B.lose hv hcur hkF hkT c hon cz, by rw [atN_set_ne hvo]; exact hcur⟩, by rw [List.getElem?_append_left hdl]; exact hv, hdone'⟩
              · rw [upd_ne nLD, upd_ne nLF]; exact upd_same
              · rw [List.map_append]; exact upd_same
              · rw [upd_ne (Ne.symm nDF)]; exact upd_same
              · rw [upd_ne (Ne.symm nDX), upd_ne (Ne.symm nFX), upd_ne (Ne.symm nLX)]; exact upd_same
              · intro b o' e
                rw [upd_ne (ne_of_none e h0D), upd_ne (ne_of_none e h0F)]
                exact s8 _ _ b o' e
            · have cz : atN lf (ow k0) - 1 ≠ 0 := fun q => cz (decide_eq_true (by rw [q]))
              refine ⟨_, fd, ls, _, _, _, _, _, rfl, upd_same, ?_, ?_, ?_, s8 _ _, ⟨cur, B.fail hv hcur hkF hkT c hon cz, hcur⟩, hv, hdone'⟩
              · rw [upd_ne (Ne.symm nLD), upd_ne nDX]; exact e7D
              · rw [upd_ne (Ne.symm nLF), upd_ne nFX]; exact e7F
              · rw [upd_ne (Ne.symm nLX)]; exact upd_same
        · rintro σ H7 ⟨lf, fd, ls, ft, w3, w9, w10, w11, rfl, e7L, e7D, e7F, e7X, s7, ⟨cur, B, hcur⟩, hv, hdone⟩
          rw [List.length_map, List.take_length] at hdone
          refine ⟨⟨lf, fd, ls, ft, d + 1, cur, _, _, _, _, _, rfl, e7L, e7D, e7F, e7X, s7, B.over hv fun k hk hm => hdone k ((huse v hvn k).mpr ⟨hk, hm⟩)⟩, ?_⟩
          show us.length - ((d : Int) + 1).toNat < us.length - (d : Int).toNat
          omega
      · have c : ls.length ≤ d := by
          have q : ¬ (d : Int) < ((ls.map nv).length : Nat) := fun z => c (decide_eq_true z)
          rw [List.length_map] at q
          omega
        exact ⟨_, rfl, k Fd fd ft H6 s6 h0F e6F (B.post c)⟩
    · rintro σ H6 Q1 Q2 h ⟨x, hx, y, hy, p, ys, e1, e2, i, j, e3, e4, b, e5, q⟩
      exact ⟨x, hx, y, hy, p, ys, e1, e2, i, j, e3, e4, b, e5, h _ _ q⟩
end
end Wb

set_option pp.maxSteps 500
set_option pp.deepTerms false
namespace Wb
open PySem PySem.Spec PyProof.Rows L2 Wx NdefX RZ StX PyProof.Rows.FinIter

theorem due_inv (R : List Int) (x : Int) : ∀ (nd : Node) (w : Int), 1 ≤ w → dueFrom R w nd = x → x ≠ 0 → (∀ o, o ∈ nd → fate R o ≠ 0 ∧ fate R o ≤ x) ∧ w ≤ x ∧ (w = x ∨ ∃ o, o ∈ nd ∧ fate R o = x)
  | [], w, hw, h, hx => by
    have h : w = x := h
    exact ⟨by simp, by omega, .inl h⟩
  | a :: nd, w, hw, h, hx => by
    unfold dueFrom at h
    by_cases c : fate R a = 0
    · rw [if_pos c] at h
      exact absurd h.symm hx
    · rw [if_neg c] at h
      have hw' : 1 ≤ (if fate R a > w then fate R a else w) := by split <;> omega
      obtain ⟨h1, h2, h3⟩ := due_inv R x nd _ hw' h hx
      refine ⟨fun o ho => ?_, by split at h2 <;> omega, ?_⟩
      · rcases List.mem_cons.mp ho with q | q
        · rw [q]
          refine ⟨c, ?_⟩
          split at h2 <;> omega
        · exact h1 o q
      · rcases h3 with q | ⟨o, ho, q⟩
        · split at q
          · exact .inr ⟨a, List.mem_cons_self, q⟩
          · exact .inl q
        · exact .inr ⟨o, List.mem_cons_of_mem _ ho, q⟩
theorem fateL_val (R l : List Int) (m : Int) (h0 : 0 < m) (h1 : ∃ t, t ∈ l ∧ atR R t = m) (h2 : ∀ t, t ∈ l → 0 < atR R t → m ≤ atR R t) : fateL R l = m + 1 := by
  rcases fateL_cases R l with ⟨_, q⟩ | ⟨m', p0, p1, ⟨t, ht, e⟩, p3⟩
  · obtain ⟨t, ht, e⟩ := h1
    exact absurd (by rw [e]; exact h0) (q t ht)
  · obtain ⟨t1, ht1, e1⟩ := h1
    have a := p3 t1 ht1 (by rw [e1]; exact h0)
    have b := h2 t ht (by rw [e]; exact p0)
    omega
theorem isR_at {G : List Node} {R : List Int} (h : IsR G R) {i : Nat} {nd : Node} (e : G[i]? = some nd) : atN R i = due R nd := by
  unfold atN
  rw [List.getD_eq_getElem?_getD, h.eq i nd e]
  rfl
theorem isR_step {G : List Node} {R R' : List Int} (hG : GOk G.length G) (h : IsR G R) (h' : IsR G R') (k : Int) (ih : ∀ v, v < G.length → ∀ r, 0 < r → r ≤ k → (atN R v = r ↔ atN R' v = r)) (hk : 0 ≤ k)
    (v : Nat) (hv : v < G.length) (e : atN R v = k + 1) : atN R' v = k + 1 := by
  have hnd : G[v]? = some G[v] := List.getElem?_eq_getElem hv
  generalize G[v] = nd at hnd
  have hok := hG nd (List.mem_of_getElem? hnd)
  rw [isR_at h hnd] at e
  obtain ⟨h1, h2, h3⟩ := due_inv R (k + 1) nd 1 (Int.le_refl _) e (by omega)
  have same : ∀ o, o ∈ nd → fate R' o = fate R o := fun o ho => by
    cases o with
    | none => rfl
    | some l =>
      have hb := (hok.2 _ ho l rfl).2
      have q := h1 _ ho
      show fateL R' l = fateL R l
      have q1 : fateL R l ≠ 0 := q.1
      have q2 : fateL R l ≤ k + 1 := q.2
      rcases fateL_cases R l with ⟨z, _⟩ | ⟨m, p0, p1, ⟨t, ht, e⟩, p3⟩
      · exact absurd z q1
      · rw [p1]
        refine fateL_val R' l m p0 ⟨t, ht, ?_⟩ fun u hu hp => ?_
        · have := hb t ht
          exact (ih t.toNat (by omega) m p0 (by omega)).mp e
        · have bu := hb u hu
          by_cases c : atR R' u < m
          · have q := (ih u.toNat (by omega) (atR R' u) hp (by omega)).mpr rfl
            have q' : atR R u = atR R' u := q
            have := p3 u hu (by rw [q']; exact hp)
            omega
          · omega
  rw [isR_at h' hnd]
  refine due_val R' (k + 1) nd 1 (fun o ho => by rw [same o ho]; exact h1 o ho) h2 ?_
  rcases h3 with q | ⟨o, ho, q⟩
  · exact .inl q
  · exact .inr ⟨o, ho, by rw [same o ho]; exact q⟩
theorem isR_all {G : List Node} {R R' : List Int} (hG : GOk G.length G) (h : IsR G R) (h' : IsR G R') : ∀ (k : Nat), ∀ v, v < G.length → ∀ r : Int, 0 < r → r ≤ k → (atN R v = r ↔ atN R' v = r)
  | 0 => fun v hv r h0 h1 => by omega
  | k + 1 => fun v hv r h0 h1 => by
    have ih := isR_all hG h h' k
    by_cases c : r ≤ k
    · exact ih v hv r h0 c
    · have e : r = (k : Int) + 1 := by omega
      rw [e]
      exact ⟨isR_step hG h h' k ih (by omega) v hv, isR_step hG h' h k (fun v hv r p q => (ih v hv r p q).symm) (by omega) v hv⟩
theorem isR_pos {G : List Node} {R : List Int} (h : IsR G R) {v : Nat} (hv : v < G.length) : 0 ≤ atN R v := by
  refine h.pos _ ?_
  unfold atN
  rw [List.getD_eq_getElem?_getD, List.getElem?_eq_getElem (by rw [h.len]; exact hv)]
  exact List.getElem_mem _
/-- the equations have one answer -/
theorem isR_one {G : List Node} {R R' : List Int} (hG : GOk G.length G) (h : IsR G R) (h' : IsR G R') : R = R' := by
  have key : ∀ v, v < G.length → atN R v = atN R' v := fun v hv => by
    have p := isR_pos h hv
    have p' := isR_pos h' hv
    by_cases c : 0 < atN R v
    · exact ((isR_all hG h h' (atN R v).toNat v hv (atN R v) c (by omega)).mp rfl).symm
    · by_cases c' : 0 < atN R' v
      · exact (isR_all hG h h' (atN R' v).toNat v hv (atN R' v) c' (by omega)).mpr rfl
      · omega
  apply List.ext_getElem?
  intro i
  by_cases hi : i < G.length
  · have := key i hi
    unfold atN at this
    rw [List.getD_eq_getElem?_getD, List.getD_eq_getElem?_getD, List.getElem?_eq_getElem (by rw [h.len]; exact hi), List.getElem?_eq_getElem (by rw [h'.len]; exact hi)] at this
    rw [List.getElem?_eq_getElem (by rw [h.len]; exact hi), List.getElem?_eq_getElem (by rw [h'.len]; exact hi)]
    exact congrArg some this
  · rw [List.getElem?_eq_none (by rw [h.len]; omega), List.getElem?_eq_none (by rw [h'.len]; omega)]
section
variable {P : Program} {w : World} {K : PySem.W.Frag} {mg : Str → Option Value} {base : Heap}

theorem layAll (n : Nat) : ∀ ds : List PyData, (∀ d, d ∈ ds → d.canLay0 = true ∧ d.depth ≤ n) → PyData.canLayAll0 ds = true ∧ PyData.depthAll ds ≤ n
  | [], _ => ⟨rfl, Nat.zero_le _⟩
  | d :: ds, h => by
    obtain ⟨a, b⟩ := h d List.mem_cons_self
    obtain ⟨c, e⟩ := layAll n ds fun x hx => h x (List.mem_cons_of_mem _ hx)
    unfold PyData.canLayAll0 PyData.depthAll
    rw [a, c]
    exact ⟨rfl, Nat.max_le.mpr ⟨b, e⟩⟩
theorem layList (n : Nat) (ds : List PyData) (h : ∀ d, d ∈ ds → d.canLay0 = true ∧ d.depth ≤ n) : (PyData.list ds).canLay0 = true ∧ (PyData.list ds).depth ≤ n + 1 := by
  obtain ⟨a, b⟩ := layAll n ds h
  unfold PyData.canLay0 PyData.depth
  exact ⟨a, Nat.succ_le_succ b⟩
theorem shaped_of {d : PyData} {n : Nat} (h : d.canLay0 = true ∧ d.depth ≤ n) (hn : n ≤ 64) : SeqAt.shaped d = true := by
  unfold SeqAt.shaped
  rw [h.1]
  simp only [Bool.true_and, decide_eq_true_eq]
  omega
theorem layInts (l : List Int) : (PyData.list (l.map .int)).canLay0 = true ∧ (PyData.list (l.map .int)).depth ≤ 1 := layList 0 _ fun d hd => by
  obtain ⟨i, _, rfl⟩ := List.mem_map.mp hd
  exact ⟨by unfold PyData.canLay0; rfl, by unfold PyData.depth; exact Nat.le_refl _⟩
theorem layOpt (o : Option (List Int)) : (optD o).canLay0 = true ∧ (optD o).depth ≤ 1 := by
  cases o with
  | none => exact ⟨by unfold optD PyData.canLay0; rfl, by unfold optD PyData.depth; exact Nat.zero_le _⟩
  | some l => exact layInts l
theorem layGame (G : List Node) : (gameD G).canLay0 = true ∧ (gameD G).depth ≤ 3 := layList 2 _ fun d hd => by
  obtain ⟨nd, _, rfl⟩ := List.mem_map.mp hd
  refine layList 1 _ fun d hd => ?_
  obtain ⟨o, _, rfl⟩ := List.mem_map.mp hd
  exact layOpt o
theorem shGame (G : List Node) : SeqAt.shaped (gameD G) = true := shaped_of (layGame G) (by decide)
theorem shInts (l : List Int) : SeqAt.shaped (PyData.list (l.map .int)) = true := shaped_of (layInts l) (by decide)
theorem dpInts {K : PySem.W.Frag} {H : Hp} {p : Addr} {l : List Int} (h : SqL K H p (l.map V.int)) : Dp K H (.ref p) (.list (l.map .int)) := .lst h (dpAll_ints l)
/-- whose options by target: what uses holds while F are known -/
def Uses (H : Hp) (us : List Addr) (F : List (Nat × List Int)) : Prop := ∀ t q, us[t]? = some q → ∃ ut : List Nat, H q = some (.lst (ut.map nv)) ∧ ut.length ≤ 3 * F.length ∧ ∀ k, k ∈ ut ↔ k < F.length ∧ t ∈ tgF F k
theorem tgF_app {F : List (Nat × List Int)} {p : Nat × List Int} {k : Nat} (h : k < F.length) : tgF (F ++ [p]) k = tgF F k := by
  unfold tgF
  rw [List.getD_eq_getElem?_getD, List.getElem?_append_left h, List.getD_eq_getElem?_getD]
theorem tgF_last {F : List (Nat × List Int)} {i : Nat} {l : List Int} : tgF (F ++ [(i, l)]) F.length = l.map Int.toNat := by
  unfold tgF
  rw [List.getD_eq_getElem?_getD, List.getElem?_append_right (Nat.le_refl _)]
  simp
theorem opts_len (i : Nat) (nd : Node) : (opts i nd).length ≤ nd.length := List.length_filterMap_le _ _
theorem flatN_len {G : List Node} (hG : ∀ nd, nd ∈ G → nd.length ≤ 20) : ∀ i, (flatN G i).length ≤ 20 * i
  | 0 => Nat.le_refl _
  | i + 1 => by
    rw [flatN_succ, List.length_append]
    have h1 := flatN_len hG i
    have h2 := opts_len i (G.getD i [])
    have h3 : (G.getD i []).length ≤ 20 := by
      rw [List.getD_eq_getElem?_getD]
      cases e : G[i]? with
      | none => simp
      | some nd => exact hG nd (List.mem_of_getElem? e)
    omega
theorem opts_none {i : Nat} {nd : Node} {j : Nat} (h : nd[j]? = some none) : opts i (nd.take (j + 1)) = opts i (nd.take j) := by
  unfold opts
  rw [take_snoc h, List.filterMap_append]
  simp
theorem opts_some {i : Nat} {nd : Node} {j : Nat} {l : List Int} (h : nd[j]? = some (some l)) : opts i (nd.take (j + 1)) = opts i (nd.take j) ++ [(i, l)] := by
  unfold opts
  rw [take_snoc h, List.filterMap_append]
  simp

def spranks (K : PySem.W.Frag) (CN CM : Addr) : Sp := fun vs H Q E => ∃ (g : Addr) (G : List Node), vs = [.ref g] ∧ Dp K H (.ref g) (gameD G) ∧ 
  (12000 < G.length → ∀ (d : Addr) (H' : Hp), H d = none → Same H H' → H' d = some (.xd [("limit", .int 12000)]) → E (.ref CM) (some d) H') ∧
  (G.length ≤ 12000 → ∀ t, firstBad G = some t → ∀ (d : Addr) (H' : Hp), H d = none → Same H H' → H' d = some (.xd [("value", .int t), ("what", .str "node")]) → E (.ref CN) (some d) H') ∧
  (G.length ≤ 12000 → firstBad G = none → GOk G.length G ∧ ∀ (p : Addr) (R : List Int) (H' : Hp), Same H H' → H p = none → H' p = some (.lst (R.map V.int)) → IsR G R → Q (.ref p) H')

theorem okranks {f : Addr} {fd : FuncData} (F : Fun K "ranks" "ranks" sranks f fd) (T : Txt K mg) {C_BadNumber : Addr} {C_TooMany f_TooMany cda_TooMany cc_TooMany : Addr} {fd_TooMany : FuncData} (E_TooMany : ErrC P K mg "TooMany" "TooMany.__init__" C_TooMany f_TooMany cda_TooMany cc_TooMany) (G_TooMany : FnOk P w K mg base CX0 2 f_TooMany fd_TooMany PTooMany___init__ (spTooMany C_TooMany)) (b_TooMany : Binds K fd_TooMany PTooMany___init__ []) (C_lost_in_turn : Cal P w K mg base "_lost_in_turn" P_lost_in_turn 1 (sp_lost_in_turn K)) (C_x_check_nodes : ∃ (g : Addr) (gd : FuncData), FnOk P w K mg base (L2.CX P w) 5 g gd P_check_nodes (sp_check_nodes K C_BadNumber) ∧ mg "_check_nodes" = some (.ref g) ∧ PySem.W.keepIn K (.ref g) = true ∧ Binds K gd P_check_nodes []) : FnOk P w K mg base (L2.CX P w) 6 f fd Pranks (spranks K C_BadNumber C_TooMany) := by
  obtain ⟨g_lost_in_turn, gd_lost_in_turn, G_lost_in_turn, m_lost_in_turn, k_lost_in_turn, b_lost_in_turn⟩ := C_lost_in_turn.ex
  obtain ⟨_, c__MOST_NODES⟩ := T.c__MOST_NODES
  obtain ⟨g_check_nodes, gd_check_nodes, G_check_nodes, m_check_nodes, k_check_nodes, b_check_nodes⟩ := C_x_check_nodes
  refine F.okX scranks (fun vs H Q E h => ?_) (fun cdv A outer s H vs Q E hr h => ?_)
  · obtain ⟨g, G, rfl, hD, kM, kN, kOk⟩ := h
    rfl
  · obtain ⟨g, G, rfl, hD, kM, kN, kOk⟩ := h
    refine ⟨_, (pss_cons (ps_if (pt_cmpR op_gt (pe_callB call_len_seq (by rfl) T.b_len PySem.boot_len (pa_cons (pv 0) pa_nil)) (pe_glob (v := .int 12000) rfl c__MOST_NODES ⟨_, rfl⟩) (nomark _))
  (pss_one (ps_raise rfl (takes_of rfl rfl rfl rfl) (pmk_oex E_TooMany.sup.oex E_TooMany.ini E_TooMany.tyI G_TooMany (hr.mono (by decide)) b_TooMany .nil pass0 (by rfl) E_TooMany.g (pa_cons (pe_glob (v := .int 12000) rfl c__MOST_NODES ⟨_, rfl⟩) pa_nil))))
  pss_nil)
  (pss_cons (ps_expr (pe_callS G_check_nodes (hr.mono (by decide)) (by rfl) m_check_nodes k_check_nodes b_check_nodes (fun σ => passAt (takes_of rfl rfl rfl rfl) σ) (pa_cons (pv 0) pa_nil)))
  (pss_cons (ps_set (i := 1) scranks.nd rfl (by first | exact Or.inl rfl | exact Or.inr rfl) (pe_lst pa_nil))
  (pss_cons (ps_setLc (i := 2) (own := [("_", 7)]) rfl scranks.nd rfl rfl (sw_true rfl rfl rfl (by decide +kernel)) (pi_list (pv 0)) (blkOk_by (own := [("_", 7)]) (N := Nranks) (sc := defScope sranks) (by decide +kernel)) (fun _ _ _ _ _ => (pg_name (i := 7) scranks.nd rfl (by first | exact Or.inl rfl | exact Or.inr rfl))) (fun _ _ _ _ _ => pts_nil) (fun _ _ _ _ _ => (pe_lst pa_nil)))
  (pss_cons (ps_for (passes_of rfl) rfl (pi_enum (by rfl) T.b_enumerate (pa_cons (pv 0) pa_nil)) (pg_tup rfl (pgs_cons (pg_name (i := 3) scranks.nd rfl (by first | exact Or.inl rfl | exact Or.inr rfl)) (pgs_cons (pg_name (i := 4) scranks.nd rfl (by first | exact Or.inl rfl | exact Or.inr rfl)) pgs_nil)))
  (pss_one (ps_for (passes_of rfl) rfl (pi_list (pv 4)) (pg_name (i := 5) scranks.nd rfl (by first | exact Or.inl rfl | exact Or.inr rfl))
  (pss_one (ps_if (pt_cmpR op_notN (pv 5) pe_non (nomark _))
  (pss_cons (ps_for (passes_of rfl) rfl (pi_list (pv 5)) (pg_name (i := 6) scranks.nd rfl (by first | exact Or.inl rfl | exact Or.inr rfl))
  (pss_one (ps_expr (pe_bm PySem.F.plainAttrs_list PySem.F.slot_list_append PySem.F.type_list_append mt_append (pe_ix ix_list (pv 2) (pv 6) (fun _ _ => rfl)) (pa_cons (pe_callB call_len_seq (by rfl) T.b_len PySem.boot_len (pa_cons (pv 1) pa_nil)) pa_nil)))))
  (pss_one (ps_expr (pe_bm PySem.F.plainAttrs_list PySem.F.slot_list_append PySem.F.type_list_append mt_append (pv 1) (pa_cons (pv 3) pa_nil)))))
  pss_nil)))))
  (pss_one (ps_ret (pe_call G_lost_in_turn (hr.mono (by decide)) (by rfl) m_lost_in_turn k_lost_in_turn b_lost_in_turn .nil pass0 (pa_cons (pv 1) (pa_cons (pv 2) pa_nil)))))))))), ?_⟩
    obtain ⟨xs, hS, hA⟩ := dp_list hD
    have hxl : xs.length = G.length := by rw [dpAll_len hA, List.length_map]
    refine ⟨_, rfl, g, _, rfl, .inl hS, _, _, rfl, rfl, _, rfl, ?_⟩
    refine ite2 (fun c => ?_) (fun c => ?_)
    · have c := of_decide_eq_true c
      refine ⟨(by show 1 ≤ 1000; decide), fun a na => ⟨a, .int 12000, rfl, upd_same, .inr (.inl ⟨_, rfl⟩), made_of na fun d H' nd' s' hd => ?_⟩⟩
      exact kM (by omega) d H' nd' s' hd
    have hlen : G.length ≤ 12000 := by
      have q : ¬ (12000 : Int) < ((xs.length : Nat) : Int) := fun z => c (decide_eq_true z)
      omega
    clear c
    refine ⟨_, rfl, g, G, rfl, hD, fun hN => ?_, fun t hT d H' nd' s' hd => kN hlen t hT d H' nd' s' hd⟩
    obtain ⟨hok, k⟩ := kOk hlen hN
    refine ⟨Nat.zero_le _, fun o ho => ?_⟩
    -- uses = [[] for _ in game]
    refine ⟨_, rfl, g, rfl, ⟨_, (Same.new ho).seq hS⟩, fun U hU => ?_⟩
    refine lc_it walk_list (fun i H1 => ∃ us : List Addr, H1 U = some (.lst (us.map V.ref)) ∧ us.length = i ∧ us.Nodup ∧ (∀ q, q ∈ us → H1 q = some (.lst []) ∧ H q = none ∧ q ≠ U ∧ q ≠ o) ∧ Same (upd H o (.lst [])) H1)
      ⟨[], upd_same, rfl, .nil, by simp, Same.new hU⟩ (fun i H1 _ ⟨_, _, _, _, _, s1⟩ => ((Same.new ho).trans s1).seq hS) ?_ ?_
    · rintro i x H1o H1 hi ⟨us, e1, l1, n1, q1, s1⟩ ⟨rfl, hx⟩
      refine ⟨rfl, Nat.zero_le _, fun q hq => ?_⟩
      have nUq : U ≠ q := ne_of_none e1 hq
      refine ⟨_, (by rw [upd_ne nUq]; exact e1), smallM (by rw [List.length_map]; omega), us ++ [q], by rw [List.map_append]; exact upd_same, by simp [l1], ?_, ?_, ?_⟩
      · rw [List.nodup_append]
        refine ⟨n1, by simp, fun a ha b hb e => ?_⟩
        rw [List.mem_singleton.mp hb] at e
        have := (q1 a ha).1
        rw [e, hq] at this
        cases this
      · intro p hp
        rcases List.mem_append.mp hp with z | z
        · obtain ⟨a, b, c, d⟩ := q1 p z
          refine ⟨?_, b, c, d⟩
          rw [upd_ne c, upd_ne (ne_of_none a hq)]
          exact a
        · rw [List.mem_singleton.mp z]
          refine ⟨?_, ((Same.new ho).trans s1).free hq, Ne.symm nUq, ?_⟩
          · rw [upd_ne (Ne.symm nUq)]
            exact upd_same
          · intro e
            rw [e, s1 _ _ upd_same] at hq
            cases hq
      · intro b o' e
        rw [upd_ne (ne_of_none e hU), upd_ne (ne_of_none (s1 _ _ e) hq)]
        exact s1 _ _ e
    rintro H1 ⟨us, e1, l1, n1, q1, s1⟩
    rw [hxl] at l1
    have h0U : H U = none := (Same.new ho).free hU
    have nUo : U ≠ o := fun e => by rw [e, upd_same] at hU; cases hU
    have s01 : Same H H1 := (Same.new ho).trans s1
    have q0 : ∀ t q, us[t]? = some q → H q = none ∧ q ≠ U ∧ q ≠ o := fun t q e => by
      obtain ⟨a, b, c, d⟩ := q1 q (List.mem_of_getElem? e)
      exact ⟨b, c, d⟩
    have fl : ∀ i, i ≤ G.length → (flatN G i).length ≤ 240000 := fun i hi => by
      have := flatN_len (fun nd hnd => (hok nd hnd).1) (G := G) i
      omega
    -- the loop over the nodes
    refine ⟨_, rfl, g, _, rfl, s01.seq hS, ?_⟩
    refine for_it walk_enum (fun i σ H2 => ∃ (w3 w4 w5 w6 w7 : Option V), σ = [some (.ref g), some (.ref o), some (.ref U), w3, w4, w5, w6, w7] ∧ H2 o = some (.lst ((flatN G i).map fun p => nv p.1)) ∧ H2 U = some (.lst (us.map V.ref)) ∧ Uses H2 us (flatN G i) ∧ Same H H2)
      ⟨_, _, _, _, _, rfl, s1 _ _ upd_same, e1, fun t q e => ⟨[], (q1 q (List.mem_of_getElem? e)).1, Nat.zero_le _, by simp [flatN]⟩, s01⟩ (fun i σ H2 _ ⟨_, _, _, _, _, _, _, _, _, s2⟩ => s2.seq hS) ?_ ?_
    · rintro i x σ H2o H2 hi ⟨w3, w4, w5, w6, w7, rfl, e2, eU, hus, s2⟩ ⟨T0, x0, y0, rfl, hT, rfl, hx, hy⟩
      obtain rfl : x0 = nv i := (Option.some.inj hx).symm
      have hi' : i < G.length := by rw [← hxl]; exact hi
      obtain ⟨d, hd, hyd⟩ := dpAll_get hA hy
      obtain ⟨nd, hnd, rfl⟩ := map_at hd
      obtain ⟨p, ws, rfl, hp, hws⟩ := dp_ref hyd
      have hok1 := hok nd (List.mem_of_getElem? hnd)
      have hgd : G.getD i [] = nd := by rw [List.getD_eq_getElem?_getD, hnd]; rfl
      have nn : ∀ {a z}, H2o a = some z → a ≠ T0 := fun h => ne_of_none h hT
      have s3 : Same H (upd H2o T0 (.tup [nv i, .ref p])) := s2.trans (Same.new hT)
      have hwl : ws.length = nd.length := by rw [dpAll_len hws, List.length_map]
      refine ⟨T0, _, rfl, SqT.of upd_same, rfl, _, _, rfl, _, _, rfl, rfl, ?_⟩
      refine ⟨_, rfl, p, rfl, ⟨_, s3.seq hp⟩, ?_⟩
      refine for_it walk_list (fun j σ H3 => ∃ (w5 w6 w7 : Option V), σ = [some (.ref g), some (.ref o), some (.ref U), some (nv i), some (.ref p), w5, w6, w7] ∧ H3 o = some (.lst ((flatN G i ++ opts i (nd.take j)).map fun p => nv p.1)) ∧ H3 U = some (.lst (us.map V.ref)) ∧
          Uses H3 us (flatN G i ++ opts i (nd.take j)) ∧ Same H H3)
        ⟨_, _, _, rfl, ?_, ?_, ?_, s3⟩ (fun j σ H3 _ ⟨_, _, _, _, _, _, _, s4⟩ => s4.seq hp) ?_ ?_
      · rw [upd_ne (nn e2)]
        show _ = some (HO.lst ((flatN G i ++ []).map fun p : Nat × List Int => nv p.1))
        rw [List.append_nil]
        exact e2
      · rw [upd_ne (nn eU)]; exact eU
      · intro t q e
        obtain ⟨ut, a, b, c⟩ := hus t q e
        refine ⟨ut, by rw [upd_ne (nn a)]; exact a, ?_⟩
        show ut.length ≤ 3 * (flatN G i ++ []).length ∧ ∀ k, k ∈ ut ↔ k < (flatN G i ++ []).length ∧ t ∈ tgF (flatN G i ++ []) k
        rw [List.append_nil]
        exact ⟨b, c⟩
      · rintro j y σ H3o H3 hj ⟨w5, w6, w7, rfl, e3, e3U, hus3, s4⟩ ⟨rfl, hy⟩
        obtain ⟨d, hd', hyd'⟩ := dpAll_get hws hy
        obtain ⟨op, hop, rfl⟩ := map_at hd'
        have hok2 := hok1.2 op (List.mem_of_getElem? hop)
        have lenF : (flatN G i ++ opts i (nd.take j)).length ≤ 240020 := by
          rw [List.length_append]
          have h1 := fl i (by omega)
          have h2 := opts_len i (nd.take j)
          have h3 := hok1.1
          rw [List.length_take] at h2
          omega
        refine ⟨_, rfl, rfl, _, rfl, ?_⟩
        rcases opt_v hyd' with ⟨rfl, rfl⟩ | ⟨l, q, rfl, rfl, hq⟩
        · refine ite2 (fun z => absurd z (by decide)) (fun _ => ?_)
          rw [opts_none hop]
          exact ⟨_, _, _, rfl, e3, e3U, hus3, s4⟩
        · refine ite2 (fun _ => ?_) (fun z => absurd (by rfl) z)
          rw [opts_some hop, ← List.append_assoc]
          generalize flatN G i ++ opts i (nd.take j) = F at *
          refine ⟨_, rfl, q, rfl, ⟨_, s4.seq hq⟩, ?_⟩
          refine for_it walk_list (fun r σ H4 => ∃ (w6 w7 : Option V), σ = [some (.ref g), some (.ref o), some (.ref U), some (nv i), some (.ref p), some (.ref q), w6, w7] ∧ H4 o = some (.lst (F.map fun p => nv p.1)) ∧ H4 U = some (.lst (us.map V.ref)) ∧
              (∀ t q, us[t]? = some q → ∃ ut : List Nat, H4 q = some (.lst (ut.map nv)) ∧ ut.length ≤ 3 * F.length + r ∧ ∀ k, k ∈ ut ↔ (k < F.length ∧ t ∈ tgF F k) ∨ (k = F.length ∧ t ∈ (l.take r).map Int.toNat)) ∧ Same H H4)
            ⟨_, _, rfl, e3, e3U, fun t q e => ?_, s4⟩ (fun j σ H4 _ ⟨_, _, _, _, _, _, s5⟩ => s5.seq hq) ?_ ?_
          · obtain ⟨ut, a, b, c⟩ := hus3 t q e
            exact ⟨ut, a, b, fun k => by rw [c k]; simp⟩
          · rintro r z σ H4o H4 hr ⟨w6, w7, rfl, e4, e4U, hus4, s5⟩ ⟨rfl, hz⟩
            obtain ⟨t0, ht0, rfl⟩ := map_at hz
            have hb := (hok2 l rfl).2 t0 (List.mem_of_getElem? ht0)
            obtain ⟨tn, rfl⟩ : ∃ tn : Nat, t0 = (tn : Int) := ⟨t0.toNat, by omega⟩
            have htn : tn < us.length := by omega
            have hq0 : us[tn]? = some us[tn] := List.getElem?_eq_getElem htn
            generalize us[tn] = qq at hq0
            obtain ⟨ut, a, b, c⟩ := hus4 tn qq hq0
            obtain ⟨z1, z2, z3⟩ := q0 tn qq hq0
            have lr : r < 3 := by have := (hok2 l rfl).1; have := (List.getElem?_eq_some_iff.mp ht0).1; omega
            refine ⟨_, rfl, _, rfl, U, _, _, _, rfl, rfl, SqL.of e4U, at_nat' hq0, .inl ⟨rfl, _, SqL.of a⟩, _, rfl, o, _, rfl, .inl (SqL.of e4), qq, _, _, rfl, rfl, a, Nat.lt_of_le_of_lt (m := 1000000) (by rw [List.length_map]; omega) (by rw [sizeLine_eq]; decide), ?_⟩
            refine ⟨_, _, rfl, by rw [upd_ne (Ne.symm z3)]; exact e4, by rw [upd_ne (Ne.symm z2)]; exact e4U, fun t q e => ?_, fun b' o' e => by rw [upd_ne (ne_of_none e z1)]; exact s5 _ _ e⟩
            rw [List.length_map]
            by_cases et : t = tn
            · subst et
              rw [hq0] at e
              have e := Option.some.inj e
              subst e
              refine ⟨ut ++ [F.length], by rw [List.map_append]; exact upd_same, by rw [List.length_append, List.length_singleton]; omega, fun k => ?_⟩
              have hm : t ∈ ([(t : Int)] : List Int).map Int.toNat := by simp
              rw [List.mem_append, c k, take_snoc ht0, List.map_append, List.mem_append, List.mem_singleton]
              constructor
              · rintro ((z | ⟨z1, z2⟩) | z)
                · exact .inl z
                · exact .inr ⟨z1, .inl z2⟩
                · exact .inr ⟨z, .inr hm⟩
              · rintro (z | ⟨z, _⟩)
                · exact .inl (.inl z)
                · exact .inr z
            · obtain ⟨ut', a', b', c'⟩ := hus4 t q e
              have nq : q ≠ qq := fun z => et (nd_ix n1 e (z ▸ hq0))
              refine ⟨ut', by rw [upd_ne nq]; exact a', by omega, fun k => ?_⟩
              have hm : ¬ t ∈ ([(tn : Int)] : List Int).map Int.toNat := by simp; exact et
              rw [c' k, take_snoc ht0, List.map_append, List.mem_append]
              constructor
              · rintro (z | ⟨z1, z2⟩)
                · exact .inl z
                · exact .inr ⟨z1, .inl z2⟩
              · rintro (z | ⟨z1, z2 | z2⟩)
                · exact .inl z
                · exact .inr ⟨z1, z2⟩
                · exact absurd z2 hm
          · rintro σ H4 ⟨w6, w7, rfl, e4, e4U, hus4, s5⟩
            rw [List.length_map, List.take_length] at hus4
            refine ⟨_, rfl, .inl ⟨rfl, _, SqL.of e4⟩, _, rfl, o, _, _, rfl, rfl, e4, smallM (by rw [List.length_map]; omega), ?_⟩
            refine ⟨_, _, _, rfl, by rw [List.map_append]; exact upd_same, by rw [upd_ne nUo]; exact e4U, fun t q e => ?_, fun b' o' e => by rw [upd_ne (ne_of_none e ho)]; exact s5 _ _ e⟩
            obtain ⟨ut, a, b, c⟩ := hus4 t q e
            have l3 := (hok2 l rfl).1
            refine ⟨ut, by rw [upd_ne (q0 t q e).2.2]; exact a, by rw [List.length_append, List.length_singleton]; omega, fun k => ?_⟩
            rw [c k, List.length_append, List.length_singleton]
            constructor
            · rintro (⟨z1, z2⟩ | ⟨rfl, z⟩)
              · exact ⟨by omega, by rw [tgF_app z1]; exact z2⟩
              · exact ⟨by omega, by rw [tgF_last]; exact z⟩
            · rintro ⟨z1, z2⟩
              by_cases h : k < F.length
              · rw [tgF_app h] at z2
                exact .inl ⟨h, z2⟩
              · have h : k = F.length := by omega
                subst h
                rw [tgF_last] at z2
                exact .inr ⟨rfl, z2⟩
      · rintro σ H3 ⟨w5, w6, w7, rfl, e3, e3U, hus3, s4⟩
        rw [hwl, List.take_length] at e3 hus3
        rw [← hgd, ← flatN_succ] at e3 hus3
        exact ⟨_, _, _, _, _, rfl, e3, e3U, hus3, s4⟩
    · rintro σ H2 ⟨w3, w4, w5, w6, w7, rfl, e2, eU, hus, s2⟩
      rw [hxl] at e2 hus
      have hch : ∀ t, ∃ ut : List Nat, ∀ q, us[t]? = some q → H2 q = some (.lst (ut.map nv)) ∧ ∀ k, k ∈ ut ↔ k < (flatN G G.length).length ∧ t ∈ tgF (flatN G G.length) k := fun t => by
        cases e : us[t]? with
        | none => exact ⟨[], fun q z => by cases z⟩
        | some q =>
          obtain ⟨ut, a, b, c⟩ := hus t q e
          exact ⟨ut, fun q' z => by rw [← Option.some.inj z]; exact ⟨a, c⟩⟩
      obtain ⟨ut, hut⟩ := Classical.axiomOfChoice hch
      refine ⟨_, rfl, _, rfl, o, U, flatN G G.length, us, ut, rfl, SqL.of e2, SqL.of eU, fun t q e => SqL.of (hut t q e).1, fun t ht k => (hut t _ (List.getElem?_eq_getElem ht)).2 k, fun k hk => ?_, by omega, by have := fl G.length (Nat.le_refl _); omega, fun p R ft H' s' hp' eR P => ?_⟩
      · have e : (flatN G G.length)[k]? = some (flatN G G.length)[k] := List.getElem?_eq_getElem hk
        unfold owF
        rw [List.getD_eq_getElem?_getD, e]
        rcases hq : (flatN G G.length)[k] with ⟨i, l⟩
        have := (mem_flat (G := G) (Nat.le_refl _)).mp (List.mem_of_getElem? (by rw [e, hq]))
        rw [l1]
        exact this.1
      · rw [l1] at P
        exact k p R H' (s2.trans s') (s2.free hp') eR (isR_of hok P)
end
end Wb

set_option pp.maxSteps 500
set_option pp.deepTerms false
namespace Wb
open PySem PySem.Spec PyProof.Rows L2 Wx NdefX RZ StX PyProof.Rows.FinIter
section
variable {P : Program} {w : World} {K : PySem.W.Frag} {mg : Str → Option Value} {base : Heap}

def firstV (G : List Node) : List V := match firstBad G with
  | some t => [.str "number", .str "node", .int t]
  | none => [.str "none"]
def errV (G : List Node) : List V := if 12000 < G.length then [.str "many", .int 12000] else firstV G
theorem firstV_some {G : List Node} {t : Int} (h : firstBad G = some t) : firstV G = [.str "number", .str "node", .int t] := by unfold firstV; rw [h]
theorem firstV_none {G : List Node} (h : firstBad G = none) : firstV G = [.str "none"] := by unfold firstV; rw [h]
def sp_law_odd (K : PySem.W.Frag) : Sp := fun vs H Q _ => ∃ (a s : Addr) (n : Int), vs = [.ref a, .ref s, .int n] ∧ Scr K H a s ∧ 0 ≤ n ∧ n ≤ 1000000 ∧ ∀ (t : Int) (H' : Hp), (t < 0 ∨ n ≤ t) → Frm [s] H H' → Scr K H' a s → Q (.int t) H'
def sp_law_error (K : PySem.W.Frag) : Sp := fun vs H Q _ => ∃ (g : Addr) (G : List Node), vs = [.ref g] ∧ Dp K H (.ref g) (gameD G) ∧ (G.length ≤ 12000 → firstBad G = none → GOk G.length G) ∧ ∀ (q : Addr) (H' : Hp), Same H H' → H q = none → H' q = some (.tup (errV G)) → Q (.ref q) H'
def sp_law_first (K : PySem.W.Frag) : Sp := fun vs H Q _ => ∃ (g : Addr) (G : List Node), vs = [.ref g] ∧ Dp K H (.ref g) (gameD G) ∧ ∀ (q : Addr) (H' : Hp), Same H H' → H q = none → H' q = some (.tup (firstV G)) → Q (.ref q) H'
theorem pick3 (z r : Int) (r0 : 0 ≤ r) (r1 : r < 3) (z0 : 0 ≤ z) : ∃ y : Int, atI [V.int 0, V.int 1, V.int z] r = some (.int y) ∧ 0 ≤ y := by
  have : r = 0 ∨ r = 1 ∨ r = 2 := by omega
  rcases this with rfl | rfl | rfl
  · exact ⟨0, rfl, by decide⟩
  · exact ⟨1, rfl, by decide⟩
  · exact ⟨z, rfl, z0⟩
theorem look1 {f : Str} {v : V} : ([(f, v)] : List (Str × V)).lookup f = some v := by rw [lookup_put, if_pos rfl]

theorem ok_law_odd {f : Addr} {fd : FuncData} (F : Fun K "_law_odd" "_law_odd" s_law_odd f fd) (T : Txt K mg) (C_law_draw : Cal P w K mg base "_law_draw" P_law_draw 1 (sp_law_draw K)) : FnOk P w K mg base CX0 2 f fd P_law_odd (sp_law_odd K) := by
  obtain ⟨g_law_draw, gd_law_draw, G_law_draw, m_law_draw, k_law_draw, b_law_draw⟩ := C_law_draw.ex
  refine F.ok sc_law_odd (fun vs H Q E h => ?_) (fun cdv A outer s H vs Q E hr h => ?_)
  · obtain ⟨a, s0, n, rfl, hS, n0, n1, k⟩ := h
    rfl
  · obtain ⟨a, s0, n, rfl, hS, n0, n1, k⟩ := h
    refine ⟨_, (pss_cons (ps_set (i := 3) sc_law_odd.nd rfl (by first | exact Or.inl rfl | exact Or.inr rfl) (pe_ix ix_list (pe_lst (pa_cons pe_int (pa_cons pe_int (pa_cons (pe_call G_law_draw (hr.mono (by decide)) (by rfl) m_law_draw k_law_draw b_law_draw .nil pass0 (pa_cons (pv 0) (pa_cons (pv 1) (pa_cons (pe_op op_pow pe_int pe_int) pa_nil)))) pa_nil)))) (pe_call G_law_draw (hr.mono (by decide)) (by rfl) m_law_draw k_law_draw b_law_draw .nil pass0 (pa_cons (pv 0) (pa_cons (pv 1) (pa_cons pe_int pa_nil)))) (fun _ _ => rfl)))
  (pss_cons (ps_if (pt_cmpR op_eq (pe_call G_law_draw (hr.mono (by decide)) (by rfl) m_law_draw k_law_draw b_law_draw .nil pass0 (pa_cons (pv 0) (pa_cons (pv 1) (pa_cons pe_int pa_nil)))) pe_int (nomark _))
  (pss_one (ps_ret (pe_op op_add (pv 2) (pv 3))))
  pss_nil)
  (pss_one (ps_ret (pe_op op_sub (pe_un un_neg pe_int) (pv 3)))))), ?_⟩
    refine ⟨_, rfl, _, rfl, _, _, rfl, rfl, ⟨by decide, by decide, by decide⟩, a, s0, 1000000000000000000, rfl, hS, by decide, by decide, fun z H1 z0 z1 f1 sc1 => ⟨bigN (by show 3 ≤ _; decide), fun l hl => ?_⟩⟩
    have nls : ¬ l = s0 := sc1.ne hl
    refine ⟨_, rfl, _, rfl, a, s0, 3, rfl, sc1.same (Same.new hl), by decide, by decide, fun r H2 r0 r1 f2 sc2 => ?_⟩
    obtain ⟨y, hy, y0⟩ := pick3 z r r0 r1 z0
    refine ⟨l, _, _, _, rfl, rfl, SqL.of (f2 _ _ (by simpa using nls) upd_same), hy, ?_⟩
    have f02 : Frm [s0] H H2 := (f1.trans (Frm.new hl)).trans f2
    refine ⟨_, rfl, _, rfl, a, s0, 2, rfl, sc2, by decide, by decide, fun b H3 b0 b1 f3 sc3 => ⟨rfl, _, rfl, ite2 (fun c => ?_) (fun c => ?_)⟩⟩
    · exact ⟨_, rfl, _, rfl, _, _, rfl, rfl, k _ H3 (.inr (by omega)) (f02.trans f3) sc3⟩
    · exact ⟨_, rfl, _, rfl, _, _, rfl, rfl, k _ H3 (.inl (by omega)) (f02.trans f3) sc3⟩

theorem ok_law_error {f : Addr} {fd : FuncData} (F : Fun K "_law_error" "_law_error" s_law_error f fd) (T : Txt K mg) {C_BadNumber f_BadNumber cda_BadNumber cc_BadNumber : Addr} {fd_BadNumber : FuncData} (E_BadNumber : ErrC P K mg "BadNumber" "BadNumber.__init__" C_BadNumber f_BadNumber cda_BadNumber cc_BadNumber) (G_BadNumber : FnOk P w K mg base CX0 2 f_BadNumber fd_BadNumber PBadNumber___init__ (spBadNumber C_BadNumber)) (b_BadNumber : Binds K fd_BadNumber PBadNumber___init__ []) {C_TooMany f_TooMany cda_TooMany cc_TooMany : Addr} {fd_TooMany : FuncData} (E_TooMany : ErrC P K mg "TooMany" "TooMany.__init__" C_TooMany f_TooMany cda_TooMany cc_TooMany) (G_TooMany : FnOk P w K mg base CX0 2 f_TooMany fd_TooMany PTooMany___init__ (spTooMany C_TooMany)) (b_TooMany : Binds K fd_TooMany PTooMany___init__ []) {C_WaterError : Addr} (g_WaterError : mg "WaterError" = some (.ref C_WaterError)) (g_BadNumber : mg "BadNumber" = some (.ref C_BadNumber)) (g_TooMany : mg "TooMany" = some (.ref C_TooMany)) (XN : PySem.W.exmOne K (.ref C_BadNumber) (.ref C_WaterError) = some true) (XT : PySem.W.exmOne K (.ref C_TooMany) (.ref C_WaterError) = some true) (kNN : PySem.W.kitOne K (.ref C_BadNumber) (.ref C_BadNumber) = some true) (kNT : PySem.W.kitOne K (.ref C_BadNumber) (.ref C_TooMany) = some false) (kTN : PySem.W.kitOne K (.ref C_TooMany) (.ref C_BadNumber) = some false) (kTT : PySem.W.kitOne K (.ref C_TooMany) (.ref C_TooMany) = some true) (nL : PySem.W.findIn K (.ref C_TooMany) "limit" = some none) (C_xranks : ∃ (g : Addr) (gd : FuncData), FnOk P w K mg base (L2.CX P w) 6 g gd Pranks (spranks K C_BadNumber C_TooMany) ∧ mg "ranks" = some (.ref g) ∧ PySem.W.keepIn K (.ref g) = true ∧ Binds K gd Pranks []) : FnOk P w K mg base CX0 7 f fd P_law_error (sp_law_error K) := by
  obtain ⟨granks, gdranks, Granks, mranks, kranks, branks⟩ := C_xranks
  refine F.ok sc_law_error (fun vs H Q E h => ?_) (fun cdv A outer s H vs Q E hr h => ?_)
  · obtain ⟨g, G, rfl, hD, hok, k⟩ := h
    rfl
  · obtain ⟨g, G, rfl, hD, hok, k⟩ := h
    refine ⟨_, (pss_cons (ps_try_ass (i := 1) rfl rfl rfl sc_law_error.nd rfl rfl takes0 (fun W pn xe tk _ => (pss_one (ps_expr (pe_callS Granks (hr.mono (by decide)) (by rfl) mranks kranks branks (fun σ => passAt tk σ) (pa_cons (pv 0) pa_nil))))) (by exact (.cons ⟨rfl, by decide, Or.inl g_WaterError⟩ (fun a oe cls d pn hz hf => (pss_cons (ps_if (PW.pt (pw_and (pt_val (pe_callB (id := "isinstance") (call_isD hz hf) (by rfl) T.b_isinstance (by decide +kernel) (pa_cons (pv 1) (pa_cons (pe_glob (v := .ref C_BadNumber) rfl g_BadNumber rfl) pa_nil)))) (pw_and1 (pt_not (pt_val (pe_callB (id := "isinstance") (call_isD hz hf) (by rfl) T.b_isinstance (by decide +kernel) (pa_cons (pv 1) (pa_cons (pe_glob (v := .ref C_TooMany) rfl g_TooMany rfl) pa_nil))))))))
  (pss_one (ps_ret (pe_tup (pa_cons pe_str (pa_cons (pe_xd hz hf (pv 1)) (pa_cons (pe_xd hz hf (pv 1)) pa_nil))))))
  pss_nil)
  (pss_cons (ps_if (PW.pt (pw_and (pt_val (pe_callB (id := "isinstance") (call_isD hz hf) (by rfl) T.b_isinstance (by decide +kernel) (pa_cons (pv 1) (pa_cons (pe_glob (v := .ref C_TooMany) rfl g_TooMany rfl) pa_nil)))) (pw_and1 (pt_not (pt_val (pe_callB (id := "isinstance") (call_isD hz hf) (by rfl) T.b_isinstance (by decide +kernel) (pa_cons (pv 1) (pa_cons (pe_glob (v := .ref C_BadNumber) rfl g_BadNumber rfl) pa_nil))))))))
  (pss_one (ps_ret (pe_tup (pa_cons pe_str (pa_cons (pe_xd hz hf (pv 1)) pa_nil)))))
  pss_nil)
  (pss_one (ps_ret (pe_tup (pa_cons pe_str pa_nil))))))) .nil)))
  (pss_one (ps_ret (pe_tup (pa_cons pe_str pa_nil))))), ?_⟩
    refine ⟨_, rfl, g, G, rfl, hD, fun hM d H1 nd s1 hd => ⟨true, XT, fun _ a na => ?_, fun q => by cases q⟩, fun hL t ht d H1 nd s1 hd => ⟨true, XN, fun _ a na => ?_, fun q => by cases q⟩, fun hL hN => ⟨hok hL hN, fun p R H1 s1 np ep hR => ?_⟩⟩
    · refine ⟨_, rfl, C_TooMany, _, .ref C_BadNumber, false, rfl, rfl, .own _, E_TooMany.isx, (fun dd e => by cases e; exact ⟨_, hd⟩), kTN, false, rfl, iteF ?_⟩
      refine ⟨_, rfl, C_TooMany, _, .ref C_TooMany, true, rfl, rfl, .own _, E_TooMany.isx, (fun dd e => by cases e; exact ⟨_, hd⟩), kTT, true, rfl, iteT ?_⟩
      refine ⟨_, rfl, C_TooMany, _, .ref C_BadNumber, false, rfl, rfl, .own _, E_TooMany.isx, (fun dd e => by cases e; exact ⟨_, hd⟩), kTN, false, rfl, iteT ?_⟩
      refine ⟨_, rfl, C_TooMany, d, _, _, rfl, rfl, rfl, E_TooMany.xf, nL, hd, look1, bigN (by show 2 ≤ _; decide), fun q hq => k q _ (s1.trans (Same.new hq)) (s1.free hq) ?_⟩
      unfold errV
      rw [if_pos hM]
      exact upd_same
    · refine ⟨_, rfl, C_BadNumber, _, .ref C_BadNumber, true, rfl, rfl, .own _, E_BadNumber.isx, (fun dd e => by cases e; exact ⟨_, hd⟩), kNN, true, rfl, iteT ?_⟩
      refine ⟨_, rfl, C_BadNumber, _, .ref C_TooMany, false, rfl, rfl, .own _, E_BadNumber.isx, (fun dd e => by cases e; exact ⟨_, hd⟩), kNT, false, rfl, iteT ?_⟩
      refine ⟨_, rfl, C_BadNumber, d, _, _, rfl, rfl, rfl, E_BadNumber.xf, E_BadNumber.noWhat, hd, look_what, _, rfl, C_BadNumber, d, _, _, rfl, rfl, rfl, E_BadNumber.xf, E_BadNumber.noValue, hd, look_val, bigN (by show 3 ≤ _; decide), fun q hq => k q _ (s1.trans (Same.new hq)) (s1.free hq) ?_⟩
      unfold errV
      rw [if_neg (by omega), firstV_some ht]
      exact upd_same
    · refine ⟨bigN (by show 1 ≤ _; decide), fun q hq => k q _ (s1.trans (Same.new hq)) (s1.free hq) ?_⟩
      unfold errV
      rw [if_neg (by omega), firstV_none hN]
      exact upd_same

theorem ok_law_first {f : Addr} {fd : FuncData} (F : Fun K "_law_first" "_law_first" s_law_first f fd) (T : Txt K mg) : FnOk P w K mg base CX0 1 f fd P_law_first (sp_law_first K) := by
  refine F.ok sc_law_first (fun vs H Q E h => ?_) (fun cdv A outer s H vs Q E hr h => ?_)
  · obtain ⟨g, G, rfl, hD, k⟩ := h
    rfl
  · obtain ⟨g, G, rfl, hD, k⟩ := h
    refine ⟨_, (pss_cons (ps_for PassesOwn.never rfl (pi_list (pv 0)) (pg_name (i := 1) sc_law_first.nd rfl (by first | exact Or.inl rfl | exact Or.inr rfl))
  (pss_one (ps_for PassesOwn.never rfl (pi_list (pv 1)) (pg_name (i := 2) sc_law_first.nd rfl (by first | exact Or.inl rfl | exact Or.inr rfl))
  (pss_one (ps_if (pt_cmpR op_notN (pv 2) pe_non (nomark _))
  (pss_one (ps_for PassesOwn.never rfl (pi_list (pv 2)) (pg_name (i := 3) sc_law_first.nd rfl (by first | exact Or.inl rfl | exact Or.inr rfl))
  (pss_one (ps_if (PW.pt (pw_or (pt_cmpR op_lt (pv 3) pe_int (nomark _)) (pw_or1 (pt_cmpR op_ge (pv 3) (pe_callB call_len_seq (by rfl) T.b_len PySem.boot_len (pa_cons (pv 0) pa_nil)) (nomark _)))))
  (pss_one (ps_ret (pe_tup (pa_cons pe_str (pa_cons pe_str (pa_cons (pv 3) pa_nil))))))
  pss_nil))))
  pss_nil)))))
  (pss_one (ps_ret (pe_tup (pa_cons pe_str pa_nil))))), ?_⟩
    obtain ⟨xs, hS, hA⟩ := dp_list hD
    have hxl : xs.length = G.length := by rw [dpAll_len hA, List.length_map]
    refine ⟨_, rfl, g, rfl, ⟨_, hS⟩, ?_⟩
    refine for_it walk_list (fun i σ H1 => ∃ (w2 w3 w4 : Option V), σ = [some (.ref g), w2, w3, w4] ∧ H1 = H ∧ ∀ y, y ∈ tg (G.take i) → badT G.length y = false)
      ⟨_, _, _, rfl, rfl, fun y hy => by cases hy⟩ (fun i σ H1 _ ⟨_, _, _, _, e, _⟩ => by rw [e]; exact hS) ?_ ?_
    · rintro i x σ H1o H1 hi ⟨w2, w3, w4, rfl, rfl, g1⟩ ⟨rfl, hx⟩
      obtain ⟨d, hd, hxd⟩ := dpAll_get hA hx
      obtain ⟨nd, hnd, rfl⟩ := map_at hd
      obtain ⟨p, ws, rfl, hp, hws⟩ := dp_ref hxd
      refine ⟨_, rfl, p, rfl, ⟨_, hp⟩, ?_⟩
      refine for_it walk_list (fun j σ H2 => ∃ (w3 w4 : Option V), σ = [some (.ref g), some (.ref p), w3, w4] ∧ H2 = H1 ∧ ∀ y, y ∈ tgN (nd.take j) → badT G.length y = false)
        ⟨_, _, rfl, rfl, fun y hy => by cases hy⟩ (fun i σ H2 _ ⟨_, _, _, e, _⟩ => by rw [e]; exact hp) ?_ ?_
      · rintro j y σ H2o H2 hj ⟨w3, w4, rfl, rfl, g2⟩ ⟨rfl, hy⟩
        obtain ⟨d, hd', hyd⟩ := dpAll_get hws hy
        obtain ⟨o, ho, rfl⟩ := map_at hd'
        refine ⟨_, rfl, rfl, _, rfl, ?_⟩
        rcases opt_v hyd with ⟨rfl, rfl⟩ | ⟨l, q, rfl, rfl, hq⟩
        · refine ite2 (fun z => absurd z (by decide)) (fun _ => ?_)
          exact ⟨_, _, rfl, rfl, fun y hy => g2 y (by unfold tgN at hy ⊢; rw [flat_snoc ho] at hy; simpa using hy)⟩
        · refine ite2 (fun _ => ?_) (fun z => absurd (by rfl) z)
          refine ⟨_, rfl, q, rfl, ⟨_, hq⟩, ?_⟩
          refine for_it walk_list (fun k σ H3 => ∃ (w4 : Option V), σ = [some (.ref g), some (.ref p), some (.ref q), w4] ∧ H3 = H2 ∧ ∀ y, y ∈ l.take k → badT G.length y = false)
            ⟨_, rfl, rfl, fun y hy => by cases hy⟩ (fun i σ H3 _ ⟨_, _, e, _⟩ => by rw [e]; exact hq) ?_ ?_
          · rintro k' z σ H3o H3 hk ⟨w4, rfl, rfl, g3⟩ ⟨rfl, hz⟩
            obtain ⟨t, ht, rfl⟩ := map_at hz
            have fin : badT G.length t = true → ∀ (q : Addr) (hq : H3 q = none), Q (.ref q) (upd H3 q (.tup [.str "number", .str "node", .int t])) := fun b q hq => by
              refine k q _ (Same.new hq) hq ?_
              rw [firstV_some (first_at hnd ho ht g1 g2 g3 b)]
              exact upd_same
            refine ⟨_, rfl, _, _, rfl, rfl, _, rfl, ?_⟩
            refine ite2 (fun c => ?_) (fun c => ?_)
            · have c := of_decide_eq_true c
              exact ⟨_, rfl, bigN (by show 3 ≤ _; decide), fin (decide_eq_true (.inl c))⟩
            have c : ¬ t < 0 := fun q => c (decide_eq_true q)
            refine ⟨_, rfl, _, rfl, g, _, rfl, .inl hS, _, _, rfl, rfl, _, rfl, ?_⟩
            refine ite2 (fun c2 => ?_) (fun c2 => ?_)
            · have c2 := of_decide_eq_true c2
              exact ⟨_, rfl, bigN (by show 3 ≤ _; decide), fin (decide_eq_true (.inr (by omega)))⟩
            have c2 : ¬ ((xs.length : Nat) : Int) ≤ t := fun q => c2 (decide_eq_true q)
            refine ⟨_, rfl, rfl, fun y hy => ?_⟩
            rw [take_snoc ht] at hy
            rcases List.mem_append.mp hy with q | q
            · exact g3 y q
            · rw [List.mem_singleton.mp q]
              exact decide_eq_false (by omega)
          · rintro σ H3 ⟨w4, rfl, rfl, g3⟩
            rw [List.length_map, List.take_length] at g3
            refine ⟨_, _, rfl, rfl, fun y hy => ?_⟩
            unfold tgN at hy
            rw [flat_snoc ho] at hy
            rcases List.mem_append.mp hy with q | q
            · exact g2 y q
            · exact g3 y q
      · rintro σ H2 ⟨w3, w4, rfl, rfl, g2⟩
        rw [dpAll_len hws, List.length_map, List.take_length] at g2
        refine ⟨_, _, _, rfl, rfl, fun y hy => ?_⟩
        unfold tg at hy
        rw [flat_snoc hnd] at hy
        rcases List.mem_append.mp hy with q | q
        · exact g1 y q
        · exact g2 y q
    · rintro σ H1 ⟨w2, w3, w4, rfl, rfl, g1⟩
      rw [hxl, List.take_length] at g1
      refine ⟨bigN (by show 1 ≤ _; decide), fun q hq => k q _ (Same.new hq) hq ?_⟩
      rw [firstV_none (first_none g1)]
      exact upd_same
end
end Wb

set_option pp.maxSteps 500
set_option pp.deepTerms false
namespace Wb
open PySem PySem.Spec PyProof.Rows L2 Wx NdefX RZ StX PyProof.Rows.FinIter
section
variable {P : Program} {w : World} {K : PySem.W.Frag} {mg : Str → Option Value} {base : Heap}

theorem at_set {α : Type} {l : List α} {i k : Nat} {x y : α} (h : (l.set i x)[k]? = some y) : (k = i ∧ y = x) ∨ (k ≠ i ∧ l[k]? = some y) := by
  by_cases e : i = k
  · subst e
    rw [List.getElem?_set_self'] at h
    cases q : l[i]? with
    | none => rw [q] at h; cases h
    | some z =>
      rw [q] at h
      exact .inl ⟨rfl, (Option.some.inj h).symm⟩
  · rw [List.getElem?_set_ne e] at h
    exact .inr ⟨fun z => e z.symm, h⟩
theorem map_set_self {α β : Type} {f : α → β} {l : List α} {i : Nat} {x y : α} (h : l[i]? = some y) (e : f x = f y) : (l.set i x).map f = l.map f := by
  refine List.ext_getElem? fun k => ?_
  rw [List.getElem?_map, List.getElem?_map]
  by_cases q : i = k
  · subst q
    rw [List.getElem?_set_self', h]
    show some (f x) = some (f y)
    rw [e]
  · rw [List.getElem?_set_ne q]
theorem Tree.grow {H H' : Hp} {c p z : Addr} {T : List TN} {i jz : Nat} {os os' : List (Option (Addr × List Int))} {lz : List Int} (t : Tree H c T) (hi : T[i]? = some (p, os)) (nz : H z = none)
    (hos : ∀ (j : Nat) (q : Addr) (l : List Int), os'[j]? = some (some (q, l)) → os[j]? = some (some (q, l)) ∨ (q = z ∧ l = lz ∧ j = jz))
    (hp : H' p = some (.lst (os'.map ov))) (hz : H' z = some (.lst (lz.map V.int))) (k : ∀ a o, a = c ∨ InT T a → a ≠ p → H a = some o → H' a = some o) : Tree H' c (T.set i (p, os')) := by
  have cz : z ≠ c := fun e => by rw [e, t.top] at nz; cases nz
  have noz : ∀ {b : Addr}, InT T b → b ≠ z := fun {b} x e => by
    obtain ⟨xs, q⟩ := t.at (.inr x)
    rw [e, nz] at q
    cases q
  have cp : c ≠ p := fun e => (t.nd i p os hi).2 e.symm
  -- an entry of the new tree
  have ent : ∀ {k : Nat} {p' : Addr} {o' : List (Option (Addr × List Int))}, (T.set i (p, os'))[k]? = some (p', o') → ∃ o, T[k]? = some (p', o) ∧ ∀ (j : Nat) (q : Addr) (l : List Int), o'[j]? = some (some (q, l)) → o[j]? = some (some (q, l)) ∨ (q = z ∧ l = lz ∧ j = jz ∧ k = i) := fun {k p' o'} e => by
    rcases at_set e with ⟨rfl, ee⟩ | ⟨n, e⟩
    · cases ee
      exact ⟨os, hi, fun j q l f => (hos j q l f).imp id fun ⟨a, b, c⟩ => ⟨a, b, c, rfl⟩⟩
    · exact ⟨o', e, fun j q l f => .inl f⟩
  refine ⟨?_, fun k' p' o' e => ?_, fun k' p' o' j q l e f => ?_, fun k1 k2 p' o1 o2 e1 e2 => ?_, fun k1 p1 o1 j1 q l1 k2 p2 o2 j2 l2 e1 f1 e2 f2 => ?_, fun k1 p1 o1 k2 p2 o2 j l e1 e2 f => ?_⟩
  · rw [map_set_self (x := (p, os')) (f := fun n : TN => V.ref n.1) hi rfl]
    exact k _ _ (.inl rfl) cp t.top
  · rcases at_set e with ⟨rfl, ee⟩ | ⟨n, e⟩
    · cases ee
      exact ⟨hp, fun z => cp z.symm⟩
    · obtain ⟨a, b⟩ := t.nd k' p' o' e
      exact ⟨k _ _ (.inr ⟨k', p', o', e, .inl rfl⟩) (fun q => n (t.pp k' i p o' os (by rw [← q]; exact e) hi)) a, b⟩
  · obtain ⟨o, e0, h0⟩ := ent e
    rcases h0 j q l f with y | ⟨rfl, rfl, _⟩
    · obtain ⟨a, b⟩ := t.op k' p' o j q l e0 y
      exact ⟨k _ _ (.inr ⟨k', p', o, e0, .inr ⟨j, q, l, y, rfl⟩⟩) (fun x => t.pq i p os k' p' o j l hi e0 (by rw [← x]; exact y)) a, b⟩
    · exact ⟨hz, cz⟩
  · obtain ⟨o, e0, _⟩ := ent e1
    obtain ⟨o', e0', _⟩ := ent e2
    exact t.pp k1 k2 p' o o' e0 e0'
  · obtain ⟨o, e0, h0⟩ := ent e1
    obtain ⟨o', e0', h0'⟩ := ent e2
    rcases h0 j1 q l1 f1 with y | ⟨a1, a2, a3, a4⟩ <;> rcases h0' j2 q l2 f2 with y' | ⟨b1, b2, b3, b4⟩
    · exact t.qq k1 p1 o j1 q l1 k2 p2 o' j2 l2 e0 y e0' y'
    · exact absurd b1 (noz ⟨k1, p1, o, e0, .inr ⟨j1, q, l1, y, rfl⟩⟩)
    · exact absurd a1 (noz ⟨k2, p2, o', e0', .inr ⟨j2, q, l2, y', rfl⟩⟩)
    · exact ⟨by omega, by omega⟩
  · obtain ⟨o, e0, h0⟩ := ent e1
    obtain ⟨o', e0', h0'⟩ := ent e2
    rcases h0' j p1 l f with y | ⟨a1, _⟩
    · exact t.pq k1 p1 o k2 p2 o' j l e0 e0' y
    · exact noz ⟨k1, p1, o, e0, .inl rfl⟩ a1
theorem Tree.shrink {H H' : Hp} {c p q : Addr} {T : List TN} {i j : Nat} {os : List (Option (Addr × List Int))} {l l' : List Int} (t : Tree H c T) (hi : T[i]? = some (p, os)) (hj : os[j]? = some (some (q, l)))
    (hq : H' q = some (.lst (l'.map V.int))) (k : ∀ a o, a = c ∨ InT T a → a ≠ q → H a = some o → H' a = some o) : Tree H' c (T.set i (p, os.set j (some (q, l')))) := by
  have ent : ∀ {k : Nat} {p' : Addr} {o' : List (Option (Addr × List Int))}, (T.set i (p, os.set j (some (q, l'))))[k]? = some (p', o') → ∃ o, T[k]? = some (p', o) ∧ o'.map ov = o.map ov ∧ ∀ (j' : Nat) (q' : Addr) (m : List Int), o'[j']? = some (some (q', m)) → (o[j']? = some (some (q', m)) ∧ q' ≠ q) ∨ (q' = q ∧ m = l' ∧ ∃ m', o[j']? = some (some (q', m'))) := fun {k p' o'} e0 => by
    rcases at_set e0 with ⟨rfl, ee⟩ | ⟨n, e⟩
    · cases ee
      refine ⟨os, hi, map_set_self (f := ov) hj rfl, fun j' q' m f => ?_⟩
      rcases at_set f with ⟨rfl, ff⟩ | ⟨n, f2⟩
      · cases ff
        exact .inr ⟨rfl, rfl, l, hj⟩
      · refine .inl ⟨f2, fun z => n ?_⟩
        rw [z] at f2
        exact (t.qq _ p os j' _ m _ p os j l hi f2 hi hj).2
    · refine ⟨o', e, rfl, fun j' q' m f => .inl ⟨f, fun z => n ?_⟩⟩
      rw [z] at f
      exact (t.qq _ p' o' j' _ m i p os j l e f hi hj).1
  have cq : c ≠ q := fun e => (t.op i p os j q l hi hj).2 e.symm
  refine ⟨?_, fun k' p' o' e => ?_, fun k' p' o' j' q' m e f => ?_, fun k1 k2 p' o1 o2 e1 e2 => ?_, fun k1 p1 o1 j1 q' l1 k2 p2 o2 j2 l2 e1 f1 e2 f2 => ?_, fun k1 p1 o1 k2 p2 o2 j' m e1 e2 f => ?_⟩
  · rw [map_set_self (x := (p, os.set j (some (q, l')))) (f := fun n : TN => V.ref n.1) hi rfl]
    exact k _ _ (.inl rfl) cq t.top
  · obtain ⟨o, e0, hm, _⟩ := ent e
    obtain ⟨a, b⟩ := t.nd k' p' o e0
    rw [hm]
    exact ⟨k _ _ (.inr ⟨k', p', o, e0, .inl rfl⟩) (fun x => t.pq k' p' o i p os j l e0 hi (by rw [x]; exact hj)) a, b⟩
  · obtain ⟨o, e0, hm, h0⟩ := ent e
    rcases h0 j' q' m f with ⟨y, n⟩ | ⟨rfl, rfl, m', y⟩
    · obtain ⟨a, b⟩ := t.op k' p' o j' q' m e0 y
      exact ⟨k _ _ (.inr ⟨k', p', o, e0, .inr ⟨j', q', m, y, rfl⟩⟩) n a, b⟩
    · exact ⟨hq, fun z => cq z.symm⟩
  · obtain ⟨o, e0, _⟩ := ent e1
    obtain ⟨o', e0', _⟩ := ent e2
    exact t.pp k1 k2 p' o o' e0 e0'
  · obtain ⟨o, e0, _, h0⟩ := ent e1
    obtain ⟨o', e0', _, h0'⟩ := ent e2
    have y1 : ∃ m, o[j1]? = some (some (q', m)) := by
      rcases h0 j1 q' l1 f1 with ⟨y, _⟩ | ⟨_, _, y⟩
      · exact ⟨_, y⟩
      · exact y
    have y2 : ∃ m, o'[j2]? = some (some (q', m)) := by
      rcases h0' j2 q' l2 f2 with ⟨y, _⟩ | ⟨_, _, y⟩
      · exact ⟨_, y⟩
      · exact y
    obtain ⟨m1, y1⟩ := y1
    obtain ⟨m2, y2⟩ := y2
    exact t.qq k1 p1 o j1 q' m1 k2 p2 o' j2 m2 e0 y1 e0' y2
  · obtain ⟨o, e0, _⟩ := ent e1
    obtain ⟨o', e0', _, h0'⟩ := ent e2
    rcases h0' j' p1 m f with ⟨y, _⟩ | ⟨_, _, m', y⟩
    · exact t.pq k1 p1 o k2 p2 o' j' m e0 e0' y
    · exact t.pq k1 p1 o k2 p2 o' j' m' e0 e0' y
theorem map_erase {α β : Type} {f : α → β} : ∀ {l : List α} {n : Nat}, (l.map f).eraseIdx n = (l.eraseIdx n).map f
  | [], _ => rfl
  | _ :: _, 0 => rfl
  | x :: l, n + 1 => by
    show f x :: (l.map f).eraseIdx n = f x :: (l.eraseIdx n).map f
    rw [map_erase (l := l)]
theorem era_set {T : List TN} {i : Nat} {p : Addr} {os : List (Option (Addr × List Int))} : era (T.set i (p, os)) = (era T).set i (os.map eraO) := by
  unfold era
  rw [List.map_set]
theorem era_at {T : List TN} {i : Nat} {p : Addr} {os : List (Option (Addr × List Int))} (h : T[i]? = some (p, os)) : (era T)[i]? = some (os.map eraO) := by
  unfold era
  rw [List.getElem?_map, h]
  rfl
theorem inT_grow {T : List TN} {i jz : Nat} {p z x : Addr} {os os' : List (Option (Addr × List Int))} {lz : List Int} (hi : T[i]? = some (p, os))
    (hos : ∀ (j : Nat) (q : Addr) (l : List Int), os'[j]? = some (some (q, l)) → os[j]? = some (some (q, l)) ∨ (q = z ∧ l = lz ∧ j = jz)) (h : InT (T.set i (p, os')) x) : InT T x ∨ x = z := by
  obtain ⟨k, p', o', e, y⟩ := h
  rcases at_set e with ⟨rfl, ee⟩ | ⟨n, e⟩
  · cases ee
    rcases y with rfl | ⟨j, q, l, f, rfl⟩
    · exact .inl ⟨k, _, os, hi, .inl rfl⟩
    · rcases hos j _ l f with y | ⟨y, _⟩
      · exact .inl ⟨k, p, os, hi, .inr ⟨j, _, l, y, rfl⟩⟩
      · exact .inr y
  · exact .inl ⟨k, p', o', e, y⟩
theorem inT_shrink {T : List TN} {i j : Nat} {p q x : Addr} {os : List (Option (Addr × List Int))} {l l' : List Int} (hi : T[i]? = some (p, os)) (hj : os[j]? = some (some (q, l))) (h : InT (T.set i (p, os.set j (some (q, l')))) x) : InT T x := by
  obtain ⟨k, p', o', e, y⟩ := h
  rcases at_set e with ⟨rfl, ee⟩ | ⟨n, e⟩
  · cases ee
    rcases y with rfl | ⟨j', q', m, f, rfl⟩
    · exact ⟨k, _, os, hi, .inl rfl⟩
    · rcases at_set f with ⟨rfl, ff⟩ | ⟨n, f⟩
      · cases ff
        exact ⟨k, p, os, hi, .inr ⟨_, _, l, hj, rfl⟩⟩
      · exact ⟨k, p, os, hi, .inr ⟨_, _, m, f, rfl⟩⟩
  · exact ⟨k, p', o', e, y⟩
theorem seq_at {xs : List V} {k : Nat} (h : k < xs.length) : seqIndex? (k : Int) xs.length = some k := by
  rw [seqIndex_of (by omega) (by omega)]
  rfl

theorem mem_tg {G : List Node} {y : Int} : y ∈ tg G ↔ ∃ nd, nd ∈ G ∧ ∃ l, some l ∈ nd ∧ y ∈ l := by
  unfold tg tgN
  rw [List.mem_flatMap]
  constructor
  · rintro ⟨nd, h, h2⟩
    obtain ⟨o, ho, hy⟩ := List.mem_flatMap.mp h2
    cases o with
    | none => cases hy
    | some l => exact ⟨nd, h, l, ho, hy⟩
  · rintro ⟨nd, h, l, hl, hy⟩
    exact ⟨nd, h, List.mem_flatMap.mpr ⟨some l, hl, hy⟩⟩
theorem first_some {G : List Node} {y : Int} (h : y ∈ tg G) (b : badT G.length y = true) : firstBad G ≠ none := fun e => (List.find?_eq_none.mp e y h) b
structure BentS (H0 : Hp) (s c : Addr) (n b : Nat) (H : Hp) (T : List TN) : Prop where
  frm : Frm [s] H0 H
  st : St4 H s
  tree : Tree H c T
  fr : ∀ x, InT T x → H0 x = none
  len : T.length = n
  sz : ∀ nd, nd ∈ era T → nd.length ≤ b ∧ ∀ l, some l ∈ nd → l.length ≤ b
  bad : 3 < b → ∃ y, y ∈ tg (era T) ∧ badT n y = true
theorem BentS.up {H0 : Hp} {s c : Addr} {n b : Nat} {H : Hp} {T : List TN} (h : BentS H0 s c n b H T) : ∀ nd, nd ∈ era T → nd.length ≤ b + 1 ∧ ∀ l, some l ∈ nd → l.length ≤ b + 1 := fun nd hn =>
  ⟨Nat.le_succ_of_le (h.sz nd hn).1, fun l hl => Nat.le_succ_of_le ((h.sz nd hn).2 l hl)⟩
def sp_law_bent (K : PySem.W.Frag) : Sp := fun vs H Q _ => ∃ (a s g : Addr) (G : List Node), vs = [.ref a, .ref s, .ref g] ∧ Scr K H a s ∧ Dp K (hid [s] H) (.ref g) (gameD G) ∧ GOk3 G.length G ∧ 0 < G.length ∧ G.length ≤ 60 ∧
  ∀ (c : Addr) (T : List TN) (H' : Hp), Frm [s] H H' → Scr K H' a s → Tree H' c T → H c = none → (∀ x, InT T x → H x = none) → T.length = G.length → (∀ nd, nd ∈ era T → nd.length ≤ 20) → firstBad (era T) ≠ none → Q (.ref c) H'

theorem ok_law_bent {f : Addr} {fd : FuncData} (F : Fun K "_law_bent" "_law_bent" s_law_bent f fd) (T : Txt K mg) (C_law_draw : Cal P w K mg base "_law_draw" P_law_draw 1 (sp_law_draw K)) (C_law_copy : Cal P w K mg base "_law_copy" P_law_copy 1 (sp_law_copyT K)) (C_law_odd : Cal P w K mg base "_law_odd" P_law_odd 2 (sp_law_odd K)) : FnOk P w K mg base CX0 4 f fd P_law_bent (sp_law_bent K) := by
  obtain ⟨g_law_draw, gd_law_draw, G_law_draw, m_law_draw, k_law_draw, b_law_draw⟩ := C_law_draw.ex
  obtain ⟨g_law_copy, gd_law_copy, G_law_copy, m_law_copy, k_law_copy, b_law_copy⟩ := C_law_copy.ex
  obtain ⟨g_law_odd, gd_law_odd, G_law_odd, m_law_odd, k_law_odd, b_law_odd⟩ := C_law_odd.ex
  refine F.ok sc_law_bent (fun vs H Q E h => ?_) (fun cdv A outer s H vs Q E hr h => ?_)
  · obtain ⟨a, s0, g, G, rfl, hS, hD, hok, hG0, hG, kE⟩ := h
    rfl
  · obtain ⟨a, s0, g, G, rfl, hS, hD, hok, hG0, hG, kE⟩ := h
    refine ⟨_, (pss_cons (ps_set (i := 3) sc_law_bent.nd rfl (by first | exact Or.inl rfl | exact Or.inr rfl) (pe_call G_law_copy (hr.mono (by decide)) (by rfl) m_law_copy k_law_copy b_law_copy .nil pass0 (pa_cons (pv 2) pa_nil)))
  (pss_cons (ps_for PassesOwn.never rfl (pi_range1 rfl T.b_range (pa_cons (pe_op op_add pe_int (pe_call G_law_draw (hr.mono (by decide)) (by rfl) m_law_draw k_law_draw b_law_draw .nil pass0 (pa_cons (pv 0) (pa_cons (pv 1) (pa_cons pe_int pa_nil))))) pa_nil)) (pg_name (i := 4) sc_law_bent.nd rfl (by first | exact Or.inl rfl | exact Or.inr rfl))
  (pss_cons (ps_set (i := 5) sc_law_bent.nd rfl (by first | exact Or.inl rfl | exact Or.inr rfl) (pe_call G_law_draw (hr.mono (by decide)) (by rfl) m_law_draw k_law_draw b_law_draw .nil pass0 (pa_cons (pv 0) (pa_cons (pv 1) (pa_cons (pe_callB call_len_seq (by rfl) T.b_len PySem.boot_len (pa_cons (pv 3) pa_nil)) pa_nil)))))
  (pss_cons (ps_set (i := 6) sc_law_bent.nd rfl (by first | exact Or.inl rfl | exact Or.inr rfl) (pe_call G_law_draw (hr.mono (by decide)) (by rfl) m_law_draw k_law_draw b_law_draw .nil pass0 (pa_cons (pv 0) (pa_cons (pv 1) (pa_cons (pe_op op_add (pe_callB call_len_seq (by rfl) T.b_len PySem.boot_len (pa_cons (pe_ix ix_list (pv 3) (pv 5) (fun _ _ => rfl)) pa_nil)) pe_int) pa_nil)))))
  (pss_one (ps_if (PW.pt (pw_or (pt_cmpR op_eq (pv 6) (pe_callB call_len_seq (by rfl) T.b_len PySem.boot_len (pa_cons (pe_ix ix_list (pv 3) (pv 5) (fun _ _ => rfl)) pa_nil)) (nomark _)) (pw_or1 (pt_cmpR op_isN (pe_ix ix_list (pe_ix ix_list (pv 3) (pv 5) (fun _ _ => rfl)) (pv 6) (fun _ _ => rfl)) pe_non (nomark _)))))
  (pss_cons (ps_set (i := 7) sc_law_bent.nd rfl (by first | exact Or.inl rfl | exact Or.inr rfl) (pe_ix ix_list (pv 3) (pv 5) (fun _ _ => rfl)))
  (pss_one (ps_expr (pe_bm PySem.F.plainAttrs_list PySem.F.slot_list_append PySem.F.type_list_append mt_append (pv 7) (pa_cons (pe_lst (pa_cons (pe_call G_law_odd (hr.mono (by decide)) (by rfl) m_law_odd k_law_odd b_law_odd .nil pass0 (pa_cons (pv 0) (pa_cons (pv 1) (pa_cons (pe_callB call_len_seq (by rfl) T.b_len PySem.boot_len (pa_cons (pv 3) pa_nil)) pa_nil)))) pa_nil)) pa_nil)))))
  (pss_cons (ps_set (i := 8) sc_law_bent.nd rfl (by first | exact Or.inl rfl | exact Or.inr rfl) (pe_ix ix_list (pe_ix ix_list (pv 3) (pv 5) (fun _ _ => rfl)) (pv 6) (fun _ _ => rfl)))
  (pss_one (ps_expr (pe_bm PySem.F.plainAttrs_list PySem.F.slot_list_insert PySem.F.type_list_insert mt_insert (pv 8) (pa_cons (pe_call G_law_draw (hr.mono (by decide)) (by rfl) m_law_draw k_law_draw b_law_draw .nil pass0 (pa_cons (pv 0) (pa_cons (pv 1) (pa_cons (pe_op op_add (pe_callB call_len_seq (by rfl) T.b_len PySem.boot_len (pa_cons (pv 8) pa_nil)) pe_int) pa_nil)))) (pa_cons (pe_call G_law_odd (hr.mono (by decide)) (by rfl) m_law_odd k_law_odd b_law_odd .nil pass0 (pa_cons (pv 0) (pa_cons (pv 1) (pa_cons (pe_callB call_len_seq (by rfl) T.b_len PySem.boot_len (pa_cons (pv 3) pa_nil)) pa_nil)))) pa_nil)))))))))))
  (pss_one (ps_ret (pv 3))))), ?_⟩
    refine ⟨_, rfl, g, G, rfl, dp_same (hid_same _ _) hD, by omega, (fun n hn => ⟨by have := (hok n hn).1; omega, trivial⟩), fun c T0 H1 s1 hc hfr tr eT => ?_⟩
    have off0 : ∀ {T : List TN} {x : Addr}, (∀ x, InT T x → H x = none) → x = c ∨ InT T x → ¬ x ∈ [s0] := fun {T x} hf hx q => by
      have q : x = s0 := by simpa using q
      obtain ⟨_, _, _, _, e⟩ := hS.2
      rcases hx with rfl | hx
      · rw [q] at hc
        rw [hc] at e
        cases e
      · have := hf x hx
        rw [q, e] at this
        cases this
    refine ⟨_, rfl, _, rfl, a, s0, 2, rfl, hS.same s1, by decide, by decide, fun m H2 m0 m1 f2 sc2 => ⟨_, _, rfl, rfl, _, rfl, by omega, by omega, ?_⟩⟩
    have eL : T0.length = G.length := by
      have := congrArg List.length eT
      unfold era at this
      rwa [List.length_map] at this
    refine for_it walk_range (fun i σ H3 => ∃ (T : List TN) (w4 w5 w6 w7 w8 : Option V), σ = [some (.ref a), some (.ref s0), some (.ref g), some (.ref c), w4, w5, w6, w7, w8] ∧ BentS H s0 c G.length (3 + i) H3 T)
      ⟨T0, _, _, _, _, _, rfl, ⟨(Frm.of_same s1).trans f2, sc2.2, tr.keep (fun x o hx e => f2 x o (off0 hfr hx) e), hfr, eL, fun nd hn => ?_, fun h => absurd h (by omega)⟩⟩ (fun _ _ _ _ _ => trivial) ?_ ?_
    · rw [eT] at hn
      exact ⟨(hok nd hn).1, fun l hl => ((hok nd hn).2 (some l) hl l rfl).1⟩
    · rintro k' x σ H3o H3 hk ⟨T, w4, w5, w6, w7, w8, rfl, B⟩ ⟨rfl, rfl⟩
      have hS3 : Scr K H3 a s0 := hS.frm B.frm B.st
      have off : ∀ {x : Addr}, x = c ∨ InT T x → ¬ x ∈ [s0] := fun hx => off0 B.fr hx
      have mlen : (((T.map fun n => V.ref n.1).length : Nat) : Int) = (T.length : Int) := by rw [List.length_map]
      have TL := B.len
      have hk2 : k' < 3 := by omega
      refine ⟨_, rfl, _, rfl, _, rfl, c, _, rfl, .inl (SqL.of B.tree.top), a, s0, _, rfl, hS3, by omega, by omega, fun nn H4 n0 n1 f4 sc4 => ?_⟩
      obtain ⟨i, rfl⟩ : ∃ i : Nat, nn = (i : Int) := ⟨nn.toNat, by omega⟩
      have hil : i < T.length := by omega
      obtain ⟨p, os, hi⟩ : ∃ p os, T[i]? = some (p, os) := ⟨_, _, List.getElem?_eq_getElem hil⟩
      have t4 := B.tree.keep (fun x o hx e => f4 x o (off hx) e)
      have b4 := (t4.nd i p os hi).1
      have hol : os.length ≤ 3 + k' := by
        have := (B.sz _ (List.mem_of_getElem? (era_at hi))).1
        rwa [List.length_map] at this
      have olen : (((os.map ov).length : Nat) : Int) = (os.length : Int) := by rw [List.length_map]
      refine ⟨_, rfl, _, rfl, _, rfl, _, rfl, c, _, _, _, rfl, rfl, SqL.of t4.top, atI_nat (by rw [List.getElem?_map, hi]; rfl), p, _, rfl, .inl (SqL.of b4), _, _, rfl, rfl, a, s0, _, rfl, sc4, by omega, by omega, fun pl H5 p0 p1 f5 sc5 => ?_⟩
      obtain ⟨j, rfl⟩ : ∃ j : Nat, pl = (j : Int) := ⟨pl.toNat, by omega⟩
      have t5 := t4.keep (fun x o hx e => f5 x o (off hx) e)
      have b5 := (t5.nd i p os hi).1
      have fr5 : Frm [s0] H H5 := (B.frm.trans f4).trans f5
      have pf := B.fr p ⟨i, p, os, hi, .inl rfl⟩
      refine ⟨_, rfl, _, rfl, _, rfl, c, _, _, _, rfl, rfl, SqL.of t5.top, atI_nat (by rw [List.getElem?_map, hi]; rfl), p, _, rfl, .inl (SqL.of b5), rfl, _, rfl, ?_⟩
      refine ite2 (fun c1 => ?_) (fun c1 => ?_)
      · refine ⟨_, rfl, _, rfl, c, _, _, _, rfl, rfl, SqL.of t5.top, atI_nat (by rw [List.getElem?_map, hi]; rfl), ?_⟩
        refine ⟨_, rfl, .inl ⟨rfl, _, SqL.of b5⟩, _, rfl, _, rfl, _, rfl, c, _, rfl, .inl (SqL.of t5.top), a, s0, _, rfl, sc5, by omega, by omega, fun t H6 ht f6 sc6 => ⟨bigN (by show 1 ≤ _; decide), fun z hz => ?_⟩⟩
        have t6 := t5.keep (fun x o hx e => f6 x o (off hx) e)
        have b6 := (t6.nd i p os hi).1
        have npz : p ≠ z := ne_of_none b6 hz
        have nzs : ¬ z = s0 := sc6.ne hz
        have fr6 : Frm [s0] H H6 := fr5.trans f6
        refine ⟨p, _, _, rfl, rfl, by rw [upd_ne npz]; exact b6, smallM (by rw [List.length_map]; omega), ?_⟩
        have hos : ∀ (j : Nat) (q : Addr) (l : List Int), (os ++ [some (z, [t])])[j]? = some (some (q, l)) → os[j]? = some (some (q, l)) ∨ (q = z ∧ l = [t] ∧ j = os.length) := fun j q l e => by
          rcases at_snoc e with ⟨_, e⟩ | ⟨h, e⟩
          · exact .inl e
          · cases e
            exact .inr ⟨rfl, rfl, h⟩
        refine ⟨T.set i (p, os ++ [some (z, [t])]), _, _, _, _, _, rfl, ⟨fun x o n e => ?frm, ?scr, t6.grow hi hz hos (by rw [upd_same, List.map_append]; rfl) (by rw [upd_ne (Ne.symm npz)]; exact upd_same) ?keep, fun x hx => ?inn, by rw [List.length_set]; exact B.len, ?sz, fun _ => ?bad⟩⟩
        case frm =>
          rw [upd_ne (ne_of_none e pf), upd_ne (ne_of_none (fr6 x o n e) hz)]
          exact fr6 x o n e
        case scr =>
          obtain ⟨i1, i2, i3, i4, e5⟩ := sc6.2
          exact ⟨i1, i2, i3, i4, by rw [upd_ne (fun z => off (.inr ⟨i, p, os, hi, .inl rfl⟩) (by simp [z])), upd_ne (fun y => nzs y.symm)]; exact e5⟩
        case keep =>
          intro x o hx nx e
          rw [upd_ne nx, upd_ne (ne_of_none e hz)]
          exact e
        case inn =>
          rcases inT_grow hi hos hx with y | rfl
          · exact B.fr x y
          · exact Frm.none fr6 (by simpa using nzs) hz
        case sz =>
          intro nd hn
          rw [era_set] at hn
          rcases List.mem_or_eq_of_mem_set hn with y | y
          · exact B.up nd y
          · rw [y, List.map_append]
            refine ⟨by rw [List.length_append, List.length_map]; show _ + 1 ≤ _; omega, fun l hl => ?_⟩
            rcases List.mem_append.mp hl with w | w
            · exact (B.up _ (List.mem_of_getElem? (era_at hi))).2 l w
            · have e := List.mem_singleton.mp w
              cases e
              show 1 ≤ _
              omega
        case bad =>
          refine ⟨t, mem_tg.mpr ⟨_, by rw [era_set]; exact List.mem_set (by unfold era; rw [List.length_map]; exact hil) _, [t], by rw [List.map_append]; exact List.mem_append_right _ (by show some [t] ∈ [some [t]]; exact List.mem_singleton.mpr rfl), List.mem_singleton.mpr rfl⟩, decide_eq_true ?_⟩
          omega
      have hjl : j < os.length := by
        have c1 : ¬ ((j : Int) = (((os.map ov).length : Nat) : Int)) := fun q => c1 (decide_eq_true (by rw [q]))
        omega
      obtain ⟨oo, hj⟩ : ∃ oo, os[j]? = some oo := ⟨_, List.getElem?_eq_getElem hjl⟩
      refine ⟨_, rfl, _, rfl, c, _, _, _, rfl, rfl, SqL.of t5.top, atI_nat (by rw [List.getElem?_map, hi]; rfl), _, rfl, p, _, _, _, rfl, rfl, SqL.of b5, atI_nat (by rw [List.getElem?_map, hj]; rfl), rfl, _, rfl, ?_⟩
      cases oo with
      | none =>
        refine ite2 (fun _ => ?_) (fun z => absurd (decide_eq_true rfl) z)
        refine ⟨_, rfl, _, rfl, c, _, _, _, rfl, rfl, SqL.of t5.top, atI_nat (by rw [List.getElem?_map, hi]; rfl), ?_⟩
        refine ⟨_, rfl, .inl ⟨rfl, _, SqL.of b5⟩, _, rfl, _, rfl, _, rfl, c, _, rfl, .inl (SqL.of t5.top), a, s0, _, rfl, sc5, by omega, by omega, fun t H6 ht f6 sc6 => ⟨bigN (by show 1 ≤ _; decide), fun z hz => ?_⟩⟩
        have t6 := t5.keep (fun x o hx e => f6 x o (off hx) e)
        have b6 := (t6.nd i p os hi).1
        have npz : p ≠ z := ne_of_none b6 hz
        have nzs : ¬ z = s0 := sc6.ne hz
        have fr6 : Frm [s0] H H6 := fr5.trans f6
        refine ⟨p, _, _, rfl, rfl, by rw [upd_ne npz]; exact b6, smallM (by rw [List.length_map]; omega), ?_⟩
        have hos : ∀ (j : Nat) (q : Addr) (l : List Int), (os ++ [some (z, [t])])[j]? = some (some (q, l)) → os[j]? = some (some (q, l)) ∨ (q = z ∧ l = [t] ∧ j = os.length) := fun j q l e => by
          rcases at_snoc e with ⟨_, e⟩ | ⟨h, e⟩
          · exact .inl e
          · cases e
            exact .inr ⟨rfl, rfl, h⟩
        refine ⟨T.set i (p, os ++ [some (z, [t])]), _, _, _, _, _, rfl, ⟨fun x o n e => ?frm, ?scr, t6.grow hi hz hos (by rw [upd_same, List.map_append]; rfl) (by rw [upd_ne (Ne.symm npz)]; exact upd_same) ?keep, fun x hx => ?inn, by rw [List.length_set]; exact B.len, ?sz, fun _ => ?bad⟩⟩
        case frm =>
          rw [upd_ne (ne_of_none e pf), upd_ne (ne_of_none (fr6 x o n e) hz)]
          exact fr6 x o n e
        case scr =>
          obtain ⟨i1, i2, i3, i4, e5⟩ := sc6.2
          exact ⟨i1, i2, i3, i4, by rw [upd_ne (fun z => off (.inr ⟨i, p, os, hi, .inl rfl⟩) (by simp [z])), upd_ne (fun y => nzs y.symm)]; exact e5⟩
        case keep =>
          intro x o hx nx e
          rw [upd_ne nx, upd_ne (ne_of_none e hz)]
          exact e
        case inn =>
          rcases inT_grow hi hos hx with y | rfl
          · exact B.fr x y
          · exact Frm.none fr6 (by simpa using nzs) hz
        case sz =>
          intro nd hn
          rw [era_set] at hn
          rcases List.mem_or_eq_of_mem_set hn with y | y
          · exact B.up nd y
          · rw [y, List.map_append]
            refine ⟨by rw [List.length_append, List.length_map]; show _ + 1 ≤ _; omega, fun l hl => ?_⟩
            rcases List.mem_append.mp hl with w | w
            · exact (B.up _ (List.mem_of_getElem? (era_at hi))).2 l w
            · have e := List.mem_singleton.mp w
              cases e
              show 1 ≤ _
              omega
        case bad =>
          refine ⟨t, mem_tg.mpr ⟨_, by rw [era_set]; exact List.mem_set (by unfold era; rw [List.length_map]; exact hil) _, [t], by rw [List.map_append]; exact List.mem_append_right _ (by show some [t] ∈ [some [t]]; exact List.mem_singleton.mpr rfl), List.mem_singleton.mpr rfl⟩, decide_eq_true ?_⟩
          omega
      | some ql =>
        obtain ⟨q, l⟩ := ql
        refine ite2 (fun z => absurd (of_decide_eq_true z) (by intro z; cases z)) (fun _ => ?_)
        refine ⟨_, rfl, _, rfl, c, _, _, _, rfl, rfl, SqL.of t5.top, atI_nat (by rw [List.getElem?_map, hi]; rfl), _, rfl, p, _, _, _, rfl, rfl, SqL.of b5, atI_nat (by rw [List.getElem?_map, hj]; rfl), ?_⟩
        have b5q := (t5.op i p os j q l hi hj).1
        have lok := (B.sz _ (List.mem_of_getElem? (era_at hi))).2 l (List.mem_map.mpr ⟨_, List.mem_of_getElem? hj, rfl⟩)
        have llen : (((l.map V.int).length : Nat) : Int) = (l.length : Int) := by rw [List.length_map]
        refine ⟨_, rfl, .inl ⟨rfl, _, SqL.of b5q⟩, _, rfl, _, rfl, _, rfl, q, _, rfl, .inl (SqL.of b5q), _, _, rfl, rfl, a, s0, _, rfl, sc5, by omega, by omega, fun r H6 r0 r1 f6 sc6 => ?_⟩
        have t6 := t5.keep (fun x o hx e => f6 x o (off hx) e)
        refine ⟨_, rfl, _, rfl, _, rfl, c, _, rfl, .inl (SqL.of t6.top), a, s0, _, rfl, sc6, by omega, by omega, fun t H7 ht f7 sc7 => ?_⟩
        have t7 := t6.keep (fun x o hx e => f7 x o (off hx) e)
        have b7q := (t7.op i p os j q l hi hj).1
        have fr7 : Frm [s0] H H7 := (fr5.trans f6).trans f7
        have iq : InT T q := ⟨i, p, os, hi, .inr ⟨j, q, l, hj, rfl⟩⟩
        have qf := B.fr q iq
        refine ⟨q, _, _, _, rfl, rfl, b7q, smallM (by omega), r0, by omega, ?_⟩
        have em : (l.map V.int).take r.toNat ++ [V.int t] ++ (l.map V.int).drop r.toNat = (l.take r.toNat ++ [t] ++ l.drop r.toNat).map V.int := by simp
        rw [em]
        have hm : ∀ y, y ∈ l.take r.toNat ++ [t] ++ l.drop r.toNat ↔ y ∈ l ∨ y = t := fun y => by
          have e : y ∈ l ↔ y ∈ l.take r.toNat ∨ y ∈ l.drop r.toNat := by
            conv => lhs; rw [← List.take_append_drop r.toNat l]
            exact List.mem_append
          rw [e]
          simp only [List.mem_append, List.mem_singleton]
          constructor
          · rintro ((h | h) | h)
            · exact .inl (.inl h)
            · exact .inr h
            · exact .inl (.inr h)
          · rintro ((h | h) | h)
            · exact .inl (.inl h)
            · exact .inr h
            · exact .inl (.inr h)
        have hl' : (l.take r.toNat ++ [t] ++ l.drop r.toNat).length ≤ 3 + k' + 1 := by
          have := congrArg List.length (List.take_append_drop r.toNat l)
          rw [List.length_append] at this
          simp only [List.length_append, List.length_singleton]
          omega
        refine ⟨T.set i (p, os.set j (some (q, l.take r.toNat ++ [t] ++ l.drop r.toNat))), _, _, _, _, _, rfl, ⟨fun x o n e => by rw [upd_ne (ne_of_none e qf)]; exact fr7 x o n e, ?scr, t7.shrink hi hj upd_same (fun x o hx nx e => by rw [upd_ne nx]; exact e), fun x hx => B.fr x (inT_shrink hi hj hx), by rw [List.length_set]; exact B.len, ?sz, fun _ => ?bad⟩⟩
        case scr =>
          obtain ⟨i1, i2, i3, i4, e5⟩ := sc7.2
          exact ⟨i1, i2, i3, i4, by rw [upd_ne (fun z => off (.inr iq) (by simp [z]))]; exact e5⟩
        case sz =>
          intro nd hn
          rw [era_set] at hn
          rcases List.mem_or_eq_of_mem_set hn with y | y
          · exact B.up nd y
          · rw [y]
            refine ⟨by rw [List.length_map, List.length_set]; omega, fun l2 hl2 => ?_⟩
            rw [List.map_set] at hl2
            rcases List.mem_or_eq_of_mem_set hl2 with w | w
            · exact (B.up _ (List.mem_of_getElem? (era_at hi))).2 l2 w
            · cases w
              exact hl'
        case bad =>
          refine ⟨t, mem_tg.mpr ⟨_, by rw [era_set]; exact List.mem_set (by unfold era; rw [List.length_map]; exact hil) _, _, by rw [List.map_set]; exact List.mem_set (by rw [List.length_map]; exact hjl) _, (hm t).mpr (.inr rfl)⟩, decide_eq_true ?_⟩
          omega
    · rintro σ H3 ⟨T, w4, w5, w6, w7, w8, rfl, B⟩
      have eL : (era T).length = G.length := by unfold era; rw [List.length_map]; exact B.len
      obtain ⟨y, hy, hb⟩ := B.bad (by omega)
      refine ⟨_, rfl, kE c T H3 B.frm (hS.frm B.frm B.st) B.tree hc B.fr B.len (fun nd hn => Nat.le_trans (B.sz nd hn).1 (by omega)) (first_some hy (by rw [eL]; exact hb))⟩
end
end Wb

namespace Wb
open PySem PySem.Spec PyProof.Rows L2 Wx NdefX RZ StX PyProof.Rows.FinIter
section
variable {P : Program} {w : World} {K : PySem.W.Frag} {mg : Str → Option Value} {base : Heap}

theorem St4.same {H H' : Hp} {s : Addr} (x : St4 H s) (f : Same H H') : St4 H' s := by
  obtain ⟨i, j, k, l, e⟩ := x
  exact ⟨i, j, k, l, f _ _ e⟩
theorem tg_ok {m : Int} {G : List Node} (h : GOk3 m G) (hm : m = G.length) : firstBad G = none := first_none fun y hy => by
  obtain ⟨nd, hn, l, hl, hy⟩ := mem_tg.mp hy
  have := ((h nd hn).2 (some l) hl l rfl).2 y hy
  exact decide_eq_false (by omega)
def d3 (t : Int) : PyData := .tuple [.str "number", .str "node", .int t]
def d1 : PyData := .tuple [.str "none"]
def d2 : PyData := .tuple [.str "many", .int 12000]
theorem sh3 (t : Int) : SeqAt.shaped (d3 t) = true := by
  show (PyData.canLay0 _ && decide (_ ≤ 64)) = true
  unfold d3
  have h1 : PyData.strOk "number" = true := by decide +kernel
  have h2 : PyData.strOk "node" = true := by decide +kernel
  simp [PyData.canLay0, PyData.canLayAll0, PyData.depth, PyData.depthAll, h1, h2]
theorem sh1 : SeqAt.shaped d1 = true := by
  show (PyData.canLay0 _ && decide (_ ≤ 64)) = true
  unfold d1
  have h1 : PyData.strOk "none" = true := by decide +kernel
  simp [PyData.canLay0, PyData.canLayAll0, PyData.depth, PyData.depthAll, h1]
theorem sh2 : SeqAt.shaped d2 = true := by
  show (PyData.canLay0 _ && decide (_ ≤ 64)) = true
  unfold d2
  have h1 : PyData.strOk "many" = true := by decide +kernel
  simp [PyData.canLay0, PyData.canLayAll0, PyData.depth, PyData.depthAll, h1]
theorem ev3 (t : Int) : PyData.eqv (d3 t) (d3 t) = true := by unfold d3; simp [PyData.eqv, PyData.eqvAll]
theorem ev1 : PyData.eqv d1 d1 = true := by unfold d1; simp [PyData.eqv, PyData.eqvAll]
theorem ev2 : PyData.eqv d2 d2 = true := by unfold d2; simp [PyData.eqv, PyData.eqvAll]
theorem dpAll_set {K : PySem.W.Frag} {H : Hp} : ∀ {vs : List V} {ds : List PyData} {i : Nat} {v : V} {d : PyData}, DpAll K H vs ds → Dp K H v d → DpAll K H (vs.set i v) (ds.set i d)
  | _, _, i, _, _, .nil, _ => by
    rw [List.set_nil, List.set_nil]
    exact .nil
  | _, _, 0, _, _, .cons a b, h => .cons h b
  | _, _, i + 1, _, _, .cons a b, h => .cons a (dpAll_set (i := i) b h)
def bigG : List Node := List.replicate 12000 []
theorem bigG_len : bigG.length = 12000 := List.length_replicate
theorem bigG_ok : GOk3 12000 bigG := fun nd hn => by
  rw [List.eq_of_mem_replicate hn]
  exact ⟨Nat.zero_le _, fun o ho => by cases ho⟩
def bigG1 : List Node := bigG ++ [[some [12000]]]
theorem bigG1_len : bigG1.length = 12001 := by
  unfold bigG1
  rw [List.length_append, bigG_len]
  rfl
theorem dp_big {K : PySem.W.Frag} {H : Hp} {us : List Addr} (hl : us.length = 12000) (h : ∀ q, q ∈ us → H q = some (.lst [])) : DpAll K H (us.map V.ref) (bigG.map nodeD) := by
  have e : bigG.map nodeD = us.map fun _ => nodeD [] := by
    unfold bigG
    rw [List.map_replicate, ← hl]
    exact (List.map_const' ..).symm
  rw [e]
  exact dpAll_map fun q hq => .lst (SqL.of (h q hq)) .nil
theorem errV_big {G : List Node} (h : 12000 < G.length) : errV G = [.str "many", .int 12000] := by unfold errV; rw [if_pos h]

theorem oklaw {f : Addr} {fd : FuncData} (F : Fun K "law" "law" slaw f fd) (T : Txt K mg) {C_BadNumber C_TooMany : Addr} (C_law_start : Cal P w K mg base "_law_start" P_law_start 1 (sp_law_start K)) (C_law_draw : Cal P w K mg base "_law_draw" P_law_draw 1 (sp_law_draw K)) (C_law_game : Cal P w K mg base "_law_game" P_law_game 3 (sp_law_game K)) (C_law_bent : Cal P w K mg base "_law_bent" P_law_bent 4 (sp_law_bent K)) (C_law_copy : Cal P w K mg base "_law_copy" P_law_copy 1 (sp_law_copyT K)) (C_law_error : Cal P w K mg base "_law_error" P_law_error 7 (sp_law_error K)) (C_law_first : Cal P w K mg base "_law_first" P_law_first 1 (sp_law_first K)) (C_xranks : ∃ (g : Addr) (gd : FuncData), FnOk P w K mg base (L2.CX P w) 6 g gd Pranks (spranks K C_BadNumber C_TooMany) ∧ mg "ranks" = some (.ref g) ∧ PySem.W.keepIn K (.ref g) = true ∧ Binds K gd Pranks []) : FnOk P w K mg base CX0 8 f fd Plaw (splaw K) := by
  obtain ⟨g_law_start, gd_law_start, G_law_start, m_law_start, k_law_start, b_law_start⟩ := C_law_start.ex
  obtain ⟨g_law_draw, gd_law_draw, G_law_draw, m_law_draw, k_law_draw, b_law_draw⟩ := C_law_draw.ex
  obtain ⟨g_law_game, gd_law_game, G_law_game, m_law_game, k_law_game, b_law_game⟩ := C_law_game.ex
  obtain ⟨g_law_bent, gd_law_bent, G_law_bent, m_law_bent, k_law_bent, b_law_bent⟩ := C_law_bent.ex
  obtain ⟨g_law_copy, gd_law_copy, G_law_copy, m_law_copy, k_law_copy, b_law_copy⟩ := C_law_copy.ex
  obtain ⟨g_law_error, gd_law_error, G_law_error, m_law_error, k_law_error, b_law_error⟩ := C_law_error.ex
  obtain ⟨g_law_first, gd_law_first, G_law_first, m_law_first, k_law_first, b_law_first⟩ := C_law_first.ex
  obtain ⟨granks, gdranks, Granks, mranks, kranks, branks⟩ := C_xranks
  refine F.ok sclaw (fun vs H Q E h => ?_) (fun cdv A outer s H vs Q E hr h => ?_)
  · obtain ⟨a, ns, rfl, hS, hlen, k⟩ := h
    rfl
  · obtain ⟨a, ns, rfl, hS, hlen, k⟩ := h
    refine ⟨_, (pss_cons (ps_set (i := 1) sclaw.nd rfl (by first | exact Or.inl rfl | exact Or.inr rfl) (pe_call G_law_start (hr.mono (by decide)) (by rfl) m_law_start k_law_start b_law_start .nil pass0 (pa_cons (pv 0) pa_nil)))
  (pss_cons (ps_set (i := 2) sclaw.nd rfl (by first | exact Or.inl rfl | exact Or.inr rfl) (pe_call G_law_draw (hr.mono (by decide)) (by rfl) m_law_draw k_law_draw b_law_draw .nil pass0 (pa_cons (pv 0) (pa_cons (pv 1) (pa_cons pe_int pa_nil)))))
  (C8.pss_cut (ps_if (pt_cmpR op_eq (pe_call G_law_draw (hr.mono (by decide)) (by rfl) m_law_draw k_law_draw b_law_draw .nil pass0 (pa_cons (pv 0) (pa_cons (pv 1) (pa_cons pe_int pa_nil)))) pe_int (nomark _))
  (pss_one (ps_set (i := 2) sclaw.nd rfl (by first | exact Or.inl rfl | exact Or.inr rfl) (pe_op op_add pe_int (pe_call G_law_draw (hr.mono (by decide)) (by rfl) m_law_draw k_law_draw b_law_draw .nil pass0 (pa_cons (pv 0) (pa_cons (pv 1) (pa_cons pe_int pa_nil)))))))
  pss_nil)
  (pss_cons (ps_set (i := 3) sclaw.nd rfl (by first | exact Or.inl rfl | exact Or.inr rfl) (pe_call G_law_game (hr.mono (by decide)) (by rfl) m_law_game k_law_game b_law_game .nil pass0 (pa_cons (pv 0) (pa_cons (pv 1) (pa_cons (pv 2) pa_nil)))))
  (C8.pss_cut (ps_if (pt_cmpR op_gt (pv 2) pe_int (nomark _))
  (pss_cons (ps_set (i := 4) sclaw.nd rfl (by first | exact Or.inl rfl | exact Or.inr rfl) (pe_call G_law_bent (hr.mono (by decide)) (by rfl) m_law_bent k_law_bent b_law_bent .nil pass0 (pa_cons (pv 0) (pa_cons (pv 1) (pa_cons (pv 3) pa_nil)))))
  (pss_cons (ps_set (i := 5) sclaw.nd rfl (by first | exact Or.inl rfl | exact Or.inr rfl) (pe_call G_law_copy (hr.mono (by decide)) (by rfl) m_law_copy k_law_copy b_law_copy .nil pass0 (pa_cons (pv 4) pa_nil)))
  (pss_one (ps_if (PW.pt (pw_or (pt_cmpR (op_neD hr.units) (pe_call G_law_error (hr.mono (by decide)) (by rfl) m_law_error k_law_error b_law_error .nil pass0 (pa_cons (pv 5) pa_nil)) (pe_call G_law_first (hr.mono (by decide)) (by rfl) m_law_first k_law_first b_law_first .nil pass0 (pa_cons (pv 4) pa_nil)) (nomark _)) (pw_or1 (pt_cmpR (op_neD hr.units) (pv 5) (pv 4) (nomark _)))))
  (pss_one (ps_ret pe_bl))
  pss_nil))))
  pss_nil)
  (pss_cons (ps_if (pt_cmpR (op_neD hr.units) (pe_call G_law_error (hr.mono (by decide)) (by rfl) m_law_error k_law_error b_law_error .nil pass0 (pa_cons (pe_call G_law_copy (hr.mono (by decide)) (by rfl) m_law_copy k_law_copy b_law_copy .nil pass0 (pa_cons (pv 3) pa_nil)) pa_nil)) (pe_tup (pa_cons pe_str pa_nil)) (nomark _))
  (pss_one (ps_ret pe_bl))
  pss_nil)
  (pss_cons (ps_setLc (i := 6) (own := [("k", 9)]) rfl sclaw.nd rfl rfl (sw_true rfl rfl rfl (by decide +kernel)) (pi_range1 rfl T.b_range (pa_cons pe_int pa_nil)) (blkOk_by (own := [("k", 9)]) (N := Nlaw) (sc := defScope slaw) (by decide +kernel)) (fun _ _ _ _ _ => (pg_name (i := 9) sclaw.nd rfl (by first | exact Or.inl rfl | exact Or.inr rfl))) (fun _ _ _ _ _ => pts_nil) (fun _ _ _ _ _ => (pe_lst pa_nil)))
  (pss_cons (ps_set (i := 7) sclaw.nd rfl (by first | exact Or.inl rfl | exact Or.inr rfl) (pe_callS Granks (hr.mono (by decide)) (by rfl) mranks kranks branks (fun σ => passAt takes0 σ) (pa_cons (pv 6) pa_nil)))
  (pss_cons (ps_if (PW.pt (pw_or (pt_not (pt_val (pe_callB (id := "isinstance") call_isi (by rfl) T.b_isinstance (by decide +kernel) (pa_cons (pv 7) (pa_cons (pe_bltn (v := .ty "list") (by rfl) T.b_list (by decide +kernel) rfl) pa_nil))))) (pw_or (pt_cmpR op_ne (pe_callB call_len_seq (by rfl) T.b_len PySem.boot_len (pa_cons (pv 7) pa_nil)) pe_int (nomark _)) (pw_or (pt_cmpR op_ne (pe_ix ix_list (pv 7) pe_int (fun _ _ => rfl)) pe_int (nomark _)) (pw_or1 (pt_cmpR op_ne (pe_ix ix_list (pv 7) (pe_un un_neg pe_int) (fun _ _ => rfl)) pe_int (nomark _)))))))
  (pss_one (ps_ret pe_bl))
  pss_nil)
  (pss_cons (ps_expr (pe_bm PySem.F.plainAttrs_list PySem.F.slot_list_append PySem.F.type_list_append mt_append (pv 6) (pa_cons (pe_lst (pa_cons (pe_lst (pa_cons pe_int pa_nil)) pa_nil)) pa_nil)))
  (pss_cons (ps_set (i := 8) sclaw.nd rfl (by first | exact Or.inl rfl | exact Or.inr rfl) (pe_call G_law_draw (hr.mono (by decide)) (by rfl) m_law_draw k_law_draw b_law_draw .nil pass0 (pa_cons (pv 0) (pa_cons (pv 1) (pa_cons pe_int pa_nil)))))
  (pss_cons (ps_if (pt_cmpR (op_neD hr.units) (pe_call G_law_error (hr.mono (by decide)) (by rfl) m_law_error k_law_error b_law_error .nil pass0 (pa_cons (pv 6) pa_nil)) (pe_tup (pa_cons pe_str (pa_cons pe_int pa_nil))) (nomark _))
  (pss_one (ps_ret pe_bl))
  pss_nil)
  (pss_cons (ps_asg (pe_lst (pa_cons (pe_lst (pa_cons (pe_un un_neg pe_int) pa_nil)) pa_nil)) (pg_sub (pv 6) (pv 8) set_list))
  (pss_one (ps_ret (pe_cmpR (op_eqD hr.units) (pe_call G_law_error (hr.mono (by decide)) (by rfl) m_law_error k_law_error b_law_error .nil pass0 (pa_cons (pv 6) pa_nil)) (pe_tup (pa_cons pe_str (pa_cons pe_int pa_nil))) (nomark _))))))))))))))))), ?_⟩
    refine ⟨_, rfl, a, ns, rfl, hS, hlen, fun s0 H1 s1 h0s sc1 => ?_⟩
    refine ⟨_, rfl, _, rfl, a, s0, 14, rfl, sc1, by decide, by decide, fun m0 H2 m00 m01 f2 sc2 => ?_⟩
    refine ⟨fun σ H => ∃ m : Int, σ = [some (.ref a), some (.ref s0), some (.int m), none, none, none, none, none, none, none] ∧ Scr K H a s0 ∧ 0 ≤ m ∧ m ≤ 59, ?_, ?_⟩
    · refine ⟨_, rfl, _, rfl, a, s0, 3, rfl, sc2, by decide, by decide, fun r H3 r0 r1 f3 sc3 => ⟨rfl, _, rfl, ite2 (fun c => ?_) (fun c => ?_)⟩⟩
      · exact ⟨_, rfl, _, rfl, a, s0, 30, rfl, sc3, by decide, by decide, fun r' H4 p0 p1 f4 sc4 => ⟨_, _, rfl, rfl, _, rfl, sc4, by omega, by omega⟩⟩
      · exact ⟨_, rfl, sc3, by omega, by omega⟩
    rintro σ H3 ⟨m, rfl, sc3, m0, m1⟩
    refine ⟨_, rfl, _, rfl, _, rfl, a, s0, m, rfl, sc3, m0, m1, fun gg G H4 f4 sc4 hg hlG hok hD => ?_⟩
    have hlG' : m = (G.length : Int) := by rw [← hlG]
    have hN : firstBad G = none := tg_ok hok hlG'
    have hokG : GOk G.length G := by rw [← hlG']; exact hok.ok
    refine ⟨fun σ H => ∃ w4 w5 : Option V, σ = [some (.ref a), some (.ref s0), some (.int m), some (.ref gg), w4, w5, none, none, none, none] ∧ Scr K H a s0 ∧ Dp K (hid [s0] H) (.ref gg) (gameD G), ?_, ?_⟩
    · refine ⟨_, rfl, _, _, rfl, rfl, _, rfl, ?_⟩
      refine ite2 (fun c => ?_) (fun c => ?_)
      case refine_2 => exact ⟨_, _, rfl, sc4, hD⟩
      have c := of_decide_eq_true c
      refine ⟨_, rfl, _, rfl, _, rfl, a, s0, gg, G, rfl, sc4, hD, by rw [← hlG']; exact hok, by omega, by omega, fun b T H5 f5 sc5 tr hb0 hfr TL sz bad => ?_⟩
      have eL : (era T).length = G.length := by unfold era; rw [List.length_map]; exact TL
      obtain ⟨t, ht⟩ : ∃ t, firstBad (era T) = some t := by
        cases e : firstBad (era T) with
        | none => exact absurd e bad
        | some t => exact ⟨t, rfl⟩
      refine ⟨_, rfl, b, era T, rfl, tr.dp, by omega, fun n hn => ⟨sz n hn, trivial⟩, fun c2 T2 H6 s6 hc2 hfr2 tr2 eT2 => ?_⟩
      have dp2 : Dp K H6 (.ref c2) (gameD (era T)) := by rw [← eT2]; exact tr2.dp
      have dp1 : Dp K H6 (.ref b) (gameD (era T)) := dp_same s6 tr.dp
      refine ⟨_, rfl, c2, era T, rfl, dp2, fun _ e => (by rw [ht] at e; cases e), fun q H7 s7 nq eq => ?_⟩
      refine ⟨_, rfl, b, era T, rfl, dp_same s7 dp1, fun q' H8 s8 nq' eq' => ?_⟩
      have e7 : H8 q = some (.tup [.str "number", .str "node", .int t]) := by
        have := s8 _ _ eq
        unfold errV at this
        rw [if_neg (by omega), firstV_some ht] at this
        exact this
      have e8 : H8 q' = some (.tup [.str "number", .str "node", .int t]) := by rw [firstV_some ht] at eq'; exact eq'
      refine ⟨d3 t, d3 t, .tup (SqT.of e7) (.cons (.str _) (.cons (.str _) (.cons (.int _) .nil))), .tup (SqT.of e8) (.cons (.str _) (.cons (.str _) (.cons (.int _) .nil))), sh3 t, sh3 t, _, rfl, ?_⟩
      rw [ev3]
      refine ite2 (fun y => absurd y (by simp)) (fun _ => ?_)
      refine ⟨_, rfl, _, rfl, _, _, dp_same (s7.trans s8) dp2, dp_same (s7.trans s8) dp1, shGame _, shGame _, _, rfl, ?_⟩
      rw [PySem.SeqAt.eqv_refl _ (layGame _).1]
      refine ite2 (fun y => absurd y (by simp)) (fun _ => ?_)
      have sc8 := ((sc5.same s6).same s7).same s8
      exact ⟨_, _, rfl, sc8, dp_same (hid_frm (((f5.trans (Frm.of_same s6)).trans (Frm.of_same s7)).trans (Frm.of_same s8))) hD⟩
    clear f4 sc4 hD hg H4
    rintro σ H4 ⟨w4, w5, rfl, sc4, hD⟩
    refine ⟨_, rfl, gg, G, rfl, dp_same (hid_same _ _) hD, by omega, (fun n hn => ⟨by have := (hok n hn).1; omega, trivial⟩), fun c2 T2 H5 s5 hc2 hfr2 tr2 eT2 => ?_⟩
    have dp2 : Dp K H5 (.ref c2) (gameD G) := by rw [← eT2]; exact tr2.dp
    refine ⟨c2, G, rfl, dp2, fun _ _ => hokG, fun q H6 s6 nq eq => ⟨bigN (by show 1 ≤ _; decide), fun z hz => ?_⟩⟩
    have e6 : H6 q = some (.tup [.str "none"]) := by
      unfold errV at eq
      rw [if_neg (by omega), firstV_none hN] at eq
      exact eq
    refine ⟨d1, d1, .tup (SqT.of (by rw [upd_ne (ne_of_none e6 hz)]; exact e6)) (.cons (.str _) .nil), .tup (SqT.of upd_same) (.cons (.str _) .nil), sh1, sh1, _, rfl, ?_⟩
    rw [ev1]
    refine ite2 (fun y => absurd y (by simp)) (fun _ => ?_)
    have sc7 := ((sc4.same s5).same s6).same (Same.new (o := .tup [.str "none"]) hz)
    clear hD dp2 tr2 hfr2 eT2 eq e6 nq hc2 s5 s6 sc4
    generalize upd H6 z (.tup [.str "none"]) = H7 at sc7
    -- many nodes
    refine ⟨_, rfl, by decide, by decide, fun L hL => ?_⟩
    have nLs : ¬ L = s0 := sc7.ne hL
    refine lc_it walk_range (fun i H8 => ∃ us : List Addr, H8 L = some (.lst (us.map V.ref)) ∧ us.length = i ∧ (∀ q, q ∈ us → H8 q = some (.lst []) ∧ q ≠ L ∧ q ≠ s0) ∧ Same H7 H8)
      ⟨[], upd_same, rfl, (fun q h => by cases h), Same.new hL⟩ (fun _ _ _ _ => trivial) ?_ ?_
    · rintro i x H8o H8 hi ⟨us, e8, l8, q8, s8⟩ ⟨rfl, rfl⟩
      have hi' : i < 12000 := hi
      refine ⟨rfl, bigN (by show 0 ≤ _; decide), fun q hq => ?_⟩
      have nLq : L ≠ q := ne_of_none e8 hq
      refine ⟨_, by rw [upd_ne nLq]; exact e8, smallM (by rw [List.length_map]; omega), us ++ [q], by rw [upd_same, List.map_append]; rfl, by rw [List.length_append, l8]; rfl, fun p hp => ?_, fun b o e => ?_⟩
      · rcases List.mem_append.mp hp with y | y
        · obtain ⟨a1, a2, a3⟩ := q8 p y
          exact ⟨by rw [upd_ne a2, upd_ne (ne_of_none a1 hq)]; exact a1, a2, a3⟩
        · rw [List.mem_singleton.mp y]
          exact ⟨by rw [upd_ne (Ne.symm nLq)]; exact upd_same, Ne.symm nLq, (sc7.same s8).ne hq⟩
      · rw [upd_ne (ne_of_none e hL), upd_ne (ne_of_none (s8 _ _ e) hq)]
        exact s8 _ _ e
    rintro H8 ⟨us, e8, l8, q8, s8⟩
    have l8 : us.length = 12000 := l8
    have sc8 := sc7.same s8
    have dpL : ∀ {H' : Hp}, Same H8 H' → Dp K H' (.ref L) (gameD bigG) := fun s => .lst (SqL.of (s _ _ e8)) (dp_big l8 fun q hq => s _ _ (q8 q hq).1)
    refine ⟨_, rfl, L, bigG, rfl, dpL (Same.refl _), fun h => absurd h (by rw [bigG_len]; decide), fun _ t ht => absurd ht (by rw [tg_ok bigG_ok (by rw [bigG_len]; rfl)]; exact nofun), fun _ _ => ⟨by rw [bigG_len]; exact bigG_ok.ok, fun p R H9 s9 np ep hR => ?_⟩⟩
    have lR : R.length = 12000 := by rw [hR.len, bigG_len]
    have at1 : ∀ i : Nat, i < 12000 → R[i]? = some 1 := fun i hi => hR.eq i [] (by unfold bigG; rw [List.getElem?_replicate, if_pos hi])
    have lRi : (((R.map V.int).length : Nat) : Int) = 12000 := by rw [List.length_map, lR]; rfl
    refine ⟨_, rfl, _, _, _, _, true, rfl, .ty _, .base (.lst ep), kit_ty (by decide +kernel), _, rfl, iteF ?_⟩
    refine ⟨_, rfl, p, _, rfl, .inl (SqL.of ep), rfl, _, rfl, ?_⟩
    refine ite2 (fun y => absurd y (by rw [lRi]; exact ne_self)) (fun _ => ?_)
    refine ⟨_, rfl, p, _, 0, _, rfl, rfl, SqL.of ep, atI_nat (j := 0) (by rw [List.getElem?_map, at1 0 (by decide)]; rfl), rfl, _, rfl, ?_⟩
    refine ite2 (fun y => absurd y ne_self) (fun _ => ?_)
    have at_last : atI (R.map V.int) (-1) = some (.int 1) := by
      have e : R = R.take 11999 ++ [1] := by rw [← take_snoc (at1 11999 (by decide)), List.take_of_length_le (by omega)]
      rw [e, List.map_append]
      exact atI_last _ _
    refine ⟨_, rfl, _, rfl, p, _, -1, _, rfl, rfl, SqL.of ep, at_last, rfl, _, rfl, ?_⟩
    refine ite2 (fun y => absurd y ne_self) (fun _ => ?_)
    have sc9 := sc8.same s9
    -- one node more
    refine ⟨_, rfl, .inl ⟨rfl, _, SqL.of (s9 _ _ e8)⟩, bigN (by show 1 ≤ _; decide), fun z1 hz1 => ⟨bigN (by show 1 ≤ _; decide), fun z2 hz2 => ?_⟩⟩
    have t1 : Same H9 (upd H9 z1 (.lst [.int 12000])) := Same.new hz1
    have t2 : Same H9 (upd (upd H9 z1 (.lst [.int 12000])) z2 (.lst [.ref z1])) := t1.trans (Same.new hz2)
    have ez1 : (upd (upd H9 z1 (.lst [.int 12000])) z2 (.lst [.ref z1])) z1 = some (.lst [.int 12000]) := by rw [upd_ne (ne_of_none upd_same hz2)]; exact upd_same
    have nz1s : z1 ≠ s0 := fun e => sc9.ne hz1 e
    have nz2s : z2 ≠ s0 := fun e => (sc9.same t1).ne hz2 e
    have nz1L : z1 ≠ L := fun e => by rw [e, s9 _ _ e8] at hz1; cases hz1
    have nz2L : z2 ≠ L := fun e => by rw [e, t1 _ _ (s9 _ _ e8)] at hz2; cases hz2
    have e9 : (upd (upd H9 z1 (.lst [.int 12000])) z2 (.lst [.ref z1])) L = some (.lst (us.map V.ref)) := t2 _ _ (s9 _ _ e8)
    refine ⟨L, _, _, rfl, rfl, e9, smallM (by rw [List.length_map]; omega), ?_⟩
    have sc10 : Scr K (upd (upd (upd H9 z1 (.lst [.int 12000])) z2 (.lst [.ref z1])) L (.lst (us.map V.ref ++ [.ref z2]))) a s0 := by
      obtain ⟨i1, i2, i3, i4, ee⟩ := (sc9.same t2).2
      exact scr_of sc7 hL (((Frm.of_same ((s8.trans s9).trans t2)) : Frm [L, s0] H7 _).put' (by simp)) ⟨i1, i2, i3, i4, by rw [upd_ne (fun z => nLs z.symm)]; exact ee⟩
    have keepq : ∀ q, q ∈ us → (upd (upd (upd H9 z1 (.lst [.int 12000])) z2 (.lst [.ref z1])) L (.lst (us.map V.ref ++ [.ref z2]))) q = some (.lst []) := fun q hq => by
      rw [upd_ne (q8 q hq).2.1]
      exact t2 _ _ (s9 _ _ (q8 q hq).1)
    have k1 : (upd (upd (upd H9 z1 (.lst [.int 12000])) z2 (.lst [.ref z1])) L (.lst (us.map V.ref ++ [.ref z2]))) z1 = some (.lst [.int 12000]) := by rw [upd_ne nz1L]; exact ez1
    have k2 : (upd (upd (upd H9 z1 (.lst [.int 12000])) z2 (.lst [.ref z1])) L (.lst (us.map V.ref ++ [.ref z2]))) z2 = some (.lst [.ref z1]) := by rw [upd_ne nz2L]; exact upd_same
    have kL : (upd (upd (upd H9 z1 (.lst [.int 12000])) z2 (.lst [.ref z1])) L (.lst (us.map V.ref ++ [.ref z2]))) L = some (.lst (us.map V.ref ++ [.ref z2])) := upd_same
    clear e9 ez1 t2 t1 hz2 hz1 at_last ep np hR lR at1 lRi sc9 s9 sc8
    generalize upd (upd (upd H9 z1 (.lst [.int 12000])) z2 (.lst [.ref z1])) L (.lst (us.map V.ref ++ [.ref z2])) = HA at sc10 keepq k1 k2 kL
    refine ⟨_, rfl, _, rfl, a, s0, 12000, rfl, sc10, by decide, by decide, fun at_ HB a0 a1 fB scB => ?_⟩
    have keepB : ∀ q, q ∈ us → HB q = some (.lst []) := fun q hq => fB _ _ (by simpa using (q8 q hq).2.2) (keepq q hq)
    have kB1 := fB _ _ (by simpa using nz1s) k1
    have kB2 := fB _ _ (by simpa using nz2s) k2
    have kBL := fB _ _ (by simpa using nLs) kL
    have dpA : ∀ {H' : Hp}, (∀ q, q ∈ us → H' q = some (.lst [])) → H' z1 = some (.lst [.int 12000]) → H' z2 = some (.lst [.ref z1]) → DpAll K H' (us.map V.ref ++ [.ref z2]) (bigG1.map nodeD) := fun h1 h2 h3 => by
      unfold bigG1
      rw [List.map_append]
      exact dpAll_snoc (dp_big l8 h1) (.lst (SqL.of h3) (.cons (.lst (SqL.of h2) (.cons (.int _) .nil)) .nil))
    refine ⟨_, rfl, L, bigG1, rfl, .lst (SqL.of kBL) (dpA keepB kB1 kB2), fun h => absurd h (by rw [bigG1_len]; decide), fun q HC sC nq eq => ⟨bigN (by show 2 ≤ _; decide), fun z hz => ?_⟩⟩
    rw [errV_big (by rw [bigG1_len]; decide)] at eq
    refine ⟨d2, d2, .tup (SqT.of (by rw [upd_ne (ne_of_none eq hz)]; exact eq)) (.cons (.str _) (.cons (.int _) .nil)), .tup (SqT.of upd_same) (.cons (.str _) (.cons (.int _) .nil)), sh2, sh2, _, rfl, ?_⟩
    rw [ev2]
    refine ite2 (fun y => absurd y (by simp)) (fun _ => ?_)
    have sD : Same HB (upd HC z (.tup [.str "many", .int 12000])) := sC.trans (Same.new hz)
    generalize upd HC z (.tup [.str "many", .int 12000]) = HD at sD
    obtain ⟨an, rfl⟩ : ∃ an : Nat, at_ = (an : Int) := ⟨at_.toNat, by omega⟩
    refine ⟨_, rfl, bigN (by show 1 ≤ _; decide), fun y1 hy1 => ⟨bigN (by show 1 ≤ _; decide), fun y2 hy2 => ?_⟩⟩
    have u2 : Same HB (upd (upd HD y1 (.lst [.int (-1)])) y2 (.lst [.ref y1])) := (sD.trans (Same.new hy1)).trans (Same.new hy2)
    have ey1 : (upd (upd HD y1 (.lst [.int (-1)])) y2 (.lst [.ref y1])) y1 = some (.lst [.int (-1)]) := by rw [upd_ne (ne_of_none upd_same hy2)]; exact upd_same
    have ny1L : y1 ≠ L := fun e => by rw [e, sD _ _ kBL] at hy1; cases hy1
    have ny2L : y2 ≠ L := fun e => by rw [e, (sD.trans (Same.new hy1)) _ _ kBL] at hy2; cases hy2
    have eyL := u2 _ _ kBL
    have lus : (us.map V.ref ++ [V.ref z2]).length = 12001 := by rw [List.length_append, List.length_map, l8]; rfl
    refine ⟨_, rfl, _, rfl, L, _, _, an, rfl, rfl, eyL, ?_, ?_⟩
    · unfold ixN
      rw [if_pos (by omega), if_pos (by rw [lus]; omega)]
      rfl
    have nq1 : ∀ q, q ∈ us → q ≠ L := fun q hq => (q8 q hq).2.1
    refine ⟨_, rfl, L, bigG1.set an [some [-1]], rfl, .lst (SqL.of upd_same) ?_, fun h => absurd h (by rw [List.length_set, bigG1_len]; decide), fun q HE sE nq' eq' => ⟨bigN (by show 2 ≤ _; decide), fun z' hz' => ?_⟩⟩
    · rw [List.map_set]
      refine dpAll_set (dpA (fun q hq => by rw [upd_ne (nq1 q hq)]; exact u2 _ _ (keepB q hq)) (by rw [upd_ne nz1L]; exact u2 _ _ kB1) (by rw [upd_ne nz2L]; exact u2 _ _ kB2)) ?_
      exact .lst (SqL.of (by rw [upd_ne ny2L]; exact upd_same)) (.cons (.lst (SqL.of (by rw [upd_ne ny1L]; exact ey1)) (.cons (.int _) .nil)) .nil)
    rw [errV_big (by rw [List.length_set, bigG1_len]; decide)] at eq'
    refine ⟨d2, d2, .tup (SqT.of (by rw [upd_ne (ne_of_none eq' hz')]; exact eq')) (.cons (.str _) (.cons (.int _) .nil)), .tup (SqT.of upd_same) (.cons (.str _) (.cons (.int _) .nil)), sh2, sh2, ?_⟩
    rw [ev2]
    exact k _
end
end Wb

namespace Wb
open PySem PySem.Spec PyProof.Rows L2 Wx NdefX RZ StX PyProof.Rows.FinIter
section
theorem all_mk {l : PySem.W.OpenLaw} {w : World} {K : PySem.W.Frag} {h : Heap} {mg : Str → Option Value} {fa : Addr}
    {oc0 kV0 dc0 pm0 cd0 ct0 : Value} {od0 an0 : Option Addr} {sl0 : Array (Option Value)} {f0 : Addr}
    {oc1 kV1 dc1 pm1 cd1 ct1 : Value} {od1 an1 : Option Addr} {sl1 : Array (Option Value)} {f1 : Addr}
    {oc2 kV2 dc2 pm2 cd2 ct2 : Value} {od2 an2 : Option Addr} {sl2 : Array (Option Value)} {f2 : Addr}
    {oc3 kV3 dc3 pm3 cd3 ct3 : Value} {od3 an3 : Option Addr} {sl3 : Array (Option Value)} {f3 : Addr}
    {oc4 kV4 dc4 pm4 cd4 ct4 : Value} {od4 an4 : Option Addr} {sl4 : Array (Option Value)} {f4 : Addr}
    {oc5 kV5 dc5 pm5 cd5 ct5 : Value} {od5 an5 : Option Addr} {sl5 : Array (Option Value)} {f5 : Addr}
    {oc6 kV6 dc6 pm6 cd6 ct6 : Value} {od6 an6 : Option Addr} {sl6 : Array (Option Value)} {f6 : Addr}
    {oc7 kV7 dc7 pm7 cd7 ct7 : Value} {od7 an7 : Option Addr} {sl7 : Array (Option Value)} {f7 : Addr}
    {oc8 kV8 dc8 pm8 cd8 ct8 : Value} {od8 an8 : Option Addr} {sl8 : Array (Option Value)} {f8 : Addr}
    {oc9 kV9 dc9 pm9 cd9 ct9 : Value} {od9 an9 : Option Addr} {sl9 : Array (Option Value)} {f9 : Addr}
    {oc10 kV10 dc10 pm10 cd10 ct10 : Value} {od10 an10 : Option Addr} {sl10 : Array (Option Value)} {f10 : Addr}
    {oc11 kV11 dc11 pm11 cd11 ct11 : Value} {od11 an11 : Option Addr} {sl11 : Array (Option Value)} {f11 : Addr}
    {oc12 kV12 dc12 pm12 cd12 ct12 : Value} {od12 an12 : Option Addr} {sl12 : Array (Option Value)} {f12 : Addr}
    {oc13 kV13 dc13 pm13 cd13 ct13 : Value} {od13 an13 : Option Addr} {sl13 : Array (Option Value)} {f13 : Addr}
    {oc14 kV14 dc14 pm14 cd14 ct14 : Value} {od14 an14 : Option Addr} {sl14 : Array (Option Value)} {f14 : Addr}
    {t__MOST_NODES : Tok}
    {nm_BadNumber qn_BadNumber fl_BadNumber : Str} {N_BadNumber C_BadNumber f_BadNumber cda_BadNumber cc_BadNumber : Addr} {bs_BadNumber sub_BadNumber bm_BadNumber : List Value} {sn_BadNumber : List Str} {ab_BadNumber : Bool} {col_BadNumber : Option Bool} {dd_BadNumber od_BadNumber an_BadNumber cdd_BadNumber cld_BadNumber : Option Addr} {m0_BadNumber m1_BadNumber m2_BadNumber m3_BadNumber m5_BadNumber : Option Value} {oc_BadNumber kV_BadNumber doc_BadNumber pm_BadNumber ct_BadNumber ccl_BadNumber clv_BadNumber : Value} {osl_BadNumber ccs_BadNumber csl_BadNumber : Array (Option Value)} {vs_BadNumber : Array Value} {tf_BadNumber : Tok}
    {nm_TooMany qn_TooMany fl_TooMany : Str} {N_TooMany C_TooMany f_TooMany cda_TooMany cc_TooMany : Addr} {bs_TooMany sub_TooMany bm_TooMany : List Value} {sn_TooMany : List Str} {ab_TooMany : Bool} {col_TooMany : Option Bool} {dd_TooMany od_TooMany an_TooMany cdd_TooMany cld_TooMany : Option Addr} {m0_TooMany m1_TooMany m2_TooMany m3_TooMany m5_TooMany : Option Value} {oc_TooMany kV_TooMany doc_TooMany pm_TooMany ct_TooMany ccl_TooMany clv_TooMany : Value} {osl_TooMany ccs_TooMany csl_TooMany : Array (Option Value)} {vs_TooMany : Array Value} {tf_TooMany : Tok}
    {C_WaterError : Addr}
    (X : K.In h) (G : h.Ns mainGlobals mg) (hfa : mg "law" = some (.ref fa))
    (a0 : PySem.W.nsIn K mainGlobals "_shown" = some (some (.ref f0)))
    (l0 : K.lookup f0 = some ⟨oc0, od0, .func (PySem.W.fnOf "_shown" "_shown" (defArgs s_shown) (defBody s_shown) (defScope s_shown) .none kV0 dc0 pm0 an0 cd0 ct0), sl0⟩)
    (c0 : PySem.W.codeIn K cd0 "_shown" = true)
    (k0 : PySem.W.keepIn K (.ref f0) = true)
    (a1 : PySem.W.nsIn K mainGlobals "check_number" = some (some (.ref f1)))
    (l1 : K.lookup f1 = some ⟨oc1, od1, .func (PySem.W.fnOf "check_number" "check_number" (defArgs scheck_number) (defBody scheck_number) (defScope scheck_number) .none kV1 dc1 pm1 an1 cd1 ct1), sl1⟩)
    (c1 : PySem.W.codeIn K cd1 "check_number" = true)
    (k1 : PySem.W.keepIn K (.ref f1) = true)
    (a2 : PySem.W.nsIn K mainGlobals "_check_nodes" = some (some (.ref f2)))
    (l2 : K.lookup f2 = some ⟨oc2, od2, .func (PySem.W.fnOf "_check_nodes" "_check_nodes" (defArgs s_check_nodes) (defBody s_check_nodes) (defScope s_check_nodes) .none kV2 dc2 pm2 an2 cd2 ct2), sl2⟩)
    (c2 : PySem.W.codeIn K cd2 "_check_nodes" = true)
    (k2 : PySem.W.keepIn K (.ref f2) = true)
    (a3 : PySem.W.nsIn K mainGlobals "_lost_in_turn" = some (some (.ref f3)))
    (l3 : K.lookup f3 = some ⟨oc3, od3, .func (PySem.W.fnOf "_lost_in_turn" "_lost_in_turn" (defArgs s_lost_in_turn) (defBody s_lost_in_turn) (defScope s_lost_in_turn) .none kV3 dc3 pm3 an3 cd3 ct3), sl3⟩)
    (c3 : PySem.W.codeIn K cd3 "_lost_in_turn" = true)
    (k3 : PySem.W.keepIn K (.ref f3) = true)
    (a4 : PySem.W.nsIn K mainGlobals "ranks" = some (some (.ref f4)))
    (l4 : K.lookup f4 = some ⟨oc4, od4, .func (PySem.W.fnOf "ranks" "ranks" (defArgs sranks) (defBody sranks) (defScope sranks) .none kV4 dc4 pm4 an4 cd4 ct4), sl4⟩)
    (c4 : PySem.W.codeIn K cd4 "ranks" = true)
    (k4 : PySem.W.keepIn K (.ref f4) = true)
    (a5 : PySem.W.nsIn K mainGlobals "_law_start" = some (some (.ref f5)))
    (l5 : K.lookup f5 = some ⟨oc5, od5, .func (PySem.W.fnOf "_law_start" "_law_start" (defArgs s_law_start) (defBody s_law_start) (defScope s_law_start) .none kV5 dc5 pm5 an5 cd5 ct5), sl5⟩)
    (c5 : PySem.W.codeIn K cd5 "_law_start" = true)
    (k5 : PySem.W.keepIn K (.ref f5) = true)
    (a6 : PySem.W.nsIn K mainGlobals "_law_draw" = some (some (.ref f6)))
    (l6 : K.lookup f6 = some ⟨oc6, od6, .func (PySem.W.fnOf "_law_draw" "_law_draw" (defArgs s_law_draw) (defBody s_law_draw) (defScope s_law_draw) .none kV6 dc6 pm6 an6 cd6 ct6), sl6⟩)
    (c6 : PySem.W.codeIn K cd6 "_law_draw" = true)
    (k6 : PySem.W.keepIn K (.ref f6) = true)
    (a7 : PySem.W.nsIn K mainGlobals "_law_target" = some (some (.ref f7)))
    (l7 : K.lookup f7 = some ⟨oc7, od7, .func (PySem.W.fnOf "_law_target" "_law_target" (defArgs s_law_target) (defBody s_law_target) (defScope s_law_target) .none kV7 dc7 pm7 an7 cd7 ct7), sl7⟩)
    (c7 : PySem.W.codeIn K cd7 "_law_target" = true)
    (k7 : PySem.W.keepIn K (.ref f7) = true)
    (a8 : PySem.W.nsIn K mainGlobals "_law_game" = some (some (.ref f8)))
    (l8 : K.lookup f8 = some ⟨oc8, od8, .func (PySem.W.fnOf "_law_game" "_law_game" (defArgs s_law_game) (defBody s_law_game) (defScope s_law_game) .none kV8 dc8 pm8 an8 cd8 ct8), sl8⟩)
    (c8 : PySem.W.codeIn K cd8 "_law_game" = true)
    (k8 : PySem.W.keepIn K (.ref f8) = true)
    (a9 : PySem.W.nsIn K mainGlobals "_law_copy" = some (some (.ref f9)))
    (l9 : K.lookup f9 = some ⟨oc9, od9, .func (PySem.W.fnOf "_law_copy" "_law_copy" (defArgs s_law_copy) (defBody s_law_copy) (defScope s_law_copy) .none kV9 dc9 pm9 an9 cd9 ct9), sl9⟩)
    (c9 : PySem.W.codeIn K cd9 "_law_copy" = true)
    (k9 : PySem.W.keepIn K (.ref f9) = true)
    (a10 : PySem.W.nsIn K mainGlobals "_law_odd" = some (some (.ref f10)))
    (l10 : K.lookup f10 = some ⟨oc10, od10, .func (PySem.W.fnOf "_law_odd" "_law_odd" (defArgs s_law_odd) (defBody s_law_odd) (defScope s_law_odd) .none kV10 dc10 pm10 an10 cd10 ct10), sl10⟩)
    (c10 : PySem.W.codeIn K cd10 "_law_odd" = true)
    (k10 : PySem.W.keepIn K (.ref f10) = true)
    (a11 : PySem.W.nsIn K mainGlobals "_law_error" = some (some (.ref f11)))
    (l11 : K.lookup f11 = some ⟨oc11, od11, .func (PySem.W.fnOf "_law_error" "_law_error" (defArgs s_law_error) (defBody s_law_error) (defScope s_law_error) .none kV11 dc11 pm11 an11 cd11 ct11), sl11⟩)
    (c11 : PySem.W.codeIn K cd11 "_law_error" = true)
    (k11 : PySem.W.keepIn K (.ref f11) = true)
    (a12 : PySem.W.nsIn K mainGlobals "_law_first" = some (some (.ref f12)))
    (l12 : K.lookup f12 = some ⟨oc12, od12, .func (PySem.W.fnOf "_law_first" "_law_first" (defArgs s_law_first) (defBody s_law_first) (defScope s_law_first) .none kV12 dc12 pm12 an12 cd12 ct12), sl12⟩)
    (c12 : PySem.W.codeIn K cd12 "_law_first" = true)
    (k12 : PySem.W.keepIn K (.ref f12) = true)
    (a13 : PySem.W.nsIn K mainGlobals "_law_bent" = some (some (.ref f13)))
    (l13 : K.lookup f13 = some ⟨oc13, od13, .func (PySem.W.fnOf "_law_bent" "_law_bent" (defArgs s_law_bent) (defBody s_law_bent) (defScope s_law_bent) .none kV13 dc13 pm13 an13 cd13 ct13), sl13⟩)
    (c13 : PySem.W.codeIn K cd13 "_law_bent" = true)
    (k13 : PySem.W.keepIn K (.ref f13) = true)
    (a14 : PySem.W.nsIn K mainGlobals "law" = some (some (.ref f14)))
    (l14 : K.lookup f14 = some ⟨oc14, od14, .func (PySem.W.fnOf "law" "law" (defArgs slaw) (defBody slaw) (defScope slaw) .none kV14 dc14 pm14 an14 cd14 ct14), sl14⟩)
    (c14 : PySem.W.codeIn K cd14 "law" = true)
    (k14 : PySem.W.keepIn K (.ref f14) = true)
    (z_len : PySem.W.nsIn K mainGlobals "len" = some none)
    (z_abs : PySem.W.nsIn K mainGlobals "abs" = some none)
    (z_int : PySem.W.nsIn K mainGlobals "int" = some none)
    (z_bool : PySem.W.nsIn K mainGlobals "bool" = some none)
    (z_str : PySem.W.nsIn K mainGlobals "str" = some none)
    (z_range : PySem.W.nsIn K mainGlobals "range" = some none)
    (z_all : PySem.W.nsIn K mainGlobals "all" = some none)
    (z_isinstance : PySem.W.nsIn K mainGlobals "isinstance" = some none)
    (z_repr : PySem.W.nsIn K mainGlobals "repr" = some none)
    (z_super : PySem.W.nsIn K mainGlobals "super" = some none)
    (z_tuple : PySem.W.nsIn K mainGlobals "tuple" = some none)
    (z_list : PySem.W.nsIn K mainGlobals "list" = some none)
    (z_zip : PySem.W.nsIn K mainGlobals "zip" = some none)
    (z_enumerate : PySem.W.nsIn K mainGlobals "enumerate" = some none)
    (z_max : PySem.W.nsIn K mainGlobals "max" = some none)
    (z_min : PySem.W.nsIn K mainGlobals "min" = some none)
    (g__MOST_NODES : PySem.W.nsIn K mainGlobals "_MOST_NODES" = some (some (.int 12000 t__MOST_NODES)))
    (g_BadNumber : PySem.W.nsIn K mainGlobals "BadNumber" = some (some (.ref C_BadNumber)))
    (x_BadNumber : K.lookup C_BadNumber = some (excClassObj nm_BadNumber qn_BadNumber C_BadNumber N_BadNumber bs_BadNumber bm_BadNumber true sn_BadNumber sub_BadNumber ab_BadNumber col_BadNumber dd_BadNumber m0_BadNumber m1_BadNumber m2_BadNumber m3_BadNumber m5_BadNumber "ValueError.__new__"))
    (r_BadNumber : PySem.HandSPX.refsVE bm_BadNumber = true)
    (sa_BadNumber : PySem.W.findIn K (.ref C_BadNumber) "__setattr__" = some (some (.builtin "object.__setattr__")))
    (ex_BadNumber : PySem.W.subIn K (.ref C_BadNumber) (.type "BaseException") = some true)
    (ty_BadNumber : PySem.W.typeIn K (.ref C_BadNumber) = some (.type "type"))
    (kp_BadNumber : PySem.W.keepIn K (.ref C_BadNumber) = true)
    (i_BadNumber : PySem.W.findIn K (.ref C_BadNumber) "__init__" = some (some (.ref f_BadNumber)))
    (l_BadNumber : K.lookup f_BadNumber = some ⟨oc_BadNumber, od_BadNumber, .func (PySem.W.fnX "__init__" "BadNumber.__init__" (defArgs sBadNumber___init__) (defBody sBadNumber___init__) (defScope sBadNumber___init__) [("__class__", cc_BadNumber)] .none kV_BadNumber doc_BadNumber pm_BadNumber an_BadNumber (.ref cda_BadNumber) ct_BadNumber), osl_BadNumber⟩)
    (cd_BadNumber : PySem.W.codeIn K (.ref cda_BadNumber) "BadNumber.__init__" = true)
    (cf_BadNumber : K.lookup cda_BadNumber = some ⟨ccl_BadNumber, cdd_BadNumber, .fields vs_BadNumber, ccs_BadNumber⟩)
    (v2_BadNumber : vs_BadNumber[2]? = some (.str fl_BadNumber tf_BadNumber))
    (fi_BadNumber : ((l.prog.main.file : Str) == fl_BadNumber) = true)
    (cl_BadNumber : K.lookup cc_BadNumber = some ⟨clv_BadNumber, cld_BadNumber, .cell (some (.ref C_BadNumber)), csl_BadNumber⟩)
    (mr_BadNumber : PySem.W.mroIn K C_BadNumber (.ref C_BadNumber) = some true)
    (sb_BadNumber : PySem.W.subIn K (.ref C_BadNumber) (.type "ValueError") = some true)
    (su_BadNumber : PySem.W.ks_superIn K C_BadNumber C_BadNumber "__init__" = some (some (.builtin "ValueError.__init__")))
    (ti_BadNumber : PySem.W.typeIn K (.ref f_BadNumber) = some (.type "function"))
    (ga_BadNumber : PySem.W.findIn K (.ref C_BadNumber) "__getattribute__" = some (some (.builtin "BaseException.__getattribute__")))
    (gg_BadNumber : PySem.W.findIn K (.ref C_BadNumber) "__getattr__" = some none)
    (hd_BadNumber : PySem.W.hasDictIn K C_BadNumber = true)
    (ha_BadNumber : PySem.W.findIn K (.ref C_BadNumber) "__class__" = some (some (.builtin "object.__class__")))
    (mo_BadNumber : PySem.W.mroIn K C_BadNumber (.type "object") = some true)
    (em_BadNumber : PySem.W.subIn K (.ref C_BadNumber) (.ref C_BadNumber) = some true)
    (nw_BadNumber : PySem.W.findIn K (.ref C_BadNumber) "what" = some none)
    (nv_BadNumber : PySem.W.findIn K (.ref C_BadNumber) "value" = some none)
    (nn_BadNumber : PySem.W.findIn K (.ref C_BadNumber) "name" = some none)
    (nt_BadNumber : PySem.W.findIn K (.ref C_BadNumber) "turn" = some none)
    (g_TooMany : PySem.W.nsIn K mainGlobals "TooMany" = some (some (.ref C_TooMany)))
    (x_TooMany : K.lookup C_TooMany = some (excClassObj nm_TooMany qn_TooMany C_TooMany N_TooMany bs_TooMany bm_TooMany true sn_TooMany sub_TooMany ab_TooMany col_TooMany dd_TooMany m0_TooMany m1_TooMany m2_TooMany m3_TooMany m5_TooMany "ValueError.__new__"))
    (r_TooMany : PySem.HandSPX.refsVE bm_TooMany = true)
    (sa_TooMany : PySem.W.findIn K (.ref C_TooMany) "__setattr__" = some (some (.builtin "object.__setattr__")))
    (ex_TooMany : PySem.W.subIn K (.ref C_TooMany) (.type "BaseException") = some true)
    (ty_TooMany : PySem.W.typeIn K (.ref C_TooMany) = some (.type "type"))
    (kp_TooMany : PySem.W.keepIn K (.ref C_TooMany) = true)
    (i_TooMany : PySem.W.findIn K (.ref C_TooMany) "__init__" = some (some (.ref f_TooMany)))
    (l_TooMany : K.lookup f_TooMany = some ⟨oc_TooMany, od_TooMany, .func (PySem.W.fnX "__init__" "TooMany.__init__" (defArgs sTooMany___init__) (defBody sTooMany___init__) (defScope sTooMany___init__) [("__class__", cc_TooMany)] .none kV_TooMany doc_TooMany pm_TooMany an_TooMany (.ref cda_TooMany) ct_TooMany), osl_TooMany⟩)
    (cd_TooMany : PySem.W.codeIn K (.ref cda_TooMany) "TooMany.__init__" = true)
    (cf_TooMany : K.lookup cda_TooMany = some ⟨ccl_TooMany, cdd_TooMany, .fields vs_TooMany, ccs_TooMany⟩)
    (v2_TooMany : vs_TooMany[2]? = some (.str fl_TooMany tf_TooMany))
    (fi_TooMany : ((l.prog.main.file : Str) == fl_TooMany) = true)
    (cl_TooMany : K.lookup cc_TooMany = some ⟨clv_TooMany, cld_TooMany, .cell (some (.ref C_TooMany)), csl_TooMany⟩)
    (mr_TooMany : PySem.W.mroIn K C_TooMany (.ref C_TooMany) = some true)
    (sb_TooMany : PySem.W.subIn K (.ref C_TooMany) (.type "ValueError") = some true)
    (su_TooMany : PySem.W.ks_superIn K C_TooMany C_TooMany "__init__" = some (some (.builtin "ValueError.__init__")))
    (ti_TooMany : PySem.W.typeIn K (.ref f_TooMany) = some (.type "function"))
    (ga_TooMany : PySem.W.findIn K (.ref C_TooMany) "__getattribute__" = some (some (.builtin "BaseException.__getattribute__")))
    (gg_TooMany : PySem.W.findIn K (.ref C_TooMany) "__getattr__" = some none)
    (hd_TooMany : PySem.W.hasDictIn K C_TooMany = true)
    (ha_TooMany : PySem.W.findIn K (.ref C_TooMany) "__class__" = some (some (.builtin "object.__class__")))
    (mo_TooMany : PySem.W.mroIn K C_TooMany (.type "object") = some true)
    (em_TooMany : PySem.W.subIn K (.ref C_TooMany) (.ref C_TooMany) = some true)
    (nw_TooMany : PySem.W.findIn K (.ref C_TooMany) "what" = some none)
    (nv_TooMany : PySem.W.findIn K (.ref C_TooMany) "value" = some none)
    (nn_TooMany : PySem.W.findIn K (.ref C_TooMany) "name" = some none)
    (nt_TooMany : PySem.W.findIn K (.ref C_TooMany) "turn" = some none)
    (g_WaterError : PySem.W.nsIn K mainGlobals "WaterError" = some (some (.ref C_WaterError)))
    (opq : PySem.W.nsIn K cStatics "thirdparty.any" = some none)
    (htop : (l.prog.main.scope.names.lookup ("super" : Str)).isSome = false)
    (spc : PySem.W.specialIn K (.builtin "object.__class__") "__get__" = some (some (.builtin "getset_descriptor.__get__")))
    (tks : PySem.W.takesIn K (.builtin "object.__class__") = some true)
    (nf_TooMany_limit : PySem.W.findIn K (.ref C_TooMany) "limit" = some none)
    (ex_WaterError : PySem.W.subIn K (.ref C_WaterError) (.type "BaseException") = some true)
    (hd_WaterError : PySem.W.hasDictIn K C_WaterError = true)
    (ty_WaterError : PySem.W.typeIn K (.ref C_WaterError) = some (.type "type"))
    (sw_BadNumber : PySem.W.subIn K (.ref C_BadNumber) (.ref C_WaterError) = some true)
    (sw_TooMany : PySem.W.subIn K (.ref C_TooMany) (.ref C_WaterError) = some true)
    (kit0 : PySem.W.kitOne K (.ref C_BadNumber) (.ref C_BadNumber) = some true)
    (kit1 : PySem.W.kitOne K (.ref C_BadNumber) (.ref C_TooMany) = some false)
    (kit2 : PySem.W.kitOne K (.ref C_TooMany) (.ref C_BadNumber) = some false)
    (kit3 : PySem.W.kitOne K (.ref C_TooMany) (.ref C_TooMany) = some true) :
    ∃ fd : FuncData, (∀ (s : Shared) (v : Value), BindsTo s fd ⟨[v], []⟩ [("script", v)]) ∧ ∀ base : Heap, K.In base → base.Ns mainGlobals mg → FnOk l.prog w K mg base CX0 8 fa fd ["script"] (splaw K) := by
  have e := hfa.symm.trans (PySem.W.mg_of X G a14)
  cases e
  have T : Txt K mg := ⟨PySem.W.mg_none_of X G z_len, PySem.W.mg_none_of X G z_abs, PySem.W.mg_none_of X G z_int, PySem.W.mg_none_of X G z_bool, PySem.W.mg_none_of X G z_str, PySem.W.mg_none_of X G z_range, PySem.W.mg_none_of X G z_all, PySem.W.mg_none_of X G z_isinstance, PySem.W.mg_none_of X G z_repr, PySem.W.mg_none_of X G z_super, PySem.W.mg_none_of X G z_tuple, PySem.W.mg_none_of X G z_list, PySem.W.mg_none_of X G z_zip, PySem.W.mg_none_of X G z_enumerate, PySem.W.mg_none_of X G z_max, PySem.W.mg_none_of X G z_min, ⟨_, PySem.W.mg_of X G g__MOST_NODES⟩⟩
  have E_BadNumber : ErrC l.prog K mg "BadNumber" "BadNumber.__init__" C_BadNumber f_BadNumber cda_BadNumber cc_BadNumber := ⟨PySem.W.mg_of X G g_BadNumber, ⟨⟨⟨_, _, _, _, _, _, _, _, _, _, _, _, _, _, _, x_BadNumber, r_BadNumber⟩, sa_BadNumber, ex_BadNumber, ty_BadNumber, kp_BadNumber⟩, cd_BadNumber, ⟨_, _, _, _, _, _, cf_BadNumber, v2_BadNumber, fi_BadNumber⟩, ⟨_, _, _, cl_BadNumber⟩, T.b_super, htop, mr_BadNumber, sb_BadNumber, su_BadNumber, opq⟩, i_BadNumber, ti_BadNumber, ⟨ga_BadNumber, gg_BadNumber, ex_BadNumber, hd_BadNumber⟩, ⟨ga_BadNumber, gg_BadNumber, ex_BadNumber, hd_BadNumber, ha_BadNumber, spc, tks, mo_BadNumber⟩, PySem.W.exm_ref ex_BadNumber hd_BadNumber ty_BadNumber em_BadNumber, nw_BadNumber, nv_BadNumber, nn_BadNumber, nt_BadNumber⟩
  have E_TooMany : ErrC l.prog K mg "TooMany" "TooMany.__init__" C_TooMany f_TooMany cda_TooMany cc_TooMany := ⟨PySem.W.mg_of X G g_TooMany, ⟨⟨⟨_, _, _, _, _, _, _, _, _, _, _, _, _, _, _, x_TooMany, r_TooMany⟩, sa_TooMany, ex_TooMany, ty_TooMany, kp_TooMany⟩, cd_TooMany, ⟨_, _, _, _, _, _, cf_TooMany, v2_TooMany, fi_TooMany⟩, ⟨_, _, _, cl_TooMany⟩, T.b_super, htop, mr_TooMany, sb_TooMany, su_TooMany, opq⟩, i_TooMany, ti_TooMany, ⟨ga_TooMany, gg_TooMany, ex_TooMany, hd_TooMany⟩, ⟨ga_TooMany, gg_TooMany, ex_TooMany, hd_TooMany, ha_TooMany, spc, tks, mo_TooMany⟩, PySem.W.exm_ref ex_TooMany hd_TooMany ty_TooMany em_TooMany, nw_TooMany, nv_TooMany, nn_TooMany, nt_TooMany⟩
  have F0 := fun_mk (st := s_shown) l0 c0 k0
  have b0 := F0.binds (ps := P_shown) fun _ _ _ _ _ _ us hl => match us, hl with | [_], _ => rfl
  have F1 := fun_mk (st := scheck_number) l1 c1 k1
  have b1 := F1.binds (ps := Pcheck_number) fun _ _ _ _ _ _ us hl => match us, hl with | [_, _, _, _], _ => rfl
  have F2 := fun_mk (st := s_check_nodes) l2 c2 k2
  have b2 := F2.binds (ps := P_check_nodes) fun _ _ _ _ _ _ us hl => match us, hl with | [_], _ => rfl
  have F3 := fun_mk (st := s_lost_in_turn) l3 c3 k3
  have b3 := F3.binds (ps := P_lost_in_turn) fun _ _ _ _ _ _ us hl => match us, hl with | [_, _], _ => rfl
  have F4 := fun_mk (st := sranks) l4 c4 k4
  have b4 := F4.binds (ps := Pranks) fun _ _ _ _ _ _ us hl => match us, hl with | [_], _ => rfl
  have F5 := fun_mk (st := s_law_start) l5 c5 k5
  have b5 := F5.binds (ps := P_law_start) fun _ _ _ _ _ _ us hl => match us, hl with | [_], _ => rfl
  have F6 := fun_mk (st := s_law_draw) l6 c6 k6
  have b6 := F6.binds (ps := P_law_draw) fun _ _ _ _ _ _ us hl => match us, hl with | [_, _, _], _ => rfl
  have F7 := fun_mk (st := s_law_target) l7 c7 k7
  have b7 := F7.binds (ps := P_law_target) fun _ _ _ _ _ _ us hl => match us, hl with | [_, _, _], _ => rfl
  have F8 := fun_mk (st := s_law_game) l8 c8 k8
  have b8 := F8.binds (ps := P_law_game) fun _ _ _ _ _ _ us hl => match us, hl with | [_, _, _], _ => rfl
  have F9 := fun_mk (st := s_law_copy) l9 c9 k9
  have b9 := F9.binds (ps := P_law_copy) fun _ _ _ _ _ _ us hl => match us, hl with | [_], _ => rfl
  have F10 := fun_mk (st := s_law_odd) l10 c10 k10
  have b10 := F10.binds (ps := P_law_odd) fun _ _ _ _ _ _ us hl => match us, hl with | [_, _, _], _ => rfl
  have F11 := fun_mk (st := s_law_error) l11 c11 k11
  have b11 := F11.binds (ps := P_law_error) fun _ _ _ _ _ _ us hl => match us, hl with | [_], _ => rfl
  have F12 := fun_mk (st := s_law_first) l12 c12 k12
  have b12 := F12.binds (ps := P_law_first) fun _ _ _ _ _ _ us hl => match us, hl with | [_], _ => rfl
  have F13 := fun_mk (st := s_law_bent) l13 c13 k13
  have b13 := F13.binds (ps := P_law_bent) fun _ _ _ _ _ _ us hl => match us, hl with | [_, _, _], _ => rfl
  have F14 := fun_mk (st := slaw) l14 c14 k14
  have bI_BadNumber : Binds K (PySem.W.fnX "__init__" "BadNumber.__init__" (defArgs sBadNumber___init__) (defBody sBadNumber___init__) (defScope sBadNumber___init__) [("__class__", cc_BadNumber)] .none kV_BadNumber doc_BadNumber pm_BadNumber an_BadNumber (.ref cda_BadNumber) ct_BadNumber) PBadNumber___init__ [] := .all fun us hl => match us, hl with | [_, _, _], _ => rfl
  have bI_TooMany : Binds K (PySem.W.fnX "__init__" "TooMany.__init__" (defArgs sTooMany___init__) (defBody sTooMany___init__) (defScope sTooMany___init__) [("__class__", cc_TooMany)] .none kV_TooMany doc_TooMany pm_TooMany an_TooMany (.ref cda_TooMany) ct_TooMany) PTooMany___init__ [] := .all fun us hl => match us, hl with | [_, _], _ => rfl
  refine ⟨PySem.W.fnOf "law" "law" (defArgs slaw) (defBody slaw) (defScope slaw) .none kV14 dc14 pm14 an14 cd14 ct14, fun s v => .of_eq rfl, fun base _ _ => ?_⟩
  have C_shown := Cal.mk (ok_shown (P := l.prog) (w := w) (base := base) F0 T) (PySem.W.mg_of X G a0) k0 b0
  have G_BadNumber := okBadNumber___init__ (P := l.prog) (w := w) (base := base) l_BadNumber E_BadNumber T C_shown
  have G_TooMany := okTooMany___init__ (P := l.prog) (w := w) (base := base) l_TooMany E_TooMany T nf_TooMany_limit C_shown
  have Gcheck_number := okcheck_number (P := l.prog) (w := w) (base := base) F1 T E_BadNumber G_BadNumber bI_BadNumber
  have G_check_nodes := ok_check_nodes (P := l.prog) (w := w) (base := base) F2 T (C_BadNumber := C_BadNumber) ⟨_, _, Gcheck_number, PySem.W.mg_of X G a1, k1, b1⟩
  have C_lost_in_turn := Cal.mk (ok_lost_in_turn (P := l.prog) (w := w) (base := base) F3 T) (PySem.W.mg_of X G a3) k3 b3
  have Granks := okranks (P := l.prog) (w := w) (base := base) F4 T (C_BadNumber := C_BadNumber) E_TooMany G_TooMany bI_TooMany C_lost_in_turn ⟨_, _, G_check_nodes, PySem.W.mg_of X G a2, k2, b2⟩
  have C_law_start := Cal.mk (ok_law_start (P := l.prog) (w := w) (base := base) F5 T) (PySem.W.mg_of X G a5) k5 b5
  have C_law_draw := Cal.mk (ok_law_draw (P := l.prog) (w := w) (base := base) F6 T) (PySem.W.mg_of X G a6) k6 b6
  have C_law_target := Cal.mk (ok_law_target (P := l.prog) (w := w) (base := base) F7 T C_law_draw) (PySem.W.mg_of X G a7) k7 b7
  have C_law_game := Cal.mk (ok_law_game (P := l.prog) (w := w) (base := base) F8 T C_law_draw C_law_target) (PySem.W.mg_of X G a8) k8 b8
  have C_law_copy := Cal.mk (ok_law_copy (P := l.prog) (w := w) (base := base) F9 T) (PySem.W.mg_of X G a9) k9 b9
  have C_law_odd := Cal.mk (ok_law_odd (P := l.prog) (w := w) (base := base) F10 T C_law_draw) (PySem.W.mg_of X G a10) k10 b10
  have C_law_error := Cal.mk (ok_law_error (P := l.prog) (w := w) (base := base) F11 T E_BadNumber G_BadNumber bI_BadNumber E_TooMany G_TooMany bI_TooMany (PySem.W.mg_of X G g_WaterError) (PySem.W.mg_of X G g_BadNumber) (PySem.W.mg_of X G g_TooMany) (PySem.W.exm_ref ex_WaterError hd_WaterError ty_WaterError sw_BadNumber) (PySem.W.exm_ref ex_WaterError hd_WaterError ty_WaterError sw_TooMany) kit0 kit1 kit2 kit3 nf_TooMany_limit ⟨_, _, Granks, PySem.W.mg_of X G a4, k4, b4⟩) (PySem.W.mg_of X G a11) k11 b11
  have C_law_first := Cal.mk (ok_law_first (P := l.prog) (w := w) (base := base) F12 T) (PySem.W.mg_of X G a12) k12 b12
  have C_law_bent := Cal.mk (ok_law_bent (P := l.prog) (w := w) (base := base) F13 T C_law_draw C_law_copy C_law_odd) (PySem.W.mg_of X G a13) k13 b13
  exact oklaw (P := l.prog) (w := w) (base := base) F14 T (C_BadNumber := C_BadNumber) (C_TooMany := C_TooMany) C_law_start C_law_draw C_law_game C_law_bent C_law_copy C_law_error C_law_first ⟨_, _, Granks, PySem.W.mg_of X G a4, k4, b4⟩
theorem walk {l : PySem.W.OpenLaw} {q : Program} {loose : List Str} {XP : (Str → Option Value) → Heap → Prop} {YP : World → Heap → Prop} {d : DefRec} {K : Params → PySem.W.Frag} (hn : l.most = some 63) (hdf : d.params.defaults = [])
    (hY : ∀ (w : World) (h : Heap), YP w h → (K w.params).In h)
    (F : ∀ (w : World) (mg : Str → Option Value) (fa : Addr) (h : Heap), (K w.params).In h → h.Ns mainGlobals mg → mg d.name = some (.ref fa) →
      ∃ fd : FuncData, (∀ (s : Shared) (u : Value), BindsTo s fd ⟨[u], []⟩ [("script", u)]) ∧ ∀ base : Heap, (K w.params).In base → base.Ns mainGlobals mg → FnOk l.prog w (K w.params) mg base CX0 8 fa fd ["script"] (splaw (K w.params))) :
    PySem.W.WalkO q loose XP YP l.row.toRowW d [] (fun f vs => PySem.call f vs) :=
  L2.walk_of (n := 63) (k := 8) (x := "script") (CX := fun _ => CX0) (sp := fun w => splaw (K w.params)) hn (by decide) hdf ⟨rfl, by decide, by decide⟩ hY F (fun _ _ a ns hl _ hS => ⟨a, ns, rfl, hS, hl, fun _ => rfl⟩) fun _ _ _ _ _ z => z
end
end Wb
open PySem PySem.W PyProof.Rows in
set_option maxRecDepth 100000 in
set_option maxHeartbeats 0 in
theorem PySem.Challenge.cw_waterbyturns_k23_games_that_are_refused_holds : PySem.Challenge.rw_waterbyturns_k23_games_that_are_refused.Holds := by
  w_on; o_law; k_head; (case hw => w_witness2)
  k_fill
  refine Wb.walk (l := PySem.Challenge.rw_waterbyturns_k23_games_that_are_refused) rfl rfl (fun w h Y => PySem.W.kIn_of Y) ?F
  case F =>
    intro w mg fa h KX G hmg
    refine' Wb.all_mk KX G hmg ?a0 ?l0 ?c0 ?k0 ?a1 ?l1 ?c1 ?k1 ?a2 ?l2 ?c2 ?k2 ?a3 ?l3 ?c3 ?k3 ?a4 ?l4 ?c4 ?k4 ?a5 ?l5 ?c5 ?k5 ?a6 ?l6 ?c6 ?k6 ?a7 ?l7 ?c7 ?k7 ?a8 ?l8 ?c8 ?k8 ?a9 ?l9 ?c9 ?k9 ?a10 ?l10 ?c10 ?k10 ?a11 ?l11 ?c11 ?k11 ?a12 ?l12 ?c12 ?k12 ?a13 ?l13 ?c13 ?k13 ?a14 ?l14 ?c14 ?k14 ?z_len ?z_abs ?z_int ?z_bool ?z_str ?z_range ?z_all ?z_isinstance ?z_repr ?z_super ?z_tuple ?z_list ?z_zip ?z_enumerate ?z_max ?z_min ?g__MOST_NODES ?g_BadNumber ?x_BadNumber ?r_BadNumber ?sa_BadNumber ?ex_BadNumber ?ty_BadNumber ?kp_BadNumber ?i_BadNumber ?l_BadNumber ?cd_BadNumber ?cf_BadNumber ?v2_BadNumber ?fi_BadNumber ?cl_BadNumber ?mr_BadNumber ?sb_BadNumber ?su_BadNumber ?ti_BadNumber ?ga_BadNumber ?gg_BadNumber ?hd_BadNumber ?ha_BadNumber ?mo_BadNumber ?em_BadNumber ?nw_BadNumber ?nv_BadNumber ?nn_BadNumber ?nt_BadNumber ?g_TooMany ?x_TooMany ?r_TooMany ?sa_TooMany ?ex_TooMany ?ty_TooMany ?kp_TooMany ?i_TooMany ?l_TooMany ?cd_TooMany ?cf_TooMany ?v2_TooMany ?fi_TooMany ?cl_TooMany ?mr_TooMany ?sb_TooMany ?su_TooMany ?ti_TooMany ?ga_TooMany ?gg_TooMany ?hd_TooMany ?ha_TooMany ?mo_TooMany ?em_TooMany ?nw_TooMany ?nv_TooMany ?nn_TooMany ?nt_TooMany ?g_WaterError ?opq ?htop ?spc ?tks ?nf_TooMany_limit ?ex_WaterError ?hd_WaterError ?ty_WaterError ?sw_BadNumber ?sw_TooMany ?kit0 ?kit1 ?kit2 ?kit3
    (case a0 => k_is)
    (case l0 => k_is)
    (case c0 => k_is)
    (case k0 => k_is)
    (case a1 => k_is)
    (case l1 => k_is)
    (case c1 => k_is)
    (case k1 => k_is)
    (case a2 => k_is)
    (case l2 => k_is)
    (case c2 => k_is)
    (case k2 => k_is)
    (case a3 => k_is)
    (case l3 => k_is)
    (case c3 => k_is)
    (case k3 => k_is)
    (case a4 => k_is)
    (case l4 => k_is)
    (case c4 => k_is)
    (case k4 => k_is)
    (case a5 => k_is)
    (case l5 => k_is)
    (case c5 => k_is)
    (case k5 => k_is)
    (case a6 => k_is)
    (case l6 => k_is)
    (case c6 => k_is)
    (case k6 => k_is)
    (case a7 => k_is)
    (case l7 => k_is)
    (case c7 => k_is)
    (case k7 => k_is)
    (case a8 => k_is)
    (case l8 => k_is)
    (case c8 => k_is)
    (case k8 => k_is)
    (case a9 => k_is)
    (case l9 => k_is)
    (case c9 => k_is)
    (case k9 => k_is)
    (case a10 => k_is)
    (case l10 => k_is)
    (case c10 => k_is)
    (case k10 => k_is)
    (case a11 => k_is)
    (case l11 => k_is)
    (case c11 => k_is)
    (case k11 => k_is)
    (case a12 => k_is)
    (case l12 => k_is)
    (case c12 => k_is)
    (case k12 => k_is)
    (case a13 => k_is)
    (case l13 => k_is)
    (case c13 => k_is)
    (case k13 => k_is)
    (case a14 => k_is)
    (case l14 => k_is)
    (case c14 => k_is)
    (case k14 => k_is)
    (case z_len => k_is)
    (case z_abs => k_is)
    (case z_int => k_is)
    (case z_bool => k_is)
    (case z_str => k_is)
    (case z_range => k_is)
    (case z_all => k_is)
    (case z_isinstance => k_is)
    (case z_repr => k_is)
    (case z_super => k_is)
    (case z_tuple => k_is)
    (case z_list => k_is)
    (case z_zip => k_is)
    (case z_enumerate => k_is)
    (case z_max => k_is)
    (case z_min => k_is)
    (case g__MOST_NODES => k_is)
    (case g_BadNumber => k_is)
    (case x_BadNumber => k_is)
    (case r_BadNumber => first | rfl | decide +kernel)
    (case sa_BadNumber => k_is)
    (case ex_BadNumber => k_is)
    (case ty_BadNumber => k_is)
    (case kp_BadNumber => k_is)
    (case i_BadNumber => k_is)
    (case l_BadNumber => k_is)
    (case cd_BadNumber => k_is)
    (case cf_BadNumber => k_is)
    (case v2_BadNumber => first | rfl | decide +kernel)
    (case fi_BadNumber => first | rfl | decide +kernel)
    (case cl_BadNumber => k_is)
    (case mr_BadNumber => k_is)
    (case sb_BadNumber => k_is)
    (case su_BadNumber => ks_is)
    (case ti_BadNumber => k_is)
    (case ga_BadNumber => k_is)
    (case gg_BadNumber => k_is)
    (case hd_BadNumber => k_is)
    (case ha_BadNumber => k_is)
    (case mo_BadNumber => k_is)
    (case em_BadNumber => k_is)
    (case nw_BadNumber => k_is)
    (case nv_BadNumber => k_is)
    (case nn_BadNumber => k_is)
    (case nt_BadNumber => k_is)
    (case g_TooMany => k_is)
    (case x_TooMany => k_is)
    (case r_TooMany => first | rfl | decide +kernel)
    (case sa_TooMany => k_is)
    (case ex_TooMany => k_is)
    (case ty_TooMany => k_is)
    (case kp_TooMany => k_is)
    (case i_TooMany => k_is)
    (case l_TooMany => k_is)
    (case cd_TooMany => k_is)
    (case cf_TooMany => k_is)
    (case v2_TooMany => first | rfl | decide +kernel)
    (case fi_TooMany => first | rfl | decide +kernel)
    (case cl_TooMany => k_is)
    (case mr_TooMany => k_is)
    (case sb_TooMany => k_is)
    (case su_TooMany => ks_is)
    (case ti_TooMany => k_is)
    (case ga_TooMany => k_is)
    (case gg_TooMany => k_is)
    (case hd_TooMany => k_is)
    (case ha_TooMany => k_is)
    (case mo_TooMany => k_is)
    (case em_TooMany => k_is)
    (case nw_TooMany => k_is)
    (case nv_TooMany => k_is)
    (case nn_TooMany => k_is)
    (case nt_TooMany => k_is)
    (case g_WaterError => k_is)
    (case opq => k_is)
    (case htop => first | rfl | decide +kernel)
    (case spc => k_is)
    (case tks => k_is)
    (case nf_TooMany_limit => k_is)
    (case ex_WaterError => k_is)
    (case hd_WaterError => k_is)
    (case ty_WaterError => k_is)
    (case sw_BadNumber => k_is)
    (case sw_TooMany => k_is)
    (case kit0 => first | k_is | kit_is)
    (case kit1 => first | k_is | kit_is)
    (case kit2 => first | k_is | kit_is)
    (case kit3 => first | k_is | kit_is)

