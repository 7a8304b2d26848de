import PyProof.Rows.All
import Wide.All
import OpenK.AllK
import Wide.FinOn
import HandS.ForMost
import HandS.Walk
import HandS.IsInst
import PySem.Challenge.RW_waterbyturns_k22_options_that_are_good_o
set_option Elab.async false
set_option linter.all false
set_option maxRecDepth 100000
set_option maxHeartbeats 4000000
namespace Wb
open PySem PySem.Spec PyProof.Rows L2
def top (i : Nat) : Stmt := PySem.Challenge.pw_waterbyturns_k22_options_that_are_good_o.main.body.getD i (.Pass ⟨0, 0, 0, 0⟩)
/-! ### a def that stands, by its name: what a caller needs -/
structure Cal (P : Program) (w : World) (K : PySem.W.Frag) (mg : Str → Option Value) (base : Heap) (name : Str) (ps : List Str) (k : Nat) (sp : Sp) : Prop where
  mk0 ::
  ex : ∃ (g : Addr) (gd : FuncData), FnOk P w K mg base CX0 k g gd ps sp ∧ mg name = some (.ref g) ∧ PySem.W.keepIn K (.ref g) = true ∧ Binds K gd ps []
/-! ### frames -/
/-- what is tracked outside xs stays -/
def Frm (xs : List Addr) (H H' : Hp) : Prop := ∀ b o, ¬ b ∈ xs → H b = some o → H' b = some o
theorem Frm.refl (xs : List Addr) (H : Hp) : Frm xs H H := fun _ _ _ h => h
theorem Frm.trans {xs : List Addr} {H H1 H2 : Hp} (a : Frm xs H H1) (b : Frm xs H1 H2) : Frm xs H H2 := fun c o n h => b c o n (a c o n h)
theorem Frm.of_same {xs : List Addr} {H H' : Hp} (a : Same H H') : Frm xs H H' := fun b o _ h => a b o h
theorem Frm.mono {xs ys : List Addr} {H H' : Hp} (a : Frm xs H H') (h : ∀ b, b ∈ xs → b ∈ ys) : Frm ys H H' := fun b o n e => a b o (fun m => n (h b m)) e
theorem Frm.put {xs : List Addr} {H : Hp} {a : Addr} {o : HO} (m : a ∈ xs) : Frm xs H (upd H a o) := fun b p n e => by
  rw [upd_ne (fun q => n (by rw [q]; exact m))]
  exact e
theorem Same.new {H : Hp} {a : Addr} {o : HO} (n : H a = none) : Same H (upd H a o) := fun b p e => by
  rw [upd_ne (ne_of_none e n)]
  exact e
theorem Frm.new {xs : List Addr} {H : Hp} {a : Addr} {o : HO} (n : H a = none) : Frm xs H (upd H a o) := Frm.of_same (Same.new n)
theorem Frm.same {H H' : Hp} (a : Frm [] H H') : Same H H' := fun b o e => a b o (by simp) e
/-- an address that was new and may change behind its making is no part of the frame of what was there before -/
theorem Frm.drop {x : Addr} {xs : List Addr} {H0 H1 H2 : Hp} (n : H0 x = none) (a : Frm xs H0 H1) (b : Frm (x :: xs) H1 H2) : Frm xs H0 H2 := fun c o nc e => by
  refine b c o ?_ (a c o nc e)
  intro m
  rcases List.mem_cons.mp m with q | q
  · rw [q] at e
    rw [n] at e
    cases e
  · exact nc q
theorem Frm.none {xs : List Addr} {H H' : Hp} (a : Frm xs H H') {l : Addr} (nl : ¬ l ∈ xs) (h : H' l = Option.none) : H l = Option.none := by
  cases q : H l with
  | none => rfl
  | some o =>
    have := a l o nl q
    rw [this] at h
    cases h
/-- the heap without xs -/
def hid (xs : List Addr) (H : Hp) : Hp := fun b => if b ∈ xs then none else H b
theorem hid_same (xs : List Addr) (H : Hp) : Same (hid xs H) H := fun b o e => by
  unfold hid at e
  split at e
  · cases e
  · exact e
theorem hid_frm {xs : List Addr} {H H' : Hp} (a : Frm xs H H') : Same (hid xs H) (hid xs H') := fun b o e => by
  unfold hid at e ⊢
  split at e
  · cases e
  · rename_i n
    rw [if_neg n]
    exact a b o n e
theorem hid_eq {xs : List Addr} {H : Hp} {b : Addr} (n : ¬ b ∈ xs) : hid xs H b = H b := if_neg n
theorem hid_mono {xs ys : List Addr} {H : Hp} (h : ∀ b, b ∈ xs → b ∈ ys) : Same (hid ys H) (hid xs H) := fun b o e => by
  unfold hid at e ⊢
  split at e
  · cases e
  · rename_i n
    rw [if_neg (fun m => n (h b m))]
    exact e
theorem hid_nil (H : Hp) : hid [] H = H := by
  funext b
  exact if_neg (by simp)
theorem rd_same {H H' : Hp} (s : Same H H') {a : Addr} {o : HO} (h : Rd H a o) : Rd H' a o := by
  rcases h with h | ⟨x, h⟩
  · exact .inl (s _ _ h)
  · exact .inr ⟨x, s _ _ h⟩
theorem seqT {K : PySem.W.Frag} {H H' : Hp} {a : Addr} {xs : List V} (s : Same H H') (h : SqT K H a xs) : SqT K H' a xs := h.imp (rd_same s) id
/-! data in the heap, seen from a larger heap -/
mutual
theorem dp_same {K : PySem.W.Frag} {H H' : Hp} (s : Same H H') : ∀ {v : V} {d : PyData}, Dp K H v d → Dp K H' v d
  | _, _, .non => .non
  | _, _, .bl b => .bl b
  | _, _, .int i => .int i
  | _, _, .str x => .str x
  | _, _, .lst h r => .lst (s.seq h) (dpAll_same s r)
  | _, _, .tup h r => .tup (seqT s h) (dpAll_same s r)
theorem dpAll_same {K : PySem.W.Frag} {H H' : Hp} (s : Same H H') : ∀ {v : List V} {d : List PyData}, DpAll K H v d → DpAll K H' v d
  | _, _, .nil => .nil
  | _, _, .cons a b => .cons (dp_same s a) (dpAll_same s b)
end
theorem dpAll_get {K : PySem.W.Frag} {H : Hp} : ∀ {vs : List V} {ds : List PyData}, DpAll K H vs ds → ∀ {i : Nat} {v : V}, vs[i]? = some v → ∃ d, ds[i]? = some d ∧ Dp K H v d
  | _, _, .nil, i, v, h => by simp at h
  | _, _, .cons a b, 0, v, h => by
    have e := Option.some.inj h
    subst e
    exact ⟨_, rfl, a⟩
  | _, _, .cons a b, i + 1, v, h => dpAll_get b (i := i) h
theorem dpAll_len {K : PySem.W.Frag} {H : Hp} : ∀ {vs : List V} {ds : List PyData}, DpAll K H vs ds → vs.length = ds.length
  | _, _, .nil => rfl
  | _, _, .cons _ b => congrArg (· + 1) (dpAll_len b)
theorem dpAll_snoc {K : PySem.W.Frag} {H : Hp} : ∀ {vs : List V} {ds : List PyData} {v : V} {d : PyData}, DpAll K H vs ds → Dp K H v d → DpAll K H (vs ++ [v]) (ds ++ [d])
  | _, _, _, _, .nil, h => .cons h .nil
  | _, _, _, _, .cons a b, h => .cons a (dpAll_snoc b h)
theorem dpAll_ints {K : PySem.W.Frag} {H : Hp} : ∀ (l : List Int), DpAll K H (l.map V.int) (l.map PyData.int)
  | [] => .nil
  | i :: l => .cons (.int i) (dpAll_ints l)
theorem dpAll_ints_eq {K : PySem.W.Frag} {H : Hp} : ∀ {l : List Int} {vs : List V}, DpAll K H vs (l.map PyData.int) → vs = l.map V.int
  | [], _, .nil => rfl
  | i :: l, _, .cons (.int _) b => congrArg (V.int i :: ·) (dpAll_ints_eq b)
/-- o[i] of a list, for o[i] += e -/
theorem get_list {X : Cx} : PGet X (fun o i H Q => ∃ p xs k z, o = .ref p ∧ i = .int k ∧ SqL X.K H p xs ∧ 0 ≤ k ∧ xs[k.toNat]? = some z ∧ Q z H) := by
  intro pins s σ H o i ov iv Q I ro ri h
  obtain ⟨p, xs, k, z, rfl, rfl, hq, h0, hz, q⟩ := h
  cases ro
  obtain ⟨t, rfl⟩ := ri
  obtain ⟨its, r, pl, hs⟩ := I.list hq
  obtain ⟨w, ew, rw'⟩ := r.get hz
  have hl := r.length
  have hn := line63
  have hlt : k.toNat < xs.length := (List.getElem?_eq_some_iff.mp hz).1
  exact wpAny_getItem_list pl.isList h0 (by omega) (by simpa using ew) ⟨z, H, I, rw', q⟩
def rListOf (K : PySem.W.Frag) : List V → Hp → VK → Prop := fun xs H Q => ∃ p ys, xs = [.ref p] ∧ (SqL K H p ys ∨ SqT K H p ys) ∧ ∀ l, H l = none → Q (.ref l) (upd H l (.lst ys))
def rLenSeq (K : PySem.W.Frag) : List V → Hp → VK → Prop := fun xs H Q => ∃ p ys, xs = [.ref p] ∧ (SqL K H p ys ∨ SqT K H p ys) ∧ Q (.int ys.length) H
theorem Cal.mk {P : Program} {w : World} {K : PySem.W.Frag} {mg : Str → Option Value} {base : Heap} {name : Str} {ps : List Str} {k : Nat} {sp : Sp} {g : Addr} {gd : FuncData} (G : FnOk P w K mg base CX0 k g gd ps sp) (m : mg name = some (.ref g)) (kp : PySem.W.keepIn K (.ref g) = true) (b : Binds K gd ps []) : Cal P w K mg base name ps k sp := .mk0 ⟨g, gd, G, m, kp, b⟩
abbrev scheck_number : Stmt := top 6
abbrev Ncheck_number : List Str := ["what", "value", "low", "high"]
abbrev Pcheck_number : List Str := ["what", "value", "low", "high"]
theorem sccheck_number : FnScope Ncheck_number Pcheck_number (defScope scheck_number) := ⟨rfl, rfl, rfl, by decide +kernel, rfl, by decide +kernel, by decide +kernel⟩
abbrev sranks : Stmt := top 9
abbrev Nranks : List Str := ["game", "owners", "uses", "node", "options", "option", "target", "_"]
abbrev Pranks : List Str := ["game"]
theorem scranks : FnScope Nranks Pranks (defScope sranks) := ⟨rfl, rfl, rfl, by decide +kernel, rfl, by decide +kernel, by decide +kernel⟩
abbrev sgood_options : Stmt := top 10
abbrev Ngood_options : List Str := ["game", "found", "node", "place", "option"]
abbrev Pgood_options : List Str := ["game", "found", "node"]
theorem scgood_options : FnScope Ngood_options Pgood_options (defScope sgood_options) := ⟨rfl, rfl, rfl, by decide +kernel, rfl, by decide +kernel, by decide +kernel⟩
abbrev sspoilers : Stmt := top 11
abbrev Nspoilers : List Str := ["game", "found", "node", "option"]
abbrev Pspoilers : List Str := ["game", "found", "node"]
theorem scspoilers : FnScope Nspoilers Pspoilers (defScope sspoilers) := ⟨rfl, rfl, rfl, by decide +kernel, rfl, by decide +kernel, by decide +kernel⟩
abbrev s_check_nodes : Stmt := top 12
abbrev N_check_nodes : List Str := ["game", "last", "options", "option", "target"]
abbrev P_check_nodes : List Str := ["game"]
theorem sc_check_nodes : FnScope N_check_nodes P_check_nodes (defScope s_check_nodes) := ⟨rfl, rfl, rfl, by decide +kernel, rfl, by decide +kernel, by decide +kernel⟩
abbrev s_lost_in_turn : Stmt := top 13
abbrev N_lost_in_turn : List Str := ["owners", "uses", "left", "owner", "lost", "found", "failed", "done", "node", "option", "_", "count"]
abbrev P_lost_in_turn : List Str := ["owners", "uses"]
theorem sc_lost_in_turn : FnScope N_lost_in_turn P_lost_in_turn (defScope s_lost_in_turn) := ⟨rfl, rfl, rfl, by decide +kernel, rfl, by decide +kernel, by decide +kernel⟩
abbrev s_is_good : Stmt := top 14
abbrev N_is_good : List Str := ["option", "found", "target"]
abbrev P_is_good : List Str := ["option", "found"]
theorem sc_is_good : FnScope N_is_good P_is_good (defScope s_is_good) := ⟨rfl, rfl, rfl, by decide +kernel, rfl, by decide +kernel, by decide +kernel⟩
abbrev s_spoiler : Stmt := top 15
abbrev N_spoiler : List Str := ["option", "found", "rank", "target"]
abbrev P_spoiler : List Str := ["option", "found", "rank"]
theorem sc_spoiler : FnScope N_spoiler P_spoiler (defScope s_spoiler) := ⟨rfl, rfl, rfl, by decide +kernel, rfl, by decide +kernel, by decide +kernel⟩
abbrev s_law_start : Stmt := top 17
abbrev N_law_start : List Str := ["script", "first"]
abbrev P_law_start : List Str := ["script"]
theorem sc_law_start : FnScope N_law_start P_law_start (defScope s_law_start) := ⟨rfl, rfl, rfl, by decide +kernel, rfl, by decide +kernel, by decide +kernel⟩
abbrev s_law_draw : Stmt := top 18
abbrev N_law_draw : List Str := ["script", "state", "limit", "number", "cell", "mixed"]
abbrev P_law_draw : List Str := ["script", "state", "limit"]
theorem sc_law_draw : FnScope N_law_draw P_law_draw (defScope s_law_draw) := ⟨rfl, rfl, rfl, by decide +kernel, rfl, by decide +kernel, by decide +kernel⟩
abbrev s_law_target : Stmt := top 19
abbrev N_law_target : List Str := ["script", "state", "many"]
abbrev P_law_target : List Str := ["script", "state", "many"]
theorem sc_law_target : FnScope N_law_target P_law_target (defScope s_law_target) := ⟨rfl, rfl, rfl, by decide +kernel, rfl, by decide +kernel, by decide +kernel⟩
abbrev s_law_game : Stmt := top 20
abbrev N_law_game : List Str := ["script", "state", "many", "game", "node", "options", "k", "size", "j"]
abbrev P_law_game : List Str := ["script", "state", "many"]
theorem sc_law_game : FnScope N_law_game P_law_game (defScope s_law_game) := ⟨rfl, rfl, rfl, by decide +kernel, rfl, by decide +kernel, by decide +kernel⟩
abbrev s_law_copy : Stmt := top 21
abbrev N_law_copy : List Str := ["game", "copy", "options", "option"]
abbrev P_law_copy : List Str := ["game"]
theorem sc_law_copy : FnScope N_law_copy P_law_copy (defScope s_law_copy) := ⟨rfl, rfl, rfl, by decide +kernel, rfl, by decide +kernel, by decide +kernel⟩
abbrev s_law_good : Stmt := top 22
abbrev N_law_good : List Str := ["options", "found", "places", "place", "target"]
abbrev P_law_good : List Str := ["options", "found"]
theorem sc_law_good : FnScope N_law_good P_law_good (defScope s_law_good) := ⟨rfl, rfl, rfl, by decide +kernel, rfl, by decide +kernel, by decide +kernel⟩
abbrev s_law_spoilers : Stmt := top 23
abbrev N_law_spoilers : List Str := ["options", "found", "rank", "answers", "option", "first", "target"]
abbrev P_law_spoilers : List Str := ["options", "found", "rank"]
theorem sc_law_spoilers : FnScope N_law_spoilers P_law_spoilers (defScope s_law_spoilers) := ⟨rfl, rfl, rfl, by decide +kernel, rfl, by decide +kernel, by decide +kernel⟩
abbrev s_law_asked : Stmt := top 24
abbrev N_law_asked : List Str := ["passed", "found", "node", "game", "good", "due", "answers", "x"]
abbrev P_law_asked : List Str := ["passed", "found", "node", "game"]
theorem sc_law_asked : FnScope N_law_asked P_law_asked (defScope s_law_asked) := ⟨rfl, rfl, rfl, by decide +kernel, rfl, by decide +kernel, by decide +kernel⟩
abbrev slaw : Stmt := top 25
abbrev Nlaw : List Str := ["script", "state", "many", "game", "passed", "found", "kept", "node"]
abbrev Plaw : List Str := ["script"]
theorem sclaw : FnScope Nlaw Plaw (defScope slaw) := ⟨rfl, rfl, rfl, by decide +kernel, rfl, by decide +kernel, by decide +kernel⟩
/-- what the top has written -/
structure Txt (K : PySem.W.Frag) (mg : Str → Option Value) : Prop where
  b_len : mg "len" = none
  b_abs : mg "abs" = none
  b_int : mg "int" = none
  b_bool : mg "bool" = none
  b_str : mg "str" = none
  b_list : mg "list" = none
  b_range : mg "range" = none
  b_enumerate : mg "enumerate" = none
  b_min : mg "min" = none
  b_all : mg "all" = none
  b_any : mg "any" = none
  b_isinstance : mg "isinstance" = none
  b_zip : mg "zip" = none
  c__MOST_NODES : ∃ t, mg "_MOST_NODES" = some (.int 12000 t)
end Wb
namespace Wb
def atN (R : List Int) (t : Nat) : Int := R.getD t 0
theorem atN_set_eq {R : List Int} {i : Nat} {x : Int} (h : i < R.length) : atN (R.set i x) i = x := by
  unfold atN
  rw [List.getD_eq_getElem?_getD, List.getElem?_set_self h]
  rfl
theorem atN_set_ne {R : List Int} {i j : Nat} {x : Int} (h : i ≠ j) : atN (R.set i x) j = atN R j := by
  unfold atN
  rw [List.getD_eq_getElem?_getD, List.getElem?_set_ne h, List.getD_eq_getElem?_getD]
theorem nodup_le : ∀ (n : Nat) (l : List Nat), l.Nodup → (∀ v, v ∈ l → v < n) → l.length ≤ n
  | 0, [], _, _ => Nat.le_refl _
  | 0, a :: l, _, h => absurd (h a List.mem_cons_self) (by omega)
  | n + 1, l, hn, h => by
    by_cases m : n ∈ l
    · have h1 := nodup_le n (l.erase n) (hn.erase n) (fun v hv => by
        have q := (hn.mem_erase_iff).mp hv
        have := h v q.2
        have := q.1
        omega)
      have h2 := List.length_erase_of_mem m
      have h3 : 0 < l.length := List.length_pos_of_mem m
      omega
    · have h1 := nodup_le n l hn (fun v hv => by
        have := h v hv
        have : v ≠ n := fun e => m (e ▸ hv)
        omega)
      omega
/-- options of v that have not failed -/
def cnt (mK : Nat) (ow : Nat → Nat) (ft : Nat → Int) (v : Nat) : Nat := (List.range mK).countP fun k => decide (ow k = v ∧ ft k = 0)
theorem countP_change (p q : Nat → Bool) (k : Nat) (hp : p k = true) (hq : q k = false) (h : ∀ j, j ≠ k → p j = q j) : ∀ m, k < m → (List.range m).countP p = (List.range m).countP q + 1
  | 0, hk => absurd hk (by omega)
  | m + 1, hk => by
    rw [List.range_succ, List.countP_append, List.countP_append]
    by_cases e : k = m
    · have h1 : (List.range m).countP p = (List.range m).countP q := by
        apply List.countP_congr
        intro x hx
        have : x ≠ k := by have := List.mem_range.mp hx; omega
        rw [h x this]
      rw [h1, ← e]
      simp [hp, hq]
    · have h1 := countP_change p q k hp hq h m (by omega)
      have h2 : p m = q m := h m (fun z => e z.symm)
      rw [h1]
      simp only [List.countP_cons, List.countP_nil, h2]
      omega
def upF (ft : Nat → Int) (k : Nat) (c : Int) : Nat → Int := fun j => if j = k then c else ft j
theorem cnt_up {mK : Nat} {ow : Nat → Nat} {ft : Nat → Int} {k : Nat} {c : Int} (hk : k < mK) (h0 : ft k = 0) (hc : 0 < c) : cnt mK ow ft (ow k) = cnt mK ow (upF ft k c) (ow k) + 1 := by
  refine countP_change _ _ k ?_ ?_ (fun j hj => ?_) mK hk
  · simp [h0]
  · simp only [upF, if_pos, decide_eq_false_iff_not]
    intro z
    have := z.2
    omega
  · simp only [upF, if_neg hj]
theorem cnt_ne {mK : Nat} {ow : Nat → Nat} {ft : Nat → Int} {k v : Nat} {c : Int} (h : ow k ≠ v) : cnt mK ow (upF ft k c) v = cnt mK ow ft v := by
  refine List.countP_congr fun j hj => ?_
  by_cases e : j = k
  · subst e
    simp [h]
  · simp only [upF, if_neg e]
theorem cnt_zero {mK : Nat} {ow : Nat → Nat} {ft : Nat → Int} {v : Nat} (h : cnt mK ow ft v = 0) : ∀ k, k < mK → ow k = v → ft k ≠ 0 := by
  intro k hk e z
  have := List.countP_eq_zero.mp h k (List.mem_range.mpr hk)
  simp [e, z] at this
theorem cnt_pos {mK : Nat} {ow : Nat → Nat} {ft : Nat → Int} {v : Nat} (h : cnt mK ow ft v ≠ 0) : ∃ k, k < mK ∧ ow k = v ∧ ft k = 0 := by
  have := List.countP_pos_iff.mp (Nat.pos_of_ne_zero h)
  obtain ⟨k, hk, e⟩ := this
  exact ⟨k, List.mem_range.mp hk, of_decide_eq_true e⟩
/-- the state of the search: the first d of lost are done, the node of rank cur is under way -/
structure BI (n mK : Nat) (ow : Nat → Nat) (T : Nat → List Nat) (left found : List Int) (lost : List Nat) (ft : Nat → Int) (d : Nat) (cur : Int) : Prop where
  lenL : left.length = n
  lenF : found.length = n
  nd : lost.Nodup
  lostR : ∀ v, v ∈ lost → v < n ∧ 0 < atN found v
  lostI : ∀ v, v < n → 0 < atN found v → v ∈ lost
  pos : ∀ v, v < n → 0 ≤ atN found v
  cur1 : 1 ≤ cur
  top : ∀ v, v ∈ lost → atN found v ≤ cur + 1
  todo : ∀ (i v : Nat), d ≤ i → lost[i]? = some v → cur ≤ atN found v
  sorted : ∀ (i j u v : Nat), i ≤ j → lost[i]? = some u → lost[j]? = some v → atN found u ≤ atN found v
  ft0 : ∀ k, k < mK → 0 ≤ ft k ∧ ft k ≤ cur
  ftw : ∀ k, k < mK → 0 < ft k → ∃ t, t ∈ T k ∧ atN found t = ft k
  ftm : ∀ k, k < mK → ∀ t, t ∈ T k → 0 < ft k → 0 < atN found t → ft k ≤ atN found t
  lft : ∀ v, v < n → atN left v = (cnt mK ow ft v : Nat)
  rk : ∀ v, v < n → (0 < atN found v ↔ atN left v = 0)
  val : ∀ v, v < n → 0 < atN found v → (∀ k, k < mK → ow k = v → ft k + 1 ≤ atN found v) ∧ (atN found v = 1 ∨ ∃ k, k < mK ∧ ow k = v ∧ atN found v = ft k + 1)
  cmpl : ∀ (i t : Nat), i < d → lost[i]? = some t → ∀ k, k < mK → t ∈ T k → 0 < ft k
section
variable {n mK : Nat} {ow : Nat → Nat} {T : Nat → List Nat} {left found : List Int} {lost : List Nat} {ft : Nat → Int} {d : Nat} {cur : Int}
/-- the next node -/
theorem BI.next (B : BI n mK ow T left found lost ft d cur) {v : Nat} (h : lost[d]? = some v) : BI n mK ow T left found lost ft d (atN found v) := by
  have hc := B.todo d v (Nat.le_refl _) h
  refine { B with cur1 := ?_, top := ?_, todo := ?_, ft0 := ?_ }
  · exact Int.le_trans B.cur1 hc
  · intro u hu
    have := B.top u hu
    omega
  · intro i u hi hu
    exact B.sorted d i v u hi h hu
  · intro k hk
    have := B.ft0 k hk
    omega
/-- the node is done -/
theorem BI.over (B : BI n mK ow T left found lost ft d cur) {v : Nat} (h : lost[d]? = some v) (hc : ∀ k, k < mK → v ∈ T k → 0 < ft k) : BI n mK ow T left found lost ft (d + 1) cur := by
  refine { B with todo := ?_, cmpl := ?_ }
  · intro i u hi hu
    exact B.todo i u (by omega) hu
  · intro i t hi ht k hk hm
    by_cases e : i = d
    · rw [e, h] at ht
      rw [← Option.some.inj ht] at hm
      exact hc k hk hm
    · exact B.cmpl i t (by omega) ht k hk hm
/-- an option fails, its owner has others left -/
theorem BI.fail (B : BI n mK ow T left found lost ft d cur) {v k : Nat} (hv : lost[d]? = some v) (hcur : atN found v = cur) (hk : k < mK) (hm : v ∈ T k) (h0 : ft k = 0) (how : ow k < n) (hne : atN left (ow k) - 1 ≠ 0) :
    BI n mK ow T (left.set (ow k) (atN left (ow k) - 1)) found lost (upF ft k cur) d cur := by
  have c1 := B.cur1
  have hcn := cnt_up (ow := ow) (c := cur) hk h0 (by omega)
  have hl := B.lft (ow k) how
  have hkk : upF ft k cur k = cur := if_pos rfl
  have hko : ∀ j, j ≠ k → upF ft k cur j = ft j := fun j hj => if_neg hj
  have hfo : ¬ 0 < atN found (ow k) := fun z => by
    have := (B.rk (ow k) how).mp z
    have := hl
    omega
  have late : ∀ t, t ∈ T k → 0 < atN found t → t < n → cur ≤ atN found t := fun t ht hp htn => by
    obtain ⟨i, hi, e⟩ := List.getElem_of_mem (B.lostI t htn hp)
    have e' : lost[i]? = some t := by rw [List.getElem?_eq_getElem hi, e]
    by_cases hd : i < d
    · have := B.cmpl i t hd e' k hk ht
      omega
    · exact B.todo i t (by omega) e'
  refine { B with lenL := ?_, ft0 := ?_, ftw := ?_, ftm := ?_, lft := ?_, rk := ?_, val := ?_, cmpl := ?_ }
  · rw [List.length_set]
    exact B.lenL
  · intro j hj
    by_cases e : j = k
    · rw [e, hkk]
      omega
    · rw [hko j e]
      exact B.ft0 j hj
  · intro j hj hp
    by_cases e : j = k
    · rw [e, hkk]
      exact ⟨v, hm, hcur⟩
    · rw [hko j e] at hp ⊢
      exact B.ftw j hj hp
  · intro j hj t ht hp hf
    by_cases e : j = k
    · rw [e] at ht
      rw [e, hkk]
      by_cases htn : t < n
      · exact late t ht hf htn
      · have : atN found t = 0 := by
          unfold atN
          rw [List.getD_eq_getElem?_getD, List.getElem?_eq_none (by rw [B.lenF]; omega)]
          rfl
        omega
    · rw [hko j e] at hp ⊢
      exact B.ftm j hj t ht hp hf
  · intro u hu
    by_cases e : ow k = u
    · subst e
      rw [atN_set_eq (by rw [B.lenL]; exact hu), hl]
      omega
    · rw [atN_set_ne e, cnt_ne e]
      exact B.lft u hu
  · intro u hu
    by_cases e : ow k = u
    · subst e
      rw [atN_set_eq (by rw [B.lenL]; exact hu)]
      exact ⟨fun z => absurd z hfo, fun z => absurd z hne⟩
    · rw [atN_set_ne e]
      exact B.rk u hu
  · intro u hu hp
    have e : ow k ≠ u := fun z => hfo (z ▸ hp)
    obtain ⟨p1, p2⟩ := B.val u hu hp
    refine ⟨fun j hj hju => ?_, ?_⟩
    · rw [hko j (fun z => e (z ▸ hju))]
      exact p1 j hj hju
    · rcases p2 with q | ⟨j, hj, hju, q⟩
      · exact .inl q
      · exact .inr ⟨j, hj, hju, by rw [hko j (fun z => e (z ▸ hju))]; exact q⟩
  · intro i t hi ht j hj hm'
    by_cases e : j = k
    · rw [e, hkk]
      omega
    · rw [hko j e]
      exact B.cmpl i t hi ht j hj hm'
/-- an option fails, the last of its owner -/
theorem BI.lose (B : BI n mK ow T left found lost ft d cur) {v k : Nat} (hv : lost[d]? = some v) (hcur : atN found v = cur) (hk : k < mK) (hm : v ∈ T k) (h0 : ft k = 0) (how : ow k < n) (hz : atN left (ow k) - 1 = 0) :
    BI n mK ow T (left.set (ow k) (atN left (ow k) - 1)) (found.set (ow k) (cur + 1)) (lost ++ [ow k]) (upF ft k cur) d cur := by
  have c1 := B.cur1
  have hcn := cnt_up (ow := ow) (c := cur) hk h0 (by omega)
  have hl := B.lft (ow k) how
  have hkk : upF ft k cur k = cur := if_pos rfl
  have hko : ∀ j, j ≠ k → upF ft k cur j = ft j := fun j hj => if_neg hj
  have hfo : ¬ 0 < atN found (ow k) := fun z => by
    have := (B.rk (ow k) how).mp z
    omega
  have hnl : ¬ ow k ∈ lost := fun z => hfo (B.lostR _ z).2
  have hdl : d < lost.length := (List.getElem?_eq_some_iff.mp hv).1
  have late : ∀ t, t ∈ T k → 0 < atN found t → t < n → cur ≤ atN found t := fun t ht hp htn => by
    obtain ⟨i, hi, e⟩ := List.getElem_of_mem (B.lostI t htn hp)
    have e' : lost[i]? = some t := by rw [List.getElem?_eq_getElem hi, e]
    by_cases hd : i < d
    · have := B.cmpl i t hd e' k hk ht
      omega
    · exact B.todo i t (by omega) e'
  have fs : atN (found.set (ow k) (cur + 1)) (ow k) = cur + 1 := atN_set_eq (by rw [B.lenF]; exact how)
  have fo : ∀ u, ow k ≠ u → atN (found.set (ow k) (cur + 1)) u = atN found u := fun u e => atN_set_ne e
  have out : ∀ t, ¬ t < n → atN found t = 0 := fun t ht => by
    unfold atN
    rw [List.getD_eq_getElem?_getD, List.getElem?_eq_none (by rw [B.lenF]; omega)]
    rfl
  have app : ∀ i u, (lost ++ [ow k])[i]? = some u → (lost[i]? = some u ∧ ow k ≠ u) ∨ (i = lost.length ∧ u = ow k) := fun i u h => by
    by_cases hi : i < lost.length
    · rw [List.getElem?_append_left hi] at h
      exact .inl ⟨h, fun z => hnl (z ▸ List.mem_of_getElem? h)⟩
    · rw [List.getElem?_append_right (by omega)] at h
      have hi' : i - lost.length < 1 := by
        have := (List.getElem?_eq_some_iff.mp h).1
        simpa using this
      have : i = lost.length := by omega
      subst this
      simp at h
      exact .inr ⟨rfl, h.symm⟩
  refine { lenL := ?_, lenF := ?_, nd := ?_, lostR := ?_, lostI := ?_, pos := ?_, cur1 := c1, top := ?_, todo := ?_, sorted := ?_, ft0 := ?_, ftw := ?_, ftm := ?_, lft := ?_, rk := ?_, val := ?_, cmpl := ?_ }
  · rw [List.length_set]; exact B.lenL
  · rw [List.length_set]; exact B.lenF
  · rw [List.nodup_append]
    refine ⟨B.nd, by simp, fun a ha b hb e => ?_⟩
    rw [List.mem_singleton.mp hb] at e
    exact hnl (e ▸ ha)
  · intro u hu
    rcases List.mem_append.mp hu with q | q
    · have e : ow k ≠ u := fun z => hnl (z ▸ q)
      rw [fo u e]
      exact B.lostR u q
    · rw [List.mem_singleton.mp q, fs]
      exact ⟨how, by omega⟩
  · intro u hu hp
    by_cases e : ow k = u
    · rw [← e]; simp
    · rw [fo u e] at hp
      exact List.mem_append_left _ (B.lostI u hu hp)
  · intro u hu
    by_cases e : ow k = u
    · rw [← e, fs]; omega
    · rw [fo u e]; exact B.pos u hu
  · intro u hu
    rcases List.mem_append.mp hu with q | q
    · have e : ow k ≠ u := fun z => hnl (z ▸ q)
      rw [fo u e]
      exact B.top u q
    · rw [List.mem_singleton.mp q, fs]; omega
  · intro i u hi hu
    rcases app i u hu with ⟨q, e⟩ | ⟨q, e⟩
    · rw [fo u e]; exact B.todo i u hi q
    · rw [e, fs]; omega
  · intro i j u w hij hu hw
    rcases app i u hu with ⟨q, e⟩ | ⟨q, e⟩
    · rcases app j w hw with ⟨q', e'⟩ | ⟨q', e'⟩
      · rw [fo u e, fo w e']; exact B.sorted i j u w hij q q'
      · rw [fo u e, e', fs]; exact B.top u (List.mem_of_getElem? q)
    · rcases app j w hw with ⟨q', e'⟩ | ⟨q', e'⟩
      · have := (List.getElem?_eq_some_iff.mp q').1
        omega
      · rw [e, e']; exact Int.le_refl _
  · intro j hj
    by_cases e : j = k
    · rw [e, hkk]; omega
    · rw [hko j e]; exact B.ft0 j hj
  · intro j hj hp
    by_cases e : j = k
    · rw [e, hkk]
      refine ⟨v, hm, ?_⟩
      rw [fo v (fun z => hnl (z ▸ List.mem_of_getElem? hv))]
      exact hcur
    · rw [hko j e] at hp ⊢
      obtain ⟨t, ht, q⟩ := B.ftw j hj hp
      refine ⟨t, ht, ?_⟩
      rw [fo t (fun z => hfo (by rw [z, q]; exact hp))]
      exact q
  · intro j hj t ht hp hf
    by_cases eo : ow k = t
    · rw [← eo, fs]
      by_cases e : j = k
      · rw [e, hkk]; omega
      · rw [hko j e]; have := B.ft0 j hj; omega
    · rw [fo t eo] at hf ⊢
      by_cases e : j = k
      · rw [e] at ht
        rw [e, hkk]
        by_cases htn : t < n
        · exact late t ht hf htn
        · have := out t htn; omega
      · rw [hko j e] at hp ⊢
        exact B.ftm j hj t ht hp hf
  · intro u hu
    by_cases e : ow k = u
    · subst e
      rw [atN_set_eq (by rw [B.lenL]; exact hu), hl]
      omega
    · rw [atN_set_ne e, cnt_ne e]
      exact B.lft u hu
  · intro u hu
    by_cases e : ow k = u
    · subst e
      rw [fs, atN_set_eq (by rw [B.lenL]; exact hu)]
      exact ⟨fun _ => hz, fun _ => by omega⟩
    · rw [fo u e, atN_set_ne e]
      exact B.rk u hu
  · intro u hu hp
    by_cases e : ow k = u
    · subst e
      rw [fs]
      refine ⟨fun j hj hju => ?_, .inr ⟨k, hk, rfl, by rw [hkk]⟩⟩
      by_cases e' : j = k
      · rw [e', hkk]; omega
      · rw [hko j e']; have := B.ft0 j hj; omega
    · rw [fo u e] at hp ⊢
      obtain ⟨p1, p2⟩ := B.val u hu hp
      refine ⟨fun j hj hju => ?_, ?_⟩
      · rw [hko j (fun z => e (z ▸ hju))]
        exact p1 j hj hju
      · rcases p2 with q | ⟨j, hj, hju, q⟩
        · exact .inl q
        · exact .inr ⟨j, hj, hju, by rw [hko j (fun z => e (z ▸ hju))]; exact q⟩
  · intro i t hi ht j hj hm'
    rcases app i t ht with ⟨q, e⟩ | ⟨q, e⟩
    · by_cases e : j = k
      · rw [e, hkk]; omega
      · rw [hko j e]
        exact B.cmpl i t hi q j hj hm'
    · omega
/-- what the search says at its end -/
structure Post (n mK : Nat) (ow : Nat → Nat) (T : Nat → List Nat) (found : List Int) (ft : Nat → Int) : Prop where
  len : found.length = n
  pos : ∀ v, v < n → 0 ≤ atN found v
  f0 : ∀ k, k < mK → 0 ≤ ft k
  fw : ∀ k, k < mK → 0 < ft k → ∃ t, t ∈ T k ∧ atN found t = ft k
  fm : ∀ k, k < mK → ∀ t, t ∈ T k → t < n → 0 < atN found t → 0 < ft k ∧ ft k ≤ atN found t
  zero : ∀ v, v < n → atN found v = 0 → ∃ k, k < mK ∧ ow k = v ∧ ft k = 0
  val : ∀ v, v < n → 0 < atN found v → (∀ k, k < mK → ow k = v → 0 < ft k ∧ ft k + 1 ≤ atN found v) ∧ (atN found v = 1 ∨ ∃ k, k < mK ∧ ow k = v ∧ atN found v = ft k + 1)
theorem BI.post (B : BI n mK ow T left found lost ft d cur) (h : lost.length ≤ d) : Post n mK ow T found ft where
  len := B.lenF
  pos := B.pos
  f0 := fun k hk => (B.ft0 k hk).1
  fw := B.ftw
  fm := fun k hk t ht htn hp => by
    obtain ⟨i, hi, e⟩ := List.getElem_of_mem (B.lostI t htn hp)
    have e' : lost[i]? = some t := by rw [List.getElem?_eq_getElem hi, e]
    have q := B.cmpl i t (by omega) e' k hk ht
    exact ⟨q, B.ftm k hk t ht q hp⟩
  zero := fun v hv h0 => by
    refine cnt_pos fun z => ?_
    have q : atN left v = 0 := by rw [B.lft v hv, z]; rfl
    have := (B.rk v hv).mpr q
    omega
  val := fun v hv hp => by
    have q := (B.rk v hv).mp hp
    have z : cnt mK ow ft v = 0 := by have := B.lft v hv; omega
    obtain ⟨p1, p2⟩ := B.val v hv hp
    refine ⟨fun k hk e => ⟨?_, p1 k hk e⟩, p2⟩
    have := cnt_zero z k hk e
    have := (B.ft0 k hk).1
    omega
/-- the start -/
theorem BI.start (hl : left.length = n) (hf : found.length = n) (hlost : lost = (List.range n).filter fun v => decide (atN left v = 0)) (hc : ∀ v, v < n → atN left v = (cnt mK ow (fun _ => 0) v : Nat))
    (hfv : ∀ v, v < n → atN found v = if atN left v = 0 then 1 else 0) : BI n mK ow T left found lost (fun _ => 0) 0 1 := by
  have mem : ∀ v, v ∈ lost ↔ v < n ∧ atN left v = 0 := fun v => by
    rw [hlost, List.mem_filter, List.mem_range]
    simp
  have one : ∀ v, v ∈ lost → atN found v = 1 := fun v hv => by
    obtain ⟨h1, h2⟩ := (mem v).mp hv
    rw [hfv v h1, if_pos h2]
  refine { lenL := hl, lenF := hf, nd := ?_, lostR := ?_, lostI := ?_, pos := ?_, cur1 := Int.le_refl _, top := ?_, todo := ?_, sorted := ?_, ft0 := ?_, ftw := ?_, ftm := ?_, lft := hc, rk := ?_, val := ?_, cmpl := ?_ }
  · rw [hlost]
    exact List.nodup_range.filter _
  · intro v hv
    exact ⟨((mem v).mp hv).1, by rw [one v hv]; decide⟩
  · intro v hv hp
    rw [hfv v hv] at hp
    split at hp
    · rename_i q; exact (mem v).mpr ⟨hv, q⟩
    · omega
  · intro v hv
    rw [hfv v hv]
    split <;> omega
  · intro v hv
    rw [one v hv]; decide
  · intro i v _ h
    rw [one v (List.mem_of_getElem? h)]; exact Int.le_refl _
  · intro i j u v _ h1 h2
    rw [one u (List.mem_of_getElem? h1), one v (List.mem_of_getElem? h2)]; exact Int.le_refl _
  · intro k _; exact ⟨Int.le_refl _, by decide⟩
  · intro k _ h; exact absurd h (by decide)
  · intro k _ t _ h; exact absurd h (by decide)
  · intro v hv
    rw [hfv v hv]
    split
    · rename_i q; exact ⟨fun _ => q, fun _ => by decide⟩
    · rename_i q; exact ⟨fun z => absurd z (by decide), fun z => absurd z q⟩
  · intro v hv hp
    rw [hfv v hv] at hp ⊢
    split at hp
    · rename_i q
      rw [if_pos q]
      exact ⟨fun _ _ _ => Int.le_refl _, .inl rfl⟩
    · omega
  · intro i t hi; omega
end
end Wb
namespace Wb
open PySem PySem.Spec PyProof.Rows L2
section
variable {P : Program} {w : World} {K : PySem.W.Frag} {mg : Str → Option Value} {base : Heap}

/-- a state: four ints -/
def St4 (H : Hp) (a : Addr) : Prop := ∃ i j k l : Int, H a = some (.lst [.int i, .int j, .int k, .int l])
/-- the script at a and the state at s -/
def Scr (K : PySem.W.Frag) (H : Hp) (a s : Addr) : Prop := (∃ ns : List Int, SqL K (hid [s] H) a (ns.map V.int) ∧ ns.length ≤ 63) ∧ St4 H s
theorem Frm.put' {xs : List Addr} {H H1 : Hp} {a : Addr} {o : HO} (f : Frm xs H H1) (m : a ∈ xs) : Frm xs H (upd H1 a o) := f.trans (Frm.put m)
theorem Scr.frm {K : PySem.W.Frag} {H H' : Hp} {a s : Addr} (h : Scr K H a s) (f : Frm [s] H H') (q : St4 H' s) : Scr K H' a s := by
  obtain ⟨⟨ns, h1, h2⟩, _⟩ := h
  exact ⟨⟨ns, (hid_frm f).seq h1, h2⟩, q⟩
/-- what else is made or changed is not the state -/
theorem Scr.same {K : PySem.W.Frag} {H H' : Hp} {a s : Addr} (h : Scr K H a s) (f : Same H H') : Scr K H' a s := by
  obtain ⟨i, j, k, l, e⟩ := h.2
  exact h.frm (Frm.of_same f) ⟨i, j, k, l, f _ _ e⟩
theorem Scr.ne {K : PySem.W.Frag} {H : Hp} {a s p : Addr} (h : Scr K H a s) (n : H p = none) : ¬ p = s := by
  rintro rfl
  obtain ⟨_, _, _, _, e⟩ := h.2
  rw [n] at e
  cases e
theorem Scr.made {K : PySem.W.Frag} {H : Hp} {a p : Addr} {ns : List Int} (hS : SqL K H a (ns.map V.int)) (hl : ns.length ≤ 63) (n : H p = none) {i j k l : Int} : Scr K (upd H p (.lst [.int i, .int j, .int k, .int l])) a p := by
  refine ⟨⟨ns, Same.seq (H := H) (fun b o e => ?_) hS, hl⟩, i, j, k, l, upd_same⟩
  have nb : b ≠ p := ne_of_none e n
  rw [hid_eq (by simpa using nb), upd_ne nb]
  exact e
theorem ints_at {ns : List Int} {i : Int} (h0 : 0 ≤ i) (h1 : i < ns.length) : ∃ z : Int, atI (ns.map V.int) i = some (.int z) := by
  obtain ⟨j, rfl⟩ : ∃ j : Nat, i = (j : Int) := ⟨i.toNat, by omega⟩
  have hj : j < ns.length := by omega
  exact ⟨ns[j], atI_nat (by simp [hj])⟩
theorem fmod0 {a b : Int} (h : 0 < b) : 0 ≤ a.fmod b := by
  rw [Int.fmod_eq_emod_of_nonneg _ (by omega)]
  exact Int.emod_nonneg _ (by omega)
theorem fmod1 {a b : Int} (h : 0 < b) : a.fmod b < b := by
  rw [Int.fmod_eq_emod_of_nonneg _ (by omega)]
  exact Int.emod_lt_of_pos _ h
def sp_law_start (K : PySem.W.Frag) : Sp := fun vs H Q _ => ∃ (a : Addr) (ns : List Int), vs = [.ref a] ∧ SqL K H a (ns.map V.int) ∧ ns.length ≤ 63 ∧ ∀ p H', Same H H' → H p = none → Scr K H' a p → Q (.ref p) H'
def sp_law_draw (K : PySem.W.Frag) : Sp := fun vs H Q _ => ∃ (a s : Addr) (n : Int), vs = [.ref a, .ref s, .int n] ∧ Scr K H a s ∧ 0 < n ∧ n < 1073741824 ∧ ∀ (r : Int) (H' : Hp), 0 ≤ r → r < n → Frm [s] H H' → Scr K H' a s → Q (.int r) H'

theorem ok_law_start {f : Addr} {fd : FuncData} (F : Fun K "_law_start" "_law_start" s_law_start f fd) (T : Txt K mg) : FnOk P w K mg base CX0 1 f fd P_law_start (sp_law_start K) := by
  refine F.ok sc_law_start (fun vs H Q E h => ?_) (fun cdv A outer s H vs Q E hr h => ?_)
  · obtain ⟨a, ns, rfl, hS, hlen, k⟩ := h
    rfl
  · obtain ⟨a, ns, rfl, hS, hlen, k⟩ := h
    refine ⟨_, (pss_cons (ps_set (i := 1) sc_law_start.nd rfl (by first | exact Or.inl rfl | exact Or.inr rfl) pe_int)
  (pss_cons (ps_if (pt_cmpR op_gt (pe_callB call_len_seq (by rfl) T.b_len PySem.boot_len (pa_cons (pv 0) pa_nil)) pe_int (nomark _))
  (pss_one (ps_set (i := 1) sc_law_start.nd rfl (by first | exact Or.inl rfl | exact Or.inr rfl) (pe_ix ix_list (pv 0) pe_int (fun _ _ => rfl))))
  pss_nil)
  (pss_one (ps_ret (pe_lst (pa_cons (pe_callB (id := "abs") call_abs (by rfl) T.b_abs (by decide +kernel) (pa_cons (pe_callTy (T := "int") call_int1 (by rfl) T.b_int (by decide +kernel) (pa_cons (pv 1) pa_nil)) pa_nil)) (pa_cons (pe_callTy (T := "int") call_int1 (by rfl) T.b_int (by decide +kernel) (pa_cons (pe_cmpR op_ge (pe_callB (id := "abs") call_abs (by rfl) T.b_abs (by decide +kernel) (pa_cons (pe_callTy (T := "int") call_int1 (by rfl) T.b_int (by decide +kernel) (pa_cons (pv 1) pa_nil)) pa_nil)) (pe_op op_pow pe_int pe_int) (nomark _)) pa_nil)) (pa_cons pe_int (pa_cons pe_int pa_nil))))))))), ?_⟩
    refine ⟨_, rfl, a, _, rfl, .inl hS, _, _, rfl, rfl, _, rfl, ?_⟩
    refine ite2 (fun c => ?_) (fun c => ?_)
    · have hp : (0 : Int) < ns.length := by simpa using of_decide_eq_true c
      obtain ⟨z, hz⟩ := ints_at (ns := ns) (i := 0) (by omega) hp
      refine ⟨_, rfl, a, _, _, _, rfl, rfl, hS, hz, ?_⟩
      refine ⟨_, rfl, .inl ⟨_, rfl, _, rfl, _, rfl, .inl ⟨_, rfl, _, rfl, _, _, rfl, rfl, ⟨by decide, by decide, by decide⟩, _, _, rfl, rfl, .inr ⟨_, rfl, (by show 4 ≤ sizeLine; decide), fun l hl => k _ _ (Same.new hl) hl (Scr.made hS hlen hl)⟩⟩⟩⟩
    · refine ⟨_, rfl, .inl ⟨_, rfl, _, rfl, _, rfl, .inl ⟨_, rfl, _, rfl, _, _, rfl, rfl, ⟨by decide, by decide, by decide⟩, _, _, rfl, rfl, .inr ⟨_, rfl, (by show 4 ≤ sizeLine; decide), fun l hl => k _ _ (Same.new hl) hl (Scr.made hS hlen hl)⟩⟩⟩⟩

theorem ok_law_draw {f : Addr} {fd : FuncData} (F : Fun K "_law_draw" "_law_draw" s_law_draw f fd) (T : Txt K mg) : FnOk P w K mg base CX0 1 f fd P_law_draw (sp_law_draw K) := by
  refine F.ok sc_law_draw (fun vs H Q E h => ?_) (fun cdv A outer s H vs Q E hr h => ?_)
  · obtain ⟨a, s0, n, rfl, hScr, n0, n1, k⟩ := h
    rfl
  · obtain ⟨a, s0, n, rfl, hScr, n0, n1, k⟩ := h
    refine ⟨_, (pss_cons (ps_asg (pe_op op_add (pe_ix ix_list (pv 1) pe_int (fun _ _ => rfl)) pe_int) (pg_sub (pv 1) pe_int set_list))
  (pss_cons (ps_if (PW.pt (pw_and (pt_cmpR op_eq (pe_ix ix_list (pv 1) pe_int (fun _ _ => rfl)) pe_int (nomark _)) (pw_and1 (pt_cmpR op_gt (pe_ix ix_list (pv 1) pe_int (fun _ _ => rfl)) pe_int (nomark _)))))
  (pss_cons (ps_set (i := 3) sc_law_draw.nd rfl (by first | exact Or.inl rfl | exact Or.inr rfl) (pe_op op_modN (pe_callTy (T := "int") call_int1 (by rfl) T.b_int (by decide +kernel) (pa_cons (pe_ix ix_list (pv 1) pe_int (fun _ _ => rfl)) pa_nil)) (pv 2)))
  (pss_cons (ps_asg (pe_op op_fdivN (pe_ix ix_list (pv 1) pe_int (fun _ _ => rfl)) (pv 2)) (pg_sub (pv 1) pe_int set_list))
  (pss_one (ps_ret (pv 3)))))
  pss_nil)
  (pss_cons (ps_asg pe_int (pg_sub (pv 1) pe_int set_list))
  (pss_cons (ps_set (i := 4) sc_law_draw.nd rfl (by first | exact Or.inl rfl | exact Or.inr rfl) pe_int)
  (pss_cons (ps_if (pt_cmpR op_gt (pe_callB call_len_seq (by rfl) T.b_len PySem.boot_len (pa_cons (pv 0) pa_nil)) pe_int (nomark _))
  (pss_one (ps_set (i := 4) sc_law_draw.nd rfl (by first | exact Or.inl rfl | exact Or.inr rfl) (pe_ix ix_list (pv 0) (pe_op op_modN (pe_callTy (T := "int") call_int1 (by rfl) T.b_int (by decide +kernel) (pa_cons (pe_ix ix_list (pv 1) pe_int (fun _ _ => rfl)) pa_nil)) (pe_callB call_len_seq (by rfl) T.b_len PySem.boot_len (pa_cons (pv 0) pa_nil))) (fun _ _ => rfl))))
  pss_nil)
  (pss_cons (ps_asg (pe_op op_add (pe_ix ix_list (pv 1) pe_int (fun _ _ => rfl)) pe_int) (pg_sub (pv 1) pe_int set_list))
  (pss_cons (ps_set (i := 5) sc_law_draw.nd rfl (by first | exact Or.inl rfl | exact Or.inr rfl) (pe_op op_mul (pe_op op_modN (pe_callTy (T := "int") call_int1 (by rfl) T.b_int (by decide +kernel) (pa_cons (pe_ix ix_list (pv 1) pe_int (fun _ _ => rfl)) pa_nil)) pe_int) pe_int))
  (pss_cons (ps_set (i := 5) sc_law_draw.nd rfl (by first | exact Or.inl rfl | exact Or.inr rfl) (pe_op op_add (pe_op op_add (pe_op op_add (pv 5) (pe_op op_modN (pe_callTy (T := "int") call_int1 (by rfl) T.b_int (by decide +kernel) (pa_cons (pv 4) pa_nil)) pe_int)) (pe_op op_mul pe_int (pe_ix ix_list (pv 1) pe_int (fun _ _ => rfl)))) pe_int))
  (pss_cons (ps_asg (pe_op op_modN (pe_callTy (T := "int") call_int1 (by rfl) T.b_int (by decide +kernel) (pa_cons (pv 5) pa_nil)) pe_int) (pg_sub (pv 1) pe_int set_list))
  (pss_cons (ps_set (i := 5) sc_law_draw.nd rfl (by first | exact Or.inl rfl | exact Or.inr rfl) (pe_op op_modN (pe_callTy (T := "int") call_int1 (by rfl) T.b_int (by decide +kernel) (pa_cons (pe_op op_add (pe_op op_mul (pe_ix ix_list (pv 1) pe_int (fun _ _ => rfl)) pe_int) (pe_ix ix_list (pv 1) pe_int (fun _ _ => rfl))) pa_nil)) pe_int))
  (pss_one (ps_ret (pe_op op_modN (pe_callTy (T := "int") call_int1 (by rfl) T.b_int (by decide +kernel) (pa_cons (pe_op op_fdivN (pv 5) pe_int) pa_nil)) (pv 2)))))))))))))), ?_⟩
    obtain ⟨⟨ns, hS, hl⟩, i0, i1, i2, i3, h4⟩ := id hScr
    have hA : ∀ H', Frm [s0] H H' → SqL K H' a (ns.map V.int) := fun H' fr => ((hid_frm fr).trans (hid_same _ _)).seq hS
    -- state[3] = state[3] + 1
    refine ⟨_, rfl, s0, _, _, _, rfl, rfl, SqL.of h4, rfl, _, _, rfl, rfl, _, rfl, s0, _, _, _, rfl, rfl, h4, rfl, ?_⟩
    refine ⟨_, rfl, s0, _, _, _, rfl, rfl, SqL.of upd_same, rfl, rfl, _, rfl, ?_⟩
    refine ite2 (fun c1 => ?_) (fun c1 => ?_)
    · refine ⟨_, rfl, s0, _, _, _, rfl, rfl, SqL.of upd_same, rfl, _, _, rfl, rfl, _, rfl, ?_⟩
      refine ite2 (fun c2 => ?_) (fun c2 => ?_)
      · refine ⟨_, rfl, s0, _, _, _, rfl, rfl, SqL.of upd_same, rfl, .inl ⟨_, rfl, _, rfl, _, _, rfl, rfl, (by show (_ : Int) ≠ 0; omega), ?_⟩⟩
        refine ⟨_, rfl, s0, _, _, _, rfl, rfl, SqL.of upd_same, rfl, _, rfl, _, _, rfl, rfl, ⟨by omega, by omega⟩, _, rfl, s0, _, _, _, rfl, rfl, upd_same, rfl, ?_⟩
        exact ⟨_, rfl, k _ _ (fmod0 n0) (fmod1 n0) (by repeat (first | exact Frm.refl _ _ | refine Frm.put' ?_ (by simp))) (hScr.frm (by repeat (first | exact Frm.refl _ _ | refine Frm.put' ?_ (by simp))) ⟨_, _, _, _, upd_same⟩)⟩
      · refine ⟨_, rfl, s0, _, _, _, rfl, rfl, upd_same, rfl, ?_⟩
        refine ⟨_, rfl, a, _, rfl, .inl (hA _ (by repeat (first | exact Frm.refl _ _ | refine Frm.put' ?_ (by simp)))), _, _, rfl, rfl, _, rfl, ?_⟩
        refine ite2 (fun c => ?_) (fun c => ?_)
        · have hp : (0 : Int) < ns.length := by simpa using of_decide_eq_true c
          obtain ⟨z, hz⟩ := ints_at (ns := ns) (i := i2.fmod ((ns.map V.int).length : Nat)) (fmod0 (by simpa using hp)) (by simpa using fmod1 (a := i2) hp)
          refine ⟨_, rfl, _, rfl, s0, _, _, _, rfl, rfl, SqL.of upd_same, rfl, .inl ⟨_, rfl, _, rfl, a, _, rfl, .inl (hA _ (by repeat (first | exact Frm.refl _ _ | refine Frm.put' ?_ (by simp)))), _, _, rfl, rfl, (by show (((ns.map V.int).length : Nat) : Int) ≠ 0; rw [List.length_map]; omega), a, _, _, _, rfl, rfl, hA _ (by repeat (first | exact Frm.refl _ _ | refine Frm.put' ?_ (by simp))), hz, ?_⟩⟩
          -- state[2] = state[2] + 1; mixed = ..
          refine ⟨_, rfl, s0, _, _, _, rfl, rfl, SqL.of upd_same, rfl, _, _, rfl, rfl, _, rfl, s0, _, _, _, rfl, rfl, upd_same, rfl, ?_⟩
          refine ⟨_, rfl, s0, _, _, _, rfl, rfl, SqL.of upd_same, rfl, .inl ⟨_, rfl, _, _, rfl, rfl, (by show (_ : Int) ≠ 0; decide), _, _, rfl, rfl, .inr ⟨by decide, by decide⟩, ?_⟩⟩
          refine ⟨_, rfl, _, rfl, .inl ⟨_, rfl, _, _, rfl, rfl, (by show (_ : Int) ≠ 0; decide), _, _, rfl, rfl, _, rfl, s0, _, _, _, rfl, rfl, SqL.of upd_same, rfl, _, _, rfl, rfl, .inl ⟨by decide, by decide⟩, _, _, rfl, rfl, _, _, rfl, rfl, ?_⟩⟩
          refine ⟨_, rfl, .inl ⟨_, rfl, _, _, rfl, rfl, (by show (_ : Int) ≠ 0; decide), _, rfl, s0, _, _, _, rfl, rfl, upd_same, rfl, ?_⟩⟩
          refine ⟨_, rfl, s0, _, _, _, rfl, rfl, SqL.of upd_same, rfl, _, _, rfl, rfl, .inr ⟨by decide, by decide⟩, _, rfl, s0, _, _, _, rfl, rfl, SqL.of upd_same, rfl, _, _, rfl, rfl, .inl ⟨_, rfl, _, _, rfl, rfl, (by show (_ : Int) ≠ 0; decide), ?_⟩⟩
          refine ⟨_, rfl, _, _, rfl, rfl, ⟨by decide, by decide⟩, .inl ⟨_, rfl, _, rfl, _, _, rfl, rfl, (by show (_ : Int) ≠ 0; omega), ?_⟩⟩
          exact k _ _ (fmod0 n0) (fmod1 n0) (by repeat (first | exact Frm.refl _ _ | refine Frm.put' ?_ (by simp))) (hScr.frm (by repeat (first | exact Frm.refl _ _ | refine Frm.put' ?_ (by simp))) ⟨_, _, _, _, upd_same⟩)
        · -- state[2] = state[2] + 1; mixed = ..
          refine ⟨_, rfl, s0, _, _, _, rfl, rfl, SqL.of upd_same, rfl, _, _, rfl, rfl, _, rfl, s0, _, _, _, rfl, rfl, upd_same, rfl, ?_⟩
          refine ⟨_, rfl, s0, _, _, _, rfl, rfl, SqL.of upd_same, rfl, .inl ⟨_, rfl, _, _, rfl, rfl, (by show (_ : Int) ≠ 0; decide), _, _, rfl, rfl, .inr ⟨by decide, by decide⟩, ?_⟩⟩
          refine ⟨_, rfl, _, rfl, .inl ⟨_, rfl, _, _, rfl, rfl, (by show (_ : Int) ≠ 0; decide), _, _, rfl, rfl, _, rfl, s0, _, _, _, rfl, rfl, SqL.of upd_same, rfl, _, _, rfl, rfl, .inl ⟨by decide, by decide⟩, _, _, rfl, rfl, _, _, rfl, rfl, ?_⟩⟩
          refine ⟨_, rfl, .inl ⟨_, rfl, _, _, rfl, rfl, (by show (_ : Int) ≠ 0; decide), _, rfl, s0, _, _, _, rfl, rfl, upd_same, rfl, ?_⟩⟩
          refine ⟨_, rfl, s0, _, _, _, rfl, rfl, SqL.of upd_same, rfl, _, _, rfl, rfl, .inr ⟨by decide, by decide⟩, _, rfl, s0, _, _, _, rfl, rfl, SqL.of upd_same, rfl, _, _, rfl, rfl, .inl ⟨_, rfl, _, _, rfl, rfl, (by show (_ : Int) ≠ 0; decide), ?_⟩⟩
          refine ⟨_, rfl, _, _, rfl, rfl, ⟨by decide, by decide⟩, .inl ⟨_, rfl, _, rfl, _, _, rfl, rfl, (by show (_ : Int) ≠ 0; omega), ?_⟩⟩
          exact k _ _ (fmod0 n0) (fmod1 n0) (by repeat (first | exact Frm.refl _ _ | refine Frm.put' ?_ (by simp))) (hScr.frm (by repeat (first | exact Frm.refl _ _ | refine Frm.put' ?_ (by simp))) ⟨_, _, _, _, upd_same⟩)
    · refine ⟨_, rfl, s0, _, _, _, rfl, rfl, upd_same, rfl, ?_⟩
      refine ⟨_, rfl, a, _, rfl, .inl (hA _ (by repeat (first | exact Frm.refl _ _ | refine Frm.put' ?_ (by simp)))), _, _, rfl, rfl, _, rfl, ?_⟩
      refine ite2 (fun c => ?_) (fun c => ?_)
      · have hp : (0 : Int) < ns.length := by simpa using of_decide_eq_true c
        obtain ⟨z, hz⟩ := ints_at (ns := ns) (i := i2.fmod ((ns.map V.int).length : Nat)) (fmod0 (by simpa using hp)) (by simpa using fmod1 (a := i2) hp)
        refine ⟨_, rfl, _, rfl, s0, _, _, _, rfl, rfl, SqL.of upd_same, rfl, .inl ⟨_, rfl, _, rfl, a, _, rfl, .inl (hA _ (by repeat (first | exact Frm.refl _ _ | refine Frm.put' ?_ (by simp)))), _, _, rfl, rfl, (by show (((ns.map V.int).length : Nat) : Int) ≠ 0; rw [List.length_map]; omega), a, _, _, _, rfl, rfl, hA _ (by repeat (first | exact Frm.refl _ _ | refine Frm.put' ?_ (by simp))), hz, ?_⟩⟩
        -- state[2] = state[2] + 1; mixed = ..
        refine ⟨_, rfl, s0, _, _, _, rfl, rfl, SqL.of upd_same, rfl, _, _, rfl, rfl, _, rfl, s0, _, _, _, rfl, rfl, upd_same, rfl, ?_⟩
        refine ⟨_, rfl, s0, _, _, _, rfl, rfl, SqL.of upd_same, rfl, .inl ⟨_, rfl, _, _, rfl, rfl, (by show (_ : Int) ≠ 0; decide), _, _, rfl, rfl, .inr ⟨by decide, by decide⟩, ?_⟩⟩
        refine ⟨_, rfl, _, rfl, .inl ⟨_, rfl, _, _, rfl, rfl, (by show (_ : Int) ≠ 0; decide), _, _, rfl, rfl, _, rfl, s0, _, _, _, rfl, rfl, SqL.of upd_same, rfl, _, _, rfl, rfl, .inl ⟨by decide, by decide⟩, _, _, rfl, rfl, _, _, rfl, rfl, ?_⟩⟩
        refine ⟨_, rfl, .inl ⟨_, rfl, _, _, rfl, rfl, (by show (_ : Int) ≠ 0; decide), _, rfl, s0, _, _, _, rfl, rfl, upd_same, rfl, ?_⟩⟩
        refine ⟨_, rfl, s0, _, _, _, rfl, rfl, SqL.of upd_same, rfl, _, _, rfl, rfl, .inr ⟨by decide, by decide⟩, _, rfl, s0, _, _, _, rfl, rfl, SqL.of upd_same, rfl, _, _, rfl, rfl, .inl ⟨_, rfl, _, _, rfl, rfl, (by show (_ : Int) ≠ 0; decide), ?_⟩⟩
        refine ⟨_, rfl, _, _, rfl, rfl, ⟨by decide, by decide⟩, .inl ⟨_, rfl, _, rfl, _, _, rfl, rfl, (by show (_ : Int) ≠ 0; omega), ?_⟩⟩
        exact k _ _ (fmod0 n0) (fmod1 n0) (by repeat (first | exact Frm.refl _ _ | refine Frm.put' ?_ (by simp))) (hScr.frm (by repeat (first | exact Frm.refl _ _ | refine Frm.put' ?_ (by simp))) ⟨_, _, _, _, upd_same⟩)
      · -- state[2] = state[2] + 1; mixed = ..
        refine ⟨_, rfl, s0, _, _, _, rfl, rfl, SqL.of upd_same, rfl, _, _, rfl, rfl, _, rfl, s0, _, _, _, rfl, rfl, upd_same, rfl, ?_⟩
        refine ⟨_, rfl, s0, _, _, _, rfl, rfl, SqL.of upd_same, rfl, .inl ⟨_, rfl, _, _, rfl, rfl, (by show (_ : Int) ≠ 0; decide), _, _, rfl, rfl, .inr ⟨by decide, by decide⟩, ?_⟩⟩
        refine ⟨_, rfl, _, rfl, .inl ⟨_, rfl, _, _, rfl, rfl, (by show (_ : Int) ≠ 0; decide), _, _, rfl, rfl, _, rfl, s0, _, _, _, rfl, rfl, SqL.of upd_same, rfl, _, _, rfl, rfl, .inl ⟨by decide, by decide⟩, _, _, rfl, rfl, _, _, rfl, rfl, ?_⟩⟩
        refine ⟨_, rfl, .inl ⟨_, rfl, _, _, rfl, rfl, (by show (_ : Int) ≠ 0; decide), _, rfl, s0, _, _, _, rfl, rfl, upd_same, rfl, ?_⟩⟩
        refine ⟨_, rfl, s0, _, _, _, rfl, rfl, SqL.of upd_same, rfl, _, _, rfl, rfl, .inr ⟨by decide, by decide⟩, _, rfl, s0, _, _, _, rfl, rfl, SqL.of upd_same, rfl, _, _, rfl, rfl, .inl ⟨_, rfl, _, _, rfl, rfl, (by show (_ : Int) ≠ 0; decide), ?_⟩⟩
        refine ⟨_, rfl, _, _, rfl, rfl, ⟨by decide, by decide⟩, .inl ⟨_, rfl, _, rfl, _, _, rfl, rfl, (by show (_ : Int) ≠ 0; omega), ?_⟩⟩
        exact k _ _ (fmod0 n0) (fmod1 n0) (by repeat (first | exact Frm.refl _ _ | refine Frm.put' ?_ (by simp))) (hScr.frm (by repeat (first | exact Frm.refl _ _ | refine Frm.put' ?_ (by simp))) ⟨_, _, _, _, upd_same⟩)
end
section
variable {P : Program} {w : World} {K : PySem.W.Frag} {mg : Str → Option Value} {base : Heap}

def optD : Option (List Int) → PyData
  | none => .none
  | some l => .list (l.map .int)
abbrev Node := List (Option (List Int))
def nodeD (n : Node) : PyData := .list (n.map optD)
def gameD (g : List Node) : PyData := .list (g.map nodeD)
def OptOk (many : Int) (o : Option (List Int)) : Prop := ∀ l, o = some l → l.length ≤ 3 ∧ ∀ t, t ∈ l → 0 ≤ t ∧ t < many
def NodeOk (many : Int) (n : Node) : Prop := n.length ≤ 20 ∧ ∀ o, o ∈ n → OptOk many o
def GOk (many : Int) (g : List Node) : Prop := ∀ n, n ∈ g → NodeOk many n
theorem hid_to {xs ys : List Addr} {H H' : Hp} (f : Frm xs H H') (h : ∀ b, b ∈ ys → b ∈ xs) : Same (hid xs H) (hid ys H') := (hid_frm f).trans (hid_mono h)
theorem Scr.put {K : PySem.W.Frag} {H1 H4 : Hp} {a s o : Addr} {x : HO} (h : Scr K H1 a s) (n : H1 o = none) (f : Frm [o, s] H1 (upd H4 o x)) (q : Scr K H4 a s) : Scr K (upd H4 o x) a s := by
  obtain ⟨i, j, k, l, e⟩ := q.2
  refine h.frm (Frm.drop n (Frm.refl _ _) f) ⟨i, j, k, l, ?_⟩
  rw [upd_ne (fun z => h.ne n z.symm)]
  exact e
theorem pick4 (z r : Int) (r0 : 0 ≤ r) (r1 : r < 4) (z0 : 0 ≤ z) (z1 : z < 4) : ∃ y : Int, atI [V.int 1, V.int 1, V.int 2, V.int z] r = some (.int y) ∧ 0 ≤ y ∧ y ≤ 3 := by
  have : r = 0 ∨ r = 1 ∨ r = 2 ∨ r = 3 := by omega
  rcases this with rfl | rfl | rfl | rfl
  · exact ⟨1, rfl, by decide, by decide⟩
  · exact ⟨1, rfl, by decide, by decide⟩
  · exact ⟨2, rfl, by decide, by decide⟩
  · exact ⟨z, rfl, z0, by omega⟩
def sp_law_target (K : PySem.W.Frag) : Sp := fun vs H Q _ => ∃ (a s : Addr) (n : Int), vs = [.ref a, .ref s, .int n] ∧ Scr K H a s ∧ 0 < n ∧ n < 1073741824 ∧ ∀ (r : Int) (H' : Hp), 0 ≤ r → r < n → Frm [s] H H' → Scr K H' a s → Q (.int r) H'
def spcheck_number : Sp := fun vs H Q _ => ∃ (x : V) (v lo hi : Int), vs = [x, .int v, .int lo, .int hi] ∧ lo ≤ v ∧ v ≤ hi ∧ Q (.int v) H
def sp_law_game (K : PySem.W.Frag) : Sp := fun vs H Q _ => ∃ (a s : Addr) (m : Int), vs = [.ref a, .ref s, .int m] ∧ Scr K H a s ∧ 0 ≤ m ∧ m ≤ 59 ∧
  ∀ (g : Addr) (G : List Node) (H' : Hp), Frm [s] H H' → Scr K H' a s → H g = none → (G.length : Int) = m → GOk m G → Dp K (hid [s] H') (.ref g) (gameD G) → Q (.ref g) H'
def sp_law_copy (K : PySem.W.Frag) : Sp := fun vs H Q _ => ∃ (g : Addr) (m : Int) (G : List Node), vs = [.ref g] ∧ Dp K H (.ref g) (gameD G) ∧ G.length ≤ 60 ∧ GOk m G ∧
  ∀ (c : Addr) (H' : Hp), Same H H' → H c = none → Dp K H' (.ref c) (gameD G) → Q (.ref c) H'

theorem ok_law_target {f : Addr} {fd : FuncData} (F : Fun K "_law_target" "_law_target" s_law_target f fd) (T : Txt K mg) (C_law_draw : Cal P w K mg base "_law_draw" P_law_draw 1 (sp_law_draw K)) : FnOk P w K mg base CX0 2 f fd P_law_target (sp_law_target K) := by
  obtain ⟨g_law_draw, gd_law_draw, G_law_draw, m_law_draw, k_law_draw, b_law_draw⟩ := C_law_draw.ex
  refine F.ok sc_law_target (fun vs H Q E h => ?_) (fun cdv A outer s H vs Q E hr h => ?_)
  · obtain ⟨a, s0, n, rfl, hScr, n0, n1, k⟩ := h
    rfl
  · obtain ⟨a, s0, n, rfl, hScr, n0, n1, k⟩ := h
    refine ⟨_, (pss_cons (ps_if (pt_cmpR op_eq (pe_call G_law_draw (hr.mono (by decide)) (by rfl) m_law_draw k_law_draw b_law_draw .nil pass0 (pa_cons (pv 0) (pa_cons (pv 1) (pa_cons pe_int pa_nil)))) pe_int (nomark _))
  (pss_one (ps_ret (pe_call G_law_draw (hr.mono (by decide)) (by rfl) m_law_draw k_law_draw b_law_draw .nil pass0 (pa_cons (pv 0) (pa_cons (pv 1) (pa_cons (pv 2) pa_nil))))))
  pss_nil)
  (pss_one (ps_ret (pe_callTy (T := "int") call_int1 (by rfl) T.b_int (by decide +kernel) (pa_cons (pe_op op_sub (pe_op op_sub (pv 2) pe_int) (pe_call G_law_draw (hr.mono (by decide)) (by rfl) m_law_draw k_law_draw b_law_draw .nil pass0 (pa_cons (pv 0) (pa_cons (pv 1) (pa_cons (pe_callB (id := "min") (call_min2 rfl) (by rfl) T.b_min (by decide +kernel) (pa_cons (pv 2) (pa_cons pe_int pa_nil))) pa_nil))))) pa_nil))))), ?_⟩
    refine ⟨_, rfl, _, rfl, a, s0, 3, rfl, hScr, by decide, by decide, fun r H1 r0 r1 f1 sc1 => ⟨rfl, _, rfl, ite2 (fun c => ?_) (fun c => ?_)⟩⟩
    · exact ⟨_, rfl, _, rfl, _, rfl, a, s0, n, rfl, sc1, n0, n1, fun r' H2 p0 p1 f2 sc2 => k _ _ p0 p1 (f1.trans f2) sc2⟩
    · have h4 : (if (4 : Int) < n then (4 : Int) else n) ≤ n ∧ 0 < (if (4 : Int) < n then (4 : Int) else n) := by split <;> omega
      refine ⟨_, rfl, _, _, rfl, rfl, _, rfl, _, rfl, _, rfl, _, _, rfl, a, s0, _, rfl, sc1, h4.2, by omega, fun r' H2 p0 p1 f2 sc2 => ?_⟩
      exact ⟨_, _, rfl, rfl, .inl ⟨_, rfl, k _ _ (by omega) (by omega) (f1.trans f2) sc2⟩⟩

theorem okcheck_number {f : Addr} {fd : FuncData} (F : Fun K "check_number" "check_number" scheck_number f fd) (T : Txt K mg) : FnOk P w K mg base CX0 1 f fd Pcheck_number spcheck_number := by
  refine F.ok sccheck_number (fun vs H Q E h => ?_) (fun cdv A outer s H vs Q E hr h => ?_)
  · obtain ⟨x, v, lo, hi, rfl, h1, h2, k⟩ := h
    rfl
  · obtain ⟨x, v, lo, hi, rfl, h1, h2, k⟩ := h
    refine ⟨_, (pss_cons (ps_if (PW.pt (pw_or (pt_val (pe_callB (id := "isinstance") call_isi (by rfl) T.b_isinstance (by decide +kernel) (pa_cons (pv 1) (pa_cons (pe_bltn (v := .ty "bool") (by rfl) T.b_bool (by decide +kernel) rfl) pa_nil)))) (pw_or1 (pt_not (pt_val (pe_callB (id := "isinstance") call_isi (by rfl) T.b_isinstance (by decide +kernel) (pa_cons (pv 1) (pa_cons (pe_bltn (v := .ty "int") (by rfl) T.b_int (by decide +kernel) rfl) pa_nil))))))))
  (pss_one ps_never)
  pss_nil)
  (pss_cons (ps_if (PW.pt (pw_or (pt_cmpR op_lt (pv 1) (pv 2) (nomark _)) (pw_or1 (pt_cmpR op_gt (pv 1) (pv 3) (nomark _)))))
  (pss_one ps_never)
  pss_nil)
  (pss_one (ps_ret (pv 1))))), ?_⟩
    refine ⟨_, rfl, _, _, _, _, false, rfl, .ty _, .base (.int _), kit_ty (by decide +kernel), false, rfl, iteF ?_⟩
    refine ⟨_, rfl, _, _, _, _, true, rfl, .ty _, .base (.int _), kit_ty (by decide +kernel), true, rfl, iteF ?_⟩
    refine ⟨_, rfl, _, rfl, _, _, rfl, rfl, _, rfl, ?_⟩
    refine ite2 (fun c => absurd (of_decide_eq_true c) (by omega)) (fun _ => ?_)
    refine ⟨_, rfl, _, rfl, _, _, rfl, rfl, _, rfl, ?_⟩
    refine ite2 (fun c => absurd (of_decide_eq_true c) (by omega)) (fun _ => ?_)
    exact ⟨_, rfl, k⟩

theorem ok_law_game {f : Addr} {fd : FuncData} (F : Fun K "_law_game" "_law_game" s_law_game f fd) (T : Txt K mg) (C_law_draw : Cal P w K mg base "_law_draw" P_law_draw 1 (sp_law_draw K)) (C_law_target : Cal P w K mg base "_law_target" P_law_target 2 (sp_law_target K)) : FnOk P w K mg base CX0 3 f fd P_law_game (sp_law_game K) := by
  obtain ⟨g_law_draw, gd_law_draw, G_law_draw, m_law_draw, k_law_draw, b_law_draw⟩ := C_law_draw.ex
  obtain ⟨g_law_target, gd_law_target, G_law_target, m_law_target, k_law_target, b_law_target⟩ := C_law_target.ex
  refine F.ok sc_law_game (fun vs H Q E h => ?_) (fun cdv A outer s H vs Q E hr h => ?_)
  · obtain ⟨a, s0, m, rfl, hScr, m0, m1, k⟩ := h
    rfl
  · obtain ⟨a, s0, m, rfl, hScr, m0, m1, k⟩ := h
    refine ⟨_, (pss_cons (ps_set (i := 3) sc_law_game.nd rfl (by first | exact Or.inl rfl | exact Or.inr rfl) (pe_lst pa_nil))
  (pss_cons (ps_for PassesOwn.never rfl (pi_range1 rfl T.b_range (pa_cons (pv 2) pa_nil)) (pg_name (i := 4) sc_law_game.nd rfl (by first | exact Or.inl rfl | exact Or.inr rfl))
  (pss_cons (ps_set (i := 5) sc_law_game.nd rfl (by first | exact Or.inl rfl | exact Or.inr rfl) (pe_lst pa_nil))
  (pss_cons (ps_for PassesOwn.never rfl (pi_range1 rfl T.b_range (pa_cons (pe_call G_law_draw (hr.mono (by decide)) (by rfl) m_law_draw k_law_draw b_law_draw .nil pass0 (pa_cons (pv 0) (pa_cons (pv 1) (pa_cons pe_int pa_nil)))) pa_nil)) (pg_name (i := 6) sc_law_game.nd rfl (by first | exact Or.inl rfl | exact Or.inr rfl))
  (pss_one (ps_if (pt_cmpR op_eq (pe_call G_law_draw (hr.mono (by decide)) (by rfl) m_law_draw k_law_draw b_law_draw .nil pass0 (pa_cons (pv 0) (pa_cons (pv 1) (pa_cons pe_int pa_nil)))) pe_int (nomark _))
  (pss_one (ps_expr (pe_bm PySem.F.plainAttrs_list PySem.F.slot_list_append PySem.F.type_list_append mt_append (pv 5) (pa_cons pe_non pa_nil))))
  (pss_cons (ps_set (i := 7) sc_law_game.nd rfl (by first | exact Or.inl rfl | exact Or.inr rfl) (pe_ix ix_list (pe_lst (pa_cons pe_int (pa_cons pe_int (pa_cons pe_int (pa_cons (pe_call G_law_draw (hr.mono (by decide)) (by rfl) m_law_draw k_law_draw b_law_draw .nil pass0 (pa_cons (pv 0) (pa_cons (pv 1) (pa_cons pe_int pa_nil)))) pa_nil))))) (pe_call G_law_draw (hr.mono (by decide)) (by rfl) m_law_draw k_law_draw b_law_draw .nil pass0 (pa_cons (pv 0) (pa_cons (pv 1) (pa_cons pe_int pa_nil)))) (fun _ _ => rfl)))
  (pss_one (ps_expr (pe_bm PySem.F.plainAttrs_list PySem.F.slot_list_append PySem.F.type_list_append mt_append (pv 5) (pa_cons (pe_lc (own := [("j", 8)]) rfl sc_law_game.nd (pi_range1 rfl T.b_range (pa_cons (pv 7) pa_nil)) (blkOk_by (own := [("j", 8)]) (N := N_law_game) (sc := defScope s_law_game) (by decide +kernel)) (fun _ _ _ _ _ => (pg_name (i := 8) sc_law_game.nd rfl (by first | exact Or.inl rfl | exact Or.inr rfl))) (fun _ _ _ _ _ => pts_nil) (fun _ _ _ _ _ => (pe_call G_law_target (hr.mono (by decide)) (by rfl) m_law_target k_law_target b_law_target .nil pass0 (pa_cons (pv 0) (pa_cons (pv 1) (pa_cons (pv 2) pa_nil)))))) pa_nil))))))))
  (pss_one (ps_expr (pe_bm PySem.F.plainAttrs_list PySem.F.slot_list_append PySem.F.type_list_append mt_append (pv 3) (pa_cons (pv 5) pa_nil)))))))
  (pss_one (ps_ret (pv 3))))), ?_⟩
    refine ⟨Nat.zero_le _, fun g hg => ?_⟩
    have ngs : ¬ g = s0 := hScr.ne hg
    refine ⟨_, rfl, _, rfl, (by omega), (by omega), ?_⟩
    refine for_it walk_range (fun i σ H1 => ∃ (vs : List V) (G : List Node) (w4 w5 w6 w7 w8 : Option V), σ = [some (.ref a), some (.ref s0), some (.int m), some (.ref g), w4, w5, w6, w7, w8] ∧ H1 g = some (.lst vs) ∧
        DpAll K (hid [s0, g] H1) vs (G.map nodeD) ∧ G.length = i ∧ GOk m G ∧ Frm [s0] H H1 ∧ Scr K H1 a s0)
      ⟨[], [], _, _, _, _, _, rfl, upd_same, .nil, rfl, (by intro n h; cases h), Frm.new hg, hScr.same (Same.new hg)⟩ (fun _ _ _ _ _ => trivial) ?_ ?_
    · rintro i x σ H1o H1 hi ⟨vs, G, w4, w5, w6, w7, w8, rfl, hH, hD, hG, hok, hf, hs⟩ ⟨rfl, rfl⟩
      have mpos : 0 < m := by omega
      refine ⟨Nat.zero_le _, fun o ho => ?_⟩
      have nos : ¬ o = s0 := hs.ne ho
      have nog : ¬ g = o := ne_of_none hH ho
      have hlv : vs.length = i := by rw [dpAll_len hD, List.length_map, hG]
      refine ⟨_, rfl, _, rfl, a, s0, 4, rfl, hs.same (Same.new ho), by decide, by decide, fun d H2 d0 d1 f2 sc2 => ?_⟩
      refine ⟨_, rfl, (by omega), (by omega), ?_⟩
      refine for_it walk_range (fun j σ H3 => ∃ (ws : List V) (nd : Node) (w4 w6 w7 w8 : Option V), σ = [some (.ref a), some (.ref s0), some (.int m), some (.ref g), w4, some (.ref o), w6, w7, w8] ∧ H3 o = some (.lst ws) ∧
          DpAll K (hid [o, s0, g] H3) ws (nd.map optD) ∧ nd.length = j ∧ (∀ x, x ∈ nd → OptOk m x) ∧ Frm [o, s0] H1 H3 ∧ Scr K H3 a s0)
        ⟨[], [], _, _, _, _, rfl, f2 _ _ (by simpa using nos) upd_same, .nil, rfl, (by intro n h; cases h), (Frm.new ho).trans (f2.mono (ys := [o, s0]) (by simp)), sc2⟩ (fun _ _ _ _ _ => trivial) ?_ ?_
      · rintro j x σ H3o H3 hj ⟨ws, nd, u4, u6, u7, u8, rfl, hO, hW, hn, hk, hf3, hs3⟩ ⟨rfl, rfl⟩
        have hlw : ws.length = j := by rw [dpAll_len hW, List.length_map, hn]
        refine ⟨_, rfl, _, rfl, a, s0, 4, rfl, hs3, by decide, by decide, fun r H4 r0 r1 f4 sc4 => ⟨rfl, _, rfl, ite2 (fun c => ?_) (fun c => ?_)⟩⟩
        · have hO4 := f4 _ _ (by simpa using nos) hO
          have fr : Frm [o, s0] H1 (upd H4 o (.lst (ws ++ [V.non]))) := (hf3.trans (f4.mono (ys := [o, s0]) (by simp))).put' (by simp)
          have fr3 : Frm [o, s0, g] H3 (upd H4 o (.lst (ws ++ [V.non]))) := (f4.mono (ys := [o, s0, g]) (by simp)).put' (by simp)
          refine ⟨_, rfl, .inl ⟨rfl, _, SqL.of hO4⟩, o, _, _, rfl, rfl, hO4, small1000 (by omega), ?_⟩
          refine ⟨_, nd ++ [none], _, _, _, _, rfl, upd_same, ?_, by rw [List.length_append, hn]; rfl, ?_, fr, hs.put ho fr sc4⟩
          · rw [List.map_append]
            exact dpAll_snoc (dpAll_same (hid_frm fr3) hW) .non
          · intro x hx
            rcases List.mem_append.mp hx with q | q
            · exact hk x q
            · rw [List.mem_singleton.mp q]
              intro l e
              cases e
        · refine ⟨_, rfl, _, rfl, a, s0, 4, rfl, sc4, by decide, by decide, fun z H5 z0 z1 f5 sc5 => ⟨(by show 4 ≤ sizeLine; decide), fun l hl => ?_⟩⟩
          have nls : ¬ l = s0 := sc5.ne hl
          refine ⟨_, rfl, _, rfl, a, s0, 4, rfl, sc5.same (Same.new hl), by decide, by decide, fun r' H6 p0 p1 f6 sc6 => ?_⟩
          obtain ⟨y, hy, y0, y1⟩ := pick4 z r' p0 p1 z0 z1
          refine ⟨l, _, _, _, rfl, rfl, SqL.of (f6 _ _ (by simpa using nls) upd_same), hy, ?_⟩
          have f36 : Frm [s0] H3 H6 := ((f4.trans f5).trans (Frm.new hl)).trans f6
          have hO6 := f36 _ _ (by simpa using nos) hO
          refine ⟨_, rfl, .inl ⟨rfl, _, SqL.of hO6⟩, _, rfl, _, rfl, (by omega), (by omega), fun D hD0 => ?_⟩
          have nDs : ¬ D = s0 := sc6.ne hD0
          refine lc_it walk_range (fun t H7 => ∃ ts : List Int, H7 D = some (.lst (ts.map V.int)) ∧ ts.length = t ∧ (∀ x, x ∈ ts → 0 ≤ x ∧ x < m) ∧ Frm [D, s0] H6 H7 ∧ Scr K H7 a s0)
            ⟨[], upd_same, rfl, by simp, Frm.new hD0, sc6.same (Same.new hD0)⟩ (fun _ _ _ _ => trivial) ?_ ?_
          · rintro t x H7o H7 ht ⟨ts, e7, l7, b7, f7, s7⟩ ⟨rfl, rfl⟩
            refine ⟨rfl, ?_⟩
            refine ⟨_, rfl, _, rfl, _, rfl, a, s0, m, rfl, s7, mpos, by omega, fun x H8 x0 x1 f8 sc8 => ?_⟩
            have e8 := f8 _ _ (by simpa using nDs) e7
            have fr : Frm [D, s0] H6 (upd H8 D (.lst (ts.map V.int ++ [V.int x]))) := (f7.trans (f8.mono (ys := [D, s0]) (by simp))).put' (by simp)
            refine ⟨_, e8, small1000 (by simp; omega), ts ++ [x], by rw [List.map_append]; exact upd_same, by simp [l7], ?_, fr, sc6.put hD0 fr sc8⟩
            intro q hq
            rcases List.mem_append.mp hq with q1 | q1
            · exact b7 q q1
            · rw [List.mem_singleton.mp q1]
              exact ⟨x0, x1⟩
          · rintro H7 ⟨ts, e7, l7, b7, f7, s7⟩
            have f67 : Frm [s0] H6 H7 := Frm.drop hD0 (Frm.refl _ _) f7
            have f37 := f36.trans f67
            have hO7 := f67 _ _ (by simpa using nos) hO6
            have fr : Frm [o, s0] H1 (upd H7 o (.lst (ws ++ [V.ref D]))) := (hf3.trans (f37.mono (ys := [o, s0]) (by simp))).put' (by simp)
            have fr3 : Frm [o, s0, g] H3 (upd H7 o (.lst (ws ++ [V.ref D]))) := (f37.mono (ys := [o, s0, g]) (by simp)).put' (by simp)
            have nDo : ¬ D = o := fun e => by rw [e, hO6] at hD0; cases hD0
            have nDg : ¬ D = g := fun e => by
              have q := (f36 _ _ (by simpa using ngs) (hf3 _ _ (by simp [nog, ngs]) hH))
              rw [e, q] at hD0
              cases hD0
            refine ⟨o, _, _, rfl, rfl, hO7, small1000 (by omega), ?_⟩
            refine ⟨_, nd ++ [some ts], _, _, _, _, rfl, upd_same, ?_, by rw [List.length_append, hn]; rfl, ?_, fr, hs.put ho fr s7⟩
            · rw [List.map_append]
              refine dpAll_snoc (dpAll_same (hid_frm fr3) hW) (.lst (SqL.of ?_) (dpAll_ints ts))
              rw [hid_eq (by simp [nDo, nDs, nDg]), upd_ne nDo]
              exact e7
            · intro x hx
              rcases List.mem_append.mp hx with q | q
              · exact hk x q
              · rw [List.mem_singleton.mp q]
                intro l e
                cases e
                exact ⟨by omega, b7⟩
      · rintro σ H3 ⟨ws, nd, u4, u6, u7, u8, rfl, hO, hW, hn, hk, hf3, hs3⟩
        have hg3 := hf3 _ _ (by simp [nog, ngs]) hH
        have f13 : Frm [s0] H1 H3 := Frm.drop ho (Frm.refl _ _) hf3
        refine ⟨_, rfl, .inl ⟨rfl, _, SqL.of hg3⟩, _, rfl, g, _, _, rfl, rfl, hg3, small1000 (by omega), ?_⟩
        have fr : Frm [g, s0] H (upd H3 g (.lst (vs ++ [V.ref o]))) := ((hf.trans f13).mono (ys := [g, s0]) (by simp)).put' (by simp)
        refine ⟨_, G ++ [nd], _, _, _, _, _, rfl, upd_same, ?_, by rw [List.length_append, hG]; rfl, ?_, Frm.drop hg (Frm.refl _ _) fr, hScr.put hg fr hs3⟩
        · rw [List.map_append]
          refine dpAll_snoc (dpAll_same (hid_frm ((f13.mono (ys := [s0, g]) (by simp)).put' (by simp))) hD) (.lst (SqL.of ?_) (dpAll_same (hid_to (xs := [o, s0, g]) (Frm.put (by simp)) (by simp)) hW))
          rw [hid_eq (by simp [nos, Ne.symm nog]), upd_ne (Ne.symm nog)]
          exact hO
        · intro x hx
          rcases List.mem_append.mp hx with q | q
          · exact hok x q
          · rw [List.mem_singleton.mp q]
            exact ⟨by omega, hk⟩
    · rintro σ H1 ⟨vs, G, w4, w5, w6, w7, w8, rfl, hH, hD, hG, hok, hf, hs⟩
      refine ⟨_, rfl, k g G H1 hf hs hg (by omega) hok (.lst (SqL.of ?_) (dpAll_same (hid_mono (by simp)) hD))⟩
      rw [hid_eq (by simpa using ngs)]
      exact hH
end
section
variable {P : Program} {w : World} {K : PySem.W.Frag} {mg : Str → Option Value} {base : Heap}

theorem take_snoc {α : Type} : ∀ {l : List α} {i : Nat} {x : α}, l[i]? = some x → l.take (i + 1) = l.take i ++ [x]
  | [], i, x, h => by simp at h
  | a :: l, 0, x, h => by
    have e : a = x := Option.some.inj h
    subst e
    rfl
  | a :: l, i + 1, x, h => by
    have ih := take_snoc (l := l) (i := i) (x := x) h
    show a :: l.take (i + 1) = a :: l.take i ++ [x]
    rw [ih]
    rfl
theorem drop_cons {α : Type} : ∀ {l : List α} {i : Nat} {x : α}, l[i]? = some x → l.drop i = x :: l.drop (i + 1)
  | [], i, x, h => by simp at h
  | a :: l, 0, x, h => by
    have e : a = x := Option.some.inj h
    subst e
    rfl
  | a :: l, i + 1, x, h => by
    show l.drop i = x :: l.drop (i + 1)
    exact drop_cons (l := l) (i := i) h
theorem map_at {α β : Type} {f : α → β} {l : List α} {i : Nat} {y : β} (h : (l.map f)[i]? = some y) : ∃ x, l[i]? = some x ∧ y = f x := by
  rw [List.getElem?_map] at h
  cases e : l[i]? with
  | none => rw [e] at h; cases h
  | some x => rw [e] at h; exact ⟨x, rfl, (Option.some.inj h).symm⟩
theorem dp_ref {K : PySem.W.Frag} {H : Hp} {v : V} {ds : List PyData} (h : Dp K H v (.list ds)) : ∃ p xs, v = .ref p ∧ SqL K H p xs ∧ DpAll K H xs ds := by
  cases h with
  | lst a b => exact ⟨_, _, rfl, a, b⟩
theorem dp_list {K : PySem.W.Frag} {H : Hp} {p : Addr} {ds : List PyData} (h : Dp K H (.ref p) (.list ds)) : ∃ xs, SqL K H p xs ∧ DpAll K H xs ds := by
  cases h with
  | lst a b => exact ⟨_, a, b⟩
theorem opt_v {K : PySem.W.Frag} {H : Hp} {v : V} {o : Option (List Int)} (h : Dp K H v (optD o)) : (o = none ∧ v = .non) ∨ ∃ l p, o = some l ∧ v = .ref p ∧ SqL K H p (l.map V.int) := by
  cases o with
  | none =>
    cases h
    exact .inl ⟨rfl, rfl⟩
  | some l =>
    obtain ⟨p, xs, rfl, a, b⟩ := dp_ref h
    rw [dpAll_ints_eq b] at a
    exact .inr ⟨l, p, rfl, rfl, a⟩
def atR (R : List Int) (t : Int) : Int := R.getD t.toNat 0
theorem at_int {R : List Int} {t : Int} (h0 : 0 ≤ t) (h1 : t < R.length) : atI (R.map V.int) t = some (.int (atR R t)) := by
  obtain ⟨j, rfl⟩ : ∃ j : Nat, t = (j : Int) := ⟨t.toNat, by omega⟩
  have hj : j < R.length := by omega
  exact atI_nat (by simp [atR, hj])
def fateL (R : List Int) (l : List Int) : Int := l.foldl (fun least t => if 0 < atR R t ∧ (least = 0 ∨ atR R t + 1 < least) then atR R t + 1 else least) 0
def fate (R : List Int) : Option (List Int) → Int
  | none => 1
  | some l => fateL R l
theorem fateL_snoc (R l : List Int) (t : Int) : fateL R (l ++ [t]) = if 0 < atR R t ∧ (fateL R l = 0 ∨ atR R t + 1 < fateL R l) then atR R t + 1 else fateL R l := by
  unfold fateL
  rw [List.foldl_append]
  rfl
def dueFrom (R : List Int) : Int → Node → Int
  | worst, [] => worst
  | worst, o :: r => if fate R o = 0 then 0 else dueFrom R (if fate R o > worst then fate R o else worst) r
def due (R : List Int) (n : Node) : Int := dueFrom R 1 n
/-- the ranks of a game: the equations that have one answer -/
structure IsR (G : List Node) (R : List Int) : Prop where
  len : R.length = G.length
  pos : ∀ r, r ∈ R → 0 ≤ r
  eq : ∀ (i : Nat) (nd : Node), G[i]? = some nd → R[i]? = some (due R nd)
def sp_check_nodes (K : PySem.W.Frag) : Sp := fun vs H Q _ => ∃ (g : Addr) (G : List Node), vs = [.ref g] ∧ Dp K H (.ref g) (gameD G) ∧ GOk G.length G ∧ Q .non H
def sp_law_fate (K : PySem.W.Frag) : Sp := fun vs H Q _ => ∃ (x : V) (f : Addr) (o : Option (List Int)) (R : List Int), vs = [x, .ref f] ∧ Dp K H x (optD o) ∧ SqL K H f (R.map V.int) ∧ OptOk R.length o ∧ Q (.int (fate R o)) H
def sp_law_due (K : PySem.W.Frag) : Sp := fun vs H Q _ => ∃ (o f : Addr) (n : Node) (R : List Int), vs = [.ref o, .ref f] ∧ Dp K H (.ref o) (nodeD n) ∧ SqL K H f (R.map V.int) ∧ NodeOk R.length n ∧ Q (.int (due R n)) H
def sp_law_numbers : Sp := fun vs H Q _ => ∃ (f : Addr) (R : List Int), vs = [.ref f, .int R.length] ∧ H f = some (.lst (R.map V.int)) ∧ R.length ≤ 60 ∧ (∀ r, r ∈ R → 0 ≤ r) ∧ ∀ H', Same H H' → Q (.bl true) H'

theorem ok_law_copy {f : Addr} {fd : FuncData} (F : Fun K "_law_copy" "_law_copy" s_law_copy f fd) (T : Txt K mg) : FnOk P w K mg base CX0 1 f fd P_law_copy (sp_law_copy K) := by
  refine F.ok sc_law_copy (fun vs H Q E h => ?_) (fun cdv A outer s H vs Q E hr h => ?_)
  · obtain ⟨g, m, G, rfl, hD, hlen, hok, k⟩ := h
    rfl
  · obtain ⟨g, m, G, rfl, hD, hlen, hok, k⟩ := h
    refine ⟨_, (pss_cons (ps_set (i := 1) sc_law_copy.nd rfl (by first | exact Or.inl rfl | exact Or.inr rfl) (pe_lst pa_nil))
  (pss_cons (ps_for PassesOwn.never rfl (pi_list (pv 0)) (pg_name (i := 2) sc_law_copy.nd rfl (by first | exact Or.inl rfl | exact Or.inr rfl))
  (pss_one (ps_expr (pe_bm PySem.F.plainAttrs_list PySem.F.slot_list_append PySem.F.type_list_append mt_append (pv 1) (pa_cons (pe_lc (own := [("option", 3)]) rfl sc_law_copy.nd (pi_list (pv 2)) (blkOk_by (own := [("option", 3)]) (N := N_law_copy) (sc := defScope s_law_copy) (by decide +kernel)) (fun _ _ _ _ _ => (pg_name (i := 3) sc_law_copy.nd rfl (by first | exact Or.inl rfl | exact Or.inr rfl))) (fun _ _ _ _ _ => pts_nil) (fun _ _ _ _ _ => (pe_ifExp (pt_cmpR op_isN (pv 3) pe_non (nomark _)) pe_non (pe_callTy (T := "list") (r := rListOf K) call_list_of (by rfl) T.b_list (by decide +kernel) (pa_cons (pv 3) pa_nil))))) pa_nil)))))
  (pss_one (ps_ret (pv 1))))), ?_⟩
    obtain ⟨xs, hS, hA⟩ := dp_list hD
    have hxl : xs.length = G.length := by rw [dpAll_len hA, List.length_map]
    refine ⟨Nat.zero_le _, fun c hc => ?_⟩
    refine ⟨_, rfl, g, rfl, ⟨_, (Same.new hc).seq hS⟩, ?_⟩
    refine for_it walk_list (fun i σ H1 => ∃ (vs : List V) (w2 w3 : Option V), σ = [some (.ref g), some (.ref c), w2, w3] ∧ H1 c = some (.lst vs) ∧ DpAll K (hid [c] H1) vs ((G.take i).map nodeD) ∧ Same H H1)
      ⟨[], _, _, rfl, upd_same, .nil, Same.new hc⟩ (fun i σ H1 _ ⟨_, _, _, _, _, _, s1⟩ => s1.seq hS) ?_ ?_
    · rintro i x σ H1o H1 hi ⟨vs, w2, w3, rfl, h1, hd1, s1⟩ ⟨rfl, hx⟩
      obtain ⟨d, hd, hxd⟩ := dpAll_get hA hx
      obtain ⟨nd, hnd, rfl⟩ := map_at hd
      obtain ⟨p, ws, rfl, hp, hws⟩ := dp_ref hxd
      have hok1 := hok nd (List.mem_of_getElem? hnd)
      have hwl : ws.length = nd.length := by rw [dpAll_len hws, List.length_map]
      have hvl : vs.length ≤ 60 := by rw [dpAll_len hd1, List.length_map, List.length_take]; omega
      refine ⟨_, rfl, .inl ⟨rfl, _, SqL.of h1⟩, _, rfl, p, rfl, ⟨_, s1.seq hp⟩, fun D hD0 => ?_⟩
      have nDc : ¬ D = c := fun e => by rw [e, h1] at hD0; cases hD0
      refine lc_it walk_list (fun j H2 => ∃ us : List V, H2 D = some (.lst us) ∧ DpAll K (hid [D, c] H2) us ((nd.take j).map optD) ∧ Same H1 H2)
        ⟨[], upd_same, .nil, Same.new hD0⟩ (fun j H2 _ ⟨_, _, _, s2⟩ => (s1.trans s2).seq hp) ?_ ?_
      · rintro j y H2o H2 hj ⟨us, e2, d2, s2⟩ ⟨rfl, hy⟩
        obtain ⟨d, hd', hyd⟩ := dpAll_get hws hy
        obtain ⟨o, ho, rfl⟩ := map_at hd'
        have hul : us.length ≤ 20 := by rw [dpAll_len d2, List.length_map, List.length_take]; have := hok1.1; omega
        refine ⟨rfl, _, rfl, rfl, _, rfl, ?_⟩
        rcases opt_v hyd with ⟨rfl, rfl⟩ | ⟨l, q, rfl, rfl, hq⟩
        · refine ite2 (fun _ => ?_) (fun z => absurd (decide_eq_true rfl) z)
          refine ⟨_, e2, small1000 (by omega), us ++ [.non], upd_same, ?_, fun b o e => ?_⟩
          · rw [take_snoc ho, List.map_append]
            exact dpAll_snoc (dpAll_same (hid_frm (Frm.put (by simp))) d2) .non
          · rw [upd_ne (ne_of_none e hD0)]
            exact s2 _ _ e
        · refine ite2 (fun z => absurd (of_decide_eq_true z) (by intro z; cases z)) (fun _ => ?_)
          refine ⟨_, rfl, q, _, rfl, .inl ((s1.trans s2).seq hq), fun l' hl' => ?_⟩
          have nl : ¬ D = l' := fun e => by rw [← e, e2] at hl'; cases hl'
          have nlc : ¬ l' = c := fun e => by rw [e, s2 _ _ h1] at hl'; cases hl'
          refine ⟨_, (by rw [upd_ne nl]; exact e2), small1000 (by omega), us ++ [.ref l'], upd_same, ?_, fun b o e => ?_⟩
          · rw [take_snoc ho, List.map_append]
            refine dpAll_snoc (dpAll_same (hid_frm ((Frm.new hl').put' (by simp))) d2) (.lst (SqL.of ?_) (dpAll_ints l))
            rw [hid_eq (by simp [nlc, Ne.symm nl]), upd_ne (Ne.symm nl)]
            exact upd_same
          · rw [upd_ne (ne_of_none e hD0)]
            exact Same.new hl' _ _ (s2 _ _ e)
      · rintro H2 ⟨us, e2, d2, s2⟩
        refine ⟨c, _, _, rfl, rfl, s2 _ _ h1, small1000 (by omega), ?_⟩
        refine ⟨vs ++ [.ref D], _, _, rfl, upd_same, ?_, fun b o e => ?_⟩
        · rw [take_snoc hnd, List.map_append]
          refine dpAll_snoc (dpAll_same (hid_frm ((Frm.of_same s2).put' (by simp))) hd1) (.lst (SqL.of ?_) (dpAll_same (hid_to (xs := [D, c]) (Frm.put (by simp)) (by simp)) (by rw [hwl, List.take_length] at d2; exact d2)))
          rw [hid_eq (by simp [nDc]), upd_ne nDc]
          exact e2
        · rw [upd_ne (ne_of_none e hc)]
          exact s2 _ _ (s1 _ _ e)
    · rintro σ H1 ⟨vs, w2, w3, rfl, h1, hd1, s1⟩
      rw [hxl, List.take_length] at hd1
      exact ⟨_, rfl, k c H1 s1 hc (.lst (SqL.of h1) (dpAll_same (hid_same _ _) hd1))⟩

theorem ok_check_nodes {f : Addr} {fd : FuncData} (F : Fun K "_check_nodes" "_check_nodes" s_check_nodes f fd) (T : Txt K mg) (Ccheck_number : Cal P w K mg base "check_number" Pcheck_number 1 spcheck_number) : FnOk P w K mg base CX0 2 f fd P_check_nodes (sp_check_nodes K) := by
  obtain ⟨gcheck_number, gdcheck_number, Gcheck_number, mcheck_number, kcheck_number, bcheck_number⟩ := Ccheck_number.ex
  refine F.ok sc_check_nodes (fun vs H Q E h => ?_) (fun cdv A outer s H vs Q E hr h => ?_)
  · obtain ⟨g, G, rfl, hD, hok, k⟩ := h
    rfl
  · obtain ⟨g, G, rfl, hD, hok, k⟩ := h
    refine ⟨_, (pss_cons (ps_set (i := 1) sc_check_nodes.nd rfl (by first | exact Or.inl rfl | exact Or.inr rfl) (pe_op op_sub (pe_callB call_len_seq (by rfl) T.b_len PySem.boot_len (pa_cons (pv 0) pa_nil)) pe_int))
  (pss_one (ps_for PassesOwn.never rfl (pi_list (pv 0)) (pg_name (i := 2) sc_check_nodes.nd rfl (by first | exact Or.inl rfl | exact Or.inr rfl))
  (pss_one (ps_for PassesOwn.never rfl (pi_list (pv 2)) (pg_name (i := 3) sc_check_nodes.nd rfl (by first | exact Or.inl rfl | exact Or.inr rfl))
  (pss_one (ps_if (pt_cmpR op_notN (pv 3) pe_non (nomark _))
  (pss_one (ps_for PassesOwn.never rfl (pi_list (pv 3)) (pg_name (i := 4) sc_check_nodes.nd rfl (by first | exact Or.inl rfl | exact Or.inr rfl))
  (pss_one (ps_expr (pe_call Gcheck_number (hr.mono (by decide)) (by rfl) mcheck_number kcheck_number bcheck_number .nil pass0 (pa_cons pe_str (pa_cons (pv 4) (pa_cons pe_int (pa_cons (pv 1) pa_nil)))))))))
  pss_nil))))))), ?_⟩
    obtain ⟨xs, hS, hA⟩ := dp_list hD
    have hxl : xs.length = G.length := by rw [dpAll_len hA, List.length_map]
    refine ⟨_, rfl, g, _, rfl, .inl hS, _, _, rfl, rfl, ?_⟩
    refine ⟨_, rfl, g, rfl, ⟨_, hS⟩, ?_⟩
    refine for_it walk_list (fun i σ H1 => ∃ (w2 w3 w4 : Option V), σ = [some (.ref g), some (.int ((xs.length : Nat) - 1 : Int)), w2, w3, w4] ∧ H1 = H)
      ⟨_, _, _, rfl, rfl⟩ (fun i σ H1 _ ⟨_, _, _, _, e⟩ => by rw [e]; exact hS) ?_ ?_
    · rintro i x σ H1o H1 hi ⟨w2, w3, w4, rfl, rfl⟩ ⟨rfl, hx⟩
      obtain ⟨d, hd, hxd⟩ := dpAll_get hA hx
      obtain ⟨nd, hnd, rfl⟩ := map_at hd
      obtain ⟨p, ws, rfl, hp, hws⟩ := dp_ref hxd
      have hok1 := hok nd (List.mem_of_getElem? hnd)
      refine ⟨_, rfl, p, rfl, ⟨_, hp⟩, ?_⟩
      refine for_it walk_list (fun j σ H2 => ∃ (w3 w4 : Option V), σ = [some (.ref g), some (.int ((xs.length : Nat) - 1 : Int)), some (.ref p), w3, w4] ∧ H2 = H1)
        ⟨_, _, rfl, rfl⟩ (fun i σ H2 _ ⟨_, _, _, e⟩ => by rw [e]; exact hp) ?_ ?_
      · rintro j y σ H2o H2 hj ⟨w3, w4, rfl, rfl⟩ ⟨rfl, hy⟩
        obtain ⟨d, hd', hyd⟩ := dpAll_get hws hy
        obtain ⟨o, ho, rfl⟩ := map_at hd'
        have hok2 := hok1.2 o (List.mem_of_getElem? ho)
        refine ⟨_, rfl, rfl, _, rfl, ?_⟩
        rcases opt_v hyd with ⟨rfl, rfl⟩ | ⟨l, q, rfl, rfl, hq⟩
        · refine ite2 (fun z => absurd z (by decide)) (fun _ => ?_)
          exact ⟨_, _, rfl, rfl⟩
        · refine ite2 (fun _ => ?_) (fun z => absurd (by rfl) z)
          refine ⟨_, rfl, q, rfl, ⟨_, hq⟩, ?_⟩
          refine for_it walk_list (fun k σ H3 => ∃ (w4 : Option V), σ = [some (.ref g), some (.int ((xs.length : Nat) - 1 : Int)), some (.ref p), some (.ref q), w4] ∧ H3 = H2)
            ⟨_, rfl, rfl⟩ (fun i σ H3 _ ⟨_, _, e⟩ => by rw [e]; exact hq) ?_ ?_
          · rintro k' z σ H3o H3 hk ⟨w4, rfl, rfl⟩ ⟨rfl, hz⟩
            obtain ⟨t, ht, rfl⟩ := map_at hz
            have hb := (hok2 l rfl).2 t (List.mem_of_getElem? ht)
            exact ⟨_, rfl, _, rfl, _, t, 0, _, rfl, hb.1, by omega, _, rfl, rfl⟩
          · rintro σ H3 ⟨w4, rfl, rfl⟩
            exact ⟨_, _, rfl, rfl⟩
      · rintro σ H2 ⟨w3, w4, rfl, rfl⟩
        exact ⟨_, _, _, rfl, rfl⟩
    · rintro σ H1 ⟨w2, w3, w4, rfl, rfl⟩
      exact k
end
end Wb
namespace Wb
theorem atR_nat (R : List Int) (t : Nat) : atR R (t : Int) = atN R t := by
  unfold atR atN
  rw [Int.toNat_natCast]
theorem atR_toNat (R : List Int) (t : Int) : atR R t = atN R t.toNat := rfl
theorem fateL_take (R l : List Int) : ∀ i, i ≤ l.length → (fateL R (l.take i) = 0 ∧ ∀ t, t ∈ l.take i → ¬ 0 < atR R t) ∨ ∃ m, 0 < m ∧ fateL R (l.take i) = m + 1 ∧ (∃ t, t ∈ l.take i ∧ atR R t = m) ∧ ∀ t, t ∈ l.take i → 0 < atR R t → m ≤ atR R t
  | 0, _ => .inl ⟨rfl, by simp⟩
  | i + 1, h => by
    have hx : l[i]? = some l[i] := List.getElem?_eq_getElem (by omega)
    have ts := take_snoc hx
    have fs := fateL_snoc R (l.take i) l[i]
    rw [ts]
    generalize l[i] = x at *
    rcases fateL_take R l i (by omega) with ⟨h1, h2⟩ | ⟨m, h0, h1, ⟨t, ht, he⟩, h3⟩
    · by_cases c : 0 < atR R x
      · rw [if_pos ⟨c, .inl h1⟩] at fs
        refine .inr ⟨atR R x, c, fs, ⟨x, by simp, rfl⟩, fun u hu hp => ?_⟩
        rcases List.mem_append.mp hu with q | q
        · exact absurd hp (h2 u q)
        · rw [List.mem_singleton.mp q]
          exact Int.le_refl _
      · rw [if_neg (fun z => c z.1), h1] at fs
        refine .inl ⟨fs, fun u hu => ?_⟩
        rcases List.mem_append.mp hu with q | q
        · exact h2 u q
        · rw [List.mem_singleton.mp q]
          exact c
    · by_cases c : 0 < atR R x ∧ (fateL R (l.take i) = 0 ∨ atR R x + 1 < fateL R (l.take i))
      · rw [if_pos c] at fs
        have c2 : atR R x < m := by
          rcases c.2 with z | z <;> omega
        refine .inr ⟨atR R x, c.1, fs, ⟨x, by simp, rfl⟩, fun u hu hp => ?_⟩
        rcases List.mem_append.mp hu with q | q
        · have := h3 u q hp
          omega
        · rw [List.mem_singleton.mp q]
          exact Int.le_refl _
      · rw [if_neg c, h1] at fs
        refine .inr ⟨m, h0, fs, ⟨t, by simp [ht], he⟩, fun u hu hp => ?_⟩
        rcases List.mem_append.mp hu with q | q
        · exact h3 u q hp
        · rw [List.mem_singleton.mp q] at hp ⊢
          have : ¬ (fateL R (l.take i) = 0 ∨ atR R x + 1 < fateL R (l.take i)) := fun z => c ⟨hp, z⟩
          omega
theorem fateL_cases (R l : List Int) : (fateL R l = 0 ∧ ∀ t, t ∈ l → ¬ 0 < atR R t) ∨ ∃ m, 0 < m ∧ fateL R l = m + 1 ∧ (∃ t, t ∈ l ∧ atR R t = m) ∧ ∀ t, t ∈ l → 0 < atR R t → m ≤ atR R t := by
  have := fateL_take R l l.length (Nat.le_refl _)
  rwa [List.take_length] at this
theorem due_zero (R : List Int) : ∀ (nd : Node) (w : Int), (∃ o, o ∈ nd ∧ fate R o = 0) → dueFrom R w nd = 0
  | [], w, ⟨o, h, _⟩ => by cases h
  | a :: nd, w, ⟨o, h, e⟩ => by
    unfold dueFrom
    by_cases c : fate R a = 0
    · rw [if_pos c]
    · rw [if_neg c]
      rcases List.mem_cons.mp h with q | q
      · rw [q] at e; exact absurd e c
      · exact due_zero R nd _ ⟨o, q, e⟩
theorem due_val (R : List Int) (x : Int) : ∀ (nd : Node) (w : Int), (∀ o, o ∈ nd → fate R o ≠ 0 ∧ fate R o ≤ x) → w ≤ x → (w = x ∨ ∃ o, o ∈ nd ∧ fate R o = x) → dueFrom R w nd = x
  | [], w, _, _, h => by
    rcases h with h | ⟨o, h, _⟩
    · exact h
    · cases h
  | a :: nd, w, h, hw, hx => by
    have ha := h a List.mem_cons_self
    unfold dueFrom
    rw [if_neg ha.1]
    refine due_val R x nd _ (fun o ho => h o (List.mem_cons_of_mem _ ho)) ?_ ?_
    · split
      · exact ha.2
      · exact hw
    · rcases hx with e | ⟨o, ho, e⟩
      · left
        split
        · have := ha.2; omega
        · exact e
      · rcases List.mem_cons.mp ho with q | q
        · left
          rw [← q, e]
          split
          · rfl
          · omega
        · exact .inr ⟨o, q, e⟩
/-- the options of a node, with the node's number -/
def opts (i : Nat) (nd : Node) : List (Nat × List Int) := nd.filterMap fun o => o.map fun l => (i, l)
def flatN (G : List Node) (i : Nat) : List (Nat × List Int) := (List.range i).flatMap fun j => opts j (G.getD j [])
theorem flatN_succ (G : List Node) (i : Nat) : flatN G (i + 1) = flatN G i ++ opts i (G.getD i []) := by
  unfold flatN
  rw [List.range_succ, List.flatMap_append]
  simp
theorem mem_opts {i j : Nat} {nd : Node} {l : List Int} : (j, l) ∈ opts i nd ↔ j = i ∧ some l ∈ nd := by
  unfold opts
  rw [List.mem_filterMap]
  constructor
  · rintro ⟨o, ho, e⟩
    cases o with
    | none => cases e
    | some l' =>
      simp at e
      obtain ⟨rfl, rfl⟩ := e
      exact ⟨rfl, ho⟩
  · rintro ⟨rfl, h⟩
    exact ⟨_, h, rfl⟩
theorem mem_flat {G : List Node} {i : Nat} {l : List Int} {n : Nat} (hn : n ≤ G.length) : (i, l) ∈ flatN G n ↔ i < n ∧ ∃ nd, G[i]? = some nd ∧ some l ∈ nd := by
  unfold flatN
  rw [List.mem_flatMap]
  constructor
  · rintro ⟨j, hj, h⟩
    obtain ⟨rfl, h⟩ := mem_opts.mp h
    have hj := List.mem_range.mp hj
    refine ⟨hj, _, List.getElem?_eq_getElem (by omega), ?_⟩
    rw [List.getD_eq_getElem?_getD, List.getElem?_eq_getElem (by omega)] at h
    exact h
  · rintro ⟨hi, nd, e, h⟩
    refine ⟨i, List.mem_range.mpr hi, mem_opts.mpr ⟨rfl, ?_⟩⟩
    rw [List.getD_eq_getElem?_getD, e]
    exact h
def owF (F : List (Nat × List Int)) (k : Nat) : Nat := (F.getD k (0, [])).1
def tgF (F : List (Nat × List Int)) (k : Nat) : List Nat := (F.getD k (0, [])).2.map Int.toNat
/-- what the search says is what the game's equations ask -/
theorem isR_of {G : List Node} {R : List Int} {ft : Nat → Int} (hG : GOk G.length G) (P : Post G.length (flatN G G.length).length (owF (flatN G G.length)) (tgF (flatN G G.length)) R ft) : IsR G R := by
  have fk : ∀ k, k < (flatN G G.length).length → ∀ i l, (flatN G G.length)[k]? = some (i, l) → fateL R l = if ft k = 0 then 0 else ft k + 1 := by
    intro k hk i l e
    have et : tgF (flatN G G.length) k = l.map Int.toNat := by
      unfold tgF
      rw [List.getD_eq_getElem?_getD, e]
      rfl
    obtain ⟨_, nd, hnd, hm⟩ := (mem_flat (Nat.le_refl _)).mp (List.mem_of_getElem? e)
    have hb := ((hG nd (List.mem_of_getElem? hnd)).2 _ hm l rfl).2
    have hf0 := P.f0 k hk
    have hw := P.fw k hk
    have hmm := P.fm k hk
    rw [et] at hw hmm
    rcases fateL_cases R l with ⟨h1, h2⟩ | ⟨m, h0, h1, ⟨t, ht, he⟩, h3⟩
    · rw [h1, if_pos]
      by_cases c : 0 < ft k
      · obtain ⟨t, ht, q⟩ := hw c
        obtain ⟨t', ht', rfl⟩ := List.mem_map.mp ht
        exact absurd (by rw [atR_toNat, q]; exact c) (h2 t' ht')
      · omega
    · have q := hmm t.toNat (List.mem_map.mpr ⟨t, ht, rfl⟩) (by have := hb t ht; omega) (by rw [← atR_toNat, he]; exact h0)
      obtain ⟨t2, ht2, q2⟩ := hw q.1
      obtain ⟨t3, ht3, rfl⟩ := List.mem_map.mp ht2
      have q3 := h3 t3 ht3 (by rw [atR_toNat, q2]; exact q.1)
      rw [atR_toNat] at he q3
      rw [h1, if_neg (by omega)]
      omega
  refine ⟨P.len, fun r hr => ?_, fun i nd hnd => ?_⟩
  · obtain ⟨j, hj, e⟩ := List.getElem_of_mem hr
    have := P.pos j (by rw [← P.len]; exact hj)
    unfold atN at this
    rw [List.getD_eq_getElem?_getD, List.getElem?_eq_getElem hj] at this
    simpa [e] using this
  · have hi : i < G.length := (List.getElem?_eq_some_iff.mp hnd).1
    have hiR : R[i]? = some (atN R i) := by
      unfold atN
      rw [List.getD_eq_getElem?_getD, List.getElem?_eq_getElem (by rw [P.len]; exact hi)]
      rfl
    rw [hiR]
    congr 1
    have own : ∀ k l, (flatN G G.length)[k]? = some (i, l) → owF (flatN G G.length) k = i := fun k l e => by
      unfold owF
      rw [List.getD_eq_getElem?_getD, e]
      rfl
    have back : ∀ k, k < (flatN G G.length).length → owF (flatN G G.length) k = i → ∃ l, (flatN G G.length)[k]? = some (i, l) ∧ some l ∈ nd := fun k hk e => by
      have e1 : (flatN G G.length)[k]? = some (flatN G G.length)[k] := List.getElem?_eq_getElem hk
      generalize hp : (flatN G G.length)[k] = p at e1
      obtain ⟨j, l⟩ := p
      unfold owF at e
      rw [List.getD_eq_getElem?_getD, e1] at e
      have e : j = i := e
      subst e
      obtain ⟨_, nd', h1, h2⟩ := (mem_flat (Nat.le_refl _)).mp (List.mem_of_getElem? e1)
      rw [hnd] at h1
      rw [← Option.some.inj h1] at h2
      exact ⟨l, e1, h2⟩
    have forth : ∀ l, some l ∈ nd → ∃ k, k < (flatN G G.length).length ∧ (flatN G G.length)[k]? = some (i, l) := fun l h => by
      have := (mem_flat (G := G) (Nat.le_refl _)).mpr ⟨hi, nd, hnd, h⟩
      obtain ⟨k, hk, e⟩ := List.getElem_of_mem this
      exact ⟨k, hk, by rw [List.getElem?_eq_getElem hk, e]⟩
    by_cases c : 0 < atN R i
    · obtain ⟨p1, p2⟩ := P.val i hi c
      refine (due_val R _ nd 1 (fun o ho => ?_) (by omega) ?_).symm
      · cases o with
        | none => exact ⟨by show (1 : Int) ≠ 0; decide, by show (1 : Int) ≤ _; omega⟩
        | some l =>
          obtain ⟨k, hk, e⟩ := forth l ho
          have q := p1 k hk (own k l e)
          show fateL R l ≠ 0 ∧ fateL R l ≤ _
          rw [fk k hk i l e, if_neg (by omega)]
          exact ⟨by omega, by omega⟩
      · rcases p2 with q | ⟨k, hk, e, q⟩
        · exact .inl q.symm
        · obtain ⟨l, e1, h⟩ := back k hk e
          refine .inr ⟨some l, h, ?_⟩
          have := p1 k hk e
          show fateL R l = _
          rw [fk k hk i l e1, if_neg (by omega), q]
    · have z : atN R i = 0 := by have := P.pos i hi; omega
      obtain ⟨k, hk, e, q⟩ := P.zero i hi z
      obtain ⟨l, e1, h⟩ := back k hk e
      rw [z]
      refine (due_zero R nd 1 ⟨some l, h, ?_⟩).symm
      show fateL R l = 0
      rw [fk k hk i l e1, if_pos q]
end Wb
namespace Wb
theorem due_inv (R : List Int) (x : Int) : ∀ (nd : Node) (w : Int), 1 ≤ w → dueFrom R w nd = x → x ≠ 0 → (∀ o, o ∈ nd → fate R o ≠ 0 ∧ fate R o ≤ x) ∧ w ≤ x ∧ (w = x ∨ ∃ o, o ∈ nd ∧ fate R o = x)
  | [], w, hw, h, hx => by
    have h : w = x := h
    exact ⟨by simp, by omega, .inl h⟩
  | a :: nd, w, hw, h, hx => by
    unfold dueFrom at h
    by_cases c : fate R a = 0
    · rw [if_pos c] at h
      exact absurd h.symm hx
    · rw [if_neg c] at h
      have hw' : 1 ≤ (if fate R a > w then fate R a else w) := by split <;> omega
      obtain ⟨h1, h2, h3⟩ := due_inv R x nd _ hw' h hx
      refine ⟨fun o ho => ?_, by split at h2 <;> omega, ?_⟩
      · rcases List.mem_cons.mp ho with q | q
        · rw [q]
          refine ⟨c, ?_⟩
          split at h2 <;> omega
        · exact h1 o q
      · rcases h3 with q | ⟨o, ho, q⟩
        · split at q
          · exact .inr ⟨a, List.mem_cons_self, q⟩
          · exact .inl q
        · exact .inr ⟨o, List.mem_cons_of_mem _ ho, q⟩
theorem fateL_val (R l : List Int) (m : Int) (h0 : 0 < m) (h1 : ∃ t, t ∈ l ∧ atR R t = m) (h2 : ∀ t, t ∈ l → 0 < atR R t → m ≤ atR R t) : fateL R l = m + 1 := by
  rcases fateL_cases R l with ⟨_, q⟩ | ⟨m', p0, p1, ⟨t, ht, e⟩, p3⟩
  · obtain ⟨t, ht, e⟩ := h1
    exact absurd (by rw [e]; exact h0) (q t ht)
  · obtain ⟨t1, ht1, e1⟩ := h1
    have a := p3 t1 ht1 (by rw [e1]; exact h0)
    have b := h2 t ht (by rw [e]; exact p0)
    omega
theorem isR_at {G : List Node} {R : List Int} (h : IsR G R) {i : Nat} {nd : Node} (e : G[i]? = some nd) : atN R i = due R nd := by
  unfold atN
  rw [List.getD_eq_getElem?_getD, h.eq i nd e]
  rfl
theorem isR_step {G : List Node} {R R' : List Int} (hG : GOk G.length G) (h : IsR G R) (h' : IsR G R') (k : Int) (ih : ∀ v, v < G.length → ∀ r, 0 < r → r ≤ k → (atN R v = r ↔ atN R' v = r)) (hk : 0 ≤ k)
    (v : Nat) (hv : v < G.length) (e : atN R v = k + 1) : atN R' v = k + 1 := by
  have hnd : G[v]? = some G[v] := List.getElem?_eq_getElem hv
  generalize G[v] = nd at hnd
  have hok := hG nd (List.mem_of_getElem? hnd)
  rw [isR_at h hnd] at e
  obtain ⟨h1, h2, h3⟩ := due_inv R (k + 1) nd 1 (Int.le_refl _) e (by omega)
  have same : ∀ o, o ∈ nd → fate R' o = fate R o := fun o ho => by
    cases o with
    | none => rfl
    | some l =>
      have hb := (hok.2 _ ho l rfl).2
      have q := h1 _ ho
      show fateL R' l = fateL R l
      have q1 : fateL R l ≠ 0 := q.1
      have q2 : fateL R l ≤ k + 1 := q.2
      rcases fateL_cases R l with ⟨z, _⟩ | ⟨m, p0, p1, ⟨t, ht, e⟩, p3⟩
      · exact absurd z q1
      · rw [p1]
        refine fateL_val R' l m p0 ⟨t, ht, ?_⟩ fun u hu hp => ?_
        · have := hb t ht
          exact (ih t.toNat (by omega) m p0 (by omega)).mp e
        · have bu := hb u hu
          by_cases c : atR R' u < m
          · have q := (ih u.toNat (by omega) (atR R' u) hp (by omega)).mpr rfl
            have q' : atR R u = atR R' u := q
            have := p3 u hu (by rw [q']; exact hp)
            omega
          · omega
  rw [isR_at h' hnd]
  refine due_val R' (k + 1) nd 1 (fun o ho => by rw [same o ho]; exact h1 o ho) h2 ?_
  rcases h3 with q | ⟨o, ho, q⟩
  · exact .inl q
  · exact .inr ⟨o, ho, by rw [same o ho]; exact q⟩
theorem isR_all {G : List Node} {R R' : List Int} (hG : GOk G.length G) (h : IsR G R) (h' : IsR G R') : ∀ (k : Nat), ∀ v, v < G.length → ∀ r : Int, 0 < r → r ≤ k → (atN R v = r ↔ atN R' v = r)
  | 0 => fun v hv r h0 h1 => by omega
  | k + 1 => fun v hv r h0 h1 => by
    have ih := isR_all hG h h' k
    by_cases c : r ≤ k
    · exact ih v hv r h0 c
    · have e : r = (k : Int) + 1 := by omega
      rw [e]
      exact ⟨isR_step hG h h' k ih (by omega) v hv, isR_step hG h' h k (fun v hv r p q => (ih v hv r p q).symm) (by omega) v hv⟩
theorem isR_pos {G : List Node} {R : List Int} (h : IsR G R) {v : Nat} (hv : v < G.length) : 0 ≤ atN R v := by
  refine h.pos _ ?_
  unfold atN
  rw [List.getD_eq_getElem?_getD, List.getElem?_eq_getElem (by rw [h.len]; exact hv)]
  exact List.getElem_mem _
/-- the equations have one answer -/
theorem isR_one {G : List Node} {R R' : List Int} (hG : GOk G.length G) (h : IsR G R) (h' : IsR G R') : R = R' := by
  have key : ∀ v, v < G.length → atN R v = atN R' v := fun v hv => by
    have p := isR_pos h hv
    have p' := isR_pos h' hv
    by_cases c : 0 < atN R v
    · exact ((isR_all hG h h' (atN R v).toNat v hv (atN R v) c (by omega)).mp rfl).symm
    · by_cases c' : 0 < atN R' v
      · exact (isR_all hG h h' (atN R' v).toNat v hv (atN R' v) c' (by omega)).mpr rfl
      · omega
  apply List.ext_getElem?
  intro i
  by_cases hi : i < G.length
  · have := key i hi
    unfold atN at this
    rw [List.getD_eq_getElem?_getD, List.getD_eq_getElem?_getD, List.getElem?_eq_getElem (by rw [h.len]; exact hi), List.getElem?_eq_getElem (by rw [h'.len]; exact hi)] at this
    rw [List.getElem?_eq_getElem (by rw [h.len]; exact hi), List.getElem?_eq_getElem (by rw [h'.len]; exact hi)]
    exact congrArg some this
  · rw [List.getElem?_eq_none (by rw [h.len]; omega), List.getElem?_eq_none (by rw [h'.len]; omega)]
end Wb
namespace Wb
open PySem PySem.Spec PyProof.Rows L2
section
variable {P : Program} {w : World} {K : PySem.W.Frag} {mg : Str → Option Value} {base : Heap}

abbrev nv (k : Nat) : V := .int (k : Int)
theorem small2000 {n : Nat} (h : n ≤ 2000) : n < sizeLine := Nat.lt_of_le_of_lt h (by rw [sizeLine_eq]; decide)
theorem ixN_n {n j : Nat} (hj : j < n) : ixN n (j : Int) = some j := by
  unfold ixN
  rw [if_pos (by omega), if_pos (by omega)]
  simp
theorem at_nat' {α : Type} {f : α → V} {l : List α} {k : Nat} {x : α} (h : l[k]? = some x) : atI (l.map f) (k : Int) = some (f x) := atI_nat (by rw [List.getElem?_map, h]; rfl)
theorem atN_get {R : List Int} {i : Nat} (h : i < R.length) : R[i]? = some (atN R i) := by
  unfold atN
  rw [List.getD_eq_getElem?_getD, List.getElem?_eq_getElem h]
  rfl
theorem set_map {α : Type} {f : α → V} {l : List α} {k : Nat} {x : α} : (l.map f).set k (f x) = (l.set k x).map f := by
  rw [List.map_set]
def failV (mK : Nat) (ft : Nat → Int) : List V := (List.range mK).map fun k => V.bl (decide (0 < ft k))
theorem failV_set {mK k : Nat} {ft : Nat → Int} {c : Int} (hc : 0 < c) : (failV mK ft).set k (.bl true) = failV mK (upF ft k c) := by
  apply List.ext_getElem?
  intro i
  unfold failV
  by_cases e : k = i
  · subst e
    by_cases h : k < mK
    · rw [List.getElem?_set_self (by simpa using h), List.getElem?_map, List.getElem?_range h]
      simp [upF, hc]
    · rw [List.getElem?_eq_none (by simp; omega), List.getElem?_eq_none (by simp; omega)]
  · rw [List.getElem?_set_ne e, List.getElem?_map, List.getElem?_map]
    by_cases h : i < mK
    · rw [List.getElem?_range h]
      show some (V.bl (decide (0 < ft i))) = some (V.bl (decide (0 < upF ft k c i)))
      rw [show upF ft k c i = ft i from if_neg (fun z : i = k => e z.symm)]
    · rw [List.getElem?_eq_none (by simp; omega)]
      rfl
theorem range_getD {α : Type} (F : List α) (d : α) : (List.range F.length).map (fun k => F.getD k d) = F := by
  apply List.ext_getElem?
  intro i
  rw [List.getElem?_map]
  by_cases h : i < F.length
  · rw [List.getElem?_range h]
    show some (F.getD i d) = _
    rw [List.getD_eq_getElem?_getD, List.getElem?_eq_getElem h]
    rfl
  · rw [List.getElem?_eq_none (by simp; omega), List.getElem?_eq_none (by omega)]
    rfl
theorem cnt_start (F : List (Nat × List Int)) (v : Nat) : cnt F.length (owF F) (fun _ => 0) v = F.countP fun p => decide (p.1 = v) := by
  have e : F.countP (fun p => decide (p.1 = v)) = ((List.range F.length).map (fun k => F.getD k (0, []))).countP (fun p => decide (p.1 = v)) := by rw [range_getD]
  rw [e, List.countP_map]
  unfold cnt
  apply List.countP_congr
  intro k hk
  simp [owF]
theorem failV_at {mK k : Nat} {ft : Nat → Int} (h : k < mK) : (failV mK ft)[k]? = some (V.bl (decide (0 < ft k))) := by
  unfold failV
  rw [List.getElem?_map, List.getElem?_range h]
  rfl
theorem failV_len {mK : Nat} {ft : Nat → Int} : (failV mK ft).length = mK := by simp [failV]
def doneOf (i : Nat) (σ : L2.St) : Nat := match (σ[i]? : Option (Option V)) with
  | some (some (V.int d)) => d.toNat
  | _ => 0
def sp_lost_in_turn (K : PySem.W.Frag) : Sp := fun vs H Q _ => ∃ (o u : Addr) (F : List (Nat × List Int)) (us : List Addr) (ut : Nat → List Nat), vs = [.ref o, .ref u] ∧ SqL K H o (F.map fun p => nv p.1) ∧ SqL K H u (us.map V.ref) ∧
  (∀ t p, us[t]? = some p → SqL K H p ((ut t).map nv)) ∧ (∀ t, t < us.length → ∀ k, k ∈ ut t ↔ k < F.length ∧ t ∈ tgF F k) ∧ (∀ k, k < F.length → owF F k < us.length) ∧ us.length ≤ 60 ∧ F.length ≤ 2000 ∧
  ∀ (p : Addr) (R : List Int) (ft : Nat → Int) (H' : Hp), Same H H' → H p = none → H' p = some (.lst (R.map V.int)) → Post us.length F.length (owF F) (tgF F) R ft → Q (.ref p) H'

theorem ok_lost_in_turn {f : Addr} {fd : FuncData} (F : Fun K "_lost_in_turn" "_lost_in_turn" s_lost_in_turn f fd) (T : Txt K mg) : FnOk P w K mg base CX0 1 f fd P_lost_in_turn (sp_lost_in_turn K) := by
  refine F.ok sc_lost_in_turn (fun vs H Q E h => ?_) (fun cdv A outer s H vs Q E hr h => ?_)
  · obtain ⟨o, u, F, us, ut, rfl, hO, hU, hut, huse, hown, hn, hF, k⟩ := h
    rfl
  · obtain ⟨o, u, F, us, ut, rfl, hO, hU, hut, huse, hown, hn, hF, k⟩ := h
    refine ⟨_, (pss_cons (ps_setLc (i := 2) (own := [("_", 10)]) rfl sc_lost_in_turn.nd rfl rfl (sw_true rfl rfl rfl (by decide +kernel)) (pi_list (pv 1)) (blkOk_by (own := [("_", 10)]) (N := N_lost_in_turn) (sc := defScope s_lost_in_turn) (by decide +kernel)) (fun _ _ _ _ _ => (pg_name (i := 10) sc_lost_in_turn.nd rfl (by first | exact Or.inl rfl | exact Or.inr rfl))) (fun _ _ _ _ _ => pts_nil) (fun _ _ _ _ _ => pe_int))
  (pss_cons (ps_for PassesOwn.never rfl (pi_list (pv 0)) (pg_name (i := 3) sc_lost_in_turn.nd rfl (by first | exact Or.inl rfl | exact Or.inr rfl))
  (pss_one (ps_augS (pv 2) (pv 3) get_list pe_int ip_add set_list)))
  (pss_cons (ps_setLc (i := 4) (g := gTup K 2 (gCons (gName 8) (gCons (gName 11) gNil))) (own := [("node", 8), ("count", 11)]) rfl sc_lost_in_turn.nd rfl rfl (sw_true rfl rfl rfl (by decide +kernel)) (pi_enum (by rfl) T.b_enumerate (pa_cons (pv 2) pa_nil)) (blkOk_by (own := [("node", 8), ("count", 11)]) (N := N_lost_in_turn) (sc := defScope s_lost_in_turn) (by decide +kernel)) (fun _ _ _ _ _ => (pg_tup rfl (pgs_cons (pg_name (i := 8) sc_lost_in_turn.nd rfl (by first | exact Or.inl rfl | exact Or.inr rfl)) (pgs_cons (pg_name (i := 11) sc_lost_in_turn.nd rfl (by first | exact Or.inl rfl | exact Or.inr rfl)) pgs_nil)))) (fun _ _ _ _ _ => (pts_one (pt_cmpR op_eq (pv 11) pe_int (nomark _)))) (fun _ _ _ _ _ => (pv 8)))
  (pss_cons (ps_setLc (i := 5) (own := [("count", 11)]) rfl sc_lost_in_turn.nd rfl rfl (sw_true rfl rfl rfl (by decide +kernel)) (pi_list (pv 2)) (blkOk_by (own := [("count", 11)]) (N := N_lost_in_turn) (sc := defScope s_lost_in_turn) (by decide +kernel)) (fun _ _ _ _ _ => (pg_name (i := 11) sc_lost_in_turn.nd rfl (by first | exact Or.inl rfl | exact Or.inr rfl))) (fun _ _ _ _ _ => pts_nil) (fun _ _ _ _ _ => (pe_ifExp (pt_cmpR op_eq (pv 11) pe_int (nomark _)) pe_int pe_int)))
  (pss_cons (ps_setLc (i := 6) (own := [("_", 10)]) rfl sc_lost_in_turn.nd rfl rfl (sw_true rfl rfl rfl (by decide +kernel)) (pi_list (pv 0)) (blkOk_by (own := [("_", 10)]) (N := N_lost_in_turn) (sc := defScope s_lost_in_turn) (by decide +kernel)) (fun _ _ _ _ _ => (pg_name (i := 10) sc_lost_in_turn.nd rfl (by first | exact Or.inl rfl | exact Or.inr rfl))) (fun _ _ _ _ _ => pts_nil) (fun _ _ _ _ _ => pe_bl))
  (pss_cons (ps_set (i := 7) sc_lost_in_turn.nd rfl (by first | exact Or.inl rfl | exact Or.inr rfl) pe_int)
  (pss_cons (ps_while PassesOwn.never (pt_cmpR op_lt (pv 7) (pe_callB call_len_seq (by rfl) T.b_len PySem.boot_len (pa_cons (pv 4) pa_nil)) (nomark _))
  (pss_cons (ps_set (i := 8) sc_lost_in_turn.nd rfl (by first | exact Or.inl rfl | exact Or.inr rfl) (pe_ix ix_list (pv 4) (pv 7) (fun _ _ => rfl)))
  (pss_cons (ps_aug (i := 7) sc_lost_in_turn.nd rfl (by first | exact Or.inl rfl | exact Or.inr rfl) pe_int ip_add)
  (pss_one (ps_for PassesOwn.never rfl (pi_list (pe_ix ix_list (pv 1) (pv 8) (fun _ _ => rfl))) (pg_name (i := 9) sc_lost_in_turn.nd rfl (by first | exact Or.inl rfl | exact Or.inr rfl))
  (pss_cons (ps_if (pt_val (pe_ix ix_list (pv 6) (pv 9) (fun _ _ => rfl)))
  (pss_one ps_continue)
  pss_nil)
  (pss_cons (ps_asg pe_bl (pg_sub (pv 6) (pv 9) set_list))
  (pss_cons (ps_set (i := 3) sc_lost_in_turn.nd rfl (by first | exact Or.inl rfl | exact Or.inr rfl) (pe_ix ix_list (pv 0) (pv 9) (fun _ _ => rfl)))
  (pss_cons (ps_augS (pv 2) (pv 3) get_list pe_int ip_sub set_list)
  (pss_one (ps_if (pt_cmpR op_eq (pe_ix ix_list (pv 2) (pv 3) (fun _ _ => rfl)) pe_int (nomark _))
  (pss_cons (ps_asg (pe_op op_add (pe_ix ix_list (pv 5) (pv 8) (fun _ _ => rfl)) pe_int) (pg_sub (pv 5) (pv 3) set_list))
  (pss_one (ps_expr (pe_bm PySem.F.plainAttrs_list PySem.F.slot_list_append PySem.F.type_list_append mt_append (pv 4) (pa_cons (pv 3) pa_nil)))))
  pss_nil)))))))))))
  (pss_one (ps_ret (pv 5)))))))))), ?_⟩
    -- left = [0 for _ in uses]
    refine ⟨_, rfl, u, rfl, ⟨_, hU⟩, fun L hL => ?_⟩
    refine lc_it walk_list (fun i H1 => H1 L = some (.lst (List.replicate i (V.int 0))) ∧ Same H H1) ⟨upd_same, Same.new hL⟩ (fun i H1 _ h => h.2.seq hU) ?_ ?_
    · rintro i x H1o H1 hi ⟨e1, s1⟩ ⟨rfl, hx⟩
      refine ⟨rfl, _, e1, small1000 (by simp at hi; simp; omega), ?_, fun b o e => ?_⟩
      · rw [List.replicate_succ']
        exact upd_same
      · rw [upd_ne (ne_of_none e hL)]
        exact s1 _ _ e
    rintro H1 ⟨e1, s1⟩
    rw [List.length_map] at e1
    -- for owner in owners: left[owner] += 1
    refine ⟨_, rfl, o, rfl, ⟨_, s1.seq hO⟩, ?_⟩
    refine for_it walk_list (fun i σ H2 => ∃ (w3 : Option V) (lf : List Int), σ = [some (.ref o), some (.ref u), some (.ref L), w3, none, none, none, none, none, none, none, none] ∧ H2 L = some (.lst (lf.map V.int)) ∧ lf.length = us.length ∧
        (∀ v, v < us.length → atN lf v = (((F.take i).countP fun p => decide (p.1 = v)) : Nat)) ∧ Same H H2)
      ⟨_, List.replicate us.length 0, rfl, by rw [List.map_replicate]; exact e1, by simp, fun v hv => by simp [atN, List.getElem?_replicate, hv], s1⟩ (fun i σ H2 _ ⟨_, _, _, _, _, _, s2⟩ => s2.seq hO) ?_ ?_
    · rintro i x σ H2o H2 hi ⟨w3, lf, rfl, e2, l2, c2, s2⟩ ⟨rfl, hx⟩
      obtain ⟨p, hp, rfl⟩ := map_at hx
      have hpi : i < F.length := (List.getElem?_eq_some_iff.mp hp).1
      have hpn : p.1 < us.length := by
        have := hown i hpi
        unfold owF at this
        rwa [List.getD_eq_getElem?_getD, hp] at this
      refine ⟨_, rfl, _, rfl, ?_⟩
      refine ⟨L, _, _, _, rfl, rfl, SqL.of e2, by omega, (by rw [Int.toNat_natCast, List.getElem?_map, atN_get (by omega)]; rfl), ?_⟩
      refine ⟨_, _, rfl, rfl, L, _, _, p.1, rfl, rfl, e2, ixN_n (by simp; omega), ?_⟩
      refine ⟨_, lf.set p.1 (atN lf p.1 + 1), rfl, by rw [← set_map]; exact upd_same, by rw [List.length_set]; exact l2, fun v hv => ?_, fun b o' e => ?_⟩
      · rw [take_snoc hp, List.countP_append]
        by_cases e : p.1 = v
        · subst e
          rw [atN_set_eq (by omega), c2 _ hv]
          simp
        · rw [atN_set_ne e, c2 _ hv]
          simp [e]
      · rw [upd_ne (ne_of_none e hL)]
        exact s2 _ _ e
    rintro σ H2 ⟨w3, lf, rfl, e2, l2, c2, s2⟩
    rw [List.length_map, List.take_length] at c2
    -- lost = [node for node, count in enumerate(left) if count == 0]
    refine ⟨_, rfl, L, _, rfl, SqL.of e2, fun D hD => ?_⟩
    refine lc_it walk_enum (fun i H3 => ∃ ls, ls = (List.range i).filter (fun v => decide (atN lf v = 0)) ∧ H3 D = some (.lst (ls.map nv)) ∧ Same H2 H3)
      ⟨[], rfl, upd_same, Same.new hD⟩ (fun i H3 _ ⟨_, _, _, s3⟩ => s3.seq (SqL.of e2)) ?_ ?_
    · rintro i x H3o H3 hi ⟨ls, rfl, e3, s3⟩ ⟨T0, x0, y0, rfl, hT, rfl, hx, hy⟩
      obtain rfl : x0 = nv i := (Option.some.inj hx).symm
      obtain ⟨z, hz, rfl⟩ := map_at hy
      have hi' : i < us.length := by rw [← l2]; simpa using hi
      have hzz : z = atN lf i := by rw [atN_get (by omega)] at hz; exact (Option.some.inj hz).symm
      have nDT : D ≠ T0 := ne_of_none e3 hT
      have hll : ((List.range i).filter (fun v => decide (atN lf v = 0))).length ≤ i := by
        have := List.length_filter_le (fun v => decide (atN lf v = 0)) (List.range i)
        rwa [List.length_range] at this
      refine ⟨T0, _, rfl, SqT.of upd_same, rfl, _, _, rfl, _, _, rfl, rfl, rfl, ?_⟩
      refine ⟨_, rfl, rfl, _, rfl, ?_⟩
      refine ite2 (fun c => ?_) (fun c => ?_)
      · have c : atN lf i = 0 := by have q := of_decide_eq_true c; injection q with q; rw [← hzz]; exact q
        refine ⟨_, rfl, _, (by rw [upd_ne nDT]; exact e3), small1000 (by simp; omega), _, rfl, ?_, fun b o' e => ?_⟩
        · rw [List.range_succ, List.filter_append, List.map_append]
          simp only [List.filter_cons, List.filter_nil, c, decide_true, if_true]
          exact upd_same
        · rw [upd_ne (ne_of_none e hD), upd_ne (ne_of_none (s3 _ _ e) hT)]
          exact s3 _ _ e
      · have c : ¬ atN lf i = 0 := fun q => c (decide_eq_true (by rw [hzz, q]))
        refine ⟨_, rfl, ?_, fun b o' e => ?_⟩
        · rw [List.range_succ, List.filter_append, List.map_append]
          simp only [List.filter_cons, List.filter_nil, c, decide_false, Bool.false_eq_true, if_false, List.map_nil, List.append_nil]
          rw [upd_ne nDT]
          exact e3
        · rw [upd_ne (ne_of_none (s3 _ _ e) hT)]
          exact s3 _ _ e
    rintro H3 ⟨ls, hls, e3, s3⟩
    rw [List.length_map, l2] at hls
    have e3L := s3 _ _ e2
    have nLD : L ≠ D := ne_of_none e2 hD
    -- found
    refine ⟨_, rfl, L, rfl, ⟨_, SqL.of e3L⟩, fun Fd hFd => ?_⟩
    refine lc_it walk_list (fun i H4 => H4 Fd = some (.lst ((List.range i).map fun v => V.int (if atN lf v = 0 then 1 else 0))) ∧ Same H3 H4)
      ⟨upd_same, Same.new hFd⟩ (fun i H4 _ h => h.2.seq (SqL.of e3L)) ?_ ?_
    · rintro i x H4o H4 hi ⟨e4, s4⟩ ⟨rfl, hx⟩
      obtain ⟨z, hz, rfl⟩ := map_at hx
      have hi' : i < us.length := by rw [← l2]; simpa using hi
      have hzz : z = atN lf i := by rw [atN_get (by omega)] at hz; exact (Option.some.inj hz).symm
      have ss : ∀ y, Same H3 (upd H4 Fd y) := fun y b o' e => by
        rw [upd_ne (ne_of_none e hFd)]
        exact s4 _ _ e
      refine ⟨rfl, _, rfl, rfl, _, rfl, ?_⟩
      refine ite2 (fun c => ?_) (fun c => ?_)
      · have c : atN lf i = 0 := by have q := of_decide_eq_true c; injection q with q; rw [← hzz]; exact q
        refine ⟨_, e4, small1000 (by simp; omega), ?_, ss _⟩
        rw [List.range_succ, List.map_append]
        simp only [List.map_cons, List.map_nil, c, if_true]
        exact upd_same
      · have c : ¬ atN lf i = 0 := fun q => c (decide_eq_true (by rw [hzz, q]))
        refine ⟨_, e4, small1000 (by simp; omega), ?_, ss _⟩
        rw [List.range_succ, List.map_append]
        simp only [List.map_cons, List.map_nil, c, if_false]
        exact upd_same
    rintro H4 ⟨e4, s4⟩
    rw [List.length_map, l2] at e4
    have s04 : Same H H4 := (s2.trans s3).trans s4
    -- failed
    refine ⟨_, rfl, o, rfl, ⟨_, s04.seq hO⟩, fun X hX => ?_⟩
    refine lc_it walk_list (fun i H5 => H5 X = some (.lst (List.replicate i (V.bl false))) ∧ Same H4 H5) ⟨upd_same, Same.new hX⟩ (fun i H5 _ h => (s04.trans h.2).seq hO) ?_ ?_
    · rintro i x H5o H5 hi ⟨e5, s5⟩ ⟨rfl, hx⟩
      refine ⟨rfl, _, e5, small2000 (by simp at hi; simp; omega), ?_, fun b o e => ?_⟩
      · rw [List.replicate_succ']
        exact upd_same
      · rw [upd_ne (ne_of_none e hX)]
        exact s5 _ _ e
    rintro H5 ⟨e5, s5⟩
    rw [List.length_map] at e5
    have e5L := s5 _ _ (s4 _ _ e3L)
    have e5D := s5 _ _ (s4 _ _ e3)
    have e5F := s5 _ _ e4
    have nLF : L ≠ Fd := ne_of_none e3L hFd
    have nDF : D ≠ Fd := ne_of_none e3 hFd
    have nLX : L ≠ X := ne_of_none (s4 _ _ e3L) hX
    have nDX : D ≠ X := ne_of_none (s4 _ _ e3) hX
    have nFX : Fd ≠ X := ne_of_none e4 hX
    have s05 : Same H H5 := s04.trans s5
    have h0L : H L = none := hL
    have h0D : H D = none := s2.free hD
    have h0F : H Fd = none := (s2.trans s3).free hFd
    have h0X : H X = none := s04.free hX
    let ow := owF F
    let T' := tgF F
    have B0 : BI us.length F.length ow T' lf ((List.range us.length).map fun v => if atN lf v = 0 then 1 else 0) ls (fun _ => 0) 0 1 := by
      refine BI.start l2 (by simp) hls (fun v hv => ?_) (fun v hv => ?_)
      · rw [c2 v hv, cnt_start]
      · show atN _ _ = _
        unfold atN
        rw [List.getD_eq_getElem?_getD, List.getElem?_map, List.getElem?_range hv]
        rfl
    -- the search
    refine while_by (fun σ H6 => ∃ (lf fd : List Int) (ls : List Nat) (ft : Nat → Int) (d : Nat) (cur : Int) (w3 w8 w9 w10 w11 : Option V), σ = [some (.ref o), some (.ref u), some (.ref L), w3, some (.ref D), some (.ref Fd), some (.ref X), some (nv d), w8, w9, w10, w11] ∧
        H6 L = some (.lst (lf.map V.int)) ∧ H6 D = some (.lst (ls.map nv)) ∧ H6 Fd = some (.lst (fd.map V.int)) ∧ H6 X = some (.lst (failV F.length ft)) ∧ Same H H6 ∧ BI us.length F.length ow T' lf fd ls ft d cur)
      (fun σ _ => us.length - doneOf 7 σ) ?_ ?_ ?_
    · refine ⟨lf, _, ls, fun _ => 0, 0, 1, _, _, _, _, _, rfl, e5L, e5D, by rw [List.map_map]; exact e5F, ?_, s05, B0⟩
      rw [e5]
      congr 2
      apply List.ext_getElem?
      intro i
      by_cases h : i < F.length
      · rw [failV_at h, List.getElem?_replicate, if_pos h]
        rfl
      · rw [List.getElem?_eq_none (by simp; omega), List.getElem?_eq_none (by rw [failV_len]; omega)]
    · rintro σ H6 ⟨lf, fd, ls, ft, d, cur, w3, w8, w9, w10, w11, rfl, e6L, e6D, e6F, e6X, s6, B⟩
      refine ⟨_, rfl, _, rfl, D, _, rfl, .inl (SqL.of e6D), _, _, rfl, rfl, _, rfl, ?_⟩
      have hll : ls.length ≤ us.length := nodup_le _ _ B.nd fun v hv => (B.lostR v hv).1
      refine ite2 (fun c => ?_) (fun c => ?_)
      · have c : d < ls.length := by have q := of_decide_eq_true c; rw [List.length_map] at q; omega
        have hv : ls[d]? = some ls[d] := List.getElem?_eq_getElem c
        generalize ls[d] = v at hv
        have hvn := (B.lostR v (List.mem_of_getElem? hv)).1
        have hus : us[v]? = some us[v] := List.getElem?_eq_getElem hvn
        generalize us[v] = q at hus
        have B1 := B.next hv
        refine ⟨_, rfl, _, rfl, D, _, _, _, rfl, rfl, SqL.of e6D, at_nat' hv, ?_⟩
        refine ⟨_, rfl, _, _, rfl, rfl, ?_⟩
        refine ⟨_, rfl, _, rfl, u, _, _, _, rfl, rfl, s6.seq hU, at_nat' hus, q, rfl, ⟨_, s6.seq (hut v q hus)⟩, ?_⟩
        refine for_it walk_list (fun j σ H7 => ∃ (lf fd : List Int) (ls : List Nat) (ft : Nat → Int) (w3 w9 w10 w11 : Option V), σ = [some (.ref o), some (.ref u), some (.ref L), w3, some (.ref D), some (.ref Fd), some (.ref X), some (.int ((d : Int) + 1)), some (nv v), w9, w10, w11] ∧
            H7 L = some (.lst (lf.map V.int)) ∧ H7 D = some (.lst (ls.map nv)) ∧ H7 Fd = some (.lst (fd.map V.int)) ∧ H7 X = some (.lst (failV F.length ft)) ∧ Same H H7 ∧
            (∃ cur, BI us.length F.length ow T' lf fd ls ft d cur ∧ atN fd v = cur) ∧ ls[d]? = some v ∧ ∀ k, k ∈ (ut v).take j → 0 < ft k)
          ⟨lf, fd, ls, ft, _, _, _, _, rfl, e6L, e6D, e6F, e6X, s6, ⟨_, B1, rfl⟩, hv, by simp⟩ (fun i σ H7 _ ⟨_, _, _, _, _, _, _, _, _, _, _, _, _, s7, _⟩ => s7.seq (hut v q hus)) ?_ ?_
        · rintro j x σ H7o H7 hj ⟨lf, fd, ls, ft, w3, w9, w10, w11, rfl, e7L, e7D, e7F, e7X, s7, ⟨cur, B, hcur⟩, hv, hdone⟩ ⟨rfl, hx⟩
          obtain ⟨k0, hk0, rfl⟩ := map_at hx
          obtain ⟨hkF, hkT⟩ := (huse v hvn k0).mp (List.mem_of_getElem? hk0)
          refine ⟨_, rfl, _, rfl, X, _, _, _, rfl, rfl, SqL.of e7X, atI_nat (failV_at hkF), _, rfl, ?_⟩
          refine ite2 (fun c => ?_) (fun c => ?_)
          · have c := of_decide_eq_true c
            refine ⟨lf, fd, ls, ft, _, _, _, _, rfl, e7L, e7D, e7F, e7X, s7, ⟨cur, B, hcur⟩, hv, fun k hk => ?_⟩
            rw [take_snoc hk0] at hk
            rcases List.mem_append.mp hk with z | z
            · exact hdone k z
            · rw [List.mem_singleton.mp z]
              exact c
          · have c : ft k0 = 0 := by
              have h1 : ¬ 0 < ft k0 := fun z => c (decide_eq_true z)
              have := (B.ft0 k0 hkF).1
              omega
            have c1 := B.cur1
            have hp : F[k0]? = some F[k0] := List.getElem?_eq_getElem hkF
            have how : ow k0 = (F[k0]).1 := by
              show (F.getD k0 (0, [])).1 = _
              rw [List.getD_eq_getElem?_getD, hp]
              rfl
            have hon : ow k0 < us.length := hown k0 hkF
            have hdone' : ∀ k, k ∈ (ut v).take (j + 1) → 0 < upF ft k0 cur k := fun k hk => by
              unfold upF
              split
              · omega
              · rename_i ne
                rw [take_snoc hk0] at hk
                rcases List.mem_append.mp hk with z | z
                · exact hdone k z
                · exact absurd (List.mem_singleton.mp z) ne
            refine ⟨_, rfl, _, rfl, X, _, _, k0, rfl, rfl, e7X, ixN_n (by rw [failV_len]; exact hkF), ?_⟩
            rw [failV_set (c := cur) (by omega)]
            refine ⟨_, rfl, _, rfl, o, _, _, _, rfl, rfl, (by
              refine Same.seq (fun b o' e => ?_) hO
              rw [upd_ne (ne_of_none e h0X)]
              exact s7 _ _ e), at_nat' hp, ?_⟩
            rw [← how]
            have e7L' : (upd H7 X (.lst (failV F.length (upF ft k0 cur)))) L = some (.lst (lf.map V.int)) := by rw [upd_ne nLX]; exact e7L
            refine ⟨_, rfl, _, rfl, L, _, _, _, rfl, rfl, SqL.of e7L', by omega, (by rw [Int.toNat_natCast, List.getElem?_map, atN_get (by rw [B.lenL]; exact hon)]; rfl), ?_⟩
            refine ⟨_, _, rfl, rfl, L, _, _, ow k0, rfl, rfl, e7L', ixN_n (by rw [List.length_map, B.lenL]; exact hon), ?_⟩
            rw [show (lf.map V.int).set (ow k0) (V.int (atN lf (ow k0) - 1)) = (lf.set (ow k0) (atN lf (ow k0) - 1)).map V.int from set_map]
            refine ⟨_, rfl, _, rfl, L, _, _, _, rfl, rfl, SqL.of upd_same, at_nat' (atN_get (by rw [List.length_set, B.lenL]; exact hon)), rfl, _, rfl, ?_⟩
            rw [atN_set_eq (by rw [B.lenL]; exact hon)]
            have s8 : ∀ y z, Same H (upd (upd H7 X y) L z) := fun y z b o' e => by
              rw [upd_ne (ne_of_none e h0L), upd_ne (ne_of_none e h0X)]
              exact s7 _ _ e
            refine ite2 (fun cz => ?_) (fun cz => ?_)
            · have cz : atN lf (ow k0) - 1 = 0 := by have q := of_decide_eq_true cz; injection q
              have hvF : fd[v]? = some (atN fd v) := atN_get (by rw [B.lenF]; exact hvn)
              have e8F : ∀ y z, (upd (upd H7 X y) L z) Fd = some (.lst (fd.map V.int)) := fun y z => by rw [upd_ne (Ne.symm nLF), upd_ne nFX]; exact e7F
              refine ⟨_, rfl, _, rfl, Fd, _, _, _, rfl, rfl, SqL.of (e8F _ _), at_nat' hvF, _, _, rfl, rfl, _, rfl, _, rfl, Fd, _, _, ow k0, rfl, rfl, e8F _ _, ixN_n (by rw [List.length_map, B.lenF]; exact hon), ?_⟩
              rw [hcur]
              rw [show (fd.map V.int).set (ow k0) (V.int (cur + 1)) = (fd.set (ow k0) (cur + 1)).map V.int from set_map]
              have e8D : ∀ y z x, (upd (upd (upd H7 X y) L z) Fd x) D = some (.lst (ls.map nv)) := fun y z x => by rw [upd_ne nDF, upd_ne (Ne.symm nLD), upd_ne nDX]; exact e7D
              have hl2 : ls.length ≤ us.length := nodup_le _ _ B.nd fun v hv => (B.lostR v hv).1
              refine ⟨_, rfl, .inl ⟨rfl, _, SqL.of (e8D _ _ _)⟩, _, rfl, D, _, _, rfl, rfl, e8D _ _ _, small1000 (by simp; omega), ?_⟩
              have hvo : ow k0 ≠ v := fun z => by
                have h1 := (B.lostR v (List.mem_of_getElem? hv)).2
                have h2 := (B.rk v hvn).mp h1
                rw [← z] at h2
                omega
              have hdl : d < ls.length := (List.getElem?_eq_some_iff.mp hv).1
              refine ⟨_, _, ls ++ [ow k0], _, _, _, _, _, rfl, ?_, ?_, ?_, ?_, ?_, ⟨cur, B.lose hv hcur hkF hkT c hon cz, by rw [atN_set_ne hvo]; exact hcur⟩, by rw [List.getElem?_append_left hdl]; exact hv, hdone'⟩
              · rw [upd_ne nLD, upd_ne nLF]; exact upd_same
              · rw [List.map_append]; exact upd_same
              · rw [upd_ne (Ne.symm nDF)]; exact upd_same
              · rw [upd_ne (Ne.symm nDX), upd_ne (Ne.symm nFX), upd_ne (Ne.symm nLX)]; exact upd_same
              · intro b o' e
                rw [upd_ne (ne_of_none e h0D), upd_ne (ne_of_none e h0F)]
                exact s8 _ _ b o' e
            · have cz : atN lf (ow k0) - 1 ≠ 0 := fun q => cz (decide_eq_true (by rw [q]))
              refine ⟨_, fd, ls, _, _, _, _, _, rfl, upd_same, ?_, ?_, ?_, s8 _ _, ⟨cur, B.fail hv hcur hkF hkT c hon cz, hcur⟩, hv, hdone'⟩
              · rw [upd_ne (Ne.symm nLD), upd_ne nDX]; exact e7D
              · rw [upd_ne (Ne.symm nLF), upd_ne nFX]; exact e7F
              · rw [upd_ne (Ne.symm nLX)]; exact upd_same
        · rintro σ H7 ⟨lf, fd, ls, ft, w3, w9, w10, w11, rfl, e7L, e7D, e7F, e7X, s7, ⟨cur, B, hcur⟩, hv, hdone⟩
          rw [List.length_map, List.take_length] at hdone
          refine ⟨⟨lf, fd, ls, ft, d + 1, cur, _, _, _, _, _, rfl, e7L, e7D, e7F, e7X, s7, B.over hv fun k hk hm => hdone k ((huse v hvn k).mpr ⟨hk, hm⟩)⟩, ?_⟩
          show us.length - ((d : Int) + 1).toNat < us.length - (d : Int).toNat
          omega
      · have c : ls.length ≤ d := by
          have q : ¬ (d : Int) < ((ls.map nv).length : Nat) := fun z => c (decide_eq_true z)
          rw [List.length_map] at q
          omega
        exact ⟨_, rfl, k Fd fd ft H6 s6 h0F e6F (B.post c)⟩
    · rintro σ H6 Q1 Q2 h ⟨x, hx, y, hy, p, ys, e1, e2, i, j, e3, e4, b, e5, q⟩
      exact ⟨x, hx, y, hy, p, ys, e1, e2, i, j, e3, e4, b, e5, h _ _ q⟩
end
section
variable {P : Program} {w : World} {K : PySem.W.Frag} {mg : Str → Option Value} {base : Heap}

theorem layAll (n : Nat) : ∀ ds : List PyData, (∀ d, d ∈ ds → d.canLay0 = true ∧ d.depth ≤ n) → PyData.canLayAll0 ds = true ∧ PyData.depthAll ds ≤ n
  | [], _ => ⟨rfl, Nat.zero_le _⟩
  | d :: ds, h => by
    obtain ⟨a, b⟩ := h d List.mem_cons_self
    obtain ⟨c, e⟩ := layAll n ds fun x hx => h x (List.mem_cons_of_mem _ hx)
    unfold PyData.canLayAll0 PyData.depthAll
    rw [a, c]
    exact ⟨rfl, Nat.max_le.mpr ⟨b, e⟩⟩
theorem layList (n : Nat) (ds : List PyData) (h : ∀ d, d ∈ ds → d.canLay0 = true ∧ d.depth ≤ n) : (PyData.list ds).canLay0 = true ∧ (PyData.list ds).depth ≤ n + 1 := by
  obtain ⟨a, b⟩ := layAll n ds h
  unfold PyData.canLay0 PyData.depth
  exact ⟨a, Nat.succ_le_succ b⟩
theorem shaped_of {d : PyData} {n : Nat} (h : d.canLay0 = true ∧ d.depth ≤ n) (hn : n ≤ 64) : SeqAt.shaped d = true := by
  unfold SeqAt.shaped
  rw [h.1]
  simp only [Bool.true_and, decide_eq_true_eq]
  omega
theorem layInts (l : List Int) : (PyData.list (l.map .int)).canLay0 = true ∧ (PyData.list (l.map .int)).depth ≤ 1 := layList 0 _ fun d hd => by
  obtain ⟨i, _, rfl⟩ := List.mem_map.mp hd
  exact ⟨by unfold PyData.canLay0; rfl, by unfold PyData.depth; exact Nat.le_refl _⟩
theorem layOpt (o : Option (List Int)) : (optD o).canLay0 = true ∧ (optD o).depth ≤ 1 := by
  cases o with
  | none => exact ⟨by unfold optD PyData.canLay0; rfl, by unfold optD PyData.depth; exact Nat.zero_le _⟩
  | some l => exact layInts l
theorem layGame (G : List Node) : (gameD G).canLay0 = true ∧ (gameD G).depth ≤ 3 := layList 2 _ fun d hd => by
  obtain ⟨nd, _, rfl⟩ := List.mem_map.mp hd
  refine layList 1 _ fun d hd => ?_
  obtain ⟨o, _, rfl⟩ := List.mem_map.mp hd
  exact layOpt o
theorem shGame (G : List Node) : SeqAt.shaped (gameD G) = true := shaped_of (layGame G) (by decide)
theorem shInts (l : List Int) : SeqAt.shaped (PyData.list (l.map .int)) = true := shaped_of (layInts l) (by decide)
theorem dpInts {K : PySem.W.Frag} {H : Hp} {p : Addr} {l : List Int} (h : SqL K H p (l.map V.int)) : Dp K H (.ref p) (.list (l.map .int)) := .lst h (dpAll_ints l)
/-- whose options by target: what uses holds while F are known -/
def Uses (H : Hp) (us : List Addr) (F : List (Nat × List Int)) : Prop := ∀ t q, us[t]? = some q → ∃ ut : List Nat, H q = some (.lst (ut.map nv)) ∧ ut.length ≤ 3 * F.length ∧ ∀ k, k ∈ ut ↔ k < F.length ∧ t ∈ tgF F k
theorem tgF_app {F : List (Nat × List Int)} {p : Nat × List Int} {k : Nat} (h : k < F.length) : tgF (F ++ [p]) k = tgF F k := by
  unfold tgF
  rw [List.getD_eq_getElem?_getD, List.getElem?_append_left h, List.getD_eq_getElem?_getD]
theorem tgF_last {F : List (Nat × List Int)} {i : Nat} {l : List Int} : tgF (F ++ [(i, l)]) F.length = l.map Int.toNat := by
  unfold tgF
  rw [List.getD_eq_getElem?_getD, List.getElem?_append_right (Nat.le_refl _)]
  simp
theorem opts_len (i : Nat) (nd : Node) : (opts i nd).length ≤ nd.length := List.length_filterMap_le _ _
theorem flatN_len {G : List Node} (hG : ∀ nd, nd ∈ G → nd.length ≤ 20) : ∀ i, (flatN G i).length ≤ 20 * i
  | 0 => Nat.le_refl _
  | i + 1 => by
    rw [flatN_succ, List.length_append]
    have h1 := flatN_len hG i
    have h2 := opts_len i (G.getD i [])
    have h3 : (G.getD i []).length ≤ 20 := by
      rw [List.getD_eq_getElem?_getD]
      cases e : G[i]? with
      | none => simp
      | some nd => exact hG nd (List.mem_of_getElem? e)
    omega
theorem opts_none {i : Nat} {nd : Node} {j : Nat} (h : nd[j]? = some none) : opts i (nd.take (j + 1)) = opts i (nd.take j) := by
  unfold opts
  rw [take_snoc h, List.filterMap_append]
  simp
theorem opts_some {i : Nat} {nd : Node} {j : Nat} {l : List Int} (h : nd[j]? = some (some l)) : opts i (nd.take (j + 1)) = opts i (nd.take j) ++ [(i, l)] := by
  unfold opts
  rw [take_snoc h, List.filterMap_append]
  simp
def spranks (K : PySem.W.Frag) : Sp := fun vs H Q _ => ∃ (g : Addr) (G : List Node), vs = [.ref g] ∧ Dp K H (.ref g) (gameD G) ∧ GOk G.length G ∧ G.length ≤ 60 ∧
  ∀ (p : Addr) (R : List Int) (H' : Hp), Same H H' → H p = none → H' p = some (.lst (R.map V.int)) → IsR G R → Q (.ref p) H'

theorem okranks {f : Addr} {fd : FuncData} (F : Fun K "ranks" "ranks" sranks f fd) (T : Txt K mg) (C_lost_in_turn : Cal P w K mg base "_lost_in_turn" P_lost_in_turn 1 (sp_lost_in_turn K)) (C_check_nodes : Cal P w K mg base "_check_nodes" P_check_nodes 2 (sp_check_nodes K)) : FnOk P w K mg base CX0 3 f fd Pranks (spranks K) := by
  obtain ⟨g_lost_in_turn, gd_lost_in_turn, G_lost_in_turn, m_lost_in_turn, k_lost_in_turn, b_lost_in_turn⟩ := C_lost_in_turn.ex
  obtain ⟨g_check_nodes, gd_check_nodes, G_check_nodes, m_check_nodes, k_check_nodes, b_check_nodes⟩ := C_check_nodes.ex
  obtain ⟨_, c__MOST_NODES⟩ := T.c__MOST_NODES
  refine F.ok scranks (fun vs H Q E h => ?_) (fun cdv A outer s H vs Q E hr h => ?_)
  · obtain ⟨g, G, rfl, hD, hok, hlen, k⟩ := h
    rfl
  · obtain ⟨g, G, rfl, hD, hok, hlen, k⟩ := h
    refine ⟨_, (pss_cons (ps_if (pt_cmpR op_gt (pe_callB call_len_seq (by rfl) T.b_len PySem.boot_len (pa_cons (pv 0) pa_nil)) (pe_glob (v := .int 12000) rfl c__MOST_NODES ⟨_, rfl⟩) (nomark _))
  (pss_one ps_never)
  pss_nil)
  (pss_cons (ps_expr (pe_call G_check_nodes (hr.mono (by decide)) (by rfl) m_check_nodes k_check_nodes b_check_nodes .nil pass0 (pa_cons (pv 0) pa_nil)))
  (pss_cons (ps_set (i := 1) scranks.nd rfl (by first | exact Or.inl rfl | exact Or.inr rfl) (pe_lst pa_nil))
  (pss_cons (ps_setLc (i := 2) (own := [("_", 7)]) rfl scranks.nd rfl rfl (sw_true rfl rfl rfl (by decide +kernel)) (pi_list (pv 0)) (blkOk_by (own := [("_", 7)]) (N := Nranks) (sc := defScope sranks) (by decide +kernel)) (fun _ _ _ _ _ => (pg_name (i := 7) scranks.nd rfl (by first | exact Or.inl rfl | exact Or.inr rfl))) (fun _ _ _ _ _ => pts_nil) (fun _ _ _ _ _ => (pe_lst pa_nil)))
  (pss_cons (ps_for PassesOwn.never rfl (pi_enum (by rfl) T.b_enumerate (pa_cons (pv 0) pa_nil)) (pg_tup rfl (pgs_cons (pg_name (i := 3) scranks.nd rfl (by first | exact Or.inl rfl | exact Or.inr rfl)) (pgs_cons (pg_name (i := 4) scranks.nd rfl (by first | exact Or.inl rfl | exact Or.inr rfl)) pgs_nil)))
  (pss_one (ps_for PassesOwn.never rfl (pi_list (pv 4)) (pg_name (i := 5) scranks.nd rfl (by first | exact Or.inl rfl | exact Or.inr rfl))
  (pss_one (ps_if (pt_cmpR op_notN (pv 5) pe_non (nomark _))
  (pss_cons (ps_for PassesOwn.never rfl (pi_list (pv 5)) (pg_name (i := 6) scranks.nd rfl (by first | exact Or.inl rfl | exact Or.inr rfl))
  (pss_one (ps_expr (pe_bm PySem.F.plainAttrs_list PySem.F.slot_list_append PySem.F.type_list_append mt_append (pe_ix ix_list (pv 2) (pv 6) (fun _ _ => rfl)) (pa_cons (pe_callB call_len_seq (by rfl) T.b_len PySem.boot_len (pa_cons (pv 1) pa_nil)) pa_nil)))))
  (pss_one (ps_expr (pe_bm PySem.F.plainAttrs_list PySem.F.slot_list_append PySem.F.type_list_append mt_append (pv 1) (pa_cons (pv 3) pa_nil)))))
  pss_nil)))))
  (pss_one (ps_ret (pe_call G_lost_in_turn (hr.mono (by decide)) (by rfl) m_lost_in_turn k_lost_in_turn b_lost_in_turn .nil pass0 (pa_cons (pv 1) (pa_cons (pv 2) pa_nil)))))))))), ?_⟩
    obtain ⟨xs, hS, hA⟩ := dp_list hD
    have hxl : xs.length = G.length := by rw [dpAll_len hA, List.length_map]
    refine ⟨_, rfl, g, _, rfl, .inl hS, _, _, rfl, rfl, _, rfl, ?_⟩
    refine ite2 (fun c => absurd (of_decide_eq_true c) (by omega)) (fun _ => ?_)
    refine ⟨_, rfl, g, G, rfl, hD, hok, ?_⟩
    refine ⟨Nat.zero_le _, fun o ho => ?_⟩
    -- uses = [[] for _ in game]
    refine ⟨_, rfl, g, rfl, ⟨_, (Same.new ho).seq hS⟩, fun U hU => ?_⟩
    refine lc_it walk_list (fun i H1 => ∃ us : List Addr, H1 U = some (.lst (us.map V.ref)) ∧ us.length = i ∧ us.Nodup ∧ (∀ q, q ∈ us → H1 q = some (.lst []) ∧ H q = none ∧ q ≠ U ∧ q ≠ o) ∧ Same (upd H o (.lst [])) H1)
      ⟨[], upd_same, rfl, .nil, by simp, Same.new hU⟩ (fun i H1 _ ⟨_, _, _, _, _, s1⟩ => ((Same.new ho).trans s1).seq hS) ?_ ?_
    · rintro i x H1o H1 hi ⟨us, e1, l1, n1, q1, s1⟩ ⟨rfl, hx⟩
      refine ⟨rfl, Nat.zero_le _, fun q hq => ?_⟩
      have nUq : U ≠ q := ne_of_none e1 hq
      refine ⟨_, (by rw [upd_ne nUq]; exact e1), small1000 (by rw [List.length_map]; omega), us ++ [q], by rw [List.map_append]; exact upd_same, by simp [l1], ?_, ?_, ?_⟩
      · rw [List.nodup_append]
        refine ⟨n1, by simp, fun a ha b hb e => ?_⟩
        rw [List.mem_singleton.mp hb] at e
        have := (q1 a ha).1
        rw [e, hq] at this
        cases this
      · intro p hp
        rcases List.mem_append.mp hp with z | z
        · obtain ⟨a, b, c, d⟩ := q1 p z
          refine ⟨?_, b, c, d⟩
          rw [upd_ne c, upd_ne (ne_of_none a hq)]
          exact a
        · rw [List.mem_singleton.mp z]
          refine ⟨?_, ((Same.new ho).trans s1).free hq, Ne.symm nUq, ?_⟩
          · rw [upd_ne (Ne.symm nUq)]
            exact upd_same
          · intro e
            rw [e, s1 _ _ upd_same] at hq
            cases hq
      · intro b o' e
        rw [upd_ne (ne_of_none e hU), upd_ne (ne_of_none (s1 _ _ e) hq)]
        exact s1 _ _ e
    rintro H1 ⟨us, e1, l1, n1, q1, s1⟩
    rw [hxl] at l1
    have h0U : H U = none := (Same.new ho).free hU
    have nUo : U ≠ o := fun e => by rw [e, upd_same] at hU; cases hU
    have s01 : Same H H1 := (Same.new ho).trans s1
    have q0 : ∀ t q, us[t]? = some q → H q = none ∧ q ≠ U ∧ q ≠ o := fun t q e => by
      obtain ⟨a, b, c, d⟩ := q1 q (List.mem_of_getElem? e)
      exact ⟨b, c, d⟩
    have fl : ∀ i, i ≤ G.length → (flatN G i).length ≤ 1200 := fun i hi => by
      have := flatN_len (fun nd hnd => (hok nd hnd).1) (G := G) i
      omega
    -- the loop over the nodes
    refine ⟨_, rfl, g, _, rfl, s01.seq hS, ?_⟩
    refine for_it walk_enum (fun i σ H2 => ∃ (w3 w4 w5 w6 w7 : Option V), σ = [some (.ref g), some (.ref o), some (.ref U), w3, w4, w5, w6, w7] ∧ H2 o = some (.lst ((flatN G i).map fun p => nv p.1)) ∧ H2 U = some (.lst (us.map V.ref)) ∧ Uses H2 us (flatN G i) ∧ Same H H2)
      ⟨_, _, _, _, _, rfl, s1 _ _ upd_same, e1, fun t q e => ⟨[], (q1 q (List.mem_of_getElem? e)).1, Nat.zero_le _, by simp [flatN]⟩, s01⟩ (fun i σ H2 _ ⟨_, _, _, _, _, _, _, _, _, s2⟩ => s2.seq hS) ?_ ?_
    · rintro i x σ H2o H2 hi ⟨w3, w4, w5, w6, w7, rfl, e2, eU, hus, s2⟩ ⟨T0, x0, y0, rfl, hT, rfl, hx, hy⟩
      obtain rfl : x0 = nv i := (Option.some.inj hx).symm
      have hi' : i < G.length := by rw [← hxl]; exact hi
      obtain ⟨d, hd, hyd⟩ := dpAll_get hA hy
      obtain ⟨nd, hnd, rfl⟩ := map_at hd
      obtain ⟨p, ws, rfl, hp, hws⟩ := dp_ref hyd
      have hok1 := hok nd (List.mem_of_getElem? hnd)
      have hgd : G.getD i [] = nd := by rw [List.getD_eq_getElem?_getD, hnd]; rfl
      have nn : ∀ {a z}, H2o a = some z → a ≠ T0 := fun h => ne_of_none h hT
      have s3 : Same H (upd H2o T0 (.tup [nv i, .ref p])) := s2.trans (Same.new hT)
      have hwl : ws.length = nd.length := by rw [dpAll_len hws, List.length_map]
      refine ⟨T0, _, rfl, SqT.of upd_same, rfl, _, _, rfl, _, _, rfl, rfl, ?_⟩
      refine ⟨_, rfl, p, rfl, ⟨_, s3.seq hp⟩, ?_⟩
      refine for_it walk_list (fun j σ H3 => ∃ (w5 w6 w7 : Option V), σ = [some (.ref g), some (.ref o), some (.ref U), some (nv i), some (.ref p), w5, w6, w7] ∧ H3 o = some (.lst ((flatN G i ++ opts i (nd.take j)).map fun p => nv p.1)) ∧ H3 U = some (.lst (us.map V.ref)) ∧
          Uses H3 us (flatN G i ++ opts i (nd.take j)) ∧ Same H H3)
        ⟨_, _, _, rfl, ?_, ?_, ?_, s3⟩ (fun j σ H3 _ ⟨_, _, _, _, _, _, _, s4⟩ => s4.seq hp) ?_ ?_
      · rw [upd_ne (nn e2)]
        show _ = some (HO.lst ((flatN G i ++ []).map fun p : Nat × List Int => nv p.1))
        rw [List.append_nil]
        exact e2
      · rw [upd_ne (nn eU)]; exact eU
      · intro t q e
        obtain ⟨ut, a, b, c⟩ := hus t q e
        refine ⟨ut, by rw [upd_ne (nn a)]; exact a, ?_⟩
        show ut.length ≤ 3 * (flatN G i ++ []).length ∧ ∀ k, k ∈ ut ↔ k < (flatN G i ++ []).length ∧ t ∈ tgF (flatN G i ++ []) k
        rw [List.append_nil]
        exact ⟨b, c⟩
      · rintro j y σ H3o H3 hj ⟨w5, w6, w7, rfl, e3, e3U, hus3, s4⟩ ⟨rfl, hy⟩
        obtain ⟨d, hd', hyd'⟩ := dpAll_get hws hy
        obtain ⟨op, hop, rfl⟩ := map_at hd'
        have hok2 := hok1.2 op (List.mem_of_getElem? hop)
        have lenF : (flatN G i ++ opts i (nd.take j)).length ≤ 1220 := by
          rw [List.length_append]
          have h1 := fl i (by omega)
          have h2 := opts_len i (nd.take j)
          have h3 := hok1.1
          rw [List.length_take] at h2
          omega
        refine ⟨_, rfl, rfl, _, rfl, ?_⟩
        rcases opt_v hyd' with ⟨rfl, rfl⟩ | ⟨l, q, rfl, rfl, hq⟩
        · refine ite2 (fun z => absurd z (by decide)) (fun _ => ?_)
          rw [opts_none hop]
          exact ⟨_, _, _, rfl, e3, e3U, hus3, s4⟩
        · refine ite2 (fun _ => ?_) (fun z => absurd (by rfl) z)
          rw [opts_some hop, ← List.append_assoc]
          generalize flatN G i ++ opts i (nd.take j) = F at *
          refine ⟨_, rfl, q, rfl, ⟨_, s4.seq hq⟩, ?_⟩
          refine for_it walk_list (fun r σ H4 => ∃ (w6 w7 : Option V), σ = [some (.ref g), some (.ref o), some (.ref U), some (nv i), some (.ref p), some (.ref q), w6, w7] ∧ H4 o = some (.lst (F.map fun p => nv p.1)) ∧ H4 U = some (.lst (us.map V.ref)) ∧
              (∀ t q, us[t]? = some q → ∃ ut : List Nat, H4 q = some (.lst (ut.map nv)) ∧ ut.length ≤ 3 * F.length + r ∧ ∀ k, k ∈ ut ↔ (k < F.length ∧ t ∈ tgF F k) ∨ (k = F.length ∧ t ∈ (l.take r).map Int.toNat)) ∧ Same H H4)
            ⟨_, _, rfl, e3, e3U, fun t q e => ?_, s4⟩ (fun j σ H4 _ ⟨_, _, _, _, _, _, s5⟩ => s5.seq hq) ?_ ?_
          · obtain ⟨ut, a, b, c⟩ := hus3 t q e
            exact ⟨ut, a, b, fun k => by rw [c k]; simp⟩
          · rintro r z σ H4o H4 hr ⟨w6, w7, rfl, e4, e4U, hus4, s5⟩ ⟨rfl, hz⟩
            obtain ⟨t0, ht0, rfl⟩ := map_at hz
            have hb := (hok2 l rfl).2 t0 (List.mem_of_getElem? ht0)
            obtain ⟨tn, rfl⟩ : ∃ tn : Nat, t0 = (tn : Int) := ⟨t0.toNat, by omega⟩
            have htn : tn < us.length := by omega
            have hq0 : us[tn]? = some us[tn] := List.getElem?_eq_getElem htn
            generalize us[tn] = qq at hq0
            obtain ⟨ut, a, b, c⟩ := hus4 tn qq hq0
            obtain ⟨z1, z2, z3⟩ := q0 tn qq hq0
            have lr : r < 3 := by have := (hok2 l rfl).1; have := (List.getElem?_eq_some_iff.mp ht0).1; omega
            refine ⟨_, rfl, _, rfl, U, _, _, _, rfl, rfl, SqL.of e4U, at_nat' hq0, .inl ⟨rfl, _, SqL.of a⟩, _, rfl, o, _, rfl, .inl (SqL.of e4), qq, _, _, rfl, rfl, a, Nat.lt_of_le_of_lt (m := 4000) (by rw [List.length_map]; omega) (by rw [sizeLine_eq]; decide), ?_⟩
            refine ⟨_, _, rfl, by rw [upd_ne (Ne.symm z3)]; exact e4, by rw [upd_ne (Ne.symm z2)]; exact e4U, fun t q e => ?_, fun b' o' e => by rw [upd_ne (ne_of_none e z1)]; exact s5 _ _ e⟩
            rw [List.length_map]
            by_cases et : t = tn
            · subst et
              rw [hq0] at e
              have e := Option.some.inj e
              subst e
              refine ⟨ut ++ [F.length], by rw [List.map_append]; exact upd_same, by rw [List.length_append, List.length_singleton]; omega, fun k => ?_⟩
              have hm : t ∈ ([(t : Int)] : List Int).map Int.toNat := by simp
              rw [List.mem_append, c k, take_snoc ht0, List.map_append, List.mem_append, List.mem_singleton]
              constructor
              · rintro ((z | ⟨z1, z2⟩) | z)
                · exact .inl z
                · exact .inr ⟨z1, .inl z2⟩
                · exact .inr ⟨z, .inr hm⟩
              · rintro (z | ⟨z, _⟩)
                · exact .inl (.inl z)
                · exact .inr z
            · obtain ⟨ut', a', b', c'⟩ := hus4 t q e
              have nq : q ≠ qq := fun z => et (nd_ix n1 e (z ▸ hq0))
              refine ⟨ut', by rw [upd_ne nq]; exact a', by omega, fun k => ?_⟩
              have hm : ¬ t ∈ ([(tn : Int)] : List Int).map Int.toNat := by simp; exact et
              rw [c' k, take_snoc ht0, List.map_append, List.mem_append]
              constructor
              · rintro (z | ⟨z1, z2⟩)
                · exact .inl z
                · exact .inr ⟨z1, .inl z2⟩
              · rintro (z | ⟨z1, z2 | z2⟩)
                · exact .inl z
                · exact .inr ⟨z1, z2⟩
                · exact absurd z2 hm
          · rintro σ H4 ⟨w6, w7, rfl, e4, e4U, hus4, s5⟩
            rw [List.length_map, List.take_length] at hus4
            refine ⟨_, rfl, .inl ⟨rfl, _, SqL.of e4⟩, _, rfl, o, _, _, rfl, rfl, e4, small2000 (by rw [List.length_map]; omega), ?_⟩
            refine ⟨_, _, _, rfl, by rw [List.map_append]; exact upd_same, by rw [upd_ne nUo]; exact e4U, fun t q e => ?_, fun b' o' e => by rw [upd_ne (ne_of_none e ho)]; exact s5 _ _ e⟩
            obtain ⟨ut, a, b, c⟩ := hus4 t q e
            have l3 := (hok2 l rfl).1
            refine ⟨ut, by rw [upd_ne (q0 t q e).2.2]; exact a, by rw [List.length_append, List.length_singleton]; omega, fun k => ?_⟩
            rw [c k, List.length_append, List.length_singleton]
            constructor
            · rintro (⟨z1, z2⟩ | ⟨rfl, z⟩)
              · exact ⟨by omega, by rw [tgF_app z1]; exact z2⟩
              · exact ⟨by omega, by rw [tgF_last]; exact z⟩
            · rintro ⟨z1, z2⟩
              by_cases h : k < F.length
              · rw [tgF_app h] at z2
                exact .inl ⟨h, z2⟩
              · have h : k = F.length := by omega
                subst h
                rw [tgF_last] at z2
                exact .inr ⟨rfl, z2⟩
      · rintro σ H3 ⟨w5, w6, w7, rfl, e3, e3U, hus3, s4⟩
        rw [hwl, List.take_length] at e3 hus3
        rw [← hgd, ← flatN_succ] at e3 hus3
        exact ⟨_, _, _, _, _, rfl, e3, e3U, hus3, s4⟩
    · rintro σ H2 ⟨w3, w4, w5, w6, w7, rfl, e2, eU, hus, s2⟩
      rw [hxl] at e2 hus
      have hch : ∀ t, ∃ ut : List Nat, ∀ q, us[t]? = some q → H2 q = some (.lst (ut.map nv)) ∧ ∀ k, k ∈ ut ↔ k < (flatN G G.length).length ∧ t ∈ tgF (flatN G G.length) k := fun t => by
        cases e : us[t]? with
        | none => exact ⟨[], fun q z => by cases z⟩
        | some q =>
          obtain ⟨ut, a, b, c⟩ := hus t q e
          exact ⟨ut, fun q' z => by rw [← Option.some.inj z]; exact ⟨a, c⟩⟩
      obtain ⟨ut, hut⟩ := Classical.axiomOfChoice hch
      refine ⟨_, rfl, _, rfl, o, U, flatN G G.length, us, ut, rfl, SqL.of e2, SqL.of eU, fun t q e => SqL.of (hut t q e).1, fun t ht k => (hut t _ (List.getElem?_eq_getElem ht)).2 k, fun k hk => ?_, by omega, by have := fl G.length (Nat.le_refl _); omega, fun p R ft H' s' hp' eR P => ?_⟩
      · have e : (flatN G G.length)[k]? = some (flatN G G.length)[k] := List.getElem?_eq_getElem hk
        unfold owF
        rw [List.getD_eq_getElem?_getD, e]
        rcases hq : (flatN G G.length)[k] with ⟨i, l⟩
        have := (mem_flat (G := G) (Nat.le_refl _)).mp (List.mem_of_getElem? (by rw [e, hq]))
        rw [l1]
        exact this.1
      · rw [l1] at P
        exact k p R H' (s2.trans s') (s2.free hp') eR (isR_of hok P)
end
end Wb

namespace Wb
open PySem PySem.Spec PyProof.Rows L2
section
variable {P : Program} {w : World} {K : PySem.W.Frag} {mg : Str → Option Value} {base : Heap}

def isGood (R : List Int) : Option (List Int) → Bool
  | none => false
  | some l => l.all fun t => decide (atR R t = 0)
def goodP (R : List Int) (nd : Node) : List Nat := (List.range nd.length).filter fun j => isGood R ((nd[j]?).getD none)
def spo (R : List Int) (r : Int) : Option (List Int) → Option Int
  | none => none
  | some l => l.find? fun t => decide (0 < atR R t ∧ atR R t < r)
def oV : Option Int → V
  | none => .non
  | some t => .int t
def oD : Option Int → PyData
  | none => .none
  | some t => .int t
theorem oVD {K : PySem.W.Frag} {H : Hp} (o : Option Int) : Dp K H (oV o) (oD o) := by
  cases o with
  | none => exact .non
  | some t => exact .int t
theorem dpAll_o {K : PySem.W.Frag} {H : Hp} : ∀ (l : List (Option Int)), DpAll K H (l.map oV) (l.map oD)
  | [] => .nil
  | i :: l => .cons (oVD i) (dpAll_o l)
theorem layO (l : List (Option Int)) : (PyData.list (l.map oD)).canLay0 = true ∧ (PyData.list (l.map oD)).depth ≤ 1 := layList 0 _ fun d hd => by
  obtain ⟨i, _, rfl⟩ := List.mem_map.mp hd
  cases i with
  | none => exact ⟨by unfold oD PyData.canLay0; rfl, by unfold oD PyData.depth; exact Nat.le_refl _⟩
  | some t => exact ⟨by unfold oD PyData.canLay0; rfl, by unfold oD PyData.depth; exact Nat.le_refl _⟩
def nD (k : Nat) : PyData := .int (k : Int)
theorem dpAll_n {K : PySem.W.Frag} {H : Hp} : ∀ (l : List Nat), DpAll K H (l.map nv) (l.map nD)
  | [] => .nil
  | i :: l => .cons (.int _) (dpAll_n l)
theorem layN (l : List Nat) : (PyData.list (l.map nD)).canLay0 = true ∧ (PyData.list (l.map nD)).depth ≤ 1 := layList 0 _ fun d hd => by
  obtain ⟨i, _, rfl⟩ := List.mem_map.mp hd
  exact ⟨by unfold nD PyData.canLay0; rfl, by unfold nD PyData.depth; exact Nat.le_refl _⟩
def sp_is_good (K : PySem.W.Frag) : Sp := fun vs H Q _ => ∃ (x : V) (f : Addr) (o : Option (List Int)) (R : List Int), vs = [x, .ref f] ∧ Dp K H x (optD o) ∧ SqL K H f (R.map V.int) ∧ OptOk R.length o ∧ ∀ H', Same H H' → Q (.bl (isGood R o)) H'
def sp_spoiler (K : PySem.W.Frag) : Sp := fun vs H Q _ => ∃ (x : V) (f : Addr) (o : Option (List Int)) (R : List Int) (r : Int), vs = [x, .ref f, .int r] ∧ Dp K H x (optD o) ∧ SqL K H f (R.map V.int) ∧ OptOk R.length o ∧ Q (oV (spo R r o)) H
def spgood_options (K : PySem.W.Frag) : Sp := fun vs H Q _ => ∃ (g f : Addr) (G : List Node) (R : List Int) (i : Nat) (nd : Node), vs = [.ref g, .ref f, nv i] ∧ Dp K H (.ref g) (gameD G) ∧ SqL K H f (R.map V.int) ∧ GOk R.length G ∧ G[i]? = some nd ∧
  ∀ (p : Addr) (H' : Hp), Same H H' → H p = none → H' p = some (.lst ((goodP R nd).map nv)) → Q (.ref p) H'
def spspoilers (K : PySem.W.Frag) : Sp := fun vs H Q _ => ∃ (g f : Addr) (G : List Node) (R : List Int) (i : Nat) (nd : Node) (r : Int), vs = [.ref g, .ref f, nv i] ∧ Dp K H (.ref g) (gameD G) ∧ SqL K H f (R.map V.int) ∧ GOk R.length G ∧ G[i]? = some nd ∧ R[i]? = some r ∧
  ∀ (p : Addr) (H' : Hp), Same H H' → H p = none → H' p = some (.lst ((if r = 0 then [] else nd.map (spo R r)).map oV)) → Q (.ref p) H'
def sp_law_good (K : PySem.W.Frag) : Sp := fun vs H Q _ => ∃ (o f : Addr) (nd : Node) (R : List Int), vs = [.ref o, .ref f] ∧ Dp K H (.ref o) (nodeD nd) ∧ SqL K H f (R.map V.int) ∧ NodeOk R.length nd ∧
  ∀ (p : Addr) (H' : Hp), Same H H' → H p = none → H' p = some (.lst ((goodP R nd).map nv)) → Q (.ref p) H'
def sp_law_spoilers (K : PySem.W.Frag) : Sp := fun vs H Q _ => ∃ (o f : Addr) (nd : Node) (R : List Int) (r : Int), vs = [.ref o, .ref f, .int r] ∧ Dp K H (.ref o) (nodeD nd) ∧ SqL K H f (R.map V.int) ∧ NodeOk R.length nd ∧ (∀ l, some l ∈ nd → ∃ t, t ∈ l ∧ 0 < atR R t ∧ atR R t < r) ∧
  ∀ (p : Addr) (H' : Hp), Same H H' → H p = none → H' p = some (.lst ((nd.map (spo R r)).map oV)) → Q (.ref p) H'
theorem goodP_len (R : List Int) (nd : Node) : (goodP R nd).length ≤ nd.length := by
  have := List.length_filter_le (fun j => isGood R ((nd[j]?).getD none)) (List.range nd.length)
  rwa [List.length_range] at this
def goodN (R : List Int) (nd : Node) (i : Nat) : List Nat := (List.range i).filter fun j => isGood R ((nd[j]?).getD none)
theorem goodN_len (R : List Int) (nd : Node) (i : Nat) : (goodN R nd i).length ≤ i := by
  have := List.length_filter_le (fun j => isGood R ((nd[j]?).getD none)) (List.range i)
  rwa [List.length_range] at this
theorem goodN_snoc {R : List Int} {nd : Node} {i : Nat} {o : Option (List Int)} (h : nd[i]? = some o) : goodN R nd (i + 1) = if isGood R o = true then goodN R nd i ++ [i] else goodN R nd i := by
  unfold goodN
  rw [List.range_succ, List.filter_append]
  simp only [List.filter_cons, List.filter_nil, h, Option.getD_some]
  split <;> simp

theorem ok_is_good {f : Addr} {fd : FuncData} (F : Fun K "_is_good" "_is_good" s_is_good f fd) (T : Txt K mg) : FnOk P w K mg base CX0 1 f fd P_is_good (sp_is_good K) := by
  refine F.ok sc_is_good (fun vs H Q E h => ?_) (fun cdv A outer s H vs Q E hr h => ?_)
  · obtain ⟨x, f, o, R, rfl, hD, hS, hok, k⟩ := h
    rfl
  · obtain ⟨x, f, o, R, rfl, hD, hS, hok, k⟩ := h
    refine ⟨_, (pss_one (ps_ret (pe_and (pe_cmpR op_notN (pv 0) pe_non (nomark _)) (pe_one (pe_callB (id := "all") (cr_all rfl) (by rfl) T.b_all (by decide +kernel) (pa_cons (pe_lc (own := [("target", 2)]) rfl sc_is_good.nd (pi_list (pv 0)) (blkOk_by (own := [("target", 2)]) (N := N_is_good) (sc := defScope s_is_good) (by decide +kernel)) (fun _ _ _ _ _ => (pg_name (i := 2) sc_is_good.nd rfl (by first | exact Or.inl rfl | exact Or.inr rfl))) (fun _ _ _ _ _ => pts_nil) (fun _ _ _ _ _ => (pe_cmpR op_eq (pe_ix (r := rIxL K) ix_list (pv 1) (pv 2) (fun _ _ => rfl)) pe_int (nomark _)))) pa_nil)))))), ?_⟩
    refine ⟨_, rfl, rfl, _, rfl, ?_⟩
    rcases opt_v hD with ⟨rfl, rfl⟩ | ⟨l, q, rfl, rfl, hq⟩
    · refine ite2 (fun z => absurd z (by decide)) (fun _ => ?_)
      exact k H (Same.refl H)
    · refine ite2 (fun _ => ?_) (fun z => absurd (by rfl) z)
      refine ⟨_, rfl, q, rfl, ⟨_, hq⟩, fun D hD0 => ?_⟩
      refine lc_it walk_list (fun i H1 => H1 D = some (.lst (((l.take i).map fun t => decide (atR R t = 0)).map V.bl)) ∧ Same H H1) ⟨upd_same, Same.new hD0⟩ (fun i H1 _ h => h.2.seq hq) ?_ ?_
      · rintro i x H1o H1 hi ⟨e1, s1⟩ ⟨rfl, hx⟩
        obtain ⟨t, ht, rfl⟩ := map_at hx
        have hb := (hok l rfl).2 t (List.mem_of_getElem? ht)
        have hl := (hok l rfl).1
        refine ⟨rfl, ?_⟩
        refine ⟨_, rfl, _, rfl, f, _, _, _, rfl, rfl, s1.seq hS, at_int hb.1 hb.2, ?_⟩
        refine ⟨rfl, _, e1, small1000 (by rw [List.length_map, List.length_map, List.length_take]; omega), ?_, fun b o e => by rw [upd_ne (ne_of_none e hD0)]; exact s1 _ _ e⟩
        rw [take_snoc ht, List.map_append, List.map_append]
        have e : (decide (V.int (atR R t) = V.int 0)) = decide (atR R t = 0) := by simp
        rw [e]
        exact upd_same
      · rintro H1 ⟨e1, s1⟩
        rw [List.length_map, List.take_length] at e1
        refine ⟨D, _, rfl, SqL.of e1, ?_⟩
        have e : (l.map fun t => decide (atR R t = 0)).all id = isGood R (some l) := by rw [List.all_map]; rfl
        rw [e]
        exact k H1 s1

theorem ok_spoiler {f : Addr} {fd : FuncData} (F : Fun K "_spoiler" "_spoiler" s_spoiler f fd) (T : Txt K mg) : FnOk P w K mg base CX0 1 f fd P_spoiler (sp_spoiler K) := by
  refine F.ok sc_spoiler (fun vs H Q E h => ?_) (fun cdv A outer s H vs Q E hr h => ?_)
  · obtain ⟨x, f, o, R, r, rfl, hD, hS, hok, k⟩ := h
    rfl
  · obtain ⟨x, f, o, R, r, rfl, hD, hS, hok, k⟩ := h
    refine ⟨_, (pss_cons (ps_if (pt_cmpR op_isN (pv 0) pe_non (nomark _))
  (pss_one (ps_ret pe_non))
  pss_nil)
  (pss_cons (ps_for PassesOwn.never rfl (pi_list (pv 0)) (pg_name (i := 3) sc_spoiler.nd rfl (by first | exact Or.inl rfl | exact Or.inr rfl))
  (pss_one (ps_if (pt_chain op_lt op_lt pe_int (pe_ix ix_list (pv 1) (pv 3) (fun _ _ => rfl)) (pv 2))
  (pss_one (ps_ret (pv 3)))
  pss_nil)))
  (pss_one (ps_ret pe_non)))), ?_⟩
    refine ⟨_, rfl, rfl, _, rfl, ?_⟩
    rcases opt_v hD with ⟨rfl, rfl⟩ | ⟨l, q, rfl, rfl, hq⟩
    · refine ite2 (fun _ => ?_) (fun z => absurd (decide_eq_true rfl) z)
      exact k
    · refine ite2 (fun z => absurd (of_decide_eq_true z) (by intro z; cases z)) (fun _ => ?_)
      refine ⟨_, rfl, q, rfl, ⟨_, hq⟩, ?_⟩
      refine for_it walk_list (fun i σ H1 => ∃ (w3 : Option V), σ = [some (.ref q), some (.ref f), some (.int r), w3] ∧ spo R r (some l) = (l.drop i).find? (fun t => decide (0 < atR R t ∧ atR R t < r)) ∧ H1 = H)
        ⟨_, rfl, rfl, rfl⟩ (fun i σ H1 _ ⟨_, _, _, e⟩ => by rw [e]; exact hq) ?_ ?_
      · rintro i x σ H1o H1 hi ⟨w3, rfl, hf, rfl⟩ ⟨rfl, hx⟩
        obtain ⟨t, ht, rfl⟩ := map_at hx
        have hb := (hok l rfl).2 t (List.mem_of_getElem? ht)
        rw [drop_cons ht, List.find?_cons] at hf
        refine ⟨_, rfl, _, rfl, f, _, _, _, rfl, rfl, hS, at_int hb.1 hb.2, _, _, rfl, rfl, _, rfl, ?_⟩
        refine ite2 (fun c1 => ?_) (fun c1 => ?_)
        · have c1 := of_decide_eq_true c1
          refine ⟨_, rfl, _, _, rfl, rfl, _, rfl, ?_⟩
          refine ite2 (fun c2 => ?_) (fun c2 => ?_)
          · have c2 := of_decide_eq_true c2
            rw [decide_eq_true (show 0 < atR R t ∧ atR R t < r from ⟨c1, c2⟩)] at hf
            rw [hf] at k
            exact ⟨_, rfl, k⟩
          · rw [decide_eq_false (show ¬ (0 < atR R t ∧ atR R t < r) from fun z => c2 (decide_eq_true z.2))] at hf
            exact ⟨_, rfl, hf, rfl⟩
        · refine ⟨_, rfl, ite2 (fun z => absurd z (by decide)) (fun _ => ?_)⟩
          rw [decide_eq_false (show ¬ (0 < atR R t ∧ atR R t < r) from fun z => c1 (decide_eq_true z.1))] at hf
          exact ⟨_, rfl, hf, rfl⟩
      · rintro σ H1 ⟨w3, rfl, hf, rfl⟩
        rw [List.length_map, List.drop_length] at hf
        rw [hf] at k
        exact k

theorem okgood_options {f : Addr} {fd : FuncData} (F : Fun K "good_options" "good_options" sgood_options f fd) (T : Txt K mg) (C_is_good : Cal P w K mg base "_is_good" P_is_good 1 (sp_is_good K)) : FnOk P w K mg base CX0 2 f fd Pgood_options (spgood_options K) := by
  obtain ⟨g_is_good, gd_is_good, G_is_good, m_is_good, k_is_good, b_is_good⟩ := C_is_good.ex
  refine F.ok scgood_options (fun vs H Q E h => ?_) (fun cdv A outer s H vs Q E hr h => ?_)
  · obtain ⟨g, f, G, R, i, nd, rfl, hD, hS, hok, hnd, k⟩ := h
    rfl
  · obtain ⟨g, f, G, R, i, nd, rfl, hD, hS, hok, hnd, k⟩ := h
    refine ⟨_, (pss_one (ps_ret (pe_lc (g := gTup K 2 (gCons (gName 3) (gCons (gName 4) gNil))) (own := [("place", 3), ("option", 4)]) rfl scgood_options.nd (pi_enum (by rfl) T.b_enumerate (pa_cons (pe_ix ix_list (pv 0) (pv 2) (fun _ _ => rfl)) pa_nil)) (blkOk_by (own := [("place", 3), ("option", 4)]) (N := Ngood_options) (sc := defScope sgood_options) (by decide +kernel)) (fun _ _ _ _ _ => (pg_tup rfl (pgs_cons (pg_name (i := 3) scgood_options.nd rfl (by first | exact Or.inl rfl | exact Or.inr rfl)) (pgs_cons (pg_name (i := 4) scgood_options.nd rfl (by first | exact Or.inl rfl | exact Or.inr rfl)) pgs_nil)))) (fun _ _ _ _ _ => (pts_one (pt_val (pe_call G_is_good (hr.mono (by decide)) (by rfl) m_is_good k_is_good b_is_good .nil pass0 (pa_cons (pv 4) (pa_cons (pv 1) pa_nil)))))) (fun _ _ _ _ _ => (pv 3))))), ?_⟩
    obtain ⟨xs, hS1, hA⟩ := dp_list hD
    have hin : i < G.length := (List.getElem?_eq_some_iff.mp hnd).1
    have hxl : xs.length = G.length := by rw [dpAll_len hA, List.length_map]
    have hx : xs[i]? = some xs[i] := List.getElem?_eq_getElem (by omega)
    generalize xs[i] = v at hx
    obtain ⟨d, hd, hv⟩ := dpAll_get hA hx
    obtain ⟨nd', hnd', rfl⟩ := map_at hd
    obtain rfl : nd' = nd := by rw [hnd] at hnd'; exact (Option.some.inj hnd').symm
    obtain ⟨q, ws, rfl, hq, hws⟩ := dp_ref hv
    have hok1 := hok nd' (List.mem_of_getElem? hnd)
    have hwl : ws.length = nd'.length := by rw [dpAll_len hws, List.length_map]
    refine ⟨_, rfl, _, rfl, g, _, _, _, rfl, rfl, hS1, atI_nat hx, q, _, rfl, hq, fun D hD0 => ?_⟩
    refine lc_it walk_enum (fun i H1 => H1 D = some (.lst ((goodN R nd' i).map nv)) ∧ Same H H1) ⟨upd_same, Same.new hD0⟩ (fun i H1 _ h => h.2.seq hq) ?_ ?_
    · rintro j x H1o H1 hi ⟨e1, s1⟩ ⟨T0, x0, y0, rfl, hT, rfl, hx0, hy⟩
      obtain rfl : x0 = nv j := (Option.some.inj hx0).symm
      obtain ⟨d, hd', hyd⟩ := dpAll_get hws hy
      obtain ⟨op, hop, rfl⟩ := map_at hd'
      have hsn := goodN_snoc (R := R) hop
      have s1T : Same H (upd H1o T0 (.tup [nv j, y0])) := s1.trans (Same.new hT)
      have nDT : D ≠ T0 := ne_of_none e1 hT
      refine ⟨T0, _, rfl, SqT.of upd_same, rfl, _, _, rfl, _, _, rfl, rfl, rfl, ?_⟩
      refine ⟨_, rfl, _, rfl, y0, f, op, R, rfl, dp_same s1T hyd, s1T.seq hS, hok1.2 op (List.mem_of_getElem? hop), fun H2 s2 => ?_⟩
      have e2 : H2 D = some (.lst ((goodN R nd' j).map nv)) := s2 _ _ (by rw [upd_ne nDT]; exact e1)
      refine ⟨_, rfl, ?_⟩
      have := goodN_len R nd' j
      have hj : j < 20 := by have := hok1.1; omega
      refine ite2 (fun c => ?_) (fun c => ?_)
      · rw [if_pos c] at hsn
        refine ⟨_, rfl, _, e2, small1000 (by rw [List.length_map]; omega), ?_, fun b o e => by rw [upd_ne (ne_of_none e hD0)]; exact s2 _ _ (s1T _ _ e)⟩
        rw [hsn, List.map_append]
        exact upd_same
      · rw [if_neg c] at hsn
        rw [hsn]
        exact ⟨e2, s1T.trans s2⟩
    · rintro H1 ⟨e1, s1⟩
      rw [hwl] at e1
      exact k D H1 s1 hD0 e1

theorem okspoilers {f : Addr} {fd : FuncData} (F : Fun K "spoilers" "spoilers" sspoilers f fd) (T : Txt K mg) (C_spoiler : Cal P w K mg base "_spoiler" P_spoiler 1 (sp_spoiler K)) : FnOk P w K mg base CX0 2 f fd Pspoilers (spspoilers K) := by
  obtain ⟨g_spoiler, gd_spoiler, G_spoiler, m_spoiler, k_spoiler, b_spoiler⟩ := C_spoiler.ex
  refine F.ok scspoilers (fun vs H Q E h => ?_) (fun cdv A outer s H vs Q E hr h => ?_)
  · obtain ⟨g, f, G, R, i, nd, r, rfl, hD, hS, hok, hnd, hri, k⟩ := h
    rfl
  · obtain ⟨g, f, G, R, i, nd, r, rfl, hD, hS, hok, hnd, hri, k⟩ := h
    refine ⟨_, (pss_cons (ps_if (pt_cmpR op_eq (pe_ix ix_list (pv 1) (pv 2) (fun _ _ => rfl)) pe_int (nomark _))
  (pss_one (ps_ret (pe_lst pa_nil)))
  pss_nil)
  (pss_one (ps_ret (pe_lc (own := [("option", 3)]) rfl scspoilers.nd (pi_list (pe_ix ix_list (pv 0) (pv 2) (fun _ _ => rfl))) (blkOk_by (own := [("option", 3)]) (N := Nspoilers) (sc := defScope sspoilers) (by decide +kernel)) (fun _ _ _ _ _ => (pg_name (i := 3) scspoilers.nd rfl (by first | exact Or.inl rfl | exact Or.inr rfl))) (fun _ _ _ _ _ => pts_nil) (fun _ _ _ _ _ => (pe_call G_spoiler (hr.mono (by decide)) (by rfl) m_spoiler k_spoiler b_spoiler .nil pass0 (pa_cons (pv 3) (pa_cons (pv 1) (pa_cons (pe_ix (r := rIxL K) ix_list (pv 1) (pv 2) (fun _ _ => rfl)) pa_nil))))))))), ?_⟩
    obtain ⟨xs, hS1, hA⟩ := dp_list hD
    have hin : i < G.length := (List.getElem?_eq_some_iff.mp hnd).1
    have hxl : xs.length = G.length := by rw [dpAll_len hA, List.length_map]
    have hx : xs[i]? = some xs[i] := List.getElem?_eq_getElem (by omega)
    generalize xs[i] = v at hx
    obtain ⟨d, hd, hv⟩ := dpAll_get hA hx
    obtain ⟨nd', hnd', rfl⟩ := map_at hd
    obtain rfl : nd' = nd := by rw [hnd] at hnd'; exact (Option.some.inj hnd').symm
    obtain ⟨q, ws, rfl, hq, hws⟩ := dp_ref hv
    have hok1 := hok nd' (List.mem_of_getElem? hnd)
    have hwl : ws.length = nd'.length := by rw [dpAll_len hws, List.length_map]
    refine ⟨_, rfl, _, rfl, f, _, _, _, rfl, rfl, hS, at_nat' hri, rfl, _, rfl, ?_⟩
    refine ite2 (fun c => ?_) (fun c => ?_)
    · have c : r = 0 := by have := of_decide_eq_true c; injection this
      refine ⟨Nat.zero_le _, fun p hp => k p _ (Same.new hp) hp ?_⟩
      rw [if_pos c]
      exact upd_same
    · have c : ¬ r = 0 := fun z => c (decide_eq_true (by rw [z]))
      rw [if_neg c] at k
      refine ⟨_, rfl, _, rfl, g, _, _, _, rfl, rfl, hS1, atI_nat hx, q, rfl, ⟨_, hq⟩, fun D hD0 => ?_⟩
      refine lc_it walk_list (fun j H1 => H1 D = some (.lst (((nd'.take j).map (spo R r)).map oV)) ∧ Same H H1) ⟨upd_same, Same.new hD0⟩ (fun i H1 _ h => h.2.seq hq) ?_ ?_
      · rintro j x H1o H1 hi ⟨e1, s1⟩ ⟨rfl, hy⟩
        obtain ⟨d, hd', hyd⟩ := dpAll_get hws hy
        obtain ⟨op, hop, rfl⟩ := map_at hd'
        refine ⟨rfl, ?_⟩
        refine ⟨_, rfl, _, rfl, _, rfl, _, rfl, f, _, _, _, rfl, rfl, s1.seq hS, at_nat' hri, x, f, op, R, r, rfl, dp_same s1 hyd, s1.seq hS, hok1.2 op (List.mem_of_getElem? hop), ?_⟩
        refine ⟨_, e1, small1000 (by have := hok1.1; simp; omega), ?_, fun b o e => by rw [upd_ne (ne_of_none e hD0)]; exact s1 _ _ e⟩
        rw [take_snoc hop, List.map_append, List.map_append]
        exact upd_same
      · rintro H1 ⟨e1, s1⟩
        rw [hwl, List.take_length] at e1
        exact k D H1 s1 hD0 e1

theorem ok_law_good {f : Addr} {fd : FuncData} (F : Fun K "_law_good" "_law_good" s_law_good f fd) (T : Txt K mg) : FnOk P w K mg base CX0 1 f fd P_law_good (sp_law_good K) := by
  refine F.ok sc_law_good (fun vs H Q E h => ?_) (fun cdv A outer s H vs Q E hr h => ?_)
  · obtain ⟨o, f, nd, R, rfl, hD, hS, hok, k⟩ := h
    rfl
  · obtain ⟨o, f, nd, R, rfl, hD, hS, hok, k⟩ := h
    refine ⟨_, (pss_cons (ps_set (i := 2) sc_law_good.nd rfl (by first | exact Or.inl rfl | exact Or.inr rfl) (pe_lst pa_nil))
  (pss_cons (ps_for PassesOwn.never rfl (pi_range1 rfl T.b_range (pa_cons (pe_callB call_len_seq (by rfl) T.b_len PySem.boot_len (pa_cons (pv 0) pa_nil)) pa_nil)) (pg_name (i := 3) sc_law_good.nd rfl (by first | exact Or.inl rfl | exact Or.inr rfl))
  (pss_one (ps_if (PW.pt (pw_and (pt_cmpR op_notN (pe_ix ix_list (pv 0) (pv 3) (fun _ _ => rfl)) pe_non (nomark _)) (pw_and1 (pt_val (pe_callB (id := "all") (cr_all rfl) (by rfl) T.b_all (by decide +kernel) (pa_cons (pe_lc (own := [("target", 4)]) rfl sc_law_good.nd (pi_list (pe_ix ix_list (pv 0) (pv 3) (fun _ _ => rfl))) (blkOk_by (own := [("target", 4)]) (N := N_law_good) (sc := defScope s_law_good) (by decide +kernel)) (fun _ _ _ _ _ => (pg_name (i := 4) sc_law_good.nd rfl (by first | exact Or.inl rfl | exact Or.inr rfl))) (fun _ _ _ _ _ => pts_nil) (fun _ _ _ _ _ => (pe_cmpR op_eq (pe_ix (r := rIxL K) ix_list (pv 1) (pv 4) (fun _ _ => rfl)) pe_int (nomark _)))) pa_nil))))))
  (pss_one (ps_expr (pe_bm PySem.F.plainAttrs_list PySem.F.slot_list_append PySem.F.type_list_append mt_append (pv 2) (pa_cons (pv 3) pa_nil))))
  pss_nil)))
  (pss_one (ps_ret (pv 2))))), ?_⟩
    obtain ⟨ws, hq, hws⟩ := dp_list hD
    have hwl : ws.length = nd.length := by rw [dpAll_len hws, List.length_map]
    refine ⟨Nat.zero_le _, fun p hp => ?_⟩
    refine ⟨_, rfl, o, _, rfl, .inl ((Same.new hp).seq hq), _, rfl, ?_⟩
    have := hok.1
    refine ⟨by omega, by omega, ?_⟩
    rw [Int.toNat_natCast]
    refine for_it walk_range (fun i σ H1 => ∃ (w3 w4 : Option V), σ = [some (.ref o), some (.ref f), some (.ref p), w3, w4] ∧ H1 p = some (.lst ((goodN R nd i).map nv)) ∧ Same H H1)
      ⟨_, _, rfl, upd_same, Same.new hp⟩ (fun _ _ _ _ _ => trivial) ?_ ?_
    · rintro i x σ H1o H1 hi ⟨w3, w4, rfl, e1, s1⟩ ⟨rfl, rfl⟩
      simp only [Int.zero_add]
      have hx : ws[i]? = some ws[i] := List.getElem?_eq_getElem hi
      generalize ws[i] = v at hx
      obtain ⟨d, hd', hyd⟩ := dpAll_get hws hx
      obtain ⟨op, hop, rfl⟩ := map_at hd'
      have hsn := goodN_snoc (R := R) hop
      have hln := goodN_len R nd i
      refine ⟨_, rfl, _, rfl, o, _, _, _, rfl, rfl, s1.seq hq, atI_nat hx, rfl, _, rfl, ?_⟩
      rcases opt_v hyd with ⟨rfl, rfl⟩ | ⟨l, q, rfl, rfl, hl⟩
      · refine ite2 (fun z => absurd z (by decide)) (fun _ => ?_)
        rw [if_neg (by show ¬ false = true; decide)] at hsn
        exact ⟨_, _, rfl, by rw [hsn]; exact e1, s1⟩
      · refine ite2 (fun _ => ?_) (fun z => absurd (by rfl) z)
        have hok2 := hok.2 _ (List.mem_of_getElem? hop) l rfl
        refine ⟨_, rfl, _, rfl, o, _, _, _, rfl, rfl, s1.seq hq, atI_nat hx, q, rfl, ⟨_, s1.seq hl⟩, fun D hD0 => ?_⟩
        refine lc_it walk_list (fun i H2 => H2 D = some (.lst (((l.take i).map fun t => decide (atR R t = 0)).map V.bl)) ∧ Same H1 H2) ⟨upd_same, Same.new hD0⟩ (fun i H2 _ h => (s1.trans h.2).seq hl) ?_ ?_
        · rintro i x H2o H2 hi ⟨e2, s2⟩ ⟨rfl, hx⟩
          obtain ⟨t, ht, rfl⟩ := map_at hx
          have hb := hok2.2 t (List.mem_of_getElem? ht)
          have hl := hok2.1
          refine ⟨rfl, ?_⟩
          refine ⟨_, rfl, _, rfl, f, _, _, _, rfl, rfl, (s1.trans s2).seq hS, at_int hb.1 hb.2, ?_⟩
          refine ⟨rfl, _, e2, small1000 (by rw [List.length_map, List.length_map, List.length_take]; omega), ?_, fun b o e => by rw [upd_ne (ne_of_none e hD0)]; exact s2 _ _ e⟩
          rw [take_snoc ht, List.map_append, List.map_append]
          have e : (decide (V.int (atR R t) = V.int 0)) = decide (atR R t = 0) := by simp
          rw [e]
          exact upd_same
        · rintro H2 ⟨e2, s2⟩
          rw [List.length_map, List.take_length] at e2
          refine ⟨D, _, rfl, SqL.of e2, ?_⟩
          have e : (l.map fun t => decide (atR R t = 0)).all id = isGood R (some l) := by rw [List.all_map]; rfl
          rw [e]
          refine ⟨_, rfl, ?_⟩
          have e2p := s2 _ _ e1
          refine ite2 (fun c => ?_) (fun c => ?_)
          · rw [if_pos c] at hsn
            refine ⟨_, rfl, .inl ⟨rfl, _, SqL.of e2p⟩, _, rfl, p, _, _, rfl, rfl, e2p, small1000 (by rw [List.length_map]; omega), ?_⟩
            refine ⟨_, _, rfl, ?_, fun b o e => by rw [upd_ne (ne_of_none e hp)]; exact s2 _ _ (s1 _ _ e)⟩
            rw [hsn, List.map_append]
            exact upd_same
          · rw [if_neg c] at hsn
            exact ⟨_, _, rfl, by rw [hsn]; exact e2p, s1.trans s2⟩
    · rintro σ H1 ⟨w3, w4, rfl, e1, s1⟩
      rw [hwl] at e1
      exact ⟨_, rfl, k p H1 s1 hp e1⟩

theorem ok_law_spoilers {f : Addr} {fd : FuncData} (F : Fun K "_law_spoilers" "_law_spoilers" s_law_spoilers f fd) (T : Txt K mg) : FnOk P w K mg base CX0 1 f fd P_law_spoilers (sp_law_spoilers K) := by
  refine F.ok sc_law_spoilers (fun vs H Q E h => ?_) (fun cdv A outer s H vs Q E hr h => ?_)
  · obtain ⟨o, f, nd, R, r, rfl, hD, hS, hok, hsp, k⟩ := h
    rfl
  · obtain ⟨o, f, nd, R, r, rfl, hD, hS, hok, hsp, k⟩ := h
    refine ⟨_, (pss_cons (ps_set (i := 3) sc_law_spoilers.nd rfl (by first | exact Or.inl rfl | exact Or.inr rfl) (pe_lst pa_nil))
  (pss_cons (ps_for PassesOwn.never rfl (pi_list (pv 0)) (pg_name (i := 4) sc_law_spoilers.nd rfl (by first | exact Or.inl rfl | exact Or.inr rfl))
  (pss_one (ps_if (pt_cmpR op_isN (pv 4) pe_non (nomark _))
  (pss_one (ps_expr (pe_bm PySem.F.plainAttrs_list PySem.F.slot_list_append PySem.F.type_list_append mt_append (pv 3) (pa_cons pe_non pa_nil))))
  (pss_cons (ps_setLc (i := 5) (own := [("target", 6)]) rfl sc_law_spoilers.nd rfl rfl (sw_true rfl rfl rfl (by decide +kernel)) (pi_list (pv 4)) (blkOk_by (own := [("target", 6)]) (N := N_law_spoilers) (sc := defScope s_law_spoilers) (by decide +kernel)) (fun _ _ _ _ _ => (pg_name (i := 6) sc_law_spoilers.nd rfl (by first | exact Or.inl rfl | exact Or.inr rfl))) (fun _ _ _ _ _ => (pts_one (pt_chain op_lt op_lt pe_int (pe_ix (r := rIxL K) ix_list (pv 1) (pv 6) (fun _ _ => rfl)) (pv 2)))) (fun _ _ _ _ _ => (pv 6)))
  (pss_cons (ps_if (pt_cmpR op_eq (pe_callB call_len_seq (by rfl) T.b_len PySem.boot_len (pa_cons (pv 5) pa_nil)) pe_int (nomark _))
  (pss_one (ps_ret pe_non))
  pss_nil)
  (pss_one (ps_expr (pe_bm PySem.F.plainAttrs_list PySem.F.slot_list_append PySem.F.type_list_append mt_append (pv 3) (pa_cons (pe_ix ix_list (pv 5) pe_int (fun _ _ => rfl)) pa_nil)))))))))
  (pss_one (ps_ret (pv 3))))), ?_⟩
    obtain ⟨ws, hq, hws⟩ := dp_list hD
    have hwl : ws.length = nd.length := by rw [dpAll_len hws, List.length_map]
    refine ⟨Nat.zero_le _, fun p hp => ?_⟩
    refine ⟨_, rfl, o, rfl, ⟨_, (Same.new hp).seq hq⟩, ?_⟩
    refine for_it walk_list (fun i σ H1 => ∃ (w4 w5 w6 : Option V), σ = [some (.ref o), some (.ref f), some (.int r), some (.ref p), w4, w5, w6] ∧ H1 p = some (.lst (((nd.take i).map (spo R r)).map oV)) ∧ Same H H1)
      ⟨_, _, _, rfl, upd_same, Same.new hp⟩ (fun _ _ _ _ ⟨_, _, _, _, _, s1⟩ => s1.seq hq) ?_ ?_
    · rintro i x σ H1o H1 hi ⟨w4, w5, w6, rfl, e1, s1⟩ ⟨rfl, hx⟩
      obtain ⟨d, hd', hyd⟩ := dpAll_get hws hx
      obtain ⟨op, hop, rfl⟩ := map_at hd'
      have hn20 := hok.1
      have app : ∀ H2, Same H1 H2 → upd H2 p (.lst (((nd.take i).map (spo R r)).map oV ++ [oV (spo R r op)])) p = some (.lst (((nd.take (i + 1)).map (spo R r)).map oV)) := fun H2 _ => by
        rw [take_snoc hop, List.map_append, List.map_append]
        exact upd_same
      refine ⟨_, rfl, rfl, _, rfl, ?_⟩
      rcases opt_v hyd with ⟨rfl, rfl⟩ | ⟨l, q, rfl, rfl, hl⟩
      · refine ite2 (fun _ => ?_) (fun z => absurd (by rfl) z)
        refine ⟨_, rfl, .inl ⟨rfl, _, SqL.of e1⟩, p, _, _, rfl, rfl, e1, small1000 (by simp; omega), ?_⟩
        exact ⟨_, _, _, rfl, app H1 (Same.refl _), fun b o e => by rw [upd_ne (ne_of_none e hp)]; exact s1 _ _ e⟩
      · refine ite2 (fun z => absurd (of_decide_eq_true z) (by intro z; cases z)) (fun _ => ?_)
        have hok2 := hok.2 _ (List.mem_of_getElem? hop) l rfl
        refine ⟨_, rfl, q, rfl, ⟨_, s1.seq hl⟩, fun D hD0 => ?_⟩
        refine lc_it walk_list (fun i H2 => H2 D = some (.lst (((l.take i).filter fun t => decide (0 < atR R t ∧ atR R t < r)).map V.int)) ∧ Same H1 H2) ⟨upd_same, Same.new hD0⟩ (fun i H2 _ h => (s1.trans h.2).seq hl) ?_ ?_
        · rintro i x H2o H2 hi ⟨e2, s2⟩ ⟨rfl, hx⟩
          obtain ⟨t, ht, rfl⟩ := map_at hx
          have hb := hok2.2 t (List.mem_of_getElem? ht)
          have hl3 := hok2.1
          have hfl := List.length_filter_le (fun t => decide (0 < atR R t ∧ atR R t < r)) (l.take i)
          rw [List.length_take] at hfl
          have skip : ¬ (0 < atR R t ∧ atR R t < r) → ((l.take (i + 1)).filter fun t => decide (0 < atR R t ∧ atR R t < r)) = (l.take i).filter fun t => decide (0 < atR R t ∧ atR R t < r) := fun z => by
            rw [take_snoc ht, List.filter_append]
            simp only [List.filter_cons, List.filter_nil, decide_eq_false z, Bool.false_eq_true, if_false, List.append_nil]
          refine ⟨rfl, ?_⟩
          refine ⟨_, rfl, _, rfl, f, _, _, _, rfl, rfl, (s1.trans s2).seq hS, at_int hb.1 hb.2, _, _, rfl, rfl, _, rfl, ?_⟩
          refine ite2 (fun c1 => ?_) (fun c1 => ?_)
          · have c1 := of_decide_eq_true c1
            refine ⟨_, rfl, _, _, rfl, rfl, _, rfl, ?_⟩
            refine ite2 (fun c2 => ?_) (fun c2 => ?_)
            · have c2 := of_decide_eq_true c2
              refine ⟨_, rfl, _, e2, small1000 (by rw [List.length_map]; omega), ?_, fun b o e => by rw [upd_ne (ne_of_none e hD0)]; exact s2 _ _ e⟩
              rw [take_snoc ht, List.filter_append, List.map_append]
              simp only [List.filter_cons, List.filter_nil, decide_eq_true (show 0 < atR R t ∧ atR R t < r from ⟨c1, c2⟩), if_true]
              exact upd_same
            · rw [skip (fun z => c2 (decide_eq_true z.2))]
              exact ⟨e2, s2⟩
          · refine ⟨_, rfl, ite2 (fun z => absurd z (by decide)) (fun _ => ?_)⟩
            rw [skip (fun z => c1 (decide_eq_true z.1))]
            exact ⟨e2, s2⟩
        · rintro H2 ⟨e2, s2⟩
          rw [List.length_map, List.take_length] at e2
          obtain ⟨t0, ht0, hp0⟩ := hsp l (List.mem_of_getElem? hop)
          have hne : l.filter (fun t => decide (0 < atR R t ∧ atR R t < r)) ≠ [] := fun z => by
            have := List.filter_eq_nil_iff.mp z t0 ht0
            exact this (decide_eq_true hp0)
          have hsome : ∃ u, spo R r (some l) = some u ∧ (l.filter fun t => decide (0 < atR R t ∧ atR R t < r))[0]? = some u := by
            have h1 : (l.filter fun t => decide (0 < atR R t ∧ atR R t < r)).head? = l.find? fun t => decide (0 < atR R t ∧ atR R t < r) := List.head?_filter
            cases hh : l.filter fun t => decide (0 < atR R t ∧ atR R t < r) with
            | nil => exact absurd hh hne
            | cons u us =>
              rw [hh] at h1
              exact ⟨u, h1.symm, rfl⟩
          obtain ⟨u, hu1, hu2⟩ := hsome
          have hpos : 0 < (l.filter fun t => decide (0 < atR R t ∧ atR R t < r)).length := List.length_pos_iff.mpr hne
          refine ⟨_, rfl, D, _, rfl, .inl (SqL.of e2), rfl, _, rfl, ?_⟩
          refine ite2 (fun z => ?_) (fun _ => ?_)
          · have z := of_decide_eq_true z
            injection z with z
            rw [List.length_map] at z
            omega
          · have e2p := s2 _ _ e1
            refine ⟨_, rfl, .inl ⟨rfl, _, SqL.of e2p⟩, _, rfl, D, _, _, _, rfl, rfl, SqL.of e2, atI_nat (j := 0) (by rw [List.getElem?_map, hu2]; rfl), p, _, _, rfl, rfl, e2p, small1000 (by simp; omega), ?_⟩
            refine ⟨_, _, _, rfl, ?_, fun b o e => by rw [upd_ne (ne_of_none e hp)]; exact s2 _ _ (s1 _ _ e)⟩
            have := app H2 s2
            rw [hu1] at this
            exact this
    · rintro σ H1 ⟨w4, w5, w6, rfl, e1, s1⟩
      rw [hwl, List.take_length] at e1
      exact ⟨_, rfl, k p H1 s1 hp e1⟩
end
end Wb

namespace Wb
open PySem PySem.Spec PyProof.Rows L2
section
variable {P : Program} {w : World} {K : PySem.W.Frag} {mg : Str → Option Value} {base : Heap}

theorem cut_last (xs : List V) (y : V) : cutV (xs ++ [y]) none (some (-1)) = xs := by
  unfold cutV HT.sIx
  simp
  rw [show (-1 + ((xs.length : Int) + 1)).toNat = xs.length by omega]
  simp
theorem due_pos (R : List Int) : ∀ (nd : Node) (w : Int), 1 ≤ w → (∀ o, o ∈ nd → fate R o ≠ 0) → 1 ≤ dueFrom R w nd
  | [], w, hw, _ => hw
  | a :: nd, w, hw, h => by
    unfold dueFrom
    rw [if_neg (h a List.mem_cons_self)]
    exact due_pos R nd _ (by split <;> omega) fun o ho => h o (List.mem_cons_of_mem _ ho)
theorem good_fate {R : List Int} (hR : ∀ r, r ∈ R → 0 ≤ r) {o : Option (List Int)} (ho : OptOk R.length o) : isGood R o = true ↔ fate R o = 0 := by
  cases o with
  | none => exact ⟨fun z => (by cases z), fun z => absurd z (by show ¬ (1 : Int) = 0; decide)⟩
  | some l =>
    have hb := (ho l rfl).2
    have h0 : ∀ t, t ∈ l → 0 ≤ atR R t := fun t ht => by
      have := hb t ht
      refine hR _ ?_
      unfold atR
      rw [List.getD_eq_getElem?_getD, List.getElem?_eq_getElem (by omega)]
      exact List.getElem_mem _
    show (l.all fun t => decide (atR R t = 0)) = true ↔ fateL R l = 0
    rw [List.all_eq_true]
    rcases fateL_cases R l with ⟨h1, h2⟩ | ⟨m, p0, p1, ⟨t, ht, e⟩, p3⟩
    · refine ⟨fun _ => h1, fun _ t ht => decide_eq_true ?_⟩
      have := h2 t ht
      have := h0 t ht
      omega
    · refine ⟨fun z => ?_, fun z => by omega⟩
      have := of_decide_eq_true (z t ht)
      omega
theorem good_iff {G : List Node} {R : List Int} (h : IsR G R) (hG : GOk R.length G) {i : Nat} {nd : Node} {r : Int} (hnd : G[i]? = some nd) (hr : R[i]? = some r) : 0 < (goodP R nd).length ↔ r = 0 := by
  have e : r = due R nd := by
    have := h.eq i nd hnd
    rw [hr] at this
    exact Option.some.inj this
  have hok := hG nd (List.mem_of_getElem? hnd)
  rw [e]
  constructor
  · intro z
    obtain ⟨j, hj⟩ := List.exists_mem_of_length_pos z
    obtain ⟨h1, h2⟩ := List.mem_filter.mp hj
    have h1 := List.mem_range.mp h1
    rw [List.getElem?_eq_getElem h1, Option.getD_some] at h2
    have hm : nd[j] ∈ nd := List.getElem_mem h1
    exact due_zero R nd 1 ⟨_, hm, (good_fate h.pos (hok.2 _ hm)).mp h2⟩
  · intro z
    have : ∃ o, o ∈ nd ∧ fate R o = 0 := by
      by_cases c : ∃ o, o ∈ nd ∧ fate R o = 0
      · exact c
      · have := due_pos R nd 1 (Int.le_refl _) fun o ho q => c ⟨o, ho, q⟩
        have z' : dueFrom R 1 nd = 0 := z
        omega
    obtain ⟨o, ho, q⟩ := this
    obtain ⟨j, hj, e⟩ := List.getElem_of_mem ho
    refine List.length_pos_of_mem (List.mem_filter.mpr ⟨List.mem_range.mpr hj, ?_⟩)
    rw [List.getElem?_eq_getElem hj, Option.getD_some, e]
    exact (good_fate h.pos (hok.2 _ ho)).mpr q
theorem spoil_some {G : List Node} {R : List Int} (h : IsR G R) {i : Nat} {nd : Node} {r : Int} (hnd : G[i]? = some nd) (hr : R[i]? = some r) (h0 : 0 < r) : ∀ l, some l ∈ nd → ∃ t, t ∈ l ∧ 0 < atR R t ∧ atR R t < r := by
  have e : r = due R nd := by
    have := h.eq i nd hnd
    rw [hr] at this
    exact Option.some.inj this
  intro l hl
  obtain ⟨h1, _, _⟩ := due_inv R r nd 1 (Int.le_refl _) e.symm (by omega)
  have q := h1 _ hl
  have q1 : fateL R l ≠ 0 := q.1
  have q2 : fateL R l ≤ r := q.2
  rcases fateL_cases R l with ⟨z, _⟩ | ⟨m, p0, p1, ⟨t, ht, e⟩, p3⟩
  · exact absurd z q1
  · exact ⟨t, ht, by omega, by omega⟩
theorem spoL_len (R : List Int) (r : Int) (nd : Node) : (if r = 0 then [] else nd.map (spo R r)).length ≤ nd.length := by
  by_cases h : r = 0
  · rw [if_pos h]
    exact Nat.zero_le _
  · rw [if_neg h, List.length_map]
    exact Nat.le_refl _
def sp_law_asked (K : PySem.W.Frag) : Sp := fun vs H Q _ => ∃ (c f g : Addr) (G : List Node) (R : List Int) (i : Nat), vs = [.ref c, .ref f, nv i, .ref g] ∧ Dp K H (.ref c) (gameD G) ∧ Dp K H (.ref g) (gameD G) ∧ SqL K H f (R.map V.int) ∧ IsR G R ∧ GOk G.length G ∧ i < G.length ∧
  ∀ H', Same H H' → Q (.bl true) H'
def splaw (K : PySem.W.Frag) : Sp := fun vs H Q _ => ∃ (a : Addr) (ns : List Int), vs = [.ref a] ∧ SqL K H a (ns.map V.int) ∧ ns.length ≤ 63 ∧ ∀ H', Q (.bl true) H'

theorem ok_law_asked {f : Addr} {fd : FuncData} (F : Fun K "_law_asked" "_law_asked" s_law_asked f fd) (T : Txt K mg) (Cgood_options : Cal P w K mg base "good_options" Pgood_options 2 (spgood_options K)) (Cspoilers : Cal P w K mg base "spoilers" Pspoilers 2 (spspoilers K)) (C_law_good : Cal P w K mg base "_law_good" P_law_good 1 (sp_law_good K)) (C_law_spoilers : Cal P w K mg base "_law_spoilers" P_law_spoilers 1 (sp_law_spoilers K)) : FnOk P w K mg base CX0 3 f fd P_law_asked (sp_law_asked K) := by
  obtain ⟨ggood_options, gdgood_options, Ggood_options, mgood_options, kgood_options, bgood_options⟩ := Cgood_options.ex
  obtain ⟨gspoilers, gdspoilers, Gspoilers, mspoilers, kspoilers, bspoilers⟩ := Cspoilers.ex
  obtain ⟨g_law_good, gd_law_good, G_law_good, m_law_good, k_law_good, b_law_good⟩ := C_law_good.ex
  obtain ⟨g_law_spoilers, gd_law_spoilers, G_law_spoilers, m_law_spoilers, k_law_spoilers, b_law_spoilers⟩ := C_law_spoilers.ex
  refine F.ok sc_law_asked (fun vs H Q E h => ?_) (fun cdv A outer s H vs Q E hr h => ?_)
  · obtain ⟨c, f, g, G, R, i, rfl, hDc, hDg, hS, hR, hok, hi, k⟩ := h
    rfl
  · obtain ⟨c, f, g, G, R, i, rfl, hDc, hDg, hS, hR, hok, hi, k⟩ := h
    refine ⟨_, (pss_cons (ps_set (i := 4) sc_law_asked.nd rfl (by first | exact Or.inl rfl | exact Or.inr rfl) (pe_call Ggood_options (hr.mono (by decide)) (by rfl) mgood_options kgood_options bgood_options .nil pass0 (pa_cons (pv 0) (pa_cons (pv 1) (pa_cons (pv 2) pa_nil)))))
  (pss_cons (ps_if (PW.pt (pw_or (pt_not (pt_val (pe_callB (id := "isinstance") call_isi (by rfl) T.b_isinstance (by decide +kernel) (pa_cons (pv 4) (pa_cons (pe_bltn (v := .ty "list") (by rfl) T.b_list (by decide +kernel) rfl) pa_nil))))) (pw_or1 (pt_cmpR (op_neD hr.units) (pv 4) (pe_call G_law_good (hr.mono (by decide)) (by rfl) m_law_good k_law_good b_law_good .nil pass0 (pa_cons (pe_ix ix_list (pv 3) (pv 2) (fun _ _ => rfl)) (pa_cons (pv 1) pa_nil))) (nomark _)))))
  (pss_one (ps_ret pe_bl))
  pss_nil)
  (pss_cons (ps_set (i := 5) sc_law_asked.nd rfl (by first | exact Or.inl rfl | exact Or.inr rfl) (pe_lst pa_nil))
  (pss_cons (ps_if (pt_cmpR op_gt (pe_ix ix_list (pv 1) (pv 2) (fun _ _ => rfl)) pe_int (nomark _))
  (pss_one (ps_set (i := 5) sc_law_asked.nd rfl (by first | exact Or.inl rfl | exact Or.inr rfl) (pe_call G_law_spoilers (hr.mono (by decide)) (by rfl) m_law_spoilers k_law_spoilers b_law_spoilers .nil pass0 (pa_cons (pe_ix ix_list (pv 3) (pv 2) (fun _ _ => rfl)) (pa_cons (pv 1) (pa_cons (pe_ix ix_list (pv 1) (pv 2) (fun _ _ => rfl)) pa_nil))))))
  pss_nil)
  (pss_cons (ps_set (i := 6) sc_law_asked.nd rfl (by first | exact Or.inl rfl | exact Or.inr rfl) (pe_call Gspoilers (hr.mono (by decide)) (by rfl) mspoilers kspoilers bspoilers .nil pass0 (pa_cons (pv 0) (pa_cons (pv 1) (pa_cons (pv 2) pa_nil)))))
  (pss_cons (ps_if (PW.pt (pw_or (pt_cmpR op_isN (pv 5) pe_non (nomark _)) (pw_or (pt_not (pt_val (pe_callB (id := "isinstance") call_isi (by rfl) T.b_isinstance (by decide +kernel) (pa_cons (pv 6) (pa_cons (pe_bltn (v := .ty "list") (by rfl) T.b_list (by decide +kernel) rfl) pa_nil))))) (pw_or1 (pt_cmpR (op_neD hr.units) (pv 6) (pv 5) (nomark _))))))
  (pss_one (ps_ret pe_bl))
  pss_nil)
  (pss_cons (ps_if (pt_cmpR op_ne (pe_cmpR op_gt (pe_callB call_len_seq (by rfl) T.b_len PySem.boot_len (pa_cons (pv 4) pa_nil)) pe_int (nomark _)) (pe_cmpR op_eq (pe_ix ix_list (pv 1) (pv 2) (fun _ _ => rfl)) pe_int (nomark _)) (nomark _))
  (pss_one (ps_ret pe_bl))
  pss_nil)
  (pss_cons (ps_if (pt_val (pe_callB (id := "any") (cr_any rfl) (by rfl) T.b_any (by decide +kernel) (pa_cons (pe_lc (own := [("x", 7)]) rfl sc_law_asked.nd (pi_list (pe_op op_cat (pv 4) (pv 6))) (blkOk_by (own := [("x", 7)]) (N := N_law_asked) (sc := defScope s_law_asked) (by decide +kernel)) (fun _ _ _ _ _ => (pg_name (i := 7) sc_law_asked.nd rfl (by first | exact Or.inl rfl | exact Or.inr rfl))) (fun _ _ _ _ _ => pts_nil) (fun _ _ _ _ _ => (pe_callB (id := "isinstance") (r := rIsi K) call_isi (by rfl) T.b_isinstance (by decide +kernel) (pa_cons (pv 7) (pa_cons (pe_bltn (v := .ty "bool") (by rfl) T.b_bool (by decide +kernel) rfl) pa_nil))))) pa_nil)))
  (pss_one (ps_ret pe_bl))
  pss_nil)
  (pss_cons (ps_expr (pe_bm PySem.F.plainAttrs_list PySem.F.slot_list_append PySem.F.type_list_append mt_append (pv 4) (pa_cons pe_int pa_nil)))
  (pss_cons (ps_expr (pe_bm PySem.F.plainAttrs_list PySem.F.slot_list_append PySem.F.type_list_append mt_append (pv 6) (pa_cons pe_non pa_nil)))
  (pss_one (ps_ret (pe_and (pe_cmpR (op_eqD hr.units) (pe_call Ggood_options (hr.mono (by decide)) (by rfl) mgood_options kgood_options bgood_options .nil pass0 (pa_cons (pv 0) (pa_cons (pv 1) (pa_cons (pv 2) pa_nil)))) (pe_slice sl_list (pv 4) po_none (po_some (pe_un un_neg pe_int))) (nomark _)) (pe_one (pe_cmpR (op_eqD hr.units) (pe_call Gspoilers (hr.mono (by decide)) (by rfl) mspoilers kspoilers bspoilers .nil pass0 (pa_cons (pv 0) (pa_cons (pv 1) (pa_cons (pv 2) pa_nil)))) (pv 5) (nomark _)))))))))))))))), ?_⟩
    have hRl := hR.len
    have hokR : GOk R.length G := by rw [hRl]; exact hok
    have hnd : G[i]? = some G[i] := List.getElem?_eq_getElem hi
    generalize G[i] = nd at hnd
    have hri : R[i]? = some R[i] := List.getElem?_eq_getElem (by omega)
    generalize R[i] = r at hri
    have hr0 : 0 ≤ r := hR.pos r (List.mem_of_getElem? hri)
    have hok1 := hokR nd (List.mem_of_getElem? hnd)
    obtain ⟨xs, hSg, hA⟩ := dp_list hDg
    have hxl : xs.length = G.length := by rw [dpAll_len hA, List.length_map]
    have hx : xs[i]? = some xs[i] := List.getElem?_eq_getElem (by omega)
    generalize xs[i] = v at hx
    obtain ⟨d, hd, hv⟩ := dpAll_get hA hx
    obtain ⟨nd', hnd', rfl⟩ := map_at hd
    obtain rfl : nd' = nd := by rw [hnd] at hnd'; exact (Option.some.inj hnd').symm
    obtain ⟨q0, ws, rfl, hq0, hws⟩ := dp_ref hv
    rename Node => nd
    have hgl := goodP_len R nd
    have hl20 : nd.length ≤ 20 := hok1.1
    refine ⟨_, rfl, _, rfl, _, rfl, c, f, G, R, i, nd, rfl, hDc, hS, hokR, hnd, fun p H1 s1 hp e1 => ?_⟩
    refine ⟨_, rfl, _, _, _, _, true, rfl, .ty _, .base (.lst e1), kit_ty (by decide +kernel), true, rfl, iteF ?_⟩
    refine ⟨_, rfl, _, rfl, _, rfl, g, _, _, _, rfl, rfl, s1.seq hSg, atI_nat hx, _, rfl, q0, f, nd, R, rfl, dp_same s1 (.lst hq0 hws), s1.seq hS, hok1, fun p2 H2 s2 hp2 e2 => ?_⟩
    have e12 := s2 _ _ e1
    refine ⟨_, _, .lst (SqL.of e12) (dpAll_n _), .lst (SqL.of e2) (dpAll_n _), shaped_of (layN _) (by decide), shaped_of (layN _) (by decide), _, rfl, ?_⟩
    rw [PySem.SeqAt.eqv_refl _ (layN _).1]
    refine iteF ?_
    refine ⟨Nat.zero_le _, fun pd0 hpd0 => ?_⟩
    have s02 : Same H H2 := s1.trans s2
    have s02' := s02.trans (Same.new (o := .lst []) hpd0)
    refine ⟨_, rfl, _, rfl, f, _, _, _, rfl, rfl, s02'.seq hS, at_nat' hri, _, _, rfl, rfl, _, rfl, ?_⟩
    refine ite2 (fun cr => ?_) (fun cr => ?_)
    · have cr := of_decide_eq_true cr
      refine ⟨_, rfl, _, rfl, g, _, _, _, rfl, rfl, s02'.seq hSg, atI_nat hx, _, rfl, _, rfl, _, rfl, f, _, _, _, rfl, rfl, s02'.seq hS, at_nat' hri, q0, f, nd, R, r, rfl, dp_same s02' (.lst hq0 hws), s02'.seq hS, hok1, spoil_some hR hnd hri cr, fun pd H3 s3 hpd3 ed => ?_⟩
      have S03 : Same H H3 := s02'.trans s3
      have ep3 : H3 p = some (.lst ((goodP R nd).map nv)) := (Same.new (o := .lst []) hpd0 |>.trans s3) _ _ e12
      have NPD : pd ≠ p := fun z => by
        rw [z, (Same.new (o := .lst []) hpd0) _ _ e12] at hpd3
        cases hpd3
      have ed : H3 pd = some (.lst ((if r = 0 then [] else nd.map (spo R r)).map oV)) := by rw [if_neg (by omega)]; exact ed
      refine ⟨_, rfl, _, rfl, _, rfl, c, f, G, R, i, nd, r, rfl, dp_same S03 hDc, S03.seq hS, hokR, hnd, hri, fun pa H4 s4 hpa e4 => ?_⟩
      have s04 : Same H H4 := S03.trans s4
      have ed4 : H4 pd = some (.lst ((if r = 0 then [] else nd.map (spo R r)).map oV)) := s4 _ _ ed
      have ep4 : H4 p = some (.lst ((goodP R nd).map nv)) := s4 _ _ ep3
      generalize hL : (if r = 0 then [] else nd.map (spo R r)) = L at *
      have hLl : L.length ≤ 20 := by
        rw [← hL]
        exact Nat.le_trans (spoL_len R r nd) hok1.1
      refine ⟨_, rfl, rfl, _, rfl, ?_⟩
      refine ite2 (fun z => absurd (of_decide_eq_true z) (by intro z; cases z)) (fun _ => ?_)
      refine ⟨_, rfl, _, _, _, _, true, rfl, .ty _, .base (.lst e4), kit_ty (by decide +kernel), true, rfl, iteF ?_⟩
      refine ⟨_, rfl, _, rfl, _, _, .lst (SqL.of e4) (dpAll_o _), .lst (SqL.of ed4) (dpAll_o _), shaped_of (layO _) (by decide), shaped_of (layO _) (by decide), _, rfl, ?_⟩
      rw [PySem.SeqAt.eqv_refl _ (layO _).1]
      refine iteF ?_
      -- (len(good) > 0) != (found[node] == 0)
      refine ⟨_, rfl, p, _, rfl, .inl (SqL.of ep4), _, _, rfl, rfl, _, rfl, _, rfl, f, _, _, _, rfl, rfl, s04.seq hS, at_nat' hri, rfl, rfl, _, rfl, ?_⟩
      refine ite2 (fun z => ?_) (fun _ => ?_)
      · refine absurd z ?_
        have e : decide ((0 : Int) < (((goodP R nd).map nv).length : Nat)) = decide (V.int r = V.int 0) := by
          rw [List.length_map]
          have := good_iff hR hokR hnd hri
          by_cases q : r = 0
          · rw [decide_eq_true (by have := this.mpr q; omega), decide_eq_true (by rw [q])]
          · rw [decide_eq_false (fun z => q (this.mp (by omega))), decide_eq_false (fun z => q (by injection z))]
        show ¬ (!decide (V.bl (decide ((0 : Int) < (((goodP R nd).map nv).length : Nat))) = V.bl (decide (V.int r = V.int 0)))) = true
        rw [e]
        simp
      -- any bool
      refine ⟨_, rfl, _, rfl, p, pa, _, _, rfl, rfl, ep4, e4, Nat.le_of_lt (small1000 (by simp; omega)), fun q hq => ⟨q, rfl, ⟨_, SqL.of upd_same⟩, fun D hD0 => ?_⟩⟩
      refine lc_it walk_list (fun j H5 => H5 D = some (.lst ((List.replicate j false).map V.bl)) ∧ Same (upd H4 q (.lst ((goodP R nd).map nv ++ L.map oV))) H5) ⟨upd_same, Same.new hD0⟩ (fun i H5 _ h => h.2.seq (SqL.of upd_same)) ?_ ?_
      · rintro j x H5o H5 hj ⟨e5, s5⟩ ⟨rfl, hx⟩
        have fin : ∃ t, TyX K H5 x t ∧ PySem.W.kitOne K t (.type "bool") = some false := by
          rcases List.mem_append.mp (List.mem_of_getElem? hx) with z | z
          · obtain ⟨y, _, rfl⟩ := List.mem_map.mp z
            exact ⟨_, .base (.int _), kit_ty (by decide +kernel)⟩
          · obtain ⟨y, _, rfl⟩ := List.mem_map.mp z
            cases y with
            | none => exact ⟨_, .base .non, kit_ty (by decide +kernel)⟩
            | some t => exact ⟨_, .base (.int _), kit_ty (by decide +kernel)⟩
        obtain ⟨t, ht1, ht2⟩ := fin
        refine ⟨rfl, ?_⟩
        refine ⟨_, rfl, _, _, t, _, false, rfl, .ty _, ht1, ht2, ?_⟩
        refine ⟨_, e5, small1000 (by simp at hj; simp; omega), ?_, fun b o e => by rw [upd_ne (ne_of_none e hD0)]; exact s5 _ _ e⟩
        rw [List.replicate_succ', List.map_append]
        exact upd_same
      rintro H5 ⟨e5, s5⟩
      refine ⟨D, _, rfl, SqL.of e5, _, rfl, ?_⟩
      have nof : ∀ n : Nat, (List.replicate n false).any id = false := fun n => by simp
      rw [nof]
      refine iteF ?_
      have s45 : Same H4 H5 := (Same.new hq).trans s5
      have ep5 := s45 _ _ ep4
      have ea5 := s45 _ _ e4
      have ed5 := s45 _ _ ed4
      have npa : p ≠ pa := ne_of_none ep3 hpa
      have ndpa : pd ≠ pa := ne_of_none ed hpa
      refine ⟨_, rfl, .inl ⟨rfl, _, SqL.of ep5⟩, p, _, _, rfl, rfl, ep5, small1000 (by rw [List.length_map]; omega), ?_⟩
      refine ⟨_, rfl, .inl ⟨rfl, _, SqL.of (by rw [upd_ne (Ne.symm npa)]; exact ea5)⟩, pa, _, _, rfl, rfl, (by rw [upd_ne (Ne.symm npa)]; exact ea5), small1000 (by rw [List.length_map]; omega), ?_⟩
      have s06 : ∀ y z, Same H (upd (upd H5 p y) pa z) := fun y z b o e => by
        rw [upd_ne (ne_of_none e (S03.free hpa)), upd_ne (ne_of_none e hp)]
        exact s45 _ _ (s04 _ _ e)
      refine ⟨_, rfl, _, rfl, _, rfl, c, f, G, R, i, nd, rfl, dp_same (s06 _ _) hDc, (s06 _ _).seq hS, hokR, hnd, fun p7 H7 s7 hp7 e7 => ?_⟩
      have ep7 : H7 p = some (.lst ((goodP R nd).map nv ++ [V.int 0])) := s7 _ _ (by rw [upd_ne npa]; exact upd_same)
      have ed7 : H7 pd = some (.lst (L.map oV)) := s7 _ _ (by rw [upd_ne ndpa, upd_ne NPD]; exact ed5)
      refine ⟨_, rfl, _, rfl, _, rfl, p, _, rfl, SqL.of ep7, fun q8 hq8 => ?_⟩
      have c1 : cutV ((goodP R nd).map nv ++ [V.int 0]) none (some (-1)) = (goodP R nd).map nv := cut_last _ _
      refine ⟨_, _, .lst (SqL.of (by rw [upd_ne (ne_of_none e7 hq8)]; exact e7)) (dpAll_n _), .lst (SqL.of upd_same) (by rw [show cutV ((goodP R nd).map nv ++ [V.int 0]) none (some (-1)) = (goodP R nd).map nv from c1]; exact dpAll_n _), shaped_of (layN _) (by decide), shaped_of (layN _) (by decide), ?_⟩
      rw [PySem.SeqAt.eqv_refl _ (layN _).1]
      refine ⟨_, rfl, iteT ?_⟩
      have s08 : ∀ y, Same H (upd H7 q8 y) := fun y b o e => by
        rw [upd_ne (ne_of_none (s7 _ _ (s06 _ _ _ _ e)) hq8)]
        exact s7 _ _ (s06 _ _ _ _ e)
      refine ⟨_, rfl, _, rfl, _, rfl, c, f, G, R, i, nd, r, rfl, dp_same (s08 _) hDc, (s08 _).seq hS, hokR, hnd, hri, fun p9 H9 s9 hp9 e9 => ?_⟩
      rw [hL] at e9
      refine ⟨_, rfl, _, _, .lst (SqL.of e9) (dpAll_o _), .lst (SqL.of (s9 _ _ (by rw [upd_ne (ne_of_none ed7 hq8)]; exact ed7))) (dpAll_o _), shaped_of (layO _) (by decide), shaped_of (layO _) (by decide), ?_⟩
      rw [PySem.SeqAt.eqv_refl _ (layO _).1]
      exact k _ ((s08 _).trans s9)
    · have cr : ¬ 0 < r := fun z => cr (decide_eq_true z)
      have r0 : r = 0 := by omega
      obtain ⟨pd, hpd⟩ : ∃ pd, pd = pd0 := ⟨_, rfl⟩
      obtain ⟨H3, hH3⟩ : ∃ H3, H3 = upd H2 pd0 (.lst []) := ⟨_, rfl⟩
      rw [← hH3]
      rw [← hpd]
      have S03 : Same H H3 := by rw [hH3]; exact s02'
      have ep3 : H3 p = some (.lst ((goodP R nd).map nv)) := by rw [hH3]; exact (Same.new (o := .lst []) hpd0) _ _ e12
      have NPD : pd ≠ p := fun z => by
        rw [← hpd, z, e12] at hpd0
        cases hpd0
      have ed : H3 pd = some (.lst ((if r = 0 then [] else nd.map (spo R r)).map oV)) := by rw [if_pos r0, hH3, hpd]; exact upd_same
      refine ⟨_, rfl, _, rfl, _, rfl, c, f, G, R, i, nd, r, rfl, dp_same S03 hDc, S03.seq hS, hokR, hnd, hri, fun pa H4 s4 hpa e4 => ?_⟩
      have s04 : Same H H4 := S03.trans s4
      have ed4 : H4 pd = some (.lst ((if r = 0 then [] else nd.map (spo R r)).map oV)) := s4 _ _ ed
      have ep4 : H4 p = some (.lst ((goodP R nd).map nv)) := s4 _ _ ep3
      generalize hL : (if r = 0 then [] else nd.map (spo R r)) = L at *
      have hLl : L.length ≤ 20 := by
        rw [← hL]
        exact Nat.le_trans (spoL_len R r nd) hok1.1
      refine ⟨_, rfl, rfl, _, rfl, ?_⟩
      refine ite2 (fun z => absurd (of_decide_eq_true z) (by intro z; cases z)) (fun _ => ?_)
      refine ⟨_, rfl, _, _, _, _, true, rfl, .ty _, .base (.lst e4), kit_ty (by decide +kernel), true, rfl, iteF ?_⟩
      refine ⟨_, rfl, _, rfl, _, _, .lst (SqL.of e4) (dpAll_o _), .lst (SqL.of ed4) (dpAll_o _), shaped_of (layO _) (by decide), shaped_of (layO _) (by decide), _, rfl, ?_⟩
      rw [PySem.SeqAt.eqv_refl _ (layO _).1]
      refine iteF ?_
      -- (len(good) > 0) != (found[node] == 0)
      refine ⟨_, rfl, p, _, rfl, .inl (SqL.of ep4), _, _, rfl, rfl, _, rfl, _, rfl, f, _, _, _, rfl, rfl, s04.seq hS, at_nat' hri, rfl, rfl, _, rfl, ?_⟩
      refine ite2 (fun z => ?_) (fun _ => ?_)
      · refine absurd z ?_
        have e : decide ((0 : Int) < (((goodP R nd).map nv).length : Nat)) = decide (V.int r = V.int 0) := by
          rw [List.length_map]
          have := good_iff hR hokR hnd hri
          by_cases q : r = 0
          · rw [decide_eq_true (by have := this.mpr q; omega), decide_eq_true (by rw [q])]
          · rw [decide_eq_false (fun z => q (this.mp (by omega))), decide_eq_false (fun z => q (by injection z))]
        show ¬ (!decide (V.bl (decide ((0 : Int) < (((goodP R nd).map nv).length : Nat))) = V.bl (decide (V.int r = V.int 0)))) = true
        rw [e]
        simp
      -- any bool
      refine ⟨_, rfl, _, rfl, p, pa, _, _, rfl, rfl, ep4, e4, Nat.le_of_lt (small1000 (by simp; omega)), fun q hq => ⟨q, rfl, ⟨_, SqL.of upd_same⟩, fun D hD0 => ?_⟩⟩
      refine lc_it walk_list (fun j H5 => H5 D = some (.lst ((List.replicate j false).map V.bl)) ∧ Same (upd H4 q (.lst ((goodP R nd).map nv ++ L.map oV))) H5) ⟨upd_same, Same.new hD0⟩ (fun i H5 _ h => h.2.seq (SqL.of upd_same)) ?_ ?_
      · rintro j x H5o H5 hj ⟨e5, s5⟩ ⟨rfl, hx⟩
        have fin : ∃ t, TyX K H5 x t ∧ PySem.W.kitOne K t (.type "bool") = some false := by
          rcases List.mem_append.mp (List.mem_of_getElem? hx) with z | z
          · obtain ⟨y, _, rfl⟩ := List.mem_map.mp z
            exact ⟨_, .base (.int _), kit_ty (by decide +kernel)⟩
          · obtain ⟨y, _, rfl⟩ := List.mem_map.mp z
            cases y with
            | none => exact ⟨_, .base .non, kit_ty (by decide +kernel)⟩
            | some t => exact ⟨_, .base (.int _), kit_ty (by decide +kernel)⟩
        obtain ⟨t, ht1, ht2⟩ := fin
        refine ⟨rfl, ?_⟩
        refine ⟨_, rfl, _, _, t, _, false, rfl, .ty _, ht1, ht2, ?_⟩
        refine ⟨_, e5, small1000 (by simp at hj; simp; omega), ?_, fun b o e => by rw [upd_ne (ne_of_none e hD0)]; exact s5 _ _ e⟩
        rw [List.replicate_succ', List.map_append]
        exact upd_same
      rintro H5 ⟨e5, s5⟩
      refine ⟨D, _, rfl, SqL.of e5, _, rfl, ?_⟩
      have nof : ∀ n : Nat, (List.replicate n false).any id = false := fun n => by simp
      rw [nof]
      refine iteF ?_
      have s45 : Same H4 H5 := (Same.new hq).trans s5
      have ep5 := s45 _ _ ep4
      have ea5 := s45 _ _ e4
      have ed5 := s45 _ _ ed4
      have npa : p ≠ pa := ne_of_none ep3 hpa
      have ndpa : pd ≠ pa := ne_of_none ed hpa
      refine ⟨_, rfl, .inl ⟨rfl, _, SqL.of ep5⟩, p, _, _, rfl, rfl, ep5, small1000 (by rw [List.length_map]; omega), ?_⟩
      refine ⟨_, rfl, .inl ⟨rfl, _, SqL.of (by rw [upd_ne (Ne.symm npa)]; exact ea5)⟩, pa, _, _, rfl, rfl, (by rw [upd_ne (Ne.symm npa)]; exact ea5), small1000 (by rw [List.length_map]; omega), ?_⟩
      have s06 : ∀ y z, Same H (upd (upd H5 p y) pa z) := fun y z b o e => by
        rw [upd_ne (ne_of_none e (S03.free hpa)), upd_ne (ne_of_none e hp)]
        exact s45 _ _ (s04 _ _ e)
      refine ⟨_, rfl, _, rfl, _, rfl, c, f, G, R, i, nd, rfl, dp_same (s06 _ _) hDc, (s06 _ _).seq hS, hokR, hnd, fun p7 H7 s7 hp7 e7 => ?_⟩
      have ep7 : H7 p = some (.lst ((goodP R nd).map nv ++ [V.int 0])) := s7 _ _ (by rw [upd_ne npa]; exact upd_same)
      have ed7 : H7 pd = some (.lst (L.map oV)) := s7 _ _ (by rw [upd_ne ndpa, upd_ne NPD]; exact ed5)
      refine ⟨_, rfl, _, rfl, _, rfl, p, _, rfl, SqL.of ep7, fun q8 hq8 => ?_⟩
      have c1 : cutV ((goodP R nd).map nv ++ [V.int 0]) none (some (-1)) = (goodP R nd).map nv := cut_last _ _
      refine ⟨_, _, .lst (SqL.of (by rw [upd_ne (ne_of_none e7 hq8)]; exact e7)) (dpAll_n _), .lst (SqL.of upd_same) (by rw [show cutV ((goodP R nd).map nv ++ [V.int 0]) none (some (-1)) = (goodP R nd).map nv from c1]; exact dpAll_n _), shaped_of (layN _) (by decide), shaped_of (layN _) (by decide), ?_⟩
      rw [PySem.SeqAt.eqv_refl _ (layN _).1]
      refine ⟨_, rfl, iteT ?_⟩
      have s08 : ∀ y, Same H (upd H7 q8 y) := fun y b o e => by
        rw [upd_ne (ne_of_none (s7 _ _ (s06 _ _ _ _ e)) hq8)]
        exact s7 _ _ (s06 _ _ _ _ e)
      refine ⟨_, rfl, _, rfl, _, rfl, c, f, G, R, i, nd, r, rfl, dp_same (s08 _) hDc, (s08 _).seq hS, hokR, hnd, hri, fun p9 H9 s9 hp9 e9 => ?_⟩
      rw [hL] at e9
      refine ⟨_, rfl, _, _, .lst (SqL.of e9) (dpAll_o _), .lst (SqL.of (s9 _ _ (by rw [upd_ne (ne_of_none ed7 hq8)]; exact ed7))) (dpAll_o _), shaped_of (layO _) (by decide), shaped_of (layO _) (by decide), ?_⟩
      rw [PySem.SeqAt.eqv_refl _ (layO _).1]
      exact k _ ((s08 _).trans s9)
end
end Wb

namespace Wb
open PySem PySem.Spec PyProof.Rows L2
section
variable {P : Program} {w : World} {K : PySem.W.Frag} {mg : Str → Option Value} {base : Heap}

theorem oklaw {f : Addr} {fd : FuncData} (F : Fun K "law" "law" slaw f fd) (T : Txt K mg) (C_law_start : Cal P w K mg base "_law_start" P_law_start 1 (sp_law_start K)) (C_law_draw : Cal P w K mg base "_law_draw" P_law_draw 1 (sp_law_draw K)) (C_law_game : Cal P w K mg base "_law_game" P_law_game 3 (sp_law_game K)) (C_law_copy : Cal P w K mg base "_law_copy" P_law_copy 1 (sp_law_copy K)) (Cranks : Cal P w K mg base "ranks" Pranks 3 (spranks K)) (C_law_asked : Cal P w K mg base "_law_asked" P_law_asked 3 (sp_law_asked K)) : FnOk P w K mg base CX0 4 f fd Plaw (splaw K) := by
  obtain ⟨g_law_start, gd_law_start, G_law_start, m_law_start, k_law_start, b_law_start⟩ := C_law_start.ex
  obtain ⟨g_law_draw, gd_law_draw, G_law_draw, m_law_draw, k_law_draw, b_law_draw⟩ := C_law_draw.ex
  obtain ⟨g_law_game, gd_law_game, G_law_game, m_law_game, k_law_game, b_law_game⟩ := C_law_game.ex
  obtain ⟨g_law_copy, gd_law_copy, G_law_copy, m_law_copy, k_law_copy, b_law_copy⟩ := C_law_copy.ex
  obtain ⟨granks, gdranks, Granks, mranks, kranks, branks⟩ := Cranks.ex
  obtain ⟨g_law_asked, gd_law_asked, G_law_asked, m_law_asked, k_law_asked, b_law_asked⟩ := C_law_asked.ex
  refine F.ok sclaw (fun vs H Q E h => ?_) (fun cdv A outer s H vs Q E hr h => ?_)
  · obtain ⟨a, ns, rfl, hS, hlen, k⟩ := h
    rfl
  · obtain ⟨a, ns, rfl, hS, hlen, k⟩ := h
    refine ⟨_, (pss_cons (ps_set (i := 1) sclaw.nd rfl (by first | exact Or.inl rfl | exact Or.inr rfl) (pe_call G_law_start (hr.mono (by decide)) (by rfl) m_law_start k_law_start b_law_start .nil pass0 (pa_cons (pv 0) pa_nil)))
  (pss_cons (ps_set (i := 2) sclaw.nd rfl (by first | exact Or.inl rfl | exact Or.inr rfl) (pe_call G_law_draw (hr.mono (by decide)) (by rfl) m_law_draw k_law_draw b_law_draw .nil pass0 (pa_cons (pv 0) (pa_cons (pv 1) (pa_cons pe_int pa_nil)))))
  (pss_cons (ps_if (pt_cmpR op_eq (pe_call G_law_draw (hr.mono (by decide)) (by rfl) m_law_draw k_law_draw b_law_draw .nil pass0 (pa_cons (pv 0) (pa_cons (pv 1) (pa_cons pe_int pa_nil)))) pe_int (nomark _))
  (pss_one (ps_set (i := 2) sclaw.nd rfl (by first | exact Or.inl rfl | exact Or.inr rfl) (pe_op op_add pe_int (pe_call G_law_draw (hr.mono (by decide)) (by rfl) m_law_draw k_law_draw b_law_draw .nil pass0 (pa_cons (pv 0) (pa_cons (pv 1) (pa_cons pe_int pa_nil)))))))
  pss_nil)
  (pss_cons (ps_set (i := 3) sclaw.nd rfl (by first | exact Or.inl rfl | exact Or.inr rfl) (pe_call G_law_game (hr.mono (by decide)) (by rfl) m_law_game k_law_game b_law_game .nil pass0 (pa_cons (pv 0) (pa_cons (pv 1) (pa_cons (pv 2) pa_nil)))))
  (pss_cons (ps_set (i := 4) sclaw.nd rfl (by first | exact Or.inl rfl | exact Or.inr rfl) (pe_call G_law_copy (hr.mono (by decide)) (by rfl) m_law_copy k_law_copy b_law_copy .nil pass0 (pa_cons (pv 3) pa_nil)))
  (pss_cons (ps_set (i := 5) sclaw.nd rfl (by first | exact Or.inl rfl | exact Or.inr rfl) (pe_call Granks (hr.mono (by decide)) (by rfl) mranks kranks branks .nil pass0 (pa_cons (pv 4) pa_nil)))
  (pss_cons (ps_set (i := 6) sclaw.nd rfl (by first | exact Or.inl rfl | exact Or.inr rfl) (pe_callTy (T := "list") call_list_of (by rfl) T.b_list (by decide +kernel) (pa_cons (pv 5) pa_nil)))
  (pss_cons (ps_for PassesOwn.never rfl (pi_range1 rfl T.b_range (pa_cons (pv 2) pa_nil)) (pg_name (i := 7) sclaw.nd rfl (by first | exact Or.inl rfl | exact Or.inr rfl))
  (pss_one (ps_if (pt_not (pt_val (pe_call G_law_asked (hr.mono (by decide)) (by rfl) m_law_asked k_law_asked b_law_asked .nil pass0 (pa_cons (pv 4) (pa_cons (pv 5) (pa_cons (pv 7) (pa_cons (pv 3) pa_nil)))))))
  (pss_one (ps_ret pe_bl))
  pss_nil)))
  (pss_one (ps_ret (pe_and (pe_cmpR (op_eqD hr.units) (pv 4) (pv 3) (nomark _)) (pe_one (pe_cmpR (op_eqD hr.units) (pv 5) (pv 6) (nomark _)))))))))))))), ?_⟩
    refine ⟨_, rfl, a, ns, rfl, hS, hlen, fun s0 H1 s1 h0s sc1 => ?_⟩
    refine ⟨_, rfl, _, rfl, a, s0, 14, rfl, sc1, by decide, by decide, fun m H2 m0 m1 f2 sc2 => ?_⟩
    refine ⟨_, rfl, _, rfl, a, s0, 3, rfl, sc2, by decide, by decide, fun r H2' r0 r1 f2' sc2' => ⟨rfl, _, rfl, ?_⟩⟩
    refine ite2 (fun c => ?_) (fun c => ?_)
    · refine ⟨_, rfl, _, rfl, a, s0, 30, rfl, sc2', by decide, by decide, fun r' H2'' p0 p1 f2'' sc2'' => ⟨_, _, rfl, rfl, ?_⟩⟩
      have m0 : 0 ≤ (30 : Int) + r' := by omega
      have m1 : (30 : Int) + r' ≤ 59 := by omega
      refine ⟨_, rfl, _, rfl, _, rfl, a, s0, (30 : Int) + r', rfl, sc2'', m0, m1, fun g G H3 f3 sc3 hg hlG hok hD => ?_⟩
      have hlG' : (G.length : Int) = (30 : Int) + r' := hlG
      have hokG : GOk G.length G := by rw [hlG']; exact hok
      refine ⟨_, rfl, g, (30 : Int) + r', G, rfl, dp_same (hid_same _ _) hD, by omega, hok, fun c H4 s4 hc hDc => ?_⟩
      refine ⟨_, rfl, c, G, rfl, hDc, hokG, by omega, fun p R H5 s5 hp eR hR => ?_⟩
      have hDg5 : Dp K H5 (.ref g) (gameD G) := dp_same ((hid_same _ _).trans (s4.trans s5)) hD
      have hDc5 : Dp K H5 (.ref c) (gameD G) := dp_same s5 hDc
      have hRl : R.length = G.length := hR.len
      refine ⟨_, rfl, p, _, rfl, .inl (SqL.of eR), fun kp hkp => ?_⟩
      have nkp : p ≠ kp := ne_of_none eR hkp
      have s56 := Same.new (o := .lst (R.map V.int)) hkp
      refine ⟨_, rfl, _, rfl, by omega, by omega, ?_⟩
      refine for_it walk_range (fun i σ H7 => ∃ (w8 : Option V), σ = [some (.ref a), some (.ref s0), some (.int ((30 : Int) + r')), some (.ref g), some (.ref c), some (.ref p), some (.ref kp), w8] ∧ Same (upd H5 kp (.lst (R.map V.int))) H7)
        ⟨_, rfl, Same.refl _⟩ (fun _ _ _ _ _ => trivial) ?_ ?_
      · rintro i x σ H7o H7 hi ⟨w8, rfl, s7⟩ ⟨rfl, rfl⟩
        have hi' : i < G.length := by omega
        simp only [Int.zero_add]
        refine ⟨_, rfl, _, rfl, _, rfl, _, rfl, c, p, g, G, R, i, rfl, dp_same (s56.trans s7) hDc5, dp_same (s56.trans s7) hDg5, (s56.trans s7).seq (SqL.of eR), hR, hokG, hi', fun H8 s8 => ?_⟩
        refine ⟨_, rfl, iteF ?_⟩
        exact ⟨_, rfl, s7.trans s8⟩
      · rintro σ H7 ⟨w8, rfl, s7⟩
        refine ⟨_, rfl, _, rfl, _, _, dp_same (s56.trans s7) hDc5, dp_same (s56.trans s7) hDg5, shGame G, shGame G, ?_⟩
        rw [PySem.SeqAt.eqv_refl _ (layGame G).1]
        refine ⟨_, rfl, iteT ?_⟩
        refine ⟨_, rfl, _, rfl, _, _, dpInts (SqL.of ((s56.trans s7) _ _ eR)), dpInts (SqL.of (s7 _ _ upd_same)), shInts _, shInts _, ?_⟩
        rw [PySem.SeqAt.eqv_refl _ (layInts _).1]
        exact k _
    · have m1 : m ≤ 59 := by omega
      refine ⟨_, rfl, _, rfl, _, rfl, a, s0, m, rfl, sc2', m0, m1, fun g G H3 f3 sc3 hg hlG hok hD => ?_⟩
      have hlG' : (G.length : Int) = m := hlG
      have hokG : GOk G.length G := by rw [hlG']; exact hok
      refine ⟨_, rfl, g, m, G, rfl, dp_same (hid_same _ _) hD, by omega, hok, fun c H4 s4 hc hDc => ?_⟩
      refine ⟨_, rfl, c, G, rfl, hDc, hokG, by omega, fun p R H5 s5 hp eR hR => ?_⟩
      have hDg5 : Dp K H5 (.ref g) (gameD G) := dp_same ((hid_same _ _).trans (s4.trans s5)) hD
      have hDc5 : Dp K H5 (.ref c) (gameD G) := dp_same s5 hDc
      have hRl : R.length = G.length := hR.len
      refine ⟨_, rfl, p, _, rfl, .inl (SqL.of eR), fun kp hkp => ?_⟩
      have nkp : p ≠ kp := ne_of_none eR hkp
      have s56 := Same.new (o := .lst (R.map V.int)) hkp
      refine ⟨_, rfl, _, rfl, by omega, by omega, ?_⟩
      refine for_it walk_range (fun i σ H7 => ∃ (w8 : Option V), σ = [some (.ref a), some (.ref s0), some (.int (m)), some (.ref g), some (.ref c), some (.ref p), some (.ref kp), w8] ∧ Same (upd H5 kp (.lst (R.map V.int))) H7)
        ⟨_, rfl, Same.refl _⟩ (fun _ _ _ _ _ => trivial) ?_ ?_
      · rintro i x σ H7o H7 hi ⟨w8, rfl, s7⟩ ⟨rfl, rfl⟩
        have hi' : i < G.length := by omega
        simp only [Int.zero_add]
        refine ⟨_, rfl, _, rfl, _, rfl, _, rfl, c, p, g, G, R, i, rfl, dp_same (s56.trans s7) hDc5, dp_same (s56.trans s7) hDg5, (s56.trans s7).seq (SqL.of eR), hR, hokG, hi', fun H8 s8 => ?_⟩
        refine ⟨_, rfl, iteF ?_⟩
        exact ⟨_, rfl, s7.trans s8⟩
      · rintro σ H7 ⟨w8, rfl, s7⟩
        refine ⟨_, rfl, _, rfl, _, _, dp_same (s56.trans s7) hDc5, dp_same (s56.trans s7) hDg5, shGame G, shGame G, ?_⟩
        rw [PySem.SeqAt.eqv_refl _ (layGame G).1]
        refine ⟨_, rfl, iteT ?_⟩
        refine ⟨_, rfl, _, rfl, _, _, dpInts (SqL.of ((s56.trans s7) _ _ eR)), dpInts (SqL.of (s7 _ _ upd_same)), shInts _, shInts _, ?_⟩
        rw [PySem.SeqAt.eqv_refl _ (layInts _).1]
        exact k _
end
end Wb

namespace Wb
open PySem PySem.Spec PyProof.Rows L2
section
theorem all_mk {l : PySem.W.OpenLaw} {w : World} {K : PySem.W.Frag} {h : Heap} {mg : Str → Option Value} {fa : Addr}
    {oc0 kV0 dc0 pm0 cd0 ct0 : Value} {od0 an0 : Option Addr} {sl0 : Array (Option Value)} {f0 : Addr}
    {oc1 kV1 dc1 pm1 cd1 ct1 : Value} {od1 an1 : Option Addr} {sl1 : Array (Option Value)} {f1 : Addr}
    {oc2 kV2 dc2 pm2 cd2 ct2 : Value} {od2 an2 : Option Addr} {sl2 : Array (Option Value)} {f2 : Addr}
    {oc3 kV3 dc3 pm3 cd3 ct3 : Value} {od3 an3 : Option Addr} {sl3 : Array (Option Value)} {f3 : Addr}
    {oc4 kV4 dc4 pm4 cd4 ct4 : Value} {od4 an4 : Option Addr} {sl4 : Array (Option Value)} {f4 : Addr}
    {oc5 kV5 dc5 pm5 cd5 ct5 : Value} {od5 an5 : Option Addr} {sl5 : Array (Option Value)} {f5 : Addr}
    {oc6 kV6 dc6 pm6 cd6 ct6 : Value} {od6 an6 : Option Addr} {sl6 : Array (Option Value)} {f6 : Addr}
    {oc7 kV7 dc7 pm7 cd7 ct7 : Value} {od7 an7 : Option Addr} {sl7 : Array (Option Value)} {f7 : Addr}
    {oc8 kV8 dc8 pm8 cd8 ct8 : Value} {od8 an8 : Option Addr} {sl8 : Array (Option Value)} {f8 : Addr}
    {oc9 kV9 dc9 pm9 cd9 ct9 : Value} {od9 an9 : Option Addr} {sl9 : Array (Option Value)} {f9 : Addr}
    {oc10 kV10 dc10 pm10 cd10 ct10 : Value} {od10 an10 : Option Addr} {sl10 : Array (Option Value)} {f10 : Addr}
    {oc11 kV11 dc11 pm11 cd11 ct11 : Value} {od11 an11 : Option Addr} {sl11 : Array (Option Value)} {f11 : Addr}
    {oc12 kV12 dc12 pm12 cd12 ct12 : Value} {od12 an12 : Option Addr} {sl12 : Array (Option Value)} {f12 : Addr}
    {oc13 kV13 dc13 pm13 cd13 ct13 : Value} {od13 an13 : Option Addr} {sl13 : Array (Option Value)} {f13 : Addr}
    {oc14 kV14 dc14 pm14 cd14 ct14 : Value} {od14 an14 : Option Addr} {sl14 : Array (Option Value)} {f14 : Addr}
    {oc15 kV15 dc15 pm15 cd15 ct15 : Value} {od15 an15 : Option Addr} {sl15 : Array (Option Value)} {f15 : Addr}
    {oc16 kV16 dc16 pm16 cd16 ct16 : Value} {od16 an16 : Option Addr} {sl16 : Array (Option Value)} {f16 : Addr}
    {t__MOST_NODES : Tok}
    (X : K.In h) (G : h.Ns mainGlobals mg) (hfa : mg "law" = some (.ref fa))
    (a0 : PySem.W.nsIn K mainGlobals "check_number" = some (some (.ref f0))) (l0 : K.lookup f0 = some ⟨oc0, od0, .func (PySem.W.fnOf "check_number" "check_number" (defArgs scheck_number) (defBody scheck_number) (defScope scheck_number) .none kV0 dc0 pm0 an0 cd0 ct0), sl0⟩) (c0 : PySem.W.codeIn K cd0 "check_number" = true) (k0 : PySem.W.keepIn K (.ref f0) = true)
    (a1 : PySem.W.nsIn K mainGlobals "_check_nodes" = some (some (.ref f1))) (l1 : K.lookup f1 = some ⟨oc1, od1, .func (PySem.W.fnOf "_check_nodes" "_check_nodes" (defArgs s_check_nodes) (defBody s_check_nodes) (defScope s_check_nodes) .none kV1 dc1 pm1 an1 cd1 ct1), sl1⟩) (c1 : PySem.W.codeIn K cd1 "_check_nodes" = true) (k1 : PySem.W.keepIn K (.ref f1) = true)
    (a2 : PySem.W.nsIn K mainGlobals "_lost_in_turn" = some (some (.ref f2))) (l2 : K.lookup f2 = some ⟨oc2, od2, .func (PySem.W.fnOf "_lost_in_turn" "_lost_in_turn" (defArgs s_lost_in_turn) (defBody s_lost_in_turn) (defScope s_lost_in_turn) .none kV2 dc2 pm2 an2 cd2 ct2), sl2⟩) (c2 : PySem.W.codeIn K cd2 "_lost_in_turn" = true) (k2 : PySem.W.keepIn K (.ref f2) = true)
    (a3 : PySem.W.nsIn K mainGlobals "ranks" = some (some (.ref f3))) (l3 : K.lookup f3 = some ⟨oc3, od3, .func (PySem.W.fnOf "ranks" "ranks" (defArgs sranks) (defBody sranks) (defScope sranks) .none kV3 dc3 pm3 an3 cd3 ct3), sl3⟩) (c3 : PySem.W.codeIn K cd3 "ranks" = true) (k3 : PySem.W.keepIn K (.ref f3) = true)
    (a4 : PySem.W.nsIn K mainGlobals "_is_good" = some (some (.ref f4))) (l4 : K.lookup f4 = some ⟨oc4, od4, .func (PySem.W.fnOf "_is_good" "_is_good" (defArgs s_is_good) (defBody s_is_good) (defScope s_is_good) .none kV4 dc4 pm4 an4 cd4 ct4), sl4⟩) (c4 : PySem.W.codeIn K cd4 "_is_good" = true) (k4 : PySem.W.keepIn K (.ref f4) = true)
    (a5 : PySem.W.nsIn K mainGlobals "_spoiler" = some (some (.ref f5))) (l5 : K.lookup f5 = some ⟨oc5, od5, .func (PySem.W.fnOf "_spoiler" "_spoiler" (defArgs s_spoiler) (defBody s_spoiler) (defScope s_spoiler) .none kV5 dc5 pm5 an5 cd5 ct5), sl5⟩) (c5 : PySem.W.codeIn K cd5 "_spoiler" = true) (k5 : PySem.W.keepIn K (.ref f5) = true)
    (a6 : PySem.W.nsIn K mainGlobals "good_options" = some (some (.ref f6))) (l6 : K.lookup f6 = some ⟨oc6, od6, .func (PySem.W.fnOf "good_options" "good_options" (defArgs sgood_options) (defBody sgood_options) (defScope sgood_options) .none kV6 dc6 pm6 an6 cd6 ct6), sl6⟩) (c6 : PySem.W.codeIn K cd6 "good_options" = true) (k6 : PySem.W.keepIn K (.ref f6) = true)
    (a7 : PySem.W.nsIn K mainGlobals "spoilers" = some (some (.ref f7))) (l7 : K.lookup f7 = some ⟨oc7, od7, .func (PySem.W.fnOf "spoilers" "spoilers" (defArgs sspoilers) (defBody sspoilers) (defScope sspoilers) .none kV7 dc7 pm7 an7 cd7 ct7), sl7⟩) (c7 : PySem.W.codeIn K cd7 "spoilers" = true) (k7 : PySem.W.keepIn K (.ref f7) = true)
    (a8 : PySem.W.nsIn K mainGlobals "_law_start" = some (some (.ref f8))) (l8 : K.lookup f8 = some ⟨oc8, od8, .func (PySem.W.fnOf "_law_start" "_law_start" (defArgs s_law_start) (defBody s_law_start) (defScope s_law_start) .none kV8 dc8 pm8 an8 cd8 ct8), sl8⟩) (c8 : PySem.W.codeIn K cd8 "_law_start" = true) (k8 : PySem.W.keepIn K (.ref f8) = true)
    (a9 : PySem.W.nsIn K mainGlobals "_law_draw" = some (some (.ref f9))) (l9 : K.lookup f9 = some ⟨oc9, od9, .func (PySem.W.fnOf "_law_draw" "_law_draw" (defArgs s_law_draw) (defBody s_law_draw) (defScope s_law_draw) .none kV9 dc9 pm9 an9 cd9 ct9), sl9⟩) (c9 : PySem.W.codeIn K cd9 "_law_draw" = true) (k9 : PySem.W.keepIn K (.ref f9) = true)
    (a10 : PySem.W.nsIn K mainGlobals "_law_target" = some (some (.ref f10))) (l10 : K.lookup f10 = some ⟨oc10, od10, .func (PySem.W.fnOf "_law_target" "_law_target" (defArgs s_law_target) (defBody s_law_target) (defScope s_law_target) .none kV10 dc10 pm10 an10 cd10 ct10), sl10⟩) (c10 : PySem.W.codeIn K cd10 "_law_target" = true) (k10 : PySem.W.keepIn K (.ref f10) = true)
    (a11 : PySem.W.nsIn K mainGlobals "_law_game" = some (some (.ref f11))) (l11 : K.lookup f11 = some ⟨oc11, od11, .func (PySem.W.fnOf "_law_game" "_law_game" (defArgs s_law_game) (defBody s_law_game) (defScope s_law_game) .none kV11 dc11 pm11 an11 cd11 ct11), sl11⟩) (c11 : PySem.W.codeIn K cd11 "_law_game" = true) (k11 : PySem.W.keepIn K (.ref f11) = true)
    (a12 : PySem.W.nsIn K mainGlobals "_law_copy" = some (some (.ref f12))) (l12 : K.lookup f12 = some ⟨oc12, od12, .func (PySem.W.fnOf "_law_copy" "_law_copy" (defArgs s_law_copy) (defBody s_law_copy) (defScope s_law_copy) .none kV12 dc12 pm12 an12 cd12 ct12), sl12⟩) (c12 : PySem.W.codeIn K cd12 "_law_copy" = true) (k12 : PySem.W.keepIn K (.ref f12) = true)
    (a13 : PySem.W.nsIn K mainGlobals "_law_good" = some (some (.ref f13))) (l13 : K.lookup f13 = some ⟨oc13, od13, .func (PySem.W.fnOf "_law_good" "_law_good" (defArgs s_law_good) (defBody s_law_good) (defScope s_law_good) .none kV13 dc13 pm13 an13 cd13 ct13), sl13⟩) (c13 : PySem.W.codeIn K cd13 "_law_good" = true) (k13 : PySem.W.keepIn K (.ref f13) = true)
    (a14 : PySem.W.nsIn K mainGlobals "_law_spoilers" = some (some (.ref f14))) (l14 : K.lookup f14 = some ⟨oc14, od14, .func (PySem.W.fnOf "_law_spoilers" "_law_spoilers" (defArgs s_law_spoilers) (defBody s_law_spoilers) (defScope s_law_spoilers) .none kV14 dc14 pm14 an14 cd14 ct14), sl14⟩) (c14 : PySem.W.codeIn K cd14 "_law_spoilers" = true) (k14 : PySem.W.keepIn K (.ref f14) = true)
    (a15 : PySem.W.nsIn K mainGlobals "_law_asked" = some (some (.ref f15))) (l15 : K.lookup f15 = some ⟨oc15, od15, .func (PySem.W.fnOf "_law_asked" "_law_asked" (defArgs s_law_asked) (defBody s_law_asked) (defScope s_law_asked) .none kV15 dc15 pm15 an15 cd15 ct15), sl15⟩) (c15 : PySem.W.codeIn K cd15 "_law_asked" = true) (k15 : PySem.W.keepIn K (.ref f15) = true)
    (a16 : PySem.W.nsIn K mainGlobals "law" = some (some (.ref f16))) (l16 : K.lookup f16 = some ⟨oc16, od16, .func (PySem.W.fnOf "law" "law" (defArgs slaw) (defBody slaw) (defScope slaw) .none kV16 dc16 pm16 an16 cd16 ct16), sl16⟩) (c16 : PySem.W.codeIn K cd16 "law" = true) (k16 : PySem.W.keepIn K (.ref f16) = true)
    (z_len : PySem.W.nsIn K mainGlobals "len" = some none)
    (z_abs : PySem.W.nsIn K mainGlobals "abs" = some none)
    (z_int : PySem.W.nsIn K mainGlobals "int" = some none)
    (z_bool : PySem.W.nsIn K mainGlobals "bool" = some none)
    (z_str : PySem.W.nsIn K mainGlobals "str" = some none)
    (z_list : PySem.W.nsIn K mainGlobals "list" = some none)
    (z_range : PySem.W.nsIn K mainGlobals "range" = some none)
    (z_enumerate : PySem.W.nsIn K mainGlobals "enumerate" = some none)
    (z_min : PySem.W.nsIn K mainGlobals "min" = some none)
    (z_all : PySem.W.nsIn K mainGlobals "all" = some none)
    (z_any : PySem.W.nsIn K mainGlobals "any" = some none)
    (z_isinstance : PySem.W.nsIn K mainGlobals "isinstance" = some none)
    (z_zip : PySem.W.nsIn K mainGlobals "zip" = some none)
    (g__MOST_NODES : PySem.W.nsIn K mainGlobals "_MOST_NODES" = some (some (.int 12000 t__MOST_NODES))) :
    ∃ fd : FuncData, (∀ (s : Shared) (v : Value), BindsTo s fd ⟨[v], []⟩ [("script", v)]) ∧ ∀ base : Heap, K.In base → base.Ns mainGlobals mg → FnOk l.prog w K mg base CX0 4 fa fd ["script"] (splaw K) := by
  have e := hfa.symm.trans (PySem.W.mg_of X G a16)
  cases e
  have T : Txt K mg := ⟨PySem.W.mg_none_of X G z_len, PySem.W.mg_none_of X G z_abs, PySem.W.mg_none_of X G z_int, PySem.W.mg_none_of X G z_bool, PySem.W.mg_none_of X G z_str, PySem.W.mg_none_of X G z_list, PySem.W.mg_none_of X G z_range, PySem.W.mg_none_of X G z_enumerate, PySem.W.mg_none_of X G z_min, PySem.W.mg_none_of X G z_all, PySem.W.mg_none_of X G z_any, PySem.W.mg_none_of X G z_isinstance, PySem.W.mg_none_of X G z_zip, ⟨_, PySem.W.mg_of X G g__MOST_NODES⟩⟩
  have F0 := fun_mk (st := scheck_number) l0 c0 k0
  have b0 := F0.binds (ps := Pcheck_number) fun _ _ _ _ _ _ us hl => match us, hl with | [_, _, _, _], _ => rfl
  have F1 := fun_mk (st := s_check_nodes) l1 c1 k1
  have b1 := F1.binds (ps := P_check_nodes) fun _ _ _ _ _ _ us hl => match us, hl with | [_], _ => rfl
  have F2 := fun_mk (st := s_lost_in_turn) l2 c2 k2
  have b2 := F2.binds (ps := P_lost_in_turn) fun _ _ _ _ _ _ us hl => match us, hl with | [_, _], _ => rfl
  have F3 := fun_mk (st := sranks) l3 c3 k3
  have b3 := F3.binds (ps := Pranks) fun _ _ _ _ _ _ us hl => match us, hl with | [_], _ => rfl
  have F4 := fun_mk (st := s_is_good) l4 c4 k4
  have b4 := F4.binds (ps := P_is_good) fun _ _ _ _ _ _ us hl => match us, hl with | [_, _], _ => rfl
  have F5 := fun_mk (st := s_spoiler) l5 c5 k5
  have b5 := F5.binds (ps := P_spoiler) fun _ _ _ _ _ _ us hl => match us, hl with | [_, _, _], _ => rfl
  have F6 := fun_mk (st := sgood_options) l6 c6 k6
  have b6 := F6.binds (ps := Pgood_options) fun _ _ _ _ _ _ us hl => match us, hl with | [_, _, _], _ => rfl
  have F7 := fun_mk (st := sspoilers) l7 c7 k7
  have b7 := F7.binds (ps := Pspoilers) fun _ _ _ _ _ _ us hl => match us, hl with | [_, _, _], _ => rfl
  have F8 := fun_mk (st := s_law_start) l8 c8 k8
  have b8 := F8.binds (ps := P_law_start) fun _ _ _ _ _ _ us hl => match us, hl with | [_], _ => rfl
  have F9 := fun_mk (st := s_law_draw) l9 c9 k9
  have b9 := F9.binds (ps := P_law_draw) fun _ _ _ _ _ _ us hl => match us, hl with | [_, _, _], _ => rfl
  have F10 := fun_mk (st := s_law_target) l10 c10 k10
  have b10 := F10.binds (ps := P_law_target) fun _ _ _ _ _ _ us hl => match us, hl with | [_, _, _], _ => rfl
  have F11 := fun_mk (st := s_law_game) l11 c11 k11
  have b11 := F11.binds (ps := P_law_game) fun _ _ _ _ _ _ us hl => match us, hl with | [_, _, _], _ => rfl
  have F12 := fun_mk (st := s_law_copy) l12 c12 k12
  have b12 := F12.binds (ps := P_law_copy) fun _ _ _ _ _ _ us hl => match us, hl with | [_], _ => rfl
  have F13 := fun_mk (st := s_law_good) l13 c13 k13
  have b13 := F13.binds (ps := P_law_good) fun _ _ _ _ _ _ us hl => match us, hl with | [_, _], _ => rfl
  have F14 := fun_mk (st := s_law_spoilers) l14 c14 k14
  have b14 := F14.binds (ps := P_law_spoilers) fun _ _ _ _ _ _ us hl => match us, hl with | [_, _, _], _ => rfl
  have F15 := fun_mk (st := s_law_asked) l15 c15 k15
  have b15 := F15.binds (ps := P_law_asked) fun _ _ _ _ _ _ us hl => match us, hl with | [_, _, _, _], _ => rfl
  have F16 := fun_mk (st := slaw) l16 c16 k16
  refine ⟨PySem.W.fnOf "law" "law" (defArgs slaw) (defBody slaw) (defScope slaw) .none kV16 dc16 pm16 an16 cd16 ct16, fun s v => .of_eq rfl, fun base _ _ => ?_⟩
  have C0 := Cal.mk (okcheck_number (P := l.prog) (w := w) (base := base) F0 T) (PySem.W.mg_of X G a0) k0 b0
  have C1 := Cal.mk (ok_check_nodes (P := l.prog) (w := w) (base := base) F1 T C0) (PySem.W.mg_of X G a1) k1 b1
  have C2 := Cal.mk (ok_lost_in_turn (P := l.prog) (w := w) (base := base) F2 T) (PySem.W.mg_of X G a2) k2 b2
  have C3 := Cal.mk (okranks (P := l.prog) (w := w) (base := base) F3 T C2 C1) (PySem.W.mg_of X G a3) k3 b3
  have C4 := Cal.mk (ok_is_good (P := l.prog) (w := w) (base := base) F4 T) (PySem.W.mg_of X G a4) k4 b4
  have C5 := Cal.mk (ok_spoiler (P := l.prog) (w := w) (base := base) F5 T) (PySem.W.mg_of X G a5) k5 b5
  have C6 := Cal.mk (okgood_options (P := l.prog) (w := w) (base := base) F6 T C4) (PySem.W.mg_of X G a6) k6 b6
  have C7 := Cal.mk (okspoilers (P := l.prog) (w := w) (base := base) F7 T C5) (PySem.W.mg_of X G a7) k7 b7
  have C8 := Cal.mk (ok_law_start (P := l.prog) (w := w) (base := base) F8 T) (PySem.W.mg_of X G a8) k8 b8
  have C9 := Cal.mk (ok_law_draw (P := l.prog) (w := w) (base := base) F9 T) (PySem.W.mg_of X G a9) k9 b9
  have C10 := Cal.mk (ok_law_target (P := l.prog) (w := w) (base := base) F10 T C9) (PySem.W.mg_of X G a10) k10 b10
  have C11 := Cal.mk (ok_law_game (P := l.prog) (w := w) (base := base) F11 T C9 C10) (PySem.W.mg_of X G a11) k11 b11
  have C12 := Cal.mk (ok_law_copy (P := l.prog) (w := w) (base := base) F12 T) (PySem.W.mg_of X G a12) k12 b12
  have C13 := Cal.mk (ok_law_good (P := l.prog) (w := w) (base := base) F13 T) (PySem.W.mg_of X G a13) k13 b13
  have C14 := Cal.mk (ok_law_spoilers (P := l.prog) (w := w) (base := base) F14 T) (PySem.W.mg_of X G a14) k14 b14
  have C15 := Cal.mk (ok_law_asked (P := l.prog) (w := w) (base := base) F15 T C6 C7 C13 C14) (PySem.W.mg_of X G a15) k15 b15
  exact oklaw (P := l.prog) (w := w) (base := base) F16 T C8 C9 C11 C12 C3 C15
theorem walk {l : PySem.W.OpenLaw} {q : Program} {loose : List Str} {XP : (Str → Option Value) → Heap → Prop} {YP : World → Heap → Prop} {d : DefRec} {K : Params → PySem.W.Frag} (hn : l.most = some 63) (hdf : d.params.defaults = [])
    (hY : ∀ (w : World) (h : Heap), YP w h → (K w.params).In h)
    (F : ∀ (w : World) (mg : Str → Option Value) (fa : Addr) (h : Heap), (K w.params).In h → h.Ns mainGlobals mg → mg d.name = some (.ref fa) →
      ∃ fd : FuncData, (∀ (s : Shared) (u : Value), BindsTo s fd ⟨[u], []⟩ [("script", u)]) ∧ ∀ base : Heap, (K w.params).In base → base.Ns mainGlobals mg → FnOk l.prog w (K w.params) mg base CX0 4 fa fd ["script"] (splaw (K w.params))) :
    PySem.W.WalkO q loose XP YP l.row.toRowW d [] (fun f vs => PySem.call f vs) :=
  L2.walk_of (n := 63) (k := 4) (x := "script") (CX := fun _ => CX0) (sp := fun w => splaw (K w.params)) hn (by decide) hdf ⟨rfl, by decide, by decide⟩ hY F (fun _ _ a ns hl _ hS => ⟨a, ns, rfl, hS, hl, fun _ => rfl⟩) fun _ _ _ _ _ z => z
end
end Wb
open PySem PySem.W PyProof.Rows in
set_option maxRecDepth 100000 in
set_option maxHeartbeats 0 in
theorem PySem.Challenge.cw_waterbyturns_k22_options_that_are_good_o_holds : PySem.Challenge.rw_waterbyturns_k22_options_that_are_good_o.Holds := by
  w_on; o_law; k_head; (case hw => w_witness2)
  k_fill
  refine Wb.walk (l := PySem.Challenge.rw_waterbyturns_k22_options_that_are_good_o) rfl rfl (fun w h Y => PySem.W.kIn_of Y) ?F
  case F =>
    intro w mg fa h KX G hmg
    refine' Wb.all_mk KX G hmg ?a0 ?l0 ?c0 ?k0 ?a1 ?l1 ?c1 ?k1 ?a2 ?l2 ?c2 ?k2 ?a3 ?l3 ?c3 ?k3 ?a4 ?l4 ?c4 ?k4 ?a5 ?l5 ?c5 ?k5 ?a6 ?l6 ?c6 ?k6 ?a7 ?l7 ?c7 ?k7 ?a8 ?l8 ?c8 ?k8 ?a9 ?l9 ?c9 ?k9 ?a10 ?l10 ?c10 ?k10 ?a11 ?l11 ?c11 ?k11 ?a12 ?l12 ?c12 ?k12 ?a13 ?l13 ?c13 ?k13 ?a14 ?l14 ?c14 ?k14 ?a15 ?l15 ?c15 ?k15 ?a16 ?l16 ?c16 ?k16 ?z_len ?z_abs ?z_int ?z_bool ?z_str ?z_list ?z_range ?z_enumerate ?z_min ?z_all ?z_any ?z_isinstance ?z_zip ?g__MOST_NODES
    (case a0 => k_is)
    (case l0 => k_is)
    (case c0 => k_is)
    (case k0 => k_is)
    (case a1 => k_is)
    (case l1 => k_is)
    (case c1 => k_is)
    (case k1 => k_is)
    (case a2 => k_is)
    (case l2 => k_is)
    (case c2 => k_is)
    (case k2 => k_is)
    (case a3 => k_is)
    (case l3 => k_is)
    (case c3 => k_is)
    (case k3 => k_is)
    (case a4 => k_is)
    (case l4 => k_is)
    (case c4 => k_is)
    (case k4 => k_is)
    (case a5 => k_is)
    (case l5 => k_is)
    (case c5 => k_is)
    (case k5 => k_is)
    (case a6 => k_is)
    (case l6 => k_is)
    (case c6 => k_is)
    (case k6 => k_is)
    (case a7 => k_is)
    (case l7 => k_is)
    (case c7 => k_is)
    (case k7 => k_is)
    (case a8 => k_is)
    (case l8 => k_is)
    (case c8 => k_is)
    (case k8 => k_is)
    (case a9 => k_is)
    (case l9 => k_is)
    (case c9 => k_is)
    (case k9 => k_is)
    (case a10 => k_is)
    (case l10 => k_is)
    (case c10 => k_is)
    (case k10 => k_is)
    (case a11 => k_is)
    (case l11 => k_is)
    (case c11 => k_is)
    (case k11 => k_is)
    (case a12 => k_is)
    (case l12 => k_is)
    (case c12 => k_is)
    (case k12 => k_is)
    (case a13 => k_is)
    (case l13 => k_is)
    (case c13 => k_is)
    (case k13 => k_is)
    (case a14 => k_is)
    (case l14 => k_is)
    (case c14 => k_is)
    (case k14 => k_is)
    (case a15 => k_is)
    (case l15 => k_is)
    (case c15 => k_is)
    (case k15 => k_is)
    (case a16 => k_is)
    (case l16 => k_is)
    (case c16 => k_is)
    (case k16 => k_is)
    (case z_len => k_is)
    (case z_abs => k_is)
    (case z_int => k_is)
    (case z_bool => k_is)
    (case z_str => k_is)
    (case z_list => k_is)
    (case z_range => k_is)
    (case z_enumerate => k_is)
    (case z_min => k_is)
    (case z_all => k_is)
    (case z_any => k_is)
    (case z_isinstance => k_is)
    (case z_zip => k_is)
    (case g__MOST_NODES => k_is)

