/- Texts of this seat, one behind another: ConfAt, ConfOwn, ConfCF, PCfgP, PCfgQ, PCfgL, PCfgBox, RMarks, RToken, RBlank, RValue. -/
import Derived.Deep.AppendLies
import Derived.Deep.RegionLaw
import Derived.Lib.Hide
import Derived.Below
import Derived.Outline
import Derived.LoopTactic
import Derived.Test.YtfihehobkbfmiaaGreatDoorA3
import Derived.Test.YtfihehobkbfmiaaGreatDoorA1
/- Layer 14: the i-th of a config's lists in memory; the first of a list. No program is named. -/
namespace Go.Proofs.YtfihehobkbfmiaaGreatDoor.ConfAt
open Go.ChangeShapes Go.WideShapes Go.ChangeAt Go.RowKit Bytes LexPure ConfPure ConfMem RowsArg Mem Texts
set_option linter.unusedVariables false
theorem filts_at {w : World} {p : Option Addr} {n cap : Nat} {G : List Filt} (h : Filts w (.slice p n cap) G) (i : Nat) (hi : i < G.length) : ∃ g o, p = some ⟨g, o, none⟩ ∧ ∀ x, x = G[i] → w.cell? ⟨g, o + i * 6, none⟩ = some (.int .i64 x.kind) ∧ w.cell? ⟨g, o + i * 6 + 1, none⟩ = some (.string (ofL x.name)) ∧ w.cell? ⟨g, o + i * 6 + 2, none⟩ = some (.string (ofL x.value)) ∧ w.cell? ⟨g, o + i * 6 + 3, none⟩ = some (.int .i64 x.n) ∧ w.cell? ⟨g, o + i * 6 + 4, none⟩ = some (.int .i64 x.m) ∧ w.cell? ⟨g, o + i * 6 + 5, none⟩ = some (.int .i64 x.k) := by
  obtain ⟨p2, c2, heq, _, hc⟩ := h.parts
  injection heq with e1 e2 e3
  obtain ⟨g, o, hp, _, hcell⟩ := hc (by omega)
  exact ⟨g, o, e1.trans hp, fun x hx => by subst hx; exact hcell i hi⟩
theorem cluss_at {w : World} {p : Option Addr} {n cap : Nat} {G : List Clus} (h : Cluss w (.slice p n cap) G) (i : Nat) (hi : i < G.length) : ∃ g o, p = some ⟨g, o, none⟩ ∧ g < w.heap.size ∧ ∀ x, x = G[i] → ∃ h, (Texts w h x.hosts ∧ CapOk h) ∧ w.cell? ⟨g, o + i * 9, none⟩ = some (.string (ofL x.name)) ∧ w.cell? ⟨g, o + i * 9 + 1, none⟩ = some (.int .i64 x.policy) ∧ w.cell? ⟨g, o + i * 9 + 2, none⟩ = some h ∧ w.cell? ⟨g, o + i * 9 + 3, none⟩ = some (.int .i64 x.conns) ∧ w.cell? ⟨g, o + i * 9 + 4, none⟩ = some (.int .i64 x.pending) ∧ w.cell? ⟨g, o + i * 9 + 5, none⟩ = some (.int .i64 x.try_) ∧ w.cell? ⟨g, o + i * 9 + 6, none⟩ = some (.int .i64 x.fails) ∧ w.cell? ⟨g, o + i * 9 + 7, none⟩ = some (.int .i64 x.eject) ∧ w.cell? ⟨g, o + i * 9 + 8, none⟩ = some (.int .i64 x.panic) := by
  obtain ⟨hv, ⟨p2, c2, heq, _, hc⟩, h2⟩ := h
  injection heq with e1 e2 e3
  obtain ⟨g, o, hp, hg, hcell⟩ := hc (by omega)
  refine ⟨g, o, e1.trans hp, hg, fun x hx => ?_⟩
  have e : G.getD i zClus = x := by rw [hx]; simp [List.getD, List.getElem?_eq_getElem hi]
  have c := hcell i hi
  have d := h2 i hi
  dsimp only at c
  rw [e] at c d
  exact ⟨hv i, d, c 0 (by decide), c 1 (by decide), c 2 (by decide), c 3 (by decide), c 4 (by decide), c 5 (by decide), c 6 (by decide), c 7 (by decide), c 8 (by decide)⟩
theorem vhoss_at {w : World} {p : Option Addr} {n cap : Nat} {G : List Vhos} (h : Vhoss w (.slice p n cap) G) (i : Nat) (hi : i < G.length) : ∃ g o, p = some ⟨g, o, none⟩ ∧ g < w.heap.size ∧ ∀ x, x = G[i] → ∃ h, Routs w h x.routes ∧ w.cell? ⟨g, o + i * 2, none⟩ = some (.string (ofL x.domain)) ∧ w.cell? ⟨g, o + i * 2 + 1, none⟩ = some h := by
  obtain ⟨p2, c2, heq, _, hc⟩ := h.parts
  injection heq with e1 e2 e3
  obtain ⟨g, o, hp, hg, hcell⟩ := hc (by omega)
  exact ⟨g, o, e1.trans hp, hg, fun x hx => by subst hx; exact hcell i hi⟩
theorem routs_at {w : World} {p : Option Addr} {n cap : Nat} {G : List Rout} (h : Routs w (.slice p n cap) G) (i : Nat) (hi : i < G.length) : ∃ g o, p = some ⟨g, o, none⟩ ∧ ∀ r, r = G[i] →
    w.cell? ⟨g, o + i * 13, none⟩ = some (.bool r.pre) ∧ w.cell? ⟨g, o + i * 13 + 1, none⟩ = some (.string (ofL r.path)) ∧ w.cell? ⟨g, o + i * 13 + 2, none⟩ = some (.string (ofL r.method)) ∧ w.cell? ⟨g, o + i * 13 + 3, none⟩ = some (.string (ofL r.field)) ∧ w.cell? ⟨g, o + i * 13 + 4, none⟩ = some (.string (ofL r.value)) ∧ w.cell? ⟨g, o + i * 13 + 5, none⟩ = some (.int .i64 r.action) ∧ w.cell? ⟨g, o + i * 13 + 6, none⟩ = some (.string (ofL r.cluster)) ∧ w.cell? ⟨g, o + i * 13 + 7, none⟩ = some (.int .i64 r.status) ∧ w.cell? ⟨g, o + i * 13 + 8, none⟩ = some (.string (ofL r.text)) ∧ w.cell? ⟨g, o + i * 13 + 9, none⟩ = some (.string (ofL r.rewrite)) ∧ w.cell? ⟨g, o + i * 13 + 10, none⟩ = some (.int .i64 r.retries) ∧ w.cell? ⟨g, o + i * 13 + 11, none⟩ = some (.int .i64 r.timeout) ∧ w.cell? ⟨g, o + i * 13 + 12, none⟩ = some (.bool r.upgrade) := by
  obtain ⟨p2, c2, heq, _, hc⟩ := h.parts
  injection heq with e1 e2 e3
  obtain ⟨g, o, hp, _, hcell⟩ := hc (by omega)
  exact ⟨g, o, e1.trans hp, fun x hx => by subst hx; exact hcell i hi⟩
theorem texts_at {w : World} {p : Option Addr} {n cap : Nat} {G : List L} (h : Texts w (.slice p n cap) G) (i : Nat) (hi : i < G.length) : ∃ g o, p = some ⟨g, o, none⟩ ∧ g < w.heap.size ∧ ∀ x, x = G[i] → w.cell? ⟨g, o + i, none⟩ = some (.string (ofL x)) := by
  obtain ⟨p2, c2, heq, _, hc⟩ := h
  injection heq with e1 e2 e3
  obtain ⟨g, o, hp, hg, hcell⟩ := hc (by omega)
  exact ⟨g, o, e1.trans hp, hg, fun x hx => by subst hx; exact hcell i hi⟩
/-- the first k of a list -/
theorem cluss_take {w : World} {p : Option Addr} {n cap : Nat} {G : List Clus} (h : Cluss w (.slice p n cap) G) (k : Nat) (hk : k ≤ G.length) (cap2 : Nat) : Cluss w (.slice p k cap2) (G.take k) := by
  obtain ⟨hv, ⟨p2, c2, heq, hn, hc⟩, h2⟩ := h
  injection heq with e1 e2 e3
  have hl : (G.take k).length = k := by rw [List.length_take]; omega
  have hg : ∀ i, i < k → (G.take k).getD i zClus = G.getD i zClus := fun i hi => by simp [List.getD, hi]
  refine ⟨hv, ⟨p, cap2, by rw [hl], by rw [hl]; omega, fun h0 => ?_⟩, fun i hi => ?_⟩
  · rw [hl] at h0 ⊢
    obtain ⟨g, o, hp, hlt, hcell⟩ := hc (by omega)
    refine ⟨g, o, e1.trans hp, hlt, fun i hi j hj => ?_⟩
    dsimp only
    rw [hg i hi]
    exact hcell i (by omega) j hj
  · rw [hl] at hi
    rw [hg i hi]
    exact h2 i (by omega)
theorem vhoss_take {w : World} {p : Option Addr} {n cap : Nat} {G : List Vhos} (h : Vhoss w (.slice p n cap) G) (k : Nat) (hk : k ≤ G.length) (cap2 : Nat) : Vhoss w (.slice p k cap2) (G.take k) := by
  obtain ⟨hv, ⟨p2, c2, heq, hn, hc⟩, h2⟩ := h
  injection heq with e1 e2 e3
  have hl : (G.take k).length = k := by rw [List.length_take]; omega
  have hg : ∀ i, i < k → (G.take k).getD i zVhos = G.getD i zVhos := fun i hi => by simp [List.getD, hi]
  refine ⟨hv, ⟨p, cap2, by rw [hl], by rw [hl]; omega, fun h0 => ?_⟩, fun i hi => ?_⟩
  · rw [hl] at h0 ⊢
    obtain ⟨g, o, hp, hlt, hcell⟩ := hc (by omega)
    refine ⟨g, o, e1.trans hp, hlt, fun i hi j hj => ?_⟩
    dsimp only
    rw [hg i hi]
    exact hcell i (by omega) j hj
  · rw [hl] at hi
    rw [hg i hi]
    exact h2 i (by omega)
theorem texts_take {w : World} {p : Option Addr} {n cap : Nat} {G : List L} (h : Texts w (.slice p n cap) G) (k : Nat) (hk : k ≤ G.length) (cap2 : Nat) : Texts w (.slice p k cap2) (G.take k) := by
  obtain ⟨p2, c2, heq, hn, hc⟩ := h
  injection heq with e1 e2 e3
  have hl : (G.take k).length = k := by rw [List.length_take]; omega
  refine ⟨p, cap2, by rw [hl], by rw [hl]; omega, fun h0 => ?_⟩
  rw [hl] at h0
  obtain ⟨g, o, hp, hlt, hcell⟩ := hc (by omega)
  refine ⟨g, o, e1.trans hp, hlt, fun j hj => ?_⟩
  rw [hl] at hj
  rw [hcell j (by omega), List.getElem_take]
end Go.Proofs.YtfihehobkbfmiaaGreatDoor.ConfAt

/- Layer 14: a config of a call's own in memory: its box, its lists and theirs, each in a block of its own; what grows it. No function is named. -/
namespace Go.Proofs.YtfihehobkbfmiaaGreatDoor.ConfOwn
open Go.ChangeShapes Go.WideShapes Go.ChangeAt Go.RowKit Bytes LexPure ConfPure ConfMem ConfAt RowsArg Mem RowKeep
set_option maxRecDepth 20000
set_option linter.unusedVariables false
abbrev CT : TypeId := 26
abbrev FT : TypeId := 49
abbrev KT : TypeId := 38
abbrev VT : TypeId := 43
abbrev RT : TypeId := 45
abbrev ST : TypeId := 9
def Apart (v u : Value) : Prop := ∀ k, v.ownBlock = some k → u.ownBlock ≠ some k
theorem row_far {w : World} {base n size : Nat} {e : TypeId} {v : Value} {xs : List Value} (h : w.ownsRow base e size v n xs) {g : Nat} {T : TypeId} {cs : Array Value} (hH : Has w g T cs) (hT : T ≠ e) : v.ownBlock ≠ some g := by
  intro hk
  rcases h.2 with ⟨rfl, _⟩ | ⟨b, cap, cur, rfl, _, hb, _⟩
  · simp [Value.ownBlock] at hk
  · simp [Value.ownBlock] at hk
    subst hk
    have := hH.at_
    rw [hb] at this
    injection this with this
    injection this with _ h2
    exact hT h2.symm
theorem row_apart {w : World} {b1 n1 s1 b2 n2 s2 : Nat} {e1 e2 : TypeId} {v1 v2 : Value} {x1 x2 : List Value} (h1 : w.ownsRow b1 e1 s1 v1 n1 x1) (h2 : w.ownsRow b2 e2 s2 v2 n2 x2) (hT : e1 ≠ e2) : Apart v1 v2 := by
  intro k hk1 hk2
  rcases h1.2 with ⟨rfl, _⟩ | ⟨b, cap, cur, rfl, _, hb, _⟩
  · simp [Value.ownBlock] at hk1
  · simp [Value.ownBlock] at hk1
    subst hk1
    exact row_far h2 ⟨hb⟩ hT hk2
/-- a row that isn't in the block that has turned -/
theorem row_kept {w w' : World} {base n size : Nat} {e : TypeId} {v u : Value} {xs : List Value} (h : w.ownsRow base e size v n xs) (hg : w.grownBy w' u.ownBlock) (ha : Apart v u) : w'.ownsRow base e size v n xs := by
  refine h.kept hg ?_
  cases hv : v.ownBlock with
  | none => exact .inl rfl
  | some k =>
    right
    intro e
    exact ha k hv e.symm
theorem has_kept {w w' : World} {g : Nat} {T : TypeId} {cs : Array Value} {u : Value} (h : Has w g T cs) (hg : w.grownBy w' u.ownBlock) (hu : u.ownBlock ≠ some g) : Has w' g T cs := h.grown hg (Ne.symm hu)
structure OCs (w : World) (g : Nat) (c : Conf) (vf vc vv : Value) (CL : List (Clus × Value)) (VL : List (Vhos × Value)) : Prop where
  box : Has w g CT (confV c vf vc vv)
  rf : w.ownsRow g FT 6 vf c.filters.length (c.filters.flatMap filtV)
  ec : c.clusters = CL.map (·.1)
  rc : w.ownsRow g KT 9 vc CL.length (CL.flatMap (fun p => clusV p.1 p.2))
  hc : ∀ p ∈ CL, w.ownsRow g ST 1 p.2 p.1.hosts.length (Texts.strs p.1.hosts)
  ac : CL.Pairwise (fun p q => Apart p.2 q.2)
  ev : c.vhosts = VL.map (·.1)
  rv : w.ownsRow g VT 2 vv VL.length (VL.flatMap (fun p => vhosV p.1 p.2))
  hv : ∀ p ∈ VL, w.ownsRow g RT 13 p.2 p.1.routes.length (p.1.routes.flatMap routV)
  av : VL.Pairwise (fun p q => Apart p.2 q.2)
def OC (w : World) (g : Nat) (c : Conf) : Prop := ∃ vf vc vv CL VL, OCs w g c vf vc vv CL VL
section
variable {w w' : World} {g : Nat} {c : Conf} {vf vc vv : Value} {CL : List (Clus × Value)} {VL : List (Vhos × Value)}
theorem OCs.below (h : OCs w g c vf vc vv CL VL) (hb : Below w.heap.size w w') : OCs w' g c vf vc vv CL VL :=
  ⟨h.box.below hb h.box.lt, row_below h.rf hb, h.ec, row_below h.rc hb, fun p hp => row_below (h.hc p hp) hb, h.ac, h.ev, row_below h.rv hb, fun p hp => row_below (h.hv p hp) hb, h.av⟩
theorem OCs.alloc (h : OCs w g c vf vc vv CL VL) (o : Obj) : OCs (w.alloc o) g c vf vc vv CL VL := h.below ((Below.refl _ _).alloc (Nat.le_refl _) o)
theorem OCs.drew (h : OCs w g c vf vc vv CL VL) : OCs w.drew g c vf vc vv CL VL := h.below ⟨rfl, rfl, rfl, Nat.le_refl _, fun _ _ => rfl⟩
/-- a block of another type has turned -/
theorem OCs.other (h : OCs w g c vf vc vv CL VL) {k : Nat} {T : TypeId} {cs : Array Value} (hH : Has w k T cs) (hT : T ≠ CT ∧ T ≠ FT ∧ T ≠ KT ∧ T ≠ VT ∧ T ≠ RT ∧ T ≠ ST) (hg : w.grownBy w' (some k)) : OCs w' g c vf vc vv CL VL := by
  obtain ⟨t1, t2, t3, t4, t5, t6⟩ := hT
  have key : ∀ {base n size : Nat} {e : TypeId} {v : Value} {xs : List Value}, w.ownsRow base e size v n xs → T ≠ e → w'.ownsRow base e size v n xs := fun hr he => hr.kept hg (.inr (row_far hr hH he))
  have hgk : g ≠ k := fun e => by subst e; exact absurd rfl (h.box.ne_ hH (Ne.symm t1))
  exact ⟨h.box.grown hg (fun e => hgk (Option.some.inj e)), key h.rf t2, h.ec, key h.rc t3, fun p hp => key (h.hc p hp) t6, h.ac, h.ev, key h.rv t4, fun p hp => key (h.hv p hp) t5, h.av⟩
/-- a cell of the box is stored that isn't a list's -/
theorem set_g (w : World) (g i : Nat) (u : Value) : w.grownBy (w.setCell ⟨g, i, none⟩ u) (some g) := ⟨rfl, rfl, rfl, by simp [World.setCell], fun k _ hk => Below.heap_setCell w _ _ k (fun e => hk (by rw [e]))⟩
theorem row_set {base n size : Nat} {e : TypeId} {v : Value} {xs : List Value} {cs : Array Value} (hr : w.ownsRow base e size v n xs) (hH : Has w g CT cs) (he : CT ≠ e) (i : Nat) (u : Value) : (w.setCell ⟨g, i, none⟩ u).ownsRow base e size v n xs :=
  hr.kept (set_g w g i u) (.inr (row_far hr hH he))
theorem OCs.put (h : OCs w g c vf vc vv CL VL) (i : Nat) (u : Value) {c2 : Conf} (hf : c2.filters = c.filters) (hc : c2.clusters = c.clusters) (hv : c2.vhosts = c.vhosts) (hcs : (confV c vf vc vv).setIfInBounds i u = confV c2 vf vc vv) : OCs (w.setCell ⟨g, i, none⟩ u) g c2 vf vc vv CL VL := by
  refine ⟨?_, ?_, hc.trans h.ec, row_set h.rc h.box (by decide) _ _, fun p hp => row_set (h.hc p hp) h.box (by decide) _ _, h.ac, hv.trans h.ev, row_set h.rv h.box (by decide) _ _, fun p hp => row_set (h.hv p hp) h.box (by decide) _ _, h.av⟩
  · have := h.box.set_ i u
    rwa [hcs] at this
  · rw [hf]
    exact row_set h.rf h.box (by decide) _ _
/-- one filter more -/
theorem OCs.addF (h : OCs w g c vf vc vv CL VL) (x : Filt) {v4 : Value} {w4 : World} (hown : w4.ownsRow g FT 6 v4 (c.filters.length + 1) (c.filters.flatMap filtV ++ filtV x)) (hg : w.grownBy w4 vf.ownBlock) :
    OCs (w4.setCell ⟨g, 6, none⟩ v4) g { c with filters := c.filters ++ [x] } v4 vc vv CL VL := by
  have hb := has_kept h.box hg (row_far h.rf h.box (by decide))
  refine ⟨hb.set_ 6 v4, ?_, h.ec, row_set (row_kept h.rc hg (row_apart h.rc h.rf (by decide))) hb (by decide) _ _, fun p hp => row_set (row_kept (h.hc p hp) hg (row_apart (h.hc p hp) h.rf (by decide))) hb (by decide) _ _, h.ac, h.ev, row_set (row_kept h.rv hg (row_apart h.rv h.rf (by decide))) hb (by decide) _ _, fun p hp => row_set (row_kept (h.hv p hp) hg (row_apart (h.hv p hp) h.rf (by decide))) hb (by decide) _ _, h.av⟩
  show (w4.setCell ⟨g, 6, none⟩ v4).ownsRow g FT 6 v4 (c.filters ++ [x]).length ((c.filters ++ [x]).flatMap filtV)
  rw [List.length_append, List.length_singleton, List.flatMap_append, List.flatMap_singleton]
  exact row_set hown hb (by decide) _ _
/-- one cluster more -/
theorem OCs.addC (h : OCs w g c vf vc vv CL VL) (x : Clus) (hx : Value) (hr : w.ownsRow g ST 1 hx x.hosts.length (Texts.strs x.hosts)) (ha : ∀ p ∈ CL, Apart p.2 hx) {v4 : Value} {w4 : World} (hown : w4.ownsRow g KT 9 v4 (CL.length + 1) (CL.flatMap (fun p => clusV p.1 p.2) ++ clusV x hx)) (hg : w.grownBy w4 vc.ownBlock) :
    OCs (w4.setCell ⟨g, 7, none⟩ v4) g { c with clusters := c.clusters ++ [x] } vf v4 vv (CL ++ [(x, hx)]) VL := by
  have hb := has_kept h.box hg (row_far h.rc h.box (by decide))
  refine ⟨hb.set_ 7 v4, row_set (row_kept h.rf hg (row_apart h.rf h.rc (by decide))) hb (by decide) _ _, ?_, ?_, fun p hp => ?_, ?_, h.ev, row_set (row_kept h.rv hg (row_apart h.rv h.rc (by decide))) hb (by decide) _ _, fun p hp => row_set (row_kept (h.hv p hp) hg (row_apart (h.hv p hp) h.rc (by decide))) hb (by decide) _ _, h.av⟩
  · show c.clusters ++ [x] = _
    rw [List.map_append, h.ec]; rfl
  · rw [List.length_append, List.length_singleton, List.flatMap_append, List.flatMap_singleton]
    exact row_set hown hb (by decide) _ _
  · rcases List.mem_append.1 hp with hp | hp
    · exact row_set (row_kept (h.hc p hp) hg (row_apart (h.hc p hp) h.rc (by decide))) hb (by decide) _ _
    · obtain rfl := List.mem_singleton.1 hp
      exact row_set (row_kept hr hg (row_apart hr h.rc (by decide))) hb (by decide) _ _
  · rw [List.pairwise_append]
    exact ⟨h.ac, List.pairwise_singleton _ _, fun p hp q hq => by obtain rfl := List.mem_singleton.1 hq; exact ha p hp⟩
/-- one vhost more -/
theorem OCs.addV (h : OCs w g c vf vc vv CL VL) (d : L) {v4 : Value} {w4 : World} (hown : w4.ownsRow g VT 2 v4 (VL.length + 1) (VL.flatMap (fun p => vhosV p.1 p.2) ++ vhosV ⟨d, []⟩ (.slice none 0 0))) (hg : w.grownBy w4 vv.ownBlock) :
    OCs (w4.setCell ⟨g, 8, none⟩ v4) g { c with vhosts := c.vhosts ++ [⟨d, []⟩] } vf vc v4 CL (VL ++ [(⟨d, []⟩, .slice none 0 0)]) := by
  have hb := has_kept h.box hg (row_far h.rv h.box (by decide))
  refine ⟨hb.set_ 8 v4, row_set (row_kept h.rf hg (row_apart h.rf h.rv (by decide))) hb (by decide) _ _, h.ec, row_set (row_kept h.rc hg (row_apart h.rc h.rv (by decide))) hb (by decide) _ _, fun p hp => row_set (row_kept (h.hc p hp) hg (row_apart (h.hc p hp) h.rv (by decide))) hb (by decide) _ _, h.ac, ?_, ?_, fun p hp => ?_, ?_⟩
  · show c.vhosts ++ [_] = _
    rw [List.map_append, h.ev]; rfl
  · rw [List.length_append, List.length_singleton, List.flatMap_append, List.flatMap_singleton]
    exact row_set hown hb (by decide) _ _
  · rcases List.mem_append.1 hp with hp | hp
    · exact row_set (row_kept (h.hv p hp) hg (row_apart (h.hv p hp) h.rv (by decide))) hb (by decide) _ _
    · obtain rfl := List.mem_singleton.1 hp
      exact World.ownsRow_nil _ _ _ _
  · rw [List.pairwise_append]
    exact ⟨h.av, List.pairwise_singleton _ _, fun p hp q hq k hk e => by obtain rfl := List.mem_singleton.1 hq; simp [Value.ownBlock] at e⟩
theorem flat_set (VL : List (Vhos × Value)) (a b u : Value) : (VL.flatMap (fun p => vhosV p.1 p.2) ++ [a, b]).set (VL.length * 2 + 1) u = VL.flatMap (fun p => vhosV p.1 p.2) ++ [a, u] := by
  have hl : (VL.flatMap (fun p => vhosV p.1 p.2)).length = VL.length * 2 := by
    induction VL with
    | nil => rfl
    | cons p VL ih => rw [List.flatMap_cons, List.length_append, ih, List.length_cons]; show 2 + _ = _; omega
  rw [List.set_append_right _ _ (by omega), hl, show VL.length * 2 + 1 - VL.length * 2 = 1 by omega]
  rfl
/-- one route more, to the last vhost -/
theorem OCs.addR {V0 : List (Vhos × Value)} {v : Vhos} {hr : Value} (h : OCs w g c vf vc vv CL (V0 ++ [(v, hr)])) (x : Rout) {gv capv : Nat} (hvv : vv = .slice (some ⟨gv, 0, none⟩) (V0.length + 1) capv) {v4 : Value} {w4 : World} (hown : w4.ownsRow g RT 13 v4 (v.routes.length + 1) (v.routes.flatMap routV ++ routV x)) (hg : w.grownBy w4 hr.ownBlock) (hat : ∀ k, v4.ownBlock = some k → hr.ownBlock = some k ∨ w.heap.size ≤ k) :
    OCs (w4.setCell ⟨gv, V0.length * 2 + 1, none⟩ v4) g { c with vhosts := V0.map (·.1) ++ [⟨v.domain, v.routes ++ [x]⟩] } vf vc vv CL (V0 ++ [(⟨v.domain, v.routes ++ [x]⟩, v4)]) := by
  have hm : ((v, hr) : Vhos × Value) ∈ V0 ++ [(v, hr)] := List.mem_append_right _ (List.mem_singleton.2 rfl)
  have hrr := h.hv _ hm
  dsimp only at hrr
  have hb := has_kept h.box hg (row_far hrr h.box (by decide))
  have hrv := row_kept h.rv hg (row_apart h.rv hrr (by decide))
  subst hvv
  rw [List.length_append, List.length_singleton, List.flatMap_append, List.flatMap_singleton] at hrv
  obtain ⟨hst, hgr⟩ := hrv.stored (V0.length * 2 + 1) v4
  have hgvT : ∀ {base n size : Nat} {e : TypeId} {u : Value} {xs : List Value}, w4.ownsRow base e size u n xs → e ≠ VT → (w4.setCell ⟨gv, V0.length * 2 + 1, none⟩ v4).ownsRow base e size u n xs := fun hu he => hu.kept hgr (.inr (fun e2 => row_apart hu hrv he gv e2 rfl))
  have hgg : g ≠ gv := fun e => by
    have := row_far hrv hb (by decide)
    exact this (by rw [e]; rfl)
  have hap := h.av
  rw [List.pairwise_append] at hap
  refine ⟨?_, hgvT (row_kept h.rf hg (row_apart h.rf hrr (by decide))) (by decide), h.ec, hgvT (row_kept h.rc hg (row_apart h.rc hrr (by decide))) (by decide), fun p hp => hgvT (row_kept (h.hc p hp) hg (row_apart (h.hc p hp) hrr (by decide))) (by decide), h.ac, ?_, ?_, fun p hp => ?_, ?_⟩
  · exact hb.far (p := ⟨gv, _, none⟩) hgg v4
  · show _ ++ [_] = _
    rw [List.map_append]; rfl
  · rw [List.length_append, List.length_singleton, List.flatMap_append, List.flatMap_singleton]
    have e := flat_set V0 (.string (ofL v.domain)) hr v4
    rw [show vhosV v hr = [.string (ofL v.domain), hr] from rfl] at hst
    rw [e] at hst
    exact hst
  · rcases List.mem_append.1 hp with hp | hp
    · exact hgvT (row_kept (h.hv p (List.mem_append_left _ hp)) hg (hap.2.2 p hp _ (List.mem_singleton.2 rfl))) (by decide)
    · obtain rfl := List.mem_singleton.1 hp
      show (w4.setCell _ _).ownsRow g RT 13 v4 (v.routes ++ [x]).length ((v.routes ++ [x]).flatMap routV)
      rw [List.length_append, List.length_singleton, List.flatMap_append, List.flatMap_singleton]
      exact hgvT hown (by decide)
  · rw [List.pairwise_append]
    refine ⟨hap.1, List.pairwise_singleton _ _, fun p hp q hq k hk e => ?_⟩
    obtain rfl := List.mem_singleton.1 hq
    rcases hat k e with e2 | e2
    · exact hap.2.2 p hp _ (List.mem_singleton.2 rfl) k hk e2
    · have := ((h.hv p (List.mem_append_left _ hp)).lt k hk).2
      omega
end
end Go.Proofs.YtfihehobkbfmiaaGreatDoor.ConfOwn

/- Layer 14: a config of a call's own can be read. -/
namespace Go.Proofs.YtfihehobkbfmiaaGreatDoor.ConfCF
open Go.ChangeShapes Go.WideShapes Go.ChangeAt Go.RowKit Bytes LexPure ConfPure ConfMem ConfAt RowsArg Mem RowKeep ConfOwn Texts
set_option maxRecDepth 20000
theorem flat_at {α : Type} (f : α → List Value) (k : Nat) (hk : ∀ a, (f a).length = k) : ∀ (l : List α) (i j : Nat) (hi : i < l.length), j < k → (l.flatMap f)[i * k + j]? = some ((f l[i]).getD j undef)
  | [], i, j, hi, _ => absurd hi (by simp)
  | a :: l, 0, j, _, hj => by
    rw [List.flatMap_cons, Nat.zero_mul, Nat.zero_add, List.getElem?_append_left (by rw [hk]; exact hj)]
    have : j < (f a).length := by rw [hk]; exact hj
    rw [List.getElem_cons_zero, List.getD_eq_getElem?_getD, List.getElem?_eq_getElem this]
    rfl
  | a :: l, i + 1, j, hi, hj => by
    have hi2 : i < l.length := by simpa using hi
    rw [List.flatMap_cons, List.getElem?_append_right (by rw [hk, Nat.add_mul]; omega), hk, show (i + 1) * k + j - k = i * k + j by rw [Nat.add_mul]; omega, flat_at f k hk l i j hi2 hj]
    rfl
theorem rows_of {w : World} {base k : Nat} {e : TypeId} {v : Value} {α : Type} (f : α → List Value) (hk : ∀ a, (f a).length = k) (l : List α) (h : w.ownsRow base e k v l.length (l.flatMap f)) {V : Nat → Nat → Value} (hV : ∀ i (hi : i < l.length) j, j < k → V i j = (f l[i]).getD j undef) (hl : l.length ≤ 9223372036854775807) : RowsAt w v l.length k V := by
  obtain ⟨p, cap, hv, _⟩ := row_form h
  refine ⟨p, cap, hv, hl, fun h0 => ?_⟩
  obtain ⟨g, cap2, hv2, _, hg, _, hc⟩ := row_at h h0
  rw [hv] at hv2
  injection hv2 with e1 _ _
  refine ⟨g, 0, e1, hg, fun i hi j hj => ?_⟩
  rw [Nat.zero_add, hc _ (by have h1 : (i + 1) * k ≤ l.length * k := Nat.mul_le_mul_right k hi; rw [Nat.add_mul] at h1; omega), flat_at f k hk l i j hi hj, hV i hi j hj]
theorem row_len {w : World} {base n size : Nat} {e : TypeId} {v : Value} {xs : List Value} (h : w.ownsRow base e size v n xs) : n ≤ 9223372036854775807 := by
  rcases h.2 with ⟨_, rfl⟩ | ⟨_, cap, _, _, _, _, h1, h2, _⟩
  · exact Nat.zero_le _
  · unfold maxLen at h2; omega
theorem cap_of {w : World} {base n size : Nat} {e : TypeId} {v : Value} {xs : List Value} (h : w.ownsRow base e size v n xs) : CapOk v := by
  obtain ⟨p, cap, hv, hc⟩ := row_form h
  intro q m cap2 he
  rw [hv] at he
  injection he with _ e2 e3
  omega
theorem filts_of {w : World} {base : Nat} {v : Value} {G : List Filt} (h : w.ownsRow base FT 6 v G.length (G.flatMap filtV)) : Filts w v G :=
  rows_of filtV (fun _ => rfl) G h (fun i hi j hj => by simp [List.getD, List.getElem?_eq_getElem hi]) (row_len h)
theorem routs_of {w : World} {base : Nat} {v : Value} {G : List Rout} (h : w.ownsRow base RT 13 v G.length (G.flatMap routV)) : Routs w v G :=
  rows_of routV (fun _ => rfl) G h (fun i hi j hj => by simp [List.getD, List.getElem?_eq_getElem hi]) (row_len h)
theorem OCs.cf {w : World} {g : Nat} {c : Conf} {vf vc vv : Value} {CL : List (Clus × Value)} {VL : List (Vhos × Value)} (h : OCs w g c vf vc vv CL VL) : CF w vf vc vv c := by
  refine ⟨filts_of h.rf, ?_, ?_, cap_of h.rc, cap_of h.rv⟩
  · rw [h.ec]
    refine ⟨fun i => (CL.getD i (zClus, undef)).2, ?_, fun i hi => ?_⟩
    · have := rows_of (fun p : Clus × Value => clusV p.1 p.2) (fun _ => rfl) CL h.rc (V := fun i j => (clusV ((CL.map (·.1)).getD i zClus) (CL.getD i (zClus, undef)).2).getD j undef) (fun i hi j hj => by simp [List.getD, List.getElem?_eq_getElem hi]) (row_len h.rc)
      rwa [List.length_map]
    · rw [List.length_map] at hi
      have e1 : CL.getD i (zClus, undef) = CL[i] := by simp [List.getD, List.getElem?_eq_getElem hi]
      have e2 : (CL.map (·.1)).getD i zClus = CL[i].1 := by simp [List.getD, List.getElem?_eq_getElem hi]
      dsimp only
      rw [e1, e2]
      have := h.hc _ (List.getElem_mem hi)
      exact ⟨texts_of this, cap_of this⟩
  · rw [h.ev]
    refine ⟨fun i => (VL.getD i (zVhos, undef)).2, ?_, fun i hi => ?_⟩
    · have := rows_of (fun p : Vhos × Value => vhosV p.1 p.2) (fun _ => rfl) VL h.rv (V := fun i j => (vhosV ((VL.map (·.1)).getD i zVhos) (VL.getD i (zVhos, undef)).2).getD j undef) (fun i hi j hj => by simp [List.getD, List.getElem?_eq_getElem hi]) (row_len h.rv)
      rwa [List.length_map]
    · rw [List.length_map] at hi
      have e1 : VL.getD i (zVhos, undef) = VL[i] := by simp [List.getD, List.getElem?_eq_getElem hi]
      have e2 : (VL.map (·.1)).getD i zVhos = VL[i].1 := by simp [List.getD, List.getElem?_eq_getElem hi]
      dsimp only
      rw [e1, e2]
      exact routs_of (h.hv _ (List.getElem_mem hi))
end Go.Proofs.YtfihehobkbfmiaaGreatDoor.ConfCF

/- Layer 14 of the program: addLine. -/
namespace Go.Proofs.YtfihehobkbfmiaaGreatDoor.PCfgP
open Go.ChangeShapes Go.WideShapes Go.ChangeAt Go.RowKit Bytes LexPure LexNum PathPure CutAt ConfPure ConfProg ConfMem Ret Mem RowKeep ConfOwn ConfCF PCfgLib PCfgT PCfgW PCfgM PCfgN PCfgO
set_option maxRecDepth 100000
set_option linter.unusedVariables false
set_option linter.unusedSimpArgs false
/-- in addLine: the config in g, the words in k, T of them still to come -/
structure Al (w : World) (g k : Nat) (c : Conf) (vf vc vv : Value) (CL : List (Clus × Value)) (VL : List (Vhos × Value)) (T : List L) (left wrong : Bool) (W : World) : Prop where
  st : St W k T left wrong
  oc : OCs W g c vf vc vv CL VL
  below : Below g w W
  lo : g < k
  hi : w.heap.size ≤ k
section
variable {w W W' : World} {g k : Nat} {c : Conf} {vf vc vv : Value} {CL : List (Clus × Value)} {VL : List (Vhos × Value)} {T T' : List L} {left wrong left' wrong' : Bool}
theorem below_far {B : Nat} (h : Below B w W) (hg : W.grownBy W' (some k)) (hk : B ≤ k) (hB : B ≤ W.heap.size) : Below B w W' :=
  ⟨hg.os.trans h.os, hg.tape.trans h.tape, hg.output.trans h.output, Nat.le_trans h.size hg.size, fun i hi => (hg.block i (Nat.lt_of_lt_of_le hi hB) (fun e => by injection e with e; omega)).trans (h.block i hi)⟩
theorem Al.words (h : Al w g k c vf vc vv CL VL T left wrong W) (hs : St W' k T' left' wrong') (hg : W.grownBy W' (some k)) : Al w g k c vf vc vv CL VL T' left' wrong' W' := by
  obtain ⟨rest, hH, _⟩ := h.st.ex
  exact ⟨hs, h.oc.other hH (by decide) hg, below_far h.below hg (Nat.le_of_lt h.lo) (Nat.le_of_lt h.oc.box.lt), h.lo, h.hi⟩
theorem Al.took (h : Al w g k c vf vc vv CL VL T left wrong W) {f : UInt8} (ht : Took W k T wrong f W') : Al w g k c vf vc vv CL VL T.tail (!T.tail.isEmpty) (wrong || !okW f (T.headD [])) W' := h.words ht.st ht.gr
theorem Al.calm (h : Al w g k c vf vc vv CL VL T left wrong W) (hb : Below W.heap.size W W') : Al w g k c vf vc vv CL VL T left wrong W' :=
  ⟨h.st.below hb, h.oc.below hb, ⟨hb.os.trans h.below.os, hb.tape.trans h.below.tape, hb.output.trans h.below.output, Nat.le_trans h.below.size hb.size, fun i hi => (hb.block i (Nat.lt_trans hi h.oc.box.lt)).trans (h.below.block i hi)⟩, h.lo, h.hi⟩
theorem Al.alloc (h : Al w g k c vf vc vv CL VL T left wrong W) (o : Obj) : Al w g k c vf vc vv CL VL T left wrong (W.alloc o) := h.calm ((Below.refl _ _).alloc (Nat.le_refl _) o)
theorem Al.drew (h : Al w g k c vf vc vv CL VL T left wrong W) : Al w g k c vf vc vv CL VL T left wrong W.drew := h.calm ⟨rfl, rfl, rfl, Nat.le_refl _, fun _ _ => rfl⟩
/-- the config has turned, the words not -/
theorem Al.turn (h : Al w g k c vf vc vv CL VL T left wrong W) {c2 : Conf} {vf2 vc2 vv2 : Value} {CL2 : List (Clus × Value)} {VL2 : List (Vhos × Value)} (ho : OCs W' g c2 vf2 vc2 vv2 CL2 VL2) (hs : St W' k T left wrong) (hb : Below g W W') : Al w g k c2 vf2 vc2 vv2 CL2 VL2 T left wrong W' :=
  ⟨hs, ho, ⟨hb.os.trans h.below.os, hb.tape.trans h.below.tape, hb.output.trans h.below.output, Nat.le_trans h.below.size hb.size, fun i hi => (hb.block i hi).trans (h.below.block i hi)⟩, h.lo, h.hi⟩
end
theorem infoF : (Tryz.prog.info? 49).map (fun i => (i.zero, i.size, i.bytes)) = some (some (.agg #[.int .i64 0, .string .empty, .string .empty, .int .i64 0, .int .i64 0, .int .i64 0]), 6, 64) := by kernel_rfl
theorem infoC : (Tryz.prog.info? 38).map (fun i => (i.zero, i.size, i.bytes)) = some (some (.agg #[.string .empty, .int .i64 0, .slice none 0 0, .int .i64 0, .int .i64 0, .int .i64 0, .int .i64 0, .int .i64 0, .int .i64 0]), 9, 96) := by kernel_rfl
theorem infoV : (Tryz.prog.info? 43).map (fun i => (i.zero, i.size, i.bytes)) = some (some (.agg #[.string .empty, .slice none 0 0]), 2, 40) := by kernel_rfl
theorem infoR : (Tryz.prog.info? 45).map (fun i => (i.zero, i.size, i.bytes)) = some (some (.agg #[.bool false, .string .empty, .string .empty, .string .empty, .string .empty, .int .i64 0, .string .empty, .int .i64 0, .string .empty, .string .empty, .int .i64 0, .int .i64 0, .bool false]), 13, 160) := by kernel_rfl
theorem Al.app {w W w4 : World} {g k : Nat} {c : Conf} {vf vc vv : Value} {CL : List (Clus × Value)} {VL : List (Vhos × Value)} {T : List L} {left wrong : Bool} (h : Al w g k c vf vc vv CL VL T left wrong W) {e n s : Nat} {u : Value} {xs : List Value} (hu : W.ownsRow g e s u n xs) (he : WT ≠ e) (hg : W.grownBy w4 u.ownBlock) (b i : Nat) (v : Value) (hb : g ≤ b) (hbk : b ≠ k) : St (w4.setCell ⟨b, i, none⟩ v) k T left wrong ∧ Below g W (w4.setCell ⟨b, i, none⟩ v) := by
  obtain ⟨rest, hH, _⟩ := h.st.ex
  refine ⟨(h.st.grown hg (Ne.symm (ConfOwn.row_far hu hH he))).grown (set_g w4 b i v) (by intro e; injection e with e; exact hbk e.symm), ?_⟩
  exact ((Below.refl g W).grown hg (Nat.le_of_lt h.oc.box.lt) (fun j hj => (hu.lt j hj).1)).setCell (p := ⟨b, i, none⟩) hb v
/-- how many there are of each -/
structure Few14 (c : Conf) : Prop where
  nf : c.filters.length ≤ 274877906944
  nc : c.clusters.length ≤ 274877906944
  nv : c.vhosts.length ≤ 274877906944
  nr : ∀ v ∈ c.vhosts, v.routes.length ≤ 274877906944
def AddPost (w : World) (g : Nat) (spec : Option Conf) (e : Ending) (w' : World) : Prop := ∃ ok, e = .returned (.bool ok) ∧ Below g w w' ∧ (match spec with | none => ok = false | some c' => ok = true ∧ OC w' g c')
theorem Al.fin {w W : World} {g k : Nat} {c : Conf} {vf vc vv : Value} {CL : List (Clus × Value)} {VL : List (Vhos × Value)} {T : List L} {left wrong : Bool} {spec : Option Conf} {b : Bool} (h : Al w g k c vf vc vv CL VL T left wrong W) (hl : left = !T.isEmpty) (hs : spec = if wrong = false ∧ T = [] then some c else none) (hb : b = (!wrong && !left)) : AddPost w g spec (.returned (.bool b)) W := by
  subst hs
  subst hb
  refine ⟨_, rfl, h.below, ?_⟩
  subst hl
  cases wrong with
  | true => rw [if_neg (by rintro ⟨h, _⟩; cases h)]; rfl
  | false =>
    cases T with
    | nil => rw [if_pos ⟨rfl, rfl⟩]; exact ⟨rfl, _, _, _, _, _, h.oc⟩
    | cons a b => rw [if_neg (by rintro ⟨_, h⟩; cases h)]; rfl
theorem add_no {w W : World} {g : Nat} {spec : Option Conf} (hs : spec = none) (hb : Below g w W) : AddPost w g spec (.returned (.bool false)) W := by
  subst hs
  exact ⟨false, rfl, hb, rfl⟩
theorem Al.cells {w W : World} {g k : Nat} {c : Conf} {vf vc vv : Value} {CL : List (Clus × Value)} {VL : List (Vhos × Value)} {T : List L} {left wrong : Bool} (h : Al w g k c vf vc vv CL VL T left wrong W) : W.cell? ⟨k, 1, none⟩ = some (.bool left) ∧ W.cell? ⟨k, 2, none⟩ = some (.bool wrong) :=
  ⟨h.st.cells.1, h.st.cells.2.1⟩
set_option maxHeartbeats 6400000 in
theorem padd_filter (g : Nat) (c : Conf) (vf vc vv : Value) (CL : List (Clus × Value)) (VL : List (Vhos × Value)) (line : L) (hl : line.length ≤ 1099511627776) (hhd : (cutB 32 line).headD [] = FILTER) (hF : Few14 c) (w : World) (h : OCs w g c vf vc vv CL VL) :
    Calls Tryz.prog 72 #[.pointer (some ⟨g, 0, none⟩), .string (ofL line), .bool false] w (AddPost w g (lineP c line)) := by
  have hRel : Rel line (cutB 32 line) := .inr ⟨cutB_ne _ _, rfl⟩
  obtain ⟨R, hRe⟩ : ∃ R, R = cutB 32 line := ⟨_, rfl⟩
  rw [← hRe] at hRel hhd
  have A0 : Al w g w.heap.size c vf vc vv CL VL R false false (w.alloc (.cells #[.string (ofL line), .bool false, .bool false] WT)) := ⟨⟨⟨line, Has.new w _ _, hRel, hl⟩⟩, h.alloc _, (Below.refl _ _).alloc (Nat.le_of_lt h.box.lt) _, h.box.lt, Nat.le_refl _⟩
  have HN := Lib.hid ((pnext_any _ R false false _ A0.st).mono (fun e W' ⟨x1, _, x3, x4⟩ => And.intro x1 (Lib.hid (A0.words x3 x4))))
  unfold WT at HN
  have HRe := Lib.hid hRe
  have hgk : g ≠ w.heap.size := Nat.ne_of_lt h.box.lt
  have teL : ((ofL FILTER).toList == [108, 105, 115, 116, 101, 110]) = false := (text_is _ _).trans (by decide)
  have teF : ((ofL FILTER).toList == [102, 105, 108, 116, 101, 114]) = true := (text_is _ _).trans (by decide)
  have teC : ((ofL FILTER).toList == [99, 108, 117, 115, 116, 101, 114]) = false := (text_is _ _).trans (by decide)
  have teV : ((ofL FILTER).toList == [118, 104, 111, 115, 116]) = false := (text_is _ _).trans (by decide)
  have teR : ((ofL FILTER).toList == [114, 111, 117, 116, 101]) = false := (text_is _ _).trans (by decide)
  rw [hhd] at HN
  generalize ofL FILTER = Y at *
  obtain ⟨pf, cf, hvf, _⟩ := row_form h.rf
  have hfl := hF.nf
  have HFl := Lib.hid hfl
  obtain ⟨nn, hnn⟩ : ∃ nn, nn = c.filters.length := ⟨_, rfl⟩
  rw [← hnn] at hvf hfl
  have HNN := Lib.hid hnn
  subst hvf
  obtain ⟨i0, hi, hz0, hz1, hz2⟩ := info_parts infoF
  obtain ⟨x, hx⟩ : ∃ x, Hid (x = filtR R.tail) := ⟨_, Lib.hid rfl⟩
  have HS : Hid (lineP c line = if wrongF R.tail FF = false ∧ R.tail.drop 6 = [] then some { c with filters := c.filters ++ [x] } else none) := Lib.hid (by
    unfold lineP
    dsimp only
    rw [← HRe.out, hhd, if_pos rfl, filt_run, ← hx.out]
    by_cases hc : wrongF R.tail FF = false ∧ R.tail.drop 6 = []
    · rw [if_pos hc, if_pos hc]; rfl
    · rw [if_neg hc, if_neg hc])
  clear hRe hRel hF hnn A0 h hhd hl
  go_enter Tryz.func72, Tryz.ntmps72
  go_wp2_with fail
  refine HN.out.mono ?_
  rintro e w1 ⟨rfl, A1⟩
  clear HN
  have AD := A1.out.drew
  have HFi := Lib.hid ((pfilter_any w.heap.size R.tail _ _ w1.drew AD.st).mono (fun e W' ⟨x1, x2, x3⟩ => And.intro x1 (AD.words x2 x3)))
  rw [← hx.out] at HFi
  unfold filtV at HFi
  have d6 : w1.drew.cell? ⟨g, 6, none⟩ = some (.slice pf nn cf) := AD.oc.box.cell 6
  go_wp2_with fail
  go_region_law (first
        | (refine step_append_lies _ (by rfl) (.tmp 50) (.tmp 52) 22 (by rfl) g 49 i0 (.agg #[.int .i64 0, .string .empty, .string .empty, .int .i64 0, .int .i64 0, .int .i64 0]) 6 64 Tryz.underlying22 hi hz0 hz1 hz2 (by rfl) (by decide) (.slice pf nn cf) nn (c.filters.flatMap filtV) (by rfl) HR3 ⟨w2.heap.size, 0, none⟩ 1 1 (filtV x) (by rfl) (by rfl) HN (by simp [filtV, Value.oneCell']) (by omega) (by unfold maxLen; omega) (by omega) (Nat.le_of_lt A3.oc.box.lt) (w2.heap.size + 1) (by simp) ?_; intro g4 cap4 w4 hown4 hg4 hat4 hlt4; have hb4 := has_kept A3.oc.box hg4 (ConfOwn.row_far A3.oc.rf A3.oc.box (by decide)); have c4 : w4.cell? ⟨g, 6, none⟩ = some (.slice pf nn cf) := hb4.cell 6; have z4 := hb4.free 6)
        | (go_simp; go_at_call 108; refine HFi.out.mono ?_; rintro e w2 ⟨rfl, A2⟩; have k2 : w2.cell? ⟨g, 6, none⟩ = some (.slice pf nn cf) := A2.oc.box.cell 6; have A3 := A2.alloc (.cells #[.int .i64 x.kind, .string (ofL x.name), .string (ofL x.value), .int .i64 x.n, .int .i64 x.m, .int .i64 x.k] 49); have k3 : (w2.alloc (.cells #[.int .i64 x.kind, .string (ofL x.name), .string (ofL x.value), .int .i64 x.n, .int .i64 x.m, .int .i64 x.k] 49)).cell? ⟨g, 6, none⟩ = some (.slice pf nn cf) := A3.oc.box.cell 6; have HR3 := A3.oc.rf; rw [← HNN.out] at HR3; have HN := World.news_of_block (heap_alloc_new w2 (.cells #[.int .i64 x.kind, .string (ofL x.name), .string (ofL x.value), .int .i64 x.n, .int .i64 x.m, .int .i64 x.k] 49))))
  all_goals
    obtain ⟨hs4, hb5⟩ := A3.app A3.oc.rf (by decide) hg4 g 6 (.slice (some ⟨g4, 0, none⟩) (nn + 1) cap4) (Nat.le_refl _) hgk
    have A4 := A3.turn (A3.oc.addF x (by rw [← HNN.out]; exact hown4) hg4) hs4 hb5
    obtain ⟨lf, hlf⟩ : ∃ lf, Hid (lf = !(R.tail.drop 6).isEmpty) := ⟨_, Lib.hid rfl⟩
    obtain ⟨wg, hwg⟩ : ∃ wg, Hid (wg = wrongF R.tail FF) := ⟨_, Lib.hid rfl⟩
    rw [← hlf.out, show (false || wrongF R.tail FF) = wg by rw [Bool.false_or, hwg.out]] at A4
    rw [← hwg.out] at HS
    obtain ⟨d1, d2⟩ := A4.cells
    have A5 := Lib.hid (fun b hb => A4.fin (spec := lineP c line) (b := b) hlf.out (by first | exact HS.out | (rw [HS.out]; simp)) hb)
    clear A4 hs4 hb5 hown4 hg4 hat4 hlt4 hb4 c4 z4 A3 HR3 HN A2 k2 k3 AD A1 HFi d6
    cases wg <;> cases lf
    all_goals
      go_wp2_with fail
      go_ret
      exact A5.out _ rfl
def clusR (R : List L) : Clus := ⟨textV (R.headD []), numW (R.tail.headD []), (R.drop 8).map textV, numW (R.tail.tail.headD []), numW (R.tail.tail.tail.headD []), numW (R.tail.tail.tail.tail.headD []), numW (R.tail.tail.tail.tail.tail.headD []), numW (R.tail.tail.tail.tail.tail.tail.headD []), numW (R.tail.tail.tail.tail.tail.tail.tail.headD [])⟩
theorem line_cl (c : Conf) (line : L) (R : List L) (hR : R = cutB 32 line) (hhd : R.headD [] = CLUSTER) : lineP c line = if (wrongF R.tail FC || wrongH (R.tail.drop 8)) = false ∧ ([] : List L) = [] then some { c with clusters := c.clusters ++ [clusR R.tail] } else none := by
  have hne : R ≠ [] := by rw [hR]; exact cutB_ne _ _
  have hlen : R.length = R.tail.length + 1 := by
    cases R with
    | nil => exact absurd rfl hne
    | cons a b => rfl
  unfold lineP
  dsimp only
  rw [← hR, hhd, if_neg (by decide), if_pos rfl, hlen]
  by_cases hs : R.tail.length + 1 < 9
  · rw [if_pos hs, wrongF_short FC R.tail (by show _ < 8; omega), if_neg (by rintro ⟨h, _⟩; cases h)]
  · rw [if_neg hs, readF_run FC _ [] [] (by decide), hostsP_run]
    obtain ⟨h1, h2, h3⟩ := wrongF_take FC R.tail (by show 8 ≤ _; omega)
    rw [show FC.length = 8 from rfl] at h1 h2 h3
    rw [h1, h2, h3, show FC.length = 8 from rfl, List.drop_take, Nat.sub_self, List.take_zero]
    cases hw : wrongF R.tail FC with
    | true => simp
    | false =>
      rw [if_pos ⟨rfl, rfl⟩]
      cases hh : wrongH (R.tail.drop 8) with
      | true => rw [if_neg (by decide), if_neg (by rintro ⟨h, _⟩; cases h)]
      | false => rw [if_pos rfl, if_pos ⟨rfl, rfl⟩]; rfl
set_option maxHeartbeats 6400000 in
theorem padd_cluster (g : Nat) (c : Conf) (vf vc vv : Value) (CL : List (Clus × Value)) (VL : List (Vhos × Value)) (line : L) (hl : line.length ≤ 1099511627776) (hhd : (cutB 32 line).headD [] = CLUSTER) (hF : Few14 c) (w : World) (h : OCs w g c vf vc vv CL VL) :
    Calls Tryz.prog 72 #[.pointer (some ⟨g, 0, none⟩), .string (ofL line), .bool false] w (AddPost w g (lineP c line)) := by
  have hRel : Rel line (cutB 32 line) := .inr ⟨cutB_ne _ _, rfl⟩
  obtain ⟨R, hRe⟩ : ∃ R, R = cutB 32 line := ⟨_, rfl⟩
  rw [← hRe] at hRel hhd
  have A0 : Al w g w.heap.size c vf vc vv CL VL R false false (w.alloc (.cells #[.string (ofL line), .bool false, .bool false] WT)) := ⟨⟨⟨line, Has.new w _ _, hRel, hl⟩⟩, h.alloc _, (Below.refl _ _).alloc (Nat.le_of_lt h.box.lt) _, h.box.lt, Nat.le_refl _⟩
  have HN := Lib.hid ((pnext_any _ R false false _ A0.st).mono (fun e W' ⟨x1, _, x3, x4⟩ => And.intro x1 (Lib.hid (A0.words x3 x4))))
  unfold WT at HN
  have HRe := Lib.hid hRe
  have hgk : g ≠ w.heap.size := Nat.ne_of_lt h.box.lt
  have teL : ((ofL CLUSTER).toList == [108, 105, 115, 116, 101, 110]) = false := (text_is _ _).trans (by decide)
  have teF : ((ofL CLUSTER).toList == [102, 105, 108, 116, 101, 114]) = false := (text_is _ _).trans (by decide)
  have teC : ((ofL CLUSTER).toList == [99, 108, 117, 115, 116, 101, 114]) = true := (text_is _ _).trans (by decide)
  have teV : ((ofL CLUSTER).toList == [118, 104, 111, 115, 116]) = false := (text_is _ _).trans (by decide)
  have teR : ((ofL CLUSTER).toList == [114, 111, 117, 116, 101]) = false := (text_is _ _).trans (by decide)
  rw [hhd] at HN
  have HS := Lib.hid (line_cl c line R hRe hhd)
  generalize ofL CLUSTER = Y at *
  obtain ⟨pf, cf, hvf, _⟩ := row_form h.rc
  have hfl := hF.nc
  rw [h.ec, List.length_map] at hfl
  obtain ⟨nn, hnn⟩ : ∃ nn, nn = CL.length := ⟨_, rfl⟩
  rw [← hnn] at hvf hfl
  have HNN := Lib.hid hnn
  subst hvf
  obtain ⟨i0, hi, hz0, hz1, hz2⟩ := info_parts infoC
  obtain ⟨x, hx⟩ : ∃ x, Hid (x = clusR R.tail) := ⟨_, Lib.hid rfl⟩
  rw [← hx.out] at HS
  clear hRe hRel hF hnn A0 h hhd hl
  go_enter Tryz.func72, Tryz.ntmps72
  go_wp2_with fail
  refine HN.out.mono ?_
  rintro e w1 ⟨rfl, A1⟩
  clear HN
  have AD := A1.out.drew
  have HFi : Hid (Calls Tryz.prog 109 #[.pointer (some ⟨w.heap.size, 0, none⟩)] w1.drew fun e W' => ∃ hv, e = .returned (.agg #[.string (ofL x.name), .int .i64 x.policy, hv, .int .i64 x.conns, .int .i64 x.pending, .int .i64 x.try_, .int .i64 x.fails, .int .i64 x.eject, .int .i64 x.panic]) ∧ W'.ownsRow w1.drew.heap.size ST 1 hv x.hosts.length (Texts.strs x.hosts) ∧ Al w g w.heap.size c vf (.slice pf nn cf) vv CL VL [] (!([] : List L).isEmpty) (false || wrongF R.tail FC || wrongH (R.tail.drop 8)) W') := Lib.hid (by
    rw [hx.out]
    exact (pcluster_any w.heap.size R.tail _ _ w1.drew AD.st).mono (fun e W' ⟨hv, x1, x2, x3, x4⟩ => ⟨hv, x1, x2, AD.words x3 x4⟩))
  have HAp : Hid (∀ p ∈ CL, ∀ k, p.2.ownBlock = some k → k < w1.drew.heap.size) := Lib.hid (fun p hp k hk => ((AD.oc.hc p hp).lt k hk).2)
  have HLo : Hid (g ≤ w1.drew.heap.size) := Lib.hid (Nat.le_of_lt AD.oc.box.lt)
  have d7 : w1.drew.cell? ⟨g, 7, none⟩ = some (.slice pf nn cf) := AD.oc.box.cell 7
  go_wp2_with fail
  go_region_law (first
        | (refine step_append_lies _ (by rfl) (.tmp 62) (.tmp 64) 23 (by rfl) g 38 i0 (.agg #[.string .empty, .int .i64 0, .slice none 0 0, .int .i64 0, .int .i64 0, .int .i64 0, .int .i64 0, .int .i64 0, .int .i64 0]) 9 96 Tryz.underlying23 hi hz0 hz1 hz2 (by rfl) (by decide) (.slice pf nn cf) nn (CL.flatMap (fun p => clusV p.1 p.2)) (by rfl) HR3 ⟨w2.heap.size, 0, none⟩ 1 1 (clusV x (.slice ph x.hosts.length ch)) (by rfl) (by rfl) HN (by simp [clusV, Value.oneCell']) (by omega) (by unfold maxLen; omega) (by omega) (Nat.le_of_lt A3.oc.box.lt) (w2.heap.size + 1) (by simp) ?_; intro g4 cap4 w4 hown4 hg4 hat4 hlt4; have hb4 := has_kept A3.oc.box hg4 (ConfOwn.row_far A3.oc.rc A3.oc.box (by decide)); have c4 : w4.cell? ⟨g, 7, none⟩ = some (.slice pf nn cf) := hb4.cell 7; have z4 := hb4.free 7)
        | (go_simp; go_at_call 109; refine HFi.out.mono ?_; rintro e w2 ⟨hv, rfl, hrow2, A2⟩; obtain ⟨ph, ch, rfl, _⟩ := row_form hrow2; have hlo2 := fun k hk => (hrow2.lt k hk).1; have k2 : w2.cell? ⟨g, 7, none⟩ = some (.slice pf nn cf) := A2.oc.box.cell 7; have A3 := A2.alloc (.cells #[.string (ofL x.name), .int .i64 x.policy, .slice ph x.hosts.length ch, .int .i64 x.conns, .int .i64 x.pending, .int .i64 x.try_, .int .i64 x.fails, .int .i64 x.eject, .int .i64 x.panic] 38); have k3 : (w2.alloc (.cells #[.string (ofL x.name), .int .i64 x.policy, .slice ph x.hosts.length ch, .int .i64 x.conns, .int .i64 x.pending, .int .i64 x.try_, .int .i64 x.fails, .int .i64 x.eject, .int .i64 x.panic] 38)).cell? ⟨g, 7, none⟩ = some (.slice pf nn cf) := A3.oc.box.cell 7; have HR3 := A3.oc.rc; rw [← HNN.out] at HR3; have HN := World.news_of_block (heap_alloc_new w2 (.cells #[.string (ofL x.name), .int .i64 x.policy, .slice ph x.hosts.length ch, .int .i64 x.conns, .int .i64 x.pending, .int .i64 x.try_, .int .i64 x.fails, .int .i64 x.eject, .int .i64 x.panic] 38))))
  all_goals
    obtain ⟨hs4, hb5⟩ := A3.app A3.oc.rc (by decide) hg4 g 7 (.slice (some ⟨g4, 0, none⟩) (nn + 1) cap4) (Nat.le_refl _) hgk
    have A4 := A3.turn (A3.oc.addC x (.slice ph x.hosts.length ch) (row_mono (row_below hrow2 ((Below.refl _ _).alloc (Nat.le_refl _) _)) HLo.out) (fun p hp k hk e => by have := HAp.out p hp k hk; have := hlo2 k e; omega) (by rw [← HNN.out]; exact hown4) hg4) hs4 hb5
    obtain ⟨lf, hlf⟩ : ∃ lf, Hid (lf = !(([] : List L)).isEmpty) := ⟨_, Lib.hid rfl⟩
    obtain ⟨wg, hwg⟩ : ∃ wg, Hid (wg = (wrongF R.tail FC || wrongH (R.tail.drop 8))) := ⟨_, Lib.hid rfl⟩
    rw [← hlf.out, show (false || wrongF R.tail FC || wrongH (R.tail.drop 8)) = wg from by rw [Bool.false_or, hwg.out]] at A4
    rw [← hwg.out] at HS
    obtain ⟨d1, d2⟩ := A4.cells
    have A5 := Lib.hid (fun b hb => A4.fin (spec := lineP c line) (b := b) hlf.out (by first | exact HS.out | (rw [HS.out]; simp)) hb)
    clear A4 hs4 hb5 hown4 hg4 hat4 hlt4 hb4 c4 z4 A3 HR3 HN A2 k2 k3 AD A1 HFi d7 hrow2 hlo2
    cases wg <;> cases lf
    all_goals
      go_wp2_with fail
      go_ret
      exact A5.out _ rfl
theorem line_vh (c : Conf) (line : L) (R : List L) (hR : R = cutB 32 line) (hhd : R.headD [] = VHOST) : lineP c line = if (!okW 119 (R.tail.headD [])) = false ∧ R.tail.tail = [] then some { c with vhosts := c.vhosts ++ [⟨textV (R.tail.headD []), []⟩] } else none := by
  unfold lineP
  dsimp only
  rw [← hR, hhd, if_neg (by decide), if_neg (by decide), if_pos rfl, readF_run ([119] : List UInt8) _ [] [] (by decide)]
  rw [show R.tail.drop ([119] : List UInt8).length = R.tail.tail from by simp [← List.drop_one, List.drop_drop]]
  rw [show wrongF R.tail ([119] : List UInt8) = !okW 119 (R.tail.headD []) from by simp [wrongF]]
  by_cases hc : (!okW 119 (R.tail.headD [])) = false ∧ R.tail.tail = []
  · rw [if_pos hc, if_pos hc]; rfl
  · rw [if_neg hc, if_neg hc]
set_option maxHeartbeats 6400000 in
theorem padd_vhost (g : Nat) (c : Conf) (vf vc vv : Value) (CL : List (Clus × Value)) (VL : List (Vhos × Value)) (line : L) (hl : line.length ≤ 1099511627776) (hhd : (cutB 32 line).headD [] = VHOST) (hF : Few14 c) (w : World) (h : OCs w g c vf vc vv CL VL) :
    Calls Tryz.prog 72 #[.pointer (some ⟨g, 0, none⟩), .string (ofL line), .bool false] w (AddPost w g (lineP c line)) := by
  have hRel : Rel line (cutB 32 line) := .inr ⟨cutB_ne _ _, rfl⟩
  obtain ⟨R, hRe⟩ : ∃ R, R = cutB 32 line := ⟨_, rfl⟩
  rw [← hRe] at hRel hhd
  have A0 : Al w g w.heap.size c vf vc vv CL VL R false false (w.alloc (.cells #[.string (ofL line), .bool false, .bool false] WT)) := ⟨⟨⟨line, Has.new w _ _, hRel, hl⟩⟩, h.alloc _, (Below.refl _ _).alloc (Nat.le_of_lt h.box.lt) _, h.box.lt, Nat.le_refl _⟩
  have HN := Lib.hid ((pnext_any _ R false false _ A0.st).mono (fun e W' ⟨x1, _, x3, x4⟩ => And.intro x1 (Lib.hid (A0.words x3 x4))))
  unfold WT at HN
  have HRe := Lib.hid hRe
  have hgk : g ≠ w.heap.size := Nat.ne_of_lt h.box.lt
  have teL : ((ofL VHOST).toList == [108, 105, 115, 116, 101, 110]) = false := (text_is _ _).trans (by decide)
  have teF : ((ofL VHOST).toList == [102, 105, 108, 116, 101, 114]) = false := (text_is _ _).trans (by decide)
  have teC : ((ofL VHOST).toList == [99, 108, 117, 115, 116, 101, 114]) = false := (text_is _ _).trans (by decide)
  have teV : ((ofL VHOST).toList == [118, 104, 111, 115, 116]) = true := (text_is _ _).trans (by decide)
  have teR : ((ofL VHOST).toList == [114, 111, 117, 116, 101]) = false := (text_is _ _).trans (by decide)
  rw [hhd] at HN
  have HS := Lib.hid (line_vh c line R hRe hhd)
  generalize ofL VHOST = Y at *
  obtain ⟨pf, cf, hvf, _⟩ := row_form h.rv
  have hfl := hF.nv
  rw [h.ev, List.length_map] at hfl
  obtain ⟨nn, hnn⟩ : ∃ nn, nn = VL.length := ⟨_, rfl⟩
  rw [← hnn] at hvf hfl
  have HNN := Lib.hid hnn
  subst hvf
  obtain ⟨i0, hi, hz0, hz1, hz2⟩ := info_parts infoV
  obtain ⟨x, hx⟩ : ∃ x, Hid (x = textV (R.tail.headD [])) := ⟨_, Lib.hid rfl⟩
  rw [← hx.out] at HS
  clear hRe hRel hF hnn A0 h hhd hl
  go_enter Tryz.func72, Tryz.ntmps72
  go_wp2_with fail
  refine HN.out.mono ?_
  rintro e w1 ⟨rfl, A1⟩
  clear HN
  have AD := A1.out.drew
  have HFi := Lib.hid ((PCfgM.ptext_any w.heap.size R.tail _ _ w1.drew AD.st).mono (fun e W' ⟨x1, x2⟩ => And.intro x1 (AD.took x2)))
  rw [← hx.out] at HFi
  have d8 : w1.drew.cell? ⟨g, 8, none⟩ = some (.slice pf nn cf) := AD.oc.box.cell 8
  go_wp2_with fail
  go_region_law (first
        | (refine step_append_lies _ (by rfl) (.tmp 74) (.tmp 77) 24 (by rfl) g 43 i0 (.agg #[.string .empty, .slice none 0 0]) 2 40 Tryz.underlying24 hi hz0 hz1 hz2 (by rfl) (by decide) (.slice pf nn cf) nn (VL.flatMap (fun p => vhosV p.1 p.2)) (by rfl) HR3 ⟨w2.heap.size, 0, none⟩ 1 1 (vhosV ⟨x, []⟩ (.slice none 0 0)) (by rfl) (by rfl) HN (by simp [vhosV, Value.oneCell']) (by omega) (by unfold maxLen; omega) (by omega) (Nat.le_of_lt A3.oc.box.lt) (w2.heap.size + 1) (by simp) ?_; intro g4 cap4 w4 hown4 hg4 hat4 hlt4; have hb4 := has_kept A3.oc.box hg4 (ConfOwn.row_far A3.oc.rv A3.oc.box (by decide)); have c4 : w4.cell? ⟨g, 8, none⟩ = some (.slice pf nn cf) := hb4.cell 8; have z4 := hb4.free 8)
        | (go_simp; go_at_call 110; refine HFi.out.mono ?_; rintro e w2 ⟨rfl, A2⟩; have k2 : w2.cell? ⟨g, 8, none⟩ = some (.slice pf nn cf) := A2.oc.box.cell 8; have A3 := A2.alloc (.cells #[.string (ofL x), .slice none 0 0] 43); have k3 : (w2.alloc (.cells #[.string (ofL x), .slice none 0 0] 43)).cell? ⟨g, 8, none⟩ = some (.slice pf nn cf) := A3.oc.box.cell 8; have HR3 := A3.oc.rv; rw [← HNN.out] at HR3; have HN := World.news_of_block (heap_alloc_new w2 (.cells #[.string (ofL x), .slice none 0 0] 43))))
  all_goals
    obtain ⟨hs4, hb5⟩ := A3.app A3.oc.rv (by decide) hg4 g 8 (.slice (some ⟨g4, 0, none⟩) (nn + 1) cap4) (Nat.le_refl _) hgk
    have A4 := A3.turn (A3.oc.addV x (by rw [← HNN.out]; exact hown4) hg4) hs4 hb5
    obtain ⟨lf, hlf⟩ : ∃ lf, Hid (lf = !(R.tail.tail).isEmpty) := ⟨_, Lib.hid rfl⟩
    obtain ⟨wg, hwg⟩ : ∃ wg, Hid (wg = (!okW 119 (R.tail.headD []))) := ⟨_, Lib.hid rfl⟩
    rw [← hlf.out, show (false || !okW 119 (R.tail.headD [])) = wg from by rw [Bool.false_or, hwg.out]] at A4
    rw [← hwg.out] at HS
    obtain ⟨d1, d2⟩ := A4.cells
    have A5 := Lib.hid (fun b hb => A4.fin (spec := lineP c line) (b := b) hlf.out (by first | exact HS.out | (rw [HS.out]; simp)) hb)
    clear A4 hs4 hb5 hown4 hg4 hat4 hlt4 hb4 c4 z4 A3 HR3 HN A2 k2 k3 AD A1 HFi d8 
    cases wg <;> cases lf
    all_goals
      go_wp2_with fail
      go_ret
      exact A5.out _ rfl
end Go.Proofs.YtfihehobkbfmiaaGreatDoor.PCfgP

/- Layer 14 of the program: addLine at a route's line. -/
namespace Go.Proofs.YtfihehobkbfmiaaGreatDoor.PCfgQ
open Go.ChangeShapes Go.WideShapes Go.ChangeAt Go.RowKit Bytes LexPure LexNum PathPure CutAt ConfPure ConfProg ConfMem Ret Mem RowKeep ConfOwn ConfCF PCfgLib PCfgT PCfgW PCfgM PCfgN PCfgO PCfgP
set_option maxRecDepth 100000
set_option linter.unusedVariables false
set_option linter.unusedSimpArgs false
theorem flag_val (w : L) : ((if w == [49] then (1 : Int) else 0) == 1) = (w == [49]) := by
  cases h : (w == [49]) <;> rfl
theorem rout_run (R : List L) : readF R FR [] [] = if wrongF R FR = false ∧ R.drop 13 = [] then some (numsF R FR, textsF R FR) else none := by
  rw [readF_run FR R [] [] (by decide)]
  rfl
theorem line_rt (c : Conf) (line : L) (R : List L) (hR : R = cutB 32 line) (hhd : R.headD [] = ROUTE) (V0 : List Vhos) (v : Vhos) (hv : c.vhosts = V0 ++ [v]) : lineP c line = if wrongF R.tail FR = false ∧ R.tail.drop 13 = [] then some { c with vhosts := V0 ++ [⟨v.domain, v.routes ++ [routR R.tail]⟩] } else none := by
  unfold lineP
  dsimp only
  rw [← hR, hhd, if_neg (by decide), if_neg (by decide), if_neg (by decide), if_pos rfl, rout_run]
  by_cases hc : wrongF R.tail FR = false ∧ R.tail.drop 13 = []
  · rw [if_pos hc, if_pos hc]
    dsimp only
    unfold addR
    rw [hv, List.getLast?_concat, List.dropLast_concat]
    simp only [Option.map_some, numsF, textsF, FR, valW, if_neg (show ¬ (98 : UInt8) = 119 by decide), if_neg (show ¬ (110 : UInt8) = 119 by decide), if_neg (show ¬ (110 : UInt8) = 98 by decide), if_true, List.getD_cons_zero, List.getD_cons_succ, flag_val]
    rfl
  · rw [if_neg hc, if_neg hc]
theorem line_rt0 (c : Conf) (line : L) (R : List L) (hR : R = cutB 32 line) (hhd : R.headD [] = ROUTE) (hv : c.vhosts = []) : lineP c line = none := by
  unfold lineP
  dsimp only
  rw [← hR, hhd, if_neg (by decide), if_neg (by decide), if_neg (by decide), if_pos rfl, rout_run]
  by_cases hc : wrongF R.tail FR = false ∧ R.tail.drop 13 = []
  · rw [if_pos hc]
    dsimp only
    unfold addR
    rw [hv]; rfl
  · rw [if_neg hc]
theorem OCs.lastc {w : World} {g : Nat} {c : Conf} {vf vc : Value} {CL : List (Clus × Value)} {V0 : List (Vhos × Value)} {v : Vhos} {hr : Value} {gv m capv : Nat} (h : OCs w g c vf vc (.slice (some ⟨gv, 0, none⟩) (m + 1) capv) CL (V0 ++ [(v, hr)])) (hm : m = V0.length) : w.cell? ⟨gv, m * 2 + 1, none⟩ = some hr ∧ w.frozen? ⟨gv, m * 2 + 1, none⟩ = false ∧ g ≤ gv := by
  subst hm
  have hl : (V0.flatMap (fun p => vhosV p.1 p.2)).length = V0.length * 2 := by
    clear h
    induction V0 with
    | nil => rfl
    | cons p V0 ih => rw [List.flatMap_cons, List.length_append, ih, List.length_cons]; show 2 + _ = _; omega
  have hrow := h.rv
  rw [List.length_append, List.length_singleton, List.flatMap_append, List.flatMap_singleton] at hrow
  refine ⟨?_, hrow.frozenAt _, (hrow.lt gv rfl).1⟩
  rw [hrow.cellAt _ (by omega), List.getElem?_append_right (by omega), hl, show V0.length * 2 + 1 - V0.length * 2 = 1 by omega]
  rfl
theorem row_lastc {w : World} {g : Nat} {V0 : List (Vhos × Value)} {v : Vhos} {hr : Value} {gv m capv : Nat} (h : w.ownsRow g VT 2 (.slice (some ⟨gv, 0, none⟩) (m + 1) capv) (V0 ++ [(v, hr)]).length ((V0 ++ [(v, hr)]).flatMap (fun p => vhosV p.1 p.2))) (hm : m = V0.length) : w.cell? ⟨gv, m * 2 + 1, none⟩ = some hr ∧ w.frozen? ⟨gv, m * 2 + 1, none⟩ = false := by
  subst hm
  have hl : (V0.flatMap (fun p => vhosV p.1 p.2)).length = V0.length * 2 := by
    clear h
    induction V0 with
    | nil => rfl
    | cons p V0 ih => rw [List.flatMap_cons, List.length_append, ih, List.length_cons]; show 2 + _ = _; omega
  rw [List.length_append, List.length_singleton, List.flatMap_append, List.flatMap_singleton] at h
  refine ⟨?_, h.frozenAt _⟩
  rw [h.cellAt _ (by omega), List.getElem?_append_right (by omega), hl, show V0.length * 2 + 1 - V0.length * 2 = 1 by omega]
  rfl
set_option maxHeartbeats 6400000 in
theorem padd_route0 (g : Nat) (c : Conf) (vf vc vv : Value) (CL : List (Clus × Value)) (VL : List (Vhos × Value)) (line : L) (hl : line.length ≤ 1099511627776) (hhd : (cutB 32 line).headD [] = ROUTE) (hv0 : VL = []) (hF : Few14 c) (w : World) (h : OCs w g c vf vc vv CL VL) :
    Calls Tryz.prog 72 #[.pointer (some ⟨g, 0, none⟩), .string (ofL line), .bool false] w (AddPost w g (lineP c line)) := by
  have hRel : Rel line (cutB 32 line) := .inr ⟨cutB_ne _ _, rfl⟩
  obtain ⟨R, hRe⟩ : ∃ R, R = cutB 32 line := ⟨_, rfl⟩
  rw [← hRe] at hRel hhd
  have A0 : Al w g w.heap.size c vf vc vv CL VL R false false (w.alloc (.cells #[.string (ofL line), .bool false, .bool false] WT)) := ⟨⟨⟨line, Has.new w _ _, hRel, hl⟩⟩, h.alloc _, (Below.refl _ _).alloc (Nat.le_of_lt h.box.lt) _, h.box.lt, Nat.le_refl _⟩
  have HN := Lib.hid ((pnext_any _ R false false _ A0.st).mono (fun e W' ⟨x1, _, x3, x4⟩ => And.intro x1 (Lib.hid (A0.words x3 x4))))
  unfold WT at HN
  have HRe := Lib.hid hRe
  have hgk : g ≠ w.heap.size := Nat.ne_of_lt h.box.lt
  have teL : ((ofL ROUTE).toList == [108, 105, 115, 116, 101, 110]) = false := (text_is _ _).trans (by decide)
  have teF : ((ofL ROUTE).toList == [102, 105, 108, 116, 101, 114]) = false := (text_is _ _).trans (by decide)
  have teC : ((ofL ROUTE).toList == [99, 108, 117, 115, 116, 101, 114]) = false := (text_is _ _).trans (by decide)
  have teV : ((ofL ROUTE).toList == [118, 104, 111, 115, 116]) = false := (text_is _ _).trans (by decide)
  have teR : ((ofL ROUTE).toList == [114, 111, 117, 116, 101]) = true := (text_is _ _).trans (by decide)
  rw [hhd] at HN
  have HS := Lib.hid (line_rt0 c line R hRe hhd (by rw [h.ev, hv0]; rfl))
  generalize ofL ROUTE = Y at *
  obtain ⟨pf, cf, hvf, _⟩ := row_form h.rv
  rw [hv0] at hvf
  subst hvf
  clear hRe hRel hF A0 h hhd hl
  go_enter Tryz.func72, Tryz.ntmps72
  go_wp2_with fail
  refine HN.out.mono ?_
  rintro e w1 ⟨rfl, A1⟩
  clear HN
  have d8 : w1.cell? ⟨g, 8, none⟩ = some (.slice pf ([] : List (Vhos × Value)).length cf) := A1.out.oc.box.cell 8
  replace d8 : w1.cell? ⟨g, 8, none⟩ = some (.slice pf 0 cf) := d8
  go_wp2_with fail
  go_ret
  exact add_no HS.out A1.out.below
set_option maxHeartbeats 6400000 in
theorem padd_route (g : Nat) (c : Conf) (vf vc vv : Value) (CL : List (Clus × Value)) (VL : List (Vhos × Value)) (line : L) (hl : line.length ≤ 1099511627776) (hhd : (cutB 32 line).headD [] = ROUTE) (V0 : List (Vhos × Value)) (v : Vhos) (hr : Value) (hv0 : VL = V0 ++ [(v, hr)]) (hF : Few14 c) (w : World) (h : OCs w g c vf vc vv CL VL) :
    Calls Tryz.prog 72 #[.pointer (some ⟨g, 0, none⟩), .string (ofL line), .bool false] w (AddPost w g (lineP c line)) := by
  have hRel : Rel line (cutB 32 line) := .inr ⟨cutB_ne _ _, rfl⟩
  obtain ⟨R, hRe⟩ : ∃ R, R = cutB 32 line := ⟨_, rfl⟩
  rw [← hRe] at hRel hhd
  have A0 : Al w g w.heap.size c vf vc vv CL VL R false false (w.alloc (.cells #[.string (ofL line), .bool false, .bool false] WT)) := ⟨⟨⟨line, Has.new w _ _, hRel, hl⟩⟩, h.alloc _, (Below.refl _ _).alloc (Nat.le_of_lt h.box.lt) _, h.box.lt, Nat.le_refl _⟩
  have HN := Lib.hid ((pnext_any _ R false false _ A0.st).mono (fun e W' ⟨x1, _, x3, x4⟩ => And.intro x1 (Lib.hid (A0.words x3 x4))))
  unfold WT at HN
  have HRe := Lib.hid hRe
  have hgk : g ≠ w.heap.size := Nat.ne_of_lt h.box.lt
  have teL : ((ofL ROUTE).toList == [108, 105, 115, 116, 101, 110]) = false := (text_is _ _).trans (by decide)
  have teF : ((ofL ROUTE).toList == [102, 105, 108, 116, 101, 114]) = false := (text_is _ _).trans (by decide)
  have teC : ((ofL ROUTE).toList == [99, 108, 117, 115, 116, 101, 114]) = false := (text_is _ _).trans (by decide)
  have teV : ((ofL ROUTE).toList == [118, 104, 111, 115, 116]) = false := (text_is _ _).trans (by decide)
  have teR : ((ofL ROUTE).toList == [114, 111, 117, 116, 101]) = true := (text_is _ _).trans (by decide)
  rw [hhd] at HN
  have hev := h.ev
  rw [hv0, List.map_append, List.map_singleton] at hev
  have HS := Lib.hid (line_rt c line R hRe hhd _ _ hev)
  generalize ofL ROUTE = Y at *
  subst hv0
  have hmem : ((v, hr) : Vhos × Value) ∈ V0 ++ [(v, hr)] := List.mem_append_right _ (List.mem_singleton.2 rfl)
  obtain ⟨gv, capv, hvv, _, _, hcp, _⟩ := row_at h.rv (by rw [List.length_append]; simp)
  rw [List.length_append, List.length_singleton] at hvv hcp
  obtain ⟨pf, cf, hvf, _⟩ := row_form (h.hv _ hmem)
  dsimp only at hvf
  have hfl := hF.nr v (by rw [hev]; exact List.mem_append_right _ (List.mem_singleton.2 rfl))
  have hml := hF.nv
  rw [hev, List.length_append, List.length_map, List.length_singleton] at hml
  obtain ⟨nn, hnn⟩ : ∃ nn, nn = v.routes.length := ⟨_, rfl⟩
  rw [← hnn] at hvf hfl
  have HNN := Lib.hid hnn
  obtain ⟨m, hm⟩ : ∃ m, m = V0.length := ⟨_, rfl⟩
  rw [← hm] at hvv hml hcp
  have HMm := Lib.hid hm
  subst hvf
  subst hvv
  obtain ⟨i0, hi, hz0, hz1, hz2⟩ := info_parts infoR
  obtain ⟨x, hx⟩ : ∃ x, Hid (x = routR R.tail) := ⟨_, Lib.hid rfl⟩
  rw [← hx.out] at HS
  have m0 : (0 : Int) ≤ (m : Int) := by omega
  have m1 : (m : Int) < (m : Int) + 1 := by omega
  have m2 : (m : Int) + 1 - 1 = (m : Int) := by omega
  have m4 : (m : Int) ≤ 274877906944 := by omega
  have m3 : ((m : Int) + 1 == 0) = false := beq_false_of_ne (by omega)
  clear hRe hRel hF hnn hm A0 h hhd hl hev hmem
  go_enter Tryz.func72, Tryz.ntmps72
  go_wp2_with fail
  refine HN.out.mono ?_
  rintro e w1 ⟨rfl, A1⟩
  clear HN
  have d8 : w1.cell? ⟨g, 8, none⟩ = some (.slice (some ⟨gv, 0, none⟩) (m + 1) capv) := A1.out.oc.box.cell 8
  have AD := A1.out.drew
  have d8d : w1.drew.cell? ⟨g, 8, none⟩ = some (.slice (some ⟨gv, 0, none⟩) (m + 1) capv) := AD.oc.box.cell 8
  go_wp2_with fail
  go_wp2_with fail
  go_region
  have AE := A1.out.drew.drew
  have HFi := Lib.hid ((proute_any w.heap.size R.tail _ _ w1.drew.drew AE.st).mono (fun e W' ⟨x1, x2, x3⟩ => And.intro x1 (AE.words x2 x3)))
  rw [← hx.out] at HFi
  unfold routV at HFi
  obtain ⟨dr, _, hgg⟩ := OCs.lastc AE.oc HMm.out
  have HGG := Lib.hid hgg
  have hmem : ((v, (.slice pf nn cf : Value)) : Vhos × Value) ∈ V0 ++ [(v, .slice pf nn cf)] := List.mem_append_right _ (List.mem_singleton.2 rfl)
  have HMem := Lib.hid hmem
  clear hmem hgg
  go_wp2_with fail
  go_region_law (first
        | (refine step_append_lies _ (by rfl) (.tmp 104) (.tmp 106) 41 (by rfl) g 45 i0 (.agg #[.bool false, .string .empty, .string .empty, .string .empty, .string .empty, .int .i64 0, .string .empty, .int .i64 0, .string .empty, .string .empty, .int .i64 0, .int .i64 0, .bool false]) 13 160 Tryz.underlying41 hi hz0 hz1 hz2 (by rfl) (by decide) (.slice pf nn cf) nn (v.routes.flatMap routV) (by rfl) HR3 ⟨w2.heap.size, 0, none⟩ 1 1 (routV x) (by rfl) (by rfl) HN (by simp [routV, Value.oneCell']) (by omega) (by unfold maxLen; omega) (by omega) (Nat.le_of_lt A3.oc.box.lt) (w2.heap.size + 1) (by simp) ?_; intro g4 cap4 w4 hown4 hg4 hat4 hlt4; have hrv4 := row_kept A3.oc.rv hg4 (row_apart A3.oc.rv (A3.oc.hv _ HMem.out) (by decide)); obtain ⟨c4, z4⟩ := row_lastc hrv4 HMm.out)
        | (go_simp; go_at_call 111; refine HFi.out.mono ?_; rintro e w2 ⟨rfl, A2⟩; have k2 := (OCs.lastc A2.oc HMm.out).1; have A3 := A2.alloc (.cells #[.bool x.pre, .string (ofL x.path), .string (ofL x.method), .string (ofL x.field), .string (ofL x.value), .int .i64 x.action, .string (ofL x.cluster), .int .i64 x.status, .string (ofL x.text), .string (ofL x.rewrite), .int .i64 x.retries, .int .i64 x.timeout, .bool x.upgrade] 45); have k3 := (OCs.lastc A3.oc HMm.out).1; have HR3 := A3.oc.hv _ HMem.out; dsimp only at HR3; rw [← HNN.out] at HR3; have HN := World.news_of_block (heap_alloc_new w2 (.cells #[.bool x.pre, .string (ofL x.path), .string (ofL x.method), .string (ofL x.field), .string (ofL x.value), .int .i64 x.action, .string (ofL x.cluster), .int .i64 x.status, .string (ofL x.text), .string (ofL x.rewrite), .int .i64 x.retries, .int .i64 x.timeout, .bool x.upgrade] 45))))
  all_goals
    obtain ⟨hs4, hb5⟩ := A3.app (A3.oc.hv _ HMem.out) (by decide) hg4 gv (m * 2 + 1) (.slice (some ⟨g4, 0, none⟩) (nn + 1) cap4) HGG.out (by
      obtain ⟨rest, hH, _⟩ := A3.st.ex
      intro e
      exact ConfOwn.row_far A3.oc.rv hH (by decide) (by rw [← e]; rfl))
    have A4 := A3.turn (by
      have := A3.oc.addR x (by rw [← HMm.out]) (by rw [← HNN.out]; exact hown4) hg4 (fun k hk => by
        rcases hat4 with h | h
        · left; rw [h]; exact hk
        · right
          have : k = g4 := by simpa [Value.ownBlock] using hk.symm
          rw [this, h]; simp)
      rw [← HMm.out] at this
      exact this) hs4 hb5
    obtain ⟨lf, hlf⟩ : ∃ lf, Hid (lf = !(R.tail.drop 13).isEmpty) := ⟨_, Lib.hid rfl⟩
    obtain ⟨wg, hwg⟩ : ∃ wg, Hid (wg = wrongF R.tail FR) := ⟨_, Lib.hid rfl⟩
    rw [← hlf.out, show (false || wrongF R.tail FR) = wg from by rw [Bool.false_or, hwg.out]] at A4
    rw [← hwg.out] at HS
    obtain ⟨d1, d2⟩ := A4.cells
    have A5 := Lib.hid (fun b hb => A4.fin (spec := lineP c line) (b := b) hlf.out (by first | exact HS.out | (rw [HS.out]; simp)) hb)
    clear A4 hs4 hb5 hown4 hg4 hat4 hlt4 hrv4 c4 z4 A3 HR3 HN A2 k2 k3 AD AE A1 HFi d8 d8d dr
    cases wg <;> cases lf
    all_goals
      go_wp2_with fail
      go_ret
      exact A5.out _ rfl
end Go.Proofs.YtfihehobkbfmiaaGreatDoor.PCfgQ

/- Layer 14 of the program: addLine at the first line, at lines of no form; all of it. -/
namespace Go.Proofs.YtfihehobkbfmiaaGreatDoor.PCfgL
open Go.ChangeShapes Go.WideShapes Go.ChangeAt Go.RowKit Bytes LexPure LexNum PathPure CutAt ConfPure ConfProg ConfMem Ret Mem RowKeep ConfOwn ConfCF PCfgLib PCfgT PCfgW PCfgM PCfgN PCfgO PCfgP PCfgQ
set_option maxRecDepth 100000
set_option linter.unusedVariables false
set_option linter.unusedSimpArgs false
theorem anum {w W : World} {g k : Nat} {c : Conf} {vf vc vv : Value} {CL : List (Clus × Value)} {VL : List (Vhos × Value)} {T : List L} {left wrong : Bool} (h : Al w g k c vf vc vv CL VL T left wrong W) : Calls Tryz.prog 107 #[.pointer (some ⟨k, 0, none⟩)] W fun e W' => e = .returned (.int .i64 (numW (T.headD []))) ∧ Hid (Al w g k c vf vc vv CL VL T.tail (!T.tail.isEmpty) (wrong || !okW 110 (T.headD [])) W') :=
  (pnumber_word k T left wrong W h.st).mono (fun e W' ⟨x1, x2⟩ => ⟨x1, Lib.hid (h.took x2)⟩)
def confR (R : List L) : Conf := ⟨numW (R.headD []), numW (R.tail.headD []), numW (R.tail.tail.headD []), numW (R.tail.tail.tail.headD []), numW (R.tail.tail.tail.tail.headD []), numW (R.tail.tail.tail.tail.tail.headD []), [], [], []⟩
theorem line_li (line : L) (R : List L) (hR : R = cutB 32 line) (hhd : R.headD [] = LISTEN) : firstP line = if wrongF R.tail FL6 = false ∧ R.tail.drop 6 = [] then some (confR R.tail) else none := by
  unfold firstP
  dsimp only
  rw [← hR, hhd, readF_run FL6 _ [] [] (by decide), show FL6.length = 6 from rfl]
  by_cases hc : wrongF R.tail FL6 = false ∧ R.tail.drop 6 = []
  · rw [if_pos hc, if_pos hc]
    rfl
  · rw [if_neg hc, if_neg hc]
theorem first_no (line : L) (h : (cutB 32 line).headD [] ≠ LISTEN) : firstP line = none := by
  unfold firstP
  dsimp only
  split
  · rfl
  · rw [if_neg h]
theorem line_no (c : Conf) (line : L) (hF : (cutB 32 line).headD [] ≠ FILTER) (hC : (cutB 32 line).headD [] ≠ CLUSTER) (hV : (cutB 32 line).headD [] ≠ VHOST) (hRt : (cutB 32 line).headD [] ≠ ROUTE) : lineP c line = none := by
  unfold lineP
  dsimp only
  rw [if_neg hF, if_neg hC, if_neg hV, if_neg hRt]
set_option maxHeartbeats 6400000 in
theorem padd_first_no (g : Nat) (c : Conf) (vf vc vv : Value) (CL : List (Clus × Value)) (VL : List (Vhos × Value)) (line : L) (hl : line.length ≤ 1099511627776) (nL : (cutB 32 line).headD [] ≠ LISTEN) (hF : Few14 c) (w : World) (h : OCs w g c vf vc vv CL VL) :
    Calls Tryz.prog 72 #[.pointer (some ⟨g, 0, none⟩), .string (ofL line), .bool true] w (AddPost w g (firstP line)) := by
  have HS := Lib.hid (first_no line nL)
  have hRel : Rel line (cutB 32 line) := .inr ⟨cutB_ne _ _, rfl⟩
  obtain ⟨R, hRe⟩ : ∃ R, R = cutB 32 line := ⟨_, rfl⟩
  rw [← hRe] at hRel nL
  have A0 : Al w g w.heap.size c vf vc vv CL VL R false false (w.alloc (.cells #[.string (ofL line), .bool false, .bool false] WT)) := ⟨⟨⟨line, Has.new w _ _, hRel, hl⟩⟩, h.alloc _, (Below.refl _ _).alloc (Nat.le_of_lt h.box.lt) _, h.box.lt, Nat.le_refl _⟩
  have HN := Lib.hid ((pnext_any _ R false false _ A0.st).mono (fun e W' ⟨x1, _, x3, x4⟩ => And.intro x1 (Lib.hid (A0.words x3 x4))))
  unfold WT at HN
  have HRe := Lib.hid hRe
  have hgk : g ≠ w.heap.size := Nat.ne_of_lt h.box.lt
  have teL : ((ofL (R.headD [])).toList == [108, 105, 115, 116, 101, 110]) = false := (text_is _ _).trans (beq_false_of_ne nL)
  generalize ofL (R.headD []) = Y at *
  clear hRe hRel hF A0 h nL hl
  go_enter Tryz.func72, Tryz.ntmps72
  go_wp2_with fail
  refine HN.out.mono ?_
  rintro e w1 ⟨rfl, A1⟩
  clear HN
  go_wp2_with fail
  go_ret
  exact add_no HS.out A1.out.below
set_option maxHeartbeats 6400000 in
theorem padd_listen_no (g : Nat) (c : Conf) (vf vc vv : Value) (CL : List (Clus × Value)) (VL : List (Vhos × Value)) (line : L) (hl : line.length ≤ 1099511627776) (hhd : (cutB 32 line).headD [] = LISTEN) (hF : Few14 c) (w : World) (h : OCs w g c vf vc vv CL VL) :
    Calls Tryz.prog 72 #[.pointer (some ⟨g, 0, none⟩), .string (ofL line), .bool false] w (AddPost w g (lineP c line)) := by
  have HS := Lib.hid (line_no c line (by rw [hhd]; decide) (by rw [hhd]; decide) (by rw [hhd]; decide) (by rw [hhd]; decide))
  have hRel : Rel line (cutB 32 line) := .inr ⟨cutB_ne _ _, rfl⟩
  obtain ⟨R, hRe⟩ : ∃ R, R = cutB 32 line := ⟨_, rfl⟩
  rw [← hRe] at hRel hhd
  have A0 : Al w g w.heap.size c vf vc vv CL VL R false false (w.alloc (.cells #[.string (ofL line), .bool false, .bool false] WT)) := ⟨⟨⟨line, Has.new w _ _, hRel, hl⟩⟩, h.alloc _, (Below.refl _ _).alloc (Nat.le_of_lt h.box.lt) _, h.box.lt, Nat.le_refl _⟩
  have HN := Lib.hid ((pnext_any _ R false false _ A0.st).mono (fun e W' ⟨x1, _, x3, x4⟩ => And.intro x1 (Lib.hid (A0.words x3 x4))))
  unfold WT at HN
  have HRe := Lib.hid hRe
  have hgk : g ≠ w.heap.size := Nat.ne_of_lt h.box.lt
  have teL : ((ofL LISTEN).toList == [108, 105, 115, 116, 101, 110]) = true := (text_is _ _).trans (by decide)
  have teF : ((ofL LISTEN).toList == [102, 105, 108, 116, 101, 114]) = false := (text_is _ _).trans (by decide)
  have teC : ((ofL LISTEN).toList == [99, 108, 117, 115, 116, 101, 114]) = false := (text_is _ _).trans (by decide)
  have teV : ((ofL LISTEN).toList == [118, 104, 111, 115, 116]) = false := (text_is _ _).trans (by decide)
  have teR : ((ofL LISTEN).toList == [114, 111, 117, 116, 101]) = false := (text_is _ _).trans (by decide)
  rw [hhd] at HN
  generalize ofL LISTEN = Y at *
  clear hRe hRel hF A0 h hhd hl
  go_enter Tryz.func72, Tryz.ntmps72
  go_wp2_with fail
  refine HN.out.mono ?_
  rintro e w1 ⟨rfl, A1⟩
  clear HN
  go_wp2_with fail
  go_ret
  exact add_no HS.out A1.out.below
set_option maxHeartbeats 6400000 in
theorem padd_none (g : Nat) (c : Conf) (vf vc vv : Value) (CL : List (Clus × Value)) (VL : List (Vhos × Value)) (line : L) (hl : line.length ≤ 1099511627776) (nL : (cutB 32 line).headD [] ≠ LISTEN) (nF : (cutB 32 line).headD [] ≠ FILTER) (nC : (cutB 32 line).headD [] ≠ CLUSTER) (nV : (cutB 32 line).headD [] ≠ VHOST) (nR : (cutB 32 line).headD [] ≠ ROUTE) (hF : Few14 c) (w : World) (h : OCs w g c vf vc vv CL VL) :
    Calls Tryz.prog 72 #[.pointer (some ⟨g, 0, none⟩), .string (ofL line), .bool false] w (AddPost w g (lineP c line)) := by
  have HS := Lib.hid (line_no c line nF nC nV nR)
  have hRel : Rel line (cutB 32 line) := .inr ⟨cutB_ne _ _, rfl⟩
  obtain ⟨R, hRe⟩ : ∃ R, R = cutB 32 line := ⟨_, rfl⟩
  rw [← hRe] at hRel nL nF nC nV nR
  have A0 : Al w g w.heap.size c vf vc vv CL VL R false false (w.alloc (.cells #[.string (ofL line), .bool false, .bool false] WT)) := ⟨⟨⟨line, Has.new w _ _, hRel, hl⟩⟩, h.alloc _, (Below.refl _ _).alloc (Nat.le_of_lt h.box.lt) _, h.box.lt, Nat.le_refl _⟩
  have HN := Lib.hid ((pnext_any _ R false false _ A0.st).mono (fun e W' ⟨x1, _, x3, x4⟩ => And.intro x1 (Lib.hid (A0.words x3 x4))))
  unfold WT at HN
  have HRe := Lib.hid hRe
  have hgk : g ≠ w.heap.size := Nat.ne_of_lt h.box.lt
  have teL : ((ofL (R.headD [])).toList == [108, 105, 115, 116, 101, 110]) = false := (text_is _ _).trans (beq_false_of_ne nL)
  have teF : ((ofL (R.headD [])).toList == [102, 105, 108, 116, 101, 114]) = false := (text_is _ _).trans (beq_false_of_ne nF)
  have teC : ((ofL (R.headD [])).toList == [99, 108, 117, 115, 116, 101, 114]) = false := (text_is _ _).trans (beq_false_of_ne nC)
  have teV : ((ofL (R.headD [])).toList == [118, 104, 111, 115, 116]) = false := (text_is _ _).trans (beq_false_of_ne nV)
  have teR : ((ofL (R.headD [])).toList == [114, 111, 117, 116, 101]) = false := (text_is _ _).trans (beq_false_of_ne nR)
  generalize ofL (R.headD []) = Y at *
  clear hRe hRel hF A0 h nL nF nC nV nR hl
  go_enter Tryz.func72, Tryz.ntmps72
  go_wp2_with fail
  refine HN.out.mono ?_
  rintro e w1 ⟨rfl, A1⟩
  clear HN
  go_wp2_with fail
  go_ret
  exact add_no HS.out A1.out.below
set_option maxHeartbeats 6400000 in
theorem padd_listen (g : Nat) (c : Conf) (vf vc vv : Value) (CL : List (Clus × Value)) (VL : List (Vhos × Value)) (line : L) (hl : line.length ≤ 1099511627776) (hhd : (cutB 32 line).headD [] = LISTEN) (hc0 : c = zeroC) (hF : Few14 c) (w : World) (h : OCs w g c vf vc vv CL VL) :
    Calls Tryz.prog 72 #[.pointer (some ⟨g, 0, none⟩), .string (ofL line), .bool true] w (AddPost w g (firstP line)) := by
  have HS := Lib.hid (line_li line (cutB 32 line) rfl hhd)
  have hRel : Rel line (cutB 32 line) := .inr ⟨cutB_ne _ _, rfl⟩
  obtain ⟨R, hRe⟩ : ∃ R, R = cutB 32 line := ⟨_, rfl⟩
  rw [← hRe] at hRel hhd
  have A0 : Al w g w.heap.size c vf vc vv CL VL R false false (w.alloc (.cells #[.string (ofL line), .bool false, .bool false] WT)) := ⟨⟨⟨line, Has.new w _ _, hRel, hl⟩⟩, h.alloc _, (Below.refl _ _).alloc (Nat.le_of_lt h.box.lt) _, h.box.lt, Nat.le_refl _⟩
  have HN := Lib.hid ((pnext_any _ R false false _ A0.st).mono (fun e W' ⟨x1, _, x3, x4⟩ => And.intro x1 (Lib.hid (A0.words x3 x4))))
  unfold WT at HN
  have HRe := Lib.hid hRe
  have hgk : g ≠ w.heap.size := Nat.ne_of_lt h.box.lt
  have teL : ((ofL LISTEN).toList == [108, 105, 115, 116, 101, 110]) = true := (text_is _ _).trans (by decide)
  have teF : ((ofL LISTEN).toList == [102, 105, 108, 116, 101, 114]) = false := (text_is _ _).trans (by decide)
  have teC : ((ofL LISTEN).toList == [99, 108, 117, 115, 116, 101, 114]) = false := (text_is _ _).trans (by decide)
  have teV : ((ofL LISTEN).toList == [118, 104, 111, 115, 116]) = false := (text_is _ _).trans (by decide)
  have teR : ((ofL LISTEN).toList == [114, 111, 117, 116, 101]) = false := (text_is _ _).trans (by decide)
  rw [hhd] at HN
  rw [← hRe] at HS
  generalize ofL LISTEN = Y at *
  obtain ⟨x0, hx0⟩ : ∃ x, Hid (x = numW ((R.tail).headD [])) := ⟨_, Lib.hid rfl⟩
  obtain ⟨x1, hx1⟩ : ∃ x, Hid (x = numW ((R.tail.tail).headD [])) := ⟨_, Lib.hid rfl⟩
  obtain ⟨x2, hx2⟩ : ∃ x, Hid (x = numW ((R.tail.tail.tail).headD [])) := ⟨_, Lib.hid rfl⟩
  obtain ⟨x3, hx3⟩ : ∃ x, Hid (x = numW ((R.tail.tail.tail.tail).headD [])) := ⟨_, Lib.hid rfl⟩
  obtain ⟨x4, hx4⟩ : ∃ x, Hid (x = numW ((R.tail.tail.tail.tail.tail).headD [])) := ⟨_, Lib.hid rfl⟩
  obtain ⟨x5, hx5⟩ : ∃ x, Hid (x = numW ((R.tail.tail.tail.tail.tail.tail).headD [])) := ⟨_, Lib.hid rfl⟩
  have hE : Hid (confR R.tail = ⟨x0, x1, x2, x3, x4, x5, [], [], []⟩) := Lib.hid (by rw [hx0.out, hx1.out, hx2.out, hx3.out, hx4.out, hx5.out]; rfl)
  rw [hE.out] at HS
  subst hc0
  clear hRe hRel hF A0 h hhd hl
  go_enter Tryz.func72, Tryz.ntmps72
  go_wp2_with fail
  refine HN.out.mono ?_
  rintro e w1 ⟨rfl, B0⟩
  clear HN
  go_wp2_with fail
  refine (anum B0.out).mono ?_
  rintro e v1 ⟨he, B1⟩
  rw [← hx0.out] at he
  subst he
  clear B0
  go_wp2_with fail
  refine (anum B1.out).mono ?_
  rintro e v2 ⟨he, B2⟩
  rw [← hx1.out] at he
  subst he
  clear B1
  go_wp2_with fail
  refine (anum B2.out).mono ?_
  rintro e v3 ⟨he, B3⟩
  rw [← hx2.out] at he
  subst he
  clear B2
  go_wp2_with fail
  refine (anum B3.out).mono ?_
  rintro e v4 ⟨he, B4⟩
  rw [← hx3.out] at he
  subst he
  clear B3
  go_wp2_with fail
  refine (anum B4.out).mono ?_
  rintro e v5 ⟨he, B5⟩
  rw [← hx4.out] at he
  subst he
  clear B4
  go_wp2_with fail
  refine (anum B5.out).mono ?_
  rintro e v6 ⟨he, B6⟩
  rw [← hx5.out] at he
  subst he
  clear B5
  have c0 : v6.cell? ⟨g, 0, none⟩ = some (.int .i64 0) := B6.out.oc.box.cell 0
  have z0 := B6.out.oc.box.free 0
  have c1 : v6.cell? ⟨g, 1, none⟩ = some (.int .i64 0) := B6.out.oc.box.cell 1
  have z1 := B6.out.oc.box.free 1
  have c2 : v6.cell? ⟨g, 2, none⟩ = some (.int .i64 0) := B6.out.oc.box.cell 2
  have z2 := B6.out.oc.box.free 2
  have c3 : v6.cell? ⟨g, 3, none⟩ = some (.int .i64 0) := B6.out.oc.box.cell 3
  have z3 := B6.out.oc.box.free 3
  have c4 : v6.cell? ⟨g, 4, none⟩ = some (.int .i64 0) := B6.out.oc.box.cell 4
  have z4 := B6.out.oc.box.free 4
  have c5 : v6.cell? ⟨g, 5, none⟩ = some (.int .i64 0) := B6.out.oc.box.cell 5
  have z5 := B6.out.oc.box.free 5
  have hgk2 : w.heap.size ≠ g := Ne.symm hgk
  have O0 := B6.out.oc
  have O1 : OCs (v6.setCell ⟨g, 0, none⟩ (.int .i64 x0)) g ⟨x0, 0, 0, 0, 0, 0, [], [], []⟩ vf vc vv CL VL := O0.put 0 (.int .i64 x0) rfl rfl rfl rfl
  have O2 : OCs ((v6.setCell ⟨g, 0, none⟩ (.int .i64 x0)).setCell ⟨g, 1, none⟩ (.int .i64 x1)) g ⟨x0, x1, 0, 0, 0, 0, [], [], []⟩ vf vc vv CL VL := O1.put 1 (.int .i64 x1) rfl rfl rfl rfl
  have O3 : OCs (((v6.setCell ⟨g, 0, none⟩ (.int .i64 x0)).setCell ⟨g, 1, none⟩ (.int .i64 x1)).setCell ⟨g, 2, none⟩ (.int .i64 x2)) g ⟨x0, x1, x2, 0, 0, 0, [], [], []⟩ vf vc vv CL VL := O2.put 2 (.int .i64 x2) rfl rfl rfl rfl
  have O4 : OCs ((((v6.setCell ⟨g, 0, none⟩ (.int .i64 x0)).setCell ⟨g, 1, none⟩ (.int .i64 x1)).setCell ⟨g, 2, none⟩ (.int .i64 x2)).setCell ⟨g, 3, none⟩ (.int .i64 x3)) g ⟨x0, x1, x2, x3, 0, 0, [], [], []⟩ vf vc vv CL VL := O3.put 3 (.int .i64 x3) rfl rfl rfl rfl
  have O5 : OCs (((((v6.setCell ⟨g, 0, none⟩ (.int .i64 x0)).setCell ⟨g, 1, none⟩ (.int .i64 x1)).setCell ⟨g, 2, none⟩ (.int .i64 x2)).setCell ⟨g, 3, none⟩ (.int .i64 x3)).setCell ⟨g, 4, none⟩ (.int .i64 x4)) g ⟨x0, x1, x2, x3, x4, 0, [], [], []⟩ vf vc vv CL VL := O4.put 4 (.int .i64 x4) rfl rfl rfl rfl
  have O6 : OCs ((((((v6.setCell ⟨g, 0, none⟩ (.int .i64 x0)).setCell ⟨g, 1, none⟩ (.int .i64 x1)).setCell ⟨g, 2, none⟩ (.int .i64 x2)).setCell ⟨g, 3, none⟩ (.int .i64 x3)).setCell ⟨g, 4, none⟩ (.int .i64 x4)).setCell ⟨g, 5, none⟩ (.int .i64 x5)) g ⟨x0, x1, x2, x3, x4, x5, [], [], []⟩ vf vc vv CL VL := O5.put 5 (.int .i64 x5) rfl rfl rfl rfl
  have hgrow : v6.grownBy ((((((v6.setCell ⟨g, 0, none⟩ (.int .i64 x0)).setCell ⟨g, 1, none⟩ (.int .i64 x1)).setCell ⟨g, 2, none⟩ (.int .i64 x2)).setCell ⟨g, 3, none⟩ (.int .i64 x3)).setCell ⟨g, 4, none⟩ (.int .i64 x4)).setCell ⟨g, 5, none⟩ (.int .i64 x5)) (some g) := own_set (own_set (own_set (own_set (own_set (own_set (World.grownBy.refl v6 _) 0 _) 1 _) 2 _) 3 _) 4 _) 5 _
  have A4 : Al w g w.heap.size ⟨x0, x1, x2, x3, x4, x5, [], [], []⟩ vf vc vv CL VL (R.tail.drop 6) (!(R.tail.drop 6).isEmpty) (wrongF R.tail FL6) ((((((v6.setCell ⟨g, 0, none⟩ (.int .i64 x0)).setCell ⟨g, 1, none⟩ (.int .i64 x1)).setCell ⟨g, 2, none⟩ (.int .i64 x2)).setCell ⟨g, 3, none⟩ (.int .i64 x3)).setCell ⟨g, 4, none⟩ (.int .i64 x4)).setCell ⟨g, 5, none⟩ (.int .i64 x5)) := by
    have hs := B6.out.st.grown hgrow (by intro e; injection e with e; exact hgk2 e)
    rw [show R.tail.tail.tail.tail.tail.tail.tail = R.tail.drop 6 from by simp [← List.drop_one, List.drop_drop]] at hs
    have e2 : ((((((false || !okW 110 ((R.tail).headD [])) || !okW 110 ((R.tail.tail).headD [])) || !okW 110 ((R.tail.tail.tail).headD [])) || !okW 110 ((R.tail.tail.tail.tail).headD [])) || !okW 110 ((R.tail.tail.tail.tail.tail).headD [])) || !okW 110 ((R.tail.tail.tail.tail.tail.tail).headD [])) = wrongF R.tail FL6 := by
      unfold FL6
      simp only [wrongF, Bool.or_false, Bool.false_or, Bool.or_assoc]
    rw [e2] at hs
    exact ⟨hs, O6, below_far B6.out.below hgrow (Nat.le_refl _) (Nat.le_of_lt O0.box.lt), B6.out.lo, B6.out.hi⟩
  obtain ⟨lf, hlf⟩ : ∃ lf, Hid (lf = !(R.tail.drop 6).isEmpty) := ⟨_, Lib.hid rfl⟩
  obtain ⟨wg, hwg⟩ : ∃ wg, Hid (wg = wrongF R.tail FL6) := ⟨_, Lib.hid rfl⟩
  rw [← hlf.out, ← hwg.out] at A4
  rw [← hwg.out] at HS
  obtain ⟨d1, d2⟩ := A4.cells
  have A5 := Lib.hid (fun b hb => A4.fin (spec := firstP line) (b := b) hlf.out (by first | exact HS.out | (rw [HS.out]; simp)) hb)
  have f1 := B6.out.cells.1
  have f2 := B6.out.cells.2
  obtain ⟨q1, hq1⟩ : ∃ q, Hid (q = (!R.tail.tail.tail.tail.tail.tail.tail.isEmpty)) := ⟨_, Lib.hid rfl⟩
  clear A4 O0 O1 O2 O3 O4 O5 O6 hgrow B6 f1 f2
  cases wg <;> cases lf
  all_goals
    go_wp2_with fail
    go_ret
    exact A5.out _ rfl
theorem padd_any (g : Nat) (c : Conf) (line : L) (hl : line.length ≤ 1099511627776) (first : Bool) (hf : first = true → c = zeroC) (hF : Few14 c) (w : World) (h : OC w g c) :
    Calls Tryz.prog 72 #[.pointer (some ⟨g, 0, none⟩), .string (ofL line), .bool first] w (AddPost w g (if first then firstP line else lineP c line)) := by
  obtain ⟨vf, vc, vv, CL, VL, h⟩ := h
  cases first with
  | true =>
    by_cases hL : (cutB 32 line).headD [] = LISTEN
    · exact padd_listen g c vf vc vv CL VL line hl hL (hf rfl) hF w h
    · exact padd_first_no g c vf vc vv CL VL line hl hL hF w h
  | false =>
    by_cases hL : (cutB 32 line).headD [] = LISTEN
    · exact padd_listen_no g c vf vc vv CL VL line hl hL hF w h
    by_cases hFi : (cutB 32 line).headD [] = FILTER
    · exact padd_filter g c vf vc vv CL VL line hl hFi hF w h
    by_cases hC : (cutB 32 line).headD [] = CLUSTER
    · exact padd_cluster g c vf vc vv CL VL line hl hC hF w h
    by_cases hV : (cutB 32 line).headD [] = VHOST
    · exact padd_vhost g c vf vc vv CL VL line hl hV hF w h
    by_cases hR : (cutB 32 line).headD [] = ROUTE
    · rcases List.eq_nil_or_concat VL with h0 | ⟨V0, ⟨v, hr⟩, h0⟩
      · exact padd_route0 g c vf vc vv CL VL line hl hR h0 hF w h
      · exact padd_route g c vf vc vv CL VL line hl hR V0 v hr (by rw [h0, List.concat_eq_append]) hF w h
    · exact padd_none g c vf vc vv CL VL line hl hL hFi hC hV hR hF w h
end Go.Proofs.YtfihehobkbfmiaaGreatDoor.PCfgL

/- A boxed struct that a call holds, whatever its type. No program is named. -/
namespace Go.Proofs.YtfihehobkbfmiaaGreatDoor.PCfgBox
open Go.RowKit Mem
structure Ob (w : World) (g : Nat) (T : TypeId) (cs : Array Value) (W : World) : Prop where
  box : Has W g T cs
  below : Below g w W
theorem Ob.call {w W W' : World} {g : Nat} {T : TypeId} {cs : Array Value} (x : Ob w g T cs W) (hb : Below W.heap.size W W') : Ob w g T cs W' :=
  ⟨x.box.below hb x.box.lt, ⟨hb.os.trans x.below.os, hb.tape.trans x.below.tape, hb.output.trans x.below.output, Nat.le_trans x.below.size hb.size, fun i hi => (hb.block i (Nat.lt_trans hi x.box.lt)).trans (x.below.block i hi)⟩⟩
theorem Ob.start (w : World) (T : TypeId) (cs : Array Value) : Ob w w.heap.size T cs (w.alloc (.cells cs T)) := ⟨Has.new w _ _, (Below.refl _ _).alloc (Nat.le_refl _) _⟩
theorem Ob.drew {w W : World} {g : Nat} {T : TypeId} {cs : Array Value} (x : Ob w g T cs W) : Ob w g T cs W.drew := ⟨x.box.drew, ⟨x.below.os, x.below.tape, x.below.output, x.below.size, x.below.block⟩⟩
theorem Ob.drewN {w W : World} {g : Nat} {T : TypeId} {cs : Array Value} (x : Ob w g T cs W) (n : Nat) : Ob w g T cs (W.drewN n) := ⟨x.box.drewN n, ⟨x.below.os, x.below.tape, x.below.output, x.below.size, x.below.block⟩⟩
/-- all that lies in the world in which the call began is still there -/
theorem Ob.kept {w W : World} {g : Nat} {T : TypeId} {cs : Array Value} (x : Ob w g T cs W) (h : g = w.heap.size) : Below w.heap.size w W := h ▸ x.below
theorem Ob.ret {w W : World} {g : Nat} {T : TypeId} {cs : Array Value} (x : Ob w g T cs W) (h : g = w.heap.size) : Below w.heap.size w W := h ▸ x.below
end Go.Proofs.YtfihehobkbfmiaaGreatDoor.PCfgBox

/- Layer 4, the document's own Marks. -/
namespace Go.Proofs.YtfihehobkbfmiaaGreatDoor.RMarks
open Go.ChangeShapes Go.WideShapes Go.ChangeAt Go.RowKit LexPure Bytes Ret
set_option maxRecDepth 20000
theorem rmarks_any (c : UInt8) (w : World) :
    Calls Tryz.prog 99 #[.int .u8 (c.toNat : Int)] w fun e w' => e = .returned (.bool (markB c)) ∧ w = w' := by
  unfold markB
  generalize (c.toNat : Int) = c
  go_enter Tryz.func99, Tryz.ntmps99
  go_wp2_with fail
  all_goals
    go_ret
    refine ⟨ret_bool ?_, rfl⟩
    try simp only [beq_eq_false_iff_ne, beq_iff_eq, ne_eq] at *
    first
      | exact Eq.symm (decide_eq_true (p := MarkP _) (by unfold MarkP; omega))
      | exact Eq.symm (decide_eq_false (p := MarkP _) (by unfold MarkP; omega))
end Go.Proofs.YtfihehobkbfmiaaGreatDoor.RMarks

/- Layer 4, the document's own Token. -/
namespace Go.Proofs.YtfihehobkbfmiaaGreatDoor.RToken
open Go.ChangeShapes Go.WideShapes Go.ChangeAt Go.RowKit LexPure Bytes Ret RMarks
set_option maxRecDepth 20000
theorem rtoken_any (s : ByteArray) (hs : s.size ≤ maxLen) (w : World) :
    Calls Tryz.prog 63 #[.string s] w fun e w' => e = .returned (.bool (token (toL s))) ∧ w = w' := by
  unfold maxLen at hs
  go_enter Tryz.func63, Tryz.ntmps63
  go_wp2_with fail
  go_loop [3] (fun i => ∃ k : Nat, k ≤ s.size ∧ i = .int .i64 k ∧ Hid (((toL s).take k).all markB = true)) (fun i => s.size - (intOf i).toNat)
  case atStart => exact ⟨0, Nat.zero_le _, rfl, Lib.hid rfl⟩
  case round =>
    obtain ⟨k, hk, rfl, ha⟩ := hrel
    by_cases hlt : k < s.size
    · have hki : (k : Int) < (s.size : Int) := by omega
      have HT := Lib.hid (toL_take_succ s k hlt)
      have HG := Lib.hid (toL_get s k hlt)
      by_cases hm : markB s[k] = true
      · have HA : Hid (((toL s).take (k + 1)).all markB = true) := Lib.hid (by rw [HT.out, List.all_append, ha.out]; simp [hm])
        have HM := Lib.hid hm
        clear hm
        go_wp2_with fail
        refine (rmarks_any _ _).mono ?_
        rintro e w' ⟨rfl, rfl⟩
        rw [HM.out]
        go_wp2_with fail
        go_round
        case rel => exact ⟨k + 1, by omega, by go_num, HA⟩
        case measure => simp [intOf]; omega
      · have hm : markB s[k] = false := by simpa using hm
        have HV : Hid (token (toL s) = false) := Lib.hid (by
          unfold token
          rw [Bool.and_eq_false_iff]
          left
          rw [List.all_eq_false]
          exact ⟨s[k], List.mem_of_getElem? HG.out, by simp [hm]⟩)
        have HM := Lib.hid hm
        clear hm
        go_wp2_with fail
        refine (rmarks_any _ _).mono ?_
        rintro e w' ⟨rfl, rfl⟩
        rw [HM.out]
        go_wp2_with fail
        go_ret
        exact ⟨ret_bool HV.out.symm, rfl⟩
    · have ha' : (toL s).all markB = true := by
        have := ha.out
        rwa [toL_take_all s (by omega)] at this
      have HV : Hid (token (toL s) = decide (0 < s.size)) := Lib.hid (by
        unfold token
        rw [ha']
        have := toL_length s
        cases h : toL s with
        | nil => rw [h] at this; simp at this; simp [← this]
        | cons c r => rw [h] at this; simp at this; simp; omega)
      clear ha'
      go_wp2_with fail
      go_ret
      exact ⟨ret_bool HV.out.symm, rfl⟩
end Go.Proofs.YtfihehobkbfmiaaGreatDoor.RToken

/- Layer 4, the document's own Blank. -/
namespace Go.Proofs.YtfihehobkbfmiaaGreatDoor.RBlank
open Go.ChangeShapes Go.WideShapes Go.ChangeAt Go.RowKit LexPure Bytes Ret
set_option maxRecDepth 20000
theorem rblank_any (c : UInt8) (w : World) :
    Calls Tryz.prog 125 #[.int .u8 (c.toNat : Int)] w fun e w' => e = .returned (.bool (blankB c)) ∧ w = w' := by
  rw [← blank_eq]
  generalize (c.toNat : Int) = c
  go_enter Tryz.func125, Tryz.ntmps125
  go_wp2_with fail
  all_goals
    go_ret
    refine ⟨ret_bool ?_, rfl⟩
    first
      | exact Eq.symm (decide_eq_true (by omega))
      | exact Eq.symm (decide_eq_false (by omega))
      | (rw [Bool.decide_or]; rfl)
end Go.Proofs.YtfihehobkbfmiaaGreatDoor.RBlank

/- Layer 4, the document's own Value. -/
namespace Go.Proofs.YtfihehobkbfmiaaGreatDoor.RValue
open Go.ChangeShapes Go.WideShapes Go.ChangeAt Go.RowKit LexPure Bytes Ret RBlank
set_option maxRecDepth 20000
theorem plain_true {b : UInt8} (h : plainB b = true) : ((b.toNat : Int) == 127) = false ∧ (¬ (b.toNat : Int) < 32 ∨ ((b.toNat : Int) < 32 ∧ ((b.toNat : Int) != 9) = false)) := by
  have := all_bytes (p := fun b => !plainB b || decide (((b.toNat : Int) == 127) = false ∧ (¬ (b.toNat : Int) < 32 ∨ ((b.toNat : Int) < 32 ∧ ((b.toNat : Int) != 9) = false)))) (by decide +kernel) b
  simpa only [h, Bool.not_true, Bool.false_or, decide_eq_true_eq] using this
theorem plain_false {b : UInt8} (h : plainB b = false) : ((b.toNat : Int) == 127) = true ∨ (((b.toNat : Int) == 127) = false ∧ (b.toNat : Int) < 32 ∧ ((b.toNat : Int) != 9) = true) := by
  have := all_bytes (p := fun b => plainB b || decide (((b.toNat : Int) == 127) = true ∨ (((b.toNat : Int) == 127) = false ∧ (b.toNat : Int) < 32 ∧ ((b.toNat : Int) != 9) = true))) (by decide +kernel) b
  simpa only [h, Bool.false_or, decide_eq_true_eq] using this
theorem head_at (s : ByteArray) (h : 0 < s.size) : (toL s).headD 0 = s[0] := by
  have := toL_get s 0 h
  cases hl : toL s with
  | nil => rw [hl] at this; cases this
  | cons c r => rw [hl] at this; simpa using this
theorem last_of (s : ByteArray) (j : Nat) (h : s.size = j + 1) : (toL s).getLastD 0 = s[j] := by
  have := toL_get s j (by omega)
  rw [List.getLastD_eq_getLast?, List.getLast?_eq_getElem?, toL_length, show s.size - 1 = j by omega, this]
  rfl
theorem rvalue_any (s : ByteArray) (hs : s.size ≤ maxLen) (w : World) :
    Calls Tryz.prog 98 #[.string s] w fun e w' => e = .returned (.bool (value (toL s))) ∧ w = w' := by
  unfold maxLen at hs
  go_enter Tryz.func98, Tryz.ntmps98
  go_wp2_with fail
  go_loop [3] (fun i => ∃ k : Nat, k ≤ s.size ∧ i = .int .i64 k ∧ Hid (((toL s).take k).all plainB = true)) (fun i => s.size - (intOf i).toNat)
  case atStart => exact ⟨0, Nat.zero_le _, rfl, Lib.hid rfl⟩
  case round =>
    obtain ⟨k, hk, rfl, ha⟩ := hrel
    by_cases hlt : k < s.size
    · have hki : (k : Int) < (s.size : Int) := by omega
      have HT := Lib.hid (toL_take_succ s k hlt)
      have HG := Lib.hid (toL_get s k hlt)
      by_cases hm : plainB s[k] = true
      · have HA : Hid (((toL s).take (k + 1)).all plainB = true) := Lib.hid (by rw [HT.out, List.all_append, ha.out]; simp [hm])
        have hp := plain_true hm
        clear HT HG ha hm
        obtain ⟨h1, hp⟩ := hp
        rcases hp with h2 | ⟨h2, h3⟩
        all_goals
          go_wp2_with fail
          go_round
          case rel => exact ⟨k + 1, by omega, by go_num, HA⟩
          case measure => simp [intOf]; omega
      · have hm : plainB s[k] = false := by simpa using hm
        have HV : Hid (value (toL s) = false) := Lib.hid (by
          unfold value
          rw [Bool.and_eq_false_iff]
          left
          rw [List.all_eq_false]
          exact ⟨s[k], List.mem_of_getElem? HG.out, by simp [hm]⟩)
        have hp := plain_false hm
        clear HT HG ha hm
        rcases hp with h1 | ⟨h1, h2, h3⟩
        all_goals
          go_wp2_with fail
          go_ret
          exact ⟨ret_bool HV.out.symm, rfl⟩
    · have ha' : (toL s).all plainB = true := by
        have := ha.out
        rwa [toL_take_all s (by omega)] at this
      have hki : ¬ (k : Int) < (s.size : Int) := by omega
      by_cases h0 : s.size = 0
      · have HV : Hid (value (toL s) = true) := Lib.hid (by
          unfold value
          rw [ha', List.isEmpty_iff.2 (List.length_eq_zero_iff.1 (by rw [toL_length]; exact h0))]
          rfl)
        have hq : ((s.size : Int) == 0) = true := by rw [h0]; rfl
        clear ha' ha
        go_wp2_with fail
        go_ret
        exact ⟨ret_bool HV.out.symm, rfl⟩
      · obtain ⟨j, hj⟩ : ∃ j, s.size = j + 1 := ⟨s.size - 1, by omega⟩
        have hV : value (toL s) = (!blankB (s[0]'(by omega)) && !blankB (s[j]'(by omega))) := by
          unfold value
          rw [ha', head_at s (by omega), last_of s j hj]
          have : (toL s).isEmpty = false := by
            cases hl : toL s with
            | nil => have := toL_length s; rw [hl] at this; simp at this; omega
            | cons => rfl
          rw [this]
          simp
        have HV := Lib.hid hV
        have HJ := Lib.hid hj
        have hq : ((s.size : Int) == 0) = false := by
          rw [beq_eq_false_iff_ne]
          omega
        clear ha' ha hV
        have p0 : 0 < s.size := by omega
        by_cases hb0 : blankB (s[0]'p0) = true
        · have HB := Lib.hid hb0
          have HV2 : Hid (value (toL s) = false) := Lib.hid (by rw [HV.out, hb0]; rfl)
          clear hb0
          go_wp2_with fail
          refine (rblank_any _ _).mono ?_
          rintro e w' ⟨rfl, rfl⟩
          rw [HB.out]
          go_wp2_with fail
          go_ret
          exact ⟨ret_bool HV2.out.symm, rfl⟩
        · have hb0 : blankB (s[0]'p0) = false := by simpa using hb0
          have HB := Lib.hid hb0
          have HV2 : Hid (value (toL s) = !blankB (s[j]'(by omega))) := Lib.hid (by rw [HV.out, hb0]; rfl)
          clear hb0
          go_wp2_with fail
          refine (rblank_any _ _).mono ?_
          rintro e w' ⟨rfl, rfl⟩
          rw [HB.out]
          go_wp2_with fail
          refine (rblank_any _ _).mono ?_
          rintro e w' ⟨rfl, rfl⟩
          generalize blankB (s[j]'(by omega)) = bb at *
          go_wp2_with fail
          go_ret
          exact ⟨ret_bool HV2.out.symm, rfl⟩
end Go.Proofs.YtfihehobkbfmiaaGreatDoor.RValue
