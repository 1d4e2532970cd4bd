/- Texts of this seat, one behind another: ConfMark, ConfigMemoryW. -/
import Derived.Deep.MidRow
import Derived.Lib.Hide
import Derived.Test.YtfihehobkbfmiaaGreatDoorA3
import Derived.Test.YtfihehobkbfmiaaGreatDoorB
import Derived.Test.YtfihehobkbfmiaaGreatDoorA11
import Derived.Test.YtfihehobkbfmiaaGreatDoorA12
import Derived.Test.YtfihehobkbfmiaaGreatDoorS
import Derived.Test.YtfihehobkbfmiaaGreatDoorC
/- Layer 14: a config of a call's own whose lists are written over, and what stays beside it. No function is named. -/
namespace Go.Proofs.YtfihehobkbfmiaaGreatDoor.ConfMark
open Go.ChangeShapes Go.WideShapes Go.ChangeAt Go.RowKit Bytes LexPure ConfPure ConfMem ConfAt RowsArg Mem RowKeep ConfOwn
set_option maxRecDepth 20000
set_option linter.unusedVariables false
def Lt (v : Value) (hi : Nat) : Prop := ∀ k, v.ownBlock = some k → k < hi
theorem row_many {w : World} {base n size cap g : Nat} {e : TypeId} {xs : List Value} (h : w.ownsRow base e size (.slice (some ⟨g, 0, none⟩) n cap) n xs) : ∀ (vs : List Value) (o : Nat), ∃ xs', (w.setCells g o vs).ownsRow base e size (.slice (some ⟨g, 0, none⟩) n cap) n xs' ∧ w.grownBy (w.setCells g o vs) (some g) ∧ ∀ j, (j < o ∨ o + vs.length ≤ j) → xs'[j]? = xs[j]? := by
  intro vs
  induction vs generalizing w xs with
  | nil => exact fun o => ⟨xs, h, ⟨rfl, rfl, rfl, Nat.le_refl _, fun _ _ _ => rfl⟩, fun _ _ => rfl⟩
  | cons v r ih =>
    intro o
    obtain ⟨h1, g1⟩ := h.stored o v
    obtain ⟨xs', h2, g2, h3⟩ := ih h1 (o + 1)
    refine ⟨xs', h2, own_trans g1 g2, fun j hj => ?_⟩
    rw [List.length_cons] at hj
    rw [h3 j (by omega), List.getElem?_set_ne (by omega)]
theorem row_there {w : World} {base n size cap g : Nat} {e : TypeId} {xs : List Value} (h : w.ownsRow base e size (.slice (some ⟨g, 0, none⟩) n cap) n xs) (o m : Nat) (hm : o + m ≤ n * size) : w.there g o m := by
  intro j hj
  refine ⟨?_, h.frozenAt _⟩
  rw [h.cellAt _ (by omega)]
  have : o + j < xs.length := by rw [h.1]; omega
  rw [List.getElem?_eq_getElem this]
  rfl
/-- what is known of lists of one's own that are written over: the clusters from kc on and the vhosts from kv on still have their own lists -/
structure AM (W : World) (b hi : Nat) (vf vc vv : Value) (nf nc nv : Nat) (H R : Nat → Value) (kc kv : Nat) : Prop where
  rf : ∃ xs, W.ownsRow b FT 6 vf nf xs
  lf : Lt vf hi
  rc : ∃ xs, W.ownsRow b KT 9 vc nc xs ∧ ∀ i, kc ≤ i → i < nc → xs[i * 9 + 2]? = some (H i)
  lc : Lt vc hi
  hc : ∀ i, kc ≤ i → i < nc → (∃ n xs, W.ownsRow b ST 1 (H i) n xs) ∧ Lt (H i) hi
  rv : ∃ xs, W.ownsRow b VT 2 vv nv xs ∧ ∀ i, kv ≤ i → i < nv → xs[i * 2 + 1]? = some (R i)
  lv : Lt vv hi
  hv : ∀ i, kv ≤ i → i < nv → (∃ n xs, n ≤ 32 ∧ W.ownsRow b RT 13 (R i) n xs) ∧ Lt (R i) hi
  ah : ∀ i j, i < nc → j < nc → i ≠ j → Apart (H i) (H j)
  ar : ∀ i j, i < nv → j < nv → i ≠ j → Apart (R i) (R j)
section
variable {W W' : World} {b hi : Nat} {vf vc vv : Value} {nf nc nv : Nat} {H R : Nat → Value} {kc kv : Nat}
theorem AM.below (h : AM W b hi vf vc vv nf nc nv H R kc kv) (hb : Below W.heap.size W W') : AM W' b hi vf vc vv nf nc nv H R kc kv := by
  obtain ⟨xf, h1⟩ := h.rf
  obtain ⟨xc, h2, h3⟩ := h.rc
  obtain ⟨xv, h4, h5⟩ := h.rv
  exact ⟨⟨xf, row_below h1 hb⟩, h.lf, ⟨xc, row_below h2 hb, h3⟩, h.lc, fun i p q => by obtain ⟨⟨n, xs, h6⟩, h7⟩ := h.hc i p q; exact ⟨⟨n, xs, row_below h6 hb⟩, h7⟩, ⟨xv, row_below h4 hb, h5⟩, h.lv, fun i p q => by obtain ⟨⟨n, xs, h6, h7⟩, h8⟩ := h.hv i p q; exact ⟨⟨n, xs, h6, row_below h7 hb⟩, h8⟩, h.ah, h.ar⟩
/-- a filter is written over -/
theorem AM.setF {gf cap : Nat} (h : AM W b hi (.slice (some ⟨gf, 0, none⟩) nf cap) vc vv nf nc nv H R kc kv) (o : Nat) (vs : List Value) : AM (W.setCells gf o vs) b hi (.slice (some ⟨gf, 0, none⟩) nf cap) vc vv nf nc nv H R kc kv ∧ W.grownBy (W.setCells gf o vs) (some gf) := by
  obtain ⟨xf, h1⟩ := h.rf
  obtain ⟨xc, h2, h3⟩ := h.rc
  obtain ⟨xv, h4, h5⟩ := h.rv
  obtain ⟨xs', r1, hg, _⟩ := row_many h1 vs o
  have hgr : W.grownBy (W.setCells gf o vs) (Value.slice (some ⟨gf, 0, none⟩) nf cap).ownBlock := hg
  exact ⟨⟨⟨xs', r1⟩, h.lf, ⟨xc, row_kept h2 hgr (row_apart h2 h1 (by decide)), h3⟩, h.lc, fun i p q => by obtain ⟨⟨n, xs, h6⟩, h7⟩ := h.hc i p q; exact ⟨⟨n, xs, row_kept h6 hgr (row_apart h6 h1 (by decide))⟩, h7⟩, ⟨xv, row_kept h4 hgr (row_apart h4 h1 (by decide)), h5⟩, h.lv, fun i p q => by obtain ⟨⟨n, xs, h6, h7⟩, h8⟩ := h.hv i p q; exact ⟨⟨n, xs, h6, row_kept h7 hgr (row_apart h7 h1 (by decide))⟩, h8⟩, h.ah, h.ar⟩, hg⟩
/-- a host of the i-th cluster is written over -/
theorem AM.setH (h : AM W b hi vf vc vv nf nc nv H R kc kv) {i gh n cap : Nat} (h0 : kc ≤ i) (h9 : i < nc) (hH : H i = .slice (some ⟨gh, 0, none⟩) n cap) (j : Nat) (u : Value) : AM (W.setCell ⟨gh, j, none⟩ u) b hi vf vc vv nf nc nv H R kc kv ∧ W.grownBy (W.setCell ⟨gh, j, none⟩ u) (some gh) := by
  obtain ⟨xf, h1⟩ := h.rf
  obtain ⟨xc, h2, h3⟩ := h.rc
  obtain ⟨xv, h4, h5⟩ := h.rv
  obtain ⟨⟨n2, xs, hr⟩, hl⟩ := h.hc i h0 h9
  have hn : n2 = n := by
    obtain ⟨p, c2, e, _⟩ := row_form hr
    rw [hH] at e
    injection e with _ e _
    exact e.symm
  subst hn
  have hr2 := hr
  rw [hH] at hr2
  obtain ⟨r1, hg⟩ := hr2.stored j u
  have hgr : W.grownBy (W.setCell ⟨gh, j, none⟩ u) (H i).ownBlock := by rw [hH]; exact hg
  refine ⟨⟨⟨xf, row_kept h1 hgr (row_apart h1 hr (by decide))⟩, h.lf, ⟨xc, row_kept h2 hgr (row_apart h2 hr (by decide)), h3⟩, h.lc, fun k p q => ?_, ⟨xv, row_kept h4 hgr (row_apart h4 hr (by decide)), h5⟩, h.lv, fun k p q => by obtain ⟨⟨n, xs, h6, h7⟩, h8⟩ := h.hv k p q; exact ⟨⟨n, xs, h6, row_kept h7 hgr (row_apart h7 hr (by decide))⟩, h8⟩, h.ah, h.ar⟩, hg⟩
  by_cases e : k = i
  · subst e
    exact ⟨⟨_, _, by rw [hH]; exact r1⟩, hl⟩
  · obtain ⟨⟨n3, xs3, h6⟩, h7⟩ := h.hc k p q
    exact ⟨⟨n3, xs3, row_kept h6 hgr (h.ah k i q h9 e)⟩, h7⟩
/-- the kc-th cluster is written over -/
theorem AM.setC {gc cap : Nat} (h : AM W b hi vf (.slice (some ⟨gc, 0, none⟩) nc cap) vv nf nc nv H R kc kv) (vs : List Value) (hl : vs.length = 9) : AM (W.setCells gc (kc * 9) vs) b hi vf (.slice (some ⟨gc, 0, none⟩) nc cap) vv nf nc nv H R (kc + 1) kv ∧ W.grownBy (W.setCells gc (kc * 9) vs) (some gc) := by
  obtain ⟨xf, h1⟩ := h.rf
  obtain ⟨xc, h2, h3⟩ := h.rc
  obtain ⟨xv, h4, h5⟩ := h.rv
  obtain ⟨xs', r1, hg, hx⟩ := row_many h2 vs (kc * 9)
  have hgr : W.grownBy (W.setCells gc (kc * 9) vs) (Value.slice (some ⟨gc, 0, none⟩) nc cap).ownBlock := hg
  refine ⟨⟨⟨xf, row_kept h1 hgr (row_apart h1 h2 (by decide))⟩, h.lf, ⟨xs', r1, fun i p q => ?_⟩, h.lc, fun i p q => by obtain ⟨⟨n, xs, h6⟩, h7⟩ := h.hc i (by omega) q; exact ⟨⟨n, xs, row_kept h6 hgr (row_apart h6 h2 (by decide))⟩, h7⟩, ⟨xv, row_kept h4 hgr (row_apart h4 h2 (by decide)), h5⟩, h.lv, fun i p q => by obtain ⟨⟨n, xs, h6, h7⟩, h8⟩ := h.hv i p q; exact ⟨⟨n, xs, h6, row_kept h7 hgr (row_apart h7 h2 (by decide))⟩, h8⟩, h.ah, h.ar⟩, hg⟩
  rw [hx _ (by omega)]
  exact h3 i (by omega) q
/-- a route of the i-th vhost is written over -/
theorem AM.setR (h : AM W b hi vf vc vv nf nc nv H R kc kv) {i gr n cap : Nat} (h0 : kv ≤ i) (h9 : i < nv) (hR : R i = .slice (some ⟨gr, 0, none⟩) n cap) (o : Nat) (vs : List Value) : AM (W.setCells gr o vs) b hi vf vc vv nf nc nv H R kc kv ∧ W.grownBy (W.setCells gr o vs) (some gr) := by
  obtain ⟨xf, h1⟩ := h.rf
  obtain ⟨xc, h2, h3⟩ := h.rc
  obtain ⟨xv, h4, h5⟩ := h.rv
  obtain ⟨⟨n2, xs, hn32, hr⟩, hl⟩ := h.hv i h0 h9
  have hn : n2 = n := by
    obtain ⟨p, c2, e, _⟩ := row_form hr
    rw [hR] at e
    injection e with _ e _
    exact e.symm
  subst hn
  have hr2 := hr
  rw [hR] at hr2
  obtain ⟨xs', r1, hg, _⟩ := row_many hr2 vs o
  have hgr : W.grownBy (W.setCells gr o vs) (R i).ownBlock := by rw [hR]; exact hg
  refine ⟨⟨⟨xf, row_kept h1 hgr (row_apart h1 hr (by decide))⟩, h.lf, ⟨xc, row_kept h2 hgr (row_apart h2 hr (by decide)), h3⟩, h.lc, fun k p q => by obtain ⟨⟨n, xs, h6⟩, h7⟩ := h.hc k p q; exact ⟨⟨n, xs, row_kept h6 hgr (row_apart h6 hr (by decide))⟩, h7⟩, ⟨xv, row_kept h4 hgr (row_apart h4 hr (by decide)), h5⟩, h.lv, fun k p q => ?_, h.ah, h.ar⟩, hg⟩
  by_cases e : k = i
  · subst e
    exact ⟨⟨_, _, hn32, by rw [hR]; exact r1⟩, hl⟩
  · obtain ⟨⟨n3, xs3, h5, h6⟩, h7⟩ := h.hv k p q
    exact ⟨⟨n3, xs3, h5, row_kept h6 hgr (h.ar k i q h9 e)⟩, h7⟩
/-- the list of the kv-th vhost's routes has grown -/
theorem AM.drop (h : AM W b hi vf vc vv nf nc nv H R kc kv) (h9 : kv < nv) (hg : W.grownBy W' (R kv).ownBlock) : AM W' b hi vf vc vv nf nc nv H R kc (kv + 1) := by
  obtain ⟨xf, h1⟩ := h.rf
  obtain ⟨xc, h2, h3⟩ := h.rc
  obtain ⟨xv, h4, h5⟩ := h.rv
  obtain ⟨⟨n2, xs, hn32, hr⟩, hl⟩ := h.hv kv (Nat.le_refl _) h9
  refine ⟨⟨xf, row_kept h1 hg (row_apart h1 hr (by decide))⟩, h.lf, ⟨xc, row_kept h2 hg (row_apart h2 hr (by decide)), h3⟩, h.lc, fun k p q => by obtain ⟨⟨n, xs, h6⟩, h7⟩ := h.hc k p q; exact ⟨⟨n, xs, row_kept h6 hg (row_apart h6 hr (by decide))⟩, h7⟩, ⟨xv, row_kept h4 hg (row_apart h4 hr (by decide)), fun i p q => h5 i (by omega) q⟩, h.lv, fun k p q => ?_, h.ah, h.ar⟩
  obtain ⟨⟨n3, xs3, h5, h6⟩, h7⟩ := h.hv k (by omega) q
  exact ⟨⟨n3, xs3, h5, row_kept h6 hg (h.ar k kv q h9 (by omega))⟩, h7⟩
/-- and is put into its vhost -/
theorem AM.setV {gv cap : Nat} (h : AM W b hi vf vc (.slice (some ⟨gv, 0, none⟩) nv cap) nf nc nv H R kc (kv + 1)) (u : Value) : AM (W.setCell ⟨gv, kv * 2 + 1, none⟩ u) b hi vf vc (.slice (some ⟨gv, 0, none⟩) nv cap) nf nc nv H R kc (kv + 1) ∧ W.grownBy (W.setCell ⟨gv, kv * 2 + 1, none⟩ u) (some gv) := by
  obtain ⟨xf, h1⟩ := h.rf
  obtain ⟨xc, h2, h3⟩ := h.rc
  obtain ⟨xv, h4, h5⟩ := h.rv
  obtain ⟨r1, hg⟩ := h4.stored (kv * 2 + 1) u
  have hgr : W.grownBy (W.setCell ⟨gv, kv * 2 + 1, none⟩ u) (Value.slice (some ⟨gv, 0, none⟩) nv cap).ownBlock := hg
  refine ⟨⟨⟨xf, row_kept h1 hgr (row_apart h1 h4 (by decide))⟩, h.lf, ⟨xc, row_kept h2 hgr (row_apart h2 h4 (by decide)), h3⟩, h.lc, fun i p q => by obtain ⟨⟨n, xs, h6⟩, h7⟩ := h.hc i p q; exact ⟨⟨n, xs, row_kept h6 hgr (row_apart h6 h4 (by decide))⟩, h7⟩, ⟨_, r1, fun i p q => ?_⟩, h.lv, fun i p q => by obtain ⟨⟨n, xs, h6, h7⟩, h8⟩ := h.hv i p q; exact ⟨⟨n, xs, h6, row_kept h7 hgr (row_apart h7 h4 (by decide))⟩, h8⟩, h.ah, h.ar⟩, hg⟩
  rw [List.getElem?_set_ne (by omega)]
  exact h5 i p q
end
theorem flat_get {α : Type} (f : α → List Value) (k : Nat) (hk : ∀ a, (f a).length = k) (l : List α) (i j : Nat) (hi : i < l.length) (hj : j < k) {u : Value} (hu : (f l[i])[j]? = some u) : (l.flatMap f)[i * k + j]? = some u := by
  rw [ConfCF.flat_at f k hk l i j hi hj]
  rw [List.getD, hu]
  rfl
theorem pair_apart {α : Type} {P : α → α → Prop} (hs : ∀ a b, P a b → P b a) {l : List α} (h : l.Pairwise P) {i j : Nat} (hi : i < l.length) (hj : j < l.length) (hij : i ≠ j) : P l[i] l[j] := by
  rw [List.pairwise_iff_getElem] at h
  rcases Nat.lt_or_ge i j with q | q
  · exact h i j hi hj q
  · exact hs _ _ (h j i hj hi (by omega))
theorem Apart.symm {v u : Value} (h : Apart v u) : Apart u v := fun k h1 h2 => h k h2 h1
/-- what Parse answers -/
theorem AM.start {w : World} {g : Nat} {c : Conf} {vf vc vv : Value} {CL : List (Clus × Value)} {VL : List (Vhos × Value)} (O : OCs w g c vf vc vv CL VL) (hr : ∀ v ∈ c.vhosts, v.routes.length ≤ 32) :
    AM w g w.heap.size vf vc vv c.filters.length c.clusters.length c.vhosts.length (fun i => (CL.getD i (zClus, undef)).2) (fun i => (VL.getD i (zVhos, undef)).2) 0 0 := by
  have lc : c.clusters.length = CL.length := by rw [O.ec, List.length_map]
  have lv : c.vhosts.length = VL.length := by rw [O.ev, List.length_map]
  have gc : ∀ i (hi : i < CL.length), CL.getD i (zClus, undef) = CL[i] := fun i hi => by simp [List.getD, List.getElem?_eq_getElem hi]
  have gv : ∀ i (hi : i < VL.length), VL.getD i (zVhos, undef) = VL[i] := fun i hi => by simp [List.getD, List.getElem?_eq_getElem hi]
  rw [lc, lv]
  refine ⟨⟨_, O.rf⟩, fun k hk => (O.rf.lt k hk).2, ⟨_, O.rc, fun i _ q => ?_⟩, fun k hk => (O.rc.lt k hk).2, fun i _ q => ?_, ⟨_, O.rv, fun i _ q => ?_⟩, fun k hk => (O.rv.lt k hk).2, fun i _ q => ?_, fun i j hi hj hij => ?_, fun i j hi hj hij => ?_⟩
  · rw [gc i q]
    exact flat_get (fun p : Clus × Value => clusV p.1 p.2) 9 (fun _ => rfl) CL i 2 q (by decide) rfl
  · rw [gc i q]
    have := O.hc _ (List.getElem_mem q)
    exact ⟨⟨_, _, this⟩, fun k hk => (this.lt k hk).2⟩
  · rw [gv i q]
    exact flat_get (fun p : Vhos × Value => vhosV p.1 p.2) 2 (fun _ => rfl) VL i 1 q (by decide) rfl
  · rw [gv i q]
    have := O.hv _ (List.getElem_mem q)
    refine ⟨⟨_, _, hr _ ?_, this⟩, fun k hk => (this.lt k hk).2⟩
    rw [O.ev]
    exact List.mem_map_of_mem (List.getElem_mem q)
  · rw [gc i hi, gc j hj]
    exact pair_apart (P := fun p q : Clus × Value => Apart p.2 q.2) (fun _ _ h => ConfMark.Apart.symm h) O.ac hi hj hij
  · rw [gv i hi, gv j hj]
    exact pair_apart (P := fun p q : Vhos × Value => Apart p.2 q.2) (fun _ _ h => ConfMark.Apart.symm h) O.av hi hj hij
/-- a row whose block stands -/
theorem row_still {w W : World} {base n size : Nat} {e : TypeId} {v : Value} {xs : List Value} (h : w.ownsRow base e size v n xs) (hs : ∀ k, base ≤ k → k < w.heap.size → W.heap[k]? = w.heap[k]?) : W.ownsRow base e size v n xs := by
  refine ⟨h.1, ?_⟩
  rcases h.2 with h0 | ⟨g, cap, cur, hv, h1, hg, rest⟩
  · exact .inl h0
  · exact .inr ⟨g, cap, cur, hv, h1, (hs g h1 (Array.getElem?_eq_some_iff.1 hg).1).trans hg, rest⟩
theorem OCs.still {w W : World} {g : Nat} {c : Conf} {vf vc vv : Value} {CL : List (Clus × Value)} {VL : List (Vhos × Value)} (O : OCs w g c vf vc vv CL VL) (hs : ∀ k, g ≤ k → k < w.heap.size → W.heap[k]? = w.heap[k]?) : OCs W g c vf vc vv CL VL :=
  ⟨⟨(hs g (Nat.le_refl _) O.box.lt).trans O.box.at_⟩, row_still O.rf hs, O.ec, row_still O.rc hs, fun p hp => row_still (O.hc p hp) hs, O.ac, O.ev, row_still O.rv hs, fun p hp => row_still (O.hv p hp) hs, O.av⟩
/-- the whole state of a law: two readings and the config that was handed in -/
structure MS (w w2 : World) (g ga gb b1 b2 hi : Nat) (c : Conf) (fc cc vc fa ca va fb cb vb : Value) (H R : Nat → Value) (kc kv : Nat) (W : World) : Prop where
  am : AM W b1 hi fa ca va c.filters.length c.clusters.length c.vhosts.length H R kc kv
  xc : Has W g CT (confV c fc cc vc)
  xa : Has W ga CT (confV c fa ca va)
  xb : Has W gb CT (confV c fb cb vb)
  still : ∀ k, b2 ≤ k → k < w2.heap.size → W.heap[k]? = w2.heap[k]?
  below : Below w.heap.size w W
  size : w2.heap.size ≤ W.heap.size
  lo : w.heap.size ≤ b1
  top : hi ≤ b2
section
variable {w w2 W W' : World} {g ga gb b1 b2 hi : Nat} {c : Conf} {fc cc vc fa ca va fb cb vb : Value} {H R : Nat → Value} {kc kv : Nat}
theorem MS.call (h : MS w w2 g ga gb b1 b2 hi c fc cc vc fa ca va fb cb vb H R kc kv W) (hb : Below W.heap.size W W') : MS w w2 g ga gb b1 b2 hi c fc cc vc fa ca va fb cb vb H R kc kv W' :=
  ⟨h.am.below hb, h.xc.below hb h.xc.lt, h.xa.below hb h.xa.lt, h.xb.below hb h.xb.lt, fun k h1 h2 => (hb.block k (Nat.lt_of_lt_of_le h2 h.size)).trans (h.still k h1 h2), below_chain h.below hb, Nat.le_trans h.size hb.size, h.lo, h.top⟩
theorem MS.drew (h : MS w w2 g ga gb b1 b2 hi c fc cc vc fa ca va fb cb vb H R kc kv W) : MS w w2 g ga gb b1 b2 hi c fc cc vc fa ca va fb cb vb H R kc kv W.drew := h.call ⟨rfl, rfl, rfl, Nat.le_refl _, fun _ _ => rfl⟩
theorem MS.alloc (h : MS w w2 g ga gb b1 b2 hi c fc cc vc fa ca va fb cb vb H R kc kv W) (o : Obj) : MS w w2 g ga gb b1 b2 hi c fc cc vc fa ca va fb cb vb H R kc kv (W.alloc o) := h.call ((Below.refl _ _).alloc (Nat.le_refl _) o)
/-- a row of the first reading has turned -/
theorem MS.turn (h : MS w w2 g ga gb b1 b2 hi c fc cc vc fa ca va fb cb vb H R kc kv W) {e : TypeId} {size n : Nat} {xs : List Value} {v : Value} (hr : W.ownsRow b1 e size v n xs) (he : CT ≠ e) (hl : Lt v hi) (hg : W.grownBy W' v.ownBlock) {kc' kv' : Nat} (am : AM W' b1 hi fa ca va c.filters.length c.clusters.length c.vhosts.length H R kc' kv') :
    MS w w2 g ga gb b1 b2 hi c fc cc vc fa ca va fb cb vb H R kc' kv' W' := by
  refine ⟨am, has_kept h.xc hg (row_far hr h.xc he), has_kept h.xa hg (row_far hr h.xa he), has_kept h.xb hg (row_far hr h.xb he), fun k h1 h2 => ?_, ?_, Nat.le_trans h.size hg.size, h.lo, h.top⟩
  · refine (hg.block k (Nat.lt_of_lt_of_le h2 h.size) (fun q => ?_)).trans (h.still k h1 h2)
    have := hl k q.symm
    have := h.top
    omega
  · refine ⟨hg.os.trans h.below.os, hg.tape.trans h.below.tape, hg.output.trans h.below.output, Nat.le_trans h.below.size hg.size, fun k hk => ?_⟩
    refine (hg.block k (Nat.lt_of_lt_of_le hk h.below.size) (fun q => ?_)).trans (h.below.block k hk)
    have := (hr.lt k q.symm).1
    have := h.lo
    omega
theorem MS.setF {gf cap : Nat} (h : MS w w2 g ga gb b1 b2 hi c fc cc vc (.slice (some ⟨gf, 0, none⟩) c.filters.length cap) ca va fb cb vb H R kc kv W) (o : Nat) (vs : List Value) : MS w w2 g ga gb b1 b2 hi c fc cc vc (.slice (some ⟨gf, 0, none⟩) c.filters.length cap) ca va fb cb vb H R kc kv (W.setCells gf o vs) := by
  obtain ⟨am, hg⟩ := h.am.setF o vs
  obtain ⟨xs, hr⟩ := h.am.rf
  exact h.turn hr (by decide) h.am.lf hg am
theorem MS.setH {i gh n cap : Nat} (h : MS w w2 g ga gb b1 b2 hi c fc cc vc fa ca va fb cb vb H R kc kv W) (h0 : kc ≤ i) (h9 : i < c.clusters.length) (hH : H i = .slice (some ⟨gh, 0, none⟩) n cap) (j : Nat) (u : Value) : MS w w2 g ga gb b1 b2 hi c fc cc vc fa ca va fb cb vb H R kc kv (W.setCell ⟨gh, j, none⟩ u) := by
  obtain ⟨am, hg⟩ := h.am.setH h0 h9 hH j u
  obtain ⟨⟨n2, xs, hr⟩, hl⟩ := h.am.hc i h0 h9
  refine h.turn hr (by decide) hl ?_ am
  rw [hH]; exact hg
theorem MS.setC {gc cap : Nat} (h : MS w w2 g ga gb b1 b2 hi c fc cc vc fa (.slice (some ⟨gc, 0, none⟩) c.clusters.length cap) va fb cb vb H R kc kv W) (vs : List Value) (hl : vs.length = 9) : MS w w2 g ga gb b1 b2 hi c fc cc vc fa (.slice (some ⟨gc, 0, none⟩) c.clusters.length cap) va fb cb vb H R (kc + 1) kv (W.setCells gc (kc * 9) vs) := by
  obtain ⟨am, hg⟩ := h.am.setC vs hl
  obtain ⟨xs, hr, _⟩ := h.am.rc
  exact h.turn hr (by decide) h.am.lc hg am
theorem MS.setR {i gr n cap : Nat} (h : MS w w2 g ga gb b1 b2 hi c fc cc vc fa ca va fb cb vb H R kc kv W) (h0 : kv ≤ i) (h9 : i < c.vhosts.length) (hR : R i = .slice (some ⟨gr, 0, none⟩) n cap) (o : Nat) (vs : List Value) : MS w w2 g ga gb b1 b2 hi c fc cc vc fa ca va fb cb vb H R kc kv (W.setCells gr o vs) := by
  obtain ⟨am, hg⟩ := h.am.setR h0 h9 hR o vs
  obtain ⟨⟨n2, xs, _, hr⟩, hl⟩ := h.am.hv i h0 h9
  refine h.turn hr (by decide) hl ?_ am
  rw [hR]; exact hg
theorem MS.app {gv cap : Nat} (h : MS w w2 g ga gb b1 b2 hi c fc cc vc fa ca (.slice (some ⟨gv, 0, none⟩) c.vhosts.length cap) fb cb vb H R kc kv W) (h9 : kv < c.vhosts.length) (hg : W.grownBy W' (R kv).ownBlock) (u : Value) : MS w w2 g ga gb b1 b2 hi c fc cc vc fa ca (.slice (some ⟨gv, 0, none⟩) c.vhosts.length cap) fb cb vb H R kc (kv + 1) (W'.setCell ⟨gv, kv * 2 + 1, none⟩ u) := by
  have am := h.am.drop h9 hg
  obtain ⟨⟨n2, xs, _, hr⟩, hl⟩ := h.am.hv kv (Nat.le_refl _) h9
  have h2 := h.turn hr (by decide) hl hg am
  obtain ⟨am3, hg3⟩ := am.setV u
  obtain ⟨xs, hr3, _⟩ := am.rv
  exact h2.turn hr3 (by decide) am.lv hg3 am3
/-- the cells of the first reading's box -/
theorem MS.cell (h : MS w w2 g ga gb b1 b2 hi c fc cc vc fa ca va fb cb vb H R kc kv W) : W.cell? ⟨ga, 6, none⟩ = some fa ∧ W.cell? ⟨ga, 7, none⟩ = some ca ∧ W.cell? ⟨ga, 8, none⟩ = some va := ⟨h.xa.cell 6, h.xa.cell 7, h.xa.cell 8⟩
theorem MS.filt (h : MS w w2 g ga gb b1 b2 hi c fc cc vc fa ca va fb cb vb H R kc kv W) (k : Nat) (hk : k < c.filters.length) : ∃ gf cap, fa = .slice (some ⟨gf, 0, none⟩) c.filters.length cap ∧ W.there gf (k * 6) 6 := by
  obtain ⟨xs, hr⟩ := h.am.rf
  obtain ⟨gf, cap, rfl, _⟩ := row_at hr (by omega)
  exact ⟨gf, cap, rfl, row_there hr _ _ (by omega)⟩
theorem MS.clus (h : MS w w2 g ga gb b1 b2 hi c fc cc vc fa ca va fb cb vb H R kc kv W) (hk : kc < c.clusters.length) : ∃ gc cap, ca = .slice (some ⟨gc, 0, none⟩) c.clusters.length cap ∧ W.there gc (kc * 9) 9 ∧ W.cell? ⟨gc, kc * 9 + 2, none⟩ = some (H kc) ∧ (∃ p n cap2, H kc = .slice p n cap2 ∧ n ≤ 9223372036854775807 ∧ (0 < n → ∃ gh, p = some ⟨gh, 0, none⟩ ∧ ∀ j, j < n → (∃ u, W.cell? ⟨gh, j, none⟩ = some u) ∧ W.frozen? ⟨gh, j, none⟩ = false)) := by
  obtain ⟨xs, hr, hx⟩ := h.am.rc
  obtain ⟨gc, cap, rfl, _, _, _, hcell⟩ := row_at hr (by omega)
  obtain ⟨⟨n, ys, hr2⟩, _⟩ := h.am.hc kc (Nat.le_refl _) hk
  refine ⟨gc, cap, rfl, row_there hr _ _ (by omega), ?_, ?_⟩
  · rw [hcell _ (by omega)]; exact hx kc (Nat.le_refl _) hk
  · obtain ⟨p, cap2, hv, _⟩ := row_form hr2
    refine ⟨p, n, cap2, hv, ConfCF.row_len hr2, fun hn => ?_⟩
    obtain ⟨gh, cap3, hv2, _⟩ := row_at hr2 hn
    rw [hv] at hv2
    injection hv2 with e1 _ _
    refine ⟨gh, e1, fun j hj => ?_⟩
    rw [hv, e1] at hr2
    have := row_there hr2 j 1 (by omega) 0 (by omega)
    rw [Nat.add_zero] at this
    exact ⟨Option.isSome_iff_exists.1 this.1, this.2⟩
theorem MS.vhos (h : MS w w2 g ga gb b1 b2 hi c fc cc vc fa ca va fb cb vb H R kc kv W) (hk : kv < c.vhosts.length) : ∃ gv cap, va = .slice (some ⟨gv, 0, none⟩) c.vhosts.length cap ∧ W.cell? ⟨gv, kv * 2 + 1, none⟩ = some (R kv) ∧ W.frozen? ⟨gv, kv * 2 + 1, none⟩ = false ∧ (∃ p n cap2 xs, R kv = .slice p n cap2 ∧ n ≤ 32 ∧ W.ownsRow b1 RT 13 (.slice p n cap2) n xs ∧ (0 < n → ∃ gr, p = some ⟨gr, 0, none⟩ ∧ ∀ j, j < n → W.there gr (j * 13) 13)) := by
  obtain ⟨xs, hr, hx⟩ := h.am.rv
  obtain ⟨gv, cap, rfl, _, _, _, hcell⟩ := row_at hr (by omega)
  obtain ⟨⟨n, ys, hn32, hr2⟩, _⟩ := h.am.hv kv (Nat.le_refl _) hk
  refine ⟨gv, cap, rfl, ?_, hr.frozenAt _, ?_⟩
  · rw [hcell _ (by omega)]; exact hx kv (Nat.le_refl _) hk
  · obtain ⟨p, cap2, hv, _⟩ := row_form hr2
    refine ⟨p, n, cap2, ys, hv, hn32, by rw [← hv]; exact hr2, fun hn => ?_⟩
    obtain ⟨gr, cap3, hv2, _⟩ := row_at hr2 hn
    rw [hv] at hv2
    injection hv2 with e1 _ _
    refine ⟨gr, e1, fun j hj => ?_⟩
    rw [hv, e1] at hr2
    exact row_there hr2 _ _ (by omega)
theorem MS.filtS {pa : Option Addr} {ka : Nat} (h : MS w w2 g ga gb b1 b2 hi c fc cc vc (.slice pa c.filters.length ka) ca va fb cb vb H R kc kv W) (k : Nat) (hk : k < c.filters.length) : ∃ gf, pa = some ⟨gf, 0, none⟩ ∧ W.there gf (k * 6) 6 := by
  obtain ⟨gf, cap, e, ht⟩ := h.filt k hk
  injection e with e1 _ _
  exact ⟨gf, e1, ht⟩
theorem MS.clusS {pa : Option Addr} {ka : Nat} (h : MS w w2 g ga gb b1 b2 hi c fc cc vc fa (.slice pa c.clusters.length ka) va fb cb vb H R kc kv W) (hk : kc < c.clusters.length) : ∃ gc p n cap2, pa = some ⟨gc, 0, none⟩ ∧ W.there gc (kc * 9) 9 ∧ W.cell? ⟨gc, kc * 9 + 2, none⟩ = some (.slice p n cap2) ∧ H kc = .slice p n cap2 ∧ n ≤ 9223372036854775807 := by
  obtain ⟨gc, cap, e, ht, hc, p, n, cap2, hv, hn, _⟩ := h.clus hk
  injection e with e1 _ _
  exact ⟨gc, p, n, cap2, e1, ht, by rw [hc, hv], hv, hn⟩
theorem MS.host {gc n cap2 ka : Nat} {p : Option Addr} (h : MS w w2 g ga gb b1 b2 hi c fc cc vc fa (.slice (some ⟨gc, 0, none⟩) c.clusters.length ka) va fb cb vb H R kc kv W) (hk : kc < c.clusters.length) (hv : H kc = .slice p n cap2) (j : Nat) (hj : j < n) : ∃ gh, p = some ⟨gh, 0, none⟩ ∧ W.cell? ⟨gc, kc * 9 + 2, none⟩ = some (.slice p n cap2) ∧ (∃ u, W.cell? ⟨gh, j, none⟩ = some u) ∧ W.frozen? ⟨gh, j, none⟩ = false := by
  obtain ⟨gc2, cap, e, ht, hc, p2, n2, cap3, hv2, hn, hx⟩ := h.clus hk
  injection e with e1 _ _
  injection e1 with e1
  injection e1 with e1 _
  subst e1
  rw [hv] at hv2
  injection hv2 with a1 a2 a3
  subst a1 a2 a3
  obtain ⟨gh, h1, h2⟩ := hx (by omega)
  exact ⟨gh, h1, by rw [hc, hv], h2 j hj⟩
theorem MS.vhosS {pa : Option Addr} {ka : Nat} (h : MS w w2 g ga gb b1 b2 hi c fc cc vc fa ca (.slice pa c.vhosts.length ka) fb cb vb H R kc kv W) (hk : kv < c.vhosts.length) : ∃ gv p n cap2, pa = some ⟨gv, 0, none⟩ ∧ W.cell? ⟨gv, kv * 2 + 1, none⟩ = some (.slice p n cap2) ∧ W.frozen? ⟨gv, kv * 2 + 1, none⟩ = false ∧ R kv = .slice p n cap2 ∧ n ≤ 32 := by
  obtain ⟨gv, cap, e, hc, hf, p, n, cap2, xs, hv, hn, _⟩ := h.vhos hk
  injection e with e1 _ _
  exact ⟨gv, p, n, cap2, e1, by rw [hc, hv], hf, hv, hn⟩
theorem MS.rout {gv n cap2 ka : Nat} {p : Option Addr} (h : MS w w2 g ga gb b1 b2 hi c fc cc vc fa ca (.slice (some ⟨gv, 0, none⟩) c.vhosts.length ka) fb cb vb H R kc kv W) (hk : kv < c.vhosts.length) (hv : R kv = .slice p n cap2) : W.cell? ⟨gv, kv * 2 + 1, none⟩ = some (.slice p n cap2) ∧ W.frozen? ⟨gv, kv * 2 + 1, none⟩ = false ∧ (∃ xs, W.ownsRow b1 RT 13 (.slice p n cap2) n xs) ∧ (0 < n → ∃ gr, p = some ⟨gr, 0, none⟩ ∧ ∀ j, j < n → W.there gr (j * 13) 13) := by
  obtain ⟨gv2, cap, e, hc, hf, p2, n2, cap3, xs, hv2, hn, hr, hx⟩ := h.vhos hk
  injection e with e1 _ _
  injection e1 with e1
  injection e1 with e1 _
  subst e1
  rw [hv] at hv2
  injection hv2 with a1 a2 a3
  subst a1 a2 a3
  exact ⟨by rw [hc, hv], hf, ⟨xs, hr⟩, hx⟩
/-- while the kv-th vhost's routes have grown -/
theorem MS.grown {gv cap : Nat} (h : MS w w2 g ga gb b1 b2 hi c fc cc vc fa ca (.slice (some ⟨gv, 0, none⟩) c.vhosts.length cap) fb cb vb H R kc kv W) (h9 : kv < c.vhosts.length) (hg : W.grownBy W' (R kv).ownBlock) : W'.cell? ⟨ga, 8, none⟩ = some (.slice (some ⟨gv, 0, none⟩) c.vhosts.length cap) ∧ (∃ u, W'.cell? ⟨gv, kv * 2 + 1, none⟩ = some u) ∧ W'.frozen? ⟨gv, kv * 2 + 1, none⟩ = false := by
  have am := h.am.drop h9 hg
  obtain ⟨⟨n2, xs, _, hr⟩, hl⟩ := h.am.hv kv (Nat.le_refl _) h9
  have h2 := h.turn hr (by decide) hl hg am
  obtain ⟨xs3, hr3, _⟩ := am.rv
  have := row_there hr3 (kv * 2 + 1) 1 (by omega) 0 (by omega)
  rw [Nat.add_zero] at this
  exact ⟨h2.xa.cell 8, Option.isSome_iff_exists.1 this.1, this.2⟩
theorem MS.base (h : MS w w2 g ga gb b1 b2 hi c fc cc vc fa ca va fb cb vb H R kc kv W) (h9 : kv < c.vhosts.length) : b1 ≤ W.heap.size := by
  obtain ⟨xs, hr, _⟩ := h.am.rv
  obtain ⟨gv, cap, _, h1, h2, _⟩ := row_at hr (by omega)
  omega
end
end Go.Proofs.YtfihehobkbfmiaaGreatDoor.ConfMark

/- What is read of a config's text is memory of its own: ConfigMemory returns true, whatever the config. -/
namespace Go.Proofs.YtfihehobkbfmiaaGreatDoor.ConfigMemoryW
open Go.ChangeShapes Go.WideShapes Go.ChangeAt Go.RowKit Bytes LexPure ConfPure ConfBack ConfSafe ConfMem ConfObj R14Bnd R14Name R14Vhost R14Check ConfOwn ConfMark Ret Mem
set_option maxRecDepth 100000
set_option linter.unusedVariables false
set_option linter.unusedSimpArgs false
theorem kcells {w W : World} {g : Nat} {c : Conf} {vf vc vv : Value} (h : Has W g ConfOwn.CT (confV c vf vc vv)) : W.cell? ⟨g, 0, none⟩ = some (.int .i64 c.conns) ∧ W.cell? ⟨g, 1, none⟩ = some (.int .i64 c.body) ∧ W.cell? ⟨g, 2, none⟩ = some (.int .i64 c.idle) ∧ W.cell? ⟨g, 3, none⟩ = some (.int .i64 c.grace) ∧
    W.cell? ⟨g, 4, none⟩ = some (.int .i64 c.budget) ∧ W.cell? ⟨g, 5, none⟩ = some (.int .i64 c.seed) ∧ W.cell? ⟨g, 6, none⟩ = some vf ∧ W.cell? ⟨g, 7, none⟩ = some vc ∧ W.cell? ⟨g, 8, none⟩ = some vv :=
  ⟨h.cell 0, h.cell 1, h.cell 2, h.cell 3, h.cell 4, h.cell 5, h.cell 6, h.cell 7, h.cell 8⟩
theorem info_of {P : Program} {T : TypeId} {n : Nat} (h : (P.info? T).map (·.size) = some n) : ∃ a, P.info? T = some a ∧ a.size = n := Option.map_eq_some_iff.1 h
theorem balloc (w : World) (o : Obj) : Below w.heap.size w (w.alloc o) := (Below.refl _ _).alloc (Nat.le_refl _) o
set_option maxHeartbeats 12800000 in
theorem walkIn (c : Conf) (vf vc vv : Value) (hx : FitConf c) (w : World) (hm : Fit w) (hC : CF w vf vc vv c) :
    Calls Tryz.prog 6 #[.agg (confV c vf vc vv)] w fun e w' => e = .returned (.bool true) ∧ Below w.heap.size w w' := by
  have HAn := Lib.hid (fun w h => L14Anchor.anchor_any w h)
  have HChk := Lib.hid (fun w hC => rcheck_any c vf vc vv hx w hC)
  have HPr := Lib.hid (fun hk w hC => R14Print.rprint_any c vf vc vv hx hk w hC)
  have HB := Lib.hid (Kb.start hC)
  have HC0 := Lib.hid hC
  have HX := Lib.hid hx
  have HM := Lib.hid hm
  obtain ⟨⟨pf1, cf1, rfl⟩, ⟨pc1, cc1, rfl⟩, ⟨pv1, cv1, rfl⟩⟩ := R14Bnd.CF.vals hC
  obtain ⟨g, hg⟩ : ∃ g, g = w.heap.size := ⟨_, rfl⟩
  rw [← hg] at HB
  have HG := Lib.hid hg
  have HIfilt := Lib.hid (info_of PCfgN.filt_size)
  have HIclus := Lib.hid (info_of PCfgN.clus_size)
  have HIrout := Lib.hid (info_of PCfgN.rout_size)
  clear hg hx hC hm
  unfold confV at HChk HPr ⊢
  have HAll := HB.out
  unfold R14Bnd.CT at HAll
  go_enter Tryz.func6, Tryz.ntmps6
  go_wp2_with fail
  rw [← HG.out]
  have K1 := Lib.hid HAll
  clear HB HAll
  have hb1 : Below w.heap.size w (w.alloc (.cells #[.int .i64 c.conns, .int .i64 c.body, .int .i64 c.idle, .int .i64 c.grace, .int .i64 c.budget, .int .i64 c.seed, .slice pf1 c.filters.length cf1, .slice pc1 c.clusters.length cc1, .slice pv1 c.vhosts.length cv1] 26)) := HG.out ▸ K1.out.below
  unfold confV at K1
  refine (HAn.out _ (HM.out.below hb1)).mono ?_
  rintro e w2 ⟨rfl, hb2⟩
  have K2 := Lib.hid (K1.out.call hb2)
  clear K1 hb1 hb2 HAn
  have B2 := K2.out.box
  unfold confV R14Bnd.CT at B2
  have c0 : w2.cell? ⟨g, 0, none⟩ = some (.int .i64 c.conns) := B2.cell 0
  have c1 : w2.cell? ⟨g, 1, none⟩ = some (.int .i64 c.body) := B2.cell 1
  have c2 : w2.cell? ⟨g, 2, none⟩ = some (.int .i64 c.idle) := B2.cell 2
  have c3 : w2.cell? ⟨g, 3, none⟩ = some (.int .i64 c.grace) := B2.cell 3
  have c4 : w2.cell? ⟨g, 4, none⟩ = some (.int .i64 c.budget) := B2.cell 4
  have c5 : w2.cell? ⟨g, 5, none⟩ = some (.int .i64 c.seed) := B2.cell 5
  have c6 : w2.cell? ⟨g, 6, none⟩ = some (.slice pf1 c.filters.length cf1) := B2.cell 6
  have c7 : w2.cell? ⟨g, 7, none⟩ = some (.slice pc1 c.clusters.length cc1) := B2.cell 7
  have c8 : w2.cell? ⟨g, 8, none⟩ = some (.slice pv1 c.vhosts.length cv1) := B2.cell 8
  clear B2
  go_wp2_with fail
  refine (HChk.out _ K2.out.cf).mono ?_
  rintro e w3 ⟨rfl, hb3⟩
  have K3 := Lib.hid (K2.out.call hb3)
  clear K2 HChk hb3 c0 c1 c2 c3 c4 c5 c6 c7 c8
  obtain ⟨E, hE⟩ : ∃ E, Hid (E = check14 c) := ⟨_, Lib.hid rfl⟩
  rw [← hE.out]
  by_cases h1 : ¬ E = 0
  · have q2 : (E != 0) = true := bne_iff_ne.2 h1
    have HE : Hid (Below w.heap.size w w3) := Lib.hid (HG.out ▸ K3.out.below)
    clear hE K3
    go_wp2_with fail
    go_ret
    exact ⟨rfl, HE.out⟩
  replace h1 : E = 0 := Decidable.of_not_not h1
  have hk : check14 c = 0 := hE.out.symm.trans h1
  have HR := Lib.hid (right_of hk)
  clear hE
  subst h1
  have B3 := K3.out.box
  unfold confV R14Bnd.CT at B3
  have c0 : w3.cell? ⟨g, 0, none⟩ = some (.int .i64 c.conns) := B3.cell 0
  have c1 : w3.cell? ⟨g, 1, none⟩ = some (.int .i64 c.body) := B3.cell 1
  have c2 : w3.cell? ⟨g, 2, none⟩ = some (.int .i64 c.idle) := B3.cell 2
  have c3 : w3.cell? ⟨g, 3, none⟩ = some (.int .i64 c.grace) := B3.cell 3
  have c4 : w3.cell? ⟨g, 4, none⟩ = some (.int .i64 c.budget) := B3.cell 4
  have c5 : w3.cell? ⟨g, 5, none⟩ = some (.int .i64 c.seed) := B3.cell 5
  have c6 : w3.cell? ⟨g, 6, none⟩ = some (.slice pf1 c.filters.length cf1) := B3.cell 6
  have c7 : w3.cell? ⟨g, 7, none⟩ = some (.slice pc1 c.clusters.length cc1) := B3.cell 7
  have c8 : w3.cell? ⟨g, 8, none⟩ = some (.slice pv1 c.vhosts.length cv1) := B3.cell 8
  clear B3
  go_wp2_with fail
  refine (HPr.out hk _ K3.out.cf).mono ?_
  rintro e w4 ⟨rfl, hb4⟩
  have K4 := Lib.hid (K3.out.call hb4)
  clear K3 HPr hb4 c0 c1 c2 c3 c4 c5 c6 c7 c8
  have HE4 : Hid (Below w.heap.size w w4) := Lib.hid (HG.out ▸ K4.out.below)
  have hLen : (print14 c).length ≤ 90000000000 := R14Print.print_len HX.out (right_of hk)
  have hpa : parse14 (toL (ofL (print14 c))) = (c, 0, 0) := by rw [toL_ofL]; exact back14 hk
  have HP : Hid (∀ W, Fit W → Calls Tryz.prog 13 #[.string (ofL (print14 c))] W (fun e W' => Below W.heap.size W W' ∧ ∃ b vf vc vv CL VL, e = .returned (.tuple #[.agg (confV c vf vc vv), .int .i64 0, .int .i64 0]) ∧ OCs W' b c vf vc vv CL VL ∧ W.heap.size ≤ b)) := Lib.hid (fun W h => by
    have h1 := PCfgH.pparse_any (ofL (print14 c)) (by rw [ofL_size]; omega) (fit_of hpa (.inl rfl) (fun _ => HX.out)) W h.1 h.2
    unfold PCfgH.ParsePost at h1
    rw [hpa] at h1
    exact h1)
  obtain ⟨s, hs⟩ : ∃ s, s = ofL (print14 c) := ⟨_, rfl⟩
  rw [← hs] at HP ⊢
  clear hLen hpa hs hk
  unfold confV at HP
  go_wp2_with fail
  refine (HP.out _ (HM.out.below HE4.out)).mono ?_
  rintro e w5 ⟨hb5, b1, fa, ca, va, CL1, VL1, rfl, O1, hlo1⟩
  obtain ⟨⟨pf2, cf2, rfl⟩, ⟨pc2, cc2, rfl⟩, ⟨pv2, cv2, rfl⟩⟩ := R14Bnd.CF.vals (ConfCF.OCs.cf O1)
  have K5 := Lib.hid (K4.out.call hb5)
  have HE5 := Lib.hid (below_chain HE4.out hb5)
  have HO1 := Lib.hid O1
  have HL1 : Hid (w.heap.size ≤ b1) := Lib.hid (Nat.le_trans HE4.out.size hlo1)
  have HF5 : Hid (Fit (w5.alloc (.cells #[.int .i64 c.conns, .int .i64 c.body, .int .i64 c.idle, .int .i64 c.grace, .int .i64 c.budget, .int .i64 c.seed, .slice pf2 c.filters.length cf2, .slice pc2 c.clusters.length cc2, .slice pv2 c.vhosts.length cv2] 26))) := Lib.hid (HM.out.below (below_chain HE5.out (balloc _ _)))
  clear K4 HE4 hb5 O1 hlo1
  go_wp2_with fail
  refine (HP.out _ HF5.out).mono ?_
  rintro e w6 ⟨hb6, b2, fb, cb, vb, CL2, VL2, rfl, O2, hlo2⟩
  obtain ⟨⟨pf3, cf3, rfl⟩, ⟨pc3, cc3, rfl⟩, ⟨pv3, cv3, rfl⟩⟩ := R14Bnd.CF.vals (ConfCF.OCs.cf O2)
  have HO2 := Lib.hid O2
  obtain ⟨H, hH⟩ : ∃ H : Nat → Value, H = fun i => (CL1.getD i (zClus, undef)).2 := ⟨_, rfl⟩
  obtain ⟨R, hR⟩ : ∃ R : Nat → Value, R = fun i => (VL1.getD i (zVhos, undef)).2 := ⟨_, rfl⟩
  obtain ⟨hi, hhi⟩ : ∃ n, n = w5.heap.size := ⟨_, rfl⟩
  have hsz5 : (w5.alloc (.cells #[.int .i64 c.conns, .int .i64 c.body, .int .i64 c.idle, .int .i64 c.grace, .int .i64 c.budget, .int .i64 c.seed, .slice pf2 c.filters.length cf2, .slice pc2 c.clusters.length cc2, .slice pv2 c.vhosts.length cv2] 26)).heap.size = w5.heap.size + 1 := by simp
  have ba5 := balloc w5 (.cells #[.int .i64 c.conns, .int .i64 c.body, .int .i64 c.idle, .int .i64 c.grace, .int .i64 c.budget, .int .i64 c.seed, .slice pf2 c.filters.length cf2, .slice pc2 c.clusters.length cc2, .slice pv2 c.vhosts.length cv2] 26)
  have ba6 := balloc w6 (.cells #[.int .i64 c.conns, .int .i64 c.body, .int .i64 c.idle, .int .i64 c.grace, .int .i64 c.budget, .int .i64 c.seed, .slice pf3 c.filters.length cf3, .slice pc3 c.clusters.length cc3, .slice pv3 c.vhosts.length cv3] 26)
  have AM5 := AM.start HO1.out (fun v hv => ((short14 HR.out).2.2.2 v hv).2)
  rw [← hH, ← hR, ← hhi] at AM5
  obtain ⟨ga, hga⟩ : ∃ n, Hid (n = w5.heap.size) := ⟨_, Lib.hid rfl⟩
  obtain ⟨gb, hgb⟩ : ∃ n, Hid (n = w6.heap.size) := ⟨_, Lib.hid rfl⟩
  have XA5 : Has (w5.alloc (.cells #[.int .i64 c.conns, .int .i64 c.body, .int .i64 c.idle, .int .i64 c.grace, .int .i64 c.budget, .int .i64 c.seed, .slice pf2 c.filters.length cf2, .slice pc2 c.clusters.length cc2, .slice pv2 c.vhosts.length cv2] 26)) ga ConfOwn.CT (confV c (.slice pf2 c.filters.length cf2) (.slice pc2 c.clusters.length cc2) (.slice pv2 c.vhosts.length cv2)) := by rw [hga.out]; exact Has.new w5 _ _
  have XB6 : Has (w6.alloc (.cells #[.int .i64 c.conns, .int .i64 c.body, .int .i64 c.idle, .int .i64 c.grace, .int .i64 c.budget, .int .i64 c.seed, .slice pf3 c.filters.length cf3, .slice pc3 c.clusters.length cc3, .slice pv3 c.vhosts.length cv3] 26)) gb ConfOwn.CT (confV c (.slice pf3 c.filters.length cf3) (.slice pc3 c.clusters.length cc3) (.slice pv3 c.vhosts.length cv3)) := by rw [hgb.out]; exact Has.new w6 _ _
  have M0 : MS w w6 g ga gb b1 b2 hi c (.slice pf1 c.filters.length cf1) (.slice pc1 c.clusters.length cc1) (.slice pv1 c.vhosts.length cv1) (.slice pf2 c.filters.length cf2) (.slice pc2 c.clusters.length cc2) (.slice pv2 c.vhosts.length cv2) (.slice pf3 c.filters.length cf3) (.slice pc3 c.clusters.length cc3) (.slice pv3 c.vhosts.length cv3) H R 0 0 (w6.alloc (.cells #[.int .i64 c.conns, .int .i64 c.body, .int .i64 c.idle, .int .i64 c.grace, .int .i64 c.budget, .int .i64 c.seed, .slice pf3 c.filters.length cf3, .slice pc3 c.clusters.length cc3, .slice pv3 c.vhosts.length cv3] 26)) := by
    refine ⟨((AM5.below ba5).below hb6).below ba6, (((K5.out.call ba5).call hb6).call ba6).box, (XA5.below hb6 XA5.lt).below ba6 (XA5.below hb6 XA5.lt).lt, XB6, fun k _ hk => ba6.block k hk, below_chain (below_chain (below_chain HE5.out ba5) hb6) ba6, ba6.size, HL1.out, ?_⟩
    rw [hhi]
    rw [hsz5] at hlo2
    omega
  have hA6 : CF (w6.alloc (.cells #[.int .i64 c.conns, .int .i64 c.body, .int .i64 c.idle, .int .i64 c.grace, .int .i64 c.budget, .int .i64 c.seed, .slice pf3 c.filters.length cf3, .slice pc3 c.clusters.length cc3, .slice pv3 c.vhosts.length cv3] 26)) (.slice pf2 c.filters.length cf2) (.slice pc2 c.clusters.length cc2) (.slice pv2 c.vhosts.length cv2) c := (((ConfCF.OCs.cf HO1.out).below ba5).below hb6).below ba6
  have HC6 := Lib.hid (((K5.out.call ba5).call hb6).call ba6).cf
  have HA6 := Lib.hid hA6
  have HMs := Lib.hid M0
  have HSame := Lib.hid (fun w h1 h2 => R14Same.rsame_self c (.slice pf2 c.filters.length cf2) (.slice pc2 c.clusters.length cc2) (.slice pv2 c.vhosts.length cv2) (.slice pf1 c.filters.length cf1) (.slice pc1 c.clusters.length cc1) (.slice pv1 c.vhosts.length cv1) w h1 h2)
  have HSame2 := Lib.hid (fun w h1 h2 => R14Same.rsame_self c (.slice pf3 c.filters.length cf3) (.slice pc3 c.clusters.length cc3) (.slice pv3 c.vhosts.length cv3) (.slice pf1 c.filters.length cf1) (.slice pc1 c.clusters.length cc1) (.slice pv1 c.vhosts.length cv1) w h1 h2)
  unfold confV at HSame HSame2
  have xc := M0.xc
  have xa := M0.xa
  unfold confV ConfOwn.CT at xc xa
  have n0 : (w6.alloc (.cells #[.int .i64 c.conns, .int .i64 c.body, .int .i64 c.idle, .int .i64 c.grace, .int .i64 c.budget, .int .i64 c.seed, .slice pf3 c.filters.length cf3, .slice pc3 c.clusters.length cc3, .slice pv3 c.vhosts.length cv3] 26)).cell? ⟨g, 0, none⟩ = some (.int .i64 c.conns) := xc.cell 0
  have n1 : (w6.alloc (.cells #[.int .i64 c.conns, .int .i64 c.body, .int .i64 c.idle, .int .i64 c.grace, .int .i64 c.budget, .int .i64 c.seed, .slice pf3 c.filters.length cf3, .slice pc3 c.clusters.length cc3, .slice pv3 c.vhosts.length cv3] 26)).cell? ⟨g, 1, none⟩ = some (.int .i64 c.body) := xc.cell 1
  have n2 : (w6.alloc (.cells #[.int .i64 c.conns, .int .i64 c.body, .int .i64 c.idle, .int .i64 c.grace, .int .i64 c.budget, .int .i64 c.seed, .slice pf3 c.filters.length cf3, .slice pc3 c.clusters.length cc3, .slice pv3 c.vhosts.length cv3] 26)).cell? ⟨g, 2, none⟩ = some (.int .i64 c.idle) := xc.cell 2
  have n3 : (w6.alloc (.cells #[.int .i64 c.conns, .int .i64 c.body, .int .i64 c.idle, .int .i64 c.grace, .int .i64 c.budget, .int .i64 c.seed, .slice pf3 c.filters.length cf3, .slice pc3 c.clusters.length cc3, .slice pv3 c.vhosts.length cv3] 26)).cell? ⟨g, 3, none⟩ = some (.int .i64 c.grace) := xc.cell 3
  have n4 : (w6.alloc (.cells #[.int .i64 c.conns, .int .i64 c.body, .int .i64 c.idle, .int .i64 c.grace, .int .i64 c.budget, .int .i64 c.seed, .slice pf3 c.filters.length cf3, .slice pc3 c.clusters.length cc3, .slice pv3 c.vhosts.length cv3] 26)).cell? ⟨g, 4, none⟩ = some (.int .i64 c.budget) := xc.cell 4
  have n5 : (w6.alloc (.cells #[.int .i64 c.conns, .int .i64 c.body, .int .i64 c.idle, .int .i64 c.grace, .int .i64 c.budget, .int .i64 c.seed, .slice pf3 c.filters.length cf3, .slice pc3 c.clusters.length cc3, .slice pv3 c.vhosts.length cv3] 26)).cell? ⟨g, 5, none⟩ = some (.int .i64 c.seed) := xc.cell 5
  have n6 : (w6.alloc (.cells #[.int .i64 c.conns, .int .i64 c.body, .int .i64 c.idle, .int .i64 c.grace, .int .i64 c.budget, .int .i64 c.seed, .slice pf3 c.filters.length cf3, .slice pc3 c.clusters.length cc3, .slice pv3 c.vhosts.length cv3] 26)).cell? ⟨g, 6, none⟩ = some (.slice pf1 c.filters.length cf1) := xc.cell 6
  have n7 : (w6.alloc (.cells #[.int .i64 c.conns, .int .i64 c.body, .int .i64 c.idle, .int .i64 c.grace, .int .i64 c.budget, .int .i64 c.seed, .slice pf3 c.filters.length cf3, .slice pc3 c.clusters.length cc3, .slice pv3 c.vhosts.length cv3] 26)).cell? ⟨g, 7, none⟩ = some (.slice pc1 c.clusters.length cc1) := xc.cell 7
  have n8 : (w6.alloc (.cells #[.int .i64 c.conns, .int .i64 c.body, .int .i64 c.idle, .int .i64 c.grace, .int .i64 c.budget, .int .i64 c.seed, .slice pf3 c.filters.length cf3, .slice pc3 c.clusters.length cc3, .slice pv3 c.vhosts.length cv3] 26)).cell? ⟨g, 8, none⟩ = some (.slice pv1 c.vhosts.length cv1) := xc.cell 8
  have m0 : (w6.alloc (.cells #[.int .i64 c.conns, .int .i64 c.body, .int .i64 c.idle, .int .i64 c.grace, .int .i64 c.budget, .int .i64 c.seed, .slice pf3 c.filters.length cf3, .slice pc3 c.clusters.length cc3, .slice pv3 c.vhosts.length cv3] 26)).cell? ⟨ga, 0, none⟩ = some (.int .i64 c.conns) := xa.cell 0
  have m1 : (w6.alloc (.cells #[.int .i64 c.conns, .int .i64 c.body, .int .i64 c.idle, .int .i64 c.grace, .int .i64 c.budget, .int .i64 c.seed, .slice pf3 c.filters.length cf3, .slice pc3 c.clusters.length cc3, .slice pv3 c.vhosts.length cv3] 26)).cell? ⟨ga, 1, none⟩ = some (.int .i64 c.body) := xa.cell 1
  have m2 : (w6.alloc (.cells #[.int .i64 c.conns, .int .i64 c.body, .int .i64 c.idle, .int .i64 c.grace, .int .i64 c.budget, .int .i64 c.seed, .slice pf3 c.filters.length cf3, .slice pc3 c.clusters.length cc3, .slice pv3 c.vhosts.length cv3] 26)).cell? ⟨ga, 2, none⟩ = some (.int .i64 c.idle) := xa.cell 2
  have m3 : (w6.alloc (.cells #[.int .i64 c.conns, .int .i64 c.body, .int .i64 c.idle, .int .i64 c.grace, .int .i64 c.budget, .int .i64 c.seed, .slice pf3 c.filters.length cf3, .slice pc3 c.clusters.length cc3, .slice pv3 c.vhosts.length cv3] 26)).cell? ⟨ga, 3, none⟩ = some (.int .i64 c.grace) := xa.cell 3
  have m4 : (w6.alloc (.cells #[.int .i64 c.conns, .int .i64 c.body, .int .i64 c.idle, .int .i64 c.grace, .int .i64 c.budget, .int .i64 c.seed, .slice pf3 c.filters.length cf3, .slice pc3 c.clusters.length cc3, .slice pv3 c.vhosts.length cv3] 26)).cell? ⟨ga, 4, none⟩ = some (.int .i64 c.budget) := xa.cell 4
  have m5 : (w6.alloc (.cells #[.int .i64 c.conns, .int .i64 c.body, .int .i64 c.idle, .int .i64 c.grace, .int .i64 c.budget, .int .i64 c.seed, .slice pf3 c.filters.length cf3, .slice pc3 c.clusters.length cc3, .slice pv3 c.vhosts.length cv3] 26)).cell? ⟨ga, 5, none⟩ = some (.int .i64 c.seed) := xa.cell 5
  have m6 : (w6.alloc (.cells #[.int .i64 c.conns, .int .i64 c.body, .int .i64 c.idle, .int .i64 c.grace, .int .i64 c.budget, .int .i64 c.seed, .slice pf3 c.filters.length cf3, .slice pc3 c.clusters.length cc3, .slice pv3 c.vhosts.length cv3] 26)).cell? ⟨ga, 6, none⟩ = some (.slice pf2 c.filters.length cf2) := xa.cell 6
  have m7 : (w6.alloc (.cells #[.int .i64 c.conns, .int .i64 c.body, .int .i64 c.idle, .int .i64 c.grace, .int .i64 c.budget, .int .i64 c.seed, .slice pf3 c.filters.length cf3, .slice pc3 c.clusters.length cc3, .slice pv3 c.vhosts.length cv3] 26)).cell? ⟨ga, 7, none⟩ = some (.slice pc2 c.clusters.length cc2) := xa.cell 7
  have m8 : (w6.alloc (.cells #[.int .i64 c.conns, .int .i64 c.body, .int .i64 c.idle, .int .i64 c.grace, .int .i64 c.budget, .int .i64 c.seed, .slice pf3 c.filters.length cf3, .slice pc3 c.clusters.length cc3, .slice pv3 c.vhosts.length cv3] 26)).cell? ⟨ga, 8, none⟩ = some (.slice pv2 c.vhosts.length cv2) := xa.cell 8
  clear xc xa M0 hA6 K5 HF5 HE5 HL1 HO1 hb6 O2 hlo2 AM5 ba5 ba6 hsz5 XA5 XB6 hH hR hhi HP

  rw [← hga.out]
  go_wp2_with fail
  rw [← hgb.out]
  generalize w6.alloc (.cells #[.int .i64 c.conns, .int .i64 c.body, .int .i64 c.idle, .int .i64 c.grace, .int .i64 c.budget, .int .i64 c.seed, .slice pf3 c.filters.length cf3, .slice pc3 c.clusters.length cc3, .slice pv3 c.vhosts.length cv3] 26) = W7 at *
  clear n0 n1 n2 n3 n4 n5 n6 n7 n8 m0 m1 m2 m3 m4 m5 m6 m7 m8
  refine (HSame.out _ HA6.out HC6.out).mono ?_
  rintro e w8 ⟨rfl, hb8⟩
  have K8 := Lib.hid (HMs.out.call hb8)
  clear HSame HMs HA6 HC6 hb8
  have d6 : w8.cell? ⟨ga, 6, none⟩ = some (.slice pf2 c.filters.length cf2) := K8.out.xa.cell 6
  have hfl : c.filters.length ≤ 32 := (short14 HR.out).1
  have hcl : c.clusters.length ≤ 32 := (short14 HR.out).2.1
  have hvl : c.vhosts.length ≤ 32 := (short14 HR.out).2.2.1
  go_wp2_with fail
  clear d6
  go_loopw [49] (fun i W => ∃ k : Nat, k ≤ c.filters.length ∧ i = .int .i64 k ∧ Hid (MS w w6 g ga gb b1 b2 hi c (.slice pf1 c.filters.length cf1) (.slice pc1 c.clusters.length cc1) (.slice pv1 c.vhosts.length cv1) (.slice pf2 c.filters.length cf2) (.slice pc2 c.clusters.length cc2) (.slice pv2 c.vhosts.length cv2) (.slice pf3 c.filters.length cf3) (.slice pc3 c.clusters.length cc3) (.slice pv3 c.vhosts.length cv3) H R 0 0 W)) (fun i _ => c.filters.length - (intOf i).toNat)
  case atStart => exact ⟨0, Nat.zero_le _, rfl, K8⟩
  case round =>
    obtain ⟨k, hk, rfl, HJ⟩ := hrel
    clear K8
    by_cases hlt : k < c.filters.length
    · have hki : (k : Int) < (c.filters.length : Int) := by omega
      have hk0 : (0 : Int) ≤ (k : Int) := by omega
      obtain ⟨gf, rfl, hth⟩ := HJ.out.filtS k hlt
      have d6 : wr.cell? ⟨ga, 6, none⟩ = some (.slice (some ⟨gf, 0, none⟩) c.filters.length cf2) := HJ.out.xa.cell 6
      have HN := Lib.hid (HJ.out.setF (k * 6) (#[.int .i64 (-1), .string ⟨#[]⟩, .string ⟨#[]⟩, .int .i64 0, .int .i64 0, .int .i64 0]).toList)
      clear HJ
      go_wp2_with (refine wpList_store_mid rfl 49 (.tmp 56) (.tmp 55) rfl _ _ _ rfl rfl ?_ ?_ ?_ ?_)
      · exact HIfilt.out
      · simp [Value.oneCell']
      clear d6 hth
      go_roundw
      case rel => exact ⟨k + 1, by omega, by go_num, HN⟩
      case measure => simp [intOf]; omega
    · have hki : ¬ (k : Int) < (c.filters.length : Int) := by omega
      have K9 := HJ
      have d7 : wr.cell? ⟨ga, 7, none⟩ = some (.slice pc2 c.clusters.length cc2) := HJ.out.xa.cell 7
      clear HJ
      go_wp2_with fail
      clear d7
      go_loopw [61] (fun i W => ∃ k : Nat, k ≤ c.clusters.length ∧ i = .int .i64 k ∧ Hid (MS w w6 g ga gb b1 b2 hi c (.slice pf1 c.filters.length cf1) (.slice pc1 c.clusters.length cc1) (.slice pv1 c.vhosts.length cv1) (.slice pf2 c.filters.length cf2) (.slice pc2 c.clusters.length cc2) (.slice pv2 c.vhosts.length cv2) (.slice pf3 c.filters.length cf3) (.slice pc3 c.clusters.length cc3) (.slice pv3 c.vhosts.length cv3) H R k 0 W)) (fun i _ => c.clusters.length - (intOf i).toNat)
      case atStart => exact ⟨0, Nat.zero_le _, rfl, K9⟩
      case round =>
        obtain ⟨k, hk, rfl, HJ⟩ := hrel
        clear K9
        by_cases hlt : k < c.clusters.length
        · have hki : (k : Int) < (c.clusters.length : Int) := by omega
          have hk0 : (0 : Int) ≤ (k : Int) := by omega
          obtain ⟨gc, p, n, cap2, rfl, hth, e2, hHk, hn⟩ := HJ.out.clusS hlt
          have hni : (n : Int) ≤ 9223372036854775807 := by omega
          have d7 : wr.cell? ⟨ga, 7, none⟩ = some (.slice (some ⟨gc, 0, none⟩) c.clusters.length cc2) := HJ.out.xa.cell 7
          have HHk := Lib.hid hHk
          clear hHk hth
          go_wp2_with fail
          clear d7 e2
          go_loopw [71] (fun i W => ∃ j : Nat, j ≤ n ∧ i = .int .i64 j ∧ Hid (MS w w6 g ga gb b1 b2 hi c (.slice pf1 c.filters.length cf1) (.slice pc1 c.clusters.length cc1) (.slice pv1 c.vhosts.length cv1) (.slice pf2 c.filters.length cf2) (.slice (some ⟨gc, 0, none⟩) c.clusters.length cc2) (.slice pv2 c.vhosts.length cv2) (.slice pf3 c.filters.length cf3) (.slice pc3 c.clusters.length cc3) (.slice pv3 c.vhosts.length cv3) H R k 0 W)) (fun i _ => n - (intOf i).toNat)
          case atStart => exact ⟨0, Nat.zero_le _, rfl, HJ⟩
          case round =>
            obtain ⟨j, hj, rfl, HI⟩ := hrel
            clear HJ
            have d7 : wr.cell? ⟨ga, 7, none⟩ = some (.slice (some ⟨gc, 0, none⟩) c.clusters.length cc2) := HI.out.xa.cell 7
            by_cases hlt2 : j < n
            · have hji : (j : Int) < (n : Int) := by omega
              have hj0 : (0 : Int) ≤ (j : Int) := by omega
              obtain ⟨gh, rfl, e2, ⟨u, e3⟩, e4⟩ := HI.out.host hlt HHk.out j hlt2
              have HN := Lib.hid (HI.out.setH (Nat.le_refl _) hlt HHk.out j (.string ⟨#[63]⟩))
              clear HI
              go_wp2_with fail
              clear d7 e2 e3 e4
              go_roundw
              case rel => exact ⟨j + 1, by omega, by go_num, HN⟩
              case measure => simp [intOf]; omega
            · have hji : ¬ (j : Int) < (n : Int) := by omega
              obtain ⟨gc2, p2, n2, cap4, hgc, hth, _, _, _⟩ := HI.out.clusS hlt
              injection hgc with hgc
              injection hgc with hgc _
              subst hgc
              have HN := Lib.hid (HI.out.setC (#[.string ⟨#[63]⟩, .int .i64 0, .slice none 0 0, .int .i64 0, .int .i64 0, .int .i64 0, .int .i64 0, .int .i64 0, .int .i64 0]).toList rfl)
              clear HI
              go_wp2_with (refine wpList_store_mid rfl 38 (.tmp 87) (.tmp 86) rfl _ _ _ rfl rfl ?_ ?_ ?_ ?_)
              · exact HIclus.out
              · simp [Value.oneCell']
              clear d7 hth
              go_roundw
              case rel => exact ⟨k + 1, by omega, by go_num, HN⟩
              case measure => simp [intOf]; omega
        · have hki : ¬ (k : Int) < (c.clusters.length : Int) := by omega
          obtain rfl : k = c.clusters.length := by omega
          have K10 := HJ
          have d8 : wr.cell? ⟨ga, 8, none⟩ = some (.slice pv2 c.vhosts.length cv2) := HJ.out.xa.cell 8
          clear HJ
          go_wp2_with fail
          clear d8
          go_loopw [92] (fun i W => ∃ k : Nat, k ≤ c.vhosts.length ∧ i = .int .i64 k ∧ Hid (MS w w6 g ga gb b1 b2 hi c (.slice pf1 c.filters.length cf1) (.slice pc1 c.clusters.length cc1) (.slice pv1 c.vhosts.length cv1) (.slice pf2 c.filters.length cf2) (.slice pc2 c.clusters.length cc2) (.slice pv2 c.vhosts.length cv2) (.slice pf3 c.filters.length cf3) (.slice pc3 c.clusters.length cc3) (.slice pv3 c.vhosts.length cv3) H R c.clusters.length k W)) (fun i _ => c.vhosts.length - (intOf i).toNat)
          case atStart => exact ⟨0, Nat.zero_le _, rfl, K10⟩
          case round =>
            obtain ⟨k, hk, rfl, HJ⟩ := hrel
            clear K10
            by_cases hlt : k < c.vhosts.length
            · have hki : (k : Int) < (c.vhosts.length : Int) := by omega
              have hk0 : (0 : Int) ≤ (k : Int) := by omega
              obtain ⟨gv, p, n, cap2, rfl, e2, e3, hRk, hn⟩ := HJ.out.vhosS hlt
              have hni : (n : Int) ≤ 32 := by omega
              have d8 : wr.cell? ⟨ga, 8, none⟩ = some (.slice (some ⟨gv, 0, none⟩) c.vhosts.length cv2) := HJ.out.xa.cell 8
              have HRk := Lib.hid hRk
              clear hRk e3
              go_wp2_with fail
              clear d8 e2
              go_loopw [102] (fun i W => ∃ j : Nat, j ≤ n ∧ i = .int .i64 j ∧ Hid (MS w w6 g ga gb b1 b2 hi c (.slice pf1 c.filters.length cf1) (.slice pc1 c.clusters.length cc1) (.slice pv1 c.vhosts.length cv1) (.slice pf2 c.filters.length cf2) (.slice pc2 c.clusters.length cc2) (.slice (some ⟨gv, 0, none⟩) c.vhosts.length cv2) (.slice pf3 c.filters.length cf3) (.slice pc3 c.clusters.length cc3) (.slice pv3 c.vhosts.length cv3) H R c.clusters.length k W)) (fun i _ => n - (intOf i).toNat)
              case atStart => exact ⟨0, Nat.zero_le _, rfl, HJ⟩
              case round =>
                obtain ⟨j, hj, rfl, HI⟩ := hrel
                clear HJ
                have d8 : wr.cell? ⟨ga, 8, none⟩ = some (.slice (some ⟨gv, 0, none⟩) c.vhosts.length cv2) := HI.out.xa.cell 8
                by_cases hlt2 : j < n
                · have hji : (j : Int) < (n : Int) := by omega
                  have hj0 : (0 : Int) ≤ (j : Int) := by omega
                  obtain ⟨e2, e3, _, hx⟩ := HI.out.rout hlt HRk.out
                  obtain ⟨gr, rfl, hth⟩ := hx (by omega)
                  replace hth := hth j hlt2
                  have HN := Lib.hid (HI.out.setR (Nat.le_refl _) hlt HRk.out (j * 13) (#[.bool false, .string ⟨#[63]⟩, .string ⟨#[]⟩, .string ⟨#[]⟩, .string ⟨#[]⟩, .int .i64 0, .string ⟨#[]⟩, .int .i64 0, .string ⟨#[]⟩, .string ⟨#[]⟩, .int .i64 0, .int .i64 0, .bool false]).toList)
                  clear HI hx
                  go_wp2_with (refine wpList_store_mid rfl 45 (.tmp 113) (.tmp 112) rfl _ _ _ rfl rfl ?_ ?_ ?_ ?_)
                  · exact HIrout.out
                  · simp [Value.oneCell']
                  clear d8 e2 e3 hth
                  go_roundw
                  case rel => exact ⟨j + 1, by omega, by go_num, HN⟩
                  case measure => simp [intOf]; omega
                · have hji : ¬ (j : Int) < (n : Int) := by omega
                  obtain ⟨i0, hif, hz0, hz1, hz2⟩ := info_parts PCfgP.infoR
                  obtain ⟨e2, e3, ⟨xs, hrow⟩, _⟩ := HI.out.rout hlt HRk.out
                  have MD := HI.out.drew
                  obtain ⟨e2d, e3d, _, _⟩ := MD.rout hlt HRk.out
                  have MA := HI.out.alloc (.cells #[.bool false, .string ⟨#[109, 111, 114, 101]⟩, .string ⟨#[]⟩, .string ⟨#[]⟩, .string ⟨#[]⟩, .int .i64 0, .string ⟨#[]⟩, .int .i64 0, .string ⟨#[]⟩, .string ⟨#[]⟩, .int .i64 0, .int .i64 0, .bool false] 45)
                  obtain ⟨h2, h3, _, _⟩ := MA.rout hlt HRk.out
                  have h8 := MA.cell.2.2
                  have ML := MA.drew
                  obtain ⟨f2, f3, ⟨ys, hrowL⟩, _⟩ := ML.rout hlt HRk.out
                  have f8 := ML.cell.2.2
                  have f8d : wr.drew.cell? ⟨ga, 8, none⟩ = some (.slice (some ⟨gv, 0, none⟩) c.vhosts.length cv2) := MD.xa.cell 8
                  have HNw := World.news_of_block (heap_alloc_new wr (.cells #[.bool false, .string ⟨#[109, 111, 114, 101]⟩, .string ⟨#[]⟩, .string ⟨#[]⟩, .string ⟨#[]⟩, .int .i64 0, .string ⟨#[]⟩, .int .i64 0, .string ⟨#[]⟩, .string ⟨#[]⟩, .int .i64 0, .int .i64 0, .bool false] 45))
                  have hlo : b1 ≤ (wr.alloc (.cells #[.bool false, .string ⟨#[109, 111, 114, 101]⟩, .string ⟨#[]⟩, .string ⟨#[]⟩, .string ⟨#[]⟩, .int .i64 0, .string ⟨#[]⟩, .int .i64 0, .string ⟨#[]⟩, .string ⟨#[]⟩, .int .i64 0, .int .i64 0, .bool false] 45)).drew.heap.size := ML.base hlt
                  clear hrow MD
                  go_wp2_with fail
                  go_region_law (first
                    | (refine step_append_lies _ (by rfl) (.tmp 123) (.tmp 125) 41 (by rfl) b1 45 i0 (.agg #[.bool false, .string .empty, .string .empty, .string .empty, .string .empty, .int .i64 0, .string .empty, .int .i64 0, .string .empty, .string .empty, .int .i64 0, .int .i64 0, .bool false]) 13 160 Tryz.underlying41 hif hz0 hz1 hz2 (by rfl) (by decide) (.slice p n cap2) n ys (by rfl) hrowL ⟨wr.heap.size, 0, none⟩ 1 1 (#[.bool false, .string ⟨#[109, 111, 114, 101]⟩, .string ⟨#[]⟩, .string ⟨#[]⟩, .string ⟨#[]⟩, .int .i64 0, .string ⟨#[]⟩, .int .i64 0, .string ⟨#[]⟩, .string ⟨#[]⟩, .int .i64 0, .int .i64 0, .bool false]).toList (by rfl) (by rfl) HNw (by simp [Value.oneCell']) (by omega) (by unfold maxLen; omega) (by omega) hlo (wr.heap.size + 1) (by simp) ?_; intro g4 cap4 w4 hown4 hg4 hat4 hlt4; obtain ⟨k8, ⟨u4, k9⟩, k10⟩ := ML.grown hlt (by rw [HRk.out]; exact hg4)))
                  all_goals
                    have HN := Lib.hid (ML.app hlt (by rw [HRk.out]; exact hg4) (.slice (some ⟨g4, 0, none⟩) (n + 1) cap4))
                    clear k8 k9 k10 hown4 hg4 hat4 hlt4 ML MA HNw hrowL hlo f2 f3 f8 f8d h2 h3 h8 e2 e3 e2d e3d d8 HI
                    go_wp2_with fail
                    go_roundw
                    case rel => exact ⟨k + 1, by omega, by go_num, HN⟩
                    case measure => simp [intOf]; omega
            · have hki : ¬ (k : Int) < (c.vhosts.length : Int) := by omega
              have hb := ConfCF.OCs.cf (ConfMark.OCs.still HO2.out HJ.out.still)
              have hc := HC0.out.below HJ.out.below
              have xb := HJ.out.xb
              have xc := HJ.out.xc
              unfold confV ConfOwn.CT at xb xc
              have n0 : wr.cell? ⟨gb, 0, none⟩ = some (.int .i64 c.conns) := xb.cell 0
              have n1 : wr.cell? ⟨gb, 1, none⟩ = some (.int .i64 c.body) := xb.cell 1
              have n2 : wr.cell? ⟨gb, 2, none⟩ = some (.int .i64 c.idle) := xb.cell 2
              have n3 : wr.cell? ⟨gb, 3, none⟩ = some (.int .i64 c.grace) := xb.cell 3
              have n4 : wr.cell? ⟨gb, 4, none⟩ = some (.int .i64 c.budget) := xb.cell 4
              have n5 : wr.cell? ⟨gb, 5, none⟩ = some (.int .i64 c.seed) := xb.cell 5
              have n6 : wr.cell? ⟨gb, 6, none⟩ = some (.slice pf3 c.filters.length cf3) := xb.cell 6
              have n7 : wr.cell? ⟨gb, 7, none⟩ = some (.slice pc3 c.clusters.length cc3) := xb.cell 7
              have n8 : wr.cell? ⟨gb, 8, none⟩ = some (.slice pv3 c.vhosts.length cv3) := xb.cell 8
              have m0 : wr.cell? ⟨g, 0, none⟩ = some (.int .i64 c.conns) := xc.cell 0
              have m1 : wr.cell? ⟨g, 1, none⟩ = some (.int .i64 c.body) := xc.cell 1
              have m2 : wr.cell? ⟨g, 2, none⟩ = some (.int .i64 c.idle) := xc.cell 2
              have m3 : wr.cell? ⟨g, 3, none⟩ = some (.int .i64 c.grace) := xc.cell 3
              have m4 : wr.cell? ⟨g, 4, none⟩ = some (.int .i64 c.budget) := xc.cell 4
              have m5 : wr.cell? ⟨g, 5, none⟩ = some (.int .i64 c.seed) := xc.cell 5
              have m6 : wr.cell? ⟨g, 6, none⟩ = some (.slice pf1 c.filters.length cf1) := xc.cell 6
              have m7 : wr.cell? ⟨g, 7, none⟩ = some (.slice pc1 c.clusters.length cc1) := xc.cell 7
              have m8 : wr.cell? ⟨g, 8, none⟩ = some (.slice pv1 c.vhosts.length cv1) := xc.cell 8
              have HBl := Lib.hid HJ.out.below
              have HCalls := Lib.hid (HSame2.out _ hb hc)
              clear xb xc hb hc HJ HSame2
              go_wp2_with fail
              refine HCalls.out.mono ?_
              rintro e w9 ⟨rfl, hb9⟩
              have HE := Lib.hid (below_chain HBl.out hb9)
              clear n0 n1 n2 n3 n4 n5 n6 n7 n8 m0 m1 m2 m3 m4 m5 m6 m7 m8 hb9 HCalls
              go_wp2_with fail
              go_ret
              exact ⟨rfl, HE.out⟩
theorem walk {H : Type} {enc : TypeId × Value → H} {W : World} {base : Nat} (v : Value) (d : DataW H) (p : List MemPlace) (hv : Value.okWide Tryz.prog W .any base 26 v)
    (hd : DataW.Trod enc Tryz.prog W 0 (fun _ => true) true 26 v d p) (hl : ∀ x ∈ p, x.block < W.heap.size) (hb : Rows.uptoBulk d ≤ 1048576)
    (hsh : W.ShapedOpen Tryz.prog) (hlaid : laidMetH Tryz.prog Rows.configMemoryUptoRow.laid W) :
    Calls Tryz.prog 6 #[v] W fun e w' => e = .returned (.bool true) ∧ Below W.heap.size W w' := by
  obtain ⟨c, vf, vc, vv, rfl, hC, hx⟩ := ConfArg.conf_arg hv hd hb
  exact walkIn c vf vc vv hx W (Fit.of hsh (ConfObj.pow_of_laid rfl hlaid)) hC
end Go.Proofs.YtfihehobkbfmiaaGreatDoor.ConfigMemoryW
