/- Texts of this seat, one behind another: R14Vhost, R14Eq, R14Filt, R14Check, RNormBig. -/
import Derived.Handy
import Derived.Laws.StructEq
import Derived.Deep.RegionHeld3
import Derived.BigRegion
import Derived.Maps.AppendAt
import Derived.Laws.DeepStrings4
import Derived.Test.YtcjobblhendkbaaR4
import Derived.Test.YtcjobblhendkbaaA1
import Derived.Test.YtcjobblhendkbaaR1
import Derived.Test.YtcjobblhendkbaaA2
/- Layer 14, the document's own vhost. -/
namespace Go.Proofs.Ytcjobblhendkbaa.R14Vhost
open Go.ChangeShapes Go.WideShapes Go.ChangeAt Go.RowKit Bytes LexPure ConfPure ConfMem Ret Mem Texts R14In R14Name R14Host R14Clus R14Rout R14Bnd
set_option maxRecDepth 100000
set_option linter.unusedVariables false
set_option linter.unusedSimpArgs false
abbrev VT : TypeId := 36
/-- the error of one vhost -/
def vhE (cs : List Clus) (ahead : List Vhos) (v : Vhos) : Int :=
  if ahead.any (fun x => x.domain == v.domain) || !domainB v.domain then 142 else if !inB v.routes.length 1 32 || !v.routes.all (fun r => routB r cs) then 144 else 0
theorem vhosE_step (cs : List Clus) (ahead vs : List Vhos) (v : Vhos) : vhosE cs ahead (v :: vs) = if vhE cs ahead v ≠ 0 then vhE cs ahead v else vhosE cs (ahead ++ [v]) vs := by
  conv => lhs; unfold vhosE
  unfold vhE
  by_cases h1 : (ahead.any (fun x => x.domain == v.domain) || !domainB v.domain) = true
  · rw [if_pos h1, if_pos h1, if_pos (by decide)]
  · rw [if_neg h1, if_neg h1]
    by_cases h2 : (!inB v.routes.length 1 32 || !v.routes.all (fun r => routB r cs)) = true
    · rw [if_pos h2, if_pos h2, if_pos (by decide)]
    · rw [if_neg h2, if_neg h2, if_neg (by decide)]
/-- the i-th vhost -/
theorem vhos_at {w : World} {p : Option Addr} {n cap : Nat} {G : List Vhos} (h : Vhoss w (.slice p n cap) G) (i : Nat) (hi : i < G.length) : ∃ g o hv, p = some ⟨g, o, none⟩ ∧ Routs w hv G[i].routes ∧ w.cell? ⟨g, o + i * 2, none⟩ = some (.string (ofL G[i].domain)) ∧ w.cell? ⟨g, o + i * 2 + 1, none⟩ = some hv := by
  obtain ⟨p2, c2, heq, _, hc⟩ := h.parts
  injection heq with e1 e2 e3
  obtain ⟨g, o, hp, _, hcell⟩ := hc (by omega)
  obtain ⟨hv, h1, c0, c1⟩ := hcell i hi
  exact ⟨g, o, hv, e1.trans hp, h1, c0, c1⟩
theorem vhos_dom {w : World} {g o n cap : Nat} {G : List Vhos} (h : Vhoss w (.slice (some ⟨g, o, none⟩) n cap) G) (i : Nat) (hi : i < G.length) : w.cell? ⟨g, o + i * 2, none⟩ = some (.string (ofL G[i].domain)) := by
  obtain ⟨g2, o2, _, hp, _, c0, _⟩ := vhos_at h i hi
  injection hp with hp
  injection hp with a1 a2
  subst a1 a2
  exact c0
/-- a config's box and its lists; a vhost's box beside -/
structure Xb (w : World) (g gv : Nat) (c : Conf) (vf vc vv : Value) (d : L) (h : Value) (rs : List Rout) (W : World) : Prop where
  box : Has W g CT (confV c vf vc vv)
  cf : CF W vf vc vv c
  vb : Has W gv VT #[.string (ofL d), h]
  rt : Routs W h rs
  below : Below g w W
theorem Xb.call {w W W' : World} {g gv : Nat} {c : Conf} {vf vc vv : Value} {d : L} {h : Value} {rs : List Rout} (x : Xb w g gv c vf vc vv d h rs W) (hb : Below W.heap.size W W') : Xb w g gv c vf vc vv d h rs W' :=
  ⟨x.box.below hb x.box.lt, x.cf.below hb, x.vb.below hb x.vb.lt, x.rt.below hb, ⟨hb.os.trans x.below.os, hb.tape.trans x.below.tape, hb.output.trans x.below.output, Nat.le_trans x.below.size hb.size, fun i hi => (hb.block i (Nat.lt_trans hi x.box.lt)).trans (x.below.block i hi)⟩⟩
theorem cf_drew {w : World} {vf vc vv : Value} {c : Conf} (h : CF w vf vc vv c) : CF w.drew vf vc vv c := by
  obtain ⟨h1, ⟨a, h2, h3⟩, ⟨b, h4, h5⟩, k1, k2⟩ := h
  exact ⟨h1, ⟨a, h2, h3⟩, ⟨b, h4, h5⟩, k1, k2⟩
theorem Xb.drew {w W : World} {g gv : Nat} {c : Conf} {vf vc vv : Value} {d : L} {h : Value} {rs : List Rout} (x : Xb w g gv c vf vc vv d h rs W) : Xb w g gv c vf vc vv d h rs W.drew := ⟨x.box.drew, cf_drew x.cf, x.vb.drew, x.rt, below_drew x.below⟩
theorem routs_at {w : World} {g o n cap : Nat} {G : List Rout} (h : Routs w (.slice (some ⟨g, o, none⟩) n cap) G) (i : Nat) (hi : i < G.length) (r : Rout) (hr : r = G[i]) :
    w.cell? ⟨g, o + i * 13, none⟩ = some (.bool r.pre) ∧ w.cell? ⟨g, o + i * 13 + 1, none⟩ = some (.string (ofL r.path)) ∧ w.cell? ⟨g, o + i * 13 + 2, none⟩ = some (.string (ofL r.method)) ∧ w.cell? ⟨g, o + i * 13 + 3, none⟩ = some (.string (ofL r.field)) ∧ w.cell? ⟨g, o + i * 13 + 4, none⟩ = some (.string (ofL r.value)) ∧ w.cell? ⟨g, o + i * 13 + 5, none⟩ = some (.int .i64 r.action) ∧ w.cell? ⟨g, o + i * 13 + 6, none⟩ = some (.string (ofL r.cluster)) ∧ w.cell? ⟨g, o + i * 13 + 7, none⟩ = some (.int .i64 r.status) ∧ w.cell? ⟨g, o + i * 13 + 8, none⟩ = some (.string (ofL r.text)) ∧ w.cell? ⟨g, o + i * 13 + 9, none⟩ = some (.string (ofL r.rewrite)) ∧ w.cell? ⟨g, o + i * 13 + 10, none⟩ = some (.int .i64 r.retries) ∧ w.cell? ⟨g, o + i * 13 + 11, none⟩ = some (.int .i64 r.timeout) ∧ w.cell? ⟨g, o + i * 13 + 12, none⟩ = some (.bool r.upgrade) := by
  subst hr
  obtain ⟨p2, c2, heq, _, hc⟩ := h.parts
  injection heq with e1 e2 e3
  subst e1
  obtain ⟨g2, o2, hpo, _, hcell⟩ := hc (by omega)
  injection hpo with hpo
  injection hpo with a1 a2
  subst a1 a2
  exact hcell i hi
theorem ret_int {a b : Int} (h : a = b) : Ending.returned (.int .i64 a) = .returned (.int .i64 b) := by rw [h]
def Unlike (vs : List Vhos) (i k : Nat) : Prop := ∀ j (hj : j < vs.length) (hi : i < vs.length), j < k → (vs[j].domain == vs[i].domain) = false
theorem Unlike.all {vs : List Vhos} {i : Nat} (hi : i < vs.length) (h : Unlike vs i i) : (vs.take i).any (fun x => x.domain == vs[i].domain) = false := by
  rw [List.any_eq_false]
  intro y hy
  obtain ⟨j, hj, rfl⟩ := List.getElem_of_mem hy
  rw [List.length_take] at hj
  rw [List.getElem_take]
  simpa using h j (by omega) hi (by omega)
theorem all_step (rs : List Rout) (cs : List Clus) (k : Nat) (h : k < rs.length) : (rs.take (k + 1)).all (fun r => routB r cs) = ((rs.take k).all (fun r => routB r cs) && routB rs[k] cs) := by
  rw [List.take_succ_eq_append_getElem h, List.all_append]
  simp
set_option maxHeartbeats 12800000 in
theorem rvhost_any (c : Conf) (vf vc vv : Value) (i : Nat) (hi : i < c.vhosts.length) (hx : FitConf c) (w : World) (hC : CF w vf vc vv c) :
    Calls Try.prog 17 #[.agg (confV c vf vc vv), .int .i64 (i : Nat)] w fun e w' => e = .returned (.int .i64 (vhE c.clusters (c.vhosts.take i) c.vhosts[i])) ∧ Below w.heap.size w w' := by
  obtain ⟨⟨pf, cf, rfl⟩, ⟨pc, cc, rfl⟩, ⟨pv, cv, rfl⟩⟩ := R14Bnd.CF.vals hC
  obtain ⟨gs, os, hvv, rfl, hrt, d0, d1⟩ := vhos_at hC.vhosts i hi
  have hx0 := hx.vhosts.2 _ (List.getElem_mem hi)
  have hcl := hx.clusters.1
  have hvl := hx.vhosts.1
  obtain ⟨V, hV⟩ : ∃ V, V = c.vhosts[i] := ⟨_, rfl⟩
  rw [← hV] at hrt d0 hx0 ⊢
  obtain ⟨pr, cr, rfl, _, hrc⟩ := hrt.parts
  have HHV := Lib.hid hV
  have HX0 := Lib.hid hx0
  have HD := Lib.hid (fun w => rdomain_any (ofL V.domain) (by rw [ofL_size]; exact hx0.domain) w)
  rw [toL_ofL] at HD
  have hbox := (Below.refl w.heap.size w).alloc (Nat.le_refl _) (.cells (confV c (.slice pf c.filters.length cf) (.slice pc c.clusters.length cc) (.slice (some ⟨gs, os, none⟩) c.vhosts.length cv)) CT)
  have HB : Hid (Xb w w.heap.size (w.heap.size + 1) c (.slice pf c.filters.length cf) (.slice pc c.clusters.length cc) (.slice (some ⟨gs, os, none⟩) c.vhosts.length cv) V.domain (.slice pr V.routes.length cr) V.routes
      ((w.alloc (.cells (confV c (.slice pf c.filters.length cf) (.slice pc c.clusters.length cc) (.slice (some ⟨gs, os, none⟩) c.vhosts.length cv)) CT)).alloc (.cells #[.string (ofL V.domain), .slice pr V.routes.length cr] VT))) := Lib.hid (by
    have hb2 := hbox.alloc (by simp) (.cells #[.string (ofL V.domain), .slice pr V.routes.length cr] VT)
    refine ⟨(Has.new w _ _).alloc _, hC.below hb2, ?_, hrt.below hb2, hb2⟩
    have := Has.new (w.alloc (.cells (confV c (.slice pf c.filters.length cf) (.slice pc c.clusters.length cc) (.slice (some ⟨gs, os, none⟩) c.vhosts.length cv)) CT)) VT #[.string (ofL V.domain), .slice pr V.routes.length cr]
    rw [show (w.alloc (.cells (confV c (.slice pf c.filters.length cf) (.slice pc c.clusters.length cc) (.slice (some ⟨gs, os, none⟩) c.vhosts.length cv)) CT)).heap.size = w.heap.size + 1 by simp] at this
    exact this)
  have e0 : (w.alloc (.cells (confV c (.slice pf c.filters.length cf) (.slice pc c.clusters.length cc) (.slice (some ⟨gs, os, none⟩) c.vhosts.length cv)) CT)).cell? ⟨gs, os + i * 2, none⟩ = some (.string (ofL V.domain)) := by
    have := vhos_dom (hC.below hbox).vhosts i hi
    rw [this, hV]
  have e1 : (w.alloc (.cells (confV c (.slice pf c.filters.length cf) (.slice pc c.clusters.length cc) (.slice (some ⟨gs, os, none⟩) c.vhosts.length cv)) CT)).cell? ⟨gs, os + i * 2 + 1, none⟩ = some (.slice pr V.routes.length cr) := by
    have hlt : gs < w.heap.size := World.block_lt_of_cell? _ _ d1
    exact (hbox.cell (p := ⟨gs, os + i * 2 + 1, none⟩) hlt).trans d1
  have hii : (i : Int) < (c.vhosts.length : Int) := by omega
  have hi0 : (0 : Int) ≤ (i : Int) := by omega
  unfold confV CT VT at HB
  unfold confV CT at e0 e1
  unfold confV
  clear d0 d1 hbox hV hx0 hC hrt hrc
  have HX := Lib.hid hx
  clear hx
  go_enter Try.func17, Try.ntmps17
  go_wp2_with fail
  obtain ⟨g, hg⟩ : ∃ g, g = w.heap.size := ⟨_, rfl⟩
  obtain ⟨gv, hgv⟩ : ∃ gv, gv = w.heap.size + 1 := ⟨_, rfl⟩
  rw [← hgv, ← hg] at HB ⊢
  have HG := Lib.hid hg
  clear hg hgv e0 e1
  generalize (w.alloc (.cells #[.int .i64 c.conns, .int .i64 c.body, .int .i64 c.idle, .int .i64 c.grace, .int .i64 c.budget, .int .i64 c.seed, .slice pf c.filters.length cf, .slice pc c.clusters.length cc, .slice (some ⟨gs, os, none⟩) c.vhosts.length cv] 26)).alloc (.cells #[.string (ofL V.domain), .slice pr V.routes.length cr] 36) = W1 at HB ⊢
  go_loopw [6] (fun i2 wr => ∃ k : Nat, k ≤ i ∧ i2 = .int .i64 k ∧ Hid (Unlike c.vhosts i k ∧ Xb w g gv c (.slice pf c.filters.length cf) (.slice pc c.clusters.length cc) (.slice (some ⟨gs, os, none⟩) c.vhosts.length cv) V.domain (.slice pr V.routes.length cr) V.routes wr)) (fun i2 _ => i - (intOf i2).toNat)
  case atStart => exact ⟨0, Nat.zero_le _, rfl, Lib.hid ⟨fun j _ _ h => absurd h (by omega), HB.out⟩⟩
  case round =>
    obtain ⟨k, hk, rfl, HJ⟩ := hrel
    clear HB
    by_cases hlt : k < i
    · have hki : (k : Int) < (i : Int) := by omega
      have hk0 : (0 : Int) ≤ (k : Int) := by omega
      have hkn : (k : Int) < (c.vhosts.length : Int) := by omega
      have hkl : k < c.vhosts.length := by omega
      have X1 := HJ.out.2.drew
      obtain ⟨y, hy⟩ : ∃ y, y = c.vhosts[k].domain := ⟨_, rfl⟩
      have t1 := vhos_dom X1.cf.vhosts k hkl
      rw [← hy] at t1
      have b8 : wr.drew.cell? ⟨g, 8, none⟩ = some (.slice (some ⟨gs, os, none⟩) c.vhosts.length cv) := X1.box.cell 8
      have v0 : wr.drew.cell? ⟨gv, 0, none⟩ = some (.string (ofL V.domain)) := X1.vb.cell 0
      have te := text_eq y V.domain
      obtain ⟨b, hb⟩ : ∃ b, b = (y == V.domain) := ⟨_, rfl⟩
      rw [← hb] at te
      have HY := Lib.hid (And.intro hb hy)
      clear hb hy
      go_wp2_with fail
      go_region_held3 (fun w' => w'.cell? ⟨g, 8, none⟩ = some (.slice (some ⟨gs, os, none⟩) c.vhosts.length cv) ∧ w'.cell? ⟨gs, os + k * 2, none⟩ = some (.string (ofL y)) ∧ w'.cell? ⟨gv, 0, none⟩ = some (.string (ofL V.domain))) (exact ⟨b8, t1, v0⟩) (fail)
      have X2 := Lib.hid X1
      clear X1 b8 t1 v0
      cases b with
      | true =>
        have HV : Hid (vhE c.clusters (c.vhosts.take i) V = 142) := Lib.hid (by
          obtain ⟨q1, q2⟩ := HY.out
          unfold vhE
          have : (c.vhosts.take i).any (fun x => x.domain == V.domain) = true := by
            rw [List.any_eq_true]
            refine ⟨c.vhosts[k], List.mem_iff_getElem.2 ⟨k, by rw [List.length_take]; omega, by rw [List.getElem_take]⟩, ?_⟩
            rw [← q2]
            exact q1.symm
          rw [this]
          rfl)
        clear HJ
        go_wp2_with fail
        go_ret
        exact ⟨ret_int HV.out.symm, HG.out ▸ X2.out.below⟩
      | false =>
        have HK : Hid (Unlike c.vhosts i (k + 1) ∧ Xb w g gv c (.slice pf c.filters.length cf) (.slice pc c.clusters.length cc) (.slice (some ⟨gs, os, none⟩) c.vhosts.length cv) V.domain (.slice pr V.routes.length cr) V.routes wr.drew) := Lib.hid ⟨fun j hj hi2 hjk => by
          rcases Nat.lt_or_ge j k with h | h
          · exact HJ.out.1 j hj hi2 h
          · obtain rfl : j = k := by omega
            obtain ⟨q1, q2⟩ := HY.out
            rw [← q2, ← HHV.out]
            exact q1.symm, X2.out⟩
        clear HJ X2
        go_wp2_with fail
        go_roundw
        case rel => exact ⟨k + 1, by omega, by go_num, HK⟩
        case measure => simp [intOf]; omega
    · have hki : ¬ (k : Int) < (i : Int) := by omega
      obtain rfl : k = i := by omega
      have HA : Hid ((c.vhosts.take k).any (fun x => x.domain == V.domain) = false) := Lib.hid (by rw [HHV.out]; exact HJ.out.1.all hi)
      have HJ2 := Lib.hid HJ.out.2
      have v0 : wr.cell? ⟨gv, 0, none⟩ = some (.string (ofL V.domain)) := HJ2.out.vb.cell 0
      have v1 : wr.cell? ⟨gv, 1, none⟩ = some (.slice pr V.routes.length cr) := HJ2.out.vb.cell 1
      obtain ⟨rd, hrd⟩ : ∃ rd, rd = domainB V.domain := ⟨_, rfl⟩
      rw [← hrd] at HD
      have HRd := Lib.hid hrd
      clear HJ hlt hrd
      go_wp2_with fail
      refine (HD.out _).mono ?_
      rintro e w3 ⟨rfl, rfl⟩
      clear HD
      cases rd with
      | false =>
        have HV : Hid (vhE c.clusters (c.vhosts.take k) V = 142) := Lib.hid (by
          unfold vhE
          rw [HA.out, ← HRd.out]
          rfl)
        go_wp2_with fail
        go_ret
        exact ⟨ret_int HV.out.symm, HG.out ▸ HJ2.out.below⟩
      | true =>
        by_cases hl1 : V.routes.length < 1
        · have l1 : decide ((V.routes.length : Int) < 1) = true := decide_eq_true (by omega)
          have HV : Hid (vhE c.clusters (c.vhosts.take k) V = 144) := Lib.hid (by
            unfold vhE
            rw [HA.out, ← HRd.out]
            have : inB V.routes.length 1 32 = false := by unfold inB; rw [decide_eq_false (by omega)]; rfl
            rw [this]
            rfl)
          clear hl1
          go_wp2_with fail
          go_ret
          exact ⟨ret_int HV.out.symm, HG.out ▸ HJ2.out.below⟩
        by_cases hl2 : 32 < V.routes.length
        · have l1 : decide ((V.routes.length : Int) < 1) = false := decide_eq_false (by omega)
          have l2 : decide ((32 : Int) < (V.routes.length : Int)) = true := decide_eq_true (by omega)
          have HV : Hid (vhE c.clusters (c.vhosts.take k) V = 144) := Lib.hid (by
            unfold vhE
            rw [HA.out, ← HRd.out]
            have : inB V.routes.length 1 32 = false := by unfold inB; rw [decide_eq_false (p := ((V.routes.length : Nat) : Int) ≤ 32) (by omega), Bool.and_false]
            rw [this]
            rfl)
          clear hl1 hl2
          go_wp2_with fail
          go_ret
          exact ⟨ret_int HV.out.symm, HG.out ▸ HJ2.out.below⟩
        have l1 : decide ((V.routes.length : Int) < 1) = false := decide_eq_false (by omega)
        have l2 : decide ((32 : Int) < (V.routes.length : Int)) = false := decide_eq_false (by omega)
        have HV : Hid (vhE c.clusters (c.vhosts.take k) V = if V.routes.all (fun r => routB r c.clusters) = true then 0 else 144) := Lib.hid (by
          unfold vhE
          rw [HA.out, ← HRd.out]
          have : inB V.routes.length 1 32 = true := by unfold inB; rw [decide_eq_true (by omega), decide_eq_true (by omega)]; rfl
          rw [this]
          cases V.routes.all (fun r => routB r c.clusters) <;> rfl)
        have hr32 : V.routes.length ≤ 32 := by omega
        clear hl1 hl2 HA HRd
        go_wp2_with fail
        clear l1 l2 v0 v1
        go_loopw [7] (fun i2 wr => ∃ k : Nat, k ≤ V.routes.length ∧ i2 = .int .i64 k ∧ Hid ((V.routes.take k).all (fun r => routB r c.clusters) = true ∧ Xb w g gv c (.slice pf c.filters.length cf) (.slice pc c.clusters.length cc) (.slice (some ⟨gs, os, none⟩) c.vhosts.length cv) V.domain (.slice pr V.routes.length cr) V.routes wr)) (fun i2 _ => V.routes.length - (intOf i2).toNat)
        case atStart => exact ⟨0, Nat.zero_le _, rfl, Lib.hid ⟨rfl, HJ2.out⟩⟩
        case round =>
          clear hk hii hki HJ2
          obtain ⟨k2, hk2, rfl, HI⟩ := hrel
          by_cases hlt : k2 < V.routes.length
          · have hki : (k2 : Int) < (V.routes.length : Int) := by omega
            have hk0 : (0 : Int) ≤ (k2 : Int) := by omega
            have v1 : wr.cell? ⟨gv, 1, none⟩ = some (.slice pr V.routes.length cr) := HI.out.2.vb.cell 1
            have X1 := HI.out.2.drew
            have v1d : wr.drew.cell? ⟨gv, 1, none⟩ = some (.slice pr V.routes.length cr) := X1.vb.cell 1
            have b7 : wr.drew.cell? ⟨g, 7, none⟩ = some (.slice pc c.clusters.length cc) := X1.box.cell 7
            obtain ⟨_, _, heq, _, hcell⟩ := X1.rt.parts
            injection heq with q1 q2 q3
            subst q1 q3
            obtain ⟨gr, orr, rfl, _, hcell⟩ := hcell (by omega)
            have HS := Lib.hid (all_step V.routes c.clusters k2 hlt)
            obtain ⟨r, hr⟩ : ∃ r, r = V.routes[k2] := ⟨_, rfl⟩
            have hfr : FitRout r := by rw [hr]; exact HX0.out.routes.2 _ (List.getElem_mem hlt)
            have HRr := Lib.hid hr
            have s1 := And.intro v1d (And.intro b7 (routs_at X1.rt k2 hlt r hr))
            rw [← hr] at HS
            obtain ⟨rb, hrb⟩ : ∃ rb, rb = routB r c.clusters := ⟨_, rfl⟩
            have HRo := Lib.hid (fun w h => R14Route.rroute_any r hfr c.clusters (.slice pc c.clusters.length cc) hcl w h)
            rw [← hrb] at HS HRo
            clear hcell hr hrb hfr
            go_wp2_with fail
            go_region_held3 (fun w' => w'.cell? ⟨gv, 1, none⟩ = some (.slice (some ⟨gr, orr, none⟩) V.routes.length cr) ∧ w'.cell? ⟨g, 7, none⟩ = some (.slice pc c.clusters.length cc) ∧ w'.cell? ⟨gr, orr + k2 * 13, none⟩ = some (.bool r.pre) ∧ w'.cell? ⟨gr, orr + k2 * 13 + 1, none⟩ = some (.string (ofL r.path)) ∧ w'.cell? ⟨gr, orr + k2 * 13 + 2, none⟩ = some (.string (ofL r.method)) ∧ w'.cell? ⟨gr, orr + k2 * 13 + 3, none⟩ = some (.string (ofL r.field)) ∧ w'.cell? ⟨gr, orr + k2 * 13 + 4, none⟩ = some (.string (ofL r.value)) ∧ w'.cell? ⟨gr, orr + k2 * 13 + 5, none⟩ = some (.int .i64 r.action) ∧ w'.cell? ⟨gr, orr + k2 * 13 + 6, none⟩ = some (.string (ofL r.cluster)) ∧ w'.cell? ⟨gr, orr + k2 * 13 + 7, none⟩ = some (.int .i64 r.status) ∧ w'.cell? ⟨gr, orr + k2 * 13 + 8, none⟩ = some (.string (ofL r.text)) ∧ w'.cell? ⟨gr, orr + k2 * 13 + 9, none⟩ = some (.string (ofL r.rewrite)) ∧ w'.cell? ⟨gr, orr + k2 * 13 + 10, none⟩ = some (.int .i64 r.retries) ∧ w'.cell? ⟨gr, orr + k2 * 13 + 11, none⟩ = some (.int .i64 r.timeout) ∧ w'.cell? ⟨gr, orr + k2 * 13 + 12, none⟩ = some (.bool r.upgrade)) (first | exact s5 | exact s1)
              (first
                | (go_at_call 35; refine (HRo.out _ X1.cf.clusters).mono ?_; rintro e w5 ⟨rfl, hb5⟩
                   have X5 := X1.call hb5
                   have s5 : w5.cell? ⟨gv, 1, none⟩ = some (.slice (some ⟨gr, orr, none⟩) V.routes.length cr) ∧ w5.cell? ⟨g, 7, none⟩ = some (.slice pc c.clusters.length cc) ∧ _ := And.intro (X5.vb.cell 1) (And.intro (X5.box.cell 7) (routs_at X5.rt k2 hlt r HRr.out))))
            have HI5 := Lib.hid X5
            cases rb with
            | false =>
              have HF : Hid (V.routes.all (fun r => routB r c.clusters) = false) := Lib.hid (by
                have e : V.routes = V.routes.take (k2 + 1) ++ V.routes.drop (k2 + 1) := (List.take_append_drop _ _).symm
                rw [e, List.all_append, HS.out, Bool.and_false, Bool.false_and])
              clear X1 X5 hb5 v1d b7 v1 s1 s5 HI
              go_wp2_with fail
              go_ret
              exact ⟨ret_int (by rw [HV.out, HF.out]; rfl), HG.out ▸ HI5.out.below⟩
            | true =>
              have HK : Hid ((V.routes.take (k2 + 1)).all (fun r => routB r c.clusters) = true ∧ Xb w g gv c (.slice pf c.filters.length cf) (.slice pc c.clusters.length cc) (.slice (some ⟨gs, os, none⟩) c.vhosts.length cv) V.domain (.slice (some ⟨gr, orr, none⟩) V.routes.length cr) V.routes w5) := Lib.hid ⟨by rw [HS.out, HI.out.1]; rfl, HI5.out⟩
              clear X1 X5 hb5 v1d b7 v1 s1 s5 HI HI5
              go_wp2_with fail
              go_roundw
              case rel => exact ⟨k2 + 1, by omega, by go_num, HK⟩
              case measure => simp [intOf]; omega
          · have hki : ¬ (k2 : Int) < (V.routes.length : Int) := by omega
            obtain rfl : k2 = V.routes.length := by omega
            have HF : Hid (V.routes.all (fun r => routB r c.clusters) = true) := Lib.hid (by have := HI.out.1; rwa [List.take_length] at this)
            have HI5 := Lib.hid HI.out.2
            have v1 : wr.cell? ⟨gv, 1, none⟩ = some (.slice pr V.routes.length cr) := HI.out.2.vb.cell 1
            clear HI hlt
            go_wp2_with fail
            go_ret
            exact ⟨ret_int (by rw [HV.out, HF.out]; rfl), HG.out ▸ HI5.out.below⟩
end Go.Proofs.Ytcjobblhendkbaa.R14Vhost

/- Layer 14: two filters held against each other. -/
namespace Go.Proofs.Ytcjobblhendkbaa.R14Eq
open Go.ChangeShapes Go.WideShapes Go.ChangeAt Go.RowKit LexPure Bytes ConfPure ConfMem Mem
set_option maxRecDepth 20000
set_option linter.unusedSimpArgs false
abbrev FT : TypeId := 51
def fcs (k : Int) (a b : ByteArray) (n m j : Int) : Array Value := #[.int .i64 k, .string a, .string b, .int .i64 n, .int .i64 m, .int .i64 j]
set_option maxHeartbeats 6400000 in
theorem eqF (k k' n n' m m' j j' : Int) (a a' b b' : ByteArray) (w : World) : (binOp .eql 51 (.agg #[.int .i64 k, .string a, .string b, .int .i64 n, .int .i64 m, .int .i64 j]) (.agg #[.int .i64 k', .string a', .string b', .int .i64 n', .int .i64 m', .int .i64 j'])).run Try.prog w =
    .ok (.bool (k == k' && (a.toList == a'.toList && (b.toList == b'.toList && (n == n' && (m == m' && j == j')))))) w := by
  have u3 := Try.underlying3
  have a3 := Try.isAgg3
  have z3 := Try.sizeOf3
  have u9 := Try.underlying9
  have a9 := Try.isAgg9
  have z9 := Try.sizeOf9
  have hS : Try.prog.underlying 51 = some (.struct (Try.prog.fieldsOf 51)) := by kernel_rfl
  have hp : Try.prog.stoodInHeld 51 = false := by kernel_rfl
  obtain ⟨e1, h1⟩ : ∃ e1, (k == k') = e1 := ⟨_, rfl⟩
  obtain ⟨e2, h2⟩ : ∃ e2, (a.toList == a'.toList) = e2 := ⟨_, rfl⟩
  obtain ⟨e3, h3⟩ : ∃ e3, (b.toList == b'.toList) = e3 := ⟨_, rfl⟩
  obtain ⟨e4, h4⟩ : ∃ e4, (n == n') = e4 := ⟨_, rfl⟩
  obtain ⟨e5, h5⟩ : ∃ e5, (m == m') = e5 := ⟨_, rfl⟩
  obtain ⟨e6, h6⟩ : ∃ e6, (j == j') = e6 := ⟨_, rfl⟩
  rw [h1, h2, h3, h4, h5, h6]
  rw [run_eql_struct, show (10000 : Nat) = 9999 + 1 from rfl, run_equalIn_agg w 9999 51 _ _ hS hp]
  simp only [Program.fieldsOf, Try.underlying51]
  cases e1 <;> cases e2 <;> cases e3 <;> cases e4 <;> cases e5 <;> cases e6 <;> go_simp
end Go.Proofs.Ytcjobblhendkbaa.R14Eq

/- Layer 14, the document's own Filter. -/
namespace Go.Proofs.Ytcjobblhendkbaa.R14Filt
open Go.ChangeShapes Go.WideShapes Go.ChangeAt Go.RowKit Bytes LexPure ConfPure ConfMem Ret Mem R14In R14Name R14Eq
set_option maxRecDepth 100000
set_option linter.unusedVariables false
set_option linter.unusedSimpArgs false
theorem empt (a : ByteArray) : (a.toList == (⟨#[]⟩ : ByteArray).toList) = (toL a == []) := by
  rw [ByteArray.toList_eq, ByteArray.toList_eq]
theorem self_ (a : ByteArray) : (a.toList == a.toList) = true := beq_self_eq_true _
/-- the two boxes, apart -/
structure Pair (w : World) (g1 g2 : Nat) (cp cg : Array Value) (W : World) : Prop where
  p : Has W g1 FT cp
  g : Has W g2 FT cg
  below : Below g1 w W
  lo : g1 < g2
theorem Pair.start (w : World) (cp cg : Array Value) : Pair w w.heap.size (w.heap.size + 1) cp cg ((w.alloc (.cells cp FT)).alloc (.cells cg FT)) := by
  refine ⟨(Has.new w _ _).alloc _, ?_, ((Below.refl w.heap.size w).alloc (Nat.le_refl _) _).alloc (by simp) _, by omega⟩
  have := Has.new (w.alloc (.cells cp FT)) FT cg
  rw [show (w.alloc (.cells cp FT)).heap.size = w.heap.size + 1 by simp] at this
  exact this
theorem Pair.drew {w W : World} {g1 g2 : Nat} {cp cg : Array Value} (h : Pair w g1 g2 cp cg W) : Pair w g1 g2 cp cg W.drew := ⟨h.p.drew, h.g.drew, below_drew h.below, h.lo⟩
theorem Pair.set {w W : World} {g1 g2 : Nat} {cp cg : Array Value} (h : Pair w g1 g2 cp cg W) (i : Nat) (u : Value) : Pair w g1 g2 cp (cg.setIfInBounds i u) (W.setCell ⟨g2, i, none⟩ u) :=
  ⟨h.p.far (p := ⟨g2, i, none⟩) (Nat.ne_of_lt h.lo) u, h.g.set_ i u, h.below.setCell (p := ⟨g2, i, none⟩) (Nat.le_of_lt h.lo) u, h.lo⟩
theorem Pair.call {w W W' : World} {g1 g2 : Nat} {cp cg : Array Value} (h : Pair w g1 g2 cp cg W) (hb : Below W.heap.size W W') : Pair w g1 g2 cp cg W' := ⟨h.p.below hb h.p.lt, h.g.below hb h.g.lt, ⟨hb.os.trans h.below.os, hb.tape.trans h.below.tape, hb.output.trans h.below.output, Nat.le_trans h.below.size hb.size, fun i hi => (hb.block i (Nat.lt_trans hi h.p.lt)).trans (h.below.block i hi)⟩, h.lo⟩
set_option maxHeartbeats 3200000 in
theorem filt1 (a b : ByteArray) (n m j : Int) (ha : a.size ≤ 1048576) (hb : b.size ≤ 1048576) (w : World) :
    Calls Try.prog 14 #[.agg (fcs 1 a b n m j)] w fun e w' => e = .returned (.bool (filtB ⟨1, toL a, toL b, n, m, j⟩)) ∧ Below w.heap.size w w' := by
  have H0 := Lib.hid (fun w => rname_any a ha w)
  have H1 := Lib.hid (fun w => rtext_any b hb w)
  obtain ⟨r0, hr0⟩ : ∃ r0, r0 = (nameB (toL a)) := ⟨_, rfl⟩
  rw [← hr0] at H0
  obtain ⟨r1, hr1⟩ : ∃ r1, r1 = (textB (toL b)) := ⟨_, rfl⟩
  rw [← hr1] at H1
  have heq := fun w => eqF 1 1 n 0 m 0 j 0 a a b b w
  obtain ⟨e0, he0⟩ : ∃ e0, e0 = ((n == 0) && (m == 0) && (j == 0)) := ⟨_, rfl⟩
  replace heq : ∀ w, (binOp .eql 51 (.agg #[.int .i64 1, .string a, .string b, .int .i64 n, .int .i64 m, .int .i64 j]) (.agg #[.int .i64 1, .string a, .string b, .int .i64 0, .int .i64 0, .int .i64 0])).run Try.prog w = .ok (.bool e0) w := fun w => by
    rw [heq w, he0]
    congr 2
    simp only [beq_self_eq_true, Bool.true_and, Bool.and_true, empt, self_, Bool.and_assoc]
  have HV : Hid (filtB ⟨1, toL a, toL b, n, m, j⟩ = (e0 && r0 && r1)) := Lib.hid (by
    rw [he0, hr0, hr1]
    unfold filtB
    dsimp only
    rw [if_pos (by decide)]
    try simp [TOK, Bool.and_assoc])
  have HPr := Lib.hid (Pair.start w (fcs 1 a b n m j) (fcs 1 ⟨#[]⟩ ⟨#[]⟩ 0 0 0))
  clear he0 hr0 hr1 ha hb
  unfold fcs FT at HPr
  unfold fcs
  obtain ⟨g1, hg1⟩ : ∃ g1, g1 = w.heap.size := ⟨_, rfl⟩
  obtain ⟨g2, hg2⟩ : ∃ g2, g2 = w.heap.size + 1 := ⟨_, rfl⟩
  rw [← hg2, ← hg1] at HPr
  rw [← hg1]
  have HG1 := Lib.hid hg1
  have HG2 := Lib.hid hg2
  clear hg1 hg2
  go_enter Try.func14, Try.ntmps14
  go_wp2_with fail
  rw [← HG2.out, ← HG1.out]
  generalize (w.alloc (.cells #[.int .i64 1, .string a, .string b, .int .i64 n, .int .i64 m, .int .i64 j] 51)).alloc (.cells #[.int .i64 1, .string ⟨#[]⟩, .string ⟨#[]⟩, .int .i64 0, .int .i64 0, .int .i64 0] 51) = W2 at HPr ⊢
  have hne : g1 ≠ g2 := Nat.ne_of_lt HPr.out.lo
  have hne2 : g2 ≠ g1 := Ne.symm hne
  have p0 : W2.cell? ⟨g1, 0, none⟩ = some (.int .i64 1) := HPr.out.p.cell 0
  have q0 : W2.cell? ⟨g2, 0, none⟩ = some (.int .i64 1) := HPr.out.g.cell 0
  have p1 : W2.cell? ⟨g1, 1, none⟩ = some (.string a) := HPr.out.p.cell 1
  have q1 : W2.cell? ⟨g2, 1, none⟩ = some (.string ⟨#[]⟩) := HPr.out.g.cell 1
  have p2 : W2.cell? ⟨g1, 2, none⟩ = some (.string b) := HPr.out.p.cell 2
  have q2 : W2.cell? ⟨g2, 2, none⟩ = some (.string ⟨#[]⟩) := HPr.out.g.cell 2
  have p3 : W2.cell? ⟨g1, 3, none⟩ = some (.int .i64 n) := HPr.out.p.cell 3
  have q3 : W2.cell? ⟨g2, 3, none⟩ = some (.int .i64 0) := HPr.out.g.cell 3
  have p4 : W2.cell? ⟨g1, 4, none⟩ = some (.int .i64 m) := HPr.out.p.cell 4
  have q4 : W2.cell? ⟨g2, 4, none⟩ = some (.int .i64 0) := HPr.out.g.cell 4
  have p5 : W2.cell? ⟨g1, 5, none⟩ = some (.int .i64 j) := HPr.out.p.cell 5
  have q5 : W2.cell? ⟨g2, 5, none⟩ = some (.int .i64 0) := HPr.out.g.cell 5
  have z1 : W2.frozen? ⟨g2, 1, none⟩ = false := HPr.out.g.free 1
  have z2 : W2.frozen? ⟨g2, 2, none⟩ = false := HPr.out.g.free 2
  go_region
  have P3 := Lib.hid ((HPr.out.drew.set 1 (.string a)).set 2 (.string b))
  cases e0 with
  | false =>
    go_wp2_with fail
    go_ret
    exact ⟨ret_bool (by rw [HV.out] <;> rfl), P3.out.below⟩
  | true =>
    go_wp2_with fail
    refine (H0.out _).mono ?_
    rintro e w4 ⟨rfl, hb0⟩
    have P4 := Lib.hid (P3.out.call hb0)
    clear hb0 H0 P3
    have k1 : w4.cell? ⟨g1, 1, none⟩ = some (.string a) := P4.out.p.cell 1
    have k2 : w4.cell? ⟨g1, 2, none⟩ = some (.string b) := P4.out.p.cell 2
    cases r0 with
    | false =>
      go_wp2_with fail
      go_ret
      exact ⟨ret_bool (by rw [HV.out] <;> rfl), P4.out.below⟩
    | true =>
      go_wp2_with fail
      refine (H1.out _).mono ?_
      rintro e w5 ⟨rfl, rfl⟩
      clear H1
      cases r1 with
      | false =>
        go_wp2_with fail
        go_ret
        exact ⟨ret_bool (by rw [HV.out] <;> rfl), P4.out.below⟩
      | true =>
        go_wp2_with fail
        go_ret
        exact ⟨ret_bool (by rw [HV.out] <;> rfl), P4.out.below⟩
set_option maxHeartbeats 3200000 in
theorem filt2 (a b : ByteArray) (n m j : Int) (ha : a.size ≤ 1048576) (hb : b.size ≤ 1048576) (w : World) :
    Calls Try.prog 14 #[.agg (fcs 2 a b n m j)] w fun e w' => e = .returned (.bool (filtB ⟨2, toL a, toL b, n, m, j⟩)) ∧ Below w.heap.size w w' := by
  have H0 := Lib.hid (fun w => rname_any a ha w)
  obtain ⟨r0, hr0⟩ : ∃ r0, r0 = (nameB (toL a)) := ⟨_, rfl⟩
  rw [← hr0] at H0
  have heq := fun w => eqF 2 2 n 0 m 0 j 0 a a b ⟨#[]⟩ w
  obtain ⟨e0, he0⟩ : ∃ e0, e0 = ((toL b == []) && (n == 0) && (m == 0) && (j == 0)) := ⟨_, rfl⟩
  replace heq : ∀ w, (binOp .eql 51 (.agg #[.int .i64 2, .string a, .string b, .int .i64 n, .int .i64 m, .int .i64 j]) (.agg #[.int .i64 2, .string a, .string ⟨#[]⟩, .int .i64 0, .int .i64 0, .int .i64 0])).run Try.prog w = .ok (.bool e0) w := fun w => by
    rw [heq w, he0]
    congr 2
    simp only [beq_self_eq_true, Bool.true_and, Bool.and_true, empt, self_, Bool.and_assoc]
  have HV : Hid (filtB ⟨2, toL a, toL b, n, m, j⟩ = (e0 && r0)) := Lib.hid (by
    rw [he0, hr0]
    unfold filtB
    dsimp only
    rw [if_neg (by decide), if_pos (by decide)]
    try simp [TOK, Bool.and_assoc])
  have HPr := Lib.hid (Pair.start w (fcs 2 a b n m j) (fcs 2 ⟨#[]⟩ ⟨#[]⟩ 0 0 0))
  clear he0 hr0 ha hb
  unfold fcs FT at HPr
  unfold fcs
  go_enter Try.func14, Try.ntmps14
  have P3 := Lib.hid (Pair.start w (fcs 2 a b n m j) (fcs 2 a ⟨#[]⟩ 0 0 0))
  unfold fcs FT at P3
  clear HPr
  cases e0 with
  | false =>
    go_wp2_with fail
    go_ret
    exact ⟨ret_bool (by rw [HV.out] <;> rfl), P3.out.below⟩
  | true =>
    go_wp2_with fail
    refine (H0.out _).mono ?_
    rintro e w4 ⟨rfl, hb0⟩
    have P4 := Lib.hid (P3.out.call hb0)
    clear hb0 H0 P3
    cases r0 with
    | false =>
      go_wp2_with fail
      go_ret
      exact ⟨ret_bool (by rw [HV.out] <;> rfl), P4.out.below⟩
    | true =>
      go_wp2_with fail
      go_ret
      exact ⟨ret_bool (by rw [HV.out] <;> rfl), P4.out.below⟩
set_option maxHeartbeats 3200000 in
theorem filt3 (a b : ByteArray) (n m j : Int) (ha : a.size ≤ 1048576) (hb : b.size ≤ 1048576) (w : World) :
    Calls Try.prog 14 #[.agg (fcs 3 a b n m j)] w fun e w' => e = .returned (.bool (filtB ⟨3, toL a, toL b, n, m, j⟩)) ∧ Below w.heap.size w w' := by
  have H0 := Lib.hid (fun w => rin_any n 1 1073741824 w)
  have H1 := Lib.hid (fun w => rin_any m 1 1073741824 w)
  have H2 := Lib.hid (fun w => rin_any j 1 1073741824 w)
  obtain ⟨r0, hr0⟩ : ∃ r0, r0 = (inB n 1 1073741824) := ⟨_, rfl⟩
  rw [← hr0] at H0
  obtain ⟨r1, hr1⟩ : ∃ r1, r1 = (inB m 1 1073741824) := ⟨_, rfl⟩
  rw [← hr1] at H1
  obtain ⟨r2, hr2⟩ : ∃ r2, r2 = (inB j 1 1073741824) := ⟨_, rfl⟩
  rw [← hr2] at H2
  have heq := fun w => eqF 3 3 n n m m j j a ⟨#[]⟩ b ⟨#[]⟩ w
  obtain ⟨e0, he0⟩ : ∃ e0, e0 = ((toL a == []) && (toL b == [])) := ⟨_, rfl⟩
  replace heq : ∀ w, (binOp .eql 51 (.agg #[.int .i64 3, .string a, .string b, .int .i64 n, .int .i64 m, .int .i64 j]) (.agg #[.int .i64 3, .string ⟨#[]⟩, .string ⟨#[]⟩, .int .i64 n, .int .i64 m, .int .i64 j])).run Try.prog w = .ok (.bool e0) w := fun w => by
    rw [heq w, he0]
    congr 2
    simp only [beq_self_eq_true, Bool.true_and, Bool.and_true, empt, self_, Bool.and_assoc]
  have HV : Hid (filtB ⟨3, toL a, toL b, n, m, j⟩ = (e0 && r0 && r1 && r2)) := Lib.hid (by
    rw [he0, hr0, hr1, hr2]
    unfold filtB
    dsimp only
    rw [if_neg (by decide), if_neg (by decide), if_pos (by decide)]
    try simp [TOK, Bool.and_assoc])
  have HPr := Lib.hid (Pair.start w (fcs 3 a b n m j) (fcs 3 ⟨#[]⟩ ⟨#[]⟩ 0 0 0))
  clear he0 hr0 hr1 hr2 ha hb
  unfold fcs FT at HPr
  unfold fcs
  obtain ⟨g1, hg1⟩ : ∃ g1, g1 = w.heap.size := ⟨_, rfl⟩
  obtain ⟨g2, hg2⟩ : ∃ g2, g2 = w.heap.size + 1 := ⟨_, rfl⟩
  rw [← hg2, ← hg1] at HPr
  rw [← hg1]
  have HG1 := Lib.hid hg1
  have HG2 := Lib.hid hg2
  clear hg1 hg2
  go_enter Try.func14, Try.ntmps14
  go_wp2_with fail
  rw [← HG2.out, ← HG1.out]
  generalize (w.alloc (.cells #[.int .i64 3, .string a, .string b, .int .i64 n, .int .i64 m, .int .i64 j] 51)).alloc (.cells #[.int .i64 3, .string ⟨#[]⟩, .string ⟨#[]⟩, .int .i64 0, .int .i64 0, .int .i64 0] 51) = W2 at HPr ⊢
  have hne : g1 ≠ g2 := Nat.ne_of_lt HPr.out.lo
  have hne2 : g2 ≠ g1 := Ne.symm hne
  have p0 : W2.cell? ⟨g1, 0, none⟩ = some (.int .i64 3) := HPr.out.p.cell 0
  have q0 : W2.cell? ⟨g2, 0, none⟩ = some (.int .i64 3) := HPr.out.g.cell 0
  have p1 : W2.cell? ⟨g1, 1, none⟩ = some (.string a) := HPr.out.p.cell 1
  have q1 : W2.cell? ⟨g2, 1, none⟩ = some (.string ⟨#[]⟩) := HPr.out.g.cell 1
  have p2 : W2.cell? ⟨g1, 2, none⟩ = some (.string b) := HPr.out.p.cell 2
  have q2 : W2.cell? ⟨g2, 2, none⟩ = some (.string ⟨#[]⟩) := HPr.out.g.cell 2
  have p3 : W2.cell? ⟨g1, 3, none⟩ = some (.int .i64 n) := HPr.out.p.cell 3
  have q3 : W2.cell? ⟨g2, 3, none⟩ = some (.int .i64 0) := HPr.out.g.cell 3
  have p4 : W2.cell? ⟨g1, 4, none⟩ = some (.int .i64 m) := HPr.out.p.cell 4
  have q4 : W2.cell? ⟨g2, 4, none⟩ = some (.int .i64 0) := HPr.out.g.cell 4
  have p5 : W2.cell? ⟨g1, 5, none⟩ = some (.int .i64 j) := HPr.out.p.cell 5
  have q5 : W2.cell? ⟨g2, 5, none⟩ = some (.int .i64 0) := HPr.out.g.cell 5
  have z3 : W2.frozen? ⟨g2, 3, none⟩ = false := HPr.out.g.free 3
  have z4 : W2.frozen? ⟨g2, 4, none⟩ = false := HPr.out.g.free 4
  have z5 : W2.frozen? ⟨g2, 5, none⟩ = false := HPr.out.g.free 5
  go_region
  have P3 := Lib.hid (((HPr.out.drew.set 3 (.int .i64 n)).set 4 (.int .i64 m)).set 5 (.int .i64 j))
  cases e0 with
  | false =>
    go_wp2_with fail
    go_ret
    exact ⟨ret_bool (by rw [HV.out] <;> rfl), P3.out.below⟩
  | true =>
    go_wp2_with fail
    refine (H0.out _).mono ?_
    rintro e w4 ⟨rfl, rfl⟩
    clear H0
    cases r0 with
    | false =>
      go_wp2_with fail
      go_ret
      exact ⟨ret_bool (by rw [HV.out] <;> rfl), P3.out.below⟩
    | true =>
      go_wp2_with fail
      refine (H1.out _).mono ?_
      rintro e w5 ⟨rfl, rfl⟩
      clear H1
      cases r1 with
      | false =>
        go_wp2_with fail
        go_ret
        exact ⟨ret_bool (by rw [HV.out] <;> rfl), P3.out.below⟩
      | true =>
        go_wp2_with fail
        refine (H2.out _).mono ?_
        rintro e w6 ⟨rfl, rfl⟩
        clear H2
        cases r2 with
        | false =>
          go_wp2_with fail
          go_ret
          exact ⟨ret_bool (by rw [HV.out] <;> rfl), P3.out.below⟩
        | true =>
          go_wp2_with fail
          go_ret
          exact ⟨ret_bool (by rw [HV.out] <;> rfl), P3.out.below⟩
set_option maxHeartbeats 3200000 in
theorem filt4 (a b : ByteArray) (n m j : Int) (ha : a.size ≤ 1048576) (hb : b.size ≤ 1048576) (w : World) :
    Calls Try.prog 14 #[.agg (fcs 4 a b n m j)] w fun e w' => e = .returned (.bool (filtB ⟨4, toL a, toL b, n, m, j⟩)) ∧ Below w.heap.size w w' := by
  have H0 := Lib.hid (fun w => rname_any a ha w)
  have H1 := Lib.hid (fun w => rtext_any b hb w)
  obtain ⟨r0, hr0⟩ : ∃ r0, r0 = (nameB (toL a)) := ⟨_, rfl⟩
  rw [← hr0] at H0
  obtain ⟨r1, hr1⟩ : ∃ r1, r1 = (textB (toL b)) := ⟨_, rfl⟩
  rw [← hr1] at H1
  obtain ⟨r2, hr2⟩ : ∃ r2, r2 = (toL b != []) := ⟨_, rfl⟩
  have y1 : ((b.toList != []) : Bool) = r2 := by rw [hr2, ByteArray.toList_eq]
  have y2 : b.toList.isEmpty = !r2 := by rw [hr2, ByteArray.toList_eq]; show (toL b).isEmpty = _; cases toL b <;> rfl
  have y3 : (b.toList == []) = !r2 := by rw [hr2, ByteArray.toList_eq]; show (toL b == []) = _; cases toL b <;> rfl
  have heq := fun w => eqF 4 4 n 0 m 0 j 0 a a b b w
  obtain ⟨e0, he0⟩ : ∃ e0, e0 = ((n == 0) && (m == 0) && (j == 0)) := ⟨_, rfl⟩
  replace heq : ∀ w, (binOp .eql 51 (.agg #[.int .i64 4, .string a, .string b, .int .i64 n, .int .i64 m, .int .i64 j]) (.agg #[.int .i64 4, .string a, .string b, .int .i64 0, .int .i64 0, .int .i64 0])).run Try.prog w = .ok (.bool e0) w := fun w => by
    rw [heq w, he0]
    congr 2
    simp only [beq_self_eq_true, Bool.true_and, Bool.and_true, empt, self_, Bool.and_assoc]
  have HV : Hid (filtB ⟨4, toL a, toL b, n, m, j⟩ = (e0 && r0 && r1 && r2)) := Lib.hid (by
    rw [he0, hr0, hr1, hr2]
    unfold filtB
    dsimp only
    rw [if_neg (by decide), if_neg (by decide), if_neg (by decide), if_pos (by decide)]
    try simp [TOK, Bool.and_assoc])
  have HPr := Lib.hid (Pair.start w (fcs 4 a b n m j) (fcs 4 ⟨#[]⟩ ⟨#[]⟩ 0 0 0))
  clear he0 hr0 hr1 hr2 ha hb
  unfold fcs FT at HPr
  unfold fcs
  obtain ⟨g1, hg1⟩ : ∃ g1, g1 = w.heap.size := ⟨_, rfl⟩
  obtain ⟨g2, hg2⟩ : ∃ g2, g2 = w.heap.size + 1 := ⟨_, rfl⟩
  rw [← hg2, ← hg1] at HPr
  rw [← hg1]
  have HG1 := Lib.hid hg1
  have HG2 := Lib.hid hg2
  clear hg1 hg2
  go_enter Try.func14, Try.ntmps14
  go_wp2_with fail
  rw [← HG2.out, ← HG1.out]
  generalize (w.alloc (.cells #[.int .i64 4, .string a, .string b, .int .i64 n, .int .i64 m, .int .i64 j] 51)).alloc (.cells #[.int .i64 4, .string ⟨#[]⟩, .string ⟨#[]⟩, .int .i64 0, .int .i64 0, .int .i64 0] 51) = W2 at HPr ⊢
  have hne : g1 ≠ g2 := Nat.ne_of_lt HPr.out.lo
  have hne2 : g2 ≠ g1 := Ne.symm hne
  have p0 : W2.cell? ⟨g1, 0, none⟩ = some (.int .i64 4) := HPr.out.p.cell 0
  have q0 : W2.cell? ⟨g2, 0, none⟩ = some (.int .i64 4) := HPr.out.g.cell 0
  have p1 : W2.cell? ⟨g1, 1, none⟩ = some (.string a) := HPr.out.p.cell 1
  have q1 : W2.cell? ⟨g2, 1, none⟩ = some (.string ⟨#[]⟩) := HPr.out.g.cell 1
  have p2 : W2.cell? ⟨g1, 2, none⟩ = some (.string b) := HPr.out.p.cell 2
  have q2 : W2.cell? ⟨g2, 2, none⟩ = some (.string ⟨#[]⟩) := HPr.out.g.cell 2
  have p3 : W2.cell? ⟨g1, 3, none⟩ = some (.int .i64 n) := HPr.out.p.cell 3
  have q3 : W2.cell? ⟨g2, 3, none⟩ = some (.int .i64 0) := HPr.out.g.cell 3
  have p4 : W2.cell? ⟨g1, 4, none⟩ = some (.int .i64 m) := HPr.out.p.cell 4
  have q4 : W2.cell? ⟨g2, 4, none⟩ = some (.int .i64 0) := HPr.out.g.cell 4
  have p5 : W2.cell? ⟨g1, 5, none⟩ = some (.int .i64 j) := HPr.out.p.cell 5
  have q5 : W2.cell? ⟨g2, 5, none⟩ = some (.int .i64 0) := HPr.out.g.cell 5
  have z1 : W2.frozen? ⟨g2, 1, none⟩ = false := HPr.out.g.free 1
  have z2 : W2.frozen? ⟨g2, 2, none⟩ = false := HPr.out.g.free 2
  go_region
  have P3 := Lib.hid ((HPr.out.drew.set 1 (.string a)).set 2 (.string b))
  cases e0 with
  | false =>
    go_wp2_with fail
    go_ret
    exact ⟨ret_bool (by rw [HV.out] <;> rfl), P3.out.below⟩
  | true =>
    go_wp2_with fail
    refine (H0.out _).mono ?_
    rintro e w4 ⟨rfl, hb0⟩
    have P4 := Lib.hid (P3.out.call hb0)
    clear hb0 H0 P3
    have k1 : w4.cell? ⟨g1, 1, none⟩ = some (.string a) := P4.out.p.cell 1
    have k2 : w4.cell? ⟨g1, 2, none⟩ = some (.string b) := P4.out.p.cell 2
    cases r0 with
    | false =>
      go_wp2_with fail
      go_ret
      exact ⟨ret_bool (by rw [HV.out] <;> rfl), P4.out.below⟩
    | true =>
      go_wp2_with fail
      refine (H1.out _).mono ?_
      rintro e w5 ⟨rfl, rfl⟩
      clear H1
      cases r1 with
      | false =>
        go_wp2_with fail
        go_ret
        exact ⟨ret_bool (by rw [HV.out] <;> rfl), P4.out.below⟩
      | true =>
        cases r2 with
        | false =>
          go_wp2_with fail
          go_ret
          exact ⟨ret_bool (by rw [HV.out] <;> rfl), P4.out.below⟩
        | true =>
          go_wp2_with fail
          go_ret
          exact ⟨ret_bool (by rw [HV.out] <;> rfl), P4.out.below⟩
set_option maxHeartbeats 3200000 in
theorem filt5 (a b : ByteArray) (n m j : Int) (ha : a.size ≤ 1048576) (hb : b.size ≤ 1048576) (w : World) :
    Calls Try.prog 14 #[.agg (fcs 5 a b n m j)] w fun e w' => e = .returned (.bool (filtB ⟨5, toL a, toL b, n, m, j⟩)) ∧ Below w.heap.size w w' := by
  have H0 := Lib.hid (fun w => rtext_any b hb w)
  obtain ⟨r0, hr0⟩ : ∃ r0, r0 = (textB (toL b)) := ⟨_, rfl⟩
  rw [← hr0] at H0
  obtain ⟨r1, hr1⟩ : ∃ r1, r1 = (toL b != []) := ⟨_, rfl⟩
  have y1 : ((b.toList != []) : Bool) = r1 := by rw [hr1, ByteArray.toList_eq]
  have y2 : b.toList.isEmpty = !r1 := by rw [hr1, ByteArray.toList_eq]; show (toL b).isEmpty = _; cases toL b <;> rfl
  have y3 : (b.toList == []) = !r1 := by rw [hr1, ByteArray.toList_eq]; show (toL b == []) = _; cases toL b <;> rfl
  have heq := fun w => eqF 5 5 n 0 m 0 j 0 a ⟨#[]⟩ b b w
  obtain ⟨e0, he0⟩ : ∃ e0, e0 = ((toL a == []) && (n == 0) && (m == 0) && (j == 0)) := ⟨_, rfl⟩
  replace heq : ∀ w, (binOp .eql 51 (.agg #[.int .i64 5, .string a, .string b, .int .i64 n, .int .i64 m, .int .i64 j]) (.agg #[.int .i64 5, .string ⟨#[]⟩, .string b, .int .i64 0, .int .i64 0, .int .i64 0])).run Try.prog w = .ok (.bool e0) w := fun w => by
    rw [heq w, he0]
    congr 2
    simp only [beq_self_eq_true, Bool.true_and, Bool.and_true, empt, self_, Bool.and_assoc]
  have HV : Hid (filtB ⟨5, toL a, toL b, n, m, j⟩ = (e0 && r0 && r1)) := Lib.hid (by
    rw [he0, hr0, hr1]
    unfold filtB
    dsimp only
    rw [if_neg (by decide), if_neg (by decide), if_neg (by decide), if_neg (by decide), if_pos (by decide)]
    try simp [TOK, Bool.and_assoc])
  have HPr := Lib.hid (Pair.start w (fcs 5 a b n m j) (fcs 5 ⟨#[]⟩ ⟨#[]⟩ 0 0 0))
  clear he0 hr0 hr1 ha hb
  unfold fcs FT at HPr
  unfold fcs
  go_enter Try.func14, Try.ntmps14
  have P3 := Lib.hid (Pair.start w (fcs 5 a b n m j) (fcs 5 ⟨#[]⟩ b 0 0 0))
  unfold fcs FT at P3
  clear HPr
  cases e0 with
  | false =>
    go_wp2_with fail
    go_ret
    exact ⟨ret_bool (by rw [HV.out] <;> rfl), P3.out.below⟩
  | true =>
    go_wp2_with fail
    refine (H0.out _).mono ?_
    rintro e w4 ⟨rfl, rfl⟩
    clear H0
    cases r0 with
    | false =>
      go_wp2_with fail
      go_ret
      exact ⟨ret_bool (by rw [HV.out] <;> rfl), P3.out.below⟩
    | true =>
      cases r1 with
      | false =>
        go_wp2_with fail
        go_ret
        exact ⟨ret_bool (by rw [HV.out] <;> rfl), P3.out.below⟩
      | true =>
        go_wp2_with fail
        go_ret
        exact ⟨ret_bool (by rw [HV.out] <;> rfl), P3.out.below⟩
set_option maxHeartbeats 3200000 in
theorem filt6 (a b : ByteArray) (n m j : Int) (ha : a.size ≤ 1048576) (hb : b.size ≤ 1048576) (w : World) :
    Calls Try.prog 14 #[.agg (fcs 6 a b n m j)] w fun e w' => e = .returned (.bool (filtB ⟨6, toL a, toL b, n, m, j⟩)) ∧ Below w.heap.size w w' := by
  have H0 := Lib.hid (fun w => rin_any n 0 65536 w)
  obtain ⟨r0, hr0⟩ : ∃ r0, r0 = (inB n 0 65536) := ⟨_, rfl⟩
  rw [← hr0] at H0
  have heq := fun w => eqF 6 6 n n m 0 j 0 a ⟨#[]⟩ b ⟨#[]⟩ w
  obtain ⟨e0, he0⟩ : ∃ e0, e0 = ((toL a == []) && (toL b == []) && (m == 0) && (j == 0)) := ⟨_, rfl⟩
  replace heq : ∀ w, (binOp .eql 51 (.agg #[.int .i64 6, .string a, .string b, .int .i64 n, .int .i64 m, .int .i64 j]) (.agg #[.int .i64 6, .string ⟨#[]⟩, .string ⟨#[]⟩, .int .i64 n, .int .i64 0, .int .i64 0])).run Try.prog w = .ok (.bool e0) w := fun w => by
    rw [heq w, he0]
    congr 2
    simp only [beq_self_eq_true, Bool.true_and, Bool.and_true, empt, self_, Bool.and_assoc]
  have HV : Hid (filtB ⟨6, toL a, toL b, n, m, j⟩ = (e0 && r0)) := Lib.hid (by
    rw [he0, hr0]
    unfold filtB
    dsimp only
    rw [if_neg (by decide), if_neg (by decide), if_neg (by decide), if_neg (by decide), if_neg (by decide), if_pos (by decide)]
    try simp [TOK, Bool.and_assoc])
  have HPr := Lib.hid (Pair.start w (fcs 6 a b n m j) (fcs 6 ⟨#[]⟩ ⟨#[]⟩ 0 0 0))
  clear he0 hr0 ha hb
  unfold fcs FT at HPr
  unfold fcs
  go_enter Try.func14, Try.ntmps14
  have P3 := Lib.hid (Pair.start w (fcs 6 a b n m j) (fcs 6 ⟨#[]⟩ ⟨#[]⟩ n 0 0))
  unfold fcs FT at P3
  clear HPr
  cases e0 with
  | false =>
    go_wp2_with fail
    go_ret
    exact ⟨ret_bool (by rw [HV.out] <;> rfl), P3.out.below⟩
  | true =>
    go_wp2_with fail
    refine (H0.out _).mono ?_
    rintro e w4 ⟨rfl, rfl⟩
    clear H0
    cases r0 with
    | false =>
      go_wp2_with fail
      go_ret
      exact ⟨ret_bool (by rw [HV.out] <;> rfl), P3.out.below⟩
    | true =>
      go_wp2_with fail
      go_ret
      exact ⟨ret_bool (by rw [HV.out] <;> rfl), P3.out.below⟩
set_option maxHeartbeats 3200000 in
theorem filt7 (a b : ByteArray) (n m j : Int) (ha : a.size ≤ 1048576) (hb : b.size ≤ 1048576) (w : World) :
    Calls Try.prog 14 #[.agg (fcs 7 a b n m j)] w fun e w' => e = .returned (.bool (filtB ⟨7, toL a, toL b, n, m, j⟩)) ∧ Below w.heap.size w w' := by
  have H0 := Lib.hid (fun w => rin_any n 0 100 w)
  have H1 := Lib.hid (fun w => rin_any m 400 599 w)
  obtain ⟨r0, hr0⟩ : ∃ r0, r0 = (inB n 0 100) := ⟨_, rfl⟩
  rw [← hr0] at H0
  obtain ⟨r1, hr1⟩ : ∃ r1, r1 = (inB m 400 599) := ⟨_, rfl⟩
  rw [← hr1] at H1
  have heq := fun w => eqF 7 7 n n m m j 0 a ⟨#[]⟩ b ⟨#[]⟩ w
  obtain ⟨e0, he0⟩ : ∃ e0, e0 = ((toL a == []) && (toL b == []) && (j == 0)) := ⟨_, rfl⟩
  replace heq : ∀ w, (binOp .eql 51 (.agg #[.int .i64 7, .string a, .string b, .int .i64 n, .int .i64 m, .int .i64 j]) (.agg #[.int .i64 7, .string ⟨#[]⟩, .string ⟨#[]⟩, .int .i64 n, .int .i64 m, .int .i64 0])).run Try.prog w = .ok (.bool e0) w := fun w => by
    rw [heq w, he0]
    congr 2
    simp only [beq_self_eq_true, Bool.true_and, Bool.and_true, empt, self_, Bool.and_assoc]
  have HV : Hid (filtB ⟨7, toL a, toL b, n, m, j⟩ = (e0 && r0 && r1)) := Lib.hid (by
    rw [he0, hr0, hr1]
    unfold filtB
    dsimp only
    rw [if_neg (by decide), if_neg (by decide), if_neg (by decide), if_neg (by decide), if_neg (by decide), if_neg (by decide), if_pos (by decide)]
    try simp [TOK, Bool.and_assoc])
  have HPr := Lib.hid (Pair.start w (fcs 7 a b n m j) (fcs 7 ⟨#[]⟩ ⟨#[]⟩ 0 0 0))
  clear he0 hr0 hr1 ha hb
  unfold fcs FT at HPr
  unfold fcs
  obtain ⟨g1, hg1⟩ : ∃ g1, g1 = w.heap.size := ⟨_, rfl⟩
  obtain ⟨g2, hg2⟩ : ∃ g2, g2 = w.heap.size + 1 := ⟨_, rfl⟩
  rw [← hg2, ← hg1] at HPr
  rw [← hg1]
  have HG1 := Lib.hid hg1
  have HG2 := Lib.hid hg2
  clear hg1 hg2
  go_enter Try.func14, Try.ntmps14
  go_wp2_with fail
  rw [← HG2.out, ← HG1.out]
  generalize (w.alloc (.cells #[.int .i64 7, .string a, .string b, .int .i64 n, .int .i64 m, .int .i64 j] 51)).alloc (.cells #[.int .i64 7, .string ⟨#[]⟩, .string ⟨#[]⟩, .int .i64 0, .int .i64 0, .int .i64 0] 51) = W2 at HPr ⊢
  have hne : g1 ≠ g2 := Nat.ne_of_lt HPr.out.lo
  have hne2 : g2 ≠ g1 := Ne.symm hne
  have p0 : W2.cell? ⟨g1, 0, none⟩ = some (.int .i64 7) := HPr.out.p.cell 0
  have q0 : W2.cell? ⟨g2, 0, none⟩ = some (.int .i64 7) := HPr.out.g.cell 0
  have p1 : W2.cell? ⟨g1, 1, none⟩ = some (.string a) := HPr.out.p.cell 1
  have q1 : W2.cell? ⟨g2, 1, none⟩ = some (.string ⟨#[]⟩) := HPr.out.g.cell 1
  have p2 : W2.cell? ⟨g1, 2, none⟩ = some (.string b) := HPr.out.p.cell 2
  have q2 : W2.cell? ⟨g2, 2, none⟩ = some (.string ⟨#[]⟩) := HPr.out.g.cell 2
  have p3 : W2.cell? ⟨g1, 3, none⟩ = some (.int .i64 n) := HPr.out.p.cell 3
  have q3 : W2.cell? ⟨g2, 3, none⟩ = some (.int .i64 0) := HPr.out.g.cell 3
  have p4 : W2.cell? ⟨g1, 4, none⟩ = some (.int .i64 m) := HPr.out.p.cell 4
  have q4 : W2.cell? ⟨g2, 4, none⟩ = some (.int .i64 0) := HPr.out.g.cell 4
  have p5 : W2.cell? ⟨g1, 5, none⟩ = some (.int .i64 j) := HPr.out.p.cell 5
  have q5 : W2.cell? ⟨g2, 5, none⟩ = some (.int .i64 0) := HPr.out.g.cell 5
  have z3 : W2.frozen? ⟨g2, 3, none⟩ = false := HPr.out.g.free 3
  have z4 : W2.frozen? ⟨g2, 4, none⟩ = false := HPr.out.g.free 4
  go_region
  have P3 := Lib.hid ((HPr.out.drew.set 3 (.int .i64 n)).set 4 (.int .i64 m))
  cases e0 with
  | false =>
    go_wp2_with fail
    go_ret
    exact ⟨ret_bool (by rw [HV.out] <;> rfl), P3.out.below⟩
  | true =>
    go_wp2_with fail
    refine (H0.out _).mono ?_
    rintro e w4 ⟨rfl, rfl⟩
    clear H0
    cases r0 with
    | false =>
      go_wp2_with fail
      go_ret
      exact ⟨ret_bool (by rw [HV.out] <;> rfl), P3.out.below⟩
    | true =>
      go_wp2_with fail
      refine (H1.out _).mono ?_
      rintro e w5 ⟨rfl, rfl⟩
      clear H1
      cases r1 with
      | false =>
        go_wp2_with fail
        go_ret
        exact ⟨ret_bool (by rw [HV.out] <;> rfl), P3.out.below⟩
      | true =>
        go_wp2_with fail
        go_ret
        exact ⟨ret_bool (by rw [HV.out] <;> rfl), P3.out.below⟩
set_option maxHeartbeats 3200000 in
theorem filt8 (a b : ByteArray) (n m j : Int) (ha : a.size ≤ 1048576) (hb : b.size ≤ 1048576) (w : World) :
    Calls Try.prog 14 #[.agg (fcs 8 a b n m j)] w fun e w' => e = .returned (.bool (filtB ⟨8, toL a, toL b, n, m, j⟩)) ∧ Below w.heap.size w w' := by
  have H0 := Lib.hid (fun w => rname_any a ha w)
  have H1 := Lib.hid (fun w => rtext_any b hb w)
  obtain ⟨r0, hr0⟩ : ∃ r0, r0 = (nameB (toL a)) := ⟨_, rfl⟩
  rw [← hr0] at H0
  obtain ⟨r1, hr1⟩ : ∃ r1, r1 = (textB (toL b)) := ⟨_, rfl⟩
  rw [← hr1] at H1
  have heq := fun w => eqF 8 8 n 0 m 0 j 0 a a b b w
  obtain ⟨e0, he0⟩ : ∃ e0, e0 = ((n == 0) && (m == 0) && (j == 0)) := ⟨_, rfl⟩
  replace heq : ∀ w, (binOp .eql 51 (.agg #[.int .i64 8, .string a, .string b, .int .i64 n, .int .i64 m, .int .i64 j]) (.agg #[.int .i64 8, .string a, .string b, .int .i64 0, .int .i64 0, .int .i64 0])).run Try.prog w = .ok (.bool e0) w := fun w => by
    rw [heq w, he0]
    congr 2
    simp only [beq_self_eq_true, Bool.true_and, Bool.and_true, empt, self_, Bool.and_assoc]
  have HV : Hid (filtB ⟨8, toL a, toL b, n, m, j⟩ = (e0 && r0 && r1)) := Lib.hid (by
    rw [he0, hr0, hr1]
    unfold filtB
    dsimp only
    rw [if_pos (by decide)]
    try simp [TOK, Bool.and_assoc])
  have HPr := Lib.hid (Pair.start w (fcs 8 a b n m j) (fcs 8 ⟨#[]⟩ ⟨#[]⟩ 0 0 0))
  clear he0 hr0 hr1 ha hb
  unfold fcs FT at HPr
  unfold fcs
  obtain ⟨g1, hg1⟩ : ∃ g1, g1 = w.heap.size := ⟨_, rfl⟩
  obtain ⟨g2, hg2⟩ : ∃ g2, g2 = w.heap.size + 1 := ⟨_, rfl⟩
  rw [← hg2, ← hg1] at HPr
  rw [← hg1]
  have HG1 := Lib.hid hg1
  have HG2 := Lib.hid hg2
  clear hg1 hg2
  go_enter Try.func14, Try.ntmps14
  go_wp2_with fail
  rw [← HG2.out, ← HG1.out]
  generalize (w.alloc (.cells #[.int .i64 8, .string a, .string b, .int .i64 n, .int .i64 m, .int .i64 j] 51)).alloc (.cells #[.int .i64 8, .string ⟨#[]⟩, .string ⟨#[]⟩, .int .i64 0, .int .i64 0, .int .i64 0] 51) = W2 at HPr ⊢
  have hne : g1 ≠ g2 := Nat.ne_of_lt HPr.out.lo
  have hne2 : g2 ≠ g1 := Ne.symm hne
  have p0 : W2.cell? ⟨g1, 0, none⟩ = some (.int .i64 8) := HPr.out.p.cell 0
  have q0 : W2.cell? ⟨g2, 0, none⟩ = some (.int .i64 8) := HPr.out.g.cell 0
  have p1 : W2.cell? ⟨g1, 1, none⟩ = some (.string a) := HPr.out.p.cell 1
  have q1 : W2.cell? ⟨g2, 1, none⟩ = some (.string ⟨#[]⟩) := HPr.out.g.cell 1
  have p2 : W2.cell? ⟨g1, 2, none⟩ = some (.string b) := HPr.out.p.cell 2
  have q2 : W2.cell? ⟨g2, 2, none⟩ = some (.string ⟨#[]⟩) := HPr.out.g.cell 2
  have p3 : W2.cell? ⟨g1, 3, none⟩ = some (.int .i64 n) := HPr.out.p.cell 3
  have q3 : W2.cell? ⟨g2, 3, none⟩ = some (.int .i64 0) := HPr.out.g.cell 3
  have p4 : W2.cell? ⟨g1, 4, none⟩ = some (.int .i64 m) := HPr.out.p.cell 4
  have q4 : W2.cell? ⟨g2, 4, none⟩ = some (.int .i64 0) := HPr.out.g.cell 4
  have p5 : W2.cell? ⟨g1, 5, none⟩ = some (.int .i64 j) := HPr.out.p.cell 5
  have q5 : W2.cell? ⟨g2, 5, none⟩ = some (.int .i64 0) := HPr.out.g.cell 5
  have z1 : W2.frozen? ⟨g2, 1, none⟩ = false := HPr.out.g.free 1
  have z2 : W2.frozen? ⟨g2, 2, none⟩ = false := HPr.out.g.free 2
  go_region
  have P3 := Lib.hid ((HPr.out.drew.set 1 (.string a)).set 2 (.string b))
  cases e0 with
  | false =>
    go_wp2_with fail
    go_ret
    exact ⟨ret_bool (by rw [HV.out] <;> rfl), P3.out.below⟩
  | true =>
    go_wp2_with fail
    refine (H0.out _).mono ?_
    rintro e w4 ⟨rfl, hb0⟩
    have P4 := Lib.hid (P3.out.call hb0)
    clear hb0 H0 P3
    have k1 : w4.cell? ⟨g1, 1, none⟩ = some (.string a) := P4.out.p.cell 1
    have k2 : w4.cell? ⟨g1, 2, none⟩ = some (.string b) := P4.out.p.cell 2
    cases r0 with
    | false =>
      go_wp2_with fail
      go_ret
      exact ⟨ret_bool (by rw [HV.out] <;> rfl), P4.out.below⟩
    | true =>
      go_wp2_with fail
      refine (H1.out _).mono ?_
      rintro e w5 ⟨rfl, rfl⟩
      clear H1
      cases r1 with
      | false =>
        go_wp2_with fail
        go_ret
        exact ⟨ret_bool (by rw [HV.out] <;> rfl), P4.out.below⟩
      | true =>
        go_wp2_with fail
        go_ret
        exact ⟨ret_bool (by rw [HV.out] <;> rfl), P4.out.below⟩
set_option maxHeartbeats 3200000 in
theorem filtOther (kd : Int) (a b : ByteArray) (n m j : Int) (h : ¬ (1 ≤ kd ∧ kd ≤ 8)) (w : World) :
    Calls Try.prog 14 #[.agg (fcs kd a b n m j)] w fun e w' => e = .returned (.bool (filtB ⟨kd, toL a, toL b, n, m, j⟩)) ∧ Below w.heap.size w w' := by
  have HV : Hid (filtB ⟨kd, toL a, toL b, n, m, j⟩ = false) := Lib.hid (by
    unfold filtB
    dsimp only
    rw [if_neg (by omega), if_neg (by omega), if_neg (by omega), if_neg (by omega), if_neg (by omega), if_neg (by omega), if_neg (by omega)])
  have i1 : (kd == 1) = false := beq_false_of_ne (by omega)
  have i2 : (kd == 2) = false := beq_false_of_ne (by omega)
  have i3 : (kd == 3) = false := beq_false_of_ne (by omega)
  have i4 : (kd == 4) = false := beq_false_of_ne (by omega)
  have i5 : (kd == 5) = false := beq_false_of_ne (by omega)
  have i6 : (kd == 6) = false := beq_false_of_ne (by omega)
  have i7 : (kd == 7) = false := beq_false_of_ne (by omega)
  have i8 : (kd == 8) = false := beq_false_of_ne (by omega)
  have P3 := Lib.hid (Pair.start w (fcs kd a b n m j) (fcs kd ⟨#[]⟩ ⟨#[]⟩ 0 0 0))
  clear h
  unfold fcs FT at P3
  unfold fcs
  go_enter Try.func14, Try.ntmps14
  go_wp2_with fail
  go_ret
  exact ⟨ret_bool HV.out.symm, P3.out.below⟩
theorem rfilter_any (x : Filt) (hx : FitFilt x) (w : World) :
    Calls Try.prog 14 #[.agg (fcs x.kind (ofL x.name) (ofL x.value) x.n x.m x.k)] w fun e w' => e = .returned (.bool (filtB x)) ∧ Below w.heap.size w w' := by
  obtain ⟨kd, a, b, n, m, j⟩ := x
  have ha : (ofL a).size ≤ 1048576 := by rw [ofL_size]; exact hx.name
  have hb : (ofL b).size ≤ 1048576 := by rw [ofL_size]; exact hx.value
  clear hx
  have key : Calls Try.prog 14 #[.agg (fcs kd (ofL a) (ofL b) n m j)] w fun e w' => e = .returned (.bool (filtB ⟨kd, toL (ofL a), toL (ofL b), n, m, j⟩)) ∧ Below w.heap.size w w' := by
    by_cases h : 1 ≤ kd ∧ kd ≤ 8
    · have h2 : kd = 1 ∨ kd = 2 ∨ kd = 3 ∨ kd = 4 ∨ kd = 5 ∨ kd = 6 ∨ kd = 7 ∨ kd = 8 := by omega
      rcases h2 with rfl | rfl | rfl | rfl | rfl | rfl | rfl | rfl
      · exact filt1 _ _ n m j ha hb w
      · exact filt2 _ _ n m j ha hb w
      · exact filt3 _ _ n m j ha hb w
      · exact filt4 _ _ n m j ha hb w
      · exact filt5 _ _ n m j ha hb w
      · exact filt6 _ _ n m j ha hb w
      · exact filt7 _ _ n m j ha hb w
      · exact filt8 _ _ n m j ha hb w
    · exact filtOther kd _ _ n m j h w
  rw [toL_ofL, toL_ofL] at key
  exact key
end Go.Proofs.Ytcjobblhendkbaa.R14Filt

/- Layer 14, the document's own Check. -/
namespace Go.Proofs.Ytcjobblhendkbaa.R14Check
open Go.ChangeShapes Go.WideShapes Go.ChangeAt Go.RowKit Bytes LexPure ConfPure ConfMem Ret Mem Texts R14In R14Name R14Eq R14Host R14Clus R14Rout R14Bnd R14Vhost
set_option maxRecDepth 100000
set_option linter.unusedVariables false
set_option linter.unusedSimpArgs false
theorem filts_at {w : World} {p : Option Addr} {n cap : Nat} {G : List Filt} (h : Filts w (.slice p n cap) G) (i : Nat) (hi : i < G.length) : ∃ g o, p = some ⟨g, o, none⟩ ∧ ∀ x, x = G[i] → w.cell? ⟨g, o + i * 6, none⟩ = some (.int .i64 x.kind) ∧ w.cell? ⟨g, o + i * 6 + 1, none⟩ = some (.string (ofL x.name)) ∧ w.cell? ⟨g, o + i * 6 + 2, none⟩ = some (.string (ofL x.value)) ∧ w.cell? ⟨g, o + i * 6 + 3, none⟩ = some (.int .i64 x.n) ∧ w.cell? ⟨g, o + i * 6 + 4, none⟩ = some (.int .i64 x.m) ∧ w.cell? ⟨g, o + i * 6 + 5, none⟩ = some (.int .i64 x.k) := by
  obtain ⟨p2, c2, heq, _, hc⟩ := h.parts
  injection heq with e1 e2 e3
  obtain ⟨g, o, hp, _, hcell⟩ := hc (by omega)
  exact ⟨g, o, e1.trans hp, fun x hx => by subst hx; exact hcell i hi⟩
theorem cluss_at {w : World} {p : Option Addr} {n cap : Nat} {G : List Clus} (h : Cluss w (.slice p n cap) G) (i : Nat) (hi : i < G.length) : ∃ g o, p = some ⟨g, o, none⟩ ∧ ∀ x, x = G[i] → ∃ h, Texts w h x.hosts ∧ w.cell? ⟨g, o + i * 9, none⟩ = some (.string (ofL x.name)) ∧ w.cell? ⟨g, o + i * 9 + 1, none⟩ = some (.int .i64 x.policy) ∧ w.cell? ⟨g, o + i * 9 + 2, none⟩ = some (h) ∧ w.cell? ⟨g, o + i * 9 + 3, none⟩ = some (.int .i64 x.conns) ∧ w.cell? ⟨g, o + i * 9 + 4, none⟩ = some (.int .i64 x.pending) ∧ w.cell? ⟨g, o + i * 9 + 5, none⟩ = some (.int .i64 x.try_) ∧ w.cell? ⟨g, o + i * 9 + 6, none⟩ = some (.int .i64 x.fails) ∧ w.cell? ⟨g, o + i * 9 + 7, none⟩ = some (.int .i64 x.eject) ∧ w.cell? ⟨g, o + i * 9 + 8, none⟩ = some (.int .i64 x.panic) := by
  obtain ⟨p2, c2, heq, _, hc⟩ := h.parts
  injection heq with e1 e2 e3
  obtain ⟨g, o, hp, _, hcell⟩ := hc (by omega)
  exact ⟨g, o, e1.trans hp, fun x hx => by subst hx; exact hcell i hi⟩
theorem clus_name {w : World} {g o n cap : Nat} {G : List Clus} (h : Cluss w (.slice (some ⟨g, o, none⟩) n cap) G) (i : Nat) (hi : i < G.length) : w.cell? ⟨g, o + i * 9, none⟩ = some (.string (ofL G[i].name)) := by
  obtain ⟨g2, o2, hp, hx⟩ := cluss_at h i hi
  injection hp with hp
  injection hp with a1 a2
  subst a1 a2
  obtain ⟨_, _, c0, _⟩ := hx _ rfl
  exact c0
structure Kb (w : World) (g : Nat) (c : Conf) (vf vc vv : Value) (W : World) : Prop where
  box : Has W g CT (confV c vf vc vv)
  cf : CF W vf vc vv c
  below : Below g w W
theorem Kb.call {w W W' : World} {g : Nat} {c : Conf} {vf vc vv : Value} (x : Kb w g c vf vc vv W) (hb : Below W.heap.size W W') : Kb w g c vf vc vv W' :=
  ⟨x.box.below hb x.box.lt, x.cf.below hb, ⟨hb.os.trans x.below.os, hb.tape.trans x.below.tape, hb.output.trans x.below.output, Nat.le_trans x.below.size hb.size, fun i hi => (hb.block i (Nat.lt_trans hi x.box.lt)).trans (x.below.block i hi)⟩⟩
theorem Kb.drew {w W : World} {g : Nat} {c : Conf} {vf vc vv : Value} (x : Kb w g c vf vc vv W) : Kb w g c vf vc vv W.drew := ⟨x.box.drew, cf_drew x.cf, below_drew x.below⟩
theorem Kb.start {w : World} {c : Conf} {vf vc vv : Value} (hC : CF w vf vc vv c) : Kb w w.heap.size c vf vc vv (w.alloc (.cells (confV c vf vc vv) CT)) :=
  ⟨Has.new w _ _, hC.below ((Below.refl _ _).alloc (Nat.le_refl _) _), (Below.refl _ _).alloc (Nat.le_refl _) _⟩
theorem clusE_step (ahead cs : List Clus) (x : Clus) : clusE ahead (x :: cs) = if ahead.any (fun y => y.name == x.name) || !tokenB x.name 32 then 142 else if !clusB x then 143 else clusE (ahead ++ [x]) cs := by
  conv => lhs; unfold clusE
def Named (cs : List Clus) (i k : Nat) : Prop := ∀ j (hj : j < cs.length) (hi : i < cs.length), j < k → (cs[j].name == cs[i].name) = false
theorem Named.all {cs : List Clus} {i : Nat} (hi : i < cs.length) (h : Named cs i i) : (cs.take i).any (fun x => x.name == cs[i].name) = false := by
  rw [List.any_eq_false]
  intro y hy
  obtain ⟨j, hj, rfl⟩ := List.getElem_of_mem hy
  rw [List.length_take] at hj
  rw [List.getElem_take]
  simpa using h j (by omega) hi (by omega)
theorem filt_step (fs : List Filt) (k : Nat) (h : k < fs.length) : (fs.take (k + 1)).all filtB = ((fs.take k).all filtB && filtB fs[k]) := by
  rw [List.take_succ_eq_append_getElem h, List.all_append]
  simp
set_option maxHeartbeats 12800000 in
theorem rcheck_any (c : Conf) (vf vc vv : Value) (hx : FitConf c) (w : World) (hC : CF w vf vc vv c) :
    Calls Try.prog 8 #[.agg (confV c vf vc vv)] w fun e w' => e = .returned (.int .i64 (check14 c)) ∧ Below w.heap.size w w' := by
  have HBd := Lib.hid (fun w => rbounds_any c vf vc vv (R14Bnd.CF.vals hC) w)
  have HVh := Lib.hid (fun i hi w h => rvhost_any c vf vc vv i hi hx w h)
  have HB := Lib.hid (Kb.start hC)
  obtain ⟨⟨pf, cf, rfl⟩, ⟨pc, cc, rfl⟩, ⟨pv, cv, rfl⟩⟩ := R14Bnd.CF.vals hC
  have HX := Lib.hid hx
  have hfl := hx.filters.1
  have hcl := hx.clusters.1
  have hvl := hx.vhosts.1
  obtain ⟨r0, hr0⟩ : ∃ r0, r0 = boundsB c := ⟨_, rfl⟩
  rw [← hr0] at HBd
  have HR0 := Lib.hid hr0
  clear hC hr0
  obtain ⟨g, hg⟩ : ∃ g, g = w.heap.size := ⟨_, rfl⟩
  rw [← hg] at HB
  have HG := Lib.hid hg
  clear hg hx
  unfold confV at HBd HVh ⊢
  go_enter Try.func8, Try.ntmps8
  go_wp2_with fail
  rw [← HG.out]
  have W0 : Hid (∃ W1, W1 = w.alloc (.cells #[.int .i64 c.conns, .int .i64 c.body, .int .i64 c.idle, .int .i64 c.grace, .int .i64 c.budget, .int .i64 c.seed, .slice pf c.filters.length cf, .slice pc c.clusters.length cc, .slice pv c.vhosts.length cv] 26)) := Lib.hid ⟨_, rfl⟩
  unfold confV CT at HB
  generalize w.alloc (.cells #[.int .i64 c.conns, .int .i64 c.body, .int .i64 c.idle, .int .i64 c.grace, .int .i64 c.budget, .int .i64 c.seed, .slice pf c.filters.length cf, .slice pc c.clusters.length cc, .slice pv c.vhosts.length cv] 26) = W1 at HB ⊢
  clear W0
  refine (HBd.out _).mono ?_
  rintro e w2 ⟨rfl, hb2⟩
  have K2 := Lib.hid (Kb.call (vf := .slice pf c.filters.length cf) (vc := .slice pc c.clusters.length cc) (vv := .slice pv c.vhosts.length cv) ⟨HB.out.box, HB.out.cf, HB.out.below⟩ hb2)
  clear HB hb2 HBd
  cases r0 with
  | false =>
    have HV : Hid (check14 c = 141) := Lib.hid (by unfold check14; rw [← HR0.out]; rfl)
    go_wp2_with fail
    go_ret
    exact ⟨ret_int HV.out.symm, HG.out ▸ K2.out.below⟩
  | true =>
  have HV1 : Hid (check14 c = if !c.filters.all filtB then 145 else if clusE [] c.clusters ≠ 0 then clusE [] c.clusters else vhosE c.clusters [] c.vhosts) := Lib.hid (by unfold check14; rw [← HR0.out]; rfl)
  clear HR0
  go_wp2_with fail
  go_loopw [3] (fun i2 wr => ∃ k : Nat, k ≤ c.filters.length ∧ i2 = .int .i64 k ∧ Hid ((c.filters.take k).all filtB = true ∧ Kb w g c (.slice pf c.filters.length cf) (.slice pc c.clusters.length cc) (.slice pv c.vhosts.length cv) wr)) (fun i2 _ => c.filters.length - (intOf i2).toNat)
  case atStart => exact ⟨0, Nat.zero_le _, rfl, Lib.hid ⟨rfl, K2.out⟩⟩
  case round =>
    obtain ⟨k, hk, rfl, HJ⟩ := hrel
    clear K2
    have b6 : wr.cell? ⟨g, 6, none⟩ = some (.slice pf c.filters.length cf) := HJ.out.2.box.cell 6
    by_cases hlt : k < c.filters.length
    · have hki : (k : Int) < (c.filters.length : Int) := by omega
      have hk0 : (0 : Int) ≤ (k : Int) := by omega
      obtain ⟨gf, of, rfl, hxc⟩ := filts_at HJ.out.2.cf.filters k hlt
      have HS := Lib.hid (filt_step c.filters k hlt)
      obtain ⟨x, hxx⟩ : ∃ x, x = c.filters[k] := ⟨_, rfl⟩
      obtain ⟨m0, m1, m2, m3, m4, m5⟩ := hxc x hxx
      have hfx : FitFilt x := by rw [hxx]; exact HX.out.filters.2 _ (List.getElem_mem hlt)
      have HF := Lib.hid (fun w => R14Filt.rfilter_any x hfx w)
      rw [← hxx] at HS
      obtain ⟨rb, hrb⟩ : ∃ rb, rb = filtB x := ⟨_, rfl⟩
      rw [← hrb] at HF HS
      unfold fcs at HF
      clear hxc hxx hfx hrb
      go_wp2_with fail
      refine (HF.out _).mono ?_
      rintro e w5 ⟨rfl, hb5⟩
      have K5 := Lib.hid (HJ.out.2.call hb5)
      clear HF m0 m1 m2 m3 m4 m5 b6 hb5
      cases rb with
      | false =>
        have HV : Hid (check14 c = 145) := Lib.hid (by
          rw [HV1.out]
          have e : c.filters = c.filters.take (k + 1) ++ c.filters.drop (k + 1) := (List.take_append_drop _ _).symm
          have : c.filters.all filtB = false := by rw [e, List.all_append, HS.out, Bool.and_false, Bool.false_and]
          rw [this]
          rfl)
        clear HJ
        go_wp2_with fail
        go_ret
        exact ⟨ret_int HV.out.symm, HG.out ▸ K5.out.below⟩
      | true =>
        have HK : Hid ((c.filters.take (k + 1)).all filtB = true ∧ Kb w g c (.slice (some ⟨gf, of, none⟩) c.filters.length cf) (.slice pc c.clusters.length cc) (.slice pv c.vhosts.length cv) w5) := Lib.hid ⟨by rw [HS.out, HJ.out.1]; rfl, K5.out⟩
        clear HJ K5
        go_wp2_with fail
        go_roundw
        case rel => exact ⟨k + 1, by omega, by go_num, HK⟩
        case measure => simp [intOf]; omega
    · have hki : ¬ (k : Int) < (c.filters.length : Int) := by omega
      obtain rfl : k = c.filters.length := by omega
      have HV2 : Hid (check14 c = if clusE [] c.clusters ≠ 0 then clusE [] c.clusters else vhosE c.clusters [] c.vhosts) := Lib.hid (by
        rw [HV1.out]
        have := HJ.out.1
        rw [List.take_length] at this
        rw [this]
        rfl)
      have K3 := Lib.hid HJ.out.2
      clear HJ hlt HV1
      go_wp2_with fail
      clear b6 hk hki
      go_loopw [4] (fun i2 wr => ∃ k : Nat, k ≤ c.clusters.length ∧ i2 = .int .i64 k ∧ Hid (clusE [] c.clusters = clusE (c.clusters.take k) (c.clusters.drop k) ∧ Kb w g c (.slice pf c.filters.length cf) (.slice pc c.clusters.length cc) (.slice pv c.vhosts.length cv) wr)) (fun i2 _ => c.clusters.length - (intOf i2).toNat)
      case atStart => exact ⟨0, Nat.zero_le _, rfl, Lib.hid ⟨by simp, K3.out⟩⟩
      case round =>
        obtain ⟨k, hk, rfl, HJ⟩ := hrel
        clear K3
        have b7 : wr.cell? ⟨g, 7, none⟩ = some (.slice pc c.clusters.length cc) := HJ.out.2.box.cell 7
        by_cases hlt : k < c.clusters.length
        · have hki : (k : Int) < (c.clusters.length : Int) := by omega
          have hk0 : (0 : Int) ≤ (k : Int) := by omega
          obtain ⟨gc, oc, rfl, -⟩ := cluss_at HJ.out.2.cf.clusters k hlt
          obtain ⟨x, hxx⟩ : ∃ x, x = c.clusters[k] := ⟨_, rfl⟩
          have HXx := Lib.hid hxx
          have hfx : FitClus x := by rw [hxx]; exact HX.out.clusters.2 _ (List.getElem_mem hlt)
          have HFx := Lib.hid hfx
          have HS : Hid (clusE (c.clusters.take k) (c.clusters.drop k) = if (c.clusters.take k).any (fun y => y.name == x.name) || !tokenB x.name 32 then 142 else if !clusB x then 143 else clusE (c.clusters.take (k + 1)) (c.clusters.drop (k + 1))) := Lib.hid (by
            rw [List.drop_eq_getElem_cons hlt, clusE_step, hxx, List.take_succ_eq_append_getElem hlt])
          clear hxx hfx
          go_wp2_with fail
          clear b7
          go_loopw [5] (fun i2 wr => ∃ k2 : Nat, k2 ≤ k ∧ i2 = .int .i64 k2 ∧ Hid (Named c.clusters k k2 ∧ Kb w g c (.slice pf c.filters.length cf) (.slice (some ⟨gc, oc, none⟩) c.clusters.length cc) (.slice pv c.vhosts.length cv) wr)) (fun i2 _ => k - (intOf i2).toNat)
          case atStart => exact ⟨0, Nat.zero_le _, rfl, Lib.hid ⟨fun j _ _ h => absurd h (by omega), HJ.out.2⟩⟩
          case round =>
            obtain ⟨k2, hk2, rfl, HI⟩ := hrel
            by_cases hlt2 : k2 < k
            · have hk2i : (k2 : Int) < (k : Int) := by omega
              have hk20 : (0 : Int) ≤ (k2 : Int) := by omega
              have hk2n : (k2 : Int) < (c.clusters.length : Int) := by omega
              have hl2 : k2 < c.clusters.length := by omega
              have X1 := HI.out.2.drew
              obtain ⟨y, hy⟩ : ∃ y, y = c.clusters[k2].name := ⟨_, rfl⟩
              have t1 := clus_name X1.cf.clusters k2 hl2
              have t2 := clus_name X1.cf.clusters k hlt
              rw [← hy] at t1
              rw [← HXx.out] at t2
              have b7 : wr.drew.cell? ⟨g, 7, none⟩ = some (.slice (some ⟨gc, oc, none⟩) c.clusters.length cc) := X1.box.cell 7
              have te := text_eq y x.name
              obtain ⟨b, hb⟩ : ∃ b, b = (y == x.name) := ⟨_, rfl⟩
              rw [← hb] at te
              have HY := Lib.hid (And.intro hb hy)
              clear hb hy
              go_wp2_with fail
              go_region_held3 (fun w' => w'.cell? ⟨g, 7, none⟩ = some (.slice (some ⟨gc, oc, none⟩) c.clusters.length cc) ∧ w'.cell? ⟨gc, oc + k2 * 9, none⟩ = some (.string (ofL y)) ∧ w'.cell? ⟨gc, oc + k * 9, none⟩ = some (.string (ofL x.name))) (exact ⟨b7, t1, t2⟩) (fail)
              have X2 := Lib.hid X1
              clear X1 b7 t1 t2
              cases b with
              | true =>
                have HV : Hid (check14 c = 142) := Lib.hid (by
                  obtain ⟨q1, q2⟩ := HY.out
                  have : (c.clusters.take k).any (fun z => z.name == x.name) = true := by
                    rw [List.any_eq_true]
                    refine ⟨c.clusters[k2], List.mem_iff_getElem.2 ⟨k2, by rw [List.length_take]; omega, by rw [List.getElem_take]⟩, ?_⟩
                    rw [← q2]
                    exact q1.symm
                  have e : clusE [] c.clusters = 142 := by rw [HJ.out.1, HS.out, this]; rfl
                  rw [HV2.out, e, if_pos (by decide)])
                clear HI HJ
                go_wp2_with fail
                go_ret
                exact ⟨ret_int HV.out.symm, HG.out ▸ X2.out.below⟩
              | false =>
                have HK : Hid (Named c.clusters k (k2 + 1) ∧ Kb w g c (.slice pf c.filters.length cf) (.slice (some ⟨gc, oc, none⟩) c.clusters.length cc) (.slice pv c.vhosts.length cv) wr.drew) := Lib.hid ⟨fun j hj hi hjk => by
                  rcases Nat.lt_or_ge j k2 with h | h
                  · exact HI.out.1 j hj hi h
                  · obtain rfl : j = k2 := by omega
                    obtain ⟨q1, q2⟩ := HY.out
                    have q3 := HXx.out
                    rw [← q2, ← q3]
                    exact q1.symm, X2.out⟩
                clear HI X2
                go_wp2_with fail
                go_roundw
                case rel => exact ⟨k2 + 1, by omega, by go_num, HK⟩
                case measure => simp [intOf]; omega
            · have hkk : ¬ (k2 : Int) < (k : Int) := by omega
              obtain rfl : k2 = k := by omega
              have HA : Hid ((c.clusters.take k2).any (fun z => z.name == x.name) = false) := Lib.hid (by
                have q3 := HXx.out
                have := HI.out.1.all hlt
                rw [← q3] at this
                exact this)
              have K4 := Lib.hid HI.out.2
              have t2 := clus_name K4.out.cf.clusters k2 hlt
              rw [← HXx.out] at t2
              have b7 : wr.cell? ⟨g, 7, none⟩ = some (.slice (some ⟨gc, oc, none⟩) c.clusters.length cc) := K4.out.box.cell 7
              have HTk := Lib.hid (fun w => rtok_any (ofL x.name) (by rw [ofL_size]; exact HFx.out.name) 32 (by decide) w)
              rw [toL_ofL] at HTk
              obtain ⟨rt, hrt⟩ : ∃ rt, rt = tokenB x.name 32 := ⟨_, rfl⟩
              rw [← hrt] at HTk HS
              clear HI hlt2 hrt
              go_wp2_with fail
              refine (HTk.out _).mono ?_
              rintro e w5 ⟨rfl, rfl⟩
              clear HTk
              cases rt with
              | false =>
                have HV : Hid (check14 c = 142) := Lib.hid (by
                  have e : clusE [] c.clusters = 142 := by rw [HJ.out.1, HS.out, HA.out]; rfl
                  rw [HV2.out, e, if_pos (by decide)])
                clear HJ
                go_wp2_with fail
                go_ret
                exact ⟨ret_int HV.out.symm, HG.out ▸ K4.out.below⟩
              | true =>
                obtain ⟨gc2, oc2, hpc, hxc⟩ := cluss_at K4.out.cf.clusters k2 hlt
                injection hpc with hpc
                injection hpc with a1 a2
                subst a1 a2
                obtain ⟨h, htx, m0, m1, m2, m3, m4, m5, m6, m7, m8⟩ := hxc x HXx.out
                obtain ⟨ph, ch, rfl, _, _⟩ := id htx
                have HCl := Lib.hid (fun w h2 => rclus_any x (.slice ph x.hosts.length ch) HFx.out w h2)
                have HTx := Lib.hid htx
                obtain ⟨rb, hrb⟩ : ∃ rb, rb = clusB x := ⟨_, rfl⟩
                rw [← hrb] at HCl HS
                clear hxc htx hrb t2
                go_wp2_with fail
                refine (HCl.out _ HTx.out).mono ?_
                rintro e w6 ⟨rfl, hb6⟩
                have K6 := Lib.hid (K4.out.call hb6)
                clear HCl m0 m1 m2 m3 m4 m5 m6 m7 m8 b7 hb6 HTx K4
                cases rb with
                | false =>
                  have HV : Hid (check14 c = 143) := Lib.hid (by
                    have e : clusE [] c.clusters = 143 := by rw [HJ.out.1, HS.out, HA.out]; rfl
                    rw [HV2.out, e, if_pos (by decide)])
                  clear HJ
                  go_wp2_with fail
                  go_ret
                  exact ⟨ret_int HV.out.symm, HG.out ▸ K6.out.below⟩
                | true =>
                  have HK : Hid (clusE [] c.clusters = clusE (c.clusters.take (k2 + 1)) (c.clusters.drop (k2 + 1)) ∧ Kb w g c (.slice pf c.filters.length cf) (.slice (some ⟨gc, oc, none⟩) c.clusters.length cc) (.slice pv c.vhosts.length cv) w6) := Lib.hid ⟨by rw [HJ.out.1, HS.out, HA.out]; rfl, K6.out⟩
                  clear HJ K6
                  go_wp2_with fail
                  go_roundw
                  case rel => exact ⟨k2 + 1, by omega, by go_num, HK⟩
                  case measure => simp [intOf]; omega
        · have hki : ¬ (k : Int) < (c.clusters.length : Int) := by omega
          obtain rfl : k = c.clusters.length := by omega
          have HV3 : Hid (check14 c = vhosE c.clusters [] c.vhosts) := Lib.hid (by
            have e : clusE [] c.clusters = 0 := by rw [HJ.out.1, List.drop_length]; rfl
            rw [HV2.out, e, if_neg (fun h => h rfl)])
          have K3 := Lib.hid HJ.out.2
          clear HJ hlt HV2
          go_wp2_with fail
          clear b7 hk hki
          go_loopw [6] (fun i2 wr => ∃ k : Nat, k ≤ c.vhosts.length ∧ i2 = .int .i64 k ∧ Hid (vhosE c.clusters [] c.vhosts = vhosE c.clusters (c.vhosts.take k) (c.vhosts.drop k) ∧ Kb w g c (.slice pf c.filters.length cf) (.slice pc c.clusters.length cc) (.slice pv c.vhosts.length cv) wr)) (fun i2 _ => c.vhosts.length - (intOf i2).toNat)
          case atStart => exact ⟨0, Nat.zero_le _, rfl, Lib.hid ⟨by simp, K3.out⟩⟩
          case round =>
            obtain ⟨k, hk, rfl, HJ⟩ := hrel
            clear K3
            have b8 : wr.cell? ⟨g, 8, none⟩ = some (.slice pv c.vhosts.length cv) := HJ.out.2.box.cell 8
            by_cases hlt : k < c.vhosts.length
            · have hki : (k : Int) < (c.vhosts.length : Int) := by omega
              have hk0 : (0 : Int) ≤ (k : Int) := by omega
              have q0 : wr.cell? ⟨g, 0, none⟩ = some (.int .i64 c.conns) := HJ.out.2.box.cell 0
              have q1 : wr.cell? ⟨g, 1, none⟩ = some (.int .i64 c.body) := HJ.out.2.box.cell 1
              have q2 : wr.cell? ⟨g, 2, none⟩ = some (.int .i64 c.idle) := HJ.out.2.box.cell 2
              have q3 : wr.cell? ⟨g, 3, none⟩ = some (.int .i64 c.grace) := HJ.out.2.box.cell 3
              have q4 : wr.cell? ⟨g, 4, none⟩ = some (.int .i64 c.budget) := HJ.out.2.box.cell 4
              have q5 : wr.cell? ⟨g, 5, none⟩ = some (.int .i64 c.seed) := HJ.out.2.box.cell 5
              have q6 : wr.cell? ⟨g, 6, none⟩ = some (.slice pf c.filters.length cf) := HJ.out.2.box.cell 6
              have q7 : wr.cell? ⟨g, 7, none⟩ = some (.slice pc c.clusters.length cc) := HJ.out.2.box.cell 7
              have HVk := Lib.hid (fun w h => HVh.out k hlt w h)
              have HS : Hid (vhosE c.clusters (c.vhosts.take k) (c.vhosts.drop k) = if vhE c.clusters (c.vhosts.take k) c.vhosts[k] ≠ 0 then vhE c.clusters (c.vhosts.take k) c.vhosts[k] else vhosE c.clusters (c.vhosts.take (k + 1)) (c.vhosts.drop (k + 1))) := Lib.hid (by
                rw [List.drop_eq_getElem_cons hlt, vhosE_step, List.take_succ_eq_append_getElem hlt])
              obtain ⟨E, hE⟩ : ∃ E, E = vhE c.clusters (c.vhosts.take k) c.vhosts[k] := ⟨_, rfl⟩
              rw [← hE] at HVk HS
              clear hE
              go_wp2_with fail
              refine (HVk.out _ HJ.out.2.cf).mono ?_
              rintro e w5 ⟨rfl, hb5⟩
              have K5 := Lib.hid (HJ.out.2.call hb5)
              clear HVk q0 q1 q2 q3 q4 q5 q6 q7 b8 hb5
              by_cases hE0 : E = 0
              · subst hE0
                have HK : Hid (vhosE c.clusters [] c.vhosts = vhosE c.clusters (c.vhosts.take (k + 1)) (c.vhosts.drop (k + 1)) ∧ Kb w g c (.slice pf c.filters.length cf) (.slice pc c.clusters.length cc) (.slice pv c.vhosts.length cv) w5) := Lib.hid ⟨by rw [HJ.out.1, HS.out, if_neg (fun h => h rfl)], K5.out⟩
                clear HJ K5
                go_wp2_with fail
                go_roundw
                case rel => exact ⟨k + 1, by omega, by go_num, HK⟩
                case measure => simp [intOf]; omega
              · have hEb : (E != 0) = true := bne_iff_ne.2 hE0
                have HV : Hid (check14 c = E) := Lib.hid (by rw [HV3.out, HJ.out.1, HS.out, if_pos hE0])
                clear HJ hE0
                go_wp2_with fail
                go_ret
                exact ⟨ret_int HV.out.symm, HG.out ▸ K5.out.below⟩
            · have hki : ¬ (k : Int) < (c.vhosts.length : Int) := by omega
              obtain rfl : k = c.vhosts.length := by omega
              have HV : Hid (check14 c = 0) := Lib.hid (by rw [HV3.out, HJ.out.1, List.drop_length]; rfl)
              have K5 := Lib.hid HJ.out.2
              clear HJ hlt
              go_wp2_with fail
              go_ret
              exact ⟨ret_int HV.out.symm, HG.out ▸ K5.out.below⟩
end Go.Proofs.Ytcjobblhendkbaa.R14Check

/- Layer 5, the document's own Normal. -/
namespace Go.Proofs.Ytcjobblhendkbaa.RNormBig
open Go.ChangeShapes Go.WideShapes Go.ChangeAt Go.RowKit LexPure Bytes Ret PathPure RPlain Rows1 REsc REscapes Texts PathForm RNormal
set_option maxRecDepth 20000
def rest (s : ByteArray) (f : Nat) : List (List UInt8) := if f ≤ s.size then cuts ((toL s).drop f) else []
/-- behind k bytes of the path, the last slash ahead of f; G: what is kept, l: the last piece -/
structure NInv (w : World) (s : ByteArray) (k f : Nat) (v : Value) (G : List (List UInt8)) (l : List UInt8) (wr : World) : Prop where
  row : wr.ownsRow w.heap.size 9 1 v G.length (Texts.strs G)
  below : Below w.heap.size w wr
  all_ : keeps [] (cuts (toL s).tail) = keeps G (rest s f)
  le : f ≤ k
  pos : 1 ≤ f
  in_ : k ≤ s.size → f ≤ s.size
  out_ : s.size < k → s.size < f
  no : noSlash (((toL s).drop f).take (k - f)) = true
  few : G.length ≤ k
  last : s.size < f → (cuts (toL s).tail).getLastD [] = l
  pre : ∃ D, cuts (toL s).tail = D ++ rest s f
  short : ∀ e ∈ G, e.length ≤ s.size
theorem rest_end {s : ByteArray} {f : Nat} (hf : f ≤ s.size) (h : noSlash (((toL s).drop f).take (s.size - f)) = true) : rest s f = [((toL s).drop f).take (s.size - f)] := by
  unfold rest
  have e : ((toL s).drop f).take (s.size - f) = (toL s).drop f := List.take_of_length_le (by rw [List.length_drop, toL_length]; omega)
  rw [if_pos hf]
  rw [e] at h ⊢
  exact cuts_plain h
theorem rest_cut {s : ByteArray} {f k : Nat} (hf : f ≤ k) (hk : k < s.size) (h : noSlash (((toL s).drop f).take (k - f)) = true) (hc : s[k] = 47) : rest s f = ((toL s).drop f).take (k - f) :: rest s (k + 1) := by
  unfold rest
  rw [if_pos (by omega), if_pos (by omega)]
  have e : (toL s).drop f = ((toL s).drop f).take (k - f) ++ 47 :: (toL s).drop (k + 1) := by
    have h1 := List.take_append_drop (k - f) ((toL s).drop f)
    rw [List.drop_drop, show f + (k - f) = k by omega, toL_drop s k hk, hc] at h1
    exact h1.symm
  conv => lhs; rw [e]
  exact cuts_cut h
theorem rest_none {s : ByteArray} {f : Nat} (h : s.size < f) : rest s f = [] := by unfold rest; rw [if_neg (by omega)]
/-- one piece has been read: X; what follows begins at k + 1 -/
theorem NInv.step {w wr : World} {s : ByteArray} {k f : Nat} {v : Value} {G : List (List UInt8)} {l : List UInt8} (I : NInv w s k f v G l wr) (hk : k ≤ s.size) (hcut : k = s.size ∨ (∃ h : k < s.size, s[k] = 47)) :
    rest s f = ((toL s).drop f).take (k - f) :: rest s (k + 1) := by
  rcases hcut with h | ⟨h, hc⟩
  · subst h
    rw [rest_end (I.in_ hk) I.no, rest_none (by omega)]
  · exact rest_cut I.le h I.no hc
theorem NInv.next {w wr w' : World} {s : ByteArray} {k f : Nat} {v v' : Value} {G G' : List (List UInt8)} {l : List UInt8} (I : NInv w s k f v G l wr) (hk : k ≤ s.size) (hcut : k = s.size ∨ (∃ h : k < s.size, s[k] = 47))
    (hr : w'.ownsRow w.heap.size 9 1 v' G'.length (Texts.strs G')) (hb : Below w.heap.size w w') (hg : keeps G (((toL s).drop f).take (k - f) :: rest s (k + 1)) = keeps G' (rest s (k + 1))) (hl : G'.length ≤ G.length + 1) (hs : ∀ e ∈ G', e.length ≤ s.size) :
    NInv w s (k + 1) (k + 1) v' G' (((toL s).drop f).take (k - f)) w' := by
  have hst := I.step hk hcut
  obtain ⟨D, hD⟩ := I.pre
  refine ⟨hr, hb, by rw [I.all_, hst, hg], Nat.le_refl _, by omega, fun h => h, fun h => h, by rw [Nat.sub_self]; rfl, by have := I.few; omega, fun h => ?_, ⟨D ++ [((toL s).drop f).take (k - f)], by rw [hD, hst, List.append_assoc]; rfl⟩, hs⟩
  rw [hD, hst, rest_none h, List.getLastD_eq_getLast?, List.getLast?_append]
  rfl
set_option maxHeartbeats 4000000 in
theorem rnormal_big (s : ByteArray) (hs : s.size ≤ 4194304) (w : World) :
    Calls Try.prog 7 #[.string s] w fun e w' => e = .returned (.tuple #[.string (normS (toL s)), .int .i64 (normE (toL s))]) ∧ Below w.heap.size w w' := by
  obtain ⟨i0, hi, hz0, hz1, hz2⟩ := info_parts infoS
  have HE := Lib.hid (fun w => rescapes_any s (by omega) w)
  cases hesc : escapes (toL s) with
  | none =>
    have hn : normal (toL s) = none := by unfold normal; rw [hesc]
    rw [(norm_none hn).1, (norm_none hn).2]
    rw [hesc] at HE
    clear hn hesc
    go_enter Try.func7, Try.ntmps7
    go_wp2_with fail
    refine (HE.out _).mono ?_
    rintro e w1 ⟨rfl, hb1⟩
    go_wp2_with fail
    go_ret2
    exact ⟨rfl, hb1⟩
  | some u =>
    have hul : u.length ≤ s.size := by
      have := escapes_len hesc
      rwa [toL_length] at this
    have hu1 : 1 ≤ u.length := escapes_pos hesc
    have hn : normal (toL s) = (keeps [] (cuts u.tail)).map (fun kept => finish kept (cuts u.tail)) := by
      unfold normal
      rw [hesc]
      simp only
      cases keeps [] (cuts u.tail) <;> rfl
    rw [hesc] at HE
    have HNM := Lib.hid hn
    clear hn hesc
    obtain ⟨p, hp⟩ : ∃ p, p = ofL u := ⟨_, rfl⟩
    have hpu : toL p = u := by rw [hp, toL_ofL]
    have hps : p.size = u.length := by rw [hp, ofL_size]
    have hpl : p.size ≤ 4194304 := by omega
    have hp1 : 1 ≤ p.size := by omega
    rw [show (some u).getD [] = u from rfl, ← hp] at HE
    clear hul hu1 hps hp
    rw [← hpu] at HNM
    clear hpu
    go_enter Try.func7, Try.ntmps7
    go_wp2_with fail
    refine (HE.out _).mono ?_
    rintro e w1 ⟨rfl, hb1⟩
    go_wp2_with fail
    have I0 : Hid (∃ G, NInv w p 1 1 (.slice none 0 0) G [] w1) := Lib.hid ⟨[], World.ownsRow_nil _ _ _ _, hb1, by unfold rest; rw [if_pos hp1, List.drop_one], Nat.le_refl _, Nat.le_refl _, fun _ => hp1, fun h => h, by rw [Nat.sub_self]; rfl, Nat.zero_le _, fun h => by omega, ⟨[], by unfold rest; rw [if_pos hp1, List.drop_one]; rfl⟩, fun e he => by simp at he⟩
    clear hb1 HE hs
    go_loopw [6, 7, 8, 9] (fun kv lv fv i wr => ∃ k : Nat, k ≤ p.size + 1 ∧ i = .int .i64 k ∧ ∃ f : Nat, fv = .int .i64 f ∧ ∃ l : List UInt8, lv = .string (ofL l) ∧ Hid (∃ G, NInv w p k f kv G l wr)) (fun _ _ _ i _ => p.size + 1 - (intOf i).toNat)
    case atStart => exact ⟨1, by omega, rfl, 1, rfl, [], rfl, I0⟩
    case round =>
      obtain ⟨k, hk, rfl, f, rfl, l, rfl, HI⟩ := hrel
      obtain ⟨G, I⟩ := HI.out
      clear HI I0
      have hfk := I.le
      have hbs := I.below.size
      by_cases hle : k ≤ p.size
      · have hki : (k : Int) ≤ (p.size : Int) := by omega
        have hfs := I.in_ hle
        by_cases hcut : k = p.size ∨ (∃ h : k < p.size, p[k] = 47)
        · have hfi : (f : Int) ≤ (k : Int) := by omega
          have hx : (¬ (k : Int) < (p.size : Int)) ∨ (∃ h : k < p.size, (k : Int) < (p.size : Int) ∧ ((p[k].toNat : Int) != 47) = false) := by
            rcases hcut with h | ⟨h, hc⟩
            · exact .inl (by omega)
            · exact .inr ⟨h, by omega, by rw [hc]; rfl⟩
          have hXE : p.extract f k = ofL (((toL p).drop f).take (k - f)) := by
            refine toL_inj ?_
            rw [toL_extract, toL_ofL, List.drop_take]
          have HX := Lib.hid hXE
          have HST := Lib.hid (I.step hle hcut)
          have HN := Lib.hid (fun G' v' w' => I.next (G' := G') (v' := v') (w' := w') hle hcut)
          have hXl : (((toL p).drop f).take (k - f)).length ≤ p.size := by rw [List.length_take, List.length_drop, toL_length]; omega
          generalize ((toL p).drop f).take (k - f) = X at *
          have hET : (p.extract f k).toList = X := by rw [ByteArray.toList_eq, HX.out]; exact toL_ofL X
          obtain ⟨pp, cap, rfl, hcap, _⟩ := row_cells I.row
          have hrow := I.row
          have hbw := I.below
          have hfew := I.few
          have HS := Lib.hid I.short
          have HALL := Lib.hid I.all_
          clear I hcut hXE
          by_cases hdot : isDot X = true
          · have hk2 : keeps G (X :: rest p (k + 1)) = keeps G (rest p (k + 1)) := by rw [keeps, if_pos hdot]
            have HR : Hid (∃ G', NInv w p (k + 1) (k + 1) (.slice pp G.length cap) G' X wr) := Lib.hid ⟨G, HN.out G _ wr hrow hbw hk2 (by omega) HS.out⟩
            have hd : X = [] ∨ X = [46] := by
              unfold isDot at hdot
              rw [Bool.or_eq_true, List.isEmpty_iff, beq_iff_eq] at hdot
              exact hdot
            clear HN HS HALL HST hk2 hrow hbw hdot
            rcases hd with rfl | rfl
            all_goals
              rcases hx with hq | ⟨hlt, hq, hc⟩
              all_goals
                go_wp2_with fail
                go_roundw
                case rel => exact ⟨k + 1, by omega, by go_num, k + 1, by go_num, _, by rw [HX.out], HR⟩
                case measure => simp [intOf]; omega
          · have hdot : isDot X = false := by simpa using hdot
            by_cases hup : isUp X = true
            · have hX2 : X = [46, 46] := by
                unfold isUp at hup
                rwa [beq_iff_eq] at hup
              by_cases hG : G = []
              · have hnone : keeps [] (cuts (toL p).tail) = none := by
                  rw [HALL.out, HST.out, keeps_up hdot hup, hG]
                  rfl
                have hgl : ((G.length : Int) == 0) = true := by rw [hG]; rfl
                rw [hX2] at hET
                have HNONE := Lib.hid (norm_none (by rw [HNM.out, hnone]; rfl))
                clear HN HS HALL HST hrow hdot hup hnone
                rcases hx with hq | ⟨hlt, hq, hc⟩
                all_goals
                  go_wp2_with fail
                  go_ret2
                  rw [HNONE.out.1, HNONE.out.2]
                  exact ⟨rfl, hbw⟩
              · have hgl : ((G.length : Int) == 0) = false := beq_eq_false_iff_ne.2 (fun h => hG (List.length_eq_zero_iff.1 (by omega)))
                have hg0 : 1 ≤ G.length := by
                  cases G with
                  | nil => exact absurd rfl hG
                  | cons => simp
                have hk2 : keeps G (X :: rest p (k + 1)) = keeps G.dropLast (rest p (k + 1)) := by
                  rw [keeps_up hdot hup, if_neg (by simpa using hG)]
                have hcutr := row_cut hrow (m := G.length - 1) (by omega)
                have hstr : (Texts.strs G).take (G.length - 1) = Texts.strs G.dropLast := by
                  unfold Texts.strs
                  rw [← List.map_take, List.dropLast_eq_take]
                rw [hstr] at hcutr
                have HR : Hid (∃ G', NInv w p (k + 1) (k + 1) (.slice pp (G.length - 1) cap) G' X wr) := Lib.hid ⟨G.dropLast, HN.out _ _ wr (by rw [List.length_dropLast]; exact hcutr) hbw hk2 (by rw [List.length_dropLast]; omega) (fun e he => HS.out e ((List.dropLast_sublist G).subset he))⟩
                rw [hX2] at hET
                clear HN HS HALL HST hrow hdot hup hk2 hcutr hstr hbw hG
                rcases hx with hq | ⟨hlt, hq, hc⟩
                all_goals
                  go_wp2_with fail
                  go_roundw
                  case rel => exact ⟨k + 1, by omega, by go_num, k + 1, by go_num, X, by rw [HX.out], HR⟩
                  case measure => simp [intOf]; omega
            · have hup : isUp X = false := by simpa using hup
              have hk2 : keeps G (X :: rest p (k + 1)) = keeps (G ++ [X]) (rest p (k + 1)) := keeps_in hdot hup
              have hd : (p.extract f k).toList.isEmpty = false ∧ ((p.extract f k).toList == [46]) = false := by
                rw [hET]
                unfold isDot at hdot
                rw [Bool.or_eq_false_iff] at hdot
                exact hdot
              have hu : ((p.extract f k).toList == [46, 46]) = false := by
                rw [hET]
                exact hup
              have hne : ¬ (p.extract f k).toList = [] := fun h => by rw [h] at hd; exact absurd hd.1 (by decide)
              have HNF : Hid (∀ v' w', w'.ownsRow w.heap.size 9 1 v' (G.length + 1) (Texts.strs G ++ [.string (ofL X)]) → Below w.heap.size w w' → Hid (∃ G', NInv w p (k + 1) (k + 1) v' G' X w')) := Lib.hid (fun v' w' h1 h2 => Lib.hid ⟨G ++ [X], HN.out _ v' w' (by rw [List.length_append, Texts.strs_append]; exact h1) h2 hk2 (by rw [List.length_append]; simp) (fun e he => by
                rw [List.mem_append, List.mem_singleton] at he
                rcases he with he | rfl
                · exact HS.out e he
                · exact hXl)⟩)
              obtain ⟨hd1, hd2⟩ := hd
              clear HN HS HALL HST hdot hup hk2 hET
              rcases hx with hq | ⟨hlt, hq, hc⟩
              all_goals
                go_wp2_with (at_builtin; refine wpList_append_own _ rfl _ _ 44 rfl w.heap.size 9 i0 (.string ByteArray.empty) 1 16 Try.underlying44 hi hz0 hz1 hz2 rfl (by decide) _ _ _ rfl (hrow.alloc _) ⟨wr.heap.size, 0, none⟩ 1 1 [.string (p.extract f k)] rfl rfl (cell_one_new _ _ _) (fun x hx => by simp at hx; subst hx; rfl) (by unfold maxLen; omega) (by omega) (by simp; omega) ?_; intro v' w3 hown' hgrow3 hnil3)
                have HR := HNF.out v' w3 (by have h := hown'; rw [HX.out] at h; exact h) (Below.grown (hbw.alloc hbw.size _) hgrow3 (by simp; omega) (fun j hj => (hrow.lt _ hj).1))
                clear hown' hgrow3 hnil3 HNF hrow hbw
                go_wp2_with fail
                go_roundw
                case rel => exact ⟨k + 1, by omega, by go_num, k + 1, by go_num, X, by rw [HX.out], HR⟩
                case measure => simp [intOf]; omega
        · have hlt : k < p.size := by
            rcases Nat.lt_or_ge k p.size with h | h
            · exact h
            · exact absurd (.inl (by omega)) hcut
          have hki2 : (k : Int) < (p.size : Int) := by omega
          have h47 : ¬ p[k] = 47 := fun h => hcut (.inr ⟨hlt, h⟩)
          have hq := slash_ne h47
          have HR : Hid (∃ G, NInv w p (k + 1) f u6 G l wr) := Lib.hid ⟨G, I.row, I.below, I.all_, by omega, I.pos, fun _ => hfs, fun h => by omega, by
            rw [show k + 1 - f = k - f + 1 by omega, List.take_add_one, List.getElem?_drop, show f + (k - f) = k by omega, toL_get p k hlt]
            have := I.no
            unfold noSlash at *
            rw [List.all_append, this]
            simp [bne, h47], by have := I.few; omega, I.last, I.pre, I.short⟩
          clear I hcut h47
          go_wp2_with fail
          go_roundw
          case rel => exact ⟨k + 1, by omega, by go_num, f, rfl, l, rfl, HR⟩
          case measure => simp [intOf]; omega
      · have hkeep : keeps [] (cuts (toL p).tail) = some G := by
          rw [I.all_, rest_none (I.out_ (by omega))]
          rfl
        have hlast := I.last (I.out_ (by omega))
        have hki : ¬ (k : Int) ≤ (p.size : Int) := by omega
        have HV := Lib.hid (norm_some (by rw [HNM.out, hkeep]; rfl))
        have hfin : endsOpen (cuts (toL p).tail) = (isDot l || isUp l) := by unfold endsOpen; rw [hlast]
        have HFN : Hid (finish G (cuts (toL p).tail) = if G.isEmpty || (isDot l || isUp l) then join G ++ [47] else join G) := Lib.hid (by unfold finish; rw [hfin])
        have HSH := Lib.hid I.short
        have hfew := I.few
        have HT := Lib.hid (texts_of I.row)
        have hb0 := I.below
        obtain ⟨pp, cap, rfl, _, _⟩ := row_cells I.row
        have J0 : Hid (Texts wr (.slice pp G.length cap) G) := HT
        clear hkeep hlast hfin HNM I
        go_wp2_with fail
        go_loopw [10, 11] (fun ov i w2 => ∃ j : Nat, j ≤ G.length ∧ i = .int .i64 j ∧ ov = .string (ofL (join (G.take j))) ∧ Hid (∃ m, w2 = wr.drewN m)) (fun _ i _ => G.length - (intOf i).toNat)
        case atStart => exact ⟨0, Nat.zero_le _, rfl, rfl, Lib.hid ⟨0, rfl⟩⟩
        case round =>
          obtain ⟨j, hj, rfl, rfl, hw⟩ := hrel
          obtain ⟨m, rfl⟩ := hw.out
          have hJl : (ofL (join (G.take j))).size ≤ 17592194433025 := by
            rw [ofL_size]
            have h1 := join_len (n := 4194304) (G := G.take j) (fun e he => by have := HSH.out e (List.mem_of_mem_take he); omega)
            have h2 : (G.take j).length * (4194304 + 1) ≤ 4194305 * (4194304 + 1) := Nat.mul_le_mul_right _ (by rw [List.length_take]; omega)
            omega
          by_cases hlt : j < G.length
          · have hji : (j : Int) < (G.length : Int) := by omega
            obtain ⟨p', cap', hv, _, hc⟩ := HT.out
            injection hv with hv1 hv2 hv3
            subst hv1
            subst hv3
            obtain ⟨g, o, rfl, hg, hcell⟩ := hc (by omega)
            have cx := hcell j hlt
            have hEl : (ofL G[j]).size ≤ 4194304 := by
              rw [ofL_size]
              have := HSH.out G[j] (List.getElem_mem hlt)
              omega
            have HJ : Hid ((ofL (join (G.take j)) ++ ⟨#[47]⟩) ++ ofL G[j] = ofL (join (G.take (j + 1)))) := Lib.hid (by
              rw [List.take_add_one, List.getElem?_eq_getElem hlt]
              show _ = ofL (join (G.take j ++ [G[j]]))
              rw [join_snoc]
              refine toL_inj ?_
              rw [toL_append, toL_append, toL_ofL, toL_ofL, toL_ofL]
              show (join (G.take j) ++ [47]) ++ G[j] = _
              simp)
            clear hc hcell
            generalize ofL G[j] = E at *
            generalize ofL (join (G.take j)) = F at *
            go_wp2_with fail
            go_roundw
            case rel => exact ⟨j + 1, by omega, by go_num, by rw [HJ.out], Lib.hid ⟨m, rfl⟩⟩
            case measure => simp [intOf]; omega
          · have hz : join (G.take j) = join G := by rw [List.take_of_length_le (by omega)]
            rw [hz] at hJl ⊢
            have hF : (ofL (join G)).toList.isEmpty = G.isEmpty := by
              rw [ByteArray.toList_eq, show (ofL (join G)).data.toList = join G from toL_ofL _, join_nil]
            have hL : (ofL l).toList = l := by
              rw [ByteArray.toList_eq]
              exact toL_ofL l
            have HJ : Hid (ofL (join G) ++ ⟨#[47]⟩ = ofL (join G ++ [47])) := Lib.hid (by
              refine toL_inj ?_
              rw [toL_append, toL_ofL, toL_ofL])
            have hbm : Below w.heap.size w (wr.drewN m) := ⟨hb0.os, hb0.tape, hb0.output, hb0.size, hb0.block⟩
            clear hz HT J0 hb0 hw
            generalize (wr.drewN m) = w5 at *
            by_cases hG : G.isEmpty = true
            · have hFe : (ofL (join G)).toList = [] := by rw [hG] at hF; exact List.isEmpty_iff.1 hF
              have HO : Hid (finish G (cuts (toL p).tail) = join G ++ [47]) := Lib.hid (by rw [HFN.out, hG]; rfl)
              clear HFN hF hG HSH
              generalize ofL (join G) = F at *
              generalize ofL l = L at *
              go_wp2_with fail
              all_goals
                go_ret2
                rw [HV.out.1, HV.out.2, HO.out, HJ.out]
                exact ⟨rfl, hbm⟩
            · have hG : G.isEmpty = false := by simpa using hG
              rw [hG] at hF
              have hFe : ¬ (ofL (join G)).toList = [] := fun h => by rw [h] at hF; exact absurd hF (by decide)
              by_cases hl1 : l = [] ∨ l = [46] ∨ l = [46, 46]
              · have HO : Hid (finish G (cuts (toL p).tail) = join G ++ [47]) := Lib.hid (by
                  rw [HFN.out]
                  rcases hl1 with h | h | h <;> subst h <;> simp [isDot, isUp])
                clear HFN hG HSH
                generalize ofL (join G) = F at *
                rcases hl1 with h | h | h
                · have t2 : (ofL l).toList.isEmpty = true := by rw [hL, h]; rfl
                  have t3 : ((ofL l).toList == [46]) = false := by rw [hL, h]; rfl
                  have t4 : ((ofL l).toList == [46, 46]) = false := by rw [hL, h]; rfl
                  have t5 :  (ofL l).toList = [] := by rw [hL, h]; try rfl
                  clear h hL
                  generalize ofL l = L at *
                  go_wp2_with fail
                  go_ret2
                  rw [HV.out.1, HV.out.2, HO.out, HJ.out]
                  exact ⟨rfl, hbm⟩
                · have t2 : (ofL l).toList.isEmpty = false := by rw [hL, h]; rfl
                  have t3 : ((ofL l).toList == [46]) = true := by rw [hL, h]; rfl
                  have t4 : ((ofL l).toList == [46, 46]) = false := by rw [hL, h]; rfl
                  have t5 : ¬ (ofL l).toList = [] := by rw [hL, h]; decide
                  clear h hL
                  generalize ofL l = L at *
                  go_wp2_with fail
                  go_ret2
                  rw [HV.out.1, HV.out.2, HO.out, HJ.out]
                  exact ⟨rfl, hbm⟩
                · have t2 : (ofL l).toList.isEmpty = false := by rw [hL, h]; rfl
                  have t3 : ((ofL l).toList == [46]) = false := by rw [hL, h]; rfl
                  have t4 : ((ofL l).toList == [46, 46]) = true := by rw [hL, h]; rfl
                  have t5 : ¬ (ofL l).toList = [] := by rw [hL, h]; decide
                  clear h hL
                  generalize ofL l = L at *
                  go_wp2_with fail
                  go_ret2
                  rw [HV.out.1, HV.out.2, HO.out, HJ.out]
                  exact ⟨rfl, hbm⟩
              · have h1 : (ofL l).toList.isEmpty = false := by
                  rw [hL]
                  cases l with
                  | nil => exact absurd (.inl rfl) hl1
                  | cons => rfl
                have h1' : ¬ (ofL l).toList = [] := fun h => by rw [h] at h1; exact absurd h1 (by decide)
                have h2 : ((ofL l).toList == [46]) = false := by rw [hL, beq_eq_false_iff_ne]; exact fun h => hl1 (.inr (.inl h))
                have h3 : ((ofL l).toList == [46, 46]) = false := by rw [hL, beq_eq_false_iff_ne]; exact fun h => hl1 (.inr (.inr h))
                have HO : Hid (ofL (finish G (cuts (toL p).tail)) = ofL (join G)) := Lib.hid (by
                  rw [HFN.out, hG]
                  rw [hL] at h1 h2 h3
                  unfold isDot isUp
                  rw [h1, h2, h3]
                  rfl)
                clear HFN hG HSH hL hl1
                generalize ofL (join G) = F at *
                generalize ofL l = L at *
                go_wp2_with fail
                go_ret2
                rw [HV.out.1, HV.out.2, HO.out]
                exact ⟨rfl, hbm⟩
end Go.Proofs.Ytcjobblhendkbaa.RNormBig
