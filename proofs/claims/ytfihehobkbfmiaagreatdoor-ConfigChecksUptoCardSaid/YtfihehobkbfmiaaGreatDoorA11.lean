/- Texts of this seat, one behind another: R14Vhost, R14Check, ConfSafe. -/
import Derived.Handy
import Derived.Test.YtfihehobkbfmiaaGreatDoorA10
import Derived.Test.YtfihehobkbfmiaaGreatDoorA6
import Derived.Test.YtfihehobkbfmiaaGreatDoorA1
/- Layer 14, the document's own vhost. -/
namespace Go.Proofs.YtfihehobkbfmiaaGreatDoor.R14Vhost
open Go.ChangeShapes Go.WideShapes Go.ChangeAt Go.RowKit Bytes LexPure ConfPure ConfMem Ret Mem Texts R14In R14Name R14Host R14Clus R14Rout R14Bnd
set_option maxRecDepth 100000
set_option linter.unusedVariables false
set_option linter.unusedSimpArgs false
abbrev VT : TypeId := 43
/-- the error of one vhost -/
def vhE (cs : List Clus) (ahead : List Vhos) (v : Vhos) : Int :=
  if ahead.any (fun x => x.domain == v.domain) || !domainB v.domain then 142 else if !inB v.routes.length 1 32 || !v.routes.all (fun r => routB r cs) then 144 else 0
theorem vhosE_step (cs : List Clus) (ahead vs : List Vhos) (v : Vhos) : vhosE cs ahead (v :: vs) = if vhE cs ahead v ≠ 0 then vhE cs ahead v else vhosE cs (ahead ++ [v]) vs := by
  conv => lhs; unfold vhosE
  unfold vhE
  by_cases h1 : (ahead.any (fun x => x.domain == v.domain) || !domainB v.domain) = true
  · rw [if_pos h1, if_pos h1, if_pos (by decide)]
  · rw [if_neg h1, if_neg h1]
    by_cases h2 : (!inB v.routes.length 1 32 || !v.routes.all (fun r => routB r cs)) = true
    · rw [if_pos h2, if_pos h2, if_pos (by decide)]
    · rw [if_neg h2, if_neg h2, if_neg (by decide)]
/-- the i-th vhost -/
theorem vhos_at {w : World} {p : Option Addr} {n cap : Nat} {G : List Vhos} (h : Vhoss w (.slice p n cap) G) (i : Nat) (hi : i < G.length) : ∃ g o hv, p = some ⟨g, o, none⟩ ∧ Routs w hv G[i].routes ∧ w.cell? ⟨g, o + i * 2, none⟩ = some (.string (ofL G[i].domain)) ∧ w.cell? ⟨g, o + i * 2 + 1, none⟩ = some hv := by
  obtain ⟨p2, c2, heq, _, hc⟩ := h.parts
  injection heq with e1 e2 e3
  obtain ⟨g, o, hp, _, hcell⟩ := hc (by omega)
  obtain ⟨hv, h1, c0, c1⟩ := hcell i hi
  exact ⟨g, o, hv, e1.trans hp, h1, c0, c1⟩
theorem vhos_dom {w : World} {g o n cap : Nat} {G : List Vhos} (h : Vhoss w (.slice (some ⟨g, o, none⟩) n cap) G) (i : Nat) (hi : i < G.length) : w.cell? ⟨g, o + i * 2, none⟩ = some (.string (ofL G[i].domain)) := by
  obtain ⟨g2, o2, _, hp, _, c0, _⟩ := vhos_at h i hi
  injection hp with hp
  injection hp with a1 a2
  subst a1 a2
  exact c0
/-- a config's box and its lists; a vhost's box beside -/
structure Xb (w : World) (g gv : Nat) (c : Conf) (vf vc vv : Value) (d : L) (h : Value) (rs : List Rout) (W : World) : Prop where
  box : Has W g CT (confV c vf vc vv)
  cf : CF W vf vc vv c
  vb : Has W gv VT #[.string (ofL d), h]
  rt : Routs W h rs
  below : Below g w W
theorem Xb.call {w W W' : World} {g gv : Nat} {c : Conf} {vf vc vv : Value} {d : L} {h : Value} {rs : List Rout} (x : Xb w g gv c vf vc vv d h rs W) (hb : Below W.heap.size W W') : Xb w g gv c vf vc vv d h rs W' :=
  ⟨x.box.below hb x.box.lt, x.cf.below hb, x.vb.below hb x.vb.lt, x.rt.below hb, ⟨hb.os.trans x.below.os, hb.tape.trans x.below.tape, hb.output.trans x.below.output, Nat.le_trans x.below.size hb.size, fun i hi => (hb.block i (Nat.lt_trans hi x.box.lt)).trans (x.below.block i hi)⟩⟩
theorem cf_drew {w : World} {vf vc vv : Value} {c : Conf} (h : CF w vf vc vv c) : CF w.drew vf vc vv c := by
  obtain ⟨h1, ⟨a, h2, h3⟩, ⟨b, h4, h5⟩, k1, k2⟩ := h
  exact ⟨h1, ⟨a, h2, h3⟩, ⟨b, h4, h5⟩, k1, k2⟩
theorem Xb.drew {w W : World} {g gv : Nat} {c : Conf} {vf vc vv : Value} {d : L} {h : Value} {rs : List Rout} (x : Xb w g gv c vf vc vv d h rs W) : Xb w g gv c vf vc vv d h rs W.drew := ⟨x.box.drew, cf_drew x.cf, x.vb.drew, x.rt, below_drew x.below⟩
theorem routs_at {w : World} {g o n cap : Nat} {G : List Rout} (h : Routs w (.slice (some ⟨g, o, none⟩) n cap) G) (i : Nat) (hi : i < G.length) (r : Rout) (hr : r = G[i]) :
    w.cell? ⟨g, o + i * 13, none⟩ = some (.bool r.pre) ∧ w.cell? ⟨g, o + i * 13 + 1, none⟩ = some (.string (ofL r.path)) ∧ w.cell? ⟨g, o + i * 13 + 2, none⟩ = some (.string (ofL r.method)) ∧ w.cell? ⟨g, o + i * 13 + 3, none⟩ = some (.string (ofL r.field)) ∧ w.cell? ⟨g, o + i * 13 + 4, none⟩ = some (.string (ofL r.value)) ∧ w.cell? ⟨g, o + i * 13 + 5, none⟩ = some (.int .i64 r.action) ∧ w.cell? ⟨g, o + i * 13 + 6, none⟩ = some (.string (ofL r.cluster)) ∧ w.cell? ⟨g, o + i * 13 + 7, none⟩ = some (.int .i64 r.status) ∧ w.cell? ⟨g, o + i * 13 + 8, none⟩ = some (.string (ofL r.text)) ∧ w.cell? ⟨g, o + i * 13 + 9, none⟩ = some (.string (ofL r.rewrite)) ∧ w.cell? ⟨g, o + i * 13 + 10, none⟩ = some (.int .i64 r.retries) ∧ w.cell? ⟨g, o + i * 13 + 11, none⟩ = some (.int .i64 r.timeout) ∧ w.cell? ⟨g, o + i * 13 + 12, none⟩ = some (.bool r.upgrade) := by
  subst hr
  obtain ⟨p2, c2, heq, _, hc⟩ := h.parts
  injection heq with e1 e2 e3
  subst e1
  obtain ⟨g2, o2, hpo, _, hcell⟩ := hc (by omega)
  injection hpo with hpo
  injection hpo with a1 a2
  subst a1 a2
  exact hcell i hi
theorem ret_int {a b : Int} (h : a = b) : Ending.returned (.int .i64 a) = .returned (.int .i64 b) := by rw [h]
def Unlike (vs : List Vhos) (i k : Nat) : Prop := ∀ j (hj : j < vs.length) (hi : i < vs.length), j < k → (vs[j].domain == vs[i].domain) = false
theorem Unlike.all {vs : List Vhos} {i : Nat} (hi : i < vs.length) (h : Unlike vs i i) : (vs.take i).any (fun x => x.domain == vs[i].domain) = false := by
  rw [List.any_eq_false]
  intro y hy
  obtain ⟨j, hj, rfl⟩ := List.getElem_of_mem hy
  rw [List.length_take] at hj
  rw [List.getElem_take]
  simpa using h j (by omega) hi (by omega)
theorem all_step (rs : List Rout) (cs : List Clus) (k : Nat) (h : k < rs.length) : (rs.take (k + 1)).all (fun r => routB r cs) = ((rs.take k).all (fun r => routB r cs) && routB rs[k] cs) := by
  rw [List.take_succ_eq_append_getElem h, List.all_append]
  simp
set_option maxHeartbeats 12800000 in
theorem rvhost_any (c : Conf) (vf vc vv : Value) (i : Nat) (hi : i < c.vhosts.length) (hx : FitConf c) (w : World) (hC : CF w vf vc vv c) :
    Calls Tryz.prog 28 #[.agg (confV c vf vc vv), .int .i64 (i : Nat)] w fun e w' => e = .returned (.int .i64 (vhE c.clusters (c.vhosts.take i) c.vhosts[i])) ∧ Below w.heap.size w w' := by
  obtain ⟨⟨pf, cf, rfl⟩, ⟨pc, cc, rfl⟩, ⟨pv, cv, rfl⟩⟩ := R14Bnd.CF.vals hC
  obtain ⟨gs, os, hvv, rfl, hrt, d0, d1⟩ := vhos_at hC.vhosts i hi
  have hx0 := hx.vhosts.2 _ (List.getElem_mem hi)
  have hcl := hx.clusters.1
  have hvl := hx.vhosts.1
  obtain ⟨V, hV⟩ : ∃ V, V = c.vhosts[i] := ⟨_, rfl⟩
  rw [← hV] at hrt d0 hx0 ⊢
  obtain ⟨pr, cr, rfl, _, hrc⟩ := hrt.parts
  have HHV := Lib.hid hV
  have HX0 := Lib.hid hx0
  have HD := Lib.hid (fun w => rdomain_any (ofL V.domain) (by rw [ofL_size]; exact hx0.domain) w)
  rw [toL_ofL] at HD
  have hbox := (Below.refl w.heap.size w).alloc (Nat.le_refl _) (.cells (confV c (.slice pf c.filters.length cf) (.slice pc c.clusters.length cc) (.slice (some ⟨gs, os, none⟩) c.vhosts.length cv)) CT)
  have HB : Hid (Xb w w.heap.size (w.heap.size + 1) c (.slice pf c.filters.length cf) (.slice pc c.clusters.length cc) (.slice (some ⟨gs, os, none⟩) c.vhosts.length cv) V.domain (.slice pr V.routes.length cr) V.routes
      ((w.alloc (.cells (confV c (.slice pf c.filters.length cf) (.slice pc c.clusters.length cc) (.slice (some ⟨gs, os, none⟩) c.vhosts.length cv)) CT)).alloc (.cells #[.string (ofL V.domain), .slice pr V.routes.length cr] VT))) := Lib.hid (by
    have hb2 := hbox.alloc (by simp) (.cells #[.string (ofL V.domain), .slice pr V.routes.length cr] VT)
    refine ⟨(Has.new w _ _).alloc _, hC.below hb2, ?_, hrt.below hb2, hb2⟩
    have := Has.new (w.alloc (.cells (confV c (.slice pf c.filters.length cf) (.slice pc c.clusters.length cc) (.slice (some ⟨gs, os, none⟩) c.vhosts.length cv)) CT)) VT #[.string (ofL V.domain), .slice pr V.routes.length cr]
    rw [show (w.alloc (.cells (confV c (.slice pf c.filters.length cf) (.slice pc c.clusters.length cc) (.slice (some ⟨gs, os, none⟩) c.vhosts.length cv)) CT)).heap.size = w.heap.size + 1 by simp] at this
    exact this)
  have e0 : (w.alloc (.cells (confV c (.slice pf c.filters.length cf) (.slice pc c.clusters.length cc) (.slice (some ⟨gs, os, none⟩) c.vhosts.length cv)) CT)).cell? ⟨gs, os + i * 2, none⟩ = some (.string (ofL V.domain)) := by
    have := vhos_dom (hC.below hbox).vhosts i hi
    rw [this, hV]
  have e1 : (w.alloc (.cells (confV c (.slice pf c.filters.length cf) (.slice pc c.clusters.length cc) (.slice (some ⟨gs, os, none⟩) c.vhosts.length cv)) CT)).cell? ⟨gs, os + i * 2 + 1, none⟩ = some (.slice pr V.routes.length cr) := by
    have hlt : gs < w.heap.size := World.block_lt_of_cell? _ _ d1
    exact (hbox.cell (p := ⟨gs, os + i * 2 + 1, none⟩) hlt).trans d1
  have hii : (i : Int) < (c.vhosts.length : Int) := by omega
  have hi0 : (0 : Int) ≤ (i : Int) := by omega
  unfold confV CT VT at HB
  unfold confV CT at e0 e1
  unfold confV
  clear d0 d1 hbox hV hx0 hC hrt hrc
  have HX := Lib.hid hx
  clear hx
  go_enter Tryz.func28, Tryz.ntmps28
  go_wp2_with fail
  obtain ⟨g, hg⟩ : ∃ g, g = w.heap.size := ⟨_, rfl⟩
  obtain ⟨gv, hgv⟩ : ∃ gv, gv = w.heap.size + 1 := ⟨_, rfl⟩
  rw [← hgv, ← hg] at HB ⊢
  have HG := Lib.hid hg
  clear hg hgv e0 e1
  generalize (w.alloc (.cells #[.int .i64 c.conns, .int .i64 c.body, .int .i64 c.idle, .int .i64 c.grace, .int .i64 c.budget, .int .i64 c.seed, .slice pf c.filters.length cf, .slice pc c.clusters.length cc, .slice (some ⟨gs, os, none⟩) c.vhosts.length cv] 26)).alloc (.cells #[.string (ofL V.domain), .slice pr V.routes.length cr] 43) = W1 at HB ⊢
  go_loopw [6] (fun i2 wr => ∃ k : Nat, k ≤ i ∧ i2 = .int .i64 k ∧ Hid (Unlike c.vhosts i k ∧ Xb w g gv c (.slice pf c.filters.length cf) (.slice pc c.clusters.length cc) (.slice (some ⟨gs, os, none⟩) c.vhosts.length cv) V.domain (.slice pr V.routes.length cr) V.routes wr)) (fun i2 _ => i - (intOf i2).toNat)
  case atStart => exact ⟨0, Nat.zero_le _, rfl, Lib.hid ⟨fun j _ _ h => absurd h (by omega), HB.out⟩⟩
  case round =>
    obtain ⟨k, hk, rfl, HJ⟩ := hrel
    clear HB
    by_cases hlt : k < i
    · have hki : (k : Int) < (i : Int) := by omega
      have hk0 : (0 : Int) ≤ (k : Int) := by omega
      have hkn : (k : Int) < (c.vhosts.length : Int) := by omega
      have hkl : k < c.vhosts.length := by omega
      have X1 := HJ.out.2.drew
      obtain ⟨y, hy⟩ : ∃ y, y = c.vhosts[k].domain := ⟨_, rfl⟩
      have t1 := vhos_dom X1.cf.vhosts k hkl
      rw [← hy] at t1
      have b8 : wr.drew.cell? ⟨g, 8, none⟩ = some (.slice (some ⟨gs, os, none⟩) c.vhosts.length cv) := X1.box.cell 8
      have v0 : wr.drew.cell? ⟨gv, 0, none⟩ = some (.string (ofL V.domain)) := X1.vb.cell 0
      have te := text_eq y V.domain
      obtain ⟨b, hb⟩ : ∃ b, b = (y == V.domain) := ⟨_, rfl⟩
      rw [← hb] at te
      have HY := Lib.hid (And.intro hb hy)
      clear hb hy
      go_wp2_with fail
      go_region_held3 (fun w' => w'.cell? ⟨g, 8, none⟩ = some (.slice (some ⟨gs, os, none⟩) c.vhosts.length cv) ∧ w'.cell? ⟨gs, os + k * 2, none⟩ = some (.string (ofL y)) ∧ w'.cell? ⟨gv, 0, none⟩ = some (.string (ofL V.domain))) (exact ⟨b8, t1, v0⟩) (fail)
      have X2 := Lib.hid X1
      clear X1 b8 t1 v0
      cases b with
      | true =>
        have HV : Hid (vhE c.clusters (c.vhosts.take i) V = 142) := Lib.hid (by
          obtain ⟨q1, q2⟩ := HY.out
          unfold vhE
          have : (c.vhosts.take i).any (fun x => x.domain == V.domain) = true := by
            rw [List.any_eq_true]
            refine ⟨c.vhosts[k], List.mem_iff_getElem.2 ⟨k, by rw [List.length_take]; omega, by rw [List.getElem_take]⟩, ?_⟩
            rw [← q2]
            exact q1.symm
          rw [this]
          rfl)
        clear HJ
        go_wp2_with fail
        go_ret
        exact ⟨ret_int HV.out.symm, HG.out ▸ X2.out.below⟩
      | false =>
        have HK : Hid (Unlike c.vhosts i (k + 1) ∧ Xb w g gv c (.slice pf c.filters.length cf) (.slice pc c.clusters.length cc) (.slice (some ⟨gs, os, none⟩) c.vhosts.length cv) V.domain (.slice pr V.routes.length cr) V.routes wr.drew) := Lib.hid ⟨fun j hj hi2 hjk => by
          rcases Nat.lt_or_ge j k with h | h
          · exact HJ.out.1 j hj hi2 h
          · obtain rfl : j = k := by omega
            obtain ⟨q1, q2⟩ := HY.out
            rw [← q2, ← HHV.out]
            exact q1.symm, X2.out⟩
        clear HJ X2
        go_wp2_with fail
        go_roundw
        case rel => exact ⟨k + 1, by omega, by go_num, HK⟩
        case measure => simp [intOf]; omega
    · have hki : ¬ (k : Int) < (i : Int) := by omega
      obtain rfl : k = i := by omega
      have HA : Hid ((c.vhosts.take k).any (fun x => x.domain == V.domain) = false) := Lib.hid (by rw [HHV.out]; exact HJ.out.1.all hi)
      have HJ2 := Lib.hid HJ.out.2
      have v0 : wr.cell? ⟨gv, 0, none⟩ = some (.string (ofL V.domain)) := HJ2.out.vb.cell 0
      have v1 : wr.cell? ⟨gv, 1, none⟩ = some (.slice pr V.routes.length cr) := HJ2.out.vb.cell 1
      obtain ⟨rd, hrd⟩ : ∃ rd, rd = domainB V.domain := ⟨_, rfl⟩
      rw [← hrd] at HD
      have HRd := Lib.hid hrd
      clear HJ hlt hrd
      go_wp2_with fail
      refine (HD.out _).mono ?_
      rintro e w3 ⟨rfl, rfl⟩
      clear HD
      cases rd with
      | false =>
        have HV : Hid (vhE c.clusters (c.vhosts.take k) V = 142) := Lib.hid (by
          unfold vhE
          rw [HA.out, ← HRd.out]
          rfl)
        go_wp2_with fail
        go_ret
        exact ⟨ret_int HV.out.symm, HG.out ▸ HJ2.out.below⟩
      | true =>
        by_cases hl1 : V.routes.length < 1
        · have l1 : decide ((V.routes.length : Int) < 1) = true := decide_eq_true (by omega)
          have HV : Hid (vhE c.clusters (c.vhosts.take k) V = 144) := Lib.hid (by
            unfold vhE
            rw [HA.out, ← HRd.out]
            have : inB V.routes.length 1 32 = false := by unfold inB; rw [decide_eq_false (by omega)]; rfl
            rw [this]
            rfl)
          clear hl1
          go_wp2_with fail
          go_ret
          exact ⟨ret_int HV.out.symm, HG.out ▸ HJ2.out.below⟩
        by_cases hl2 : 32 < V.routes.length
        · have l1 : decide ((V.routes.length : Int) < 1) = false := decide_eq_false (by omega)
          have l2 : decide ((32 : Int) < (V.routes.length : Int)) = true := decide_eq_true (by omega)
          have HV : Hid (vhE c.clusters (c.vhosts.take k) V = 144) := Lib.hid (by
            unfold vhE
            rw [HA.out, ← HRd.out]
            have : inB V.routes.length 1 32 = false := by unfold inB; rw [decide_eq_false (p := ((V.routes.length : Nat) : Int) ≤ 32) (by omega), Bool.and_false]
            rw [this]
            rfl)
          clear hl1 hl2
          go_wp2_with fail
          go_ret
          exact ⟨ret_int HV.out.symm, HG.out ▸ HJ2.out.below⟩
        have l1 : decide ((V.routes.length : Int) < 1) = false := decide_eq_false (by omega)
        have l2 : decide ((32 : Int) < (V.routes.length : Int)) = false := decide_eq_false (by omega)
        have HV : Hid (vhE c.clusters (c.vhosts.take k) V = if V.routes.all (fun r => routB r c.clusters) = true then 0 else 144) := Lib.hid (by
          unfold vhE
          rw [HA.out, ← HRd.out]
          have : inB V.routes.length 1 32 = true := by unfold inB; rw [decide_eq_true (by omega), decide_eq_true (by omega)]; rfl
          rw [this]
          cases V.routes.all (fun r => routB r c.clusters) <;> rfl)
        have hr32 : V.routes.length ≤ 32 := by omega
        clear hl1 hl2 HA HRd
        go_wp2_with fail
        clear l1 l2 v0 v1
        go_loopw [7] (fun i2 wr => ∃ k : Nat, k ≤ V.routes.length ∧ i2 = .int .i64 k ∧ Hid ((V.routes.take k).all (fun r => routB r c.clusters) = true ∧ Xb w g gv c (.slice pf c.filters.length cf) (.slice pc c.clusters.length cc) (.slice (some ⟨gs, os, none⟩) c.vhosts.length cv) V.domain (.slice pr V.routes.length cr) V.routes wr)) (fun i2 _ => V.routes.length - (intOf i2).toNat)
        case atStart => exact ⟨0, Nat.zero_le _, rfl, Lib.hid ⟨rfl, HJ2.out⟩⟩
        case round =>
          clear hk hii hki HJ2
          obtain ⟨k2, hk2, rfl, HI⟩ := hrel
          by_cases hlt : k2 < V.routes.length
          · have hki : (k2 : Int) < (V.routes.length : Int) := by omega
            have hk0 : (0 : Int) ≤ (k2 : Int) := by omega
            have v1 : wr.cell? ⟨gv, 1, none⟩ = some (.slice pr V.routes.length cr) := HI.out.2.vb.cell 1
            have X1 := HI.out.2.drew
            have v1d : wr.drew.cell? ⟨gv, 1, none⟩ = some (.slice pr V.routes.length cr) := X1.vb.cell 1
            have b7 : wr.drew.cell? ⟨g, 7, none⟩ = some (.slice pc c.clusters.length cc) := X1.box.cell 7
            obtain ⟨_, _, heq, _, hcell⟩ := X1.rt.parts
            injection heq with q1 q2 q3
            subst q1 q3
            obtain ⟨gr, orr, rfl, _, hcell⟩ := hcell (by omega)
            have HS := Lib.hid (all_step V.routes c.clusters k2 hlt)
            obtain ⟨r, hr⟩ : ∃ r, r = V.routes[k2] := ⟨_, rfl⟩
            have hfr : FitRout r := by rw [hr]; exact HX0.out.routes.2 _ (List.getElem_mem hlt)
            have HRr := Lib.hid hr
            have s1 := And.intro v1d (And.intro b7 (routs_at X1.rt k2 hlt r hr))
            rw [← hr] at HS
            obtain ⟨rb, hrb⟩ : ∃ rb, rb = routB r c.clusters := ⟨_, rfl⟩
            have HRo := Lib.hid (fun w h => R14Route.rroute_any r hfr c.clusters (.slice pc c.clusters.length cc) hcl w h)
            rw [← hrb] at HS HRo
            clear hcell hr hrb hfr
            go_wp2_with fail
            go_region_held3 (fun w' => w'.cell? ⟨gv, 1, none⟩ = some (.slice (some ⟨gr, orr, none⟩) V.routes.length cr) ∧ w'.cell? ⟨g, 7, none⟩ = some (.slice pc c.clusters.length cc) ∧ w'.cell? ⟨gr, orr + k2 * 13, none⟩ = some (.bool r.pre) ∧ w'.cell? ⟨gr, orr + k2 * 13 + 1, none⟩ = some (.string (ofL r.path)) ∧ w'.cell? ⟨gr, orr + k2 * 13 + 2, none⟩ = some (.string (ofL r.method)) ∧ w'.cell? ⟨gr, orr + k2 * 13 + 3, none⟩ = some (.string (ofL r.field)) ∧ w'.cell? ⟨gr, orr + k2 * 13 + 4, none⟩ = some (.string (ofL r.value)) ∧ w'.cell? ⟨gr, orr + k2 * 13 + 5, none⟩ = some (.int .i64 r.action) ∧ w'.cell? ⟨gr, orr + k2 * 13 + 6, none⟩ = some (.string (ofL r.cluster)) ∧ w'.cell? ⟨gr, orr + k2 * 13 + 7, none⟩ = some (.int .i64 r.status) ∧ w'.cell? ⟨gr, orr + k2 * 13 + 8, none⟩ = some (.string (ofL r.text)) ∧ w'.cell? ⟨gr, orr + k2 * 13 + 9, none⟩ = some (.string (ofL r.rewrite)) ∧ w'.cell? ⟨gr, orr + k2 * 13 + 10, none⟩ = some (.int .i64 r.retries) ∧ w'.cell? ⟨gr, orr + k2 * 13 + 11, none⟩ = some (.int .i64 r.timeout) ∧ w'.cell? ⟨gr, orr + k2 * 13 + 12, none⟩ = some (.bool r.upgrade)) (first | exact s5 | exact s1)
              (first
                | (go_at_call 66; refine (HRo.out _ X1.cf.clusters).mono ?_; rintro e w5 ⟨rfl, hb5⟩
                   have X5 := X1.call hb5
                   have s5 : w5.cell? ⟨gv, 1, none⟩ = some (.slice (some ⟨gr, orr, none⟩) V.routes.length cr) ∧ w5.cell? ⟨g, 7, none⟩ = some (.slice pc c.clusters.length cc) ∧ _ := And.intro (X5.vb.cell 1) (And.intro (X5.box.cell 7) (routs_at X5.rt k2 hlt r HRr.out))))
            have HI5 := Lib.hid X5
            cases rb with
            | false =>
              have HF : Hid (V.routes.all (fun r => routB r c.clusters) = false) := Lib.hid (by
                have e : V.routes = V.routes.take (k2 + 1) ++ V.routes.drop (k2 + 1) := (List.take_append_drop _ _).symm
                rw [e, List.all_append, HS.out, Bool.and_false, Bool.false_and])
              clear X1 X5 hb5 v1d b7 v1 s1 s5 HI
              go_wp2_with fail
              go_ret
              exact ⟨ret_int (by rw [HV.out, HF.out]; rfl), HG.out ▸ HI5.out.below⟩
            | true =>
              have HK : Hid ((V.routes.take (k2 + 1)).all (fun r => routB r c.clusters) = true ∧ Xb w g gv c (.slice pf c.filters.length cf) (.slice pc c.clusters.length cc) (.slice (some ⟨gs, os, none⟩) c.vhosts.length cv) V.domain (.slice (some ⟨gr, orr, none⟩) V.routes.length cr) V.routes w5) := Lib.hid ⟨by rw [HS.out, HI.out.1]; rfl, HI5.out⟩
              clear X1 X5 hb5 v1d b7 v1 s1 s5 HI HI5
              go_wp2_with fail
              go_roundw
              case rel => exact ⟨k2 + 1, by omega, by go_num, HK⟩
              case measure => simp [intOf]; omega
          · have hki : ¬ (k2 : Int) < (V.routes.length : Int) := by omega
            obtain rfl : k2 = V.routes.length := by omega
            have HF : Hid (V.routes.all (fun r => routB r c.clusters) = true) := Lib.hid (by have := HI.out.1; rwa [List.take_length] at this)
            have HI5 := Lib.hid HI.out.2
            have v1 : wr.cell? ⟨gv, 1, none⟩ = some (.slice pr V.routes.length cr) := HI.out.2.vb.cell 1
            clear HI hlt
            go_wp2_with fail
            go_ret
            exact ⟨ret_int (by rw [HV.out, HF.out]; rfl), HG.out ▸ HI5.out.below⟩
end Go.Proofs.YtfihehobkbfmiaaGreatDoor.R14Vhost

/- Layer 14, the document's own Check. -/
namespace Go.Proofs.YtfihehobkbfmiaaGreatDoor.R14Check
open Go.ChangeShapes Go.WideShapes Go.ChangeAt Go.RowKit Bytes LexPure ConfPure ConfMem Ret Mem Texts R14In R14Name R14Eq R14Host R14Clus R14Rout R14Bnd R14Vhost
set_option maxRecDepth 100000
set_option linter.unusedVariables false
set_option linter.unusedSimpArgs false
theorem filts_at {w : World} {p : Option Addr} {n cap : Nat} {G : List Filt} (h : Filts w (.slice p n cap) G) (i : Nat) (hi : i < G.length) : ∃ g o, p = some ⟨g, o, none⟩ ∧ ∀ x, x = G[i] → w.cell? ⟨g, o + i * 6, none⟩ = some (.int .i64 x.kind) ∧ w.cell? ⟨g, o + i * 6 + 1, none⟩ = some (.string (ofL x.name)) ∧ w.cell? ⟨g, o + i * 6 + 2, none⟩ = some (.string (ofL x.value)) ∧ w.cell? ⟨g, o + i * 6 + 3, none⟩ = some (.int .i64 x.n) ∧ w.cell? ⟨g, o + i * 6 + 4, none⟩ = some (.int .i64 x.m) ∧ w.cell? ⟨g, o + i * 6 + 5, none⟩ = some (.int .i64 x.k) := by
  obtain ⟨p2, c2, heq, _, hc⟩ := h.parts
  injection heq with e1 e2 e3
  obtain ⟨g, o, hp, _, hcell⟩ := hc (by omega)
  exact ⟨g, o, e1.trans hp, fun x hx => by subst hx; exact hcell i hi⟩
theorem cluss_at {w : World} {p : Option Addr} {n cap : Nat} {G : List Clus} (h : Cluss w (.slice p n cap) G) (i : Nat) (hi : i < G.length) : ∃ g o, p = some ⟨g, o, none⟩ ∧ ∀ x, x = G[i] → ∃ h, Texts w h x.hosts ∧ w.cell? ⟨g, o + i * 9, none⟩ = some (.string (ofL x.name)) ∧ w.cell? ⟨g, o + i * 9 + 1, none⟩ = some (.int .i64 x.policy) ∧ w.cell? ⟨g, o + i * 9 + 2, none⟩ = some (h) ∧ w.cell? ⟨g, o + i * 9 + 3, none⟩ = some (.int .i64 x.conns) ∧ w.cell? ⟨g, o + i * 9 + 4, none⟩ = some (.int .i64 x.pending) ∧ w.cell? ⟨g, o + i * 9 + 5, none⟩ = some (.int .i64 x.try_) ∧ w.cell? ⟨g, o + i * 9 + 6, none⟩ = some (.int .i64 x.fails) ∧ w.cell? ⟨g, o + i * 9 + 7, none⟩ = some (.int .i64 x.eject) ∧ w.cell? ⟨g, o + i * 9 + 8, none⟩ = some (.int .i64 x.panic) := by
  obtain ⟨p2, c2, heq, _, hc⟩ := h.parts
  injection heq with e1 e2 e3
  obtain ⟨g, o, hp, _, hcell⟩ := hc (by omega)
  exact ⟨g, o, e1.trans hp, fun x hx => by subst hx; exact hcell i hi⟩
theorem clus_name {w : World} {g o n cap : Nat} {G : List Clus} (h : Cluss w (.slice (some ⟨g, o, none⟩) n cap) G) (i : Nat) (hi : i < G.length) : w.cell? ⟨g, o + i * 9, none⟩ = some (.string (ofL G[i].name)) := by
  obtain ⟨g2, o2, hp, hx⟩ := cluss_at h i hi
  injection hp with hp
  injection hp with a1 a2
  subst a1 a2
  obtain ⟨_, _, c0, _⟩ := hx _ rfl
  exact c0
structure Kb (w : World) (g : Nat) (c : Conf) (vf vc vv : Value) (W : World) : Prop where
  box : Has W g CT (confV c vf vc vv)
  cf : CF W vf vc vv c
  below : Below g w W
theorem Kb.call {w W W' : World} {g : Nat} {c : Conf} {vf vc vv : Value} (x : Kb w g c vf vc vv W) (hb : Below W.heap.size W W') : Kb w g c vf vc vv W' :=
  ⟨x.box.below hb x.box.lt, x.cf.below hb, ⟨hb.os.trans x.below.os, hb.tape.trans x.below.tape, hb.output.trans x.below.output, Nat.le_trans x.below.size hb.size, fun i hi => (hb.block i (Nat.lt_trans hi x.box.lt)).trans (x.below.block i hi)⟩⟩
theorem Kb.drew {w W : World} {g : Nat} {c : Conf} {vf vc vv : Value} (x : Kb w g c vf vc vv W) : Kb w g c vf vc vv W.drew := ⟨x.box.drew, cf_drew x.cf, below_drew x.below⟩
theorem Kb.start {w : World} {c : Conf} {vf vc vv : Value} (hC : CF w vf vc vv c) : Kb w w.heap.size c vf vc vv (w.alloc (.cells (confV c vf vc vv) CT)) :=
  ⟨Has.new w _ _, hC.below ((Below.refl _ _).alloc (Nat.le_refl _) _), (Below.refl _ _).alloc (Nat.le_refl _) _⟩
theorem clusE_step (ahead cs : List Clus) (x : Clus) : clusE ahead (x :: cs) = if ahead.any (fun y => y.name == x.name) || !tokenB x.name 32 then 142 else if !clusB x then 143 else clusE (ahead ++ [x]) cs := by
  conv => lhs; unfold clusE
def Named (cs : List Clus) (i k : Nat) : Prop := ∀ j (hj : j < cs.length) (hi : i < cs.length), j < k → (cs[j].name == cs[i].name) = false
theorem Named.all {cs : List Clus} {i : Nat} (hi : i < cs.length) (h : Named cs i i) : (cs.take i).any (fun x => x.name == cs[i].name) = false := by
  rw [List.any_eq_false]
  intro y hy
  obtain ⟨j, hj, rfl⟩ := List.getElem_of_mem hy
  rw [List.length_take] at hj
  rw [List.getElem_take]
  simpa using h j (by omega) hi (by omega)
theorem filt_step (fs : List Filt) (k : Nat) (h : k < fs.length) : (fs.take (k + 1)).all filtB = ((fs.take k).all filtB && filtB fs[k]) := by
  rw [List.take_succ_eq_append_getElem h, List.all_append]
  simp
set_option maxHeartbeats 12800000 in
theorem rcheck_any (c : Conf) (vf vc vv : Value) (hx : FitConf c) (w : World) (hC : CF w vf vc vv c) :
    Calls Tryz.prog 11 #[.agg (confV c vf vc vv)] w fun e w' => e = .returned (.int .i64 (check14 c)) ∧ Below w.heap.size w w' := by
  have HBd := Lib.hid (fun w => rbounds_any c vf vc vv (R14Bnd.CF.vals hC) w)
  have HVh := Lib.hid (fun i hi w h => rvhost_any c vf vc vv i hi hx w h)
  have HB := Lib.hid (Kb.start hC)
  obtain ⟨⟨pf, cf, rfl⟩, ⟨pc, cc, rfl⟩, ⟨pv, cv, rfl⟩⟩ := R14Bnd.CF.vals hC
  have HX := Lib.hid hx
  have hfl := hx.filters.1
  have hcl := hx.clusters.1
  have hvl := hx.vhosts.1
  obtain ⟨r0, hr0⟩ : ∃ r0, r0 = boundsB c := ⟨_, rfl⟩
  rw [← hr0] at HBd
  have HR0 := Lib.hid hr0
  clear hC hr0
  obtain ⟨g, hg⟩ : ∃ g, g = w.heap.size := ⟨_, rfl⟩
  rw [← hg] at HB
  have HG := Lib.hid hg
  clear hg hx
  unfold confV at HBd HVh ⊢
  go_enter Tryz.func11, Tryz.ntmps11
  go_wp2_with fail
  rw [← HG.out]
  have W0 : Hid (∃ W1, W1 = w.alloc (.cells #[.int .i64 c.conns, .int .i64 c.body, .int .i64 c.idle, .int .i64 c.grace, .int .i64 c.budget, .int .i64 c.seed, .slice pf c.filters.length cf, .slice pc c.clusters.length cc, .slice pv c.vhosts.length cv] 26)) := Lib.hid ⟨_, rfl⟩
  unfold confV CT at HB
  generalize w.alloc (.cells #[.int .i64 c.conns, .int .i64 c.body, .int .i64 c.idle, .int .i64 c.grace, .int .i64 c.budget, .int .i64 c.seed, .slice pf c.filters.length cf, .slice pc c.clusters.length cc, .slice pv c.vhosts.length cv] 26) = W1 at HB ⊢
  clear W0
  refine (HBd.out _).mono ?_
  rintro e w2 ⟨rfl, hb2⟩
  have K2 := Lib.hid (Kb.call (vf := .slice pf c.filters.length cf) (vc := .slice pc c.clusters.length cc) (vv := .slice pv c.vhosts.length cv) ⟨HB.out.box, HB.out.cf, HB.out.below⟩ hb2)
  clear HB hb2 HBd
  cases r0 with
  | false =>
    have HV : Hid (check14 c = 141) := Lib.hid (by unfold check14; rw [← HR0.out]; rfl)
    go_wp2_with fail
    go_ret
    exact ⟨ret_int HV.out.symm, HG.out ▸ K2.out.below⟩
  | true =>
  have HV1 : Hid (check14 c = if !c.filters.all filtB then 145 else if clusE [] c.clusters ≠ 0 then clusE [] c.clusters else vhosE c.clusters [] c.vhosts) := Lib.hid (by unfold check14; rw [← HR0.out]; rfl)
  clear HR0
  go_wp2_with fail
  go_loopw [3] (fun i2 wr => ∃ k : Nat, k ≤ c.filters.length ∧ i2 = .int .i64 k ∧ Hid ((c.filters.take k).all filtB = true ∧ Kb w g c (.slice pf c.filters.length cf) (.slice pc c.clusters.length cc) (.slice pv c.vhosts.length cv) wr)) (fun i2 _ => c.filters.length - (intOf i2).toNat)
  case atStart => exact ⟨0, Nat.zero_le _, rfl, Lib.hid ⟨rfl, K2.out⟩⟩
  case round =>
    obtain ⟨k, hk, rfl, HJ⟩ := hrel
    clear K2
    have b6 : wr.cell? ⟨g, 6, none⟩ = some (.slice pf c.filters.length cf) := HJ.out.2.box.cell 6
    by_cases hlt : k < c.filters.length
    · have hki : (k : Int) < (c.filters.length : Int) := by omega
      have hk0 : (0 : Int) ≤ (k : Int) := by omega
      obtain ⟨gf, of, rfl, hxc⟩ := filts_at HJ.out.2.cf.filters k hlt
      have HS := Lib.hid (filt_step c.filters k hlt)
      obtain ⟨x, hxx⟩ : ∃ x, x = c.filters[k] := ⟨_, rfl⟩
      obtain ⟨m0, m1, m2, m3, m4, m5⟩ := hxc x hxx
      have hfx : FitFilt x := by rw [hxx]; exact HX.out.filters.2 _ (List.getElem_mem hlt)
      have HF := Lib.hid (fun w => R14Filt.rfilter_any x hfx w)
      rw [← hxx] at HS
      obtain ⟨rb, hrb⟩ : ∃ rb, rb = filtB x := ⟨_, rfl⟩
      rw [← hrb] at HF HS
      unfold fcs at HF
      clear hxc hxx hfx hrb
      go_wp2_with fail
      refine (HF.out _).mono ?_
      rintro e w5 ⟨rfl, hb5⟩
      have K5 := Lib.hid (HJ.out.2.call hb5)
      clear HF m0 m1 m2 m3 m4 m5 b6 hb5
      cases rb with
      | false =>
        have HV : Hid (check14 c = 145) := Lib.hid (by
          rw [HV1.out]
          have e : c.filters = c.filters.take (k + 1) ++ c.filters.drop (k + 1) := (List.take_append_drop _ _).symm
          have : c.filters.all filtB = false := by rw [e, List.all_append, HS.out, Bool.and_false, Bool.false_and]
          rw [this]
          rfl)
        clear HJ
        go_wp2_with fail
        go_ret
        exact ⟨ret_int HV.out.symm, HG.out ▸ K5.out.below⟩
      | true =>
        have HK : Hid ((c.filters.take (k + 1)).all filtB = true ∧ Kb w g c (.slice (some ⟨gf, of, none⟩) c.filters.length cf) (.slice pc c.clusters.length cc) (.slice pv c.vhosts.length cv) w5) := Lib.hid ⟨by rw [HS.out, HJ.out.1]; rfl, K5.out⟩
        clear HJ K5
        go_wp2_with fail
        go_roundw
        case rel => exact ⟨k + 1, by omega, by go_num, HK⟩
        case measure => simp [intOf]; omega
    · have hki : ¬ (k : Int) < (c.filters.length : Int) := by omega
      obtain rfl : k = c.filters.length := by omega
      have HV2 : Hid (check14 c = if clusE [] c.clusters ≠ 0 then clusE [] c.clusters else vhosE c.clusters [] c.vhosts) := Lib.hid (by
        rw [HV1.out]
        have := HJ.out.1
        rw [List.take_length] at this
        rw [this]
        rfl)
      have K3 := Lib.hid HJ.out.2
      clear HJ hlt HV1
      go_wp2_with fail
      clear b6 hk hki
      go_loopw [4] (fun i2 wr => ∃ k : Nat, k ≤ c.clusters.length ∧ i2 = .int .i64 k ∧ Hid (clusE [] c.clusters = clusE (c.clusters.take k) (c.clusters.drop k) ∧ Kb w g c (.slice pf c.filters.length cf) (.slice pc c.clusters.length cc) (.slice pv c.vhosts.length cv) wr)) (fun i2 _ => c.clusters.length - (intOf i2).toNat)
      case atStart => exact ⟨0, Nat.zero_le _, rfl, Lib.hid ⟨by simp, K3.out⟩⟩
      case round =>
        obtain ⟨k, hk, rfl, HJ⟩ := hrel
        clear K3
        have b7 : wr.cell? ⟨g, 7, none⟩ = some (.slice pc c.clusters.length cc) := HJ.out.2.box.cell 7
        by_cases hlt : k < c.clusters.length
        · have hki : (k : Int) < (c.clusters.length : Int) := by omega
          have hk0 : (0 : Int) ≤ (k : Int) := by omega
          obtain ⟨gc, oc, rfl, -⟩ := cluss_at HJ.out.2.cf.clusters k hlt
          obtain ⟨x, hxx⟩ : ∃ x, x = c.clusters[k] := ⟨_, rfl⟩
          have HXx := Lib.hid hxx
          have hfx : FitClus x := by rw [hxx]; exact HX.out.clusters.2 _ (List.getElem_mem hlt)
          have HFx := Lib.hid hfx
          have HS : Hid (clusE (c.clusters.take k) (c.clusters.drop k) = if (c.clusters.take k).any (fun y => y.name == x.name) || !tokenB x.name 32 then 142 else if !clusB x then 143 else clusE (c.clusters.take (k + 1)) (c.clusters.drop (k + 1))) := Lib.hid (by
            rw [List.drop_eq_getElem_cons hlt, clusE_step, hxx, List.take_succ_eq_append_getElem hlt])
          clear hxx hfx
          go_wp2_with fail
          clear b7
          go_loopw [5] (fun i2 wr => ∃ k2 : Nat, k2 ≤ k ∧ i2 = .int .i64 k2 ∧ Hid (Named c.clusters k k2 ∧ Kb w g c (.slice pf c.filters.length cf) (.slice (some ⟨gc, oc, none⟩) c.clusters.length cc) (.slice pv c.vhosts.length cv) wr)) (fun i2 _ => k - (intOf i2).toNat)
          case atStart => exact ⟨0, Nat.zero_le _, rfl, Lib.hid ⟨fun j _ _ h => absurd h (by omega), HJ.out.2⟩⟩
          case round =>
            obtain ⟨k2, hk2, rfl, HI⟩ := hrel
            by_cases hlt2 : k2 < k
            · have hk2i : (k2 : Int) < (k : Int) := by omega
              have hk20 : (0 : Int) ≤ (k2 : Int) := by omega
              have hk2n : (k2 : Int) < (c.clusters.length : Int) := by omega
              have hl2 : k2 < c.clusters.length := by omega
              have X1 := HI.out.2.drew
              obtain ⟨y, hy⟩ : ∃ y, y = c.clusters[k2].name := ⟨_, rfl⟩
              have t1 := clus_name X1.cf.clusters k2 hl2
              have t2 := clus_name X1.cf.clusters k hlt
              rw [← hy] at t1
              rw [← HXx.out] at t2
              have b7 : wr.drew.cell? ⟨g, 7, none⟩ = some (.slice (some ⟨gc, oc, none⟩) c.clusters.length cc) := X1.box.cell 7
              have te := text_eq y x.name
              obtain ⟨b, hb⟩ : ∃ b, b = (y == x.name) := ⟨_, rfl⟩
              rw [← hb] at te
              have HY := Lib.hid (And.intro hb hy)
              clear hb hy
              go_wp2_with fail
              go_region_held3 (fun w' => w'.cell? ⟨g, 7, none⟩ = some (.slice (some ⟨gc, oc, none⟩) c.clusters.length cc) ∧ w'.cell? ⟨gc, oc + k2 * 9, none⟩ = some (.string (ofL y)) ∧ w'.cell? ⟨gc, oc + k * 9, none⟩ = some (.string (ofL x.name))) (exact ⟨b7, t1, t2⟩) (fail)
              have X2 := Lib.hid X1
              clear X1 b7 t1 t2
              cases b with
              | true =>
                have HV : Hid (check14 c = 142) := Lib.hid (by
                  obtain ⟨q1, q2⟩ := HY.out
                  have : (c.clusters.take k).any (fun z => z.name == x.name) = true := by
                    rw [List.any_eq_true]
                    refine ⟨c.clusters[k2], List.mem_iff_getElem.2 ⟨k2, by rw [List.length_take]; omega, by rw [List.getElem_take]⟩, ?_⟩
                    rw [← q2]
                    exact q1.symm
                  have e : clusE [] c.clusters = 142 := by rw [HJ.out.1, HS.out, this]; rfl
                  rw [HV2.out, e, if_pos (by decide)])
                clear HI HJ
                go_wp2_with fail
                go_ret
                exact ⟨ret_int HV.out.symm, HG.out ▸ X2.out.below⟩
              | false =>
                have HK : Hid (Named c.clusters k (k2 + 1) ∧ Kb w g c (.slice pf c.filters.length cf) (.slice (some ⟨gc, oc, none⟩) c.clusters.length cc) (.slice pv c.vhosts.length cv) wr.drew) := Lib.hid ⟨fun j hj hi hjk => by
                  rcases Nat.lt_or_ge j k2 with h | h
                  · exact HI.out.1 j hj hi h
                  · obtain rfl : j = k2 := by omega
                    obtain ⟨q1, q2⟩ := HY.out
                    have q3 := HXx.out
                    rw [← q2, ← q3]
                    exact q1.symm, X2.out⟩
                clear HI X2
                go_wp2_with fail
                go_roundw
                case rel => exact ⟨k2 + 1, by omega, by go_num, HK⟩
                case measure => simp [intOf]; omega
            · have hkk : ¬ (k2 : Int) < (k : Int) := by omega
              obtain rfl : k2 = k := by omega
              have HA : Hid ((c.clusters.take k2).any (fun z => z.name == x.name) = false) := Lib.hid (by
                have q3 := HXx.out
                have := HI.out.1.all hlt
                rw [← q3] at this
                exact this)
              have K4 := Lib.hid HI.out.2
              have t2 := clus_name K4.out.cf.clusters k2 hlt
              rw [← HXx.out] at t2
              have b7 : wr.cell? ⟨g, 7, none⟩ = some (.slice (some ⟨gc, oc, none⟩) c.clusters.length cc) := K4.out.box.cell 7
              have HTk := Lib.hid (fun w => rtok_any (ofL x.name) (by rw [ofL_size]; exact HFx.out.name) 32 (by decide) w)
              rw [toL_ofL] at HTk
              obtain ⟨rt, hrt⟩ : ∃ rt, rt = tokenB x.name 32 := ⟨_, rfl⟩
              rw [← hrt] at HTk HS
              clear HI hlt2 hrt
              go_wp2_with fail
              refine (HTk.out _).mono ?_
              rintro e w5 ⟨rfl, rfl⟩
              clear HTk
              cases rt with
              | false =>
                have HV : Hid (check14 c = 142) := Lib.hid (by
                  have e : clusE [] c.clusters = 142 := by rw [HJ.out.1, HS.out, HA.out]; rfl
                  rw [HV2.out, e, if_pos (by decide)])
                clear HJ
                go_wp2_with fail
                go_ret
                exact ⟨ret_int HV.out.symm, HG.out ▸ K4.out.below⟩
              | true =>
                obtain ⟨gc2, oc2, hpc, hxc⟩ := cluss_at K4.out.cf.clusters k2 hlt
                injection hpc with hpc
                injection hpc with a1 a2
                subst a1 a2
                obtain ⟨h, htx, m0, m1, m2, m3, m4, m5, m6, m7, m8⟩ := hxc x HXx.out
                obtain ⟨ph, ch, rfl, _, _⟩ := id htx
                have HCl := Lib.hid (fun w h2 => rclus_any x (.slice ph x.hosts.length ch) HFx.out w h2)
                have HTx := Lib.hid htx
                obtain ⟨rb, hrb⟩ : ∃ rb, rb = clusB x := ⟨_, rfl⟩
                rw [← hrb] at HCl HS
                clear hxc htx hrb t2
                go_wp2_with fail
                refine (HCl.out _ HTx.out).mono ?_
                rintro e w6 ⟨rfl, hb6⟩
                have K6 := Lib.hid (K4.out.call hb6)
                clear HCl m0 m1 m2 m3 m4 m5 m6 m7 m8 b7 hb6 HTx K4
                cases rb with
                | false =>
                  have HV : Hid (check14 c = 143) := Lib.hid (by
                    have e : clusE [] c.clusters = 143 := by rw [HJ.out.1, HS.out, HA.out]; rfl
                    rw [HV2.out, e, if_pos (by decide)])
                  clear HJ
                  go_wp2_with fail
                  go_ret
                  exact ⟨ret_int HV.out.symm, HG.out ▸ K6.out.below⟩
                | true =>
                  have HK : Hid (clusE [] c.clusters = clusE (c.clusters.take (k2 + 1)) (c.clusters.drop (k2 + 1)) ∧ Kb w g c (.slice pf c.filters.length cf) (.slice (some ⟨gc, oc, none⟩) c.clusters.length cc) (.slice pv c.vhosts.length cv) w6) := Lib.hid ⟨by rw [HJ.out.1, HS.out, HA.out]; rfl, K6.out⟩
                  clear HJ K6
                  go_wp2_with fail
                  go_roundw
                  case rel => exact ⟨k2 + 1, by omega, by go_num, HK⟩
                  case measure => simp [intOf]; omega
        · have hki : ¬ (k : Int) < (c.clusters.length : Int) := by omega
          obtain rfl : k = c.clusters.length := by omega
          have HV3 : Hid (check14 c = vhosE c.clusters [] c.vhosts) := Lib.hid (by
            have e : clusE [] c.clusters = 0 := by rw [HJ.out.1, List.drop_length]; rfl
            rw [HV2.out, e, if_neg (fun h => h rfl)])
          have K3 := Lib.hid HJ.out.2
          clear HJ hlt HV2
          go_wp2_with fail
          clear b7 hk hki
          go_loopw [6] (fun i2 wr => ∃ k : Nat, k ≤ c.vhosts.length ∧ i2 = .int .i64 k ∧ Hid (vhosE c.clusters [] c.vhosts = vhosE c.clusters (c.vhosts.take k) (c.vhosts.drop k) ∧ Kb w g c (.slice pf c.filters.length cf) (.slice pc c.clusters.length cc) (.slice pv c.vhosts.length cv) wr)) (fun i2 _ => c.vhosts.length - (intOf i2).toNat)
          case atStart => exact ⟨0, Nat.zero_le _, rfl, Lib.hid ⟨by simp, K3.out⟩⟩
          case round =>
            obtain ⟨k, hk, rfl, HJ⟩ := hrel
            clear K3
            have b8 : wr.cell? ⟨g, 8, none⟩ = some (.slice pv c.vhosts.length cv) := HJ.out.2.box.cell 8
            by_cases hlt : k < c.vhosts.length
            · have hki : (k : Int) < (c.vhosts.length : Int) := by omega
              have hk0 : (0 : Int) ≤ (k : Int) := by omega
              have q0 : wr.cell? ⟨g, 0, none⟩ = some (.int .i64 c.conns) := HJ.out.2.box.cell 0
              have q1 : wr.cell? ⟨g, 1, none⟩ = some (.int .i64 c.body) := HJ.out.2.box.cell 1
              have q2 : wr.cell? ⟨g, 2, none⟩ = some (.int .i64 c.idle) := HJ.out.2.box.cell 2
              have q3 : wr.cell? ⟨g, 3, none⟩ = some (.int .i64 c.grace) := HJ.out.2.box.cell 3
              have q4 : wr.cell? ⟨g, 4, none⟩ = some (.int .i64 c.budget) := HJ.out.2.box.cell 4
              have q5 : wr.cell? ⟨g, 5, none⟩ = some (.int .i64 c.seed) := HJ.out.2.box.cell 5
              have q6 : wr.cell? ⟨g, 6, none⟩ = some (.slice pf c.filters.length cf) := HJ.out.2.box.cell 6
              have q7 : wr.cell? ⟨g, 7, none⟩ = some (.slice pc c.clusters.length cc) := HJ.out.2.box.cell 7
              have HVk := Lib.hid (fun w h => HVh.out k hlt w h)
              have HS : Hid (vhosE c.clusters (c.vhosts.take k) (c.vhosts.drop k) = if vhE c.clusters (c.vhosts.take k) c.vhosts[k] ≠ 0 then vhE c.clusters (c.vhosts.take k) c.vhosts[k] else vhosE c.clusters (c.vhosts.take (k + 1)) (c.vhosts.drop (k + 1))) := Lib.hid (by
                rw [List.drop_eq_getElem_cons hlt, vhosE_step, List.take_succ_eq_append_getElem hlt])
              obtain ⟨E, hE⟩ : ∃ E, E = vhE c.clusters (c.vhosts.take k) c.vhosts[k] := ⟨_, rfl⟩
              rw [← hE] at HVk HS
              clear hE
              go_wp2_with fail
              refine (HVk.out _ HJ.out.2.cf).mono ?_
              rintro e w5 ⟨rfl, hb5⟩
              have K5 := Lib.hid (HJ.out.2.call hb5)
              clear HVk q0 q1 q2 q3 q4 q5 q6 q7 b8 hb5
              by_cases hE0 : E = 0
              · subst hE0
                have HK : Hid (vhosE c.clusters [] c.vhosts = vhosE c.clusters (c.vhosts.take (k + 1)) (c.vhosts.drop (k + 1)) ∧ Kb w g c (.slice pf c.filters.length cf) (.slice pc c.clusters.length cc) (.slice pv c.vhosts.length cv) w5) := Lib.hid ⟨by rw [HJ.out.1, HS.out, if_neg (fun h => h rfl)], K5.out⟩
                clear HJ K5
                go_wp2_with fail
                go_roundw
                case rel => exact ⟨k + 1, by omega, by go_num, HK⟩
                case measure => simp [intOf]; omega
              · have hEb : (E != 0) = true := bne_iff_ne.2 hE0
                have HV : Hid (check14 c = E) := Lib.hid (by rw [HV3.out, HJ.out.1, HS.out, if_pos hE0])
                clear HJ hE0
                go_wp2_with fail
                go_ret
                exact ⟨ret_int HV.out.symm, HG.out ▸ K5.out.below⟩
            · have hki : ¬ (k : Int) < (c.vhosts.length : Int) := by omega
              obtain rfl : k = c.vhosts.length := by omega
              have HV : Hid (check14 c = 0) := Lib.hid (by rw [HV3.out, HJ.out.1, List.drop_length]; rfl)
              have K5 := Lib.hid HJ.out.2
              clear HJ hlt
              go_wp2_with fail
              go_ret
              exact ⟨ret_int HV.out.symm, HG.out ▸ K5.out.below⟩
end Go.Proofs.YtfihehobkbfmiaaGreatDoor.R14Check

/- Layer 14: what a right config may be relied on for. No program is named. -/
namespace Go.Proofs.YtfihehobkbfmiaaGreatDoor.ConfSafe
open Bytes LexPure LexNum HostPure PathPure RHostPure EmitPure ConfPure ConfBack
set_option maxRecDepth 20000
theorem host_dial {s : L} (h : hostB s = true) : authE s = 0 ∧ 1 ≤ authP s := by
  unfold hostB at h
  cases ha : authO s with
  | none => rw [ha] at h; cases h
  | some x =>
    obtain ⟨hn, p⟩ := x
    rw [ha] at h
    simp only [Bool.and_eq_true, decide_eq_true_eq] at h
    obtain ⟨_, a2, a3⟩ := auth_some ha
    rw [a2, a3]
    exact ⟨rfl, by omega⟩
theorem in_least {n a b : Int} (h : inB n a b = true) : a ≤ n ∧ n ≤ b := by
  unfold inB at h
  rw [Bool.and_eq_true, decide_eq_true_eq, decide_eq_true_eq] at h
  exact h
theorem clus_safe {x : Clus} (h : clusB x = true) : (∀ s ∈ x.hosts, authE s = 0 ∧ 1 ≤ authP s) ∧ 1 ≤ x.hosts.length ∧ x.hosts.length ≤ 16 ∧ 1 ≤ x.conns ∧ 1 ≤ x.try_ := by
  have hs := (clus_small h).hosts
  unfold clusB at h
  simp only [Bool.and_eq_true] at h
  obtain ⟨⟨⟨⟨⟨⟨⟨⟨_, h2⟩, h3⟩, _⟩, h5⟩, _⟩, _⟩, _⟩, _⟩ := h
  have := in_least h2
  exact ⟨fun s hm => host_dial (hosts_word hs s hm), by omega, by omega, (in_least h3).1, (in_least h5).1⟩
theorem normal_of {s : L} (h : normalB s = true) : PathPure.normal s = some s := by
  unfold normalB at h
  simpa using h
/-- what the law looks at in a route -/
structure RoutSafe (r : Rout) (cs : List Clus) : Prop where
  found : r.action = 1 → ∃ c ∈ cs, c.name = r.cluster
  path : PathPure.normal r.path = some r.path ∨ (PathPure.normal r.path = none ∧ r.method = CONNECT)
  rewrite : r.rewrite = [] ∨ PathPure.normal r.rewrite = some r.rewrite
theorem rout_safe {r : Rout} {cs : List Clus} (h : routB r cs = true) : RoutSafe r cs := by
  unfold routB at h
  rw [Bool.and_eq_true] at h
  obtain ⟨h0, h1⟩ := h
  simp only [Bool.and_eq_true] at h0
  obtain ⟨⟨⟨⟨hp, _⟩, _⟩, _⟩, _⟩ := h0
  have hpath : PathPure.normal r.path = some r.path ∨ (PathPure.normal r.path = none ∧ r.method = CONNECT) := by
    rw [Bool.or_eq_true] at hp
    rcases hp with q | q
    · exact .inl (normal_of q)
    · simp only [Bool.and_eq_true, beq_iff_eq] at q
      exact .inr ⟨by rw [q.1]; decide, q.2⟩
  by_cases ha : r.action = 1
  · rw [if_pos ha] at h1
    unfold forwB at h1
    simp only [Bool.and_eq_true] at h1
    obtain ⟨⟨⟨⟨⟨k1, _⟩, _⟩, _⟩, _⟩, k2⟩ := h1
    refine ⟨fun _ => ?_, hpath, ?_⟩
    · obtain ⟨c, hc, hn⟩ := List.any_eq_true.1 k1
      exact ⟨c, hc, by simpa using hn⟩
    · split at k2
      · simp only [Bool.and_eq_true, beq_iff_eq] at k2
        exact .inl k2.1.1
      · simp only [Bool.or_eq_true, beq_iff_eq] at k2
        rcases k2 with q | q
        · exact .inl q
        · exact .inr (normal_of q)
  · rw [if_neg ha] at h1
    simp only [Bool.and_eq_true, beq_iff_eq] at h1
    exact ⟨fun e => absurd e ha, hpath, .inl h1.1.1.1.1.1.2⟩
theorem filt_safe {f : Filt} (h : filtB f = true) : f.name = [] ∨ nameB f.name = true := by
  unfold filtB at h
  split at h
  · simp only [Bool.and_eq_true] at h; exact .inr h.1.2
  split at h
  · simp only [Bool.and_eq_true] at h; exact .inr h.2
  split at h
  · simp only [Bool.and_eq_true, beq_iff_eq] at h; exact .inl h.1.1.1.1
  split at h
  · simp only [Bool.and_eq_true] at h; exact .inr h.1.1.2
  split at h
  · simp only [Bool.and_eq_true, beq_iff_eq] at h; exact .inl h.1.1.1.1.1
  split at h
  · simp only [Bool.and_eq_true, beq_iff_eq] at h; exact .inl h.1.1.1.1
  split at h
  · simp only [Bool.and_eq_true, beq_iff_eq] at h; exact .inl h.1.1.1.1
  · cases h
/-- a right config's lists are short -/
theorem short14 {c : Conf} (h : Right c) : c.filters.length ≤ 32 ∧ c.clusters.length ≤ 32 ∧ c.vhosts.length ≤ 32 ∧ ∀ v ∈ c.vhosts, 1 ≤ v.routes.length ∧ v.routes.length ≤ 32 := by
  have hb := h.bounds
  unfold boundsB at hb
  simp only [Bool.and_eq_true, decide_eq_true_eq] at hb
  refine ⟨hb.1.1.2, hb.1.2, hb.2, fun v hv => ?_⟩
  have := in_least (h.vhosts v hv).2.1
  omega
end Go.Proofs.YtfihehobkbfmiaaGreatDoor.ConfSafe
