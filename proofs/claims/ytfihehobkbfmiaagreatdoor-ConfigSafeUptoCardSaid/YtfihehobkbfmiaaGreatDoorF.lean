/- Texts of this seat, one behind another: ConfigSafeW. -/
import Derived.BigQuiet
import Derived.Test.YtfihehobkbfmiaaGreatDoorB
import Derived.Test.YtfihehobkbfmiaaGreatDoorA11
import Derived.Test.YtfihehobkbfmiaaGreatDoorA12
import Derived.Test.YtfihehobkbfmiaaGreatDoorC
/- What a right config may be relied on for: ConfigSafe returns true, whatever the config. -/
namespace Go.Proofs.YtfihehobkbfmiaaGreatDoor.ConfigSafeW
open Go.ChangeShapes Go.WideShapes Go.ChangeAt Go.RowKit Bytes LexPure ConfPure ConfBack ConfSafe ConfMem ConfObj R14Bnd R14Name R14Vhost R14Check R14Print Ret Mem Texts RNormal HostPure RHostPure PathPure
set_option maxRecDepth 100000
set_option linter.unusedVariables false
set_option linter.unusedSimpArgs false
theorem ne_text (a b : L) : ((ofL a).toList != (ofL b).toList) = (a != b) := by
  show (!((ofL a).toList == (ofL b).toList)) = _
  rw [text_eq]; rfl
theorem at_take {A : Type} (l : List A) (k : Nat) (hk : k < l.length) (p : A → Bool) : (l.take (k + 1)).any p = ((l.take k).any p || p l[k]) := by
  rw [List.take_succ_eq_append_getElem hk, List.any_append]
  simp
/-- a route's box beside the vhost's -/
structure Rb (w : World) (g : Nat) (c : Conf) (vf vc vv : Value) (gi : Nat) (cs : Array Value) (hv : Value) (rs : List Rout) (gj : Nat) (rc : Array Value) (W : World) : Prop where
  pb : Pb w g c vf vc vv gi 43 cs W
  rt : Routs W hv rs
  rb : Has W gj 45 rc
theorem Rb.call {w W W' : World} {g gi gj : Nat} {c : Conf} {vf vc vv hv : Value} {cs rc : Array Value} {rs : List Rout} (x : Rb w g c vf vc vv gi cs hv rs gj rc W) (hb : Below W.heap.size W W') : Rb w g c vf vc vv gi cs hv rs gj rc W' :=
  ⟨x.pb.call hb, x.rt.below hb, x.rb.below hb x.rb.lt⟩
theorem below_drewN {B : Nat} {w W : World} (h : Below B w W) (m : Nat) : Below B w (W.drewN m) := ⟨h.os, h.tape, h.output, h.size, h.block⟩
set_option maxHeartbeats 12800000 in
theorem walkIn (c : Conf) (vf vc vv : Value) (hx : FitConf c) (w : World) (hm : Fit w) (hC : CF w vf vc vv c) :
    Calls Tryz.prog 5 #[.agg (confV c vf vc vv)] w fun e w' => e = .returned (.bool true) ∧ Below w.heap.size w w' := by
  have HAn := Lib.hid (fun w h => L14Anchor.anchor_any w h)
  have HChk := Lib.hid (fun w h hC => pcheck_any c vf vc vv hx w h hC)
  have HB := Lib.hid (Kb.start hC)
  have HX := Lib.hid hx
  have HM := Lib.hid hm
  obtain ⟨⟨pf, cf, rfl⟩, ⟨pc, cc, rfl⟩, ⟨pv, cv, rfl⟩⟩ := R14Bnd.CF.vals hC
  obtain ⟨g, hg⟩ : ∃ g, g = w.heap.size := ⟨_, rfl⟩
  rw [← hg] at HB
  have HG := Lib.hid hg
  clear hg hx hC hm
  unfold confV at HChk ⊢
  have HAll := HB.out
  unfold CT at HAll
  go_enter Tryz.func5, Tryz.ntmps5
  go_wp2_with fail
  rw [← HG.out]
  have K1 := Lib.hid HAll
  clear HB HAll
  have hb1 : Below w.heap.size w (w.alloc (.cells #[.int .i64 c.conns, .int .i64 c.body, .int .i64 c.idle, .int .i64 c.grace, .int .i64 c.budget, .int .i64 c.seed, .slice pf c.filters.length cf, .slice pc c.clusters.length cc, .slice pv c.vhosts.length cv] 26)) := HG.out ▸ K1.out.below
  unfold confV at K1
  refine (HAn.out _ (HM.out.below hb1)).mono ?_
  rintro e w2 ⟨rfl, hb2⟩
  have K2 := Lib.hid (K1.out.call hb2)
  clear K1 hb1 hb2 HAn
  have B2 := K2.out.box
  unfold confV CT at B2
  have c0 : w2.cell? ⟨g, 0, none⟩ = some (.int .i64 c.conns) := B2.cell 0
  have c1 : w2.cell? ⟨g, 1, none⟩ = some (.int .i64 c.body) := B2.cell 1
  have c2 : w2.cell? ⟨g, 2, none⟩ = some (.int .i64 c.idle) := B2.cell 2
  have c3 : w2.cell? ⟨g, 3, none⟩ = some (.int .i64 c.grace) := B2.cell 3
  have c4 : w2.cell? ⟨g, 4, none⟩ = some (.int .i64 c.budget) := B2.cell 4
  have c5 : w2.cell? ⟨g, 5, none⟩ = some (.int .i64 c.seed) := B2.cell 5
  have c6 : w2.cell? ⟨g, 6, none⟩ = some (.slice pf c.filters.length cf) := B2.cell 6
  have c7 : w2.cell? ⟨g, 7, none⟩ = some (.slice pc c.clusters.length cc) := B2.cell 7
  have c8 : w2.cell? ⟨g, 8, none⟩ = some (.slice pv c.vhosts.length cv) := B2.cell 8
  clear B2
  go_wp2_with fail
  refine (HChk.out _ (HM.out.below (HG.out ▸ K2.out.below)) K2.out.cf).mono ?_
  rintro e w3 ⟨rfl, hb3⟩
  have K3 := Lib.hid (K2.out.call hb3)
  clear K2 HChk hb3 c0 c1 c2 c3 c4 c5 c6 c7 c8
  obtain ⟨E, hE⟩ : ∃ E, Hid (E = check14 c) := ⟨_, Lib.hid rfl⟩
  rw [← hE.out]
  by_cases h1 : ¬ E = 0
  · have q2 : (E != 0) = true := bne_iff_ne.2 h1
    have HE : Hid (Below w.heap.size w w3) := Lib.hid (HG.out ▸ K3.out.below)
    clear hE K3
    go_wp2_with fail
    go_ret
    exact ⟨rfl, HE.out⟩
  replace h1 : E = 0 := Decidable.of_not_not h1
  have HR := Lib.hid (right_of (hE.out.symm.trans h1))
  clear hE HM
  subst h1
  have hfl : c.filters.length ≤ 32 := (short14 HR.out).1
  have hcl : c.clusters.length ≤ 32 := (short14 HR.out).2.1
  have hvl : c.vhosts.length ≤ 32 := (short14 HR.out).2.2.1
  have b7 : w3.cell? ⟨g, 7, none⟩ = some (.slice pc c.clusters.length cc) := K3.out.box.cell 7
  go_wp2_with fail
  clear b7
  go_loopw [31] (fun i wr => ∃ k : Nat, k ≤ c.clusters.length ∧ i = .int .i64 k ∧ Hid (Kb w g c (.slice pf c.filters.length cf) (.slice pc c.clusters.length cc) (.slice pv c.vhosts.length cv) wr)) (fun i _ => c.clusters.length - (intOf i).toNat)
  case atStart => exact ⟨0, Nat.zero_le _, rfl, K3⟩
  case round =>
    obtain ⟨k, hk, rfl, HJ⟩ := hrel
    clear K3
    by_cases hlt : k < c.clusters.length
    · have hki : (k : Int) < (c.clusters.length : Int) := by omega
      have hk0 : (0 : Int) ≤ (k : Int) := by omega
      obtain ⟨gc, oc, rfl, hxc⟩ := R14Check.cluss_at HJ.out.cf.clusters k hlt
      obtain ⟨x, hxx⟩ : ∃ x, x = c.clusters[k] := ⟨_, rfl⟩
      obtain ⟨y, htx, m0, m1, m2, m3, m4, m5, m6, m7, m8⟩ := hxc x hxx
      obtain ⟨ph, ch, rfl, hhn, _⟩ := id htx
      obtain ⟨hsa, hl1, hl16, hc1, ht1⟩ := clus_safe (HR.out.clusters x (hxx ▸ List.getElem_mem hlt)).1
      have HSa := Lib.hid hsa
      have HFx : Hid (FitClus x) := Lib.hid (HX.out.clusters.2 x (hxx ▸ List.getElem_mem hlt))
      have P0 := Lib.hid (Pb.start HJ.out 38 #[.string (ofL x.name), .int .i64 x.policy, .slice ph x.hosts.length ch, .int .i64 x.conns, .int .i64 x.pending, .int .i64 x.try_, .int .i64 x.fails, .int .i64 x.eject, .int .i64 x.panic])
      have HTx : Hid (Texts (wr.alloc (.cells #[.string (ofL x.name), .int .i64 x.policy, .slice ph x.hosts.length ch, .int .i64 x.conns, .int .i64 x.pending, .int .i64 x.try_, .int .i64 x.fails, .int .i64 x.eject, .int .i64 x.panic] 38)) (.slice ph x.hosts.length ch) x.hosts) := Lib.hid (Texts.below htx ((Below.refl _ _).alloc (Nat.le_refl _) _))
      obtain ⟨gi, hgi⟩ : ∃ gi, gi = wr.heap.size := ⟨_, rfl⟩
      rw [← hgi] at P0
      have HGi := Lib.hid hgi
      clear hxc hxx hgi HJ htx hsa
      go_wp2_with fail
      rw [← HGi.out]
      generalize wr.alloc (.cells #[.string (ofL x.name), .int .i64 x.policy, .slice ph x.hosts.length ch, .int .i64 x.conns, .int .i64 x.pending, .int .i64 x.try_, .int .i64 x.fails, .int .i64 x.eject, .int .i64 x.panic] 38) = W2 at P0 HTx ⊢
      clear m0 m1 m2 m3 m4 m5 m6 m7 m8
      go_loopw [38] (fun i W => ∃ j : Nat, j ≤ x.hosts.length ∧ i = .int .i64 j ∧ Hid (Pb w g c (.slice pf c.filters.length cf) (.slice (some ⟨gc, oc, none⟩) c.clusters.length cc) (.slice pv c.vhosts.length cv) gi 38 #[.string (ofL x.name), .int .i64 x.policy, .slice ph x.hosts.length ch, .int .i64 x.conns, .int .i64 x.pending, .int .i64 x.try_, .int .i64 x.fails, .int .i64 x.eject, .int .i64 x.panic] W ∧ Texts W (.slice ph x.hosts.length ch) x.hosts)) (fun i _ => x.hosts.length - (intOf i).toNat)
      case atStart => exact ⟨0, Nat.zero_le _, rfl, Lib.hid ⟨P0.out, HTx.out⟩⟩
      case round =>
        obtain ⟨j, hj, rfl, HI⟩ := hrel
        clear P0 HTx
        by_cases hlt2 : j < x.hosts.length
        · have hji : (j : Int) < (x.hosts.length : Int) := by omega
          have hj0 : (0 : Int) ≤ (j : Int) := by omega
          obtain ⟨gh, oh, rfl, _, hth⟩ := ConfAt.texts_at HI.out.2 j hlt2
          obtain ⟨t, htt⟩ : ∃ t, t = x.hosts[j] := ⟨_, rfl⟩
          have m0 := hth t htt
          have hd := HSa.out t (htt ▸ List.getElem_mem hlt2)
          have htl : t.length ≤ 1048576 := HFx.out.hosts.2 t (htt ▸ List.getElem_mem hlt2)
          have HA := Lib.hid (fun w => RAuth.rauth_any (ofL t) (by rw [ofL_size]; omega) w)
          rw [toL_ofL, hd.1] at HA
          have q1 : decide (authP t < 1) = false := decide_eq_false (by omega)
          generalize authP t = ap at *
          generalize ofL (authH t) = ah at *
          clear hth htt htl hd
          go_wp2_with fail
          refine (HA.out _).mono ?_
          rintro e w5 ⟨rfl, hb5⟩
          have HN := Lib.hid (And.intro (HI.out.1.call hb5) (Texts.below HI.out.2 hb5))
          clear HA HI hb5 m0
          go_wp2_with fail
          go_roundw
          case rel => exact ⟨j + 1, by omega, by go_num, HN⟩
          case measure => simp [intOf]; omega
        · have hji : ¬ (j : Int) < (x.hosts.length : Int) := by omega
          have c2 : wr.cell? ⟨gi, 2, none⟩ = some (.slice ph x.hosts.length ch) := HI.out.1.it.cell 2
          have c3 : wr.cell? ⟨gi, 3, none⟩ = some (.int .i64 x.conns) := HI.out.1.it.cell 3
          have c5 : wr.cell? ⟨gi, 5, none⟩ = some (.int .i64 x.try_) := HI.out.1.it.cell 5
          have q2 : decide ((x.hosts.length : Int) < 1) = false := decide_eq_false (by omega)
          have q3 : decide (x.conns < 1) = false := decide_eq_false (by omega)
          have q4 : decide (x.try_ < 1) = false := decide_eq_false (by omega)
          have HN := Lib.hid HI.out.1.kb
          clear HI
          go_wp2_with fail
          skip
          go_roundw
          case rel => exact ⟨k + 1, by omega, by go_num, HN⟩
          case measure => simp [intOf]; omega
    · have hki : ¬ (k : Int) < (c.clusters.length : Int) := by omega
      have K4 := HJ
      have b8 : wr.cell? ⟨g, 8, none⟩ = some (.slice pv c.vhosts.length cv) := HJ.out.box.cell 8
      clear HJ
      go_wp2_with fail
      clear b8
      go_loopw [73] (fun i W => ∃ k : Nat, k ≤ c.vhosts.length ∧ i = .int .i64 k ∧ Hid (Kb w g c (.slice pf c.filters.length cf) (.slice pc c.clusters.length cc) (.slice pv c.vhosts.length cv) W)) (fun i _ => c.vhosts.length - (intOf i).toNat)
      case atStart => exact ⟨0, Nat.zero_le _, rfl, K4⟩
      case round =>
        obtain ⟨k, hk, rfl, HJ⟩ := hrel
        clear K4
        by_cases hlt : k < c.vhosts.length
        · have hki : (k : Int) < (c.vhosts.length : Int) := by omega
          have hk0 : (0 : Int) ≤ (k : Int) := by omega
          obtain ⟨g1, o1, y1, rfl, ht1, a0, a1⟩ := R14Vhost.vhos_at HJ.out.cf.vhosts k hlt
          obtain ⟨x, hxx⟩ : ∃ x, x = c.vhosts[k] := ⟨_, rfl⟩
          have hRx : ∀ r ∈ x.routes, routB r c.clusters = true := (HR.out.vhosts x (hxx ▸ List.getElem_mem hlt)).2.2
          have hrn : x.routes.length ≤ 32 := ((short14 HR.out).2.2.2 x (hxx ▸ List.getElem_mem hlt)).2
          have HFx : Hid (FitVhos x) := Lib.hid (HX.out.vhosts.2 x (hxx ▸ List.getElem_mem hlt))
          rw [← hxx] at ht1 a0
          have HRx := Lib.hid hRx
          obtain ⟨ph, ch, rfl, _, _⟩ := id ht1.parts
          have P0 := Lib.hid (Pb.start HJ.out 43 #[.string (ofL x.domain), .slice ph x.routes.length ch])
          have HTx : Hid (Routs (wr.alloc (.cells #[.string (ofL x.domain), .slice ph x.routes.length ch] 43)) (.slice ph x.routes.length ch) x.routes) := Lib.hid (ConfMem.Routs.below ht1 ((Below.refl _ _).alloc (Nat.le_refl _) _))
          obtain ⟨gi, hgi⟩ : ∃ gi, gi = wr.heap.size := ⟨_, rfl⟩
          rw [← hgi] at P0
          have HGi := Lib.hid hgi
          clear hxx hgi HJ ht1 hRx
          go_wp2_with fail
          rw [← HGi.out]
          generalize wr.alloc (.cells #[.string (ofL x.domain), .slice ph x.routes.length ch] 43) = W2 at P0 HTx ⊢
          clear a0 a1
          go_loopw [80] (fun i W => ∃ j : Nat, j ≤ x.routes.length ∧ i = .int .i64 j ∧ Hid (Pb w g c (.slice pf c.filters.length cf) (.slice pc c.clusters.length cc) (.slice (some ⟨g1, o1, none⟩) c.vhosts.length cv) gi 43 #[.string (ofL x.domain), .slice ph x.routes.length ch] W ∧ Routs W (.slice ph x.routes.length ch) x.routes)) (fun i _ => x.routes.length - (intOf i).toNat)
          case atStart => exact ⟨0, Nat.zero_le _, rfl, Lib.hid ⟨P0.out, HTx.out⟩⟩
          case round =>
            obtain ⟨j, hj, rfl, HI⟩ := hrel
            clear P0 HTx
            by_cases hlt2 : j < x.routes.length
            · have hji : (j : Int) < (x.routes.length : Int) := by omega
              have hj0 : (0 : Int) ≤ (j : Int) := by omega
              obtain ⟨gr, or, rfl, hcr⟩ := ConfAt.routs_at HI.out.2 j hlt2
              obtain ⟨r, hrr⟩ : ∃ r, r = x.routes[j] := ⟨_, rfl⟩
              obtain ⟨m0, m1, m2, m3, m4, m5, m6, m7, m8, m9, m10, m11, m12⟩ := hcr r hrr
              have HSf := Lib.hid (rout_safe (HRx.out r (hrr ▸ List.getElem_mem hlt2)))
              have HFr : Hid (FitRout r) := Lib.hid (HFx.out.routes.2 r (hrr ▸ List.getElem_mem hlt2))
              have hba := (Below.refl wr.heap.size wr).alloc (Nat.le_refl _) (.cells #[.bool r.pre, .string (ofL r.path), .string (ofL r.method), .string (ofL r.field), .string (ofL r.value), .int .i64 r.action, .string (ofL r.cluster), .int .i64 r.status, .string (ofL r.text), .string (ofL r.rewrite), .int .i64 r.retries, .int .i64 r.timeout, .bool r.upgrade] 45)
              have R0 : Hid (Rb w g c (.slice pf c.filters.length cf) (.slice pc c.clusters.length cc) (.slice (some ⟨g1, o1, none⟩) c.vhosts.length cv) gi #[.string (ofL x.domain), .slice (some ⟨gr, or, none⟩) x.routes.length ch] (.slice (some ⟨gr, or, none⟩) x.routes.length ch) x.routes wr.heap.size #[.bool r.pre, .string (ofL r.path), .string (ofL r.method), .string (ofL r.field), .string (ofL r.value), .int .i64 r.action, .string (ofL r.cluster), .int .i64 r.status, .string (ofL r.text), .string (ofL r.rewrite), .int .i64 r.retries, .int .i64 r.timeout, .bool r.upgrade] (wr.alloc (.cells #[.bool r.pre, .string (ofL r.path), .string (ofL r.method), .string (ofL r.field), .string (ofL r.value), .int .i64 r.action, .string (ofL r.cluster), .int .i64 r.status, .string (ofL r.text), .string (ofL r.rewrite), .int .i64 r.retries, .int .i64 r.timeout, .bool r.upgrade] 45))) := Lib.hid ⟨HI.out.1.call hba, ConfMem.Routs.below HI.out.2 hba, Has.new _ _ _⟩
              obtain ⟨gj, hgj⟩ : ∃ gj, gj = wr.heap.size := ⟨_, rfl⟩
              have b7 : (wr.alloc (.cells #[.bool r.pre, .string (ofL r.path), .string (ofL r.method), .string (ofL r.field), .string (ofL r.value), .int .i64 r.action, .string (ofL r.cluster), .int .i64 r.status, .string (ofL r.text), .string (ofL r.rewrite), .int .i64 r.retries, .int .i64 r.timeout, .bool r.upgrade] 45)).cell? ⟨g, 7, none⟩ = some (.slice pc c.clusters.length cc) := R0.out.pb.kb.box.cell 7
              rw [← hgj] at R0
              have HGj := Lib.hid hgj
              clear hcr hrr hgj HI hba
              go_wp2_with fail
              rw [← HGj.out]
              clear b7
              generalize wr.alloc (.cells #[.bool r.pre, .string (ofL r.path), .string (ofL r.method), .string (ofL r.field), .string (ofL r.value), .int .i64 r.action, .string (ofL r.cluster), .int .i64 r.status, .string (ofL r.text), .string (ofL r.rewrite), .int .i64 r.retries, .int .i64 r.timeout, .bool r.upgrade] 45) = W3 at R0 ⊢
              clear m0 m1 m2 m3 m4 m5 m6 m7 m8 m9 m10 m11 m12
              go_loopw [14, 90] (fun f i W => ∃ m : Nat, m ≤ c.clusters.length ∧ i = .int .i64 m ∧ f = .bool ((r.action != 1) || (c.clusters.take m).any (fun y => y.name == r.cluster)) ∧ Hid (Rb w g c (.slice pf c.filters.length cf) (.slice pc c.clusters.length cc) (.slice (some ⟨g1, o1, none⟩) c.vhosts.length cv) gi #[.string (ofL x.domain), .slice (some ⟨gr, or, none⟩) x.routes.length ch] (.slice (some ⟨gr, or, none⟩) x.routes.length ch) x.routes gj #[.bool r.pre, .string (ofL r.path), .string (ofL r.method), .string (ofL r.field), .string (ofL r.value), .int .i64 r.action, .string (ofL r.cluster), .int .i64 r.status, .string (ofL r.text), .string (ofL r.rewrite), .int .i64 r.retries, .int .i64 r.timeout, .bool r.upgrade] W)) (fun _ i _ => c.clusters.length - (intOf i).toNat)
              case atStart => exact ⟨0, Nat.zero_le _, rfl, by simp, R0⟩
              case round =>
                obtain ⟨m, hm, rfl, rfl, HQ⟩ := hrel
                clear R0
                by_cases hlt3 : m < c.clusters.length
                · have hmi : (m : Int) < (c.clusters.length : Int) := by omega
                  have hm0 : (0 : Int) ≤ (m : Int) := by omega
                  obtain ⟨gc, oc, rfl, hxc⟩ := R14Check.cluss_at HQ.out.pb.kb.cf.clusters m hlt3
                  obtain ⟨y, hyy⟩ : ∃ y, y = c.clusters[m] := ⟨_, rfl⟩
                  obtain ⟨hy, hty, n0, n1, n2, n3, n4, n5, n6, n7, n8⟩ := hxc y hyy
                  obtain ⟨py, cy, rfl, _, _⟩ := id hty
                  have hba := (Below.refl wr.heap.size wr).alloc (Nat.le_refl _) (.cells #[.string (ofL y.name), .int .i64 y.policy, .slice py y.hosts.length cy, .int .i64 y.conns, .int .i64 y.pending, .int .i64 y.try_, .int .i64 y.fails, .int .i64 y.eject, .int .i64 y.panic] 38)
                  have Q1 := Lib.hid (HQ.out.call hba)
                  have d6 : (wr.alloc (.cells #[.string (ofL y.name), .int .i64 y.policy, .slice py y.hosts.length cy, .int .i64 y.conns, .int .i64 y.pending, .int .i64 y.try_, .int .i64 y.fails, .int .i64 y.eject, .int .i64 y.panic] 38)).cell? ⟨gj, 6, none⟩ = some (.string (ofL r.cluster)) := (HQ.out.call hba).rb.cell 6
                  have d0 : (wr.alloc (.cells #[.string (ofL y.name), .int .i64 y.policy, .slice py y.hosts.length cy, .int .i64 y.conns, .int .i64 y.pending, .int .i64 y.try_, .int .i64 y.fails, .int .i64 y.eject, .int .i64 y.panic] 38)).cell? ⟨wr.heap.size, 0, none⟩ = some (.string (ofL y.name)) := (Has.new wr 38 #[.string (ofL y.name), .int .i64 y.policy, .slice py y.hosts.length cy, .int .i64 y.conns, .int .i64 y.pending, .int .i64 y.try_, .int .i64 y.fails, .int .i64 y.eject, .int .i64 y.panic]).cell 0
                  have HT := Lib.hid (at_take c.clusters m hlt3 (fun y => y.name == r.cluster))
                  have qe := text_eq y.name r.cluster
                  rw [← hyy] at HT
                  try dsimp only at HT
                  obtain ⟨f1, hf1⟩ : ∃ f1, f1 = ((r.action != 1) || (c.clusters.take m).any (fun y => y.name == r.cluster)) := ⟨_, rfl⟩
                  have HN1 : Hid (((r.action != 1) || (c.clusters.take (m + 1)).any (fun y => y.name == r.cluster)) = (f1 || (y.name == r.cluster))) := Lib.hid (by rw [HT.out, hf1, Bool.or_assoc])
                  rw [← hf1]
                  generalize (y.name == r.cluster) = f2 at qe HN1
                  clear hxc hyy hty hba HT hf1
                  cases f1 with
                  | true =>
                    go_wp2_with fail
                    skip
                    go_roundw
                    case rel => exact ⟨m + 1, by omega, by go_num, by rw [HN1.out]; rfl, Q1⟩
                    case measure => simp [intOf]; omega
                  | false =>
                    go_wp2_with fail
                    skip
                    go_roundw
                    case rel => exact ⟨m + 1, by omega, by go_num, by rw [HN1.out]; rfl, Q1⟩
                    case measure => simp [intOf]; omega
                · have hmi : ¬ (m : Int) < (c.clusters.length : Int) := by omega
                  obtain rfl : m = c.clusters.length := by omega
                  have hfo : ((r.action != 1) || (c.clusters.take c.clusters.length).any (fun y => y.name == r.cluster)) = true := by
                    by_cases ha : r.action = 1
                    · obtain ⟨y, hy1, hy2⟩ := HSf.out.found ha
                      rw [List.take_length, Bool.or_eq_true]
                      exact .inr (List.any_eq_true.2 ⟨y, hy1, by simpa using hy2⟩)
                    · rw [Bool.or_eq_true]
                      exact .inl (bne_iff_ne.2 ha)
                  rw [hfo]
                  have d1 : wr.cell? ⟨gj, 1, none⟩ = some (.string (ofL r.path)) := HQ.out.rb.cell 1
                  have HNo := Lib.hid (fun w => RNormal.rnormal_any (ofL r.path) (by rw [ofL_size]; exact HFr.out.path) w)
                  rw [toL_ofL] at HNo
                  clear hfo
                  go_wp2_with fail
                  refine (HNo.out _).mono ?_
                  rintro e w5 ⟨rfl, hb5⟩
                  have Q5 := Lib.hid (HQ.out.call hb5)
                  clear HNo HQ hb5 d1
                  have d1 : w5.cell? ⟨gj, 1, none⟩ = some (.string (ofL r.path)) := Q5.out.rb.cell 1
                  have d2 : w5.cell? ⟨gj, 2, none⟩ = some (.string (ofL r.method)) := Q5.out.rb.cell 2
                  have d9 : w5.cell? ⟨gj, 9, none⟩ = some (.string (ofL r.rewrite)) := Q5.out.rb.cell 9
                  have key : ∀ (ns : ByteArray) (ne : Int), ((ne = 0 ∧ ns = ofL r.path) ∨ (ne = 50 ∧ r.method = CONNECT)) → True := fun _ _ _ => trivial
                  have hpc : ((normE r.path = 0 ∧ normS r.path = ofL r.path) ∨ (normE r.path = 50 ∧ r.method = CONNECT)) := by
                    rcases HSf.out.path with q | ⟨q, q2⟩
                    · exact .inl ⟨(norm_some q).2, (norm_some q).1⟩
                    · exact .inr ⟨(norm_none q).2, q2⟩
                  clear key
                  have t1 : ((ofL r.path).toList != (ofL r.path).toList) = false := bne_self_eq_false _
                  have t2 : r.method = CONNECT → ((ofL r.method).toList != [67, 79, 78, 78, 69, 67, 84]) = false := fun q => by rw [q, show ((ofL CONNECT).toList != [67, 79, 78, 78, 69, 67, 84]) = !((ofL CONNECT).toList == [67, 79, 78, 78, 69, 67, 84]) from rfl, ByteArray.toList_eq]; rfl
                  rcases hpc with ⟨e1, e2⟩ | ⟨e1, e2⟩
                  · rw [e1, e2]
                    clear e1 e2 t2
                    by_cases hrw : r.rewrite = []
                    · have hz : ofL r.rewrite = ⟨#[]⟩ := by rw [hrw]; rfl
                      rw [hz] at d9
                      have HN := Lib.hid (And.intro Q5.out.pb Q5.out.rt)
                      clear Q5 hrw hz
                      go_wp2_with fail
                      go_roundw
                      case rel => exact ⟨j + 1, by omega, by go_num, HN⟩
                      case measure => simp [intOf]; omega
                    · have z1 : ¬ (ofL r.rewrite).toList = [] := by
                        rw [ByteArray.toList_eq]
                        show ¬ toL (ofL r.rewrite) = []
                        rw [toL_ofL]; exact hrw
                      have z2 : (ofL r.rewrite).toList.isEmpty = false := by
                        cases hz : (ofL r.rewrite).toList with
                        | nil => exact absurd hz z1
                        | cons a b => rfl
                      have hnr := HSf.out.rewrite.resolve_left hrw
                      have HN2 := Lib.hid (fun w => RNormal.rnormal_any (ofL r.rewrite) (by rw [ofL_size]; exact HFr.out.rewrite) w)
                      rw [toL_ofL, (norm_some hnr).1, (norm_some hnr).2] at HN2
                      have t4 : ((ofL r.rewrite).toList != (ofL r.rewrite).toList) = false := bne_self_eq_false _
                      clear hnr hrw
                      go_wp2_with fail
                      refine (HN2.out _).mono ?_
                      rintro e w6 ⟨rfl, hb6⟩
                      have Q6 := Lib.hid (Q5.out.call hb6)
                      clear Q5 HN2 hb6 d1 d2 d9
                      have d9 : w6.cell? ⟨gj, 9, none⟩ = some (.string (ofL r.rewrite)) := Q6.out.rb.cell 9
                      have HN := Lib.hid (And.intro Q6.out.pb Q6.out.rt)
                      clear Q6
                      go_wp2_with fail
                      go_roundw
                      case rel => exact ⟨j + 1, by omega, by go_num, HN⟩
                      case measure => simp [intOf]; omega
                  · replace t2 := t2 e2
                    have t3 : (ofL r.method).toList = [67, 79, 78, 78, 69, 67, 84] := by simpa using t2
                    rw [e1]
                    generalize normS r.path = nS
                    clear e1 e2
                    by_cases hrw : r.rewrite = []
                    · have hz : ofL r.rewrite = ⟨#[]⟩ := by rw [hrw]; rfl
                      rw [hz] at d9
                      have HN := Lib.hid (And.intro Q5.out.pb Q5.out.rt)
                      clear Q5 hrw hz
                      go_wp2_with fail
                      go_roundw
                      case rel => exact ⟨j + 1, by omega, by go_num, HN⟩
                      case measure => simp [intOf]; omega
                    · have z1 : ¬ (ofL r.rewrite).toList = [] := by
                        rw [ByteArray.toList_eq]
                        show ¬ toL (ofL r.rewrite) = []
                        rw [toL_ofL]; exact hrw
                      have z2 : (ofL r.rewrite).toList.isEmpty = false := by
                        cases hz : (ofL r.rewrite).toList with
                        | nil => exact absurd hz z1
                        | cons a b => rfl
                      have hnr := HSf.out.rewrite.resolve_left hrw
                      have HN2 := Lib.hid (fun w => RNormal.rnormal_any (ofL r.rewrite) (by rw [ofL_size]; exact HFr.out.rewrite) w)
                      rw [toL_ofL, (norm_some hnr).1, (norm_some hnr).2] at HN2
                      have t4 : ((ofL r.rewrite).toList != (ofL r.rewrite).toList) = false := bne_self_eq_false _
                      clear hnr hrw
                      go_wp2_with fail
                      refine (HN2.out _).mono ?_
                      rintro e w6 ⟨rfl, hb6⟩
                      have Q6 := Lib.hid (Q5.out.call hb6)
                      clear Q5 HN2 hb6 d1 d2 d9
                      have d9 : w6.cell? ⟨gj, 9, none⟩ = some (.string (ofL r.rewrite)) := Q6.out.rb.cell 9
                      have HN := Lib.hid (And.intro Q6.out.pb Q6.out.rt)
                      clear Q6
                      go_wp2_with fail
                      go_roundw
                      case rel => exact ⟨j + 1, by omega, by go_num, HN⟩
                      case measure => simp [intOf]; omega
            · have hji : ¬ (j : Int) < (x.routes.length : Int) := by omega
              have HN := Lib.hid HI.out.1.kb
              clear HI
              go_wp2_with fail
              go_roundw
              case rel => exact ⟨k + 1, by omega, by go_num, HN⟩
              case measure => simp [intOf]; omega
        · have hki : ¬ (k : Int) < (c.vhosts.length : Int) := by omega
          have K5 := HJ
          have b6 : wr.cell? ⟨g, 6, none⟩ = some (.slice pf c.filters.length cf) := HJ.out.box.cell 6
          clear HJ
          go_wp2_with fail
          clear b6
          go_loopw [152] (fun i W => ∃ k : Nat, k ≤ c.filters.length ∧ i = .int .i64 k ∧ Hid (Kb w g c (.slice pf c.filters.length cf) (.slice pc c.clusters.length cc) (.slice pv c.vhosts.length cv) W)) (fun i _ => c.filters.length - (intOf i).toNat)
          case atStart => exact ⟨0, Nat.zero_le _, rfl, K5⟩
          case round =>
            obtain ⟨k, hk, rfl, HJ⟩ := hrel
            clear K5
            by_cases hlt : k < c.filters.length
            · have hki : (k : Int) < (c.filters.length : Int) := by omega
              have hk0 : (0 : Int) ≤ (k : Int) := by omega
              obtain ⟨gf, of, rfl, hxc⟩ := R14Check.filts_at HJ.out.cf.filters k hlt
              obtain ⟨x, hxx⟩ : ∃ x, x = c.filters[k] := ⟨_, rfl⟩
              obtain ⟨m0, m1, m2, m3, m4, m5⟩ := hxc x hxx
              have hsf := filt_safe (HR.out.filters x (hxx ▸ List.getElem_mem hlt))
              have hnl : x.name.length ≤ 1048576 := (HX.out.filters.2 x (hxx ▸ List.getElem_mem hlt)).name
              have P0 := Lib.hid (Pb.start HJ.out 49 #[.int .i64 x.kind, .string (ofL x.name), .string (ofL x.value), .int .i64 x.n, .int .i64 x.m, .int .i64 x.k])
              clear hxc hxx HJ
              by_cases hz : x.name = []
              · have he : ofL x.name = ⟨#[]⟩ := by rw [hz]; rfl
                rw [he] at m1 P0
                have HN := Lib.hid P0.out.kb
                clear P0 hz he hsf
                go_wp2_with fail
                go_roundw
                case rel => exact ⟨k + 1, by omega, by go_num, HN⟩
                case measure => simp [intOf]; omega
              · have z1 : ¬ (ofL x.name).toList = [] := by
                  rw [ByteArray.toList_eq]
                  show ¬ toL (ofL x.name) = []
                  rw [toL_ofL]; exact hz
                have z2 : (ofL x.name).toList.isEmpty = false := by
                  cases hy : (ofL x.name).toList with
                  | nil => exact absurd hy z1
                  | cons a b => rfl
                have HNm := Lib.hid (fun w => rname_any (ofL x.name) (by rw [ofL_size]; exact hnl) w)
                rw [toL_ofL, hsf.resolve_left hz] at HNm
                clear hz hsf
                go_wp2_with fail
                refine (HNm.out _).mono ?_
                rintro e w5 ⟨rfl, hb5⟩
                have HN := Lib.hid (P0.out.kb.call hb5)
                clear P0 hb5 HNm
                go_wp2_with fail
                go_roundw
                case rel => exact ⟨k + 1, by omega, by go_num, HN⟩
                case measure => simp [intOf]; omega
            · have hki : ¬ (k : Int) < (c.filters.length : Int) := by omega
              have HE := Lib.hid HJ.out.below
              clear HJ
              go_wp2_with fail
              go_ret
              exact ⟨rfl, HG.out ▸ HE.out⟩
theorem walk {H : Type} {enc : TypeId × Value → H} {W : World} {base : Nat} (v : Value) (d : DataW H) (p : List MemPlace) (hv : Value.okWide Tryz.prog W .any base 26 v)
    (hd : DataW.Trod enc Tryz.prog W 0 (fun _ => true) true 26 v d p) (hl : ∀ x ∈ p, x.block < W.heap.size) (hb : Rows.uptoBulk d ≤ 1048576)
    (hsh : W.ShapedOpen Tryz.prog) (hlaid : laidMetH Tryz.prog Rows.configSafeUptoRow.laid W) :
    Calls Tryz.prog 5 #[v] W fun e w' => e = .returned (.bool true) ∧ Below W.heap.size W w' := by
  obtain ⟨c, vf, vc, vv, rfl, hC, hx⟩ := ConfArg.conf_arg hv hd hb
  exact walkIn c vf vc vv hx W (Fit.of hsh (ConfObj.pow_of_laid rfl hlaid)) hC
end Go.Proofs.YtfihehobkbfmiaaGreatDoor.ConfigSafeW
