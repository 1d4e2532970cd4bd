/- Texts of this seat, one behind another: PCfgBnd, PCfgK, PCfgG, PCfgH, R14Word, R13Dig, RHost, RDecimal, RAuth, R14Host, R14Num, R14Clus, R14Rout. -/
import Derived.Lib.Hide
import Derived.Below
import Derived.Outline
import Derived.LoopTactic
import Derived.Handy
import Derived.Deep.RegionWith
import Derived.Deep.RegionHeld3
import Derived.IntWalk
import Derived.Laws.DeepStrings4
import Derived.BigQuiet
import Derived.Test.YtfihehobkbfmiaaGreatDoorA3
import Derived.Test.YtfihehobkbfmiaaGreatDoorA6
import Derived.Test.YtfihehobkbfmiaaGreatDoorA5
import Derived.Test.YtfihehobkbfmiaaGreatDoorA4
import Derived.Test.YtfihehobkbfmiaaGreatDoorA1
/- Layer 14, the program: bounded. -/
namespace Go.Proofs.YtfihehobkbfmiaaGreatDoor.PCfgBnd
open Go.ChangeShapes Go.WideShapes Go.ChangeAt Go.RowKit Bytes LexPure ConfPure ConfMem Ret Mem PCfgT R14Bnd
set_option maxRecDepth 100000
set_option linter.unusedVariables false
set_option maxHeartbeats 3200000 in
theorem pbounds_any (c : Conf) (vf vc vv : Value) (hV : Vals c vf vc vv) (w : World) :
    Calls Tryz.prog 20 #[.agg (confV c vf vc vv)] w fun e w' => e = .returned (.bool (boundsB c)) ∧ Below w.heap.size w w' := by
  obtain ⟨⟨pf, cf, rfl⟩, ⟨pc, cc, rfl⟩, ⟨pv, cv, rfl⟩⟩ := hV
  have H0 := Lib.hid (fun w => pwithin_any c.conns 1 256 w)
  have H1 := Lib.hid (fun w => pwithin_any c.body 0 65536 w)
  have H2 := Lib.hid (fun w => pwithin_any c.idle 1 TICK w)
  have H3 := Lib.hid (fun w => pwithin_any c.grace 1 TICK w)
  have H4 := Lib.hid (fun w => pwithin_any c.budget 0 256 w)
  have H5 := Lib.hid (fun w => pwithin_any c.seed 0 1099511627776 w)
  have k1 : decide ((c.filters.length : Int) ≤ (32 : Int)) = decide (c.filters.length ≤ 32) := by by_cases h : c.filters.length ≤ 32 <;> simp [h] <;> omega
  have k2 : decide ((c.clusters.length : Int) ≤ (32 : Int)) = decide (c.clusters.length ≤ 32) := by by_cases h : c.clusters.length ≤ 32 <;> simp [h] <;> omega
  have k3 : decide ((c.vhosts.length : Int) ≤ (32 : Int)) = decide (c.vhosts.length ≤ 32) := by by_cases h : c.vhosts.length ≤ 32 <;> simp [h] <;> omega
  unfold boundsB
  obtain ⟨r0, hr0⟩ : ∃ r0, r0 = inB c.conns 1 256 := ⟨_, rfl⟩
  obtain ⟨r1, hr1⟩ : ∃ r1, r1 = inB c.body 0 65536 := ⟨_, rfl⟩
  obtain ⟨r2, hr2⟩ : ∃ r2, r2 = inB c.idle 1 TICK := ⟨_, rfl⟩
  obtain ⟨r3, hr3⟩ : ∃ r3, r3 = inB c.grace 1 TICK := ⟨_, rfl⟩
  obtain ⟨r4, hr4⟩ : ∃ r4, r4 = inB c.budget 0 256 := ⟨_, rfl⟩
  obtain ⟨r5, hr5⟩ : ∃ r5, r5 = inB c.seed 0 1099511627776 := ⟨_, rfl⟩
  obtain ⟨r6, hr6⟩ : ∃ r6, r6 = decide (c.filters.length ≤ 32) := ⟨_, rfl⟩
  obtain ⟨r7, hr7⟩ : ∃ r7, r7 = decide (c.clusters.length ≤ 32) := ⟨_, rfl⟩
  obtain ⟨r8, hr8⟩ : ∃ r8, r8 = decide (c.vhosts.length ≤ 32) := ⟨_, rfl⟩
  rw [← hr0] at H0 ⊢
  rw [← hr1] at H1 ⊢
  rw [← hr2] at H2 ⊢
  rw [← hr3] at H3 ⊢
  rw [← hr4] at H4 ⊢
  rw [← hr5] at H5 ⊢
  rw [← hr6] at k1 ⊢
  rw [← hr7] at k2 ⊢
  rw [← hr8] at k3 ⊢
  replace hr6 := hr6.symm
  replace hr7 := hr7.symm
  replace hr8 := hr8.symm
  unfold TICK at H2 H3
  have HB := Lib.hid ((Below.refl w.heap.size w).alloc (Nat.le_refl _) (.cells (confV c (.slice pf c.filters.length cf) (.slice pc c.clusters.length cc) (.slice pv c.vhosts.length cv)) CT))
  unfold confV
  unfold confV CT at HB
  clear hr0 hr1 hr2 hr3 hr4 hr5
  go_enter Tryz.func20, Tryz.ntmps20
  go_wp2_with fail
  refine (H0.out _).mono ?_
  rintro e w1 ⟨rfl, rfl⟩
  clear H0
  cases r0 with
  | false =>
    go_wp2_with fail
    go_ret
    exact ⟨rfl, HB.out⟩
  | true =>
    go_wp2_with fail
    refine (H1.out _).mono ?_
    rintro e w2 ⟨rfl, rfl⟩
    clear H1
    cases r1 with
    | false =>
      go_wp2_with fail
      go_ret
      exact ⟨rfl, HB.out⟩
    | true =>
      go_wp2_with fail
      refine (H2.out _).mono ?_
      rintro e w3 ⟨rfl, rfl⟩
      clear H2
      cases r2 with
      | false =>
        go_wp2_with fail
        go_ret
        exact ⟨rfl, HB.out⟩
      | true =>
        go_wp2_with fail
        refine (H3.out _).mono ?_
        rintro e w4 ⟨rfl, rfl⟩
        clear H3
        cases r3 with
        | false =>
          go_wp2_with fail
          go_ret
          exact ⟨rfl, HB.out⟩
        | true =>
          go_wp2_with fail
          refine (H4.out _).mono ?_
          rintro e w5 ⟨rfl, rfl⟩
          clear H4
          cases r4 with
          | false =>
            go_wp2_with fail
            go_ret
            exact ⟨rfl, HB.out⟩
          | true =>
            go_wp2_with fail
            refine (H5.out _).mono ?_
            rintro e w6 ⟨rfl, rfl⟩
            clear H5
            cases r5 with
            | false =>
              go_wp2_with fail
              go_ret
              exact ⟨rfl, HB.out⟩
            | true =>
              cases r6 <;> cases r7 <;> cases r8
              · go_wp2_with fail
                go_ret
                exact ⟨rfl, HB.out⟩
              · go_wp2_with fail
                go_ret
                exact ⟨rfl, HB.out⟩
              · go_wp2_with fail
                go_ret
                exact ⟨rfl, HB.out⟩
              · go_wp2_with fail
                go_ret
                exact ⟨rfl, HB.out⟩
              · go_wp2_with fail
                go_ret
                exact ⟨rfl, HB.out⟩
              · go_wp2_with fail
                go_ret
                exact ⟨rfl, HB.out⟩
              · go_wp2_with fail
                go_ret
                exact ⟨rfl, HB.out⟩
              · go_wp2_with fail
                go_ret
                exact ⟨rfl, HB.out⟩
end Go.Proofs.YtfihehobkbfmiaaGreatDoor.PCfgBnd

/- Layer 14 of the program: Check. -/
namespace Go.Proofs.YtfihehobkbfmiaaGreatDoor.PCfgK
open Go.ChangeShapes Go.WideShapes Go.ChangeAt Go.RowKit Bytes LexPure ConfPure ConfMem ConfAt Ret Mem Texts PCfgLib PCfgBox PCfgT PCfgS PCfgC PCfgR PCfgV R14Name R14Bnd
set_option maxRecDepth 100000
set_option linter.unusedVariables false
set_option linter.unusedSimpArgs false
structure Kx (w : World) (g : Nat) (c : Conf) (vf vc vv : Value) (W : World) : Prop where
  box : Has W g CT (confV c vf vc vv)
  cf : CF W vf vc vv c
  mi : MaxInt W
  pw : PCfgLib.Pow W
  below : Below g w W
theorem Kx.call {w W W' : World} {g : Nat} {c : Conf} {vf vc vv : Value} (x : Kx w g c vf vc vv W) (hb : Below W.heap.size W W') : Kx w g c vf vc vv W' :=
  ⟨x.box.below hb x.box.lt, x.cf.below hb, PUnder.MaxInt.below x.mi hb, x.pw.below hb, ⟨hb.os.trans x.below.os, hb.tape.trans x.below.tape, hb.output.trans x.below.output, Nat.le_trans x.below.size hb.size, fun i hi => (hb.block i (Nat.lt_trans hi x.box.lt)).trans (x.below.block i hi)⟩⟩
theorem Kx.start {w : World} {c : Conf} {vf vc vv : Value} (hC : CF w vf vc vv c) (hm : MaxInt w) (hp : PCfgLib.Pow w) : Kx w w.heap.size c vf vc vv (w.alloc (.cells (confV c vf vc vv) CT)) :=
  have ha := (Below.refl w.heap.size w).alloc (Nat.le_refl _) (.cells (confV c vf vc vv) CT)
  ⟨Has.new w _ _, hC.below ha, PUnder.MaxInt.below hm ha, hp.below ha, ha⟩
theorem clusE_step (ahead cs : List Clus) (x : Clus) : clusE ahead (x :: cs) = if clE ahead x ≠ 0 then clE ahead x else clusE (ahead ++ [x]) cs := by
  conv => lhs; unfold clusE
  unfold clE
  by_cases h1 : (ahead.any (fun y => y.name == x.name) || !tokenB x.name 32) = true
  · rw [if_pos h1, if_pos h1, if_pos (by decide)]
  · rw [if_neg h1, if_neg h1]
    by_cases h2 : (!clusB x) = true
    · rw [if_pos h2, if_pos h2, if_pos (by decide)]
    · rw [if_neg h2, if_neg h2, if_neg (by decide)]
set_option maxHeartbeats 12800000 in
theorem pcheck_any (c : Conf) (vf vc vv : Value) (hx : FitConf c) (w : World) (hm : MaxInt w) (hp : PCfgLib.Pow w) (hC : CF w vf vc vv c) :
    Calls Tryz.prog 10 #[.agg (confV c vf vc vv)] w fun e w' => e = .returned (.int .i64 (check14 c)) ∧ Below w.heap.size w w' := by
  have HBd := Lib.hid (fun w => PCfgBnd.pbounds_any c vf vc vv (R14Bnd.CF.vals hC) w)
  have K0 := Lib.hid (Kx.start hC hm hp)
  have hcc := hC.capc
  have hcv := hC.capv
  obtain ⟨⟨pf, cf, rfl⟩, ⟨pc, cc, rfl⟩, ⟨pv, cv, rfl⟩⟩ := R14Bnd.CF.vals hC
  have hkc : c.clusters.length ≤ cc := hcc _ _ _ rfl
  have hkv : c.vhosts.length ≤ cv := hcv _ _ _ rfl
  have HX := Lib.hid hx
  have hfl := hx.filters.1
  have hcl := hx.clusters.1
  have hvl := hx.vhosts.1
  obtain ⟨r0, hr0⟩ : ∃ r0, r0 = boundsB c := ⟨_, rfl⟩
  rw [← hr0] at HBd
  have HR0 := Lib.hid hr0
  clear hC hr0 hx hm hp hcc hcv
  unfold confV at HBd ⊢
  go_enter Tryz.func10, Tryz.ntmps10
  go_wp2_with fail
  refine (HBd.out _).mono ?_
  rintro e w2 ⟨rfl, hb2⟩
  have K2 := Lib.hid (K0.out.call hb2)
  clear K0 hb2 HBd
  have b6 : w2.cell? ⟨w.heap.size, 6, none⟩ = some (.slice pf c.filters.length cf) := K2.out.box.cell 6
  cases r0 with
  | false =>
    have HV : Hid (check14 c = 141) := Lib.hid (by unfold check14; rw [← HR0.out]; rfl)
    go_wp2_with fail
    go_ret
    exact ⟨ret_int HV.out.symm, K2.out.below⟩
  | true =>
  have HV1 : Hid (check14 c = if !c.filters.all filtB then 145 else if clusE [] c.clusters ≠ 0 then clusE [] c.clusters else vhosE c.clusters [] c.vhosts) := Lib.hid (by unfold check14; rw [← HR0.out]; rfl)
  clear HR0
  go_wp2_with fail
  clear b6
  go_loopw [17] (fun i2 wr => ∃ k : Nat, k ≤ c.filters.length ∧ i2 = .int .i64 k ∧ Hid ((c.filters.take k).all filtB = true ∧ Kx w w.heap.size c (.slice pf c.filters.length cf) (.slice pc c.clusters.length cc) (.slice pv c.vhosts.length cv) wr)) (fun i2 _ => c.filters.length - (intOf i2).toNat)
  case atStart => exact ⟨0, Nat.zero_le _, rfl, Lib.hid ⟨rfl, K2.out⟩⟩
  case round =>
    obtain ⟨k, hk, rfl, HJ⟩ := hrel
    clear K2
    by_cases hlt : k < c.filters.length
    · have hki : (k : Int) < (c.filters.length : Int) := by omega
      have hk0 : (0 : Int) ≤ (k : Int) := by omega
      obtain ⟨gf, of, rfl, hxc⟩ := filts_at HJ.out.2.cf.filters k hlt
      have HS := Lib.hid (all_step c.filters filtB k hlt)
      have HNo := Lib.hid (fun h => all_no (q := filtB) hlt h)
      obtain ⟨x, hxx⟩ : ∃ x, x = c.filters[k] := ⟨_, rfl⟩
      obtain ⟨m0, m1, m2, m3, m4, m5⟩ := hxc x hxx
      have hfx : FitFilt x := by rw [hxx]; exact HX.out.filters.2 _ (List.getElem_mem hlt)
      have HF := Lib.hid (fun w => PCfgF.pfilter_any x hfx w)
      rw [← hxx] at HS HNo
      obtain ⟨rb, hrb⟩ : ∃ rb, rb = filtB x := ⟨_, rfl⟩
      rw [← hrb] at HF HS HNo
      unfold R14Eq.fcs at HF
      have hba := (Below.refl wr.heap.size wr).alloc (Nat.le_refl _) (.cells #[.int .i64 x.kind, .string (ofL x.name), .string (ofL x.value), .int .i64 x.n, .int .i64 x.m, .int .i64 x.k] 49)
      have KA := Lib.hid (HJ.out.2.call hba)
      have HH := Lib.hid HJ.out.1
      clear hxc hxx hfx hrb HJ hba
      go_wp2_with fail
      refine (HF.out _).mono ?_
      rintro e w5 ⟨rfl, hb5⟩
      have K5 := Lib.hid (KA.out.call hb5)
      clear HF m0 m1 m2 m3 m4 m5 hb5 KA
      cases rb with
      | false =>
        have HV : Hid (check14 c = 145) := Lib.hid (by rw [HV1.out, HNo.out rfl]; rfl)
        go_wp2_with fail
        go_ret
        exact ⟨ret_int HV.out.symm, K5.out.below⟩
      | true =>
        have HK : Hid ((c.filters.take (k + 1)).all filtB = true ∧ Kx w w.heap.size c (.slice (some ⟨gf, of, none⟩) c.filters.length cf) (.slice pc c.clusters.length cc) (.slice pv c.vhosts.length cv) w5) := Lib.hid ⟨by rw [HS.out, HH.out]; rfl, K5.out⟩
        clear K5 HH HS
        go_wp2_with fail
        go_roundw
        case rel => exact ⟨k + 1, by omega, by go_num, HK⟩
        case measure => simp [intOf]; omega
    · have hki : ¬ (k : Int) < (c.filters.length : Int) := by omega
      obtain rfl : k = c.filters.length := by omega
      have HV2 : Hid (check14 c = if clusE [] c.clusters ≠ 0 then clusE [] c.clusters else vhosE c.clusters [] c.vhosts) := Lib.hid (by
        rw [HV1.out]
        have := HJ.out.1
        rw [List.take_length] at this
        rw [this]
        rfl)
      have K3 := Lib.hid HJ.out.2
      clear HJ hlt HV1
      have b7 : wr.cell? ⟨w.heap.size, 7, none⟩ = some (.slice pc c.clusters.length cc) := K3.out.box.cell 7
      go_wp2_with fail
      clear hk hki b7
      go_loopw [28] (fun i2 wr => ∃ k : Nat, k ≤ c.clusters.length ∧ i2 = .int .i64 k ∧ Hid (clusE [] c.clusters = clusE (c.clusters.take k) (c.clusters.drop k) ∧ Kx w w.heap.size c (.slice pf c.filters.length cf) (.slice pc c.clusters.length cc) (.slice pv c.vhosts.length cv) wr)) (fun i2 _ => c.clusters.length - (intOf i2).toNat)
      case atStart => exact ⟨0, Nat.zero_le _, rfl, Lib.hid ⟨by simp, K3.out⟩⟩
      case round =>
        obtain ⟨k, hk, rfl, HJ⟩ := hrel
        clear K3
        by_cases hlt : k < c.clusters.length
        · have hki : (k : Int) < (c.clusters.length : Int) := by omega
          have hk0 : (0 : Int) ≤ (k : Int) := by omega
          have hkc2 : (k : Int) ≤ (cc : Int) := by omega
          have hln : (c.clusters.take k).length ≤ 1048576 := by rw [List.length_take]; omega
          obtain ⟨gc, oc, rfl, hgl, hxc⟩ := cluss_at HJ.out.2.cf.clusters k hlt
          obtain ⟨x, hxx⟩ : ∃ x, x = c.clusters[k] := ⟨_, rfl⟩
          have hfx : FitClus x := by rw [hxx]; exact HX.out.clusters.2 _ (List.getElem_mem hlt)
          have HS : Hid (clusE (c.clusters.take k) (c.clusters.drop k) = if clE (c.clusters.take k) x ≠ 0 then clE (c.clusters.take k) x else clusE (c.clusters.take (k + 1)) (c.clusters.drop (k + 1))) := Lib.hid (by
            rw [List.drop_eq_getElem_cons hlt, clusE_step, hxx, List.take_succ_eq_append_getElem hlt])
          obtain ⟨hh, ⟨htx, hcp⟩, m0, m1, m2, m3, m4, m5, m6, m7, m8⟩ := hxc x hxx
          obtain ⟨ph, ch, rfl, _, _⟩ := id htx
          have HCl := Lib.hid (fun (cap2 : Nat) w h1 h2 h3 h4 => pclus_any x (.slice ph x.hosts.length ch) hfx (c.clusters.take k) (.slice (some ⟨gc, oc, none⟩) k cap2) hln w h1 h2 h3 hcp h4)
          obtain ⟨E, hE⟩ : ∃ E, E = clE (c.clusters.take k) x := ⟨_, rfl⟩
          rw [← hE] at HCl HS
          have hba : Below wr.heap.size wr (wr.alloc (.cells #[.string (ofL x.name), .int .i64 x.policy, .slice ph x.hosts.length ch, .int .i64 x.conns, .int .i64 x.pending, .int .i64 x.try_, .int .i64 x.fails, .int .i64 x.eject, .int .i64 x.panic] 38)).drew := below_drew ((Below.refl wr.heap.size wr).alloc (Nat.le_refl _) _)
          have KA := HJ.out.2.call hba
          have HN := (Has.new wr 38 #[.string (ofL x.name), .int .i64 x.policy, .slice ph x.hosts.length ch, .int .i64 x.conns, .int .i64 x.pending, .int .i64 x.try_, .int .i64 x.fails, .int .i64 x.eject, .int .i64 x.panic]).drew
          have htx2 := Texts.below htx hba
          have hct2 := fun cap2 => cluss_take KA.cf.clusters k (Nat.le_of_lt hlt) cap2
          have s1 := And.intro (show (wr.alloc (.cells #[.string (ofL x.name), .int .i64 x.policy, .slice ph x.hosts.length ch, .int .i64 x.conns, .int .i64 x.pending, .int .i64 x.try_, .int .i64 x.fails, .int .i64 x.eject, .int .i64 x.panic] 38)).drew.cell? ⟨w.heap.size, 7, none⟩ = some (.slice (some ⟨gc, oc, none⟩) c.clusters.length cc) from KA.box.cell 7) (show (wr.alloc (.cells #[.string (ofL x.name), .int .i64 x.policy, .slice ph x.hosts.length ch, .int .i64 x.conns, .int .i64 x.pending, .int .i64 x.try_, .int .i64 x.fails, .int .i64 x.eject, .int .i64 x.panic] 38)).drew.cell? ⟨wr.heap.size, 0, none⟩ = some (.string (ofL x.name)) ∧ (wr.alloc (.cells #[.string (ofL x.name), .int .i64 x.policy, .slice ph x.hosts.length ch, .int .i64 x.conns, .int .i64 x.pending, .int .i64 x.try_, .int .i64 x.fails, .int .i64 x.eject, .int .i64 x.panic] 38)).drew.cell? ⟨wr.heap.size, 1, none⟩ = some (.int .i64 x.policy) ∧ (wr.alloc (.cells #[.string (ofL x.name), .int .i64 x.policy, .slice ph x.hosts.length ch, .int .i64 x.conns, .int .i64 x.pending, .int .i64 x.try_, .int .i64 x.fails, .int .i64 x.eject, .int .i64 x.panic] 38)).drew.cell? ⟨wr.heap.size, 2, none⟩ = some (.slice ph x.hosts.length ch) ∧ (wr.alloc (.cells #[.string (ofL x.name), .int .i64 x.policy, .slice ph x.hosts.length ch, .int .i64 x.conns, .int .i64 x.pending, .int .i64 x.try_, .int .i64 x.fails, .int .i64 x.eject, .int .i64 x.panic] 38)).drew.cell? ⟨wr.heap.size, 3, none⟩ = some (.int .i64 x.conns) ∧ (wr.alloc (.cells #[.string (ofL x.name), .int .i64 x.policy, .slice ph x.hosts.length ch, .int .i64 x.conns, .int .i64 x.pending, .int .i64 x.try_, .int .i64 x.fails, .int .i64 x.eject, .int .i64 x.panic] 38)).drew.cell? ⟨wr.heap.size, 4, none⟩ = some (.int .i64 x.pending) ∧ (wr.alloc (.cells #[.string (ofL x.name), .int .i64 x.policy, .slice ph x.hosts.length ch, .int .i64 x.conns, .int .i64 x.pending, .int .i64 x.try_, .int .i64 x.fails, .int .i64 x.eject, .int .i64 x.panic] 38)).drew.cell? ⟨wr.heap.size, 5, none⟩ = some (.int .i64 x.try_) ∧ (wr.alloc (.cells #[.string (ofL x.name), .int .i64 x.policy, .slice ph x.hosts.length ch, .int .i64 x.conns, .int .i64 x.pending, .int .i64 x.try_, .int .i64 x.fails, .int .i64 x.eject, .int .i64 x.panic] 38)).drew.cell? ⟨wr.heap.size, 6, none⟩ = some (.int .i64 x.fails) ∧ (wr.alloc (.cells #[.string (ofL x.name), .int .i64 x.policy, .slice ph x.hosts.length ch, .int .i64 x.conns, .int .i64 x.pending, .int .i64 x.try_, .int .i64 x.fails, .int .i64 x.eject, .int .i64 x.panic] 38)).drew.cell? ⟨wr.heap.size, 7, none⟩ = some (.int .i64 x.eject) ∧ (wr.alloc (.cells #[.string (ofL x.name), .int .i64 x.policy, .slice ph x.hosts.length ch, .int .i64 x.conns, .int .i64 x.pending, .int .i64 x.try_, .int .i64 x.fails, .int .i64 x.eject, .int .i64 x.panic] 38)).drew.cell? ⟨wr.heap.size, 8, none⟩ = some (.int .i64 x.panic) from ⟨HN.cell 0, HN.cell 1, HN.cell 2, HN.cell 3, HN.cell 4, HN.cell 5, HN.cell 6, HN.cell 7, HN.cell 8⟩)
          have hne : w.heap.size ≠ wr.heap.size := Nat.ne_of_lt HJ.out.2.box.lt
          have HH := Lib.hid HJ.out.1
          clear hxc hxx hfx hE HJ hba htx hcp hln
          go_wp2_with fail
          clear m0 m1 m2 m3 m4 m5 m6 m7 m8
          go_region_held3 (fun w' => w'.cell? ⟨w.heap.size, 7, none⟩ = some (.slice (some ⟨gc, oc, none⟩) c.clusters.length cc) ∧ w'.cell? ⟨wr.heap.size, 0, none⟩ = some (.string (ofL x.name)) ∧ w'.cell? ⟨wr.heap.size, 1, none⟩ = some (.int .i64 x.policy) ∧ w'.cell? ⟨wr.heap.size, 2, none⟩ = some (.slice ph x.hosts.length ch) ∧ w'.cell? ⟨wr.heap.size, 3, none⟩ = some (.int .i64 x.conns) ∧ w'.cell? ⟨wr.heap.size, 4, none⟩ = some (.int .i64 x.pending) ∧ w'.cell? ⟨wr.heap.size, 5, none⟩ = some (.int .i64 x.try_) ∧ w'.cell? ⟨wr.heap.size, 6, none⟩ = some (.int .i64 x.fails) ∧ w'.cell? ⟨wr.heap.size, 7, none⟩ = some (.int .i64 x.eject) ∧ w'.cell? ⟨wr.heap.size, 8, none⟩ = some (.int .i64 x.panic)) (first | exact s2 | exact s1)
            (first
              | (go_at_call 22; refine (HCl.out _ _ KA.mi KA.pw htx2 (hct2 _)).mono ?_; rintro e w6 ⟨rfl, hb6⟩
                 have K6 := KA.call hb6
                 have HN6 := HN.below hb6 HN.lt
                 have s2 := And.intro (show w6.cell? ⟨w.heap.size, 7, none⟩ = some (.slice (some ⟨gc, oc, none⟩) c.clusters.length cc) from K6.box.cell 7) (show w6.cell? ⟨wr.heap.size, 0, none⟩ = some (.string (ofL x.name)) ∧ w6.cell? ⟨wr.heap.size, 1, none⟩ = some (.int .i64 x.policy) ∧ w6.cell? ⟨wr.heap.size, 2, none⟩ = some (.slice ph x.hosts.length ch) ∧ w6.cell? ⟨wr.heap.size, 3, none⟩ = some (.int .i64 x.conns) ∧ w6.cell? ⟨wr.heap.size, 4, none⟩ = some (.int .i64 x.pending) ∧ w6.cell? ⟨wr.heap.size, 5, none⟩ = some (.int .i64 x.try_) ∧ w6.cell? ⟨wr.heap.size, 6, none⟩ = some (.int .i64 x.fails) ∧ w6.cell? ⟨wr.heap.size, 7, none⟩ = some (.int .i64 x.eject) ∧ w6.cell? ⟨wr.heap.size, 8, none⟩ = some (.int .i64 x.panic) from ⟨HN6.cell 0, HN6.cell 1, HN6.cell 2, HN6.cell 3, HN6.cell 4, HN6.cell 5, HN6.cell 6, HN6.cell 7, HN6.cell 8⟩)))
          have KQ := Lib.hid K6
          clear s1 s2 K6 HN6 HN KA htx2 hct2 hb6 HCl hne
          by_cases hE0 : E = 0
          · subst hE0
            have HK : Hid (clusE [] c.clusters = clusE (c.clusters.take (k + 1)) (c.clusters.drop (k + 1)) ∧ Kx w w.heap.size c (.slice pf c.filters.length cf) (.slice (some ⟨gc, oc, none⟩) c.clusters.length cc) (.slice pv c.vhosts.length cv) w6) := Lib.hid ⟨by rw [HH.out, HS.out, if_neg (fun h => h rfl)], KQ.out⟩
            clear HH HS KQ
            go_wp2_with fail
            go_roundw
            case rel => exact ⟨k + 1, by omega, by go_num, HK⟩
            case measure => simp [intOf]; omega
          · have hEb : (E != 0) = true := bne_iff_ne.2 hE0
            have HV : Hid (check14 c = E) := Lib.hid (by
              have e : clusE [] c.clusters = E := by rw [HH.out, HS.out, if_pos hE0]
              rw [HV2.out, e, if_pos hE0])
            clear HH HS hE0
            go_wp2_with fail
            go_ret
            exact ⟨ret_int HV.out.symm, KQ.out.below⟩
        · have hki : ¬ (k : Int) < (c.clusters.length : Int) := by omega
          obtain rfl : k = c.clusters.length := by omega
          have HV3 : Hid (check14 c = vhosE c.clusters [] c.vhosts) := Lib.hid (by
            have e : clusE [] c.clusters = 0 := by rw [HJ.out.1, List.drop_length]; rfl
            rw [HV2.out, e, if_neg (fun h => h rfl)])
          have K3 := Lib.hid HJ.out.2
          clear HJ hlt HV2
          have b8 : wr.cell? ⟨w.heap.size, 8, none⟩ = some (.slice pv c.vhosts.length cv) := K3.out.box.cell 8
          go_wp2_with fail
          clear b8 hk hki
          go_loopw [46] (fun i2 wr => ∃ k : Nat, k ≤ c.vhosts.length ∧ i2 = .int .i64 k ∧ Hid (vhosE c.clusters [] c.vhosts = vhosE c.clusters (c.vhosts.take k) (c.vhosts.drop k) ∧ Kx w w.heap.size c (.slice pf c.filters.length cf) (.slice pc c.clusters.length cc) (.slice pv c.vhosts.length cv) wr)) (fun i2 _ => c.vhosts.length - (intOf i2).toNat)
          case atStart => exact ⟨0, Nat.zero_le _, rfl, Lib.hid ⟨by simp, K3.out⟩⟩
          case round =>
            obtain ⟨k, hk, rfl, HJ⟩ := hrel
            clear K3
            by_cases hlt : k < c.vhosts.length
            · have hki : (k : Int) < (c.vhosts.length : Int) := by omega
              have hk0 : (0 : Int) ≤ (k : Int) := by omega
              have hkc2 : (k : Int) ≤ (cv : Int) := by omega
              have hln : (c.vhosts.take k).length ≤ 1048576 := by rw [List.length_take]; omega
              obtain ⟨gv, ov, rfl, hgl, hxc⟩ := vhoss_at HJ.out.2.cf.vhosts k hlt
              obtain ⟨x, hxx⟩ : ∃ x, x = c.vhosts[k] := ⟨_, rfl⟩
              have hfx : FitVhos x := by rw [hxx]; exact HX.out.vhosts.2 _ (List.getElem_mem hlt)
              have HS : Hid (vhosE c.clusters (c.vhosts.take k) (c.vhosts.drop k) = if vhE c.clusters (c.vhosts.take k) x ≠ 0 then vhE c.clusters (c.vhosts.take k) x else vhosE c.clusters (c.vhosts.take (k + 1)) (c.vhosts.drop (k + 1))) := Lib.hid (by
                rw [List.drop_eq_getElem_cons hlt, vhosE_step, hxx, List.take_succ_eq_append_getElem hlt])
              obtain ⟨hh, hrt, m0, m1⟩ := hxc x hxx
              obtain ⟨ph, ch, rfl⟩ : ∃ p cap, hh = .slice p x.routes.length cap := by obtain ⟨p, cap, h, _⟩ := hrt.parts; exact ⟨p, cap, h⟩
              have HCl := Lib.hid (fun (cap2 : Nat) w h1 h2 h3 h4 h5 => pvhost_any x (.slice ph x.routes.length ch) hfx (c.vhosts.take k) (.slice (some ⟨gv, ov, none⟩) k cap2) hln c.clusters (.slice pc c.clusters.length cc) hcl w h1 h2 h3 h4 h5)
              obtain ⟨E, hE⟩ : ∃ E, E = vhE c.clusters (c.vhosts.take k) x := ⟨_, rfl⟩
              rw [← hE] at HCl HS
              have hba : Below wr.heap.size wr (wr.alloc (.cells #[.string (ofL x.domain), .slice ph x.routes.length ch] 43)).drew := below_drew ((Below.refl wr.heap.size wr).alloc (Nat.le_refl _) _)
              have KA := HJ.out.2.call hba
              have HN := (Has.new wr 43 #[.string (ofL x.domain), .slice ph x.routes.length ch]).drew
              have hrt2 := hrt.below hba
              have hct2 := fun cap2 => vhoss_take KA.cf.vhosts k (Nat.le_of_lt hlt) cap2
              have s1 := And.intro (show (wr.alloc (.cells #[.string (ofL x.domain), .slice ph x.routes.length ch] 43)).drew.cell? ⟨w.heap.size, 7, none⟩ = some (.slice pc c.clusters.length cc) from KA.box.cell 7) (And.intro (show (wr.alloc (.cells #[.string (ofL x.domain), .slice ph x.routes.length ch] 43)).drew.cell? ⟨w.heap.size, 8, none⟩ = some (.slice (some ⟨gv, ov, none⟩) c.vhosts.length cv) from KA.box.cell 8) (show (wr.alloc (.cells #[.string (ofL x.domain), .slice ph x.routes.length ch] 43)).drew.cell? ⟨wr.heap.size, 0, none⟩ = some (.string (ofL x.domain)) ∧ (wr.alloc (.cells #[.string (ofL x.domain), .slice ph x.routes.length ch] 43)).drew.cell? ⟨wr.heap.size, 1, none⟩ = some (.slice ph x.routes.length ch) from ⟨HN.cell 0, HN.cell 1⟩))
              have hne : w.heap.size ≠ wr.heap.size := Nat.ne_of_lt HJ.out.2.box.lt
              have HH := Lib.hid HJ.out.1
              clear hxc hxx hfx hE HJ hba hrt hln
              go_wp2_with fail
              clear m0 m1
              go_region_held3 (fun w' => w'.cell? ⟨w.heap.size, 7, none⟩ = some (.slice pc c.clusters.length cc) ∧ w'.cell? ⟨w.heap.size, 8, none⟩ = some (.slice (some ⟨gv, ov, none⟩) c.vhosts.length cv) ∧ w'.cell? ⟨wr.heap.size, 0, none⟩ = some (.string (ofL x.domain)) ∧ w'.cell? ⟨wr.heap.size, 1, none⟩ = some (.slice ph x.routes.length ch)) (first | exact s2 | exact s1)
                (first
                  | (go_at_call 23; refine (HCl.out _ _ KA.mi KA.pw hrt2 (hct2 _) KA.cf.clusters).mono ?_; rintro e w6 ⟨rfl, hb6⟩
                     have K6 := KA.call hb6
                     have HN6 := HN.below hb6 HN.lt
                     have s2 := And.intro (show w6.cell? ⟨w.heap.size, 7, none⟩ = some (.slice pc c.clusters.length cc) from K6.box.cell 7) (And.intro (show w6.cell? ⟨w.heap.size, 8, none⟩ = some (.slice (some ⟨gv, ov, none⟩) c.vhosts.length cv) from K6.box.cell 8) (show w6.cell? ⟨wr.heap.size, 0, none⟩ = some (.string (ofL x.domain)) ∧ w6.cell? ⟨wr.heap.size, 1, none⟩ = some (.slice ph x.routes.length ch) from ⟨HN6.cell 0, HN6.cell 1⟩))))
              have KQ := Lib.hid K6
              clear s1 s2 K6 HN6 HN KA hrt2 hct2 hb6 HCl hne
              by_cases hE0 : E = 0
              · subst hE0
                have HK : Hid (vhosE c.clusters [] c.vhosts = vhosE c.clusters (c.vhosts.take (k + 1)) (c.vhosts.drop (k + 1)) ∧ Kx w w.heap.size c (.slice pf c.filters.length cf) (.slice pc c.clusters.length cc) (.slice (some ⟨gv, ov, none⟩) c.vhosts.length cv) w6) := Lib.hid ⟨by rw [HH.out, HS.out, if_neg (fun h => h rfl)], KQ.out⟩
                clear HH HS KQ
                go_wp2_with fail
                go_roundw
                case rel => exact ⟨k + 1, by omega, by go_num, HK⟩
                case measure => simp [intOf]; omega
              · have hEb : (E != 0) = true := bne_iff_ne.2 hE0
                have HV : Hid (check14 c = E) := Lib.hid (by rw [HV3.out, HH.out, HS.out, if_pos hE0])
                clear HH HS hE0
                go_wp2_with fail
                go_ret
                exact ⟨ret_int HV.out.symm, KQ.out.below⟩
            · have hki : ¬ (k : Int) < (c.vhosts.length : Int) := by omega
              obtain rfl : k = c.vhosts.length := by omega
              have HV : Hid (check14 c = 0) := Lib.hid (by rw [HV3.out, HJ.out.1, List.drop_length]; rfl)
              have K5 := Lib.hid HJ.out.2
              clear HJ hlt
              go_wp2_with fail
              go_ret
              exact ⟨ret_int HV.out.symm, K5.out.below⟩
end Go.Proofs.YtfihehobkbfmiaaGreatDoor.PCfgK

/- Layer 14 of the program: read, Parse. -/
namespace Go.Proofs.YtfihehobkbfmiaaGreatDoor.PCfgG
open Go.ChangeShapes Go.WideShapes Go.ChangeAt Go.RowKit Bytes LexPure LexNum PathPure CutAt ConfPure ConfBack ConfProg ConfMem Ret Mem RowKeep ConfOwn ConfCF PCfgLib PCfgT PCfgW PCfgM PCfgN PCfgO PCfgP PCfgQ PCfgL
set_option maxRecDepth 100000
set_option linter.unusedVariables false
set_option linter.unusedSimpArgs false
/-! ### how many there are, line by line -/
structure Cnt (c : Conf) (i : Nat) : Prop where
  nf : c.filters.length ≤ i
  nc : c.clusters.length ≤ i
  nv : c.vhosts.length ≤ i
  nr : ∀ v ∈ c.vhosts, v.routes.length ≤ i
theorem Cnt.zero : Cnt zeroC 0 := ⟨Nat.le_refl _, Nat.le_refl _, Nat.le_refl _, fun v hv => by cases hv⟩
theorem Cnt.few {c : Conf} {i : Nat} (h : Cnt c i) (hi : i ≤ 274877906944) : Few14 c := ⟨Nat.le_trans h.nf hi, Nat.le_trans h.nc hi, Nat.le_trans h.nv hi, fun v hv => Nat.le_trans (h.nr v hv) hi⟩
theorem Cnt.up {c : Conf} {i : Nat} (h : Cnt c i) : Cnt c (i + 1) := ⟨Nat.le_succ_of_le h.nf, Nat.le_succ_of_le h.nc, Nat.le_succ_of_le h.nv, fun v hv => Nat.le_succ_of_le (h.nr v hv)⟩
theorem Cnt.first {l : L} {c : Conf} (h : firstP l = some c) : Cnt c 1 := by
  unfold firstP at h
  dsimp only at h
  split at h
  · cases h
  · split at h
    · injection h with h
      subst h
      exact ⟨Nat.zero_le _, Nat.zero_le _, Nat.zero_le _, fun v hv => by cases hv⟩
    · cases h
theorem Cnt.line {l : L} {c c' : Conf} {i : Nat} (h : Cnt c i) (hl : lineP c l = some c') : Cnt c' (i + 1) := by
  have hu := h.up
  unfold lineP at hl
  dsimp only at hl
  split at hl
  · split at hl
    · cases hl
    · injection hl with hl
      subst hl
      exact ⟨by show (c.filters ++ [_]).length ≤ _; rw [List.length_append]; have := h.nf; simp; omega, hu.nc, hu.nv, hu.nr⟩
  split at hl
  · split at hl
    · cases hl
    · split at hl
      · injection hl with hl
        subst hl
        exact ⟨hu.nf, by show (c.clusters ++ [_]).length ≤ _; rw [List.length_append]; have := h.nc; simp; omega, hu.nv, hu.nr⟩
      · cases hl
  split at hl
  · split at hl
    · cases hl
    · injection hl with hl
      subst hl
      refine ⟨hu.nf, hu.nc, by show (c.vhosts ++ [_]).length ≤ _; rw [List.length_append]; have := h.nv; simp; omega, fun v hv => ?_⟩
      rcases List.mem_append.1 hv with hv | hv
      · exact hu.nr v hv
      · obtain rfl := List.mem_singleton.1 hv
        exact Nat.zero_le _
  split at hl
  · split at hl
    · cases hl
    · unfold addR at hl
      split at hl
      · cases hl
      · rename_i v hlast
        simp only [Option.map_some] at hl
        injection hl with hl
        subst hl
        obtain ⟨V0, hV0⟩ : ∃ V0, c.vhosts = V0 ++ [v] := by
          rcases List.eq_nil_or_concat c.vhosts with h0 | ⟨V0, u, h0⟩
          · rw [h0] at hlast; cases hlast
          · rw [List.concat_eq_append] at h0
            rw [h0, List.getLast?_concat] at hlast
            injection hlast with hlast
            exact ⟨V0, by rw [h0, hlast]⟩
        have hd : c.vhosts.dropLast = V0 := by rw [hV0, List.dropLast_concat]
        refine ⟨hu.nf, hu.nc, ?_, fun u hu2 => ?_⟩
        · show (c.vhosts.dropLast ++ [_]).length ≤ _
          rw [hd, List.length_append, List.length_singleton]
          have := h.nv
          rw [hV0, List.length_append, List.length_singleton] at this
          omega
        · replace hu2 : u ∈ c.vhosts.dropLast ++ [_] := hu2
          rw [hd] at hu2
          rcases List.mem_append.1 hu2 with hu2 | hu2
          · exact hu.nr u (by rw [hV0]; exact List.mem_append_left _ hu2)
          · obtain rfl := List.mem_singleton.1 hu2
            show (v.routes ++ [_]).length ≤ _
            rw [List.length_append, List.length_singleton]
            have := h.nr v (by rw [hV0]; exact List.mem_append_right _ (List.mem_singleton.2 rfl))
            omega
  · cases hl
theorem Cnt.step {l : L} {c c' : Conf} {i : Nat} (h : Cnt c i) (hl : stepP i c l = some c') : Cnt c' (i + 1) := by
  unfold stepP at hl
  split at hl
  · rename_i h0
    subst h0
    exact Cnt.first hl
  · exact h.line hl
/-- the lines of a text, the first cut off -/
theorem go_cut {i : Nat} {c : Conf} {s : L} (h : hasB 10 s = true) : goP i c (cutB 10 s) = match stepP i c (aheadOf 10 s) with
    | none => .inl i
    | some c' => goP (i + 1) c' (cutB 10 (behind 10 s)) := by
  rw [cutB_has h]
  cases hc : cutB 10 (behind 10 s) with
  | nil => exact absurd hc (cutB_ne _ _)
  | cons m ls => rfl
theorem go_last {i : Nat} {c : Conf} {s : L} (h : hasB 10 s = false) (h0 : s ≠ []) : goP i c (cutB 10 s) = .inl i := by
  rw [cutB_no h]
  show (if 0 < i ∧ s = [] then Sum.inr c else .inl i) = _
  rw [if_neg (fun e => h0 e.2)]
theorem go_end (i : Nat) (c : Conf) : goP i c (cutB 10 []) = if 0 < i then .inr c else .inl i := by
  show (if 0 < i ∧ ([] : L) = [] then Sum.inr c else .inl i) = _
  by_cases h : 0 < i
  · rw [if_pos ⟨h, rfl⟩, if_pos h]
  · rw [if_neg (fun e => h e.1), if_neg h]
theorem behind_short {x : UInt8} {s : L} (h : hasB x s = true) : (behind x s).length + 1 ≤ s.length := by
  have := congrArg List.length (cut_split x s h).1
  rw [List.length_append, List.length_cons] at this
  omega
theorem results_cell_tmp2 {fn : Func} {p t u : Tmp} {ty : TypeId} (h : fn.results = #[.cell p ty, .tmp t, .tmp u]) (tmps : Array Value) (P : Program) (w : World) :
    (results fn tmps).run P w =
      ((asAddr (tmps.getD p undef)).run P w).andThen fun a w₁ => ((loadVar ty a).run P w₁).andThen fun v w₂ => .ok (.tuple #[v, tmps.getD t undef, tmps.getD u undef]) w₂ := by
  simp only [results, h]
  simp [Sem.run_bind, Result.andThen]
theorem end_conf {fn : Func} {p t u : Tmp} (h : fn.results = #[.cell p 26, .tmp t, .tmp u]) (tmps : Array Value) (W : World) (b : Nat) (cs : Array Value) (x y : Value) (hp : tmps.getD p undef = .pointer (some ⟨b, 0, none⟩)) (hH : Has W b 26 cs) (hn : cs.size = 9) (hx : tmps.getD t undef = x) (hy : tmps.getD u undef = y) :
    (results fn tmps).run Tryz.prog W = .ok (.tuple #[.agg cs, x, y]) W := by
  rw [results_cell_tmp2 h, hp, hx, hy]
  have := run_loadVar_row W b 26 26 cs (0, 0) _ hH.at_ Tryz.underlying26 rfl (by rw [hn]; kernel_rfl)
  simp [asAddr, Result.andThen, this]
def zCs : Array Value := #[.int .i64 0, .int .i64 0, .int .i64 0, .int .i64 0, .int .i64 0, .int .i64 0, .slice none 0 0, .slice none 0 0, .slice none 0 0]
theorem zCs_eq : confV zeroC (.slice none 0 0) (.slice none 0 0) (.slice none 0 0) = zCs := rfl
/-- nothing -/
theorem OCs.zero {w : World} {g : Nat} (h : Has w g CT zCs) : OCs w g zeroC (.slice none 0 0) (.slice none 0 0) (.slice none 0 0) [] [] :=
  ⟨h, World.ownsRow_nil _ _ _ _, rfl, World.ownsRow_nil _ _ _ _, fun p hp => (by cases hp), List.Pairwise.nil, rfl, World.ownsRow_nil _ _ _ _, fun p hp => (by cases hp), List.Pairwise.nil⟩
/-- in read's loop -/
structure Rd (w : World) (b g : Nat) (s : ByteArray) (t : ByteArray) (i : Nat) (c : Conf) (W : World) : Prop where
  oc : OC W g c
  res : Has W b CT zCs
  below : Below b w W
  lo : b < g
  go : goP 0 zeroC (cutB 10 (toL s)) = goP i c (cutB 10 (toL t))
  cnt : Cnt c i
  len : i + t.size ≤ s.size
  zero : i = 0 → c = zeroC
def ReadPost (w : World) (s : ByteArray) (e : Ending) (w' : World) : Prop := Below w.heap.size w w' ∧ match goP 0 zeroC (cutB 10 (toL s)) with
  | .inl i => ∃ x0 x1 x2 x3 x4 x5 pf nf cf pc nc cc pv nv cv, e = .returned (.tuple #[.agg #[.int .i64 x0, .int .i64 x1, .int .i64 x2, .int .i64 x3, .int .i64 x4, .int .i64 x5, .slice pf nf cf, .slice pc nc cc, .slice pv nv cv], .int .i64 (i : Int), .bool false])
  | .inr c => ∃ g vf vc vv CL VL, e = .returned (.tuple #[.agg (confV c vf vc vv), .int .i64 0, .bool true]) ∧ OCs w' g c vf vc vv CL VL ∧ w.heap.size ≤ g
theorem below_of_grown {w W : World} {b : Nat} (h : Below b w W) (hb : b ≤ W.heap.size) (cs2 : Array Value) {B : Nat} (hB : B ≤ b) : Below B w (W.setRow b cs2) :=
  ⟨h.os, h.tape, h.output, by show _ ≤ (W.setRow b cs2).heap.size; simpa using h.size, fun k hk => (setRow_other W b k _ (by omega)).trans (h.block k (Nat.lt_of_lt_of_le hk hB))⟩
set_option maxHeartbeats 6400000 in
theorem pread_any (s : ByteArray) (hs : s.size ≤ 274877906944) (w : World) :
    Calls Tryz.prog 35 #[.string s] w (ReadPost w s) := by
  have R0 : Rd w w.heap.size (w.heap.size + 1) s s 0 zeroC ((w.alloc (.cells zCs CT)).alloc (.cells zCs CT)) := by
    have h1 := (Has.new w CT zCs).alloc (.cells zCs CT)
    have h2 := Has.new (w.alloc (.cells zCs CT)) CT zCs
    rw [show (w.alloc (.cells zCs CT)).heap.size = w.heap.size + 1 by simp] at h2
    exact ⟨⟨_, _, _, _, _, OCs.zero h2⟩, h1, ((Below.refl _ w).alloc (Nat.le_refl _) _).alloc (by simp) _, by omega, rfl, Cnt.zero, by omega, fun _ => rfl⟩
  have HR := Lib.hid R0
  unfold zCs CT at HR
  have hsi : (s.size : Int) ≤ 274877906944 := by omega
  have HS := Lib.hid hs
  clear R0 hs
  generalize hW : ((w.alloc (.cells #[.int .i64 0, .int .i64 0, .int .i64 0, .int .i64 0, .int .i64 0, .int .i64 0, .slice none 0 0, .slice none 0 0, .slice none 0 0] 26)).alloc (.cells #[.int .i64 0, .int .i64 0, .int .i64 0, .int .i64 0, .int .i64 0, .int .i64 0, .slice none 0 0, .slice none 0 0, .slice none 0 0] 26)) = W0 at HR
  have HW := Lib.hid hW
  obtain ⟨g, hg⟩ : ∃ g, g = w.heap.size + 1 := ⟨_, rfl⟩
  rw [← hg] at HR
  have HG := Lib.hid hg
  clear hW hg
  go_enter Tryz.func35, Tryz.ntmps35
  go_wp2_with fail
  rw [HW.out, ← HG.out]
  go_loopw [0, 6] (fun t n wr => ∃ (t' : ByteArray) (i : Nat), t = .string t' ∧ n = .int .i64 i ∧ i + t'.size ≤ s.size ∧ Hid (∃ c, Rd w w.heap.size g s t' i c wr)) (fun t _ _ => match t with | .string x => x.size | _ => 0)
  case atStart => exact ⟨s, 0, rfl, rfl, by omega, Lib.hid ⟨_, HR.out⟩⟩
  case round =>
    obtain ⟨t', i, rfl, rfl, hit, HJ⟩ := hrel
    clear HR HW
    obtain ⟨c, J⟩ := HJ.out
    have q1 : (t'.toList != []) = (toL t' != []) := by rw [ByteArray.toList_eq]
    have q2 : t'.toList.isEmpty = !(toL t' != []) := by
      rw [ByteArray.toList_eq]
      show (toL t').isEmpty = _
      cases toL t' <;> rfl
    have hii : (i : Int) ≤ 274877906944 := by omega
    have hi0 : (0 : Int) ≤ (i : Int) := by omega
    by_cases h0 : toL t' = []
    · rw [h0] at q1 q2
      replace q1 : (t'.toList != []) = false := q1
      replace q2 : t'.toList.isEmpty = true := q2
      obtain ⟨vf, vc, vv, CL, VL, O⟩ := J.oc
      have hgo := J.go
      rw [h0, go_end] at hgo
      have HGo := Lib.hid hgo
      have HO := Lib.hid O
      have HRes := J.res
      have HBl := Lib.hid J.below
      have HLo := Lib.hid J.lo
      obtain ⟨pf, cf, hvf, _⟩ := row_form O.rf
      obtain ⟨pc, cc, hvc, _⟩ := row_form O.rc
      obtain ⟨pv, cv, hvv, _⟩ := row_form O.rv
      obtain ⟨nf, hnf⟩ : ∃ n, n = c.filters.length := ⟨_, rfl⟩
      obtain ⟨nc, hnc⟩ : ∃ n, n = CL.length := ⟨_, rfl⟩
      obtain ⟨nv, hnv⟩ : ∃ n, n = VL.length := ⟨_, rfl⟩
      rw [← hnf] at hvf
      rw [← hnc] at hvc
      rw [← hnv] at hvv
      subst hvf
      subst hvc
      subst hvv
      have b0 : wr.cell? ⟨g, 0, none⟩ = some (.int .i64 c.conns) := O.box.cell 0
      have b1 : wr.cell? ⟨g, 1, none⟩ = some (.int .i64 c.body) := O.box.cell 1
      have b2 : wr.cell? ⟨g, 2, none⟩ = some (.int .i64 c.idle) := O.box.cell 2
      have b3 : wr.cell? ⟨g, 3, none⟩ = some (.int .i64 c.grace) := O.box.cell 3
      have b4 : wr.cell? ⟨g, 4, none⟩ = some (.int .i64 c.budget) := O.box.cell 4
      have b5 : wr.cell? ⟨g, 5, none⟩ = some (.int .i64 c.seed) := O.box.cell 5
      have b6 : wr.cell? ⟨g, 6, none⟩ = some (.slice pf nf cf) := O.box.cell 6
      have b7 : wr.cell? ⟨g, 7, none⟩ = some (.slice pc nc cc) := O.box.cell 7
      have b8 : wr.cell? ⟨g, 8, none⟩ = some (.slice pv nv cv) := O.box.cell 8
      have HE : Hid (∀ b : Bool, b = decide (0 < i) → ReadPost w s (.returned (.tuple #[.agg (confV c (.slice pf nf cf) (.slice pc nc cc) (.slice pv nv cv)), .int .i64 0, .bool b])) (wr.setRow w.heap.size (confV c (.slice pf nf cf) (.slice pc nc cc) (.slice pv nv cv)))) := Lib.hid (fun b hb => by
        subst hb
        have hbl := below_of_grown J.below (Nat.le_of_lt J.res.lt) (confV c (.slice pf nf cf) (.slice pc nc cc) (.slice pv nv cv)) (Nat.le_refl w.heap.size)
        refine ⟨hbl, ?_⟩
        rw [hgo]
        by_cases hi : 0 < i
        · rw [if_pos hi, decide_eq_true hi]
          refine ⟨g, _, _, _, CL, VL, rfl, ?_, Nat.le_of_lt J.lo⟩
          have hr : wr.grownBy (wr.setRow w.heap.size (confV c (.slice pf nf cf) (.slice pc nc cc) (.slice pv nv cv))) (some w.heap.size) := ⟨rfl, rfl, rfl, by simp, fun k _ hk => setRow_other wr w.heap.size k _ (fun e => hk (by rw [e]))⟩
          have hlo := J.lo
          have key : ∀ {n size : Nat} {e : TypeId} {v : Value} {xs : List Value}, wr.ownsRow g e size v n xs → (wr.setRow w.heap.size (confV c (.slice pf nf cf) (.slice pc nc cc) (.slice pv nv cv))).ownsRow g e size v n xs := fun hrw => hrw.kept hr (.inr (fun e => by have := (hrw.lt _ e).1; omega))
          exact ⟨O.box.grown hr (by intro e; injection e with e; omega), key O.rf, O.ec, key O.rc, fun p hp => key (O.hc p hp), O.ac, O.ev, key O.rv, fun p hp => key (O.hv p hp), O.av⟩
        · rw [if_neg hi, decide_eq_false hi]
          obtain rfl : i = 0 := by omega
          exact ⟨_, _, _, _, _, _, _, _, _, _, _, _, _, _, _, rfl⟩)
      have hgt : decide ((0 : Int) < (i : Int)) = decide (0 < i) := by
        by_cases h : 0 < i
        · rw [decide_eq_true h, decide_eq_true (by omega)]
        · rw [decide_eq_false h, decide_eq_false (by omega)]
      clear O J HJ hgo h0 hnf hnc hnv
      unfold confV at HE
      unfold zCs CT at HRes
      go_wp2_with (refine store_whole rfl 26 9 conf_size _ _ rfl w.heap.size _ _ HRes rfl rfl (by simp [Value.oneCell']) rfl rfl ?_)
      have hset : Has (wr.setRow w.heap.size #[.int .i64 c.conns, .int .i64 c.body, .int .i64 c.idle, .int .i64 c.grace, .int .i64 c.budget, .int .i64 c.seed, .slice pf nf cf, .slice pc nc cc, .slice pv nv cv]) w.heap.size 26 _ := ⟨setRow_heap wr w.heap.size _ _ 26 _ HRes.at_⟩
      exact bodyPost_ret (end_conf (p := 2) (t := 3) (u := 4) rfl _ _ w.heap.size _ (.int .i64 0) (.bool (decide (0 < i))) rfl hset rfl rfl rfl) rfl (HE.out _ rfl)
    · have b1 : (toL t' != []) = true := bne_iff_ne.2 h0
      rw [b1] at q1 q2
      have HC := Lib.hid (fun w => PCutLib.full_cut 10 t' (by omega) w)
      cases hb : hasB 10 (toL t') with
      | false =>
        rw [hb] at HC
        have hgo := J.go
        rw [go_last hb h0] at hgo
        have HRes := J.res
        have HBl := Lib.hid J.below
        have HE : Hid (∀ W, Below w.heap.size w W → ReadPost w s (.returned (.tuple #[.agg #[.int .i64 0, .int .i64 0, .int .i64 0, .int .i64 0, .int .i64 0, .int .i64 0, .slice none 0 0, .slice none 0 0, .slice none 0 0], .int .i64 (i : Int), .bool false])) W) := Lib.hid (fun W hW => by
          refine ⟨hW, ?_⟩
          rw [hgo]
          exact ⟨_, _, _, _, _, _, _, _, _, _, _, _, _, _, _, rfl⟩)
        have HRl := Lib.hid HRes
        clear J HJ hgo h0 hb b1 HRes
        generalize ofL (aheadOf 10 (toL t')) = A at HC
        generalize ofL (behind 10 (toL t')) = B at HC
        go_wp2_with fail
        refine (HC.out _).mono ?_
        rintro e w2 ⟨rfl, hb2⟩
        have HRes2 := HRl.out.below hb2 HRl.out.lt
        have HB2 := Lib.hid (show Below w.heap.size w w2 from ⟨hb2.os.trans HBl.out.os, hb2.tape.trans HBl.out.tape, hb2.output.trans HBl.out.output, Nat.le_trans HBl.out.size hb2.size, fun k hk => (hb2.block k (Nat.lt_trans hk HRl.out.lt)).trans (HBl.out.block k hk)⟩)
        unfold zCs CT at HRes2
        clear hb2 HC HRl HBl
        go_wp2_with (refine store_whole rfl 26 9 conf_size _ _ rfl w.heap.size _ _ HRes2 rfl rfl (by simp [Value.oneCell']) rfl rfl ?_)
        have hset : Has (w2.setRow w.heap.size #[.int .i64 0, .int .i64 0, .int .i64 0, .int .i64 0, .int .i64 0, .int .i64 0, .slice none 0 0, .slice none 0 0, .slice none 0 0]) w.heap.size 26 _ := ⟨setRow_heap w2 w.heap.size _ _ 26 _ HRes2.at_⟩
        exact bodyPost_ret (end_conf (p := 2) (t := 3) (u := 4) rfl _ _ w.heap.size _ (.int .i64 (i : Int)) (.bool false) rfl hset rfl rfl rfl) rfl (HE.out _ (below_of_grown HB2.out (Nat.le_of_lt HRes2.lt) _ (Nat.le_refl _)))
      | true =>
        rw [hb] at HC
        have hgo := J.go
        rw [go_cut hb] at hgo
        have hsh := behind_short hb
        rw [toL_length] at hsh
        have hal := ahead_len 10 (toL t')
        rw [toL_length] at hal
        obtain ⟨fst, hfst⟩ : ∃ f : Bool, f = decide (i = 0) := ⟨_, rfl⟩
        have q3 : ((i : Int) == 0) = fst := by
          rw [hfst]
          by_cases h : i = 0
          · rw [h]; rfl
          · rw [decide_eq_false h]; exact beq_false_of_ne (by omega)
        have hst : stepP i c (aheadOf 10 (toL t')) = if fst then firstP (aheadOf 10 (toL t')) else lineP c (aheadOf 10 (toL t')) := by
          unfold stepP
          rw [hfst]
          by_cases h : i = 0
          · rw [if_pos h, decide_eq_true h]; rfl
          · rw [if_neg h, decide_eq_false h]; rfl
        have HAdd := Lib.hid (fun W hO => padd_any g c (aheadOf 10 (toL t')) (by omega) fst (fun h => J.zero (by rw [hfst] at h; exact of_decide_eq_true h)) (J.cnt.few (by omega)) W hO)
        rw [← hst] at HAdd
        have HJ2 := Lib.hid J
        have HStep := Lib.hid (fun c' (hc' : stepP i c (aheadOf 10 (toL t')) = some c') => J.cnt.step hc')
        have HGo := Lib.hid hgo
        obtain ⟨r, hr⟩ : ∃ r, r = stepP i c (aheadOf 10 (toL t')) := ⟨_, rfl⟩
        rw [← hr] at HAdd HStep HGo
        have HSh := Lib.hid hsh
        have htl : toL (ofL (behind 10 (toL t'))) = behind 10 (toL t') := toL_ofL _
        have htz : (ofL (behind 10 (toL t'))).size = (behind 10 (toL t')).length := ofL_size _
        generalize behind 10 (toL t') = Bl at *
        generalize aheadOf 10 (toL t') = Al_ at *
        generalize ofL Bl = B at *
        generalize ofL Al_ = A at *
        have HT := Lib.hid (And.intro htl htz)
        clear J HJ hgo h0 hb b1 hst hfst hr hal hsh htl htz
        go_wp2_with fail
        refine (HC.out _).mono ?_
        rintro e w2 ⟨rfl, hb2⟩
        have hbw : Below w.heap.size w w2 := ⟨hb2.os.trans HJ2.out.below.os, hb2.tape.trans HJ2.out.below.tape, hb2.output.trans HJ2.out.below.output, Nat.le_trans HJ2.out.below.size hb2.size, fun k hk => (hb2.block k (Nat.lt_trans hk HJ2.out.res.lt)).trans (HJ2.out.below.block k hk)⟩
        obtain ⟨vf, vc, vv, CL, VL, O⟩ := HJ2.out.oc
        have HAd := Lib.hid (HAdd.out w2 ⟨_, _, _, _, _, O.below hb2⟩)
        have HRes2 := Lib.hid (HJ2.out.res.below hb2 HJ2.out.res.lt)
        have HBw := Lib.hid hbw
        clear hb2 hbw O HC HAdd
        go_wp2_with fail
        refine HAd.out.mono ?_
        rintro e w3 ⟨ok, rfl, hb3, hok⟩
        have HRes3 := HRes2.out.below hb3 HJ2.out.lo
        have HB3 := Lib.hid (show Below w.heap.size w w3 from ⟨hb3.os.trans HBw.out.os, hb3.tape.trans HBw.out.tape, hb3.output.trans HBw.out.output, Nat.le_trans HBw.out.size hb3.size, fun k hk => (hb3.block k (Nat.lt_trans hk HJ2.out.lo)).trans (HBw.out.block k hk)⟩)
        clear HAd hb3 HRes2 HBw
        cases r with
        | none =>
          replace hok : ok = false := hok
          subst hok
          have HE : Hid (∀ W, Below w.heap.size w W → ReadPost w s (.returned (.tuple #[.agg #[.int .i64 0, .int .i64 0, .int .i64 0, .int .i64 0, .int .i64 0, .int .i64 0, .slice none 0 0, .slice none 0 0, .slice none 0 0], .int .i64 (i : Int), .bool false])) W) := Lib.hid (fun W hW => by
            refine ⟨hW, ?_⟩
            rw [HGo.out]
            exact ⟨_, _, _, _, _, _, _, _, _, _, _, _, _, _, _, rfl⟩)
          unfold zCs CT at HRes3
          clear HJ2 HStep HGo
          go_wp2_with (refine store_whole rfl 26 9 conf_size _ _ rfl w.heap.size _ _ HRes3 rfl rfl (by simp [Value.oneCell']) rfl rfl ?_)
          have hset : Has (w3.setRow w.heap.size #[.int .i64 0, .int .i64 0, .int .i64 0, .int .i64 0, .int .i64 0, .int .i64 0, .slice none 0 0, .slice none 0 0, .slice none 0 0]) w.heap.size 26 _ := ⟨setRow_heap w3 w.heap.size _ _ 26 _ HRes3.at_⟩
          exact bodyPost_ret (end_conf (p := 2) (t := 3) (u := 4) rfl _ _ w.heap.size _ (.int .i64 (i : Int)) (.bool false) rfl hset rfl rfl rfl) rfl (HE.out _ (below_of_grown HB3.out (Nat.le_of_lt HRes3.lt) _ (Nat.le_refl _)))
        | some c' =>
          obtain ⟨hok, hO⟩ : ok = true ∧ OC w3 g c' := hok
          subst hok
          have HN : Hid (∃ c, Rd w w.heap.size g s B (i + 1) c w3) := Lib.hid ⟨c', hO, HRes3, HB3.out, HJ2.out.lo, by rw [HGo.out, HT.out.1], HStep.out c' rfl, by have := HSh.out; have := HT.out.2; omega, fun h => absurd h (by omega)⟩
          have hlen : i + 1 + B.size ≤ s.size := by have := HSh.out; have := HT.out.2; omega
          have hlt : B.size < t'.size := by have := HSh.out; have := HT.out.2; omega
          clear HJ2 HStep HGo hO HRes3 HB3
          go_wp2_with fail
          go_roundw
          case rel => exact ⟨B, i + 1, rfl, by go_num, hlen, HN⟩
          case measure => exact hlt
end Go.Proofs.YtfihehobkbfmiaaGreatDoor.PCfgG

/- Layer 14 of the program: Parse. -/
namespace Go.Proofs.YtfihehobkbfmiaaGreatDoor.PCfgH
open Go.ChangeShapes Go.WideShapes Go.ChangeAt Go.RowKit Bytes LexPure LexNum PathPure CutAt ConfPure ConfBack ConfProg ConfMem Ret Mem RowKeep ConfOwn ConfCF PCfgLib PCfgT PCfgN PCfgG
set_option maxRecDepth 100000
set_option linter.unusedVariables false
set_option linter.unusedSimpArgs false
/-- the block of its results, and what its own look like below another -/
structure Ps (w : World) (W : World) : Prop where
  res : Has W w.heap.size CT zCs
  mi : MaxInt W
  pw : PCfgLib.Pow W
  below : Below w.heap.size w W
theorem Ps.call {w W W' : World} (x : Ps w W) (hb : Below W.heap.size W W') : Ps w W' :=
  ⟨x.res.below hb x.res.lt, PUnder.MaxInt.below x.mi hb, x.pw.below hb, ⟨hb.os.trans x.below.os, hb.tape.trans x.below.tape, hb.output.trans x.below.output, Nat.le_trans x.below.size hb.size, fun i hi => (hb.block i (Nat.lt_trans hi x.res.lt)).trans (x.below.block i hi)⟩⟩
theorem Ps.alloc {w W : World} (x : Ps w W) (o : Obj) : Ps w (W.alloc o) := x.call ((Below.refl _ _).alloc (Nat.le_refl _) o)
theorem Ps.start {w : World} (hm : MaxInt w) (hp : PCfgLib.Pow w) : Ps w (w.alloc (.cells zCs CT)) :=
  have ha := (Below.refl w.heap.size w).alloc (Nat.le_refl _) (.cells zCs CT)
  ⟨Has.new w _ _, PUnder.MaxInt.below hm ha, hp.below ha, ha⟩
/-- the result's block is stored -/
theorem OCs.setRow {w : World} {g : Nat} {c : Conf} {vf vc vv : Value} {CL : List (Clus × Value)} {VL : List (Vhos × Value)} (O : OCs w g c vf vc vv CL VL) {r : Nat} (hr : r < g) {cs old : Array Value} (hH : Has w r CT old) : OCs (w.setRow r cs) g c vf vc vv CL VL := by
  have hg : w.grownBy (w.setRow r cs) (some r) := ⟨rfl, rfl, rfl, by simp, fun k _ hk => setRow_other w r k _ (fun e => hk (by rw [e]))⟩
  have key : ∀ {base n size : Nat} {e : TypeId} {v : Value} {xs : List Value}, w.ownsRow base e size v n xs → CT ≠ e → (w.setRow r cs).ownsRow base e size v n xs := fun hrw he => hrw.kept hg (.inr (row_far hrw hH he))
  exact ⟨O.box.grown hg (by intro e; injection e with e; omega), key O.rf (by decide), O.ec, key O.rc (by decide), fun p hp => key (O.hc p hp) (by decide), O.ac, O.ev, key O.rv (by decide), fun p hp => key (O.hv p hp) (by decide), O.av⟩
def ParsePost (w : World) (s : ByteArray) (e : Ending) (w' : World) : Prop := Below w.heap.size w w' ∧ ∃ g vf vc vv CL VL, e = .returned (.tuple #[.agg (confV (parse14 (toL s)).1 vf vc vv), .int .i64 (parse14 (toL s)).2.1, .int .i64 (parse14 (toL s)).2.2]) ∧ OCs w' g (parse14 (toL s)).1 vf vc vv CL VL ∧ w.heap.size ≤ g
theorem Ps.zero {w W : World} (x : Ps w W) {s : ByteArray} {n k : Int} (h : parse14 (toL s) = (zeroC, n, k)) : ParsePost w s (.returned (.tuple #[.agg #[.int .i64 0, .int .i64 0, .int .i64 0, .int .i64 0, .int .i64 0, .int .i64 0, .slice none 0 0, .slice none 0 0, .slice none 0 0], .int .i64 n, .int .i64 k])) (W.setRow w.heap.size #[.int .i64 0, .int .i64 0, .int .i64 0, .int .i64 0, .int .i64 0, .int .i64 0, .slice none 0 0, .slice none 0 0, .slice none 0 0]) := by
  refine ⟨below_of_grown x.below (Nat.le_of_lt x.res.lt) _ (Nat.le_refl _), w.heap.size, .slice none 0 0, .slice none 0 0, .slice none 0 0, [], [], ?_, ?_, Nat.le_refl _⟩
  · rw [h]; rfl
  · rw [h]
    exact OCs.zero ⟨setRow_heap W w.heap.size _ _ CT _ x.res.at_⟩
theorem parse_bad {t : L} {i : Nat} (h : goP 0 zeroC (cutB 10 t) = .inl i) : parse14 t = (zeroC, (i : Int), 140) := by unfold parse14; rw [h]
theorem parse_not {t : L} {c : Conf} (h : goP 0 zeroC (cutB 10 t) = .inr c) (hk : check14 c ≠ 0) : parse14 t = (zeroC, 0, check14 c) := by unfold parse14; rw [h]; exact if_pos hk
theorem parse_ok {t : L} {c : Conf} (h : goP 0 zeroC (cutB 10 t) = .inr c) (hk : check14 c = 0) : parse14 t = (c, 0, 0) := by unfold parse14; rw [h]; exact if_neg (fun e => e hk)
set_option maxHeartbeats 6400000 in
theorem pparse_any (s : ByteArray) (hs : s.size ≤ 274877906944) (hfit : ∀ c, goP 0 zeroC (cutB 10 (toL s)) = .inr c → FitConf c) (w : World) (hm : MaxInt w) (hp : PCfgLib.Pow w) :
    Calls Tryz.prog 13 #[.string s] w (ParsePost w s) := by
  have P0 := Ps.start hm hp
  have HP := Lib.hid P0
  have HRd := Lib.hid (fun w => pread_any s hs w)
  have HF := Lib.hid hfit
  unfold zCs CT at HP
  clear hs hfit hm hp P0
  go_enter Tryz.func13, Tryz.ntmps13
  go_wp2_with fail
  refine (HRd.out _).mono ?_
  rintro e w2 ⟨hb, hmm⟩
  have HP2 := Lib.hid (HP.out.call hb)
  clear HP HRd hb
  cases hg : goP 0 zeroC (cutB 10 (toL s)) with
  | inl i =>
    rw [hg] at hmm
    obtain ⟨x0, x1, x2, x3, x4, x5, pf, nf, cf, pc, nc, cc, pv, nv, cv, rfl⟩ := hmm
    have HE := Lib.hid (parse_bad hg)
    have HRes := HP2.out.res
    have HRb := (HP2.out.alloc (.cells #[.int .i64 x0, .int .i64 x1, .int .i64 x2, .int .i64 x3, .int .i64 x4, .int .i64 x5, .slice pf nf cf, .slice pc nc cc, .slice pv nv cv] CT))
    have HRx := Lib.hid HRb
    have HRes2 := HRb.res
    unfold zCs CT at HRes HRes2 HRx
    clear HF hg HP2 HRes HRb
    go_wp2_with (refine store_whole rfl 26 9 conf_size _ _ rfl w.heap.size _ _ HRes2 rfl rfl (by simp [Value.oneCell']) rfl rfl ?_)
    have hset : Has (World.setRow _ w.heap.size #[.int .i64 0, .int .i64 0, .int .i64 0, .int .i64 0, .int .i64 0, .int .i64 0, .slice none 0 0, .slice none 0 0, .slice none 0 0]) w.heap.size 26 _ := ⟨setRow_heap _ w.heap.size _ _ 26 _ HRes2.at_⟩
    exact bodyPost_ret (end_conf (p := 2) (t := 3) (u := 4) rfl _ _ w.heap.size _ (.int .i64 (i : Int)) (.int .i64 140) rfl hset rfl rfl rfl) rfl (HRx.out.zero HE.out)
  | inr c =>
    rw [hg] at hmm
    obtain ⟨g, vf, vc, vv, CL, VL, rfl, O, hlg⟩ := hmm
    have hx := HF.out c hg
    have HG := Lib.hid hg
    obtain ⟨⟨pf, cf, rfl⟩, ⟨pc, cc, rfl⟩, ⟨pv, cv, rfl⟩⟩ := R14Bnd.CF.vals (ConfCF.OCs.cf O)
    obtain ⟨nf, hnf⟩ : ∃ n, n = c.filters.length := ⟨_, rfl⟩
    obtain ⟨nc, hnc⟩ : ∃ n, n = c.clusters.length := ⟨_, rfl⟩
    obtain ⟨nv, hnv⟩ : ∃ n, n = c.vhosts.length := ⟨_, rfl⟩
    rw [← hnf, ← hnc, ← hnv] at O ⊢
    have O3 := O.alloc (.cells (confV c (.slice pf nf cf) (.slice pc nc cc) (.slice pv nv cv)) CT)
    have P3 := HP2.out.alloc (.cells (confV c (.slice pf nf cf) (.slice pc nc cc) (.slice pv nv cv)) CT)
    have b3 := Has.new w2 CT (confV c (.slice pf nf cf) (.slice pc nc cc) (.slice pv nv cv))
    have HCk := Lib.hid (PCfgK.pcheck_any c _ _ _ hx _ P3.mi P3.pw (ConfCF.OCs.cf O3))
    have HO := Lib.hid O3
    have HP3 := Lib.hid P3
    have HB := Lib.hid b3
    have HLg := Lib.hid (show w.heap.size < g by simp at hlg; omega)
    clear O O3 P3 hx hg HF HP2 hlg b3 hnf hnc hnv
    unfold confV at HCk HO HP3 HB ⊢
    unfold CT at HCk HO HP3 HB
    obtain ⟨k, hk⟩ : ∃ k, Hid (k = check14 c) := ⟨_, Lib.hid rfl⟩
    rw [← hk.out] at HCk
    go_wp2_with fail
    refine HCk.out.mono ?_
    rintro e w4 ⟨rfl, hb4⟩
    have HO4 := Lib.hid (HO.out.below hb4)
    have HP4 := Lib.hid (HP3.out.call hb4)
    have B4 := HB.out.below hb4 HB.out.lt
    clear HO HP3 HCk hb4
    have c0 : w4.cell? ⟨w2.heap.size, 0, none⟩ = some (.int .i64 c.conns) := B4.cell 0
    have c1 : w4.cell? ⟨w2.heap.size, 1, none⟩ = some (.int .i64 c.body) := B4.cell 1
    have c2 : w4.cell? ⟨w2.heap.size, 2, none⟩ = some (.int .i64 c.idle) := B4.cell 2
    have c3 : w4.cell? ⟨w2.heap.size, 3, none⟩ = some (.int .i64 c.grace) := B4.cell 3
    have c4 : w4.cell? ⟨w2.heap.size, 4, none⟩ = some (.int .i64 c.budget) := B4.cell 4
    have c5 : w4.cell? ⟨w2.heap.size, 5, none⟩ = some (.int .i64 c.seed) := B4.cell 5
    have c6 : w4.cell? ⟨w2.heap.size, 6, none⟩ = some (.slice pf nf cf) := B4.cell 6
    have c7 : w4.cell? ⟨w2.heap.size, 7, none⟩ = some (.slice pc nc cc) := B4.cell 7
    have c8 : w4.cell? ⟨w2.heap.size, 8, none⟩ = some (.slice pv nv cv) := B4.cell 8
    have HRes := HP4.out.res
    have HRes2 := Lib.hid HRes
    unfold zCs CT at HRes
    by_cases h0 : k = 0
    · have HE := Lib.hid (parse_ok HG.out (hk.out.symm.trans h0))
      have q1 : (k != 0) = false := by rw [h0]; rfl
      clear hk HG
      subst h0
      have hlg := Nat.le_of_lt HLg.out
      have HLg2 := Lib.hid (fun cs => OCs.setRow HO4.out HLg.out (cs := cs) HRes2.out)
      have HBw := Lib.hid (fun cs => below_of_grown HP4.out.below (Nat.le_of_lt HRes2.out.lt) cs (Nat.le_refl _))
      clear HO4 HLg HP4
      go_wp2_with (refine store_whole rfl 26 9 conf_size _ _ rfl w.heap.size _ _ HRes rfl rfl (by simp [Value.oneCell']) rfl rfl ?_)
      have hset : Has (World.setRow w4 w.heap.size #[.int .i64 c.conns, .int .i64 c.body, .int .i64 c.idle, .int .i64 c.grace, .int .i64 c.budget, .int .i64 c.seed, .slice pf nf cf, .slice pc nc cc, .slice pv nv cv]) w.heap.size 26 _ := ⟨setRow_heap _ w.heap.size _ _ 26 _ HRes.at_⟩
      have HPost : ParsePost w s (.returned (.tuple #[.agg #[.int .i64 c.conns, .int .i64 c.body, .int .i64 c.idle, .int .i64 c.grace, .int .i64 c.budget, .int .i64 c.seed, .slice pf nf cf, .slice pc nc cc, .slice pv nv cv], .int .i64 0, .int .i64 0])) (w4.setRow w.heap.size #[.int .i64 c.conns, .int .i64 c.body, .int .i64 c.idle, .int .i64 c.grace, .int .i64 c.budget, .int .i64 c.seed, .slice pf nf cf, .slice pc nc cc, .slice pv nv cv]) := by
        refine ⟨HBw.out _, ?_⟩
        rw [HE.out]
        exact ⟨g, _, _, _, CL, VL, rfl, HLg2.out _, hlg⟩
      exact bodyPost_ret (end_conf (p := 2) (t := 3) (u := 4) rfl _ _ w.heap.size _ (.int .i64 0) (.int .i64 0) rfl hset rfl rfl rfl) rfl HPost
    · have HE := Lib.hid (parse_not HG.out (by rw [← hk.out]; exact h0))
      have q1 : (k != 0) = true := bne_iff_ne.2 h0
      rw [← hk.out] at HE
      clear hk HG HO4 HLg
      go_wp2_with (refine store_whole rfl 26 9 conf_size _ _ rfl w.heap.size _ _ HRes rfl rfl (by simp [Value.oneCell']) rfl rfl ?_)
      have hset : Has (World.setRow w4 w.heap.size #[.int .i64 0, .int .i64 0, .int .i64 0, .int .i64 0, .int .i64 0, .int .i64 0, .slice none 0 0, .slice none 0 0, .slice none 0 0]) w.heap.size 26 _ := ⟨setRow_heap _ w.heap.size _ _ 26 _ HRes.at_⟩
      exact bodyPost_ret (end_conf (p := 2) (t := 3) (u := 4) rfl _ _ w.heap.size _ (.int .i64 0) (.int .i64 k) rfl hset rfl rfl rfl) rfl (HP4.out.zero HE.out)
end Go.Proofs.YtfihehobkbfmiaaGreatDoor.PCfgH

/- Layer 14, the document's own hex, Word. -/
namespace Go.Proofs.YtfihehobkbfmiaaGreatDoor.R14Word
open Go.ChangeShapes Go.WideShapes Go.ChangeAt Go.RowKit LexPure Bytes Ret Rows1 PathPure ConfPure Mem
set_option maxRecDepth 100000
set_option linter.unusedSimpArgs false
set_option linter.unusedVariables false
theorem hx_int {n : Nat} (h : n < 16) : ((hx n).toNat : Int) = if n < 10 then 48 + (n : Int) else 55 + (n : Int) := by
  have : ∀ n, n < 16 → ((hx n).toNat : Int) = if n < 10 then 48 + (n : Int) else 55 + (n : Int) := by decide
  exact this n h
theorem rhexU_any (n : Nat) (hn : n < 16) (w : World) :
    Calls Tryz.prog 112 #[.int .i64 (n : Nat)] w fun e w' => e = .returned (.int .u8 ((hx n).toNat : Nat)) ∧ w = w' := by
  have hh := hx_int hn
  by_cases h : n < 10
  · have hi : (n : Int) < 10 := by omega
    rw [if_pos h] at hh
    rw [hh]
    clear hh h
    go_enter Tryz.func112, Tryz.ntmps112
    go_wp2_with fail
    go_ret
    refine ⟨?_, rfl⟩
    first | rfl | (congr 3; omega) | (congr 2; simp; omega)
  · have hi : ¬ (n : Int) < 10 := by omega
    rw [if_neg h] at hh
    rw [hh]
    clear hh h
    go_enter Tryz.func112, Tryz.ntmps112
    go_wp2_with fail
    go_ret
    refine ⟨?_, rfl⟩
    first | rfl | (congr 3; omega) | (congr 2; simp; omega)
theorem ne37 (c : UInt8) : c ≠ 37 ↔ ((c.toNat : Int) != 37) = true := by
  have := all_bytes (p := fun c => decide (c ≠ 37) == ((c.toNat : Int) != 37)) (by decide +kernel) c
  simp only [beq_iff_eq] at this
  rw [← this, decide_eq_true_eq]
def wordsL (l : L) : L := l.flatMap wordC
theorem words_snoc (s : ByteArray) (k : Nat) (h : k < s.size) : wordsL ((toL s).take (k + 1)) = wordsL ((toL s).take k) ++ wordC s[k] := by
  rw [toL_take_succ s k h]
  unfold wordsL
  rw [List.flatMap_append]
  simp
theorem words_len (l : L) : (wordsL l).length ≤ 3 * l.length := by
  unfold wordsL
  induction l with
  | nil => simp
  | cons c l ih =>
    rw [List.flatMap_cons, List.length_append, List.length_cons]
    have : (wordC c).length ≤ 3 := by unfold wordC; split <;> simp
    omega
/-- what is gathered so far -/
def WInv (w : World) (X : L) (v : Value) (wr : World) : Prop := wr.ownsRow w.heap.size 5 1 v X.length (bvs X) ∧ Below w.heap.size w wr
set_option maxHeartbeats 3200000 in
theorem rword_loop (s : ByteArray) (hs : s.size ≤ 1048576) (h0 : (toL s == []) = false) (h1 : (toL s == [45]) = false) (w : World) :
    Calls Tryz.prog 74 #[.string s] w fun e w' => e = .returned (.string (ofL (wordsL (toL s)))) ∧ Below w.heap.size w w' := by
  obtain ⟨i0, hi, hz0, hz1, hz2⟩ := info_parts RLower.infoB
  have y1 : (s.toList == []) = false := by rw [ByteArray.toList_eq]; exact h0
  have y2 : (s.toList == [45]) = false := by rw [ByteArray.toList_eq]; exact h1
  have y3 : ¬ (s.toList = []) := by simpa using y1
  have y4 : s.toList.isEmpty = false := by cases hq : s.toList with | nil => exact absurd hq y3 | cons => rfl
  clear h0 h1
  go_enter Tryz.func74, Tryz.ntmps74
  go_wp2_with fail
  clear y1 y2 y3 y4
  go_loopw [3, 4] (fun v i wr => ∃ k : Nat, k ≤ s.size ∧ i = .int .i64 k ∧ Hid (WInv w (wordsL ((toL s).take k)) v wr)) (fun _ i _ => s.size - (intOf i).toNat)
  case atStart => exact ⟨0, Nat.zero_le _, rfl, Lib.hid ⟨World.ownsRow_nil _ _ _ _, Below.refl _ _⟩⟩
  case round =>
    obtain ⟨k, hk, rfl, HI⟩ := hrel
    by_cases hlt : k < s.size
    · have hki : (k : Int) < (s.size : Int) := by omega
      have HT := Lib.hid (words_snoc s k hlt)
      have hlX : (wordsL ((toL s).take k)).length ≤ 3145728 := by
        have := words_len ((toL s).take k)
        rw [List.length_take] at this
        omega
      obtain ⟨X, hX⟩ : ∃ X, X = wordsL ((toL s).take k) := ⟨_, rfl⟩
      rw [← hX] at HI HT hlX
      have HX := Lib.hid hX
      clear hX
      have HI0 := HI
      have HLen0 := Lib.hid hlX
      clear HI hlX
      by_cases hp : 32 < s[k].toNat ∧ s[k].toNat < 127 ∧ s[k] ≠ 37
      · have f1 : decide ((32 : Int) < (s[k].toNat : Int)) = true := decide_eq_true (by omega)
        have f2 : decide ((s[k].toNat : Int) < 127) = true := decide_eq_true (by omega)
        have f3 := (ne37 s[k]).1 hp.2.2
        have HW : Hid (wordC s[k] = [s[k]]) := Lib.hid (by unfold wordC; rw [if_pos hp])
        have HV : Hid (bv s[k] = .int .u8 (s[k].toNat : Int)) := Lib.hid rfl
        clear hp
        go_wp2_with (at_builtin; refine wpList_append_own _ rfl _ _ 61 rfl w.heap.size 5 i0 (.int .u8 0) 1 1 Tryz.underlying61 hi hz0 hz1 hz2 rfl (by decide) _ _ _ rfl (HI0.out.1.alloc _) ⟨wr.heap.size, 0, none⟩ 1 1 [.int .u8 (s[k].toNat : Int)] rfl rfl (cell_one_new _ _ _) (fun x hx => by simp at hx; subst hx; rfl) (by unfold maxLen; have := HLen0.out; omega) (by have := HLen0.out; omega) (by have := HI0.out.2.size; simp; omega) ?_; intro v1 w1 hown' hgrow3 hnil3)
        have HI1 : Hid (WInv w (X ++ [s[k]]) v1 w1) := Lib.hid ⟨by rw [bvs_append, List.length_append, List.length_singleton]; have h := hown'; rw [← HV.out] at h; exact h, Below.grown (HI0.out.2.alloc HI0.out.2.size _) hgrow3 (by have := HI0.out.2.size; simp; omega) (fun j hj => (HI0.out.1.lt _ hj).1)⟩
        have HLen1 : Hid ((X ++ [s[k]]).length ≤ 3145728 + 1) := Lib.hid (by rw [List.length_append, List.length_singleton]; have := HLen0.out; omega)
        clear hown' hgrow3 hnil3
        go_wp2_with fail
        go_roundw
        case rel => exact ⟨k + 1, by omega, by go_num, Lib.hid (by rw [HT.out, HW.out]; exact HI1.out)⟩
        case measure => simp [intOf]; omega
      · have HW : Hid (wordC s[k] = [37, hx (s[k].toNat / 16), hx (s[k].toNat % 16)]) := Lib.hid (by unfold wordC; rw [if_neg hp])
        have hlt256 : s[k].toNat < 256 := s[k].toNat_lt
        have HH1 := Lib.hid (fun w => rhexU_any (s[k].toNat / 16) (by omega) w)
        have HH2 := Lib.hid (fun w => rhexU_any (s[k].toNat % 16) (by omega) w)
        have HV : Hid (bv 37 = .int .u8 (37 : Int)) := Lib.hid rfl
        have HV1 : Hid (bv (hx (s[k].toNat / 16)) = .int .u8 ((hx (s[k].toNat / 16)).toNat : Int)) := Lib.hid rfl
        have HV2 : Hid (bv (hx (s[k].toNat % 16)) = .int .u8 ((hx (s[k].toNat % 16)).toNat : Int)) := Lib.hid rfl
        have Q1 : Hid (wrap64 ((wrap64 (s[k].toNat : Int)).tdiv 16) = ((s[k].toNat / 16 : Nat) : Int)) := Lib.hid (by
          rw [IntWalk.wrap64_in (s[k].toNat : Int) (by omega), Int.tdiv_eq_ediv_of_nonneg (by omega), IntWalk.wrap64_in _ (by omega)]
          omega)
        have Q2 : Hid ((wrap64 (s[k].toNat : Int)).tmod 16 = ((s[k].toNat % 16 : Nat) : Int)) := Lib.hid (by
          rw [IntWalk.wrap64_in (s[k].toNat : Int) (by omega), Int.tmod_eq_emod_of_nonneg (by omega)]
          omega)
        by_cases g1 : 32 < s[k].toNat
        · have f1 : decide ((32 : Int) < (s[k].toNat : Int)) = true := decide_eq_true (by omega)
          by_cases g2 : s[k].toNat < 127
          · have f2 : decide ((s[k].toNat : Int) < 127) = true := decide_eq_true (by omega)
            have f3 : ((s[k].toNat : Int) != 37) = false := by
              have h37 : s[k] = 37 := Decidable.not_not.1 (fun h => hp ⟨g1, g2, h⟩)
              have := (ne37 s[k]).2
              cases hb : ((s[k].toNat : Int) != 37) with
              | false => rfl
              | true => exact absurd h37 (this hb)
            clear hp g1 g2 hlt256
            go_wp2_with (at_builtin; refine wpList_append_own _ rfl _ _ 61 rfl w.heap.size 5 i0 (.int .u8 0) 1 1 Tryz.underlying61 hi hz0 hz1 hz2 rfl (by decide) _ _ _ rfl (HI0.out.1.alloc _) ⟨wr.heap.size, 0, none⟩ 1 1 [.int .u8 37] rfl rfl (cell_one_new _ _ _) (fun x hx => by simp at hx; subst hx; rfl) (by unfold maxLen; have := HLen0.out; omega) (by have := HLen0.out; omega) (by have := HI0.out.2.size; simp; omega) ?_; intro v1 w1 hown' hgrow3 hnil3)
            have HI1 : Hid (WInv w (X ++ [37]) v1 w1) := Lib.hid ⟨by rw [bvs_append, List.length_append, List.length_singleton]; have h := hown'; rw [← HV.out] at h; exact h, Below.grown (HI0.out.2.alloc HI0.out.2.size _) hgrow3 (by have := HI0.out.2.size; simp; omega) (fun j hj => (HI0.out.1.lt _ hj).1)⟩
            have HLen1 : Hid ((X ++ [37]).length ≤ 3145728 + 1) := Lib.hid (by rw [List.length_append, List.length_singleton]; have := HLen0.out; omega)
            clear hown' hgrow3 hnil3
            go_wp2_with fail
            rw [Q1.out]
            refine (HH1.out _).mono ?_
            rintro e w8 ⟨rfl, rfl⟩
            clear HH1
            go_wp2_with (at_builtin; refine wpList_append_own _ rfl _ _ 61 rfl w.heap.size 5 i0 (.int .u8 0) 1 1 Tryz.underlying61 hi hz0 hz1 hz2 rfl (by decide) _ _ _ rfl (HI1.out.1.alloc _) ⟨w1.heap.size, 0, none⟩ 1 1 [.int .u8 ((hx (s[k].toNat / 16)).toNat : Int)] rfl rfl (cell_one_new _ _ _) (fun x hx => by simp at hx; subst hx; rfl) (by unfold maxLen; have := HLen1.out; omega) (by have := HLen1.out; omega) (by have := HI1.out.2.size; simp; omega) ?_; intro v2 w2 hown' hgrow3 hnil3)
            have HI2 : Hid (WInv w ((X ++ [37]) ++ [hx (s[k].toNat / 16)]) v2 w2) := Lib.hid ⟨by rw [bvs_append, List.length_append, List.length_singleton]; have h := hown'; rw [← HV1.out] at h; exact h, Below.grown (HI1.out.2.alloc HI1.out.2.size _) hgrow3 (by have := HI1.out.2.size; simp; omega) (fun j hj => (HI1.out.1.lt _ hj).1)⟩
            have HLen2 : Hid (((X ++ [37]) ++ [hx (s[k].toNat / 16)]).length ≤ 3145728 + 2) := Lib.hid (by rw [List.length_append, List.length_singleton]; have := HLen1.out; omega)
            clear hown' hgrow3 hnil3
            go_wp2_with fail
            rw [Q2.out]
            refine (HH2.out _).mono ?_
            rintro e w8 ⟨rfl, rfl⟩
            clear HH2
            go_wp2_with (at_builtin; refine wpList_append_own _ rfl _ _ 61 rfl w.heap.size 5 i0 (.int .u8 0) 1 1 Tryz.underlying61 hi hz0 hz1 hz2 rfl (by decide) _ _ _ rfl (HI2.out.1.alloc _) ⟨w2.heap.size, 0, none⟩ 1 1 [.int .u8 ((hx (s[k].toNat % 16)).toNat : Int)] rfl rfl (cell_one_new _ _ _) (fun x hx => by simp at hx; subst hx; rfl) (by unfold maxLen; have := HLen2.out; omega) (by have := HLen2.out; omega) (by have := HI2.out.2.size; simp; omega) ?_; intro v3 w3 hown' hgrow3 hnil3)
            have HI3 : Hid (WInv w ((X ++ [37] ++ [hx (s[k].toNat / 16)]) ++ [hx (s[k].toNat % 16)]) v3 w3) := Lib.hid ⟨by rw [bvs_append, List.length_append, List.length_singleton]; have h := hown'; rw [← HV2.out] at h; exact h, Below.grown (HI2.out.2.alloc HI2.out.2.size _) hgrow3 (by have := HI2.out.2.size; simp; omega) (fun j hj => (HI2.out.1.lt _ hj).1)⟩
            have HLen3 : Hid (((X ++ [37] ++ [hx (s[k].toNat / 16)]) ++ [hx (s[k].toNat % 16)]).length ≤ 3145728 + 3) := Lib.hid (by rw [List.length_append, List.length_singleton]; have := HLen2.out; omega)
            clear hown' hgrow3 hnil3
            go_wp2_with fail
            go_roundw
            case rel => exact ⟨k + 1, by omega, by go_num, Lib.hid (by rw [HT.out, HW.out]; have := HI3.out; simpa using this)⟩
            case measure => simp [intOf]; omega
          · have f2 : decide ((s[k].toNat : Int) < 127) = false := decide_eq_false (by omega)
            clear hp g1 g2 hlt256
            go_wp2_with (at_builtin; refine wpList_append_own _ rfl _ _ 61 rfl w.heap.size 5 i0 (.int .u8 0) 1 1 Tryz.underlying61 hi hz0 hz1 hz2 rfl (by decide) _ _ _ rfl (HI0.out.1.alloc _) ⟨wr.heap.size, 0, none⟩ 1 1 [.int .u8 37] rfl rfl (cell_one_new _ _ _) (fun x hx => by simp at hx; subst hx; rfl) (by unfold maxLen; have := HLen0.out; omega) (by have := HLen0.out; omega) (by have := HI0.out.2.size; simp; omega) ?_; intro v1 w1 hown' hgrow3 hnil3)
            have HI1 : Hid (WInv w (X ++ [37]) v1 w1) := Lib.hid ⟨by rw [bvs_append, List.length_append, List.length_singleton]; have h := hown'; rw [← HV.out] at h; exact h, Below.grown (HI0.out.2.alloc HI0.out.2.size _) hgrow3 (by have := HI0.out.2.size; simp; omega) (fun j hj => (HI0.out.1.lt _ hj).1)⟩
            have HLen1 : Hid ((X ++ [37]).length ≤ 3145728 + 1) := Lib.hid (by rw [List.length_append, List.length_singleton]; have := HLen0.out; omega)
            clear hown' hgrow3 hnil3
            go_wp2_with fail
            rw [Q1.out]
            refine (HH1.out _).mono ?_
            rintro e w8 ⟨rfl, rfl⟩
            clear HH1
            go_wp2_with (at_builtin; refine wpList_append_own _ rfl _ _ 61 rfl w.heap.size 5 i0 (.int .u8 0) 1 1 Tryz.underlying61 hi hz0 hz1 hz2 rfl (by decide) _ _ _ rfl (HI1.out.1.alloc _) ⟨w1.heap.size, 0, none⟩ 1 1 [.int .u8 ((hx (s[k].toNat / 16)).toNat : Int)] rfl rfl (cell_one_new _ _ _) (fun x hx => by simp at hx; subst hx; rfl) (by unfold maxLen; have := HLen1.out; omega) (by have := HLen1.out; omega) (by have := HI1.out.2.size; simp; omega) ?_; intro v2 w2 hown' hgrow3 hnil3)
            have HI2 : Hid (WInv w ((X ++ [37]) ++ [hx (s[k].toNat / 16)]) v2 w2) := Lib.hid ⟨by rw [bvs_append, List.length_append, List.length_singleton]; have h := hown'; rw [← HV1.out] at h; exact h, Below.grown (HI1.out.2.alloc HI1.out.2.size _) hgrow3 (by have := HI1.out.2.size; simp; omega) (fun j hj => (HI1.out.1.lt _ hj).1)⟩
            have HLen2 : Hid (((X ++ [37]) ++ [hx (s[k].toNat / 16)]).length ≤ 3145728 + 2) := Lib.hid (by rw [List.length_append, List.length_singleton]; have := HLen1.out; omega)
            clear hown' hgrow3 hnil3
            go_wp2_with fail
            rw [Q2.out]
            refine (HH2.out _).mono ?_
            rintro e w8 ⟨rfl, rfl⟩
            clear HH2
            go_wp2_with (at_builtin; refine wpList_append_own _ rfl _ _ 61 rfl w.heap.size 5 i0 (.int .u8 0) 1 1 Tryz.underlying61 hi hz0 hz1 hz2 rfl (by decide) _ _ _ rfl (HI2.out.1.alloc _) ⟨w2.heap.size, 0, none⟩ 1 1 [.int .u8 ((hx (s[k].toNat % 16)).toNat : Int)] rfl rfl (cell_one_new _ _ _) (fun x hx => by simp at hx; subst hx; rfl) (by unfold maxLen; have := HLen2.out; omega) (by have := HLen2.out; omega) (by have := HI2.out.2.size; simp; omega) ?_; intro v3 w3 hown' hgrow3 hnil3)
            have HI3 : Hid (WInv w ((X ++ [37] ++ [hx (s[k].toNat / 16)]) ++ [hx (s[k].toNat % 16)]) v3 w3) := Lib.hid ⟨by rw [bvs_append, List.length_append, List.length_singleton]; have h := hown'; rw [← HV2.out] at h; exact h, Below.grown (HI2.out.2.alloc HI2.out.2.size _) hgrow3 (by have := HI2.out.2.size; simp; omega) (fun j hj => (HI2.out.1.lt _ hj).1)⟩
            have HLen3 : Hid (((X ++ [37] ++ [hx (s[k].toNat / 16)]) ++ [hx (s[k].toNat % 16)]).length ≤ 3145728 + 3) := Lib.hid (by rw [List.length_append, List.length_singleton]; have := HLen2.out; omega)
            clear hown' hgrow3 hnil3
            go_wp2_with fail
            go_roundw
            case rel => exact ⟨k + 1, by omega, by go_num, Lib.hid (by rw [HT.out, HW.out]; have := HI3.out; simpa using this)⟩
            case measure => simp [intOf]; omega
        · have f1 : decide ((32 : Int) < (s[k].toNat : Int)) = false := decide_eq_false (by omega)
          clear hp g1 hlt256
          go_wp2_with (at_builtin; refine wpList_append_own _ rfl _ _ 61 rfl w.heap.size 5 i0 (.int .u8 0) 1 1 Tryz.underlying61 hi hz0 hz1 hz2 rfl (by decide) _ _ _ rfl (HI0.out.1.alloc _) ⟨wr.heap.size, 0, none⟩ 1 1 [.int .u8 37] rfl rfl (cell_one_new _ _ _) (fun x hx => by simp at hx; subst hx; rfl) (by unfold maxLen; have := HLen0.out; omega) (by have := HLen0.out; omega) (by have := HI0.out.2.size; simp; omega) ?_; intro v1 w1 hown' hgrow3 hnil3)
          have HI1 : Hid (WInv w (X ++ [37]) v1 w1) := Lib.hid ⟨by rw [bvs_append, List.length_append, List.length_singleton]; have h := hown'; rw [← HV.out] at h; exact h, Below.grown (HI0.out.2.alloc HI0.out.2.size _) hgrow3 (by have := HI0.out.2.size; simp; omega) (fun j hj => (HI0.out.1.lt _ hj).1)⟩
          have HLen1 : Hid ((X ++ [37]).length ≤ 3145728 + 1) := Lib.hid (by rw [List.length_append, List.length_singleton]; have := HLen0.out; omega)
          clear hown' hgrow3 hnil3
          go_wp2_with fail
          rw [Q1.out]
          refine (HH1.out _).mono ?_
          rintro e w8 ⟨rfl, rfl⟩
          clear HH1
          go_wp2_with (at_builtin; refine wpList_append_own _ rfl _ _ 61 rfl w.heap.size 5 i0 (.int .u8 0) 1 1 Tryz.underlying61 hi hz0 hz1 hz2 rfl (by decide) _ _ _ rfl (HI1.out.1.alloc _) ⟨w1.heap.size, 0, none⟩ 1 1 [.int .u8 ((hx (s[k].toNat / 16)).toNat : Int)] rfl rfl (cell_one_new _ _ _) (fun x hx => by simp at hx; subst hx; rfl) (by unfold maxLen; have := HLen1.out; omega) (by have := HLen1.out; omega) (by have := HI1.out.2.size; simp; omega) ?_; intro v2 w2 hown' hgrow3 hnil3)
          have HI2 : Hid (WInv w ((X ++ [37]) ++ [hx (s[k].toNat / 16)]) v2 w2) := Lib.hid ⟨by rw [bvs_append, List.length_append, List.length_singleton]; have h := hown'; rw [← HV1.out] at h; exact h, Below.grown (HI1.out.2.alloc HI1.out.2.size _) hgrow3 (by have := HI1.out.2.size; simp; omega) (fun j hj => (HI1.out.1.lt _ hj).1)⟩
          have HLen2 : Hid (((X ++ [37]) ++ [hx (s[k].toNat / 16)]).length ≤ 3145728 + 2) := Lib.hid (by rw [List.length_append, List.length_singleton]; have := HLen1.out; omega)
          clear hown' hgrow3 hnil3
          go_wp2_with fail
          rw [Q2.out]
          refine (HH2.out _).mono ?_
          rintro e w8 ⟨rfl, rfl⟩
          clear HH2
          go_wp2_with (at_builtin; refine wpList_append_own _ rfl _ _ 61 rfl w.heap.size 5 i0 (.int .u8 0) 1 1 Tryz.underlying61 hi hz0 hz1 hz2 rfl (by decide) _ _ _ rfl (HI2.out.1.alloc _) ⟨w2.heap.size, 0, none⟩ 1 1 [.int .u8 ((hx (s[k].toNat % 16)).toNat : Int)] rfl rfl (cell_one_new _ _ _) (fun x hx => by simp at hx; subst hx; rfl) (by unfold maxLen; have := HLen2.out; omega) (by have := HLen2.out; omega) (by have := HI2.out.2.size; simp; omega) ?_; intro v3 w3 hown' hgrow3 hnil3)
          have HI3 : Hid (WInv w ((X ++ [37] ++ [hx (s[k].toNat / 16)]) ++ [hx (s[k].toNat % 16)]) v3 w3) := Lib.hid ⟨by rw [bvs_append, List.length_append, List.length_singleton]; have h := hown'; rw [← HV2.out] at h; exact h, Below.grown (HI2.out.2.alloc HI2.out.2.size _) hgrow3 (by have := HI2.out.2.size; simp; omega) (fun j hj => (HI2.out.1.lt _ hj).1)⟩
          have HLen3 : Hid (((X ++ [37] ++ [hx (s[k].toNat / 16)]) ++ [hx (s[k].toNat % 16)]).length ≤ 3145728 + 3) := Lib.hid (by rw [List.length_append, List.length_singleton]; have := HLen2.out; omega)
          clear hown' hgrow3 hnil3
          go_wp2_with fail
          go_roundw
          case rel => exact ⟨k + 1, by omega, by go_num, Lib.hid (by rw [HT.out, HW.out]; have := HI3.out; simpa using this)⟩
          case measure => simp [intOf]; omega
    · have hki : ¬ (k : Int) < (s.size : Int) := by omega
      have HC := own_string (P := Tryz.prog) HI.out.1 61 9 Tryz.underlying61 Tryz.underlying5 Tryz.underlying9
      rw [toL_take_all s (by omega)] at HC
      have HB := Lib.hid HI.out.2
      clear HI
      go_wp2_with fail
      go_ret
      exact ⟨rfl, HB.out⟩
theorem rword_any (s : ByteArray) (hs : s.size ≤ 1048576) (w : World) :
    Calls Tryz.prog 74 #[.string s] w fun e w' => e = .returned (.string (ofL (word (toL s)))) ∧ Below w.heap.size w w' := by
  unfold word
  by_cases h0 : toL s = []
  · rw [if_pos h0]
    have y1 : (s.toList == []) = true := by rw [ByteArray.toList_eq]; show (toL s == []) = true; rw [h0]; rfl
    have y3 : s.toList = [] := by simpa using y1
    clear hs h0
    go_enter Tryz.func74, Tryz.ntmps74
    go_wp2_with fail
    go_ret
    exact ⟨rfl, Below.refl _ _⟩
  · rw [if_neg h0]
    by_cases h1 : toL s = [45]
    · rw [if_pos h1]
      have y1 : (s.toList == []) = false := by rw [ByteArray.toList_eq]; exact beq_false_of_ne h0
      have y2 : (s.toList == [45]) = true := by rw [ByteArray.toList_eq]; show (toL s == [45]) = true; rw [h1]; rfl
      have y3 : ¬ (s.toList = []) := by simpa using y1
      have y4 : s.toList.isEmpty = false := by cases hq : s.toList with | nil => exact absurd hq y3 | cons => rfl
      clear hs h0 h1
      go_enter Tryz.func74, Tryz.ntmps74
      go_wp2_with fail
      go_ret
      exact ⟨rfl, Below.refl _ _⟩
    · rw [if_neg h1]
      exact rword_loop s hs (beq_false_of_ne h0) (beq_false_of_ne h1) w
end Go.Proofs.YtfihehobkbfmiaaGreatDoor.R14Word

/- The document's layer 13: Digits. -/
namespace Go.Proofs.YtfihehobkbfmiaaGreatDoor.R13Dig
open Go.ChangeShapes Go.WideShapes Go.ChangeAt Go.RowKit Bytes LexPure Ret DecN Mem EmitPure
set_option maxRecDepth 20000
theorem conv_one (W : World) (g : Nat) (c : UInt8) (x : Int) (hx : x = (c.toNat : Int)) (h : W.cell? ⟨g, 0, none⟩ = some (.int .u8 x)) :
    (Go.convert 61 9 (.slice (some ⟨g, 0, none⟩) 1 1)).run Tryz.prog W = .ok (.string (ofL [c])) W :=
  run_convert_bytes_back _ 61 9 5 ⟨g, 0, none⟩ 1 [c] Tryz.underlying61 Tryz.underlying5 Tryz.underlying9 (fun j hj => by
    match j, hj with
    | 0, _ =>
      rw [show (⟨g, 0, none⟩ : Addr).add 0 = ⟨g, 0, none⟩ by unfold Addr.add; simp, h, hx]
      rfl)
theorem decB_int {n : Nat} (h : n < 10) : ((decB n).toNat : Int) = 48 + (n : Int) := by
  have : ∀ n : Fin 10, ((decB n.1).toNat : Int) = 48 + (n.1 : Int) := by decide
  exact this ⟨n, h⟩
theorem lt_cell {W : World} {g : Nat} {v : Value} (h : W.cell? ⟨g, 0, none⟩ = some v) : g < W.heap.size := World.block_lt_of_cell? _ _ h
set_option maxHeartbeats 1600000 in
theorem digits_pos (n : Nat) : ∀ (_hn : n ≤ 9223372036854775807) (w : World),
    Calls Tryz.prog 73 #[.int .i64 n] w fun e w' => e = .returned (.string (ofL (decN n))) ∧ Below w.heap.size w w' := by
  induction n using Nat.strongRecOn with
  | ind n ih =>
    intro hn w
    by_cases h : n < 10
    · have hi : (n : Int) < 10 := by omega
      have h0 : (0 : Int) ≤ (n : Int) := by omega
      have HC := conv_one (w.alloc (.cells #[.int .u8 (48 + (n : Int))] 5)) w.heap.size (decB n) (48 + n) (decB_int h).symm ((Has.new w _ _).cell 0)
      have HV : Hid (decN n = [decB n]) := Lib.hid (decN_small h)
      clear ih
      go_enter Tryz.func73, Tryz.ntmps73
      go_wp2_with fail
      go_ret
      exact ⟨by rw [HV.out]; rfl, (Below.refl _ _).alloc (Nat.le_refl _) _⟩
    · have hi : ¬ (n : Int) < 10 := by omega
      have qe : IntKind.i64.wrap ((n : Int) / 10) = ((n / 10 : Nat) : Int) := by rw [IntWalk.i64_in _ (by omega)]; omega
      have HI := fun w => ih (n / 10) (by omega) (by omega) w
      rw [← qe] at HI
      replace HI := Lib.hid HI
      have HV : Hid (ofL (decN n) = ofL (decN (n / 10)) ++ ofL [decB (n % 10)]) := Lib.hid (by
        apply toL_inj
        rw [toL_append, toL_ofL, toL_ofL, toL_ofL, decN_more h])
      have hl : (ofL (decN (n / 10))).size ≤ 20 := by
        rw [ofL_size]
        have := decN_len 18 (n / 10) (by omega)
        omega
      clear qe
      have hsz : (ofL (decN (n / 10))).size + (ofL [decB (n % 10)]).size ≤ 9223372036854775807 := by rw [ofL_size [decB (n % 10)], List.length_singleton]; omega
      have q3 : IntKind.u8.wrap (IntKind.i64.wrap (48 + (n : Int).tmod 10)) = ((decB (n % 10)).toNat : Int) := by
        rw [Int.tmod_eq_emod_of_nonneg (by omega), decB_int (by omega), IntWalk.i64_in _ (by omega), IntKind.wrap_u8]
        omega
      have HCa := fun (W : World) => conv_one (W.alloc (.cells #[.int .u8 (IntKind.u8.wrap (IntKind.i64.wrap (48 + (n : Int).tmod 10)))] 5)) W.heap.size (decB (n % 10)) _ q3 ((Has.new W _ _).cell 0)
      have HCc := fun (W : World) (g : Nat) => conv_one W g (decB (n % 10)) _ q3
      clear q3
      go_enter Tryz.func73, Tryz.ntmps73
      go_wp2_with fail
      go_region_with (go_at_call 73; refine (HI.out _).mono ?_; rintro e w1 ⟨rfl, hb1⟩; have hcb := fun h => HCc w1 w.heap.size ((hb1.cell (p := ⟨w.heap.size, 0, none⟩) (lt_cell h)).trans h))
      all_goals
        replace hb1 := Lib.hid hb1
        clear HCa HCc hcb HI ih hsz
        go_wp2_with fail
        go_ret
        refine ⟨by rw [HV.out]; rfl, ?_⟩
        first
          | exact (below_chain (Below.drew (Below.refl _ _)) hb1.out).alloc (Nat.le_trans (Nat.le_refl _) hb1.out.size) _
          | exact below_chain (Below.alloc (Below.drew (Below.refl _ _)) (Nat.le_refl _) _) hb1.out
set_option maxHeartbeats 1600000 in
theorem digits_neg (m : Nat) : ∀ (_h1 : 1 ≤ m) (_hn : m ≤ 9223372036854775808) (z : Int) (_hz : Hid (z = -(m : Int))) (w : World),
    Calls Tryz.prog 73 #[.int .i64 z] w fun e w' => e = .returned (.string (ofL (45 :: decN m))) ∧ Below w.heap.size w w' := by
  induction m using Nat.strongRecOn with
  | ind m ih =>
    intro h1 hn z hz w
    have hz0 : z < 0 := by have := hz.out; omega
    by_cases h : m < 10
    · have hi : (-10 : Int) < z := by have := hz.out; omega
      have q3 : 48 - z = ((decB m).toNat : Int) := by
        have := hz.out
        rw [decB_int h]
        omega
      have HC := conv_one (w.alloc (.cells #[.int .u8 (48 - z)] 5)) w.heap.size (decB m) _ q3 ((Has.new w _ _).cell 0)
      have hsz : (1 : Nat) + (ofL [decB m]).size ≤ 9223372036854775807 := by rw [ofL_size, List.length_singleton]; omega
      have HV : Hid (decN m = [decB m]) := Lib.hid (decN_small h)
      clear ih q3
      go_enter Tryz.func73, Tryz.ntmps73
      go_wp2_with fail
      go_ret
      exact ⟨by rw [HV.out]; rfl, (Below.refl _ _).alloc (Nat.le_refl _) _⟩
    · have hi : ¬ (-10 : Int) < z := by have := hz.out; omega
      have qe : IntKind.i64.wrap (z.tdiv 10) = -((m / 10 : Nat) : Int) := by
        rw [hz.out, Int.neg_tdiv, Int.tdiv_eq_ediv_of_nonneg (by omega), IntWalk.i64_in _ (by omega)]
        omega
      have qm : z.tmod 10 = -((m % 10 : Nat) : Int) := by
        rw [hz.out, Int.neg_tmod, Int.tmod_eq_emod_of_nonneg (by omega)]
        omega
      have HI := Lib.hid (fun w => ih (m / 10) (by omega) (by omega) (by omega) _ (Lib.hid qe) w)
      have HV : Hid (ofL (45 :: decN m) = ofL (45 :: decN (m / 10)) ++ ofL [decB (m % 10)]) := Lib.hid (by
        apply toL_inj
        rw [toL_append, toL_ofL, toL_ofL, toL_ofL, decN_more h]
        rfl)
      have hl : (ofL (45 :: decN (m / 10))).size ≤ 21 := by
        rw [ofL_size, List.length_cons]
        have := decN_len 18 (m / 10) (by omega)
        omega
      have hsz : (ofL (45 :: decN (m / 10))).size + (ofL [decB (m % 10)]).size ≤ 9223372036854775807 := by rw [ofL_size [decB (m % 10)], List.length_singleton]; omega
      have q3 : IntKind.u8.wrap (IntKind.i64.wrap (48 - z.tmod 10)) = ((decB (m % 10)).toNat : Int) := by
        rw [qm, decB_int (by omega), IntWalk.i64_in _ (by omega), IntKind.wrap_u8]
        omega
      have HCa := fun (W : World) => conv_one (W.alloc (.cells #[.int .u8 (IntKind.u8.wrap (IntKind.i64.wrap (48 - z.tmod 10)))] 5)) W.heap.size (decB (m % 10)) _ q3 ((Has.new W _ _).cell 0)
      have HCc := fun (W : World) (g : Nat) => conv_one W g (decB (m % 10)) _ q3
      clear q3 qe qm ih
      go_enter Tryz.func73, Tryz.ntmps73
      go_wp2_with fail
      go_region_with (go_at_call 73; refine (HI.out _).mono ?_; rintro e w1 ⟨rfl, hb1⟩; have hcb := fun h => HCc w1 w.heap.size ((hb1.cell (p := ⟨w.heap.size, 0, none⟩) (lt_cell h)).trans h))
      all_goals
        replace hb1 := Lib.hid hb1
        clear HCa HCc hcb HI hsz
        go_wp2_with fail
        go_ret
        refine ⟨by rw [HV.out]; rfl, ?_⟩
        first
          | exact (below_chain (Below.drew (Below.refl _ _)) hb1.out).alloc (Nat.le_trans (Nat.le_refl _) hb1.out.size) _
          | exact below_chain (Below.alloc (Below.drew (Below.refl _ _)) (Nat.le_refl _) _) hb1.out
/-- Digits: a '-' where the number is negative -/
theorem digits_any (z : Int) (h0 : -9223372036854775808 ≤ z) (h1 : z ≤ 9223372036854775807) (w : World) :
    Calls Tryz.prog 73 #[.int .i64 z] w fun e w' => e = .returned (.string (ofL (decZ z))) ∧ Below w.heap.size w w' := by
  unfold decZ
  by_cases hz : z < 0
  · rw [if_pos hz]
    exact digits_neg z.natAbs (by omega) (by omega) z (Lib.hid (by omega)) w
  · rw [if_neg hz]
    have e : z = ((z.natAbs : Nat) : Int) := by omega
    have := digits_pos z.natAbs (by omega) w
    rw [← e] at this
    exact this
end Go.Proofs.YtfihehobkbfmiaaGreatDoor.R13Dig

/- Layer 6, the document's own alnum, Host. -/
namespace Go.Proofs.YtfihehobkbfmiaaGreatDoor.RHost
open Go.ChangeShapes Go.WideShapes Go.ChangeAt Go.RowKit LexPure Bytes Ret HostPure RHostPure
set_option maxRecDepth 20000
theorem ral_cases (b : UInt8) : ral b = decide ((97 ≤ (b.toNat : Int) ∧ (b.toNat : Int) ≤ 122) ∨ (48 ≤ (b.toNat : Int) ∧ (b.toNat : Int) ≤ 57)) := by
  have := all_bytes (p := fun b => ral b == decide ((97 ≤ (b.toNat : Int) ∧ (b.toNat : Int) ≤ 122) ∨ (48 ≤ (b.toNat : Int) ∧ (b.toNat : Int) ≤ 57))) (by decide +kernel) b
  simpa only [beq_iff_eq] using this
theorem ralnum_any (b : UInt8) (w : World) :
    Calls Tryz.prog 76 #[.int .u8 (b.toNat : Int)] w fun e w' => e = .returned (.bool (ral b)) ∧ w = w' := by
  rw [ral_cases]
  generalize (b.toNat : Int) = c
  go_enter Tryz.func76, Tryz.ntmps76
  go_wp2_with fail
  all_goals
    go_ret
    refine ⟨ret_bool ?_, rfl⟩
  all_goals first
    | rfl
    | exact Eq.symm (decide_eq_true (by omega))
    | exact Eq.symm (decide_eq_false (by omega))
    | (rw [Bool.eq_iff_iff]; simp only [Bool.or_eq_true, Bool.and_eq_true, decide_eq_true_eq]; omega)
    | (rw [Bool.eq_iff_iff]; simp only [Bool.or_eq_true, Bool.and_eq_true, decide_eq_true_eq, Bool.false_eq_true, false_iff]; omega)
    | trace_state
theorem mark_cases (b : UInt8) : (b = 45 ∧ ((b.toNat : Int) != 45) = false ∧ ((b.toNat : Int) == 46) = false ∧ ((b.toNat : Int) != 46) = true) ∨ (b = 46 ∧ ((b.toNat : Int) != 45) = true ∧ ((b.toNat : Int) == 46) = true ∧ ((b.toNat : Int) != 46) = false) ∨ (b ≠ 45 ∧ b ≠ 46 ∧ ((b.toNat : Int) != 45) = true ∧ ((b.toNat : Int) == 46) = false ∧ ((b.toNat : Int) != 46) = true) := by
  have := all_bytes (p := fun b => decide ((b = 45 ∧ ((b.toNat : Int) != 45) = false ∧ ((b.toNat : Int) == 46) = false ∧ ((b.toNat : Int) != 46) = true) ∨ (b = 46 ∧ ((b.toNat : Int) != 45) = true ∧ ((b.toNat : Int) == 46) = true ∧ ((b.toNat : Int) != 46) = false) ∨ (b ≠ 45 ∧ b ≠ 46 ∧ ((b.toNat : Int) != 45) = true ∧ ((b.toNat : Int) == 46) = false ∧ ((b.toNat : Int) != 46) = true))) (by decide +kernel) b
  exact of_decide_eq_true this
set_option maxHeartbeats 1600000 in
theorem rhost_any (s : ByteArray) (hs : s.size ≤ 140737488351232) (w : World) :
    Calls Tryz.prog 41 #[.string s] w fun e w' => e = .returned (.bool (rhost (toL s))) ∧ w = w' := by
  by_cases hlen : 1 ≤ s.size ∧ s.size ≤ 64
  rotate_left
  · have hv : rhost (toL s) = false := by
      cases h : rhost (toL s) with
      | false => rfl
      | true =>
        have := (rhost_iff _).1 h
        rw [toL_length] at this
        exact absurd ⟨this.1, this.2.1⟩ hlen
    rw [hv]
    rcases (show (s.size : Int) < 1 ∨ (1 ≤ (s.size : Int) ∧ 64 < (s.size : Int)) by omega) with h | ⟨h, h2⟩
    all_goals
      clear hv hlen
      go_enter Tryz.func41, Tryz.ntmps41
      go_wp2_with fail
      go_ret
      exact ⟨rfl, rfl⟩
  obtain ⟨hl1, hl2⟩ := hlen
  have i1 : ¬ (s.size : Int) < 1 := by omega
  have i2 : ¬ 64 < (s.size : Int) := by omega
  go_enter Tryz.func41, Tryz.ntmps41
  go_wp2_with fail
  go_loop [3] (fun i => ∃ k : Nat, k ≤ s.size ∧ i = .int .i64 k ∧ Hid (∀ j, j < k → RHostPure.Good (toL s) j)) (fun i => s.size - (intOf i).toNat)
  case atStart => exact ⟨0, Nat.zero_le _, rfl, Lib.hid (fun j hj => by omega)⟩
  case round =>
    obtain ⟨k, hk, rfl, ha⟩ := hrel
    by_cases hlt : k < s.size
    · have hki : (k : Int) < (s.size : Int) := by omega
      have HG := Lib.hid (toL_get s k hlt)
      have HC := Lib.hid (fun w => ralnum_any s[k] w)
      have HN : RHostPure.Good (toL s) k → Hid (∀ j, j < k + 1 → RHostPure.Good (toL s) j) := fun hg => Lib.hid (fun j hj => by
        rcases Nat.lt_or_ge j k with h | h
        · exact ha.out j h
        · obtain rfl : j = k := by omega
          exact hg)
      have HF : ¬ RHostPure.Good (toL s) k → Hid (rhost (toL s) = false) := fun hg => Lib.hid (rhost_not (by rw [toL_length]; exact hlt) hg)
      have hpos : (k = 0 ∧ Hid (k = 0) ∧ ((k : Int) == 0) = true) ∨ (Hid (k ≠ 0 ∧ k + 1 = s.size) ∧ ((k : Int) == 0) = false ∧ ∃ eb : Bool, Hid (eb = true) ∧ ((k : Int) == (s.size : Int) - 1) = eb) ∨ (Hid (k ≠ 0 ∧ k + 1 ≠ s.size) ∧ ((k : Int) == 0) = false ∧ ((k : Int) == (s.size : Int) - 1) = false) := by
        by_cases h0 : k = 0
        · exact .inl ⟨h0, Lib.hid h0, by rw [h0]; rfl⟩
        · have e0 : ((k : Int) == 0) = false := beq_eq_false_iff_ne.2 (by omega)
          by_cases h1 : k + 1 = s.size
          · exact .inr (.inl ⟨Lib.hid ⟨h0, h1⟩, e0, true, Lib.hid rfl, by rw [beq_iff_eq]; omega⟩)
          · exact .inr (.inr ⟨Lib.hid ⟨h0, h1⟩, e0, beq_eq_false_iff_ne.2 (by omega)⟩)
      by_cases hr : ral s[k] = true
      · have HA := HN ⟨s[k], HG.out, .inl hr⟩
        rw [hr] at HC
        clear hr HG HN HF ha
        rcases hpos with ⟨rfl, _, e0⟩ | ⟨_, e0, eb, heb, e1⟩ | ⟨_, e0, e1⟩
        · clear e0
          go_wp2_with fail
          refine (HC.out _).mono ?_
          rintro e w' ⟨rfl, rfl⟩
          go_wp2_with fail
          go_round
          case rel => exact ⟨1, by omega, by go_num, HA⟩
          case measure => simp [intOf]; omega
        · go_wp2_with fail
          clear e1
          obtain rfl := heb.out
          refine (HC.out _).mono ?_
          rintro e w' ⟨rfl, rfl⟩
          go_wp2_with fail
          go_round
          case rel => exact ⟨k + 1, by omega, by go_num, HA⟩
          case measure => simp [intOf]; omega
        · go_wp2_with fail
          refine (HC.out _).mono ?_
          rintro e w' ⟨rfl, rfl⟩
          go_wp2_with fail
          go_round
          case rel => exact ⟨k + 1, by omega, by go_num, HA⟩
          case measure => simp [intOf]; omega
      · have hrf : ral s[k] = false := by simpa using hr
        rcases hpos with ⟨rfl, h0, e0⟩ | ⟨h0, e0, eb, heb, e1⟩ | ⟨h0, e0, e1⟩
        · have HV := HF (by
            rintro ⟨c, hc, h | ⟨h, _⟩⟩
            · rw [HG.out] at hc; exact hr (by rw [Option.some.inj hc]; exact h)
            · exact h h0.out)
          rw [hrf] at HC
          clear hr hrf HG HN HF ha h0
          clear e0
          go_wp2_with (refine (HC.out _).mono ?_; rintro e w' ⟨rfl, rfl⟩)
          go_ret
          exact ⟨ret_bool HV.out.symm, rfl⟩
        · have HV := HF (by
            rintro ⟨c, hc, h | ⟨_, h, _⟩⟩
            · rw [HG.out] at hc; exact hr (by rw [Option.some.inj hc]; exact h)
            · exact h (by rw [toL_length]; exact h0.out.2))
          rw [hrf] at HC
          clear hr hrf HG HN HF ha h0
          go_wp2_with fail
          clear e1
          obtain rfl := heb.out
          refine (HC.out _).mono ?_
          rintro e w' ⟨rfl, rfl⟩
          go_wp2_with fail
          go_ret
          exact ⟨ret_bool HV.out.symm, rfl⟩
        · rcases mark_cases s[k] with ⟨m0, m1, m2, m3⟩ | ⟨m0, m1, m2, m3⟩ | ⟨m0, m4, m1, m2, m3⟩
          · have HA := HN ⟨s[k], HG.out, .inr ⟨h0.out.1, by rw [toL_length]; exact h0.out.2, .inl m0⟩⟩
            rw [hrf] at HC
            clear hr hrf HG HN HF ha h0 m0
            go_wp2_with (refine (HC.out _).mono ?_; rintro e w' ⟨rfl, rfl⟩)
            go_round
            case rel => exact ⟨k + 1, by omega, by go_num, HA⟩
            case measure => simp [intOf]; omega
          · obtain ⟨j, rfl⟩ : ∃ j, k = j + 1 := ⟨k - 1, by have := h0.out.1; omega⟩
            have hj : j < s.size := by omega
            have hji : (j : Int) < (s.size : Int) := by omega
            have GJ := Lib.hid (toL_get s j hj)
            have e2 : ((j : Int) + 1 == 0) = false := beq_eq_false_iff_ne.2 (by omega)
            have e3 : ((j : Int) + 1 == (s.size : Int) - 1) = false := beq_eq_false_iff_ne.2 (fun h => h0.out.2 (by omega))
            have e4 : (j : Int) + 1 < (s.size : Int) := by omega
            have e5 : (0 : Int) ≤ (j : Int) + 1 := by omega
            clear e0 e1 hki
            rcases (show ((s[j].toNat : Int) == 46) = true ∧ s[j] = 46 ∨ ((s[j].toNat : Int) == 46) = false ∧ s[j] ≠ 46 by
              rcases mark_cases s[j] with ⟨n0, _, n2, _⟩ | ⟨n0, _, n2, _⟩ | ⟨_, n0, _, n2, _⟩
              · exact .inr ⟨n2, by rw [n0]; decide⟩
              · exact .inl ⟨n2, n0⟩
              · exact .inr ⟨n2, n0⟩) with ⟨n1, n2⟩ | ⟨n1, n2⟩
            · have HV := HF (by
                rintro ⟨c, hc, h | ⟨_, _, h | ⟨_, h⟩⟩⟩
                · rw [HG.out] at hc; exact hr (by rw [Option.some.inj hc]; exact h)
                · rw [HG.out, m0] at hc
                  rw [← Option.some.inj hc] at h
                  exact absurd h (by decide)
                · exact h (by rw [Nat.add_sub_cancel, GJ.out, n2]))
              rw [hrf] at HC
              clear hr hrf HG HN HF ha h0 m0 n2 GJ
              go_wp2_with (refine (HC.out _).mono ?_; rintro e w' ⟨rfl, rfl⟩)
              go_ret
              exact ⟨ret_bool HV.out.symm, rfl⟩
            · have HA := HN ⟨s[j + 1], HG.out, .inr ⟨h0.out.1, by rw [toL_length]; exact h0.out.2, .inr ⟨m0, by rw [Nat.add_sub_cancel, GJ.out]; exact fun e => n2 (Option.some.inj e)⟩⟩⟩
              rw [hrf] at HC
              clear hr hrf HG HN HF ha h0 m0 n2 GJ
              go_wp2_with (refine (HC.out _).mono ?_; rintro e w' ⟨rfl, rfl⟩)
              go_round
              case rel => exact ⟨j + 1 + 1, by omega, by go_num, HA⟩
              case measure => simp [intOf]; omega
          · have HV := HF (by
              rintro ⟨c, hc, h | ⟨_, _, h | ⟨h, _⟩⟩⟩
              · rw [HG.out] at hc; exact hr (by rw [Option.some.inj hc]; exact h)
              · rw [HG.out] at hc; exact m0 (by rw [Option.some.inj hc]; exact h)
              · rw [HG.out] at hc; exact m4 (by rw [Option.some.inj hc]; exact h))
            rw [hrf] at HC
            clear hr hrf HG HN HF ha h0 m0 m4
            go_wp2_with (refine (HC.out _).mono ?_; rintro e w' ⟨rfl, rfl⟩)
            go_ret
            exact ⟨ret_bool HV.out.symm, rfl⟩
    · have HV : Hid (rhost (toL s) = true) := Lib.hid ((rhost_iff _).2 ⟨by rw [toL_length]; omega, by rw [toL_length]; omega, fun j hj => ha.out j (by rw [toL_length] at hj; omega)⟩)
      clear ha
      go_wp2_with fail
      go_ret
      exact ⟨ret_bool HV.out.symm, rfl⟩
end Go.Proofs.YtfihehobkbfmiaaGreatDoor.RHost

/- Layer 4, the document's own Decimal. -/
namespace Go.Proofs.YtfihehobkbfmiaaGreatDoor.RDecimal
open Go.ChangeShapes Go.WideShapes Go.ChangeAt Go.RowKit LexPure Bytes Ret LexNum RNumber
set_option maxRecDepth 20000
theorem rdecimal_any (s : ByteArray) (hs : s.size ≤ maxLen) (digits : Int) (w : World) :
    Calls Tryz.prog 42 #[.string s, .int .i64 digits] w fun e w' => e = .returned (.tuple #[.int .i64 (numR 10 (min digits 18) (toL s)), .bool (numOk 10 (min digits 18) (toL s))]) ∧ w = w' := by
  have HN := Lib.hid (rnumber_any s hs (min digits 18) 10 (.inl ⟨rfl, Int.min_le_right _ _⟩))
  clear hs
  by_cases h : 18 < digits
  · have hm : min digits 18 = 18 := by omega
    rw [hm] at HN ⊢
    go_enter Tryz.func42, Tryz.ntmps42
    go_wp2_with fail
    refine (HN.out _).mono ?_
    rintro e w' ⟨rfl, rfl⟩
    go_wp2_with fail
    go_ret2
    exact ⟨rfl, rfl⟩
  · have hm : min digits 18 = digits := by omega
    rw [hm] at HN ⊢
    go_enter Tryz.func42, Tryz.ntmps42
    go_wp2_with fail
    refine (HN.out _).mono ?_
    rintro e w' ⟨rfl, rfl⟩
    go_wp2_with fail
    go_ret2
    exact ⟨rfl, rfl⟩
end Go.Proofs.YtfihehobkbfmiaaGreatDoor.RDecimal

/- Layer 6, the document's own Authority. -/
namespace Go.Proofs.YtfihehobkbfmiaaGreatDoor.RAuth
open Go.ChangeShapes Go.WideShapes Go.ChangeAt Go.RowKit LexPure Bytes Ret CutAt LexNum HostPure RHostPure RHost RLower RDecimal Mem
set_option maxRecDepth 20000
theorem end_none {s : ByteArray} {x : UInt8} {k : Nat} (hk : k = s.size) (ha : ((toL s).take k).all (fun c => c != x) = true) : aheadOf x (toL s) = (toL s).take k ∧ behind x (toL s) = [] ∧ hasB x (toL s) = false := by
  rw [toL_take_all s (by omega)] at ha ⊢
  have h' : ∀ a ∈ toL s, (a != x) = true := List.all_eq_true.1 ha
  refine ⟨?_, ?_, ?_⟩
  · have := List.takeWhile_append_of_pos (l₂ := []) h'
    rw [List.append_nil] at this
    unfold aheadOf
    rw [this]
    simp
  · have := List.dropWhile_append_of_pos (l₂ := []) h'
    rw [List.append_nil] at this
    unfold behind
    rw [this]
    rfl
  · unfold hasB
    rw [List.any_eq_false]
    intro a hm
    simpa using h' a hm
theorem end_some {s : ByteArray} {x : UInt8} {k : Nat} (hk : k < s.size) (hx : s[k] = x) (ha : ((toL s).take k).all (fun c => c != x) = true) : aheadOf x (toL s) = (toL s).take k ∧ behind x (toL s) = (toL s).drop (k + 1) ∧ hasB x (toL s) = true := by
  have h' : ∀ a ∈ (toL s).take k, (a != x) = true := List.all_eq_true.1 ha
  have hs : toL s = (toL s).take k ++ x :: (toL s).drop (k + 1) := by
    have := toL_drop s k hk
    rw [hx] at this
    rw [← this, List.take_append_drop]
  generalize (toL s).take k = A at *
  generalize (toL s).drop (k + 1) = B at *
  rw [hs]
  refine ⟨?_, ?_, ?_⟩
  · unfold aheadOf
    rw [List.takeWhile_append_of_pos h', List.takeWhile_cons]
    simp
  · unfold behind
    rw [List.dropWhile_append_of_pos h', List.dropWhile_cons]
    simp
  · unfold hasB
    simp
theorem numR_ge (b : Nat) (d : Int) (s : List UInt8) : 0 ≤ numR b d s := by
  unfold numR
  split
  · omega
  · exact Int.le_refl _
theorem x_cases (x b : UInt8) : (b = x ∧ ((b.toNat : Int) != (x.toNat : Int)) = false) ∨ (b ≠ x ∧ ((b.toNat : Int) != (x.toNat : Int)) = true) := by
  by_cases h : b = x
  · left; subst h; exact ⟨rfl, by simp⟩
  · right
    refine ⟨h, bne_iff_ne.2 (fun e => h (UInt8.toNat_inj.1 (by exact_mod_cast e)))⟩
def oH : Option (List UInt8 × Int) → List UInt8 | some (h, _) => h | none => []
def oP : Option (List UInt8 × Int) → Int | some (_, p) => p | none => 0
def oE : Option (List UInt8 × Int) → Int | some _ => 0 | none => 61
theorem auth_of (s : List UInt8) : authH s = oH (authO s) ∧ authP s = oP (authO s) ∧ authE s = oE (authO s) := by
  unfold authH authP authE oH oP oE
  cases authO s with
  | none => exact ⟨rfl, rfl, rfl⟩
  | some p => exact ⟨rfl, rfl, rfl⟩
set_option maxHeartbeats 1600000 in
theorem rauth_any (s : ByteArray) (hs : s.size ≤ 140737488351232) (w : World) :
    Calls Tryz.prog 16 #[.string s] w fun e w' => e = .returned (.tuple #[.string (ofL (authH (toL s))), .int .i64 (authP (toL s)), .int .i64 (authE (toL s))]) ∧ Below w.heap.size w w' := by
  obtain ⟨v1, v2, v3⟩ := auth_of (toL s)
  rw [v1, v2, v3]
  clear v1 v2 v3
  obtain ⟨x, hx2⟩ : ∃ x, x = authO (toL s) := ⟨_, rfl⟩
  rw [← hx2]
  have HX := Lib.hid hx2
  clear hx2
  go_enter Tryz.func16, Tryz.ntmps16
  go_wp2_with fail
  go_loop [5] (fun i => ∃ k : Nat, k ≤ s.size ∧ i = .int .i64 k ∧ Hid (((toL s).take k).all (fun c => c != 58) = true)) (fun i => s.size - (intOf i).toNat)
  case atStart => exact ⟨0, Nat.zero_le _, rfl, Lib.hid rfl⟩
  case round =>
    obtain ⟨k, hk, rfl, ha⟩ := hrel
    by_cases hlt : k < s.size
    · have hki : (k : Int) < (s.size : Int) := by omega
      have HT := Lib.hid (toL_take_succ s k hlt)
      rcases x_cases 58 s[k] with ⟨hx, hq⟩ | ⟨hx, hq⟩
      · rw [show ((58 : UInt8).toNat : Int) = 58 from rfl] at hq
        obtain ⟨a1, a2, a3⟩ := end_some hlt hx ha.out
        have HL := Lib.hid (fun w => rlower_any (s.extract 0 k) (by rw [ByteArray.size_extract]; omega) w)
        have HH := Lib.hid (fun w => rhost_any (ofL (lower (aheadOf 58 (toL s)))) (by rw [ofL_size, lower_length, a1, List.length_take, toL_length]; omega) w)
        have HD := Lib.hid (fun w => rdecimal_any (s.extract (k + 1) s.size) (by rw [ByteArray.size_extract]; unfold maxLen; omega) 5 w)
        rw [toL_extract, List.drop_zero, ← a1] at HL
        rw [toL_ofL, rhost_lower, host_lower] at HH
        rw [toL_extract, List.take_of_length_le (by rw [toL_length]; exact Nat.le_refl _), ← a2, show min (5 : Int) 18 = 5 from rfl] at HD
        have ne : ((k : Int) == (s.size : Int)) = false := beq_eq_false_iff_ne.2 (by omega)
        have c1 : (k : Int) + 1 ≤ (s.size : Int) := by omega
        have c2 : (0 : Int) ≤ (k : Int) + 1 := by omega
        have c3 : (k : Int) ≤ (s.size : Int) := by omega
        clear HT hx ha a1 a2
        have HY : Hid (x = if host (aheadOf 58 (toL s)) then (if portOk (behind 58 (toL s)) then some (lower (aheadOf 58 (toL s)), numR 10 5 (behind 58 (toL s))) else none) else none) := Lib.hid (by
          rw [HX.out]
          unfold authO
          rw [a3]
          rfl)
        clear a3 HX
        cases hh : host (aheadOf 58 (toL s))
        · have hr : x = none := by rw [HY.out, hh]; rfl
          rw [hh] at HH
          subst hr
          clear HY hh HD
          generalize ofL (lower (aheadOf 58 (toL s))) = L at *
          go_wp2_with fail
          refine (HL.out _).mono ?_
          rintro e w1 ⟨rfl, hb1⟩
          go_wp2_with fail
          refine (HH.out _).mono ?_
          rintro e w2 ⟨rfl, rfl⟩
          go_wp2_with fail
          go_ret3
          exact ⟨rfl, hb1⟩
        · rw [hh] at HH
          cases hp : portOk (behind 58 (toL s))
          · have hr : x = none := by rw [HY.out, hh, hp]; rfl
            subst hr
            have hc : numOk 10 5 (behind 58 (toL s)) = false ∨ (numOk 10 5 (behind 58 (toL s)) = true ∧ numR 10 5 (behind 58 (toL s)) = 0) ∨ (numOk 10 5 (behind 58 (toL s)) = true ∧ (numR 10 5 (behind 58 (toL s)) == 0) = false ∧ 65535 < numR 10 5 (behind 58 (toL s))) := by
              have hge := numR_ge 10 5 (behind 58 (toL s))
              unfold portOk at hp
              cases h : numOk 10 5 (behind 58 (toL s))
              · exact .inl rfl
              · right
                rw [h] at hp
                rcases Int.lt_or_le (numR 10 5 (behind 58 (toL s))) 1 with h2 | h2
                · exact .inl ⟨rfl, by omega⟩
                · rcases Int.lt_or_le 65535 (numR 10 5 (behind 58 (toL s))) with h3 | h3
                  · exact .inr ⟨rfl, beq_eq_false_iff_ne.2 (by omega), h3⟩
                  · rw [decide_eq_true h2, decide_eq_true h3] at hp
                    cases hp
            clear HY hh hp
            rcases hc with h1 | ⟨h1, h2⟩ | ⟨h1, h2, h3⟩
            · rw [h1] at HD
              clear h1
              generalize ofL (lower (aheadOf 58 (toL s))) = L at *
              generalize numR 10 5 (behind 58 (toL s)) = n at *
              go_wp2_with fail
              refine (HL.out _).mono ?_
              rintro e w1 ⟨rfl, hb1⟩
              go_wp2_with fail
              refine (HH.out _).mono ?_
              rintro e w2 ⟨rfl, rfl⟩
              go_wp2_with fail
              refine (HD.out _).mono ?_
              rintro e w3 ⟨rfl, rfl⟩
              go_wp2_with fail
              go_ret3
              exact ⟨rfl, hb1⟩
            · rw [h1, h2] at HD
              clear h1 h2
              generalize ofL (lower (aheadOf 58 (toL s))) = L at *
              go_wp2_with fail
              refine (HL.out _).mono ?_
              rintro e w1 ⟨rfl, hb1⟩
              go_wp2_with fail
              refine (HH.out _).mono ?_
              rintro e w2 ⟨rfl, rfl⟩
              go_wp2_with fail
              refine (HD.out _).mono ?_
              rintro e w3 ⟨rfl, rfl⟩
              go_wp2_with fail
              go_ret3
              exact ⟨rfl, hb1⟩
            · rw [h1] at HD
              clear h1
              generalize ofL (lower (aheadOf 58 (toL s))) = L at *
              generalize numR 10 5 (behind 58 (toL s)) = n at *
              go_wp2_with fail
              refine (HL.out _).mono ?_
              rintro e w1 ⟨rfl, hb1⟩
              go_wp2_with fail
              refine (HH.out _).mono ?_
              rintro e w2 ⟨rfl, rfl⟩
              go_wp2_with fail
              refine (HD.out _).mono ?_
              rintro e w3 ⟨rfl, rfl⟩
              go_wp2_with fail
              go_ret3
              exact ⟨rfl, hb1⟩
          · have hr : x = some (lower (aheadOf 58 (toL s)), numR 10 5 (behind 58 (toL s))) := by rw [HY.out, hh, hp]; rfl
            subst hr
            unfold portOk at hp
            simp only [Bool.and_eq_true, decide_eq_true_eq] at hp
            obtain ⟨⟨p1, p2⟩, p3⟩ := hp
            rw [p1] at HD
            have p4 : (numR 10 5 (behind 58 (toL s)) == 0) = false := beq_eq_false_iff_ne.2 (by omega)
            clear HY hh p1
            go_wp2_with fail
            refine (HL.out _).mono ?_
            rintro e w1 ⟨rfl, hb1⟩
            go_wp2_with fail
            refine (HH.out _).mono ?_
            rintro e w2 ⟨rfl, rfl⟩
            go_wp2_with fail
            refine (HD.out _).mono ?_
            rintro e w3 ⟨rfl, rfl⟩
            go_wp2_with fail
            go_ret3
            exact ⟨rfl, hb1⟩
      · rw [show ((58 : UInt8).toNat : Int) = 58 from rfl] at hq
        have HA : Hid (((toL s).take (k + 1)).all (fun c => c != 58) = true) := Lib.hid (by rw [HT.out, List.all_append, ha.out]; simp [hx])
        clear HT ha hx
        go_wp2_with fail
        go_round
        case rel => exact ⟨k + 1, by omega, by go_num, HA⟩
        case measure => simp [intOf]; omega
    · obtain ⟨a1, a2, a3⟩ := end_none (s := s) (x := 58) (k := k) (by omega) ha.out
      have HL := Lib.hid (fun w => rlower_any (s.extract 0 k) (by rw [ByteArray.size_extract]; omega) w)
      have HH := Lib.hid (fun w => rhost_any (ofL (lower (aheadOf 58 (toL s)))) (by rw [ofL_size, lower_length, a1, List.length_take, toL_length]; omega) w)
      rw [toL_extract, List.drop_zero, ← a1] at HL
      rw [toL_ofL, rhost_lower, host_lower] at HH
      have HKS : Hid (k = s.size) := Lib.hid (by omega)
      obtain ⟨eb, heb, e1⟩ : ∃ eb : Bool, Hid (eb = true) ∧ ((k : Int) == (s.size : Int)) = eb := ⟨true, Lib.hid rfl, by rw [beq_iff_eq]; omega⟩
      have c3 : (k : Int) ≤ (s.size : Int) := by omega
      have c4 : ¬ (k : Int) < (s.size : Int) := by omega
      have HY : Hid (x = if host (aheadOf 58 (toL s)) then some (lower (aheadOf 58 (toL s)), 0) else none) := Lib.hid (by
        rw [HX.out]
        unfold authO
        rw [a3]
        rfl)
      clear a1 a2 a3 ha hlt HKS
      cases hh : host (aheadOf 58 (toL s))
      · have hr : x = none := by rw [HY.out, hh]; rfl
        rw [hh] at HH
        subst hr
        clear HY hh HX
        go_wp2_with fail
        refine (HL.out _).mono ?_
        rintro e w1 ⟨rfl, hb1⟩
        go_wp2_with fail
        refine (HH.out _).mono ?_
        rintro e w2 ⟨rfl, rfl⟩
        go_wp2_with fail
        go_ret3
        exact ⟨rfl, hb1⟩
      · have hr : x = some (lower (aheadOf 58 (toL s)), 0) := by rw [HY.out, hh]; rfl
        rw [hh] at HH
        subst hr
        clear HY hh HX
        go_wp2_with fail
        refine (HL.out _).mono ?_
        rintro e w1 ⟨rfl, hb1⟩
        go_wp2_with fail
        refine (HH.out _).mono ?_
        rintro e w2 ⟨rfl, rfl⟩
        obtain rfl := heb.out
        go_wp2_with fail
        go_ret3
        exact ⟨rfl, hb1⟩
end Go.Proofs.YtfihehobkbfmiaaGreatDoor.RAuth

/- Layer 14, the document's own Host, Domain. -/
namespace Go.Proofs.YtfihehobkbfmiaaGreatDoor.R14Host
open Go.ChangeShapes Go.WideShapes Go.ChangeAt Go.RowKit Bytes LexPure HostPure RHostPure EmitPure ConfPure Ret Mem R14In R14Name
set_option maxRecDepth 100000
set_option linter.unusedSimpArgs false
set_option linter.unusedVariables false
theorem dig_len {n : Int} (h0 : 0 ≤ n) (h1 : n ≤ 65535) : (decZ n).length ≤ 5 := by
  unfold decZ
  rw [if_neg (by omega)]
  exact DecN.decN_len 4 _ (by omega)
set_option maxHeartbeats 1600000 in
theorem rhostB_any (s : ByteArray) (hs : s.size ≤ 1048576) (w : World) :
    Calls Tryz.prog 64 #[.string s] w fun e w' => e = .returned (.bool (hostB (toL s))) ∧ Below w.heap.size w w' := by
  have HA := Lib.hid (RAuth.rauth_any s (by omega) w)
  unfold hostB
  cases ha : authO (toL s) with
  | none =>
    obtain ⟨e1, e2, e3⟩ := auth_none ha
    rw [e1, e2, e3] at HA
    clear hs ha e1 e2 e3
    go_enter Tryz.func64, Tryz.ntmps64
    go_wp2_with fail
    refine HA.out.mono ?_
    rintro e w1 ⟨rfl, hb⟩
    go_wp2_with fail
    go_ret
    exact ⟨rfl, hb⟩
  | some x =>
    obtain ⟨h, p⟩ := x
    obtain ⟨e1, e2, e3⟩ := auth_some ha
    obtain ⟨a1, a2, a3, a4⟩ := authO_some ha
    rw [e1, e2, e3] at HA
    have hh := host_len a1
    dsimp only
    by_cases hp : 0 < p
    · have HD := Lib.hid (fun w => R13Dig.digits_any p (by omega) (by omega) w)
      have hdl := dig_len (by omega) a4
      have hpd : decide (0 < p) = true := decide_eq_true hp
      have l1 : (ofL h).size + (⟨#[58]⟩ : ByteArray).size ≤ 9223372036854775807 := by rw [ofL_size]; exact (by omega : h.length + 1 ≤ 9223372036854775807)
      have l2 : (ofL h ++ ⟨#[58]⟩).size + (ofL (decZ p)).size ≤ 9223372036854775807 := by rw [ByteArray.size_append, ofL_size, ofL_size]; exact (by omega : h.length + 1 + (decZ p).length ≤ 9223372036854775807)
      have hq : (s.toList == (ofL h ++ ⟨#[58]⟩ ++ ofL (decZ p)).toList) = (toL s == h ++ 58 :: decZ p) := by
        rw [ByteArray.toList_eq, ByteArray.toList_eq]
        show (toL s == toL (ofL h ++ ⟨#[58]⟩ ++ ofL (decZ p))) = _
        have : toL (ofL h ++ ⟨#[58]⟩ ++ ofL (decZ p)) = h ++ 58 :: decZ p := by simp [toL, ofL]
        rw [this]
      obtain ⟨b, hb2⟩ : ∃ b, b = (toL s == h ++ 58 :: decZ p) := ⟨_, rfl⟩
      rw [← hb2] at hq ⊢
      rw [hpd]
      clear hs ha e1 e2 e3 hb2 a1 a2 a3 a4 hh hdl hp
      generalize ofL (decZ p) = D at *
      go_enter Tryz.func64, Tryz.ntmps64
      go_wp2_with fail
      refine HA.out.mono ?_
      rintro e w1 ⟨rfl, hb⟩
      have HB := Lib.hid hb
      clear HA hb
      go_wp2_with fail
      refine (HD.out _).mono ?_
      rintro e w2 ⟨rfl, hb⟩
      have HB2 := Lib.hid (below_chain HB.out hb)
      clear HD HB hb
      go_wp2_with fail
      go_ret
      exact ⟨rfl, HB2.out⟩
    · have hpd : decide (0 < p) = false := decide_eq_false hp
      rw [hpd]
      clear hs ha e1 e2 e3 a1 a2 a3 a4 hh hp
      go_enter Tryz.func64, Tryz.ntmps64
      go_wp2_with fail
      refine HA.out.mono ?_
      rintro e w1 ⟨rfl, hb⟩
      go_wp2_with fail
      go_ret
      exact ⟨rfl, hb⟩
theorem rdomain_any (s : ByteArray) (hs : s.size ≤ 1048576) (w : World) :
    Calls Tryz.prog 65 #[.string s] w fun e w' => e = .returned (.bool (domainB (toL s))) ∧ w = w' := by
  unfold domainB
  by_cases h1 : toL s = STAR
  · have hq : (s.toList == [42]) = true := by rw [ByteArray.toList_eq]; show (toL s == [42]) = true; rw [h1]; rfl
    rw [if_pos h1]
    clear hs h1
    go_enter Tryz.func65, Tryz.ntmps65
    go_wp2_with fail
    go_ret
    exact ⟨rfl, rfl⟩
  · have hq : (s.toList == [42]) = false := by rw [ByteArray.toList_eq]; exact beq_false_of_ne h1
    rw [if_neg h1, toL_length]
    clear h1
    by_cases h2 : 2 < s.size
    · have h2i : (2 : Int) < (s.size : Int) := by omega
      have hz : ¬ (s.size : Int) < 2 := by omega
      have hx : ((s.extract 0 2).toList == [42, 46]) = ((toL s).take 2 == [42, 46]) := by
        rw [ByteArray.toList_eq]
        show (toL (s.extract 0 2) == [42, 46]) = _
        rw [toL_extract, List.drop_zero]
      by_cases h3 : (toL s).take 2 = [42, 46]
      · rw [if_pos ⟨h2, h3⟩]
        rw [show ((toL s).take 2 == [42, 46]) = true by rw [h3]; rfl] at hx
        have HH := Lib.hid (RHost.rhost_any (s.extract 2 s.size) (by simp; omega) w)
        have e : toL (s.extract 2 s.size) = (toL s).drop 2 := by rw [toL_extract, show s.size = (toL s).length by rw [toL_length], List.take_length]
        rw [e] at HH
        clear hs h3 e
        go_enter Tryz.func65, Tryz.ntmps65
        go_wp2_with fail
        refine HH.out.mono ?_
        rintro e w1 ⟨rfl, rfl⟩
        go_wp2_with fail
        go_ret
        exact ⟨rfl, rfl⟩
      · rw [if_neg (fun x => h3 x.2)]
        rw [beq_false_of_ne h3] at hx
        have HH := Lib.hid (RHost.rhost_any s (by omega) w)
        clear hs h3
        go_enter Tryz.func65, Tryz.ntmps65
        go_wp2_with fail
        refine HH.out.mono ?_
        rintro e w1 ⟨rfl, rfl⟩
        go_wp2_with fail
        go_ret
        exact ⟨rfl, rfl⟩
    · have h2i : ¬ (2 : Int) < (s.size : Int) := by omega
      rw [if_neg (fun x => h2 x.1)]
      have HH := Lib.hid (RHost.rhost_any s (by omega) w)
      clear hs h2
      go_enter Tryz.func65, Tryz.ntmps65
      go_wp2_with fail
      refine HH.out.mono ?_
      rintro e w1 ⟨rfl, rfl⟩
      go_wp2_with fail
      go_ret
      exact ⟨rfl, rfl⟩
end Go.Proofs.YtfihehobkbfmiaaGreatDoor.R14Host

/- Layer 14, the document's own number, word, flag. -/
namespace Go.Proofs.YtfihehobkbfmiaaGreatDoor.R14Num
open Go.ChangeShapes Go.WideShapes Go.ChangeAt Go.RowKit LexPure Bytes Ret Rows1 PathPure EmitPure ConfPure Mem
set_option maxRecDepth 100000
set_option linter.unusedSimpArgs false
set_option linter.unusedVariables false
theorem decZ_len {n : Int} (h0 : -9223372036854775808 ≤ n) (h1 : n ≤ 9223372036854775807) : (decZ n).length ≤ 20 := by
  have h := DecN.decN_len 18 n.natAbs (by omega)
  unfold decZ
  split
  · rw [List.length_cons]; omega
  · omega
theorem word_len (s : L) : (word s).length ≤ 3 * s.length + 3 := by
  unfold word
  split
  · simp
  split
  · simp
  · have := R14Word.words_len s
    unfold R14Word.wordsL at this
    omega
theorem blank_add (x : L) : (⟨#[32]⟩ : ByteArray) ++ ofL x = ofL (32 :: x) := by
  apply toL_inj
  simp [toL, ofL]
theorem rnumber_any (n : Int) (h0 : -9223372036854775808 ≤ n) (h1 : n ≤ 9223372036854775807) (w : World) :
    Calls Tryz.prog 37 #[.int .i64 n] w fun e w' => e = .returned (.string (ofL (32 :: decZ n))) ∧ Below w.heap.size w w' := by
  have HD := Lib.hid (R13Dig.digits_any n h0 h1 w)
  have hl := decZ_len h0 h1
  have hz : (⟨#[32]⟩ : ByteArray).size + (ofL (decZ n)).size ≤ 9223372036854775807 := by rw [ofL_size]; exact (by omega : 1 + (decZ n).length ≤ 9223372036854775807)
  have HV := Lib.hid (blank_add (decZ n))
  generalize ofL (decZ n) = D at *
  clear h0 h1 hl
  go_enter Tryz.func37, Tryz.ntmps37
  go_wp2_with fail
  refine HD.out.mono ?_
  rintro e w1 ⟨rfl, hb⟩
  go_wp2_with fail
  go_ret
  exact ⟨by rw [← HV.out] <;> rfl, hb⟩
theorem rwordB_any (s : ByteArray) (hs : s.size ≤ 1048576) (w : World) :
    Calls Tryz.prog 38 #[.string s] w fun e w' => e = .returned (.string (ofL (32 :: word (toL s)))) ∧ Below w.heap.size w w' := by
  have HD := Lib.hid (R14Word.rword_any s hs w)
  have hl := word_len (toL s)
  rw [toL_length] at hl
  have hz : (⟨#[32]⟩ : ByteArray).size + (ofL (word (toL s))).size ≤ 9223372036854775807 := by rw [ofL_size]; exact (by omega : 1 + (word (toL s)).length ≤ 9223372036854775807)
  have HV := Lib.hid (blank_add (word (toL s)))
  generalize ofL (word (toL s)) = D at *
  clear hs hl
  go_enter Tryz.func38, Tryz.ntmps38
  go_wp2_with fail
  refine HD.out.mono ?_
  rintro e w1 ⟨rfl, hb⟩
  go_wp2_with fail
  go_ret
  exact ⟨by rw [← HV.out] <;> rfl, hb⟩
theorem rflag_any (b : Bool) (w : World) :
    Calls Tryz.prog 75 #[.bool b] w fun e w' => e = .returned (.string (ofL (32 :: flagL b))) ∧ w = w' := by
  cases b with
  | false =>
    go_enter Tryz.func75, Tryz.ntmps75
    go_wp2_with fail
    go_ret
    exact ⟨rfl, rfl⟩
  | true =>
    go_enter Tryz.func75, Tryz.ntmps75
    go_wp2_with fail
    go_ret
    exact ⟨rfl, rfl⟩
end Go.Proofs.YtfihehobkbfmiaaGreatDoor.R14Num

/- Layer 14, the document's own Cluster. -/
namespace Go.Proofs.YtfihehobkbfmiaaGreatDoor.R14Clus
open Go.ChangeShapes Go.WideShapes Go.ChangeAt Go.RowKit Bytes LexPure ConfPure ConfMem Ret Mem Texts R14In R14Name R14Host
set_option maxRecDepth 100000
set_option linter.unusedSimpArgs false
set_option linter.unusedVariables false
abbrev KT : TypeId := 38
structure Cb (w : World) (g : Nat) (cs : Array Value) (h : Value) (hosts : List L) (W : World) : Prop where
  box : Has W g KT cs
  tx : Texts W h hosts
  below : Below g w W
theorem Cb.call {w W W' : World} {g : Nat} {cs : Array Value} {h : Value} {hosts : List L} (x : Cb w g cs h hosts W) (hb : Below W.heap.size W W') : Cb w g cs h hosts W' :=
  ⟨x.box.below hb x.box.lt, Texts.below x.tx hb, ⟨hb.os.trans x.below.os, hb.tape.trans x.below.tape, hb.output.trans x.below.output, Nat.le_trans x.below.size hb.size, fun i hi => (hb.block i (Nat.lt_trans hi x.box.lt)).trans (x.below.block i hi)⟩⟩
theorem Cb.drew {w W : World} {g : Nat} {cs : Array Value} {h : Value} {hosts : List L} (x : Cb w g cs h hosts W) : Cb w g cs h hosts W.drew := ⟨x.box.drew, x.tx, below_drew x.below⟩
theorem Cb.start {w : World} {cs : Array Value} {h : Value} {hosts : List L} (hT : Texts w h hosts) : Cb w w.heap.size cs h hosts (w.alloc (.cells cs KT)) :=
  ⟨Has.new w _ _, Texts.below hT ((Below.refl _ _).alloc (Nat.le_refl _) _), (Below.refl _ _).alloc (Nat.le_refl _) _⟩
theorem texts_at {w : World} {gh o n cap : Nat} {G : List L} (h : Texts w (.slice (some ⟨gh, o, none⟩) n cap) G) (j : Nat) (hj : j < G.length) : w.cell? ⟨gh, o + j, none⟩ = some (.string (ofL G[j])) := by
  obtain ⟨_, _, heq, -, hcell⟩ := h
  injection heq with e1 e2 e3
  subst e1
  obtain ⟨g2, o2, hpo, _, hcell⟩ := hcell (by omega)
  injection hpo with hpo
  injection hpo with a1 a2
  subst a1 a2
  exact hcell j hj
theorem hosts_step (ahead hs : List L) (h : L) : hostsB ahead (h :: hs) = (hostB h && !(ahead.contains h) && hostsB (ahead ++ [h]) hs) := by
  conv => lhs; unfold hostsB
def Fresh (hosts : List L) (i k : Nat) : Prop := ∀ j (hj : j < hosts.length) (hi : i < hosts.length), j < k → (hosts[j] == hosts[i]) = false
theorem Fresh.all {hosts : List L} {i : Nat} (hi : i < hosts.length) (h : Fresh hosts i i) : (hosts.take i).contains hosts[i] = false := by
  rw [List.contains_eq_any_beq, List.any_eq_false]
  intro y hy
  obtain ⟨j, hj, rfl⟩ := List.getElem_of_mem hy
  rw [List.length_take] at hj
  rw [List.getElem_take]
  have := h j (by omega) hi (by omega)
  rw [Bool.not_eq_true, beq_eq_false_iff_ne]
  rw [beq_eq_false_iff_ne] at this
  exact fun e => this e.symm
set_option maxHeartbeats 6400000 in
theorem rclus_any (x : Clus) (h : Value) (hx : FitClus x) (w : World) (hT : Texts w h x.hosts) :
    Calls Tryz.prog 27 #[.agg #[.string (ofL x.name), .int .i64 x.policy, h, .int .i64 x.conns, .int .i64 x.pending, .int .i64 x.try_, .int .i64 x.fails, .int .i64 x.eject, .int .i64 x.panic]] w fun e w' => e = .returned (.bool (clusB x)) ∧ Below w.heap.size w w' := by
  obtain ⟨p, cap, rfl, hn, hc⟩ := id hT
  have H0 := Lib.hid (fun w => rin_any x.policy 1 4 w)
  have H1 := Lib.hid (fun w => rin_any ((x.hosts.length : Nat) : Int) 1 16 w)
  have H2 := Lib.hid (fun w => rin_any x.conns 1 64 w)
  have H3 := Lib.hid (fun w => rin_any x.pending 0 256 w)
  have H4 := Lib.hid (fun w => rin_any x.try_ 1 TICK w)
  have H5 := Lib.hid (fun w => rin_any x.eject 1 TICK w)
  have H6 := Lib.hid (fun w => rin_any x.fails 1 1000 w)
  have H7 := Lib.hid (fun w => rin_any x.panic 0 100 w)
  unfold clusB
  obtain ⟨r0, hr0⟩ : ∃ r0, r0 = inB x.policy 1 4 := ⟨_, rfl⟩
  rw [← hr0] at H0 ⊢
  obtain ⟨r1, hr1⟩ : ∃ r1, r1 = inB ((x.hosts.length : Nat) : Int) 1 16 := ⟨_, rfl⟩
  rw [← hr1] at H1 ⊢
  obtain ⟨r2, hr2⟩ : ∃ r2, r2 = inB x.conns 1 64 := ⟨_, rfl⟩
  rw [← hr2] at H2 ⊢
  obtain ⟨r3, hr3⟩ : ∃ r3, r3 = inB x.pending 0 256 := ⟨_, rfl⟩
  rw [← hr3] at H3 ⊢
  obtain ⟨r4, hr4⟩ : ∃ r4, r4 = inB x.try_ 1 TICK := ⟨_, rfl⟩
  rw [← hr4] at H4 ⊢
  obtain ⟨r5, hr5⟩ : ∃ r5, r5 = inB x.eject 1 TICK := ⟨_, rfl⟩
  rw [← hr5] at H5 ⊢
  obtain ⟨r6, hr6⟩ : ∃ r6, r6 = inB x.fails 1 1000 := ⟨_, rfl⟩
  rw [← hr6] at H6 ⊢
  obtain ⟨r7, hr7⟩ : ∃ r7, r7 = inB x.panic 0 100 := ⟨_, rfl⟩
  rw [← hr7] at H7 ⊢
  unfold TICK at H4 H5
  have HHost := Lib.hid (fun k (hk : k < x.hosts.length) w => rhostB_any (ofL x.hosts[k]) (by rw [ofL_size]; exact hx.hosts.2 _ (List.getElem_mem hk)) w)
  have HC := Lib.hid hc
  have HB := Lib.hid (Cb.start (cs := #[.string (ofL x.name), .int .i64 x.policy, .slice p x.hosts.length cap, .int .i64 x.conns, .int .i64 x.pending, .int .i64 x.try_, .int .i64 x.fails, .int .i64 x.eject, .int .i64 x.panic]) hT)
  have hn2 : x.hosts.length ≤ 1048576 := hx.hosts.1
  unfold KT at HB
  clear hx hT hn hc hr0 hr1 hr2 hr3 hr4 hr5 hr6 hr7
  go_enter Tryz.func27, Tryz.ntmps27
  go_wp2_with fail
  refine (H0.out _).mono ?_
  rintro e w1 ⟨rfl, rfl⟩
  clear H0
  cases r0 with
  | false =>
    clear HHost
    go_wp2_with fail
    go_ret
    exact ⟨ret_bool (by simp), HB.out.below⟩
  | true =>
    go_wp2_with fail
    refine (H1.out _).mono ?_
    rintro e w2 ⟨rfl, rfl⟩
    clear H1
    cases r1 with
    | false =>
      clear HHost
      go_wp2_with fail
      go_ret
      exact ⟨ret_bool (by simp), HB.out.below⟩
    | true =>
      go_wp2_with fail
      refine (H2.out _).mono ?_
      rintro e w3 ⟨rfl, rfl⟩
      clear H2
      cases r2 with
      | false =>
        clear HHost
        go_wp2_with fail
        go_ret
        exact ⟨ret_bool (by simp), HB.out.below⟩
      | true =>
        go_wp2_with fail
        refine (H3.out _).mono ?_
        rintro e w4 ⟨rfl, rfl⟩
        clear H3
        cases r3 with
        | false =>
          clear HHost
          go_wp2_with fail
          go_ret
          exact ⟨ret_bool (by simp), HB.out.below⟩
        | true =>
          go_wp2_with fail
          refine (H4.out _).mono ?_
          rintro e w5 ⟨rfl, rfl⟩
          clear H4
          cases r4 with
          | false =>
            clear HHost
            go_wp2_with fail
            go_ret
            exact ⟨ret_bool (by simp), HB.out.below⟩
          | true =>
            go_wp2_with fail
            refine (H5.out _).mono ?_
            rintro e w6 ⟨rfl, rfl⟩
            clear H5
            cases r5 with
            | false =>
              clear HHost
              go_wp2_with fail
              go_ret
              exact ⟨ret_bool (by simp), HB.out.below⟩
            | true =>
              go_wp2_with fail
              refine (H6.out _).mono ?_
              rintro e w7 ⟨rfl, rfl⟩
              clear H6
              cases r6 with
              | false =>
                clear HHost
                go_wp2_with fail
                go_ret
                exact ⟨ret_bool (by simp), HB.out.below⟩
              | true =>
                go_wp2_with fail
                refine (H7.out _).mono ?_
                rintro e w8 ⟨rfl, rfl⟩
                clear H7
                cases r7 with
                | false =>
                  clear HHost
                  go_wp2_with fail
                  go_ret
                  exact ⟨ret_bool (by simp), HB.out.below⟩
                | true =>
                  simp only [Bool.true_and]
                  obtain ⟨g, hg⟩ : ∃ g, g = w.heap.size := ⟨_, rfl⟩
                  rw [← hg] at HB ⊢
                  have HG := Lib.hid hg
                  clear hg
                  go_wp2_with fail
                  generalize w.alloc (.cells #[.string (ofL x.name), .int .i64 x.policy, .slice p x.hosts.length cap, .int .i64 x.conns, .int .i64 x.pending, .int .i64 x.try_, .int .i64 x.fails, .int .i64 x.eject, .int .i64 x.panic] 38) = W1 at HB ⊢
                  go_loopw [3] (fun i wr => ∃ k : Nat, k ≤ x.hosts.length ∧ i = .int .i64 k ∧ Hid (hostsB [] x.hosts = hostsB (x.hosts.take k) (x.hosts.drop k) ∧ Cb w g #[.string (ofL x.name), .int .i64 x.policy, .slice p x.hosts.length cap, .int .i64 x.conns, .int .i64 x.pending, .int .i64 x.try_, .int .i64 x.fails, .int .i64 x.eject, .int .i64 x.panic] (.slice p x.hosts.length cap) x.hosts wr)) (fun i _ => x.hosts.length - (intOf i).toNat)
                  case atStart => exact ⟨0, Nat.zero_le _, rfl, Lib.hid ⟨by simp, HB.out⟩⟩
                  case round =>
                    obtain ⟨k, hk, rfl, HJ⟩ := hrel
                    clear HB
                    have b2 : wr.cell? ⟨g, 2, none⟩ = some (.slice p x.hosts.length cap) := HJ.out.2.box.cell 2
                    by_cases hlt : k < x.hosts.length
                    · have hki : (k : Int) < (x.hosts.length : Int) := by omega
                      have hk0 : (0 : Int) ≤ (k : Int) := by omega
                      obtain ⟨_, _, heq, -, hcell⟩ := HJ.out.2.tx
                      injection heq with e1 e2 e3
                      subst e1 e3
                      obtain ⟨gh, o, rfl, hgh, hcell⟩ := hcell (by omega)
                      have c1 := hcell k hlt
                      have HHo := Lib.hid (HHost.out k hlt)
                      rw [toL_ofL] at HHo
                      obtain ⟨t, ht⟩ : ∃ t, t = x.hosts[k] := ⟨_, rfl⟩
                      rw [← ht] at HHo c1
                      have HT := Lib.hid ht
                      have HS : Hid (hostsB (x.hosts.take k) (x.hosts.drop k) = (hostB t && !((x.hosts.take k).contains t) && hostsB (x.hosts.take (k + 1)) (x.hosts.drop (k + 1)))) := Lib.hid (by
                        rw [List.drop_eq_getElem_cons hlt, hosts_step, ht, List.take_succ_eq_append_getElem hlt])
                      obtain ⟨rb, hrb⟩ : ∃ rb, rb = hostB t := ⟨_, rfl⟩
                      rw [← hrb] at HHo HS
                      clear hcell ht hrb
                      go_wp2_with fail
                      refine (HHo.out _).mono ?_
                      rintro e w5 ⟨rfl, hb5⟩
                      have HJ5 := Lib.hid (And.intro HJ.out.1 (HJ.out.2.call hb5))
                      clear HJ hb5 b2 c1 HHo
                      cases rb with
                      | false =>
                        clear HHost
                        go_wp2_with fail
                        go_ret
                        exact ⟨ret_bool (by rw [HJ5.out.1, HS.out]; rfl), HG.out ▸ HJ5.out.2.below⟩
                      | true =>
                        go_wp2_with fail
                        have HK0 := Lib.hid HJ5.out.1
                        go_loopw [4] (fun i wr => ∃ k2 : Nat, k2 ≤ k ∧ i = .int .i64 k2 ∧ Hid (Fresh x.hosts k k2 ∧ Cb w g #[.string (ofL x.name), .int .i64 x.policy, .slice (some ⟨gh, o, none⟩) x.hosts.length cap, .int .i64 x.conns, .int .i64 x.pending, .int .i64 x.try_, .int .i64 x.fails, .int .i64 x.eject, .int .i64 x.panic] (.slice (some ⟨gh, o, none⟩) x.hosts.length cap) x.hosts wr)) (fun i _ => k - (intOf i).toNat)
                        case atStart => exact ⟨0, Nat.zero_le _, rfl, Lib.hid ⟨fun j _ _ h => absurd h (by omega), HJ5.out.2⟩⟩
                        case round =>
                          obtain ⟨k2, hk2, rfl, HI⟩ := hrel
                          by_cases hlt2 : k2 < k
                          · have hk2i : (k2 : Int) < (k : Int) := by omega
                            have hk20 : (0 : Int) ≤ (k2 : Int) := by omega
                            have hk2n : (k2 : Int) < (x.hosts.length : Int) := by omega
                            have hl2 : k2 < x.hosts.length := by omega
                            have X1 := HI.out.2.drew
                            obtain ⟨y, hy⟩ : ∃ y, y = x.hosts[k2] := ⟨_, rfl⟩
                            have t1 := texts_at X1.tx k2 hl2
                            have t2 := texts_at X1.tx k hlt
                            rw [← hy] at t1
                            rw [← HT.out] at t2
                            have b2 : wr.drew.cell? ⟨g, 2, none⟩ = some (.slice (some ⟨gh, o, none⟩) x.hosts.length cap) := X1.box.cell 2
                            have te := text_eq y t
                            obtain ⟨b, hb⟩ : ∃ b, b = (y == t) := ⟨_, rfl⟩
                            rw [← hb] at te
                            have HY := Lib.hid (And.intro hb hy)
                            clear hb hy HJ5
                            go_wp2_with fail
                            go_region_held3 (fun w' => w'.cell? ⟨g, 2, none⟩ = some (.slice (some ⟨gh, o, none⟩) x.hosts.length cap) ∧ w'.cell? ⟨gh, o + k2, none⟩ = some (.string (ofL y)) ∧ w'.cell? ⟨gh, o + k, none⟩ = some (.string (ofL t))) (exact ⟨b2, t1, t2⟩) (fail)
                            have X2 := Lib.hid X1
                            clear X1 b2 t1 t2
                            cases b with
                            | true =>
                              have HV : Hid (hostsB (x.hosts.take k) (x.hosts.drop k) = false) := Lib.hid (by
                                obtain ⟨q1, q2⟩ := HY.out
                                rw [HS.out]
                                have : (x.hosts.take k).contains t = true := by
                                  rw [List.contains_eq_any_beq, List.any_eq_true]
                                  refine ⟨y, ?_, ?_⟩
                                  · rw [q2]
                                    refine List.mem_iff_getElem.2 ⟨k2, by rw [List.length_take]; omega, by rw [List.getElem_take]⟩
                                  · have e : y = t := eq_of_beq q1.symm
                                    rw [e]
                                    exact beq_self_eq_true t
                                rw [this]
                                rfl)
                              clear HHost HI
                              go_wp2_with fail
                              go_ret
                              exact ⟨ret_bool (by rw [HK0.out, HV.out] <;> rfl), HG.out ▸ X2.out.below⟩
                            | false =>
                              have HK : Hid (Fresh x.hosts k (k2 + 1) ∧ Cb w g #[.string (ofL x.name), .int .i64 x.policy, .slice (some ⟨gh, o, none⟩) x.hosts.length cap, .int .i64 x.conns, .int .i64 x.pending, .int .i64 x.try_, .int .i64 x.fails, .int .i64 x.eject, .int .i64 x.panic] (.slice (some ⟨gh, o, none⟩) x.hosts.length cap) x.hosts wr.drew) := Lib.hid ⟨fun j hj hi hjk => by
                                rcases Nat.lt_or_ge j k2 with h | h
                                · exact HI.out.1 j hj hi h
                                · obtain rfl : j = k2 := by omega
                                  obtain ⟨q1, q2⟩ := HY.out
                                  have q3 := HT.out
                                  rw [← q2, ← q3]
                                  exact q1.symm, X2.out⟩
                              clear HI X2
                              go_wp2_with fail
                              go_roundw
                              case rel => exact ⟨k2 + 1, by omega, by go_num, HK⟩
                              case measure => simp [intOf]; omega
                          · have hkk : ¬ (k2 : Int) < (k : Int) := by omega
                            obtain rfl : k2 = k := by omega
                            have HK : Hid (hostsB [] x.hosts = hostsB (x.hosts.take (k2 + 1)) (x.hosts.drop (k2 + 1)) ∧ Cb w g #[.string (ofL x.name), .int .i64 x.policy, .slice (some ⟨gh, o, none⟩) x.hosts.length cap, .int .i64 x.conns, .int .i64 x.pending, .int .i64 x.try_, .int .i64 x.fails, .int .i64 x.eject, .int .i64 x.panic] (.slice (some ⟨gh, o, none⟩) x.hosts.length cap) x.hosts wr) := Lib.hid ⟨by
                              rw [HK0.out, HS.out]
                              have q3 := HI.out.1.all hlt
                              rw [← HT.out] at q3
                              rw [q3]
                              rfl, HI.out.2⟩
                            clear HI HJ5 HHost hlt2
                            go_wp2_with fail
                            go_roundw
                            case rel => exact ⟨k2 + 1, by omega, by go_num, HK⟩
                            case measure => simp [intOf]; omega
                    · have hki : ¬ (k : Int) < (x.hosts.length : Int) := by omega
                      obtain rfl : k = x.hosts.length := by omega
                      have HV : Hid (hostsB [] x.hosts = true) := Lib.hid (by rw [HJ.out.1, List.drop_length]; rfl)
                      have X2 := Lib.hid HJ.out.2
                      clear HJ HHost hlt
                      go_wp2_with fail
                      go_ret
                      exact ⟨ret_bool HV.out.symm, HG.out ▸ X2.out.below⟩
end Go.Proofs.YtfihehobkbfmiaaGreatDoor.R14Clus

/- Layer 14, the document's own forward and Route. -/
namespace Go.Proofs.YtfihehobkbfmiaaGreatDoor.R14Rout
open Go.ChangeShapes Go.WideShapes Go.ChangeAt Go.RowKit Bytes LexPure ConfPure ConfMem Ret Mem Texts R14In R14Name R14Host R14Clus
set_option maxRecDepth 100000
set_option linter.unusedVariables false
set_option linter.unusedSimpArgs false
abbrev RT : TypeId := 45
theorem ite_int (n m : Int) (A B : Bool) : (if n = m then A else B) = cond (n == m) A B := by
  by_cases h : n = m
  · rw [if_pos h, h, beq_self_eq_true]; rfl
  · rw [if_neg h, beq_false_of_ne h]; rfl
theorem ite_list (l m : L) (A B : Bool) : (if l = m then A else B) = cond (l == m) A B := by
  by_cases h : l = m
  · rw [if_pos h, h, beq_self_eq_true]; rfl
  · rw [if_neg h, beq_false_of_ne h]; rfl
/-- the name of the i-th -/
theorem name_at {w : World} {p : Option Addr} {n cap : Nat} {G : List Clus} (h : Cluss w (.slice p n cap) G) (i : Nat) (hi : i < G.length) : ∃ g o, p = some ⟨g, o, none⟩ ∧ w.cell? ⟨g, o + i * 9, none⟩ = some (.string (ofL G[i].name)) := by
  obtain ⟨p2, c2, heq, _, hc⟩ := h.parts
  injection heq with e1 e2 e3
  obtain ⟨g, o, hp, _, hcell⟩ := hc (by omega)
  obtain ⟨_, _, c0, _⟩ := hcell i hi
  exact ⟨g, o, e1.trans hp, c0⟩
/-- a route's box, the clusters beside it -/
structure Rb (w : World) (g : Nat) (cs : Array Value) (v : Value) (G : List Clus) (W : World) : Prop where
  box : Has W g RT cs
  cl : Cluss W v G
  below : Below g w W
theorem Rb.call {w W W' : World} {g : Nat} {cs : Array Value} {v : Value} {G : List Clus} (x : Rb w g cs v G W) (hb : Below W.heap.size W W') : Rb w g cs v G W' :=
  ⟨x.box.below hb x.box.lt, x.cl.below hb, ⟨hb.os.trans x.below.os, hb.tape.trans x.below.tape, hb.output.trans x.below.output, Nat.le_trans x.below.size hb.size, fun i hi => (hb.block i (Nat.lt_trans hi x.box.lt)).trans (x.below.block i hi)⟩⟩
theorem cluss_drew {w : World} {v : Value} {G : List Clus} (h : Cluss w v G) : Cluss w.drew v G := by
  obtain ⟨hv, h1, h2⟩ := h
  exact ⟨hv, h1, h2⟩
theorem Rb.drew {w W : World} {g : Nat} {cs : Array Value} {v : Value} {G : List Clus} (x : Rb w g cs v G W) : Rb w g cs v G W.drew := ⟨x.box.drew, cluss_drew x.cl, below_drew x.below⟩
theorem cluss_drewN {w : World} {v : Value} {G : List Clus} (h : Cluss w v G) (m : Nat) : Cluss (w.drewN m) v G := by
  obtain ⟨hv, h1, h2⟩ := h
  exact ⟨hv, h1, h2⟩
theorem Rb.drewN {w W : World} {g : Nat} {cs : Array Value} {v : Value} {G : List Clus} (x : Rb w g cs v G W) (m : Nat) : Rb w g cs v G (W.drewN m) := ⟨x.box.drewN m, cluss_drewN x.cl m, ⟨x.below.os, x.below.tape, x.below.output, x.below.size, x.below.block⟩⟩
theorem Rb.start {w : World} {cs : Array Value} {v : Value} {G : List Clus} (hT : Cluss w v G) : Rb w w.heap.size cs v G (w.alloc (.cells cs RT)) :=
  ⟨Has.new w _ _, hT.below ((Below.refl _ _).alloc (Nat.le_refl _) _), (Below.refl _ _).alloc (Nat.le_refl _) _⟩
theorem any_step (G : List Clus) (n : L) (k : Nat) (h : k < G.length) : (G.take (k + 1)).any (fun c => c.name == n) = ((G.take k).any (fun c => c.name == n) || G[k].name == n) := by
  rw [List.take_succ_eq_append_getElem h, List.any_append]
  simp
set_option maxHeartbeats 6400000 in
theorem rforward_any (x : Rout) (hx : FitRout x) (G : List Clus) (v : Value) (hG : G.length ≤ 1048576) (w : World) (hC : Cluss w v G) :
    Calls Tryz.prog 101 #[.agg #[.bool x.pre, .string (ofL x.path), .string (ofL x.method), .string (ofL x.field), .string (ofL x.value), .int .i64 x.action, .string (ofL x.cluster), .int .i64 x.status, .string (ofL x.text), .string (ofL x.rewrite), .int .i64 x.retries, .int .i64 x.timeout, .bool x.upgrade], v] w fun e w' => e = .returned (.bool (forwB x G)) ∧ Below w.heap.size w w' := by
  have hC0 := hC
  obtain ⟨p, cap, rfl, _, _⟩ := hC0.parts
  have HB := Lib.hid (Rb.start (cs := #[.bool x.pre, .string (ofL x.path), .string (ofL x.method), .string (ofL x.field), .string (ofL x.value), .int .i64 x.action, .string (ofL x.cluster), .int .i64 x.status, .string (ofL x.text), .string (ofL x.rewrite), .int .i64 x.retries, .int .i64 x.timeout, .bool x.upgrade]) hC)
  have H3 := Lib.hid (fun w => rin_any x.retries 0 5 w)
  have H4 := Lib.hid (fun w => rin_any x.timeout 1 TICK w)
  have H9 := Lib.hid (fun w => rnorm_any (ofL x.rewrite) (by rw [ofL_size]; exact hx.rewrite) w)
  rw [toL_ofL] at H9
  obtain ⟨r0, hr0⟩ : ∃ r0, r0 = G.any (fun c => c.name == x.cluster) := ⟨_, rfl⟩
  obtain ⟨r1, hr1⟩ : ∃ r1, r1 = (x.status == 0) := ⟨_, rfl⟩
  have yr1b : (x.status != 0) = !r1 := by rw [hr1]; rfl
  have yr1a : (x.status == 0) = r1 := hr1.symm
  obtain ⟨r2, hr2⟩ : ∃ r2, r2 = (x.text == []) := ⟨_, rfl⟩
  have yr2a : ((ofL x.text).toList == []) = r2 := by rw [hr2, ByteArray.toList_eq]; show (toL (ofL x.text) == []) = _; rw [toL_ofL]
  have yr2b : ((ofL x.text).toList != []) = !r2 := by rw [← yr2a]; rfl
  have yr2c : (ofL x.text).toList.isEmpty = r2 := by rw [← yr2a]; cases (ofL x.text).toList <;> rfl
  obtain ⟨r3, hr3⟩ : ∃ r3, r3 = inB x.retries 0 5 := ⟨_, rfl⟩
  obtain ⟨r4, hr4⟩ : ∃ r4, r4 = inB x.timeout 1 TICK := ⟨_, rfl⟩
  obtain ⟨r5, hr5⟩ : ∃ r5, r5 = (x.method == CONNECT) := ⟨_, rfl⟩
  have yr5a : ((ofL x.method).toList == [67, 79, 78, 78, 69, 67, 84]) = r5 := by rw [hr5, ByteArray.toList_eq]; show (toL (ofL x.method) == [67, 79, 78, 78, 69, 67, 84]) = _; rw [toL_ofL]; rfl
  have yr5b : ((ofL x.method).toList != [67, 79, 78, 78, 69, 67, 84]) = !r5 := by rw [← yr5a]; rfl
  obtain ⟨r6, hr6⟩ : ∃ r6, r6 = (x.rewrite == []) := ⟨_, rfl⟩
  have yr6a : ((ofL x.rewrite).toList == []) = r6 := by rw [hr6, ByteArray.toList_eq]; show (toL (ofL x.rewrite) == []) = _; rw [toL_ofL]
  have yr6b : ((ofL x.rewrite).toList != []) = !r6 := by rw [← yr6a]; rfl
  have yr6c : (ofL x.rewrite).toList.isEmpty = r6 := by rw [← yr6a]; cases (ofL x.rewrite).toList <;> rfl
  obtain ⟨r7, hr7⟩ : ∃ r7, r7 = (x.retries == 0) := ⟨_, rfl⟩
  have yr7b : (x.retries != 0) = !r7 := by rw [hr7]; rfl
  have yr7a : (x.retries == 0) = r7 := hr7.symm
  obtain ⟨r9, hr9⟩ : ∃ r9, r9 = normalB x.rewrite := ⟨_, rfl⟩
  rw [← hr3] at H3
  rw [← hr4] at H4
  rw [← hr9] at H9
  unfold TICK at H4
  have HV : Hid (forwB x G = (r0 && r1 && r2 && r3 && r4 && cond r5 (r6 && r7 && !x.upgrade) (r6 || r9))) := Lib.hid (by
    unfold forwB
    rw [ite_list, hr0, hr1, hr2, hr3, hr4, hr5, hr6, hr7, hr9])
  have HR0 := Lib.hid hr0
  obtain ⟨up, hup⟩ : ∃ up, up = x.upgrade := ⟨_, rfl⟩
  rw [← hup] at HV HB ⊢
  clear hr0 hr1 hr2 hr3 hr4 hr5 hr6 hr7 hr9 hC hC0 hx hup
  obtain ⟨g, hg⟩ : ∃ g, g = w.heap.size := ⟨_, rfl⟩
  rw [← hg] at HB ⊢
  have HGe := Lib.hid hg
  clear hg
  unfold RT at HB
  go_enter Tryz.func101, Tryz.ntmps101
  go_wp2_with fail
  rw [← HGe.out]
  generalize w.alloc (.cells #[.bool x.pre, .string (ofL x.path), .string (ofL x.method), .string (ofL x.field), .string (ofL x.value), .int .i64 x.action, .string (ofL x.cluster), .int .i64 x.status, .string (ofL x.text), .string (ofL x.rewrite), .int .i64 x.retries, .int .i64 x.timeout, .bool up] 45) = W1 at HB ⊢
  go_loopw [5, 6] (fun kn i wr => ∃ k : Nat, k ≤ G.length ∧ i = .int .i64 k ∧ kn = .bool ((G.take k).any (fun c => c.name == x.cluster)) ∧ Hid (Rb w g #[.bool x.pre, .string (ofL x.path), .string (ofL x.method), .string (ofL x.field), .string (ofL x.value), .int .i64 x.action, .string (ofL x.cluster), .int .i64 x.status, .string (ofL x.text), .string (ofL x.rewrite), .int .i64 x.retries, .int .i64 x.timeout, .bool up] (.slice p G.length cap) G wr)) (fun _ i _ => G.length - (intOf i).toNat)
  case atStart => exact ⟨0, Nat.zero_le _, rfl, rfl, HB⟩
  case round =>
    obtain ⟨k, hk, rfl, rfl, HJ⟩ := hrel
    clear HB
    by_cases hlt : k < G.length
    · have hki : (k : Int) < (G.length : Int) := by omega
      have hk0 : (0 : Int) ≤ (k : Int) := by omega
      obtain ⟨gc, o, rfl, c1⟩ := name_at HJ.out.cl k hlt
      have b6 : wr.cell? ⟨g, 6, none⟩ = some (.string (ofL x.cluster)) := HJ.out.box.cell 6
      have HS := Lib.hid (any_step G x.cluster k hlt)
      obtain ⟨y, hy⟩ : ∃ y, y = G[k].name := ⟨_, rfl⟩
      rw [← hy] at c1 HS
      have te := text_eq y x.cluster
      obtain ⟨b, hb⟩ : ∃ b, b = (y == x.cluster) := ⟨_, rfl⟩
      rw [← hb] at te HS
      have HK := Lib.hid (fun m => HJ.out.drewN m)
      clear hy hb HJ
      generalize (G.take k).any (fun c => c.name == x.cluster) = kn at *
      cases kn with
      | true =>
        go_wp2_with fail
        go_quiet (fail)
        clear b6 c1 te
        go_wp2_with fail
        go_roundw
        case rel => exact ⟨k + 1, by omega, by go_num, by rw [HS.out]; rfl, Lib.hid (HK.out _)⟩
        case measure => simp [intOf]; omega
      | false =>
        go_wp2_with fail
        go_quiet (fail)
        clear b6 c1 te
        go_wp2_with fail
        go_roundw
        case rel => exact ⟨k + 1, by omega, by go_num, by rw [HS.out]; rfl, Lib.hid (HK.out _)⟩
        case measure => simp [intOf]; omega
    · have hki : ¬ (k : Int) < (G.length : Int) := by omega
      obtain rfl : k = G.length := by omega
      have hany : (G.take G.length).any (fun c => c.name == x.cluster) = r0 := by rw [List.take_length, HR0.out]
      rw [hany]
      have HJ2 := HJ
      have b2 : wr.cell? ⟨g, 2, none⟩ = some (.string (ofL x.method)) := HJ2.out.box.cell 2
      have b7 : wr.cell? ⟨g, 7, none⟩ = some (.int .i64 x.status) := HJ2.out.box.cell 7
      have b8 : wr.cell? ⟨g, 8, none⟩ = some (.string (ofL x.text)) := HJ2.out.box.cell 8
      have b9 : wr.cell? ⟨g, 9, none⟩ = some (.string (ofL x.rewrite)) := HJ2.out.box.cell 9
      have b10 : wr.cell? ⟨g, 10, none⟩ = some (.int .i64 x.retries) := HJ2.out.box.cell 10
      have b11 : wr.cell? ⟨g, 11, none⟩ = some (.int .i64 x.timeout) := HJ2.out.box.cell 11
      have b12 : wr.cell? ⟨g, 12, none⟩ = some (.bool up) := HJ2.out.box.cell 12
      clear HJ hlt hany HR0
      cases r0 with
      | false =>
        go_wp2_with fail
        go_ret
        exact ⟨ret_bool (by rw [HV.out] <;> rfl), HGe.out ▸ HJ2.out.below⟩
      | true =>
      cases r1 with
      | false =>
        go_wp2_with fail
        go_ret
        exact ⟨ret_bool (by rw [HV.out] <;> rfl), HGe.out ▸ HJ2.out.below⟩
      | true =>
      cases r2 with
      | false =>
        go_wp2_with fail
        go_ret
        exact ⟨ret_bool (by rw [HV.out] <;> rfl), HGe.out ▸ HJ2.out.below⟩
      | true =>
      go_wp2_with fail
      refine (H3.out _).mono ?_
      rintro e w3 ⟨rfl, rfl⟩
      clear H3
      cases r3 with
      | false =>
        go_wp2_with fail
        go_ret
        exact ⟨ret_bool (by rw [HV.out] <;> rfl), HGe.out ▸ HJ2.out.below⟩
      | true =>
      go_wp2_with fail
      refine (H4.out _).mono ?_
      rintro e w4 ⟨rfl, rfl⟩
      clear H4
      cases r4 with
      | false =>
        go_wp2_with fail
        go_ret
        exact ⟨ret_bool (by rw [HV.out] <;> rfl), HGe.out ▸ HJ2.out.below⟩
      | true =>
      cases r5 with
      | true =>
        cases r6 <;> cases r7 <;> cases up
        · go_wp2_with fail
          go_ret
          exact ⟨ret_bool (by rw [HV.out] <;> rfl), HGe.out ▸ HJ2.out.below⟩
        · go_wp2_with fail
          go_ret
          exact ⟨ret_bool (by rw [HV.out] <;> rfl), HGe.out ▸ HJ2.out.below⟩
        · go_wp2_with fail
          go_ret
          exact ⟨ret_bool (by rw [HV.out] <;> rfl), HGe.out ▸ HJ2.out.below⟩
        · go_wp2_with fail
          go_ret
          exact ⟨ret_bool (by rw [HV.out] <;> rfl), HGe.out ▸ HJ2.out.below⟩
        · go_wp2_with fail
          go_ret
          exact ⟨ret_bool (by rw [HV.out] <;> rfl), HGe.out ▸ HJ2.out.below⟩
        · go_wp2_with fail
          go_ret
          exact ⟨ret_bool (by rw [HV.out] <;> rfl), HGe.out ▸ HJ2.out.below⟩
        · go_wp2_with fail
          go_ret
          exact ⟨ret_bool (by rw [HV.out] <;> rfl), HGe.out ▸ HJ2.out.below⟩
        · go_wp2_with fail
          go_ret
          exact ⟨ret_bool (by rw [HV.out] <;> rfl), HGe.out ▸ HJ2.out.below⟩
      | false =>
        cases r6 with
        | true =>
          go_wp2_with fail
          go_ret
          exact ⟨ret_bool (by rw [HV.out] <;> rfl), HGe.out ▸ HJ2.out.below⟩
        | false =>
          go_wp2_with fail
          refine (H9.out _).mono ?_
          rintro e w5 ⟨rfl, hb5⟩
          have HJ3 := Lib.hid (HJ2.out.call hb5)
          clear H9 hb5 HJ2
          cases r9 with
          | true =>
            go_wp2_with fail
            go_ret
            exact ⟨ret_bool (by rw [HV.out] <;> rfl), HGe.out ▸ HJ3.out.below⟩
          | false =>
            go_wp2_with fail
            go_ret
            exact ⟨ret_bool (by rw [HV.out] <;> rfl), HGe.out ▸ HJ3.out.below⟩
end Go.Proofs.YtfihehobkbfmiaaGreatDoor.R14Rout
