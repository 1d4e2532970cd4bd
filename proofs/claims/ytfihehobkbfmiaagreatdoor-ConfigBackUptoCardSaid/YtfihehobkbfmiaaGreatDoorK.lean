/- Texts of this seat, one behind another: ConfigBackW. -/

import Derived.Test.YtfihehobkbfmiaaGreatDoorB
import Derived.Test.YtfihehobkbfmiaaGreatDoorA11
import Derived.Test.YtfihehobkbfmiaaGreatDoorA12
import Derived.Test.YtfihehobkbfmiaaGreatDoorS
import Derived.Test.YtfihehobkbfmiaaGreatDoorC
/- A right config, written and read, is the same config, and one that isn't right can't be read out of any text: ConfigBack returns true, whatever the config. -/
namespace Go.Proofs.YtfihehobkbfmiaaGreatDoor.ConfigBackW
open Go.ChangeShapes Go.WideShapes Go.ChangeAt Go.RowKit Bytes LexPure ConfPure ConfBack ConfMem ConfObj R14Bnd R14Name R14Vhost R14Check Ret Mem
set_option maxRecDepth 100000
set_option linter.unusedVariables false
set_option linter.unusedSimpArgs false
theorem self_text (s : ByteArray) : (s.toList == s.toList) = true := beq_self_eq_true _
theorem kcells2 {w W : World} {ga gb : Nat} {c : Conf} {f1 c1 v1 f2 c2 v2 : Value} (h : R14Same.K2 w ga gb c f1 c1 v1 f2 c2 v2 W) : (W.cell? ⟨ga, 0, none⟩ = some (.int .i64 c.conns) ∧ W.cell? ⟨ga, 1, none⟩ = some (.int .i64 c.body) ∧ W.cell? ⟨ga, 2, none⟩ = some (.int .i64 c.idle) ∧ W.cell? ⟨ga, 3, none⟩ = some (.int .i64 c.grace) ∧ W.cell? ⟨ga, 4, none⟩ = some (.int .i64 c.budget) ∧ W.cell? ⟨ga, 5, none⟩ = some (.int .i64 c.seed) ∧ W.cell? ⟨ga, 6, none⟩ = some f1 ∧ W.cell? ⟨ga, 7, none⟩ = some c1 ∧ W.cell? ⟨ga, 8, none⟩ = some v1) ∧
    (W.cell? ⟨gb, 0, none⟩ = some (.int .i64 c.conns) ∧ W.cell? ⟨gb, 1, none⟩ = some (.int .i64 c.body) ∧ W.cell? ⟨gb, 2, none⟩ = some (.int .i64 c.idle) ∧ W.cell? ⟨gb, 3, none⟩ = some (.int .i64 c.grace) ∧ W.cell? ⟨gb, 4, none⟩ = some (.int .i64 c.budget) ∧ W.cell? ⟨gb, 5, none⟩ = some (.int .i64 c.seed) ∧ W.cell? ⟨gb, 6, none⟩ = some f2 ∧ W.cell? ⟨gb, 7, none⟩ = some c2 ∧ W.cell? ⟨gb, 8, none⟩ = some v2) :=
  ⟨⟨h.b1.cell 0, h.b1.cell 1, h.b1.cell 2, h.b1.cell 3, h.b1.cell 4, h.b1.cell 5, h.b1.cell 6, h.b1.cell 7, h.b1.cell 8⟩, h.b2.cell 0, h.b2.cell 1, h.b2.cell 2, h.b2.cell 3, h.b2.cell 4, h.b2.cell 5, h.b2.cell 6, h.b2.cell 7, h.b2.cell 8⟩
set_option maxHeartbeats 12800000 in
theorem walkIn (c : Conf) (vf vc vv : Value) (hx : FitConf c) (w : World) (hm : Fit w) (hC : CF w vf vc vv c) :
    Calls Tryz.prog 4 #[.agg (confV c vf vc vv)] w fun e w' => e = .returned (.bool true) ∧ Below w.heap.size w w' := by
  have HAn := Lib.hid (fun w h => L14Anchor.anchor_any w h)
  have HChk := Lib.hid (fun w h hC => pcheck_any c vf vc vv hx w h hC)
  have HPr := Lib.hid (fun hk w h hC => pprint_any c vf vc vv hx hk w h hC)
  have HPr2 := Lib.hid (fun hk w hC => R14Print.rprint_any c vf vc vv hx hk w hC)
  have HB := Lib.hid (Kb.start hC)
  have HX := Lib.hid hx
  have HM := Lib.hid hm
  obtain ⟨⟨pf1, cf1, rfl⟩, ⟨pc1, cc1, rfl⟩, ⟨pv1, cv1, rfl⟩⟩ := R14Bnd.CF.vals hC
  obtain ⟨g, hg⟩ : ∃ g, g = w.heap.size := ⟨_, rfl⟩
  rw [← hg] at HB
  have HG := Lib.hid hg
  clear hg hx hC hm
  unfold confV at HChk HPr HPr2 ⊢
  have HAll := HB.out
  unfold CT at HAll
  go_enter Tryz.func4, Tryz.ntmps4
  go_wp2_with fail
  rw [← HG.out]
  have K1 := Lib.hid HAll
  clear HB HAll
  have hb1 : Below w.heap.size w (w.alloc (.cells #[.int .i64 c.conns, .int .i64 c.body, .int .i64 c.idle, .int .i64 c.grace, .int .i64 c.budget, .int .i64 c.seed, .slice pf1 c.filters.length cf1, .slice pc1 c.clusters.length cc1, .slice pv1 c.vhosts.length cv1] 26)) := HG.out ▸ K1.out.below
  unfold confV at K1
  refine (HAn.out _ (HM.out.below hb1)).mono ?_
  rintro e w2 ⟨rfl, hb2⟩
  have K2 := Lib.hid (K1.out.call hb2)
  clear K1 hb1 hb2 HAn
  have B2 := K2.out.box
  unfold confV CT at B2
  have c0 : w2.cell? ⟨g, 0, none⟩ = some (.int .i64 c.conns) := B2.cell 0
  have c1 : w2.cell? ⟨g, 1, none⟩ = some (.int .i64 c.body) := B2.cell 1
  have c2 : w2.cell? ⟨g, 2, none⟩ = some (.int .i64 c.idle) := B2.cell 2
  have c3 : w2.cell? ⟨g, 3, none⟩ = some (.int .i64 c.grace) := B2.cell 3
  have c4 : w2.cell? ⟨g, 4, none⟩ = some (.int .i64 c.budget) := B2.cell 4
  have c5 : w2.cell? ⟨g, 5, none⟩ = some (.int .i64 c.seed) := B2.cell 5
  have c6 : w2.cell? ⟨g, 6, none⟩ = some (.slice pf1 c.filters.length cf1) := B2.cell 6
  have c7 : w2.cell? ⟨g, 7, none⟩ = some (.slice pc1 c.clusters.length cc1) := B2.cell 7
  have c8 : w2.cell? ⟨g, 8, none⟩ = some (.slice pv1 c.vhosts.length cv1) := B2.cell 8
  clear B2
  go_wp2_with fail
  refine (HChk.out _ (HM.out.below (HG.out ▸ K2.out.below)) K2.out.cf).mono ?_
  rintro e w3 ⟨rfl, hb3⟩
  have K3 := Lib.hid (K2.out.call hb3)
  clear K2 HChk hb3 c0 c1 c2 c3 c4 c5 c6 c7 c8
  have HE : Hid (Below w.heap.size w w3) := Lib.hid (HG.out ▸ K3.out.below)
  obtain ⟨E, hE⟩ : ∃ E, Hid (E = check14 c) := ⟨_, Lib.hid rfl⟩
  rw [← hE.out]
  by_cases h1 : ¬ E = 0
  · have q1 : (E == 0) = false := beq_false_of_ne h1
    have q2 : (E != 0) = true := bne_iff_ne.2 h1
    have HP := Lib.hid (pparse_any ⟨#[]⟩ (by decide) (by rw [show toL ⟨#[]⟩ = [] from rfl]; exact fit_of empty14 (.inr rfl) (fun e => absurd e (by decide))) w3 (HM.out.below HE.out))
    rw [show toL ⟨#[]⟩ = [] from rfl, empty14] at HP
    dsimp only at HP
    clear hE K3 HPr HPr2
    go_wp2_with fail
    refine HP.out.mono ?_
    rintro e w5 ⟨vf5, vc5, vv5, rfl, hC5, hb5⟩
    obtain ⟨⟨pf5, cf5, rfl⟩, ⟨pc5, cc5, rfl⟩, ⟨pv5, cv5, rfl⟩⟩ := R14Bnd.CF.vals hC5
    have HF := Lib.hid (below_chain (below_chain HE.out hb5) ((Below.refl w5.heap.size w5).alloc (Nat.le_refl _) (.cells (confV zeroC (.slice pf5 zeroC.filters.length cf5) (.slice pc5 zeroC.clusters.length cc5) (.slice pv5 zeroC.vhosts.length cv5)) 26)))
    clear hb5 hC5 HP
    unfold confV zeroC at HF
    unfold confV zeroC
    go_wp2_with fail
    go_ret
    exact ⟨rfl, HF.out⟩
  replace h1 : E = 0 := Decidable.of_not_not h1
  have hk : check14 c = 0 := hE.out.symm.trans h1
  clear hE
  subst h1
  have B3 := K3.out.box
  unfold confV CT at B3
  have c0 : w3.cell? ⟨g, 0, none⟩ = some (.int .i64 c.conns) := B3.cell 0
  have c1 : w3.cell? ⟨g, 1, none⟩ = some (.int .i64 c.body) := B3.cell 1
  have c2 : w3.cell? ⟨g, 2, none⟩ = some (.int .i64 c.idle) := B3.cell 2
  have c3 : w3.cell? ⟨g, 3, none⟩ = some (.int .i64 c.grace) := B3.cell 3
  have c4 : w3.cell? ⟨g, 4, none⟩ = some (.int .i64 c.budget) := B3.cell 4
  have c5 : w3.cell? ⟨g, 5, none⟩ = some (.int .i64 c.seed) := B3.cell 5
  have c6 : w3.cell? ⟨g, 6, none⟩ = some (.slice pf1 c.filters.length cf1) := B3.cell 6
  have c7 : w3.cell? ⟨g, 7, none⟩ = some (.slice pc1 c.clusters.length cc1) := B3.cell 7
  have c8 : w3.cell? ⟨g, 8, none⟩ = some (.slice pv1 c.vhosts.length cv1) := B3.cell 8
  clear B3
  go_wp2_with fail
  refine (HPr.out hk _ (HM.out.below HE.out) K3.out.cf).mono ?_
  rintro e w4 ⟨rfl, hb4⟩
  have K4 := Lib.hid (K3.out.call hb4)
  clear K3 HE HPr hb4 c0 c1 c2 c3 c4 c5 c6 c7 c8
  have HE : Hid (Below w.heap.size w w4) := Lib.hid (HG.out ▸ K4.out.below)
  have hLen : (print14 c).length ≤ 90000000000 := R14Print.print_len HX.out (right_of hk)
  have hpa : parse14 (toL (ofL (print14 c))) = (c, 0, 0) := by rw [toL_ofL]; exact back14 hk
  have HP := Lib.hid (pparse_any (ofL (print14 c)) (by rw [ofL_size]; omega) (fit_of hpa (.inl rfl) (fun _ => HX.out)) w4 (HM.out.below HE.out))
  rw [hpa] at HP
  dsimp only at HP
  obtain ⟨s, hs⟩ : ∃ s, s = ofL (print14 c) := ⟨_, rfl⟩
  have HP2 := Lib.hid (fun w hC => HPr2.out hk w hC)
  rw [← hs] at HP HP2 ⊢
  clear hLen hpa hs hk HPr2
  go_wp2_with fail
  refine HP.out.mono ?_
  rintro e w5 ⟨vf5, vc5, vv5, rfl, hC5, hb5⟩
  have hl5 : vf5 = vf5 := rfl
  obtain ⟨⟨pf2, cf2, rfl⟩, ⟨pc2, cc2, rfl⟩, ⟨pv2, cv2, rfl⟩⟩ := R14Bnd.CF.vals hC5
  clear hl5 HP
  have hba := (Below.refl w5.heap.size w5).alloc (Nat.le_refl _) (.cells (confV c (.slice pf2 c.filters.length cf2) (.slice pc2 c.clusters.length cc2) (.slice pv2 c.vhosts.length cv2)) 26)
  have K5 := K4.out.call hb5
  have K6 := K5.call hba
  have L6 : R14Same.K2 w g w5.heap.size c (.slice pf1 c.filters.length cf1) (.slice pc1 c.clusters.length cc1) (.slice pv1 c.vhosts.length cv1) (.slice pf2 c.filters.length cf2) (.slice pc2 c.clusters.length cc2) (.slice pv2 c.vhosts.length cv2) (w5.alloc (.cells (confV c (.slice pf2 c.filters.length cf2) (.slice pc2 c.clusters.length cc2) (.slice pv2 c.vhosts.length cv2)) 26)) := ⟨K6.box, Has.new w5 26 _, K6.cf, hC5.below hba, HG.out ▸ K6.below, by rw [HG.out]; exact Nat.le_refl _⟩
  have HL := Lib.hid L6
  clear K4 K5 K6 L6 hba hb5 hC5 HE
  unfold confV at HL
  unfold confV
  have s1 := self_text s
  have HSame := Lib.hid (fun w h1 h2 => R14Same.rsame_self c (.slice pf1 c.filters.length cf1) (.slice pc1 c.clusters.length cc1) (.slice pv1 c.vhosts.length cv1) (.slice pf2 c.filters.length cf2) (.slice pc2 c.clusters.length cc2) (.slice pv2 c.vhosts.length cv2) w h1 h2)
  unfold confV at HSame
  obtain ⟨gd, hgd⟩ : ∃ g, Hid (g = w5.heap.size) := ⟨_, Lib.hid rfl⟩
  rw [← hgd.out] at HL
  have HL6 := HL.out.b1
  have n0 : (w5.alloc (.cells #[.int .i64 c.conns, .int .i64 c.body, .int .i64 c.idle, .int .i64 c.grace, .int .i64 c.budget, .int .i64 c.seed, .slice pf2 c.filters.length cf2, .slice pc2 c.clusters.length cc2, .slice pv2 c.vhosts.length cv2] 26)).cell? ⟨g, 0, none⟩ = some (.int .i64 c.conns) := HL6.cell 0
  have n1 : (w5.alloc (.cells #[.int .i64 c.conns, .int .i64 c.body, .int .i64 c.idle, .int .i64 c.grace, .int .i64 c.budget, .int .i64 c.seed, .slice pf2 c.filters.length cf2, .slice pc2 c.clusters.length cc2, .slice pv2 c.vhosts.length cv2] 26)).cell? ⟨g, 1, none⟩ = some (.int .i64 c.body) := HL6.cell 1
  have n2 : (w5.alloc (.cells #[.int .i64 c.conns, .int .i64 c.body, .int .i64 c.idle, .int .i64 c.grace, .int .i64 c.budget, .int .i64 c.seed, .slice pf2 c.filters.length cf2, .slice pc2 c.clusters.length cc2, .slice pv2 c.vhosts.length cv2] 26)).cell? ⟨g, 2, none⟩ = some (.int .i64 c.idle) := HL6.cell 2
  have n3 : (w5.alloc (.cells #[.int .i64 c.conns, .int .i64 c.body, .int .i64 c.idle, .int .i64 c.grace, .int .i64 c.budget, .int .i64 c.seed, .slice pf2 c.filters.length cf2, .slice pc2 c.clusters.length cc2, .slice pv2 c.vhosts.length cv2] 26)).cell? ⟨g, 3, none⟩ = some (.int .i64 c.grace) := HL6.cell 3
  have n4 : (w5.alloc (.cells #[.int .i64 c.conns, .int .i64 c.body, .int .i64 c.idle, .int .i64 c.grace, .int .i64 c.budget, .int .i64 c.seed, .slice pf2 c.filters.length cf2, .slice pc2 c.clusters.length cc2, .slice pv2 c.vhosts.length cv2] 26)).cell? ⟨g, 4, none⟩ = some (.int .i64 c.budget) := HL6.cell 4
  have n5 : (w5.alloc (.cells #[.int .i64 c.conns, .int .i64 c.body, .int .i64 c.idle, .int .i64 c.grace, .int .i64 c.budget, .int .i64 c.seed, .slice pf2 c.filters.length cf2, .slice pc2 c.clusters.length cc2, .slice pv2 c.vhosts.length cv2] 26)).cell? ⟨g, 5, none⟩ = some (.int .i64 c.seed) := HL6.cell 5
  have n6 : (w5.alloc (.cells #[.int .i64 c.conns, .int .i64 c.body, .int .i64 c.idle, .int .i64 c.grace, .int .i64 c.budget, .int .i64 c.seed, .slice pf2 c.filters.length cf2, .slice pc2 c.clusters.length cc2, .slice pv2 c.vhosts.length cv2] 26)).cell? ⟨g, 6, none⟩ = some (.slice pf1 c.filters.length cf1) := HL6.cell 6
  have n7 : (w5.alloc (.cells #[.int .i64 c.conns, .int .i64 c.body, .int .i64 c.idle, .int .i64 c.grace, .int .i64 c.budget, .int .i64 c.seed, .slice pf2 c.filters.length cf2, .slice pc2 c.clusters.length cc2, .slice pv2 c.vhosts.length cv2] 26)).cell? ⟨g, 7, none⟩ = some (.slice pc1 c.clusters.length cc1) := HL6.cell 7
  have n8 : (w5.alloc (.cells #[.int .i64 c.conns, .int .i64 c.body, .int .i64 c.idle, .int .i64 c.grace, .int .i64 c.budget, .int .i64 c.seed, .slice pf2 c.filters.length cf2, .slice pc2 c.clusters.length cc2, .slice pv2 c.vhosts.length cv2] 26)).cell? ⟨g, 8, none⟩ = some (.slice pv1 c.vhosts.length cv1) := HL6.cell 8
  clear HL6
  go_wp2_with fail
  rw [← hgd.out]
  generalize w5.alloc (.cells #[.int .i64 c.conns, .int .i64 c.body, .int .i64 c.idle, .int .i64 c.grace, .int .i64 c.budget, .int .i64 c.seed, .slice pf2 c.filters.length cf2, .slice pc2 c.clusters.length cc2, .slice pv2 c.vhosts.length cv2] 26) = W6 at HL ⊢
  clear n0 n1 n2 n3 n4 n5 n6 n7 n8
  refine (HSame.out _ HL.out.c1 HL.out.c2).mono ?_
  rintro e w7 ⟨rfl, hb7⟩
  have HL7 := Lib.hid (HL.out.call hb7)
  clear HSame HL hb7
  have B7 := HL7.out.b1
  have n0 : w7.cell? ⟨g, 0, none⟩ = some (.int .i64 c.conns) := B7.cell 0
  have n1 : w7.cell? ⟨g, 1, none⟩ = some (.int .i64 c.body) := B7.cell 1
  have n2 : w7.cell? ⟨g, 2, none⟩ = some (.int .i64 c.idle) := B7.cell 2
  have n3 : w7.cell? ⟨g, 3, none⟩ = some (.int .i64 c.grace) := B7.cell 3
  have n4 : w7.cell? ⟨g, 4, none⟩ = some (.int .i64 c.budget) := B7.cell 4
  have n5 : w7.cell? ⟨g, 5, none⟩ = some (.int .i64 c.seed) := B7.cell 5
  have n6 : w7.cell? ⟨g, 6, none⟩ = some (.slice pf1 c.filters.length cf1) := B7.cell 6
  have n7 : w7.cell? ⟨g, 7, none⟩ = some (.slice pc1 c.clusters.length cc1) := B7.cell 7
  have n8 : w7.cell? ⟨g, 8, none⟩ = some (.slice pv1 c.vhosts.length cv1) := B7.cell 8
  clear B7
  go_wp2_with fail
  refine (HP2.out _ HL7.out.c1).mono ?_
  rintro e w8 ⟨rfl, hb8⟩
  have HE := Lib.hid (HL7.out.call hb8).below
  clear HP2 HL7 hb8 n0 n1 n2 n3 n4 n5 n6 n7 n8
  go_wp2_with fail
  go_ret
  exact ⟨rfl, HE.out⟩
theorem walk {H : Type} {enc : TypeId × Value → H} {W : World} {base : Nat} (v : Value) (d : DataW H) (p : List MemPlace) (hv : Value.okWide Tryz.prog W .any base 26 v)
    (hd : DataW.Trod enc Tryz.prog W 0 (fun _ => true) true 26 v d p) (hl : ∀ x ∈ p, x.block < W.heap.size) (hb : Rows.uptoBulk d ≤ 1048576)
    (hsh : W.ShapedOpen Tryz.prog) (hlaid : laidMetH Tryz.prog Rows.configBackUptoRow.laid W) :
    Calls Tryz.prog 4 #[v] W fun e w' => e = .returned (.bool true) ∧ Below W.heap.size W w' := by
  obtain ⟨c, vf, vc, vv, rfl, hC, hx⟩ := ConfArg.conf_arg hv hd hb
  exact walkIn c vf vc vv hx W (Fit.of hsh (ConfObj.pow_of_laid rfl hlaid)) hC
end Go.Proofs.YtfihehobkbfmiaaGreatDoor.ConfigBackW
