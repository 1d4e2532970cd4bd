/- Texts of this seat, one behind another: ConfigChecksW. -/

import Derived.Test.YtfihehobkbfmiaaGreatDoorB
import Derived.Test.YtfihehobkbfmiaaGreatDoorA11
import Derived.Test.YtfihehobkbfmiaaGreatDoorC
/- What is wrong first in any config is what the document says: ConfigChecks returns true, whatever the config. -/
namespace Go.Proofs.YtfihehobkbfmiaaGreatDoor.ConfigChecksW
open Go.ChangeShapes Go.WideShapes Go.ChangeAt Go.RowKit Bytes LexPure ConfPure ConfMem ConfObj R14Bnd R14Name R14Vhost R14Check Ret Mem
set_option maxRecDepth 100000
set_option linter.unusedVariables false
set_option linter.unusedSimpArgs false
/-- a config's cells -/
theorem kcells {w W : World} {g : Nat} {c : Conf} {vf vc vv : Value} (h : Kb w g c vf vc vv W) : W.cell? ⟨g, 0, none⟩ = some (.int .i64 c.conns) ∧ W.cell? ⟨g, 1, none⟩ = some (.int .i64 c.body) ∧ W.cell? ⟨g, 2, none⟩ = some (.int .i64 c.idle) ∧ W.cell? ⟨g, 3, none⟩ = some (.int .i64 c.grace) ∧
    W.cell? ⟨g, 4, none⟩ = some (.int .i64 c.budget) ∧ W.cell? ⟨g, 5, none⟩ = some (.int .i64 c.seed) ∧ W.cell? ⟨g, 6, none⟩ = some vf ∧ W.cell? ⟨g, 7, none⟩ = some vc ∧ W.cell? ⟨g, 8, none⟩ = some vv :=
  ⟨h.box.cell 0, h.box.cell 1, h.box.cell 2, h.box.cell 3, h.box.cell 4, h.box.cell 5, h.box.cell 6, h.box.cell 7, h.box.cell 8⟩
set_option maxHeartbeats 3200000 in
theorem walkIn (c : Conf) (vf vc vv : Value) (hx : FitConf c) (w : World) (hm : Fit w) (hC : CF w vf vc vv c) :
    Calls Tryz.prog 3 #[.agg (confV c vf vc vv)] w fun e w' => e = .returned (.bool true) ∧ Below w.heap.size w w' := by
  have HAn := Lib.hid (fun w h => L14Anchor.anchor_any w h)
  have H1 := Lib.hid (fun w h hC => pcheck_any c vf vc vv hx w h hC)
  have H2 := Lib.hid (fun w hC => rcheck_any c vf vc vv hx w hC)
  have HB := Lib.hid (Kb.start hC)
  have HM := Lib.hid hm
  obtain ⟨⟨pf, cf, rfl⟩, ⟨pc, cc, rfl⟩, ⟨pv, cv, rfl⟩⟩ := R14Bnd.CF.vals hC
  generalize check14 c = E at *
  obtain ⟨g, hg⟩ : ∃ g, g = w.heap.size := ⟨_, rfl⟩
  rw [← hg] at HB
  have HG := Lib.hid hg
  clear hg hx hC hm
  have sm : (E == E) = true := beq_self_eq_true _
  unfold confV at H1 H2 ⊢
  go_enter Tryz.func3, Tryz.ntmps3
  go_wp2_with fail
  rw [← HG.out]
  have K1 : Kb w g c (.slice pf c.filters.length cf) (.slice pc c.clusters.length cc) (.slice pv c.vhosts.length cv) (w.alloc (.cells #[.int .i64 c.conns, .int .i64 c.body, .int .i64 c.idle, .int .i64 c.grace, .int .i64 c.budget, .int .i64 c.seed, .slice pf c.filters.length cf, .slice pc c.clusters.length cc, .slice pv c.vhosts.length cv] CT)) := HB.out
  have hb1 : Below w.heap.size w (w.alloc (.cells #[.int .i64 c.conns, .int .i64 c.body, .int .i64 c.idle, .int .i64 c.grace, .int .i64 c.budget, .int .i64 c.seed, .slice pf c.filters.length cf, .slice pc c.clusters.length cc, .slice pv c.vhosts.length cv] CT)) := HG.out ▸ K1.below
  clear HB
  unfold CT at K1 hb1
  generalize w.alloc (.cells #[.int .i64 c.conns, .int .i64 c.body, .int .i64 c.idle, .int .i64 c.grace, .int .i64 c.budget, .int .i64 c.seed, .slice pf c.filters.length cf, .slice pc c.clusters.length cc, .slice pv c.vhosts.length cv] 26) = W1 at K1 hb1 ⊢
  have m1 : Fit W1.drew := HM.out.below (below_drew hb1)
  have P1 := K1.drew
  have s1 := kcells P1
  have hb1d := below_drew hb1
  go_region_held3 (fun w' => w'.cell? ⟨g, 0, none⟩ = some (.int .i64 c.conns) ∧ w'.cell? ⟨g, 1, none⟩ = some (.int .i64 c.body) ∧ w'.cell? ⟨g, 2, none⟩ = some (.int .i64 c.idle) ∧ w'.cell? ⟨g, 3, none⟩ = some (.int .i64 c.grace) ∧ w'.cell? ⟨g, 4, none⟩ = some (.int .i64 c.budget) ∧ w'.cell? ⟨g, 5, none⟩ = some (.int .i64 c.seed) ∧ w'.cell? ⟨g, 6, none⟩ = some (.slice pf c.filters.length cf) ∧ w'.cell? ⟨g, 7, none⟩ = some (.slice pc c.clusters.length cc) ∧ w'.cell? ⟨g, 8, none⟩ = some (.slice pv c.vhosts.length cv)) (first | exact s4 | exact s3 | exact s2 | exact s1)
    (first
      | (go_at_call 9; refine (HAn.out _ m1).mono ?_; rintro e w2 ⟨rfl, hb2⟩
         have P2 := P1.call hb2
         have s2 := kcells P2
         have hB2 := below_chain hb1d hb2
         have m2 := HM.out.below hB2
         clear HAn)
      | (go_at_call 10; refine (H1.out _ m2 P2.cf).mono ?_; rintro e w3 ⟨rfl, hb3⟩
         have P3 := P2.call hb3
         have s3 := kcells P3
         clear H1)
      | (go_at_call 11; refine (H2.out _ P3.cf).mono ?_; rintro e w4 ⟨rfl, hb4⟩
         have P4 := P3.call hb4
         have s4 := kcells P4
         clear H2))
  have HE := Lib.hid P4.below
  clear P1 P2 P3 P4 s1 s2 s3 s4
  go_wp2_with fail
  go_ret
  exact ⟨rfl, HG.out ▸ HE.out⟩
theorem walk {H : Type} {enc : TypeId × Value → H} {W : World} {base : Nat} (v : Value) (d : DataW H) (p : List MemPlace) (hv : Value.okWide Tryz.prog W .any base 26 v)
    (hd : DataW.Trod enc Tryz.prog W 0 (fun _ => true) true 26 v d p) (hl : ∀ x ∈ p, x.block < W.heap.size) (hb : Rows.uptoBulk d ≤ 1048576)
    (hsh : W.ShapedOpen Tryz.prog) (hlaid : laidMetH Tryz.prog Rows.configChecksUptoRow.laid W) :
    Calls Tryz.prog 3 #[v] W fun e w' => e = .returned (.bool true) ∧ Below W.heap.size W w' := by
  obtain ⟨c, vf, vc, vv, rfl, hC, hx⟩ := ConfArg.conf_arg hv hd hb
  exact walkIn c vf vc vv hx W (Fit.of hsh (ConfObj.pow_of_laid rfl hlaid)) hC
end Go.Proofs.YtfihehobkbfmiaaGreatDoor.ConfigChecksW
