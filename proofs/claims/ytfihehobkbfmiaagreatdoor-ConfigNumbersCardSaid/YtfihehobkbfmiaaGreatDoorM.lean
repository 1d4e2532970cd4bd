/- Texts of this seat, one behind another: ConfigNumbersW. -/

import Derived.Test.YtfihehobkbfmiaaGreatDoorB
/- The bounds of the numbers at the head of a config are met: ConfigNumbers returns true, whatever the arguments. -/
namespace Go.Proofs.YtfihehobkbfmiaaGreatDoor.ConfigNumbersW
open Go.ChangeShapes Go.WideShapes Go.ChangeAt Go.RowKit Bytes LexPure ConfPure ConfMem ConfEx ConfObj Ret Mem RowsArg
set_option maxRecDepth 100000
set_option linter.unusedVariables false
set_option linter.unusedSimpArgs false
theorem nil_cf (w : World) (a b c d e f : Int) : CF w (.slice none 0 0) (.slice none 0 0) (.slice none 0 0) ⟨a, b, c, d, e, f, [], [], []⟩ :=
  ⟨⟨none, 0, rfl, Nat.zero_le _, fun h => absurd h (by simp)⟩, ⟨fun _ => undef, ⟨none, 0, rfl, Nat.zero_le _, fun h => absurd h (by simp)⟩, fun i hi => absurd hi (by simp)⟩, ⟨fun _ => undef, ⟨none, 0, rfl, Nat.zero_le _, fun h => absurd h (by simp)⟩, fun i hi => absurd hi (by simp)⟩, fun p n cap h => by injection h with _ e2 e3; omega, fun p n cap h => by injection h with _ e2 e3; omega⟩
def I64 (n : Int) : Prop := -9223372036854775808 ≤ n ∧ n ≤ 9223372036854775807
theorem nil_fit {a b c d e f : Int} (h1 : I64 a) (h2 : I64 b) (h3 : I64 c) (h4 : I64 d) (h5 : I64 e) (h6 : I64 f) : FitConf ⟨a, b, c, d, e, f, [], [], []⟩ :=
  ⟨h1, h2, h3, h4, h5, h6, ⟨by simp, fun x hx => by cases hx⟩, ⟨by simp, fun x hx => by cases hx⟩, ⟨by simp, fun x hx => by cases hx⟩⟩
theorem nil_check {a b c d e f : Int} {E : Int} (h1 : I64 a) (h2 : I64 b) (h3 : I64 c) (h4 : I64 d) (h5 : I64 e) (h6 : I64 f) (hE : check14 ⟨a, b, c, d, e, f, [], [], []⟩ = E) (w : World) (hm : Fit w) :
    Calls Tryz.prog 10 #[.agg #[.int .i64 a, .int .i64 b, .int .i64 c, .int .i64 d, .int .i64 e, .int .i64 f, .slice none 0 0, .slice none 0 0, .slice none 0 0]] w fun e w' => e = .returned (.int .i64 E) ∧ Below w.heap.size w w' := by
  have := pcheck_any ⟨a, b, c, d, e, f, [], [], []⟩ (.slice none 0 0) (.slice none 0 0) (.slice none 0 0) (nil_fit h1 h2 h3 h4 h5 h6) w hm (nil_cf w a b c d e f)
  rw [hE] at this
  exact this
set_option maxHeartbeats 1600000 in
theorem n0_0 (w : World) (hm : Fit w) : Calls Tryz.prog 8 #[.int .i64 0, .bool false] w fun e w' => e = .returned (.bool true) ∧ Below w.heap.size w w' := by
  have HAn := Lib.hid (L14Anchor.anchor_any w hm)
  have HC := Lib.hid (fun w h => nil_check (a := 1) (b := 2) (c := 2) (d := 2) (e := 2) (f := 2) (E := 0) (by unfold I64; decide) (by unfold I64; decide) (by unfold I64; decide) (by unfold I64; decide) (by unfold I64; decide) (by unfold I64; decide) (by rw [empty_check]; decide) w h)
  have HM := Lib.hid hm
  clear hm
  go_enter Tryz.func8, Tryz.ntmps8
  go_wp2_with fail
  refine HAn.out.mono ?_
  rintro e w1 ⟨rfl, hb⟩
  have HB := Lib.hid hb
  clear hb HAn
  go_wp2_with fail
  refine (HC.out _ (HM.out.below (HB.out.alloc HB.out.size _))).mono ?_
  rintro e w2 ⟨rfl, hb2⟩
  have HB2 := Lib.hid (below_chain (HB.out.alloc HB.out.size _) hb2)
  clear hb2 HC
  go_wp2_with fail
  go_ret
  exact ⟨rfl, HB2.out⟩
set_option maxHeartbeats 1600000 in
theorem n0_1 (w : World) (hm : Fit w) : Calls Tryz.prog 8 #[.int .i64 0, .bool true] w fun e w' => e = .returned (.bool true) ∧ Below w.heap.size w w' := by
  have HAn := Lib.hid (L14Anchor.anchor_any w hm)
  have HC := Lib.hid (fun w h => nil_check (a := 0) (b := 2) (c := 2) (d := 2) (e := 2) (f := 2) (E := 141) (by unfold I64; decide) (by unfold I64; decide) (by unfold I64; decide) (by unfold I64; decide) (by unfold I64; decide) (by unfold I64; decide) (by rw [empty_check]; decide) w h)
  have HM := Lib.hid hm
  clear hm
  go_enter Tryz.func8, Tryz.ntmps8
  go_wp2_with fail
  refine HAn.out.mono ?_
  rintro e w1 ⟨rfl, hb⟩
  have HB := Lib.hid hb
  clear hb HAn
  go_wp2_with fail
  refine (HC.out _ (HM.out.below (HB.out.alloc HB.out.size _))).mono ?_
  rintro e w2 ⟨rfl, hb2⟩
  have HB2 := Lib.hid (below_chain (HB.out.alloc HB.out.size _) hb2)
  clear hb2 HC
  go_wp2_with fail
  go_ret
  exact ⟨rfl, HB2.out⟩
set_option maxHeartbeats 1600000 in
theorem n1_0 (w : World) (hm : Fit w) : Calls Tryz.prog 8 #[.int .i64 1, .bool false] w fun e w' => e = .returned (.bool true) ∧ Below w.heap.size w w' := by
  have HAn := Lib.hid (L14Anchor.anchor_any w hm)
  have HC := Lib.hid (fun w h => nil_check (a := 256) (b := 2) (c := 2) (d := 2) (e := 2) (f := 2) (E := 0) (by unfold I64; decide) (by unfold I64; decide) (by unfold I64; decide) (by unfold I64; decide) (by unfold I64; decide) (by unfold I64; decide) (by rw [empty_check]; decide) w h)
  have HM := Lib.hid hm
  clear hm
  go_enter Tryz.func8, Tryz.ntmps8
  go_wp2_with fail
  refine HAn.out.mono ?_
  rintro e w1 ⟨rfl, hb⟩
  have HB := Lib.hid hb
  clear hb HAn
  go_wp2_with fail
  refine (HC.out _ (HM.out.below (HB.out.alloc HB.out.size _))).mono ?_
  rintro e w2 ⟨rfl, hb2⟩
  have HB2 := Lib.hid (below_chain (HB.out.alloc HB.out.size _) hb2)
  clear hb2 HC
  go_wp2_with fail
  go_ret
  exact ⟨rfl, HB2.out⟩
set_option maxHeartbeats 1600000 in
theorem n1_1 (w : World) (hm : Fit w) : Calls Tryz.prog 8 #[.int .i64 1, .bool true] w fun e w' => e = .returned (.bool true) ∧ Below w.heap.size w w' := by
  have HAn := Lib.hid (L14Anchor.anchor_any w hm)
  have HC := Lib.hid (fun w h => nil_check (a := 257) (b := 2) (c := 2) (d := 2) (e := 2) (f := 2) (E := 141) (by unfold I64; decide) (by unfold I64; decide) (by unfold I64; decide) (by unfold I64; decide) (by unfold I64; decide) (by unfold I64; decide) (by rw [empty_check]; decide) w h)
  have HM := Lib.hid hm
  clear hm
  go_enter Tryz.func8, Tryz.ntmps8
  go_wp2_with fail
  refine HAn.out.mono ?_
  rintro e w1 ⟨rfl, hb⟩
  have HB := Lib.hid hb
  clear hb HAn
  go_wp2_with fail
  refine (HC.out _ (HM.out.below (HB.out.alloc HB.out.size _))).mono ?_
  rintro e w2 ⟨rfl, hb2⟩
  have HB2 := Lib.hid (below_chain (HB.out.alloc HB.out.size _) hb2)
  clear hb2 HC
  go_wp2_with fail
  go_ret
  exact ⟨rfl, HB2.out⟩
set_option maxHeartbeats 1600000 in
theorem n2_0 (w : World) (hm : Fit w) : Calls Tryz.prog 8 #[.int .i64 2, .bool false] w fun e w' => e = .returned (.bool true) ∧ Below w.heap.size w w' := by
  have HAn := Lib.hid (L14Anchor.anchor_any w hm)
  have HC := Lib.hid (fun w h => nil_check (a := 2) (b := 0) (c := 2) (d := 2) (e := 2) (f := 2) (E := 0) (by unfold I64; decide) (by unfold I64; decide) (by unfold I64; decide) (by unfold I64; decide) (by unfold I64; decide) (by unfold I64; decide) (by rw [empty_check]; decide) w h)
  have HM := Lib.hid hm
  clear hm
  go_enter Tryz.func8, Tryz.ntmps8
  go_wp2_with fail
  refine HAn.out.mono ?_
  rintro e w1 ⟨rfl, hb⟩
  have HB := Lib.hid hb
  clear hb HAn
  go_wp2_with fail
  refine (HC.out _ (HM.out.below (HB.out.alloc HB.out.size _))).mono ?_
  rintro e w2 ⟨rfl, hb2⟩
  have HB2 := Lib.hid (below_chain (HB.out.alloc HB.out.size _) hb2)
  clear hb2 HC
  go_wp2_with fail
  go_ret
  exact ⟨rfl, HB2.out⟩
set_option maxHeartbeats 1600000 in
theorem n2_1 (w : World) (hm : Fit w) : Calls Tryz.prog 8 #[.int .i64 2, .bool true] w fun e w' => e = .returned (.bool true) ∧ Below w.heap.size w w' := by
  have HAn := Lib.hid (L14Anchor.anchor_any w hm)
  have HC := Lib.hid (fun w h => nil_check (a := 2) (b := -1) (c := 2) (d := 2) (e := 2) (f := 2) (E := 141) (by unfold I64; decide) (by unfold I64; decide) (by unfold I64; decide) (by unfold I64; decide) (by unfold I64; decide) (by unfold I64; decide) (by rw [empty_check]; decide) w h)
  have HM := Lib.hid hm
  clear hm
  go_enter Tryz.func8, Tryz.ntmps8
  go_wp2_with fail
  refine HAn.out.mono ?_
  rintro e w1 ⟨rfl, hb⟩
  have HB := Lib.hid hb
  clear hb HAn
  go_wp2_with fail
  refine (HC.out _ (HM.out.below (HB.out.alloc HB.out.size _))).mono ?_
  rintro e w2 ⟨rfl, hb2⟩
  have HB2 := Lib.hid (below_chain (HB.out.alloc HB.out.size _) hb2)
  clear hb2 HC
  go_wp2_with fail
  go_ret
  exact ⟨rfl, HB2.out⟩
set_option maxHeartbeats 1600000 in
theorem n3_0 (w : World) (hm : Fit w) : Calls Tryz.prog 8 #[.int .i64 3, .bool false] w fun e w' => e = .returned (.bool true) ∧ Below w.heap.size w w' := by
  have HAn := Lib.hid (L14Anchor.anchor_any w hm)
  have HC := Lib.hid (fun w h => nil_check (a := 2) (b := 65536) (c := 2) (d := 2) (e := 2) (f := 2) (E := 0) (by unfold I64; decide) (by unfold I64; decide) (by unfold I64; decide) (by unfold I64; decide) (by unfold I64; decide) (by unfold I64; decide) (by rw [empty_check]; decide) w h)
  have HM := Lib.hid hm
  clear hm
  go_enter Tryz.func8, Tryz.ntmps8
  go_wp2_with fail
  refine HAn.out.mono ?_
  rintro e w1 ⟨rfl, hb⟩
  have HB := Lib.hid hb
  clear hb HAn
  go_wp2_with fail
  refine (HC.out _ (HM.out.below (HB.out.alloc HB.out.size _))).mono ?_
  rintro e w2 ⟨rfl, hb2⟩
  have HB2 := Lib.hid (below_chain (HB.out.alloc HB.out.size _) hb2)
  clear hb2 HC
  go_wp2_with fail
  go_ret
  exact ⟨rfl, HB2.out⟩
set_option maxHeartbeats 1600000 in
theorem n3_1 (w : World) (hm : Fit w) : Calls Tryz.prog 8 #[.int .i64 3, .bool true] w fun e w' => e = .returned (.bool true) ∧ Below w.heap.size w w' := by
  have HAn := Lib.hid (L14Anchor.anchor_any w hm)
  have HC := Lib.hid (fun w h => nil_check (a := 2) (b := 65537) (c := 2) (d := 2) (e := 2) (f := 2) (E := 141) (by unfold I64; decide) (by unfold I64; decide) (by unfold I64; decide) (by unfold I64; decide) (by unfold I64; decide) (by unfold I64; decide) (by rw [empty_check]; decide) w h)
  have HM := Lib.hid hm
  clear hm
  go_enter Tryz.func8, Tryz.ntmps8
  go_wp2_with fail
  refine HAn.out.mono ?_
  rintro e w1 ⟨rfl, hb⟩
  have HB := Lib.hid hb
  clear hb HAn
  go_wp2_with fail
  refine (HC.out _ (HM.out.below (HB.out.alloc HB.out.size _))).mono ?_
  rintro e w2 ⟨rfl, hb2⟩
  have HB2 := Lib.hid (below_chain (HB.out.alloc HB.out.size _) hb2)
  clear hb2 HC
  go_wp2_with fail
  go_ret
  exact ⟨rfl, HB2.out⟩
set_option maxHeartbeats 1600000 in
theorem n4_0 (w : World) (hm : Fit w) : Calls Tryz.prog 8 #[.int .i64 4, .bool false] w fun e w' => e = .returned (.bool true) ∧ Below w.heap.size w w' := by
  have HAn := Lib.hid (L14Anchor.anchor_any w hm)
  have HC := Lib.hid (fun w h => nil_check (a := 2) (b := 2) (c := 1) (d := 2) (e := 2) (f := 2) (E := 0) (by unfold I64; decide) (by unfold I64; decide) (by unfold I64; decide) (by unfold I64; decide) (by unfold I64; decide) (by unfold I64; decide) (by rw [empty_check]; decide) w h)
  have HM := Lib.hid hm
  clear hm
  go_enter Tryz.func8, Tryz.ntmps8
  go_wp2_with fail
  refine HAn.out.mono ?_
  rintro e w1 ⟨rfl, hb⟩
  have HB := Lib.hid hb
  clear hb HAn
  go_wp2_with fail
  refine (HC.out _ (HM.out.below (HB.out.alloc HB.out.size _))).mono ?_
  rintro e w2 ⟨rfl, hb2⟩
  have HB2 := Lib.hid (below_chain (HB.out.alloc HB.out.size _) hb2)
  clear hb2 HC
  go_wp2_with fail
  go_ret
  exact ⟨rfl, HB2.out⟩
set_option maxHeartbeats 1600000 in
theorem n4_1 (w : World) (hm : Fit w) : Calls Tryz.prog 8 #[.int .i64 4, .bool true] w fun e w' => e = .returned (.bool true) ∧ Below w.heap.size w w' := by
  have HAn := Lib.hid (L14Anchor.anchor_any w hm)
  have HC := Lib.hid (fun w h => nil_check (a := 2) (b := 2) (c := 0) (d := 2) (e := 2) (f := 2) (E := 141) (by unfold I64; decide) (by unfold I64; decide) (by unfold I64; decide) (by unfold I64; decide) (by unfold I64; decide) (by unfold I64; decide) (by rw [empty_check]; decide) w h)
  have HM := Lib.hid hm
  clear hm
  go_enter Tryz.func8, Tryz.ntmps8
  go_wp2_with fail
  refine HAn.out.mono ?_
  rintro e w1 ⟨rfl, hb⟩
  have HB := Lib.hid hb
  clear hb HAn
  go_wp2_with fail
  refine (HC.out _ (HM.out.below (HB.out.alloc HB.out.size _))).mono ?_
  rintro e w2 ⟨rfl, hb2⟩
  have HB2 := Lib.hid (below_chain (HB.out.alloc HB.out.size _) hb2)
  clear hb2 HC
  go_wp2_with fail
  go_ret
  exact ⟨rfl, HB2.out⟩
set_option maxHeartbeats 1600000 in
theorem n5_0 (w : World) (hm : Fit w) : Calls Tryz.prog 8 #[.int .i64 5, .bool false] w fun e w' => e = .returned (.bool true) ∧ Below w.heap.size w w' := by
  have HAn := Lib.hid (L14Anchor.anchor_any w hm)
  have HC := Lib.hid (fun w h => nil_check (a := 2) (b := 2) (c := 1048576) (d := 2) (e := 2) (f := 2) (E := 0) (by unfold I64; decide) (by unfold I64; decide) (by unfold I64; decide) (by unfold I64; decide) (by unfold I64; decide) (by unfold I64; decide) (by rw [empty_check]; decide) w h)
  have HM := Lib.hid hm
  clear hm
  go_enter Tryz.func8, Tryz.ntmps8
  go_wp2_with fail
  refine HAn.out.mono ?_
  rintro e w1 ⟨rfl, hb⟩
  have HB := Lib.hid hb
  clear hb HAn
  go_wp2_with fail
  refine (HC.out _ (HM.out.below (HB.out.alloc HB.out.size _))).mono ?_
  rintro e w2 ⟨rfl, hb2⟩
  have HB2 := Lib.hid (below_chain (HB.out.alloc HB.out.size _) hb2)
  clear hb2 HC
  go_wp2_with fail
  go_ret
  exact ⟨rfl, HB2.out⟩
set_option maxHeartbeats 1600000 in
theorem n5_1 (w : World) (hm : Fit w) : Calls Tryz.prog 8 #[.int .i64 5, .bool true] w fun e w' => e = .returned (.bool true) ∧ Below w.heap.size w w' := by
  have HAn := Lib.hid (L14Anchor.anchor_any w hm)
  have HC := Lib.hid (fun w h => nil_check (a := 2) (b := 2) (c := 1048577) (d := 2) (e := 2) (f := 2) (E := 141) (by unfold I64; decide) (by unfold I64; decide) (by unfold I64; decide) (by unfold I64; decide) (by unfold I64; decide) (by unfold I64; decide) (by rw [empty_check]; decide) w h)
  have HM := Lib.hid hm
  clear hm
  go_enter Tryz.func8, Tryz.ntmps8
  go_wp2_with fail
  refine HAn.out.mono ?_
  rintro e w1 ⟨rfl, hb⟩
  have HB := Lib.hid hb
  clear hb HAn
  go_wp2_with fail
  refine (HC.out _ (HM.out.below (HB.out.alloc HB.out.size _))).mono ?_
  rintro e w2 ⟨rfl, hb2⟩
  have HB2 := Lib.hid (below_chain (HB.out.alloc HB.out.size _) hb2)
  clear hb2 HC
  go_wp2_with fail
  go_ret
  exact ⟨rfl, HB2.out⟩
set_option maxHeartbeats 1600000 in
theorem n6_0 (w : World) (hm : Fit w) : Calls Tryz.prog 8 #[.int .i64 6, .bool false] w fun e w' => e = .returned (.bool true) ∧ Below w.heap.size w w' := by
  have HAn := Lib.hid (L14Anchor.anchor_any w hm)
  have HC := Lib.hid (fun w h => nil_check (a := 2) (b := 2) (c := 2) (d := 1) (e := 2) (f := 2) (E := 0) (by unfold I64; decide) (by unfold I64; decide) (by unfold I64; decide) (by unfold I64; decide) (by unfold I64; decide) (by unfold I64; decide) (by rw [empty_check]; decide) w h)
  have HM := Lib.hid hm
  clear hm
  go_enter Tryz.func8, Tryz.ntmps8
  go_wp2_with fail
  refine HAn.out.mono ?_
  rintro e w1 ⟨rfl, hb⟩
  have HB := Lib.hid hb
  clear hb HAn
  go_wp2_with fail
  refine (HC.out _ (HM.out.below (HB.out.alloc HB.out.size _))).mono ?_
  rintro e w2 ⟨rfl, hb2⟩
  have HB2 := Lib.hid (below_chain (HB.out.alloc HB.out.size _) hb2)
  clear hb2 HC
  go_wp2_with fail
  go_ret
  exact ⟨rfl, HB2.out⟩
set_option maxHeartbeats 1600000 in
theorem n6_1 (w : World) (hm : Fit w) : Calls Tryz.prog 8 #[.int .i64 6, .bool true] w fun e w' => e = .returned (.bool true) ∧ Below w.heap.size w w' := by
  have HAn := Lib.hid (L14Anchor.anchor_any w hm)
  have HC := Lib.hid (fun w h => nil_check (a := 2) (b := 2) (c := 2) (d := 0) (e := 2) (f := 2) (E := 141) (by unfold I64; decide) (by unfold I64; decide) (by unfold I64; decide) (by unfold I64; decide) (by unfold I64; decide) (by unfold I64; decide) (by rw [empty_check]; decide) w h)
  have HM := Lib.hid hm
  clear hm
  go_enter Tryz.func8, Tryz.ntmps8
  go_wp2_with fail
  refine HAn.out.mono ?_
  rintro e w1 ⟨rfl, hb⟩
  have HB := Lib.hid hb
  clear hb HAn
  go_wp2_with fail
  refine (HC.out _ (HM.out.below (HB.out.alloc HB.out.size _))).mono ?_
  rintro e w2 ⟨rfl, hb2⟩
  have HB2 := Lib.hid (below_chain (HB.out.alloc HB.out.size _) hb2)
  clear hb2 HC
  go_wp2_with fail
  go_ret
  exact ⟨rfl, HB2.out⟩
set_option maxHeartbeats 1600000 in
theorem n7_0 (w : World) (hm : Fit w) : Calls Tryz.prog 8 #[.int .i64 7, .bool false] w fun e w' => e = .returned (.bool true) ∧ Below w.heap.size w w' := by
  have HAn := Lib.hid (L14Anchor.anchor_any w hm)
  have HC := Lib.hid (fun w h => nil_check (a := 2) (b := 2) (c := 2) (d := 1048576) (e := 2) (f := 2) (E := 0) (by unfold I64; decide) (by unfold I64; decide) (by unfold I64; decide) (by unfold I64; decide) (by unfold I64; decide) (by unfold I64; decide) (by rw [empty_check]; decide) w h)
  have HM := Lib.hid hm
  clear hm
  go_enter Tryz.func8, Tryz.ntmps8
  go_wp2_with fail
  refine HAn.out.mono ?_
  rintro e w1 ⟨rfl, hb⟩
  have HB := Lib.hid hb
  clear hb HAn
  go_wp2_with fail
  refine (HC.out _ (HM.out.below (HB.out.alloc HB.out.size _))).mono ?_
  rintro e w2 ⟨rfl, hb2⟩
  have HB2 := Lib.hid (below_chain (HB.out.alloc HB.out.size _) hb2)
  clear hb2 HC
  go_wp2_with fail
  go_ret
  exact ⟨rfl, HB2.out⟩
set_option maxHeartbeats 1600000 in
theorem n7_1 (w : World) (hm : Fit w) : Calls Tryz.prog 8 #[.int .i64 7, .bool true] w fun e w' => e = .returned (.bool true) ∧ Below w.heap.size w w' := by
  have HAn := Lib.hid (L14Anchor.anchor_any w hm)
  have HC := Lib.hid (fun w h => nil_check (a := 2) (b := 2) (c := 2) (d := 1048577) (e := 2) (f := 2) (E := 141) (by unfold I64; decide) (by unfold I64; decide) (by unfold I64; decide) (by unfold I64; decide) (by unfold I64; decide) (by unfold I64; decide) (by rw [empty_check]; decide) w h)
  have HM := Lib.hid hm
  clear hm
  go_enter Tryz.func8, Tryz.ntmps8
  go_wp2_with fail
  refine HAn.out.mono ?_
  rintro e w1 ⟨rfl, hb⟩
  have HB := Lib.hid hb
  clear hb HAn
  go_wp2_with fail
  refine (HC.out _ (HM.out.below (HB.out.alloc HB.out.size _))).mono ?_
  rintro e w2 ⟨rfl, hb2⟩
  have HB2 := Lib.hid (below_chain (HB.out.alloc HB.out.size _) hb2)
  clear hb2 HC
  go_wp2_with fail
  go_ret
  exact ⟨rfl, HB2.out⟩
set_option maxHeartbeats 1600000 in
theorem n8_0 (w : World) (hm : Fit w) : Calls Tryz.prog 8 #[.int .i64 8, .bool false] w fun e w' => e = .returned (.bool true) ∧ Below w.heap.size w w' := by
  have HAn := Lib.hid (L14Anchor.anchor_any w hm)
  have HC := Lib.hid (fun w h => nil_check (a := 2) (b := 2) (c := 2) (d := 2) (e := 0) (f := 2) (E := 0) (by unfold I64; decide) (by unfold I64; decide) (by unfold I64; decide) (by unfold I64; decide) (by unfold I64; decide) (by unfold I64; decide) (by rw [empty_check]; decide) w h)
  have HM := Lib.hid hm
  clear hm
  go_enter Tryz.func8, Tryz.ntmps8
  go_wp2_with fail
  refine HAn.out.mono ?_
  rintro e w1 ⟨rfl, hb⟩
  have HB := Lib.hid hb
  clear hb HAn
  go_wp2_with fail
  refine (HC.out _ (HM.out.below (HB.out.alloc HB.out.size _))).mono ?_
  rintro e w2 ⟨rfl, hb2⟩
  have HB2 := Lib.hid (below_chain (HB.out.alloc HB.out.size _) hb2)
  clear hb2 HC
  go_wp2_with fail
  go_ret
  exact ⟨rfl, HB2.out⟩
set_option maxHeartbeats 1600000 in
theorem n8_1 (w : World) (hm : Fit w) : Calls Tryz.prog 8 #[.int .i64 8, .bool true] w fun e w' => e = .returned (.bool true) ∧ Below w.heap.size w w' := by
  have HAn := Lib.hid (L14Anchor.anchor_any w hm)
  have HC := Lib.hid (fun w h => nil_check (a := 2) (b := 2) (c := 2) (d := 2) (e := -1) (f := 2) (E := 141) (by unfold I64; decide) (by unfold I64; decide) (by unfold I64; decide) (by unfold I64; decide) (by unfold I64; decide) (by unfold I64; decide) (by rw [empty_check]; decide) w h)
  have HM := Lib.hid hm
  clear hm
  go_enter Tryz.func8, Tryz.ntmps8
  go_wp2_with fail
  refine HAn.out.mono ?_
  rintro e w1 ⟨rfl, hb⟩
  have HB := Lib.hid hb
  clear hb HAn
  go_wp2_with fail
  refine (HC.out _ (HM.out.below (HB.out.alloc HB.out.size _))).mono ?_
  rintro e w2 ⟨rfl, hb2⟩
  have HB2 := Lib.hid (below_chain (HB.out.alloc HB.out.size _) hb2)
  clear hb2 HC
  go_wp2_with fail
  go_ret
  exact ⟨rfl, HB2.out⟩
set_option maxHeartbeats 1600000 in
theorem n9_0 (w : World) (hm : Fit w) : Calls Tryz.prog 8 #[.int .i64 9, .bool false] w fun e w' => e = .returned (.bool true) ∧ Below w.heap.size w w' := by
  have HAn := Lib.hid (L14Anchor.anchor_any w hm)
  have HC := Lib.hid (fun w h => nil_check (a := 2) (b := 2) (c := 2) (d := 2) (e := 256) (f := 2) (E := 0) (by unfold I64; decide) (by unfold I64; decide) (by unfold I64; decide) (by unfold I64; decide) (by unfold I64; decide) (by unfold I64; decide) (by rw [empty_check]; decide) w h)
  have HM := Lib.hid hm
  clear hm
  go_enter Tryz.func8, Tryz.ntmps8
  go_wp2_with fail
  refine HAn.out.mono ?_
  rintro e w1 ⟨rfl, hb⟩
  have HB := Lib.hid hb
  clear hb HAn
  go_wp2_with fail
  refine (HC.out _ (HM.out.below (HB.out.alloc HB.out.size _))).mono ?_
  rintro e w2 ⟨rfl, hb2⟩
  have HB2 := Lib.hid (below_chain (HB.out.alloc HB.out.size _) hb2)
  clear hb2 HC
  go_wp2_with fail
  go_ret
  exact ⟨rfl, HB2.out⟩
set_option maxHeartbeats 1600000 in
theorem n9_1 (w : World) (hm : Fit w) : Calls Tryz.prog 8 #[.int .i64 9, .bool true] w fun e w' => e = .returned (.bool true) ∧ Below w.heap.size w w' := by
  have HAn := Lib.hid (L14Anchor.anchor_any w hm)
  have HC := Lib.hid (fun w h => nil_check (a := 2) (b := 2) (c := 2) (d := 2) (e := 257) (f := 2) (E := 141) (by unfold I64; decide) (by unfold I64; decide) (by unfold I64; decide) (by unfold I64; decide) (by unfold I64; decide) (by unfold I64; decide) (by rw [empty_check]; decide) w h)
  have HM := Lib.hid hm
  clear hm
  go_enter Tryz.func8, Tryz.ntmps8
  go_wp2_with fail
  refine HAn.out.mono ?_
  rintro e w1 ⟨rfl, hb⟩
  have HB := Lib.hid hb
  clear hb HAn
  go_wp2_with fail
  refine (HC.out _ (HM.out.below (HB.out.alloc HB.out.size _))).mono ?_
  rintro e w2 ⟨rfl, hb2⟩
  have HB2 := Lib.hid (below_chain (HB.out.alloc HB.out.size _) hb2)
  clear hb2 HC
  go_wp2_with fail
  go_ret
  exact ⟨rfl, HB2.out⟩
set_option maxHeartbeats 1600000 in
theorem n10_0 (w : World) (hm : Fit w) : Calls Tryz.prog 8 #[.int .i64 10, .bool false] w fun e w' => e = .returned (.bool true) ∧ Below w.heap.size w w' := by
  have HAn := Lib.hid (L14Anchor.anchor_any w hm)
  have HC := Lib.hid (fun w h => nil_check (a := 2) (b := 2) (c := 2) (d := 2) (e := 2) (f := 0) (E := 0) (by unfold I64; decide) (by unfold I64; decide) (by unfold I64; decide) (by unfold I64; decide) (by unfold I64; decide) (by unfold I64; decide) (by rw [empty_check]; decide) w h)
  have HM := Lib.hid hm
  clear hm
  go_enter Tryz.func8, Tryz.ntmps8
  go_wp2_with fail
  refine HAn.out.mono ?_
  rintro e w1 ⟨rfl, hb⟩
  have HB := Lib.hid hb
  clear hb HAn
  go_wp2_with fail
  refine (HC.out _ (HM.out.below (HB.out.alloc HB.out.size _))).mono ?_
  rintro e w2 ⟨rfl, hb2⟩
  have HB2 := Lib.hid (below_chain (HB.out.alloc HB.out.size _) hb2)
  clear hb2 HC
  go_wp2_with fail
  go_ret
  exact ⟨rfl, HB2.out⟩
set_option maxHeartbeats 1600000 in
theorem n10_1 (w : World) (hm : Fit w) : Calls Tryz.prog 8 #[.int .i64 10, .bool true] w fun e w' => e = .returned (.bool true) ∧ Below w.heap.size w w' := by
  have HAn := Lib.hid (L14Anchor.anchor_any w hm)
  have HC := Lib.hid (fun w h => nil_check (a := 2) (b := 2) (c := 2) (d := 2) (e := 2) (f := -1) (E := 141) (by unfold I64; decide) (by unfold I64; decide) (by unfold I64; decide) (by unfold I64; decide) (by unfold I64; decide) (by unfold I64; decide) (by rw [empty_check]; decide) w h)
  have HM := Lib.hid hm
  clear hm
  go_enter Tryz.func8, Tryz.ntmps8
  go_wp2_with fail
  refine HAn.out.mono ?_
  rintro e w1 ⟨rfl, hb⟩
  have HB := Lib.hid hb
  clear hb HAn
  go_wp2_with fail
  refine (HC.out _ (HM.out.below (HB.out.alloc HB.out.size _))).mono ?_
  rintro e w2 ⟨rfl, hb2⟩
  have HB2 := Lib.hid (below_chain (HB.out.alloc HB.out.size _) hb2)
  clear hb2 HC
  go_wp2_with fail
  go_ret
  exact ⟨rfl, HB2.out⟩
set_option maxHeartbeats 1600000 in
theorem n11_0 (w : World) (hm : Fit w) : Calls Tryz.prog 8 #[.int .i64 11, .bool false] w fun e w' => e = .returned (.bool true) ∧ Below w.heap.size w w' := by
  have HAn := Lib.hid (L14Anchor.anchor_any w hm)
  have HC := Lib.hid (fun w h => nil_check (a := 2) (b := 2) (c := 2) (d := 2) (e := 2) (f := 1099511627776) (E := 0) (by unfold I64; decide) (by unfold I64; decide) (by unfold I64; decide) (by unfold I64; decide) (by unfold I64; decide) (by unfold I64; decide) (by rw [empty_check]; decide) w h)
  have HM := Lib.hid hm
  clear hm
  go_enter Tryz.func8, Tryz.ntmps8
  go_wp2_with fail
  refine HAn.out.mono ?_
  rintro e w1 ⟨rfl, hb⟩
  have HB := Lib.hid hb
  clear hb HAn
  go_wp2_with fail
  refine (HC.out _ (HM.out.below (HB.out.alloc HB.out.size _))).mono ?_
  rintro e w2 ⟨rfl, hb2⟩
  have HB2 := Lib.hid (below_chain (HB.out.alloc HB.out.size _) hb2)
  clear hb2 HC
  go_wp2_with fail
  go_ret
  exact ⟨rfl, HB2.out⟩
set_option maxHeartbeats 1600000 in
theorem n11_1 (w : World) (hm : Fit w) : Calls Tryz.prog 8 #[.int .i64 11, .bool true] w fun e w' => e = .returned (.bool true) ∧ Below w.heap.size w w' := by
  have HAn := Lib.hid (L14Anchor.anchor_any w hm)
  have HC := Lib.hid (fun w h => nil_check (a := 2) (b := 2) (c := 2) (d := 2) (e := 2) (f := 1099511627777) (E := 141) (by unfold I64; decide) (by unfold I64; decide) (by unfold I64; decide) (by unfold I64; decide) (by unfold I64; decide) (by unfold I64; decide) (by rw [empty_check]; decide) w h)
  have HM := Lib.hid hm
  clear hm
  go_enter Tryz.func8, Tryz.ntmps8
  go_wp2_with fail
  refine HAn.out.mono ?_
  rintro e w1 ⟨rfl, hb⟩
  have HB := Lib.hid hb
  clear hb HAn
  go_wp2_with fail
  refine (HC.out _ (HM.out.below (HB.out.alloc HB.out.size _))).mono ?_
  rintro e w2 ⟨rfl, hb2⟩
  have HB2 := Lib.hid (below_chain (HB.out.alloc HB.out.size _) hb2)
  clear hb2 HC
  go_wp2_with fail
  go_ret
  exact ⟨rfl, HB2.out⟩
set_option maxHeartbeats 1600000 in
theorem nOut (wh : Int) (p : Bool) (h : wh < 0 ∨ 11 < wh) (w : World) (hm : Fit w) : Calls Tryz.prog 8 #[.int .i64 wh, .bool p] w fun e w' => e = .returned (.bool true) ∧ Below w.heap.size w w' := by
  have HAn := Lib.hid (L14Anchor.anchor_any w hm)
  clear hm
  by_cases h1 : wh < 0
  · have i1 : decide (wh < 0) = true := decide_eq_true h1
    clear h1 h
    go_enter Tryz.func8, Tryz.ntmps8
    go_wp2_with fail
    refine HAn.out.mono ?_
    rintro e w1 ⟨rfl, hb⟩
    go_wp2_with fail
    go_ret
    exact ⟨rfl, hb⟩
  · have i1 : decide (wh < 0) = false := decide_eq_false h1
    have i2 : decide (11 < wh) = true := decide_eq_true (by omega)
    clear h1 h
    go_enter Tryz.func8, Tryz.ntmps8
    go_wp2_with fail
    refine HAn.out.mono ?_
    rintro e w1 ⟨rfl, hb⟩
    go_wp2_with fail
    go_ret
    exact ⟨rfl, hb⟩
theorem walk (a0 : Int) (w0 : (Lit.int .i64 a0).wf = true) (a1 : Bool) (W : World) (hsh : W.ShapedOpen Tryz.prog) (hlaid : laidMetH Tryz.prog Rows.configNumbersRow.laid W) :
    Calls Tryz.prog 8 #[.int .i64 a0, .bool a1] W fun e w' => e = .returned (.bool true) ∧ Below W.heap.size W w' := by
  have hm := Fit.of hsh (ConfObj.pow_of_laid rfl hlaid)
  by_cases h : a0 < 0 ∨ 11 < a0
  · exact nOut a0 a1 h W hm
  · have h2 : a0 = 0 ∨ a0 = 1 ∨ a0 = 2 ∨ a0 = 3 ∨ a0 = 4 ∨ a0 = 5 ∨ a0 = 6 ∨ a0 = 7 ∨ a0 = 8 ∨ a0 = 9 ∨ a0 = 10 ∨ a0 = 11 := by omega
    rcases h2 with rfl | rfl | rfl | rfl | rfl | rfl | rfl | rfl | rfl | rfl | rfl | rfl
    · cases a1 with
      | false => exact n0_0 W hm
      | true => exact n0_1 W hm
    · cases a1 with
      | false => exact n1_0 W hm
      | true => exact n1_1 W hm
    · cases a1 with
      | false => exact n2_0 W hm
      | true => exact n2_1 W hm
    · cases a1 with
      | false => exact n3_0 W hm
      | true => exact n3_1 W hm
    · cases a1 with
      | false => exact n4_0 W hm
      | true => exact n4_1 W hm
    · cases a1 with
      | false => exact n5_0 W hm
      | true => exact n5_1 W hm
    · cases a1 with
      | false => exact n6_0 W hm
      | true => exact n6_1 W hm
    · cases a1 with
      | false => exact n7_0 W hm
      | true => exact n7_1 W hm
    · cases a1 with
      | false => exact n8_0 W hm
      | true => exact n8_1 W hm
    · cases a1 with
      | false => exact n9_0 W hm
      | true => exact n9_1 W hm
    · cases a1 with
      | false => exact n10_0 W hm
      | true => exact n10_1 W hm
    · cases a1 with
      | false => exact n11_0 W hm
      | true => exact n11_1 W hm
end Go.Proofs.YtfihehobkbfmiaaGreatDoor.ConfigNumbersW
