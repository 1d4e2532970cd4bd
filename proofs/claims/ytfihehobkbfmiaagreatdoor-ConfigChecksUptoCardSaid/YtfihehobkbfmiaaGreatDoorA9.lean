/- Texts of this seat, one behind another: PCfgF, R14Bnd, PCfgBnd, PCfgK, PCfgG, PCfgH. -/

import Derived.Test.YtfihehobkbfmiaaGreatDoorA3
import Derived.Test.YtfihehobkbfmiaaGreatDoorA4
import Derived.Test.YtfihehobkbfmiaaGreatDoorA8
import Derived.Test.YtfihehobkbfmiaaGreatDoorA5
import Derived.Test.YtfihehobkbfmiaaGreatDoorA7
/- Layer 14 of the program: rightFilter. -/
namespace Go.Proofs.YtfihehobkbfmiaaGreatDoor.PCfgF
open Go.ChangeShapes Go.WideShapes Go.ChangeAt Go.RowKit Bytes LexPure ConfPure ConfMem Ret Mem R14Eq R14Filt PCfgBox PCfgT
set_option maxRecDepth 100000
set_option linter.unusedVariables false
set_option linter.unusedSimpArgs false
set_option maxHeartbeats 3200000 in
theorem pfilt1 (a b : ByteArray) (n m j : Int) (ha : a.size ≤ 1048576) (hb : b.size ≤ 1048576) (w : World) :
    Calls Tryz.prog 21 #[.agg (fcs 1 a b n m j)] w fun e w' => e = .returned (.bool (filtB ⟨1, toL a, toL b, n, m, j⟩)) ∧ Below w.heap.size w w' := by
  have H0 := Lib.hid (fun w => pname_any a ha w)
  have H1 := Lib.hid (fun w => ptext_any b hb w)
  obtain ⟨r0, hr0⟩ : ∃ r0, r0 = (nameB (toL a)) := ⟨_, rfl⟩
  rw [← hr0] at H0
  obtain ⟨r1, hr1⟩ : ∃ r1, r1 = (textB (toL b)) := ⟨_, rfl⟩
  rw [← hr1] at H1
  have heq := fun w => eqF 1 1 n 0 m 0 j 0 a a b b w
  obtain ⟨e0, he0⟩ : ∃ e0, e0 = ((n == 0) && (m == 0) && (j == 0)) := ⟨_, rfl⟩
  replace heq : ∀ w, (binOp .eql 49 (.agg #[.int .i64 1, .string a, .string b, .int .i64 n, .int .i64 m, .int .i64 j]) (.agg #[.int .i64 1, .string a, .string b, .int .i64 0, .int .i64 0, .int .i64 0])).run Tryz.prog w = .ok (.bool e0) w := fun w => by
    rw [heq w, he0]
    congr 2
    simp only [beq_self_eq_true, Bool.true_and, Bool.and_true, empt, self_, Bool.and_assoc]
  have HV : Hid (filtB ⟨1, toL a, toL b, n, m, j⟩ = (e0 && r0 && r1)) := Lib.hid (by
    rw [he0, hr0, hr1]
    unfold filtB
    dsimp only
    rw [if_pos (by decide)]
    try simp [TOK, Bool.and_assoc])
  have K0 := Lib.hid (Ob.start w FT #[.int .i64 1, .string a, .string b, .int .i64 n, .int .i64 m, .int .i64 j])
  clear he0 hr0 hr1 ha hb
  unfold FT at K0
  unfold fcs
  go_enter Tryz.func21, Tryz.ntmps21
  cases e0 with
  | false =>
    go_wp2_with fail
    go_ret
    exact ⟨ret_bool (by rw [HV.out]; simp), K0.out.below⟩
  | true =>
  go_wp2_with fail
  refine (H0.out _).mono ?_
  rintro e v1 ⟨rfl, hb⟩
  have K1 := Lib.hid (K0.out.call hb)
  clear hb H0
  clear K0
  have m1_1 : v1.cell? ⟨w.heap.size, 1, none⟩ = some (.string a) := K1.out.box.cell 1
  have m1_2 : v1.cell? ⟨w.heap.size, 2, none⟩ = some (.string b) := K1.out.box.cell 2
  have m1_3 : v1.cell? ⟨w.heap.size, 3, none⟩ = some (.int .i64 n) := K1.out.box.cell 3
  have m1_4 : v1.cell? ⟨w.heap.size, 4, none⟩ = some (.int .i64 m) := K1.out.box.cell 4
  have m1_5 : v1.cell? ⟨w.heap.size, 5, none⟩ = some (.int .i64 j) := K1.out.box.cell 5
  cases r0 with
  | false =>
    go_wp2_with fail
    go_ret
    exact ⟨ret_bool (by rw [HV.out]; simp), K1.out.below⟩
  | true =>
  go_wp2_with fail
  refine (H1.out _).mono ?_
  rintro e v2 ⟨rfl, hb⟩
  have K2 := Lib.hid (K1.out.call hb)
  clear m1_1 m1_2 m1_3 m1_4 m1_5
  clear hb H1
  clear K1
  have m2_1 : v2.cell? ⟨w.heap.size, 1, none⟩ = some (.string a) := K2.out.box.cell 1
  have m2_2 : v2.cell? ⟨w.heap.size, 2, none⟩ = some (.string b) := K2.out.box.cell 2
  have m2_3 : v2.cell? ⟨w.heap.size, 3, none⟩ = some (.int .i64 n) := K2.out.box.cell 3
  have m2_4 : v2.cell? ⟨w.heap.size, 4, none⟩ = some (.int .i64 m) := K2.out.box.cell 4
  have m2_5 : v2.cell? ⟨w.heap.size, 5, none⟩ = some (.int .i64 j) := K2.out.box.cell 5
  cases r1 with
  | false =>
    go_wp2_with fail
    go_ret
    exact ⟨ret_bool (by rw [HV.out]; simp), K2.out.below⟩
  | true =>
  go_wp2_with fail
  go_ret
  exact ⟨ret_bool (by rw [HV.out]; simp), K2.out.below⟩
set_option maxHeartbeats 3200000 in
theorem pfilt2 (a b : ByteArray) (n m j : Int) (ha : a.size ≤ 1048576) (hb : b.size ≤ 1048576) (w : World) :
    Calls Tryz.prog 21 #[.agg (fcs 2 a b n m j)] w fun e w' => e = .returned (.bool (filtB ⟨2, toL a, toL b, n, m, j⟩)) ∧ Below w.heap.size w w' := by
  have H0 := Lib.hid (fun w => pname_any a ha w)
  obtain ⟨r0, hr0⟩ : ∃ r0, r0 = (nameB (toL a)) := ⟨_, rfl⟩
  rw [← hr0] at H0
  have heq := fun w => eqF 2 2 n 0 m 0 j 0 a a b ⟨#[]⟩ w
  obtain ⟨e0, he0⟩ : ∃ e0, e0 = ((toL b == []) && (n == 0) && (m == 0) && (j == 0)) := ⟨_, rfl⟩
  replace heq : ∀ w, (binOp .eql 49 (.agg #[.int .i64 2, .string a, .string b, .int .i64 n, .int .i64 m, .int .i64 j]) (.agg #[.int .i64 2, .string a, .string ⟨#[]⟩, .int .i64 0, .int .i64 0, .int .i64 0])).run Tryz.prog w = .ok (.bool e0) w := fun w => by
    rw [heq w, he0]
    congr 2
    simp only [beq_self_eq_true, Bool.true_and, Bool.and_true, empt, self_, Bool.and_assoc]
  have HV : Hid (filtB ⟨2, toL a, toL b, n, m, j⟩ = (e0 && r0)) := Lib.hid (by
    rw [he0, hr0]
    unfold filtB
    dsimp only
    rw [if_neg (by decide), if_pos (by decide)]
    try simp [TOK, Bool.and_assoc])
  have K0 := Lib.hid (Ob.start w FT #[.int .i64 2, .string a, .string b, .int .i64 n, .int .i64 m, .int .i64 j])
  clear he0 hr0 ha hb
  unfold FT at K0
  unfold fcs
  go_enter Tryz.func21, Tryz.ntmps21
  cases e0 with
  | false =>
    go_wp2_with fail
    go_ret
    exact ⟨ret_bool (by rw [HV.out]; simp), K0.out.below⟩
  | true =>
  go_wp2_with fail
  refine (H0.out _).mono ?_
  rintro e v1 ⟨rfl, hb⟩
  have K1 := Lib.hid (K0.out.call hb)
  clear hb H0
  clear K0
  have m1_1 : v1.cell? ⟨w.heap.size, 1, none⟩ = some (.string a) := K1.out.box.cell 1
  have m1_2 : v1.cell? ⟨w.heap.size, 2, none⟩ = some (.string b) := K1.out.box.cell 2
  have m1_3 : v1.cell? ⟨w.heap.size, 3, none⟩ = some (.int .i64 n) := K1.out.box.cell 3
  have m1_4 : v1.cell? ⟨w.heap.size, 4, none⟩ = some (.int .i64 m) := K1.out.box.cell 4
  have m1_5 : v1.cell? ⟨w.heap.size, 5, none⟩ = some (.int .i64 j) := K1.out.box.cell 5
  cases r0 with
  | false =>
    go_wp2_with fail
    go_ret
    exact ⟨ret_bool (by rw [HV.out]; simp), K1.out.below⟩
  | true =>
  go_wp2_with fail
  go_ret
  exact ⟨ret_bool (by rw [HV.out]; simp), K1.out.below⟩
set_option maxHeartbeats 3200000 in
theorem pfilt3 (a b : ByteArray) (n m j : Int) (ha : a.size ≤ 1048576) (hb : b.size ≤ 1048576) (w : World) :
    Calls Tryz.prog 21 #[.agg (fcs 3 a b n m j)] w fun e w' => e = .returned (.bool (filtB ⟨3, toL a, toL b, n, m, j⟩)) ∧ Below w.heap.size w w' := by
  have H0 := Lib.hid (fun w => prate_any n w)
  have H1 := Lib.hid (fun w => prate_any m w)
  have H2 := Lib.hid (fun w => prate_any j w)
  obtain ⟨r0, hr0⟩ : ∃ r0, r0 = (inB n 1 1073741824) := ⟨_, rfl⟩
  rw [← hr0] at H0
  obtain ⟨r1, hr1⟩ : ∃ r1, r1 = (inB m 1 1073741824) := ⟨_, rfl⟩
  rw [← hr1] at H1
  obtain ⟨r2, hr2⟩ : ∃ r2, r2 = (inB j 1 1073741824) := ⟨_, rfl⟩
  rw [← hr2] at H2
  have heq := fun w => eqF 3 3 n n m m j j a ⟨#[]⟩ b ⟨#[]⟩ w
  obtain ⟨e0, he0⟩ : ∃ e0, e0 = ((toL a == []) && (toL b == [])) := ⟨_, rfl⟩
  replace heq : ∀ w, (binOp .eql 49 (.agg #[.int .i64 3, .string a, .string b, .int .i64 n, .int .i64 m, .int .i64 j]) (.agg #[.int .i64 3, .string ⟨#[]⟩, .string ⟨#[]⟩, .int .i64 n, .int .i64 m, .int .i64 j])).run Tryz.prog w = .ok (.bool e0) w := fun w => by
    rw [heq w, he0]
    congr 2
    simp only [beq_self_eq_true, Bool.true_and, Bool.and_true, empt, self_, Bool.and_assoc]
  have HV : Hid (filtB ⟨3, toL a, toL b, n, m, j⟩ = (e0 && r0 && r1 && r2)) := Lib.hid (by
    rw [he0, hr0, hr1, hr2]
    unfold filtB
    dsimp only
    rw [if_neg (by decide), if_neg (by decide), if_pos (by decide)]
    try simp [TOK, Bool.and_assoc])
  have K0 := Lib.hid (Ob.start w FT #[.int .i64 3, .string a, .string b, .int .i64 n, .int .i64 m, .int .i64 j])
  clear he0 hr0 hr1 hr2 ha hb
  unfold FT at K0
  unfold fcs
  go_enter Tryz.func21, Tryz.ntmps21
  cases e0 with
  | false =>
    go_wp2_with fail
    go_ret
    exact ⟨ret_bool (by rw [HV.out]; simp), K0.out.below⟩
  | true =>
  go_wp2_with fail
  refine (H0.out _).mono ?_
  rintro e v1 ⟨rfl, rfl⟩
  clear H0
  cases r0 with
  | false =>
    go_wp2_with fail
    go_ret
    exact ⟨ret_bool (by rw [HV.out]; simp), K0.out.below⟩
  | true =>
  go_wp2_with fail
  refine (H1.out _).mono ?_
  rintro e v2 ⟨rfl, rfl⟩
  clear H1
  cases r1 with
  | false =>
    go_wp2_with fail
    go_ret
    exact ⟨ret_bool (by rw [HV.out]; simp), K0.out.below⟩
  | true =>
  go_wp2_with fail
  refine (H2.out _).mono ?_
  rintro e v3 ⟨rfl, rfl⟩
  clear H2
  cases r2 with
  | false =>
    go_wp2_with fail
    go_ret
    exact ⟨ret_bool (by rw [HV.out]; simp), K0.out.below⟩
  | true =>
  go_wp2_with fail
  go_ret
  exact ⟨ret_bool (by rw [HV.out]; simp), K0.out.below⟩
set_option maxHeartbeats 3200000 in
theorem pfilt4 (a b : ByteArray) (n m j : Int) (ha : a.size ≤ 1048576) (hb : b.size ≤ 1048576) (w : World) :
    Calls Tryz.prog 21 #[.agg (fcs 4 a b n m j)] w fun e w' => e = .returned (.bool (filtB ⟨4, toL a, toL b, n, m, j⟩)) ∧ Below w.heap.size w w' := by
  have H0 := Lib.hid (fun w => pname_any a ha w)
  have H1 := Lib.hid (fun w => pfull_any b hb w)
  obtain ⟨r0, hr0⟩ : ∃ r0, r0 = (nameB (toL a)) := ⟨_, rfl⟩
  rw [← hr0] at H0
  obtain ⟨r1, hr1⟩ : ∃ r1, r1 = ((toL b != [] && textB (toL b))) := ⟨_, rfl⟩
  rw [← hr1] at H1
  have heq := fun w => eqF 4 4 n 0 m 0 j 0 a a b b w
  obtain ⟨e0, he0⟩ : ∃ e0, e0 = ((n == 0) && (m == 0) && (j == 0)) := ⟨_, rfl⟩
  replace heq : ∀ w, (binOp .eql 49 (.agg #[.int .i64 4, .string a, .string b, .int .i64 n, .int .i64 m, .int .i64 j]) (.agg #[.int .i64 4, .string a, .string b, .int .i64 0, .int .i64 0, .int .i64 0])).run Tryz.prog w = .ok (.bool e0) w := fun w => by
    rw [heq w, he0]
    congr 2
    simp only [beq_self_eq_true, Bool.true_and, Bool.and_true, empt, self_, Bool.and_assoc]
  have HV : Hid (filtB ⟨4, toL a, toL b, n, m, j⟩ = (e0 && r0 && r1)) := Lib.hid (by
    rw [he0, hr0, hr1]
    unfold filtB
    dsimp only
    rw [if_neg (by decide), if_neg (by decide), if_neg (by decide), if_pos (by decide)]
    cases (toL b != []) <;> simp [TOK, Bool.and_assoc, Bool.and_comm])
  have K0 := Lib.hid (Ob.start w FT #[.int .i64 4, .string a, .string b, .int .i64 n, .int .i64 m, .int .i64 j])
  clear he0 hr0 hr1 ha hb
  unfold FT at K0
  unfold fcs
  go_enter Tryz.func21, Tryz.ntmps21
  cases e0 with
  | false =>
    go_wp2_with fail
    go_ret
    exact ⟨ret_bool (by rw [HV.out]; simp), K0.out.below⟩
  | true =>
  go_wp2_with fail
  refine (H0.out _).mono ?_
  rintro e v1 ⟨rfl, hb⟩
  have K1 := Lib.hid (K0.out.call hb)
  clear hb H0
  clear K0
  have m1_1 : v1.cell? ⟨w.heap.size, 1, none⟩ = some (.string a) := K1.out.box.cell 1
  have m1_2 : v1.cell? ⟨w.heap.size, 2, none⟩ = some (.string b) := K1.out.box.cell 2
  have m1_3 : v1.cell? ⟨w.heap.size, 3, none⟩ = some (.int .i64 n) := K1.out.box.cell 3
  have m1_4 : v1.cell? ⟨w.heap.size, 4, none⟩ = some (.int .i64 m) := K1.out.box.cell 4
  have m1_5 : v1.cell? ⟨w.heap.size, 5, none⟩ = some (.int .i64 j) := K1.out.box.cell 5
  cases r0 with
  | false =>
    go_wp2_with fail
    go_ret
    exact ⟨ret_bool (by rw [HV.out]; simp), K1.out.below⟩
  | true =>
  go_wp2_with fail
  refine (H1.out _).mono ?_
  rintro e v2 ⟨rfl, hb⟩
  have K2 := Lib.hid (K1.out.call hb)
  clear m1_1 m1_2 m1_3 m1_4 m1_5
  clear hb H1
  clear K1
  have m2_1 : v2.cell? ⟨w.heap.size, 1, none⟩ = some (.string a) := K2.out.box.cell 1
  have m2_2 : v2.cell? ⟨w.heap.size, 2, none⟩ = some (.string b) := K2.out.box.cell 2
  have m2_3 : v2.cell? ⟨w.heap.size, 3, none⟩ = some (.int .i64 n) := K2.out.box.cell 3
  have m2_4 : v2.cell? ⟨w.heap.size, 4, none⟩ = some (.int .i64 m) := K2.out.box.cell 4
  have m2_5 : v2.cell? ⟨w.heap.size, 5, none⟩ = some (.int .i64 j) := K2.out.box.cell 5
  cases r1 with
  | false =>
    go_wp2_with fail
    go_ret
    exact ⟨ret_bool (by rw [HV.out]; simp), K2.out.below⟩
  | true =>
  go_wp2_with fail
  go_ret
  exact ⟨ret_bool (by rw [HV.out]; simp), K2.out.below⟩
set_option maxHeartbeats 3200000 in
theorem pfilt5 (a b : ByteArray) (n m j : Int) (ha : a.size ≤ 1048576) (hb : b.size ≤ 1048576) (w : World) :
    Calls Tryz.prog 21 #[.agg (fcs 5 a b n m j)] w fun e w' => e = .returned (.bool (filtB ⟨5, toL a, toL b, n, m, j⟩)) ∧ Below w.heap.size w w' := by
  have H0 := Lib.hid (fun w => pfull_any b hb w)
  obtain ⟨r0, hr0⟩ : ∃ r0, r0 = ((toL b != [] && textB (toL b))) := ⟨_, rfl⟩
  rw [← hr0] at H0
  have heq := fun w => eqF 5 5 n 0 m 0 j 0 a ⟨#[]⟩ b b w
  obtain ⟨e0, he0⟩ : ∃ e0, e0 = ((toL a == []) && (n == 0) && (m == 0) && (j == 0)) := ⟨_, rfl⟩
  replace heq : ∀ w, (binOp .eql 49 (.agg #[.int .i64 5, .string a, .string b, .int .i64 n, .int .i64 m, .int .i64 j]) (.agg #[.int .i64 5, .string ⟨#[]⟩, .string b, .int .i64 0, .int .i64 0, .int .i64 0])).run Tryz.prog w = .ok (.bool e0) w := fun w => by
    rw [heq w, he0]
    congr 2
    simp only [beq_self_eq_true, Bool.true_and, Bool.and_true, empt, self_, Bool.and_assoc]
  have HV : Hid (filtB ⟨5, toL a, toL b, n, m, j⟩ = (e0 && r0)) := Lib.hid (by
    rw [he0, hr0]
    unfold filtB
    dsimp only
    rw [if_neg (by decide), if_neg (by decide), if_neg (by decide), if_neg (by decide), if_pos (by decide)]
    cases (toL b != []) <;> simp [TOK, Bool.and_assoc, Bool.and_comm])
  have K0 := Lib.hid (Ob.start w FT #[.int .i64 5, .string a, .string b, .int .i64 n, .int .i64 m, .int .i64 j])
  clear he0 hr0 ha hb
  unfold FT at K0
  unfold fcs
  go_enter Tryz.func21, Tryz.ntmps21
  cases e0 with
  | false =>
    go_wp2_with fail
    go_ret
    exact ⟨ret_bool (by rw [HV.out]; simp), K0.out.below⟩
  | true =>
  go_wp2_with fail
  refine (H0.out _).mono ?_
  rintro e v1 ⟨rfl, hb⟩
  have K1 := Lib.hid (K0.out.call hb)
  clear hb H0
  clear K0
  have m1_1 : v1.cell? ⟨w.heap.size, 1, none⟩ = some (.string a) := K1.out.box.cell 1
  have m1_2 : v1.cell? ⟨w.heap.size, 2, none⟩ = some (.string b) := K1.out.box.cell 2
  have m1_3 : v1.cell? ⟨w.heap.size, 3, none⟩ = some (.int .i64 n) := K1.out.box.cell 3
  have m1_4 : v1.cell? ⟨w.heap.size, 4, none⟩ = some (.int .i64 m) := K1.out.box.cell 4
  have m1_5 : v1.cell? ⟨w.heap.size, 5, none⟩ = some (.int .i64 j) := K1.out.box.cell 5
  cases r0 with
  | false =>
    go_wp2_with fail
    go_ret
    exact ⟨ret_bool (by rw [HV.out]; simp), K1.out.below⟩
  | true =>
  go_wp2_with fail
  go_ret
  exact ⟨ret_bool (by rw [HV.out]; simp), K1.out.below⟩
set_option maxHeartbeats 3200000 in
theorem pfilt6 (a b : ByteArray) (n m j : Int) (ha : a.size ≤ 1048576) (hb : b.size ≤ 1048576) (w : World) :
    Calls Tryz.prog 21 #[.agg (fcs 6 a b n m j)] w fun e w' => e = .returned (.bool (filtB ⟨6, toL a, toL b, n, m, j⟩)) ∧ Below w.heap.size w w' := by
  have H0 := Lib.hid (fun w => pwithin_any n 0 65536 w)
  obtain ⟨r0, hr0⟩ : ∃ r0, r0 = (inB n 0 65536) := ⟨_, rfl⟩
  rw [← hr0] at H0
  have heq := fun w => eqF 6 6 n n m 0 j 0 a ⟨#[]⟩ b ⟨#[]⟩ w
  obtain ⟨e0, he0⟩ : ∃ e0, e0 = ((toL a == []) && (toL b == []) && (m == 0) && (j == 0)) := ⟨_, rfl⟩
  replace heq : ∀ w, (binOp .eql 49 (.agg #[.int .i64 6, .string a, .string b, .int .i64 n, .int .i64 m, .int .i64 j]) (.agg #[.int .i64 6, .string ⟨#[]⟩, .string ⟨#[]⟩, .int .i64 n, .int .i64 0, .int .i64 0])).run Tryz.prog w = .ok (.bool e0) w := fun w => by
    rw [heq w, he0]
    congr 2
    simp only [beq_self_eq_true, Bool.true_and, Bool.and_true, empt, self_, Bool.and_assoc]
  have HV : Hid (filtB ⟨6, toL a, toL b, n, m, j⟩ = (e0 && r0)) := Lib.hid (by
    rw [he0, hr0]
    unfold filtB
    dsimp only
    rw [if_neg (by decide), if_neg (by decide), if_neg (by decide), if_neg (by decide), if_neg (by decide), if_pos (by decide)]
    try simp [TOK, Bool.and_assoc])
  have K0 := Lib.hid (Ob.start w FT #[.int .i64 6, .string a, .string b, .int .i64 n, .int .i64 m, .int .i64 j])
  clear he0 hr0 ha hb
  unfold FT at K0
  unfold fcs
  go_enter Tryz.func21, Tryz.ntmps21
  cases e0 with
  | false =>
    go_wp2_with fail
    go_ret
    exact ⟨ret_bool (by rw [HV.out]; simp), K0.out.below⟩
  | true =>
  go_wp2_with fail
  refine (H0.out _).mono ?_
  rintro e v1 ⟨rfl, rfl⟩
  clear H0
  cases r0 with
  | false =>
    go_wp2_with fail
    go_ret
    exact ⟨ret_bool (by rw [HV.out]; simp), K0.out.below⟩
  | true =>
  go_wp2_with fail
  go_ret
  exact ⟨ret_bool (by rw [HV.out]; simp), K0.out.below⟩
set_option maxHeartbeats 3200000 in
theorem pfilt7 (a b : ByteArray) (n m j : Int) (ha : a.size ≤ 1048576) (hb : b.size ≤ 1048576) (w : World) :
    Calls Tryz.prog 21 #[.agg (fcs 7 a b n m j)] w fun e w' => e = .returned (.bool (filtB ⟨7, toL a, toL b, n, m, j⟩)) ∧ Below w.heap.size w w' := by
  have H0 := Lib.hid (fun w => pwithin_any n 0 100 w)
  have H1 := Lib.hid (fun w => pwithin_any m 400 599 w)
  obtain ⟨r0, hr0⟩ : ∃ r0, r0 = (inB n 0 100) := ⟨_, rfl⟩
  rw [← hr0] at H0
  obtain ⟨r1, hr1⟩ : ∃ r1, r1 = (inB m 400 599) := ⟨_, rfl⟩
  rw [← hr1] at H1
  have heq := fun w => eqF 7 7 n n m m j 0 a ⟨#[]⟩ b ⟨#[]⟩ w
  obtain ⟨e0, he0⟩ : ∃ e0, e0 = ((toL a == []) && (toL b == []) && (j == 0)) := ⟨_, rfl⟩
  replace heq : ∀ w, (binOp .eql 49 (.agg #[.int .i64 7, .string a, .string b, .int .i64 n, .int .i64 m, .int .i64 j]) (.agg #[.int .i64 7, .string ⟨#[]⟩, .string ⟨#[]⟩, .int .i64 n, .int .i64 m, .int .i64 0])).run Tryz.prog w = .ok (.bool e0) w := fun w => by
    rw [heq w, he0]
    congr 2
    simp only [beq_self_eq_true, Bool.true_and, Bool.and_true, empt, self_, Bool.and_assoc]
  have HV : Hid (filtB ⟨7, toL a, toL b, n, m, j⟩ = (e0 && r0 && r1)) := Lib.hid (by
    rw [he0, hr0, hr1]
    unfold filtB
    dsimp only
    rw [if_neg (by decide), if_neg (by decide), if_neg (by decide), if_neg (by decide), if_neg (by decide), if_neg (by decide), if_pos (by decide)]
    try simp [TOK, Bool.and_assoc])
  have K0 := Lib.hid (Ob.start w FT #[.int .i64 7, .string a, .string b, .int .i64 n, .int .i64 m, .int .i64 j])
  clear he0 hr0 hr1 ha hb
  unfold FT at K0
  unfold fcs
  go_enter Tryz.func21, Tryz.ntmps21
  cases e0 with
  | false =>
    go_wp2_with fail
    go_ret
    exact ⟨ret_bool (by rw [HV.out]; simp), K0.out.below⟩
  | true =>
  go_wp2_with fail
  refine (H0.out _).mono ?_
  rintro e v1 ⟨rfl, rfl⟩
  clear H0
  cases r0 with
  | false =>
    go_wp2_with fail
    go_ret
    exact ⟨ret_bool (by rw [HV.out]; simp), K0.out.below⟩
  | true =>
  go_wp2_with fail
  refine (H1.out _).mono ?_
  rintro e v2 ⟨rfl, rfl⟩
  clear H1
  cases r1 with
  | false =>
    go_wp2_with fail
    go_ret
    exact ⟨ret_bool (by rw [HV.out]; simp), K0.out.below⟩
  | true =>
  go_wp2_with fail
  go_ret
  exact ⟨ret_bool (by rw [HV.out]; simp), K0.out.below⟩
set_option maxHeartbeats 3200000 in
theorem pfilt8 (a b : ByteArray) (n m j : Int) (ha : a.size ≤ 1048576) (hb : b.size ≤ 1048576) (w : World) :
    Calls Tryz.prog 21 #[.agg (fcs 8 a b n m j)] w fun e w' => e = .returned (.bool (filtB ⟨8, toL a, toL b, n, m, j⟩)) ∧ Below w.heap.size w w' := by
  have H0 := Lib.hid (fun w => pname_any a ha w)
  have H1 := Lib.hid (fun w => ptext_any b hb w)
  obtain ⟨r0, hr0⟩ : ∃ r0, r0 = (nameB (toL a)) := ⟨_, rfl⟩
  rw [← hr0] at H0
  obtain ⟨r1, hr1⟩ : ∃ r1, r1 = (textB (toL b)) := ⟨_, rfl⟩
  rw [← hr1] at H1
  have heq := fun w => eqF 8 8 n 0 m 0 j 0 a a b b w
  obtain ⟨e0, he0⟩ : ∃ e0, e0 = ((n == 0) && (m == 0) && (j == 0)) := ⟨_, rfl⟩
  replace heq : ∀ w, (binOp .eql 49 (.agg #[.int .i64 8, .string a, .string b, .int .i64 n, .int .i64 m, .int .i64 j]) (.agg #[.int .i64 8, .string a, .string b, .int .i64 0, .int .i64 0, .int .i64 0])).run Tryz.prog w = .ok (.bool e0) w := fun w => by
    rw [heq w, he0]
    congr 2
    simp only [beq_self_eq_true, Bool.true_and, Bool.and_true, empt, self_, Bool.and_assoc]
  have HV : Hid (filtB ⟨8, toL a, toL b, n, m, j⟩ = (e0 && r0 && r1)) := Lib.hid (by
    rw [he0, hr0, hr1]
    unfold filtB
    dsimp only
    rw [if_pos (by decide)]
    try simp [TOK, Bool.and_assoc])
  have K0 := Lib.hid (Ob.start w FT #[.int .i64 8, .string a, .string b, .int .i64 n, .int .i64 m, .int .i64 j])
  clear he0 hr0 hr1 ha hb
  unfold FT at K0
  unfold fcs
  go_enter Tryz.func21, Tryz.ntmps21
  cases e0 with
  | false =>
    go_wp2_with fail
    go_ret
    exact ⟨ret_bool (by rw [HV.out]; simp), K0.out.below⟩
  | true =>
  go_wp2_with fail
  refine (H0.out _).mono ?_
  rintro e v1 ⟨rfl, hb⟩
  have K1 := Lib.hid (K0.out.call hb)
  clear hb H0
  clear K0
  have m1_1 : v1.cell? ⟨w.heap.size, 1, none⟩ = some (.string a) := K1.out.box.cell 1
  have m1_2 : v1.cell? ⟨w.heap.size, 2, none⟩ = some (.string b) := K1.out.box.cell 2
  have m1_3 : v1.cell? ⟨w.heap.size, 3, none⟩ = some (.int .i64 n) := K1.out.box.cell 3
  have m1_4 : v1.cell? ⟨w.heap.size, 4, none⟩ = some (.int .i64 m) := K1.out.box.cell 4
  have m1_5 : v1.cell? ⟨w.heap.size, 5, none⟩ = some (.int .i64 j) := K1.out.box.cell 5
  cases r0 with
  | false =>
    go_wp2_with fail
    go_ret
    exact ⟨ret_bool (by rw [HV.out]; simp), K1.out.below⟩
  | true =>
  go_wp2_with fail
  refine (H1.out _).mono ?_
  rintro e v2 ⟨rfl, hb⟩
  have K2 := Lib.hid (K1.out.call hb)
  clear m1_1 m1_2 m1_3 m1_4 m1_5
  clear hb H1
  clear K1
  have m2_1 : v2.cell? ⟨w.heap.size, 1, none⟩ = some (.string a) := K2.out.box.cell 1
  have m2_2 : v2.cell? ⟨w.heap.size, 2, none⟩ = some (.string b) := K2.out.box.cell 2
  have m2_3 : v2.cell? ⟨w.heap.size, 3, none⟩ = some (.int .i64 n) := K2.out.box.cell 3
  have m2_4 : v2.cell? ⟨w.heap.size, 4, none⟩ = some (.int .i64 m) := K2.out.box.cell 4
  have m2_5 : v2.cell? ⟨w.heap.size, 5, none⟩ = some (.int .i64 j) := K2.out.box.cell 5
  cases r1 with
  | false =>
    go_wp2_with fail
    go_ret
    exact ⟨ret_bool (by rw [HV.out]; simp), K2.out.below⟩
  | true =>
  go_wp2_with fail
  go_ret
  exact ⟨ret_bool (by rw [HV.out]; simp), K2.out.below⟩
set_option maxHeartbeats 1600000 in
theorem pfilt_else (x : Filt) (h1 : x.kind ≠ 1) (h2 : x.kind ≠ 2) (h3 : x.kind ≠ 3) (h4 : x.kind ≠ 4) (h5 : x.kind ≠ 5) (h6 : x.kind ≠ 6) (h7 : x.kind ≠ 7) (h8 : x.kind ≠ 8) (w : World) :
    Calls Tryz.prog 21 #[.agg (fcs x.kind (ofL x.name) (ofL x.value) x.n x.m x.k)] w fun e w' => e = .returned (.bool (filtB x)) ∧ Below w.heap.size w w' := by
  have HV : filtB x = false := by
    unfold filtB
    rw [if_neg (by rintro (h | h); exact h1 h; exact h8 h), if_neg h2, if_neg h3, if_neg h4, if_neg h5, if_neg h6, if_neg h7]
  rw [HV]
  unfold fcs
  have q1 : (x.kind == 1) = false := beq_false_of_ne h1
  have q2 : (x.kind == 2) = false := beq_false_of_ne h2
  have q3 : (x.kind == 3) = false := beq_false_of_ne h3
  have q4 : (x.kind == 4) = false := beq_false_of_ne h4
  have q5 : (x.kind == 5) = false := beq_false_of_ne h5
  have q6 : (x.kind == 6) = false := beq_false_of_ne h6
  have q7 : (x.kind == 7) = false := beq_false_of_ne h7
  have q8 : (x.kind == 8) = false := beq_false_of_ne h8
  clear HV h1 h2 h3 h4 h5 h6 h7 h8
  go_enter Tryz.func21, Tryz.ntmps21
  go_wp2_with fail
  go_ret
  exact ⟨rfl, (Below.refl _ _).alloc (Nat.le_refl _) _⟩
theorem pfilter_any (x : Filt) (hx : FitFilt x) (w : World) :
    Calls Tryz.prog 21 #[.agg (fcs x.kind (ofL x.name) (ofL x.value) x.n x.m x.k)] w fun e w' => e = .returned (.bool (filtB x)) ∧ Below w.heap.size w w' := by
  have ha : (ofL x.name).size ≤ 1048576 := by rw [ofL_size]; exact hx.name
  have hb : (ofL x.value).size ≤ 1048576 := by rw [ofL_size]; exact hx.value
  obtain ⟨k, a, b, n, m, j⟩ := x
  dsimp only at ha hb ⊢
  by_cases h1 : k = 1
  · subst h1
    have := pfilt1 (ofL a) (ofL b) n m j ha hb w
    rw [toL_ofL, toL_ofL] at this
    exact this
  by_cases h2 : k = 2
  · subst h2
    have := pfilt2 (ofL a) (ofL b) n m j ha hb w
    rw [toL_ofL, toL_ofL] at this
    exact this
  by_cases h3 : k = 3
  · subst h3
    have := pfilt3 (ofL a) (ofL b) n m j ha hb w
    rw [toL_ofL, toL_ofL] at this
    exact this
  by_cases h4 : k = 4
  · subst h4
    have := pfilt4 (ofL a) (ofL b) n m j ha hb w
    rw [toL_ofL, toL_ofL] at this
    exact this
  by_cases h5 : k = 5
  · subst h5
    have := pfilt5 (ofL a) (ofL b) n m j ha hb w
    rw [toL_ofL, toL_ofL] at this
    exact this
  by_cases h6 : k = 6
  · subst h6
    have := pfilt6 (ofL a) (ofL b) n m j ha hb w
    rw [toL_ofL, toL_ofL] at this
    exact this
  by_cases h7 : k = 7
  · subst h7
    have := pfilt7 (ofL a) (ofL b) n m j ha hb w
    rw [toL_ofL, toL_ofL] at this
    exact this
  by_cases h8 : k = 8
  · subst h8
    have := pfilt8 (ofL a) (ofL b) n m j ha hb w
    rw [toL_ofL, toL_ofL] at this
    exact this
  exact pfilt_else ⟨k, a, b, n, m, j⟩ h1 h2 h3 h4 h5 h6 h7 h8 w
end Go.Proofs.YtfihehobkbfmiaaGreatDoor.PCfgF

/- Layer 14, the document's own bounds. -/
namespace Go.Proofs.YtfihehobkbfmiaaGreatDoor.R14Bnd
open Go.ChangeShapes Go.WideShapes Go.ChangeAt Go.RowKit Bytes LexPure ConfPure ConfMem Ret Mem R14In
set_option maxRecDepth 100000
set_option linter.unusedVariables false
abbrev CT : TypeId := 26
/-- the values of the three lists -/
structure Vals (c : Conf) (vf vc vv : Value) : Prop where
  lf : ∃ p cap, vf = .slice p c.filters.length cap
  lc : ∃ p cap, vc = .slice p c.clusters.length cap
  lv : ∃ p cap, vv = .slice p c.vhosts.length cap
theorem CF.vals {w : World} {vf vc vv : Value} {c : Conf} (h : CF w vf vc vv c) : Vals c vf vc vv := by
  obtain ⟨p, cap, h1, _⟩ := h.filters.parts
  obtain ⟨p2, cap2, h2, _⟩ := h.clusters.parts
  obtain ⟨p3, cap3, h3, _⟩ := h.vhosts.parts
  exact ⟨⟨p, cap, h1⟩, ⟨p2, cap2, h2⟩, ⟨p3, cap3, h3⟩⟩
set_option maxHeartbeats 3200000 in
theorem rbounds_any (c : Conf) (vf vc vv : Value) (hV : Vals c vf vc vv) (w : World) :
    Calls Tryz.prog 24 #[.agg (confV c vf vc vv)] w fun e w' => e = .returned (.bool (boundsB c)) ∧ Below w.heap.size w w' := by
  obtain ⟨⟨pf, cf, rfl⟩, ⟨pc, cc, rfl⟩, ⟨pv, cv, rfl⟩⟩ := hV
  have H0 := Lib.hid (fun w => rin_any c.conns 1 256 w)
  have H1 := Lib.hid (fun w => rin_any c.body 0 65536 w)
  have H2 := Lib.hid (fun w => rin_any c.idle 1 TICK w)
  have H3 := Lib.hid (fun w => rin_any c.grace 1 TICK w)
  have H4 := Lib.hid (fun w => rin_any c.budget 0 256 w)
  have H5 := Lib.hid (fun w => rin_any c.seed 0 1099511627776 w)
  have k1 : decide ((c.filters.length : Int) ≤ (32 : Int)) = decide (c.filters.length ≤ 32) := by by_cases h : c.filters.length ≤ 32 <;> simp [h] <;> omega
  have k2 : decide ((c.clusters.length : Int) ≤ (32 : Int)) = decide (c.clusters.length ≤ 32) := by by_cases h : c.clusters.length ≤ 32 <;> simp [h] <;> omega
  have k3 : decide ((c.vhosts.length : Int) ≤ (32 : Int)) = decide (c.vhosts.length ≤ 32) := by by_cases h : c.vhosts.length ≤ 32 <;> simp [h] <;> omega
  unfold boundsB
  obtain ⟨r0, hr0⟩ : ∃ r0, r0 = inB c.conns 1 256 := ⟨_, rfl⟩
  obtain ⟨r1, hr1⟩ : ∃ r1, r1 = inB c.body 0 65536 := ⟨_, rfl⟩
  obtain ⟨r2, hr2⟩ : ∃ r2, r2 = inB c.idle 1 TICK := ⟨_, rfl⟩
  obtain ⟨r3, hr3⟩ : ∃ r3, r3 = inB c.grace 1 TICK := ⟨_, rfl⟩
  obtain ⟨r4, hr4⟩ : ∃ r4, r4 = inB c.budget 0 256 := ⟨_, rfl⟩
  obtain ⟨r5, hr5⟩ : ∃ r5, r5 = inB c.seed 0 1099511627776 := ⟨_, rfl⟩
  obtain ⟨r6, hr6⟩ : ∃ r6, r6 = decide (c.filters.length ≤ 32) := ⟨_, rfl⟩
  obtain ⟨r7, hr7⟩ : ∃ r7, r7 = decide (c.clusters.length ≤ 32) := ⟨_, rfl⟩
  obtain ⟨r8, hr8⟩ : ∃ r8, r8 = decide (c.vhosts.length ≤ 32) := ⟨_, rfl⟩
  rw [← hr0] at H0 ⊢
  rw [← hr1] at H1 ⊢
  rw [← hr2] at H2 ⊢
  rw [← hr3] at H3 ⊢
  rw [← hr4] at H4 ⊢
  rw [← hr5] at H5 ⊢
  rw [← hr6] at k1 ⊢
  rw [← hr7] at k2 ⊢
  rw [← hr8] at k3 ⊢
  replace hr6 := hr6.symm
  replace hr7 := hr7.symm
  replace hr8 := hr8.symm
  unfold TICK at H2 H3
  have HB := Lib.hid ((Below.refl w.heap.size w).alloc (Nat.le_refl _) (.cells (confV c (.slice pf c.filters.length cf) (.slice pc c.clusters.length cc) (.slice pv c.vhosts.length cv)) CT))
  unfold confV
  unfold confV CT at HB
  clear hr0 hr1 hr2 hr3 hr4 hr5
  go_enter Tryz.func24, Tryz.ntmps24
  go_wp2_with fail
  refine (H0.out _).mono ?_
  rintro e w1 ⟨rfl, rfl⟩
  clear H0
  cases r0 with
  | false =>
    go_wp2_with fail
    go_ret
    exact ⟨rfl, HB.out⟩
  | true =>
    go_wp2_with fail
    refine (H1.out _).mono ?_
    rintro e w2 ⟨rfl, rfl⟩
    clear H1
    cases r1 with
    | false =>
      go_wp2_with fail
      go_ret
      exact ⟨rfl, HB.out⟩
    | true =>
      go_wp2_with fail
      refine (H2.out _).mono ?_
      rintro e w3 ⟨rfl, rfl⟩
      clear H2
      cases r2 with
      | false =>
        go_wp2_with fail
        go_ret
        exact ⟨rfl, HB.out⟩
      | true =>
        go_wp2_with fail
        refine (H3.out _).mono ?_
        rintro e w4 ⟨rfl, rfl⟩
        clear H3
        cases r3 with
        | false =>
          go_wp2_with fail
          go_ret
          exact ⟨rfl, HB.out⟩
        | true =>
          go_wp2_with fail
          refine (H4.out _).mono ?_
          rintro e w5 ⟨rfl, rfl⟩
          clear H4
          cases r4 with
          | false =>
            go_wp2_with fail
            go_ret
            exact ⟨rfl, HB.out⟩
          | true =>
            go_wp2_with fail
            refine (H5.out _).mono ?_
            rintro e w6 ⟨rfl, rfl⟩
            clear H5
            cases r5 with
            | false =>
              go_wp2_with fail
              go_ret
              exact ⟨rfl, HB.out⟩
            | true =>
              cases r6 <;> cases r7 <;> cases r8
              · go_wp2_with fail
                go_ret
                exact ⟨rfl, HB.out⟩
              · go_wp2_with fail
                go_ret
                exact ⟨rfl, HB.out⟩
              · go_wp2_with fail
                go_ret
                exact ⟨rfl, HB.out⟩
              · go_wp2_with fail
                go_ret
                exact ⟨rfl, HB.out⟩
              · go_wp2_with fail
                go_ret
                exact ⟨rfl, HB.out⟩
              · go_wp2_with fail
                go_ret
                exact ⟨rfl, HB.out⟩
              · go_wp2_with fail
                go_ret
                exact ⟨rfl, HB.out⟩
              · go_wp2_with fail
                go_ret
                exact ⟨rfl, HB.out⟩
end Go.Proofs.YtfihehobkbfmiaaGreatDoor.R14Bnd

/- Layer 14, the program: bounded. -/
namespace Go.Proofs.YtfihehobkbfmiaaGreatDoor.PCfgBnd
open Go.ChangeShapes Go.WideShapes Go.ChangeAt Go.RowKit Bytes LexPure ConfPure ConfMem Ret Mem PCfgT R14Bnd
set_option maxRecDepth 100000
set_option linter.unusedVariables false
set_option maxHeartbeats 3200000 in
theorem pbounds_any (c : Conf) (vf vc vv : Value) (hV : Vals c vf vc vv) (w : World) :
    Calls Tryz.prog 20 #[.agg (confV c vf vc vv)] w fun e w' => e = .returned (.bool (boundsB c)) ∧ Below w.heap.size w w' := by
  obtain ⟨⟨pf, cf, rfl⟩, ⟨pc, cc, rfl⟩, ⟨pv, cv, rfl⟩⟩ := hV
  have H0 := Lib.hid (fun w => pwithin_any c.conns 1 256 w)
  have H1 := Lib.hid (fun w => pwithin_any c.body 0 65536 w)
  have H2 := Lib.hid (fun w => pwithin_any c.idle 1 TICK w)
  have H3 := Lib.hid (fun w => pwithin_any c.grace 1 TICK w)
  have H4 := Lib.hid (fun w => pwithin_any c.budget 0 256 w)
  have H5 := Lib.hid (fun w => pwithin_any c.seed 0 1099511627776 w)
  have k1 : decide ((c.filters.length : Int) ≤ (32 : Int)) = decide (c.filters.length ≤ 32) := by by_cases h : c.filters.length ≤ 32 <;> simp [h] <;> omega
  have k2 : decide ((c.clusters.length : Int) ≤ (32 : Int)) = decide (c.clusters.length ≤ 32) := by by_cases h : c.clusters.length ≤ 32 <;> simp [h] <;> omega
  have k3 : decide ((c.vhosts.length : Int) ≤ (32 : Int)) = decide (c.vhosts.length ≤ 32) := by by_cases h : c.vhosts.length ≤ 32 <;> simp [h] <;> omega
  unfold boundsB
  obtain ⟨r0, hr0⟩ : ∃ r0, r0 = inB c.conns 1 256 := ⟨_, rfl⟩
  obtain ⟨r1, hr1⟩ : ∃ r1, r1 = inB c.body 0 65536 := ⟨_, rfl⟩
  obtain ⟨r2, hr2⟩ : ∃ r2, r2 = inB c.idle 1 TICK := ⟨_, rfl⟩
  obtain ⟨r3, hr3⟩ : ∃ r3, r3 = inB c.grace 1 TICK := ⟨_, rfl⟩
  obtain ⟨r4, hr4⟩ : ∃ r4, r4 = inB c.budget 0 256 := ⟨_, rfl⟩
  obtain ⟨r5, hr5⟩ : ∃ r5, r5 = inB c.seed 0 1099511627776 := ⟨_, rfl⟩
  obtain ⟨r6, hr6⟩ : ∃ r6, r6 = decide (c.filters.length ≤ 32) := ⟨_, rfl⟩
  obtain ⟨r7, hr7⟩ : ∃ r7, r7 = decide (c.clusters.length ≤ 32) := ⟨_, rfl⟩
  obtain ⟨r8, hr8⟩ : ∃ r8, r8 = decide (c.vhosts.length ≤ 32) := ⟨_, rfl⟩
  rw [← hr0] at H0 ⊢
  rw [← hr1] at H1 ⊢
  rw [← hr2] at H2 ⊢
  rw [← hr3] at H3 ⊢
  rw [← hr4] at H4 ⊢
  rw [← hr5] at H5 ⊢
  rw [← hr6] at k1 ⊢
  rw [← hr7] at k2 ⊢
  rw [← hr8] at k3 ⊢
  replace hr6 := hr6.symm
  replace hr7 := hr7.symm
  replace hr8 := hr8.symm
  unfold TICK at H2 H3
  have HB := Lib.hid ((Below.refl w.heap.size w).alloc (Nat.le_refl _) (.cells (confV c (.slice pf c.filters.length cf) (.slice pc c.clusters.length cc) (.slice pv c.vhosts.length cv)) CT))
  unfold confV
  unfold confV CT at HB
  clear hr0 hr1 hr2 hr3 hr4 hr5
  go_enter Tryz.func20, Tryz.ntmps20
  go_wp2_with fail
  refine (H0.out _).mono ?_
  rintro e w1 ⟨rfl, rfl⟩
  clear H0
  cases r0 with
  | false =>
    go_wp2_with fail
    go_ret
    exact ⟨rfl, HB.out⟩
  | true =>
    go_wp2_with fail
    refine (H1.out _).mono ?_
    rintro e w2 ⟨rfl, rfl⟩
    clear H1
    cases r1 with
    | false =>
      go_wp2_with fail
      go_ret
      exact ⟨rfl, HB.out⟩
    | true =>
      go_wp2_with fail
      refine (H2.out _).mono ?_
      rintro e w3 ⟨rfl, rfl⟩
      clear H2
      cases r2 with
      | false =>
        go_wp2_with fail
        go_ret
        exact ⟨rfl, HB.out⟩
      | true =>
        go_wp2_with fail
        refine (H3.out _).mono ?_
        rintro e w4 ⟨rfl, rfl⟩
        clear H3
        cases r3 with
        | false =>
          go_wp2_with fail
          go_ret
          exact ⟨rfl, HB.out⟩
        | true =>
          go_wp2_with fail
          refine (H4.out _).mono ?_
          rintro e w5 ⟨rfl, rfl⟩
          clear H4
          cases r4 with
          | false =>
            go_wp2_with fail
            go_ret
            exact ⟨rfl, HB.out⟩
          | true =>
            go_wp2_with fail
            refine (H5.out _).mono ?_
            rintro e w6 ⟨rfl, rfl⟩
            clear H5
            cases r5 with
            | false =>
              go_wp2_with fail
              go_ret
              exact ⟨rfl, HB.out⟩
            | true =>
              cases r6 <;> cases r7 <;> cases r8
              · go_wp2_with fail
                go_ret
                exact ⟨rfl, HB.out⟩
              · go_wp2_with fail
                go_ret
                exact ⟨rfl, HB.out⟩
              · go_wp2_with fail
                go_ret
                exact ⟨rfl, HB.out⟩
              · go_wp2_with fail
                go_ret
                exact ⟨rfl, HB.out⟩
              · go_wp2_with fail
                go_ret
                exact ⟨rfl, HB.out⟩
              · go_wp2_with fail
                go_ret
                exact ⟨rfl, HB.out⟩
              · go_wp2_with fail
                go_ret
                exact ⟨rfl, HB.out⟩
              · go_wp2_with fail
                go_ret
                exact ⟨rfl, HB.out⟩
end Go.Proofs.YtfihehobkbfmiaaGreatDoor.PCfgBnd

/- Layer 14 of the program: Check. -/
namespace Go.Proofs.YtfihehobkbfmiaaGreatDoor.PCfgK
open Go.ChangeShapes Go.WideShapes Go.ChangeAt Go.RowKit Bytes LexPure ConfPure ConfMem ConfAt Ret Mem Texts PCfgLib PCfgBox PCfgT PCfgS PCfgC PCfgR PCfgV R14Name R14Bnd
set_option maxRecDepth 100000
set_option linter.unusedVariables false
set_option linter.unusedSimpArgs false
structure Kx (w : World) (g : Nat) (c : Conf) (vf vc vv : Value) (W : World) : Prop where
  box : Has W g CT (confV c vf vc vv)
  cf : CF W vf vc vv c
  mi : MaxInt W
  pw : PCfgLib.Pow W
  below : Below g w W
theorem Kx.call {w W W' : World} {g : Nat} {c : Conf} {vf vc vv : Value} (x : Kx w g c vf vc vv W) (hb : Below W.heap.size W W') : Kx w g c vf vc vv W' :=
  ⟨x.box.below hb x.box.lt, x.cf.below hb, PUnder.MaxInt.below x.mi hb, x.pw.below hb, ⟨hb.os.trans x.below.os, hb.tape.trans x.below.tape, hb.output.trans x.below.output, Nat.le_trans x.below.size hb.size, fun i hi => (hb.block i (Nat.lt_trans hi x.box.lt)).trans (x.below.block i hi)⟩⟩
theorem Kx.start {w : World} {c : Conf} {vf vc vv : Value} (hC : CF w vf vc vv c) (hm : MaxInt w) (hp : PCfgLib.Pow w) : Kx w w.heap.size c vf vc vv (w.alloc (.cells (confV c vf vc vv) CT)) :=
  have ha := (Below.refl w.heap.size w).alloc (Nat.le_refl _) (.cells (confV c vf vc vv) CT)
  ⟨Has.new w _ _, hC.below ha, PUnder.MaxInt.below hm ha, hp.below ha, ha⟩
theorem clusE_step (ahead cs : List Clus) (x : Clus) : clusE ahead (x :: cs) = if clE ahead x ≠ 0 then clE ahead x else clusE (ahead ++ [x]) cs := by
  conv => lhs; unfold clusE
  unfold clE
  by_cases h1 : (ahead.any (fun y => y.name == x.name) || !tokenB x.name 32) = true
  · rw [if_pos h1, if_pos h1, if_pos (by decide)]
  · rw [if_neg h1, if_neg h1]
    by_cases h2 : (!clusB x) = true
    · rw [if_pos h2, if_pos h2, if_pos (by decide)]
    · rw [if_neg h2, if_neg h2, if_neg (by decide)]
set_option maxHeartbeats 12800000 in
theorem pcheck_any (c : Conf) (vf vc vv : Value) (hx : FitConf c) (w : World) (hm : MaxInt w) (hp : PCfgLib.Pow w) (hC : CF w vf vc vv c) :
    Calls Tryz.prog 10 #[.agg (confV c vf vc vv)] w fun e w' => e = .returned (.int .i64 (check14 c)) ∧ Below w.heap.size w w' := by
  have HBd := Lib.hid (fun w => PCfgBnd.pbounds_any c vf vc vv (R14Bnd.CF.vals hC) w)
  have K0 := Lib.hid (Kx.start hC hm hp)
  have hcc := hC.capc
  have hcv := hC.capv
  obtain ⟨⟨pf, cf, rfl⟩, ⟨pc, cc, rfl⟩, ⟨pv, cv, rfl⟩⟩ := R14Bnd.CF.vals hC
  have hkc : c.clusters.length ≤ cc := hcc _ _ _ rfl
  have hkv : c.vhosts.length ≤ cv := hcv _ _ _ rfl
  have HX := Lib.hid hx
  have hfl := hx.filters.1
  have hcl := hx.clusters.1
  have hvl := hx.vhosts.1
  obtain ⟨r0, hr0⟩ : ∃ r0, r0 = boundsB c := ⟨_, rfl⟩
  rw [← hr0] at HBd
  have HR0 := Lib.hid hr0
  clear hC hr0 hx hm hp hcc hcv
  unfold confV at HBd ⊢
  go_enter Tryz.func10, Tryz.ntmps10
  go_wp2_with fail
  refine (HBd.out _).mono ?_
  rintro e w2 ⟨rfl, hb2⟩
  have K2 := Lib.hid (K0.out.call hb2)
  clear K0 hb2 HBd
  have b6 : w2.cell? ⟨w.heap.size, 6, none⟩ = some (.slice pf c.filters.length cf) := K2.out.box.cell 6
  cases r0 with
  | false =>
    have HV : Hid (check14 c = 141) := Lib.hid (by unfold check14; rw [← HR0.out]; rfl)
    go_wp2_with fail
    go_ret
    exact ⟨ret_int HV.out.symm, K2.out.below⟩
  | true =>
  have HV1 : Hid (check14 c = if !c.filters.all filtB then 145 else if clusE [] c.clusters ≠ 0 then clusE [] c.clusters else vhosE c.clusters [] c.vhosts) := Lib.hid (by unfold check14; rw [← HR0.out]; rfl)
  clear HR0
  go_wp2_with fail
  clear b6
  go_loopw [17] (fun i2 wr => ∃ k : Nat, k ≤ c.filters.length ∧ i2 = .int .i64 k ∧ Hid ((c.filters.take k).all filtB = true ∧ Kx w w.heap.size c (.slice pf c.filters.length cf) (.slice pc c.clusters.length cc) (.slice pv c.vhosts.length cv) wr)) (fun i2 _ => c.filters.length - (intOf i2).toNat)
  case atStart => exact ⟨0, Nat.zero_le _, rfl, Lib.hid ⟨rfl, K2.out⟩⟩
  case round =>
    obtain ⟨k, hk, rfl, HJ⟩ := hrel
    clear K2
    by_cases hlt : k < c.filters.length
    · have hki : (k : Int) < (c.filters.length : Int) := by omega
      have hk0 : (0 : Int) ≤ (k : Int) := by omega
      obtain ⟨gf, of, rfl, hxc⟩ := filts_at HJ.out.2.cf.filters k hlt
      have HS := Lib.hid (all_step c.filters filtB k hlt)
      have HNo := Lib.hid (fun h => all_no (q := filtB) hlt h)
      obtain ⟨x, hxx⟩ : ∃ x, x = c.filters[k] := ⟨_, rfl⟩
      obtain ⟨m0, m1, m2, m3, m4, m5⟩ := hxc x hxx
      have hfx : FitFilt x := by rw [hxx]; exact HX.out.filters.2 _ (List.getElem_mem hlt)
      have HF := Lib.hid (fun w => PCfgF.pfilter_any x hfx w)
      rw [← hxx] at HS HNo
      obtain ⟨rb, hrb⟩ : ∃ rb, rb = filtB x := ⟨_, rfl⟩
      rw [← hrb] at HF HS HNo
      unfold R14Eq.fcs at HF
      have hba := (Below.refl wr.heap.size wr).alloc (Nat.le_refl _) (.cells #[.int .i64 x.kind, .string (ofL x.name), .string (ofL x.value), .int .i64 x.n, .int .i64 x.m, .int .i64 x.k] 49)
      have KA := Lib.hid (HJ.out.2.call hba)
      have HH := Lib.hid HJ.out.1
      clear hxc hxx hfx hrb HJ hba
      go_wp2_with fail
      refine (HF.out _).mono ?_
      rintro e w5 ⟨rfl, hb5⟩
      have K5 := Lib.hid (KA.out.call hb5)
      clear HF m0 m1 m2 m3 m4 m5 hb5 KA
      cases rb with
      | false =>
        have HV : Hid (check14 c = 145) := Lib.hid (by rw [HV1.out, HNo.out rfl]; rfl)
        go_wp2_with fail
        go_ret
        exact ⟨ret_int HV.out.symm, K5.out.below⟩
      | true =>
        have HK : Hid ((c.filters.take (k + 1)).all filtB = true ∧ Kx w w.heap.size c (.slice (some ⟨gf, of, none⟩) c.filters.length cf) (.slice pc c.clusters.length cc) (.slice pv c.vhosts.length cv) w5) := Lib.hid ⟨by rw [HS.out, HH.out]; rfl, K5.out⟩
        clear K5 HH HS
        go_wp2_with fail
        go_roundw
        case rel => exact ⟨k + 1, by omega, by go_num, HK⟩
        case measure => simp [intOf]; omega
    · have hki : ¬ (k : Int) < (c.filters.length : Int) := by omega
      obtain rfl : k = c.filters.length := by omega
      have HV2 : Hid (check14 c = if clusE [] c.clusters ≠ 0 then clusE [] c.clusters else vhosE c.clusters [] c.vhosts) := Lib.hid (by
        rw [HV1.out]
        have := HJ.out.1
        rw [List.take_length] at this
        rw [this]
        rfl)
      have K3 := Lib.hid HJ.out.2
      clear HJ hlt HV1
      have b7 : wr.cell? ⟨w.heap.size, 7, none⟩ = some (.slice pc c.clusters.length cc) := K3.out.box.cell 7
      go_wp2_with fail
      clear hk hki b7
      go_loopw [28] (fun i2 wr => ∃ k : Nat, k ≤ c.clusters.length ∧ i2 = .int .i64 k ∧ Hid (clusE [] c.clusters = clusE (c.clusters.take k) (c.clusters.drop k) ∧ Kx w w.heap.size c (.slice pf c.filters.length cf) (.slice pc c.clusters.length cc) (.slice pv c.vhosts.length cv) wr)) (fun i2 _ => c.clusters.length - (intOf i2).toNat)
      case atStart => exact ⟨0, Nat.zero_le _, rfl, Lib.hid ⟨by simp, K3.out⟩⟩
      case round =>
        obtain ⟨k, hk, rfl, HJ⟩ := hrel
        clear K3
        by_cases hlt : k < c.clusters.length
        · have hki : (k : Int) < (c.clusters.length : Int) := by omega
          have hk0 : (0 : Int) ≤ (k : Int) := by omega
          have hkc2 : (k : Int) ≤ (cc : Int) := by omega
          have hln : (c.clusters.take k).length ≤ 1048576 := by rw [List.length_take]; omega
          obtain ⟨gc, oc, rfl, hgl, hxc⟩ := cluss_at HJ.out.2.cf.clusters k hlt
          obtain ⟨x, hxx⟩ : ∃ x, x = c.clusters[k] := ⟨_, rfl⟩
          have hfx : FitClus x := by rw [hxx]; exact HX.out.clusters.2 _ (List.getElem_mem hlt)
          have HS : Hid (clusE (c.clusters.take k) (c.clusters.drop k) = if clE (c.clusters.take k) x ≠ 0 then clE (c.clusters.take k) x else clusE (c.clusters.take (k + 1)) (c.clusters.drop (k + 1))) := Lib.hid (by
            rw [List.drop_eq_getElem_cons hlt, clusE_step, hxx, List.take_succ_eq_append_getElem hlt])
          obtain ⟨hh, ⟨htx, hcp⟩, m0, m1, m2, m3, m4, m5, m6, m7, m8⟩ := hxc x hxx
          obtain ⟨ph, ch, rfl, _, _⟩ := id htx
          have HCl := Lib.hid (fun (cap2 : Nat) w h1 h2 h3 h4 => pclus_any x (.slice ph x.hosts.length ch) hfx (c.clusters.take k) (.slice (some ⟨gc, oc, none⟩) k cap2) hln w h1 h2 h3 hcp h4)
          obtain ⟨E, hE⟩ : ∃ E, E = clE (c.clusters.take k) x := ⟨_, rfl⟩
          rw [← hE] at HCl HS
          have hba : Below wr.heap.size wr (wr.alloc (.cells #[.string (ofL x.name), .int .i64 x.policy, .slice ph x.hosts.length ch, .int .i64 x.conns, .int .i64 x.pending, .int .i64 x.try_, .int .i64 x.fails, .int .i64 x.eject, .int .i64 x.panic] 38)).drew := below_drew ((Below.refl wr.heap.size wr).alloc (Nat.le_refl _) _)
          have KA := HJ.out.2.call hba
          have HN := (Has.new wr 38 #[.string (ofL x.name), .int .i64 x.policy, .slice ph x.hosts.length ch, .int .i64 x.conns, .int .i64 x.pending, .int .i64 x.try_, .int .i64 x.fails, .int .i64 x.eject, .int .i64 x.panic]).drew
          have htx2 := Texts.below htx hba
          have hct2 := fun cap2 => cluss_take KA.cf.clusters k (Nat.le_of_lt hlt) cap2
          have s1 := And.intro (show (wr.alloc (.cells #[.string (ofL x.name), .int .i64 x.policy, .slice ph x.hosts.length ch, .int .i64 x.conns, .int .i64 x.pending, .int .i64 x.try_, .int .i64 x.fails, .int .i64 x.eject, .int .i64 x.panic] 38)).drew.cell? ⟨w.heap.size, 7, none⟩ = some (.slice (some ⟨gc, oc, none⟩) c.clusters.length cc) from KA.box.cell 7) (show (wr.alloc (.cells #[.string (ofL x.name), .int .i64 x.policy, .slice ph x.hosts.length ch, .int .i64 x.conns, .int .i64 x.pending, .int .i64 x.try_, .int .i64 x.fails, .int .i64 x.eject, .int .i64 x.panic] 38)).drew.cell? ⟨wr.heap.size, 0, none⟩ = some (.string (ofL x.name)) ∧ (wr.alloc (.cells #[.string (ofL x.name), .int .i64 x.policy, .slice ph x.hosts.length ch, .int .i64 x.conns, .int .i64 x.pending, .int .i64 x.try_, .int .i64 x.fails, .int .i64 x.eject, .int .i64 x.panic] 38)).drew.cell? ⟨wr.heap.size, 1, none⟩ = some (.int .i64 x.policy) ∧ (wr.alloc (.cells #[.string (ofL x.name), .int .i64 x.policy, .slice ph x.hosts.length ch, .int .i64 x.conns, .int .i64 x.pending, .int .i64 x.try_, .int .i64 x.fails, .int .i64 x.eject, .int .i64 x.panic] 38)).drew.cell? ⟨wr.heap.size, 2, none⟩ = some (.slice ph x.hosts.length ch) ∧ (wr.alloc (.cells #[.string (ofL x.name), .int .i64 x.policy, .slice ph x.hosts.length ch, .int .i64 x.conns, .int .i64 x.pending, .int .i64 x.try_, .int .i64 x.fails, .int .i64 x.eject, .int .i64 x.panic] 38)).drew.cell? ⟨wr.heap.size, 3, none⟩ = some (.int .i64 x.conns) ∧ (wr.alloc (.cells #[.string (ofL x.name), .int .i64 x.policy, .slice ph x.hosts.length ch, .int .i64 x.conns, .int .i64 x.pending, .int .i64 x.try_, .int .i64 x.fails, .int .i64 x.eject, .int .i64 x.panic] 38)).drew.cell? ⟨wr.heap.size, 4, none⟩ = some (.int .i64 x.pending) ∧ (wr.alloc (.cells #[.string (ofL x.name), .int .i64 x.policy, .slice ph x.hosts.length ch, .int .i64 x.conns, .int .i64 x.pending, .int .i64 x.try_, .int .i64 x.fails, .int .i64 x.eject, .int .i64 x.panic] 38)).drew.cell? ⟨wr.heap.size, 5, none⟩ = some (.int .i64 x.try_) ∧ (wr.alloc (.cells #[.string (ofL x.name), .int .i64 x.policy, .slice ph x.hosts.length ch, .int .i64 x.conns, .int .i64 x.pending, .int .i64 x.try_, .int .i64 x.fails, .int .i64 x.eject, .int .i64 x.panic] 38)).drew.cell? ⟨wr.heap.size, 6, none⟩ = some (.int .i64 x.fails) ∧ (wr.alloc (.cells #[.string (ofL x.name), .int .i64 x.policy, .slice ph x.hosts.length ch, .int .i64 x.conns, .int .i64 x.pending, .int .i64 x.try_, .int .i64 x.fails, .int .i64 x.eject, .int .i64 x.panic] 38)).drew.cell? ⟨wr.heap.size, 7, none⟩ = some (.int .i64 x.eject) ∧ (wr.alloc (.cells #[.string (ofL x.name), .int .i64 x.policy, .slice ph x.hosts.length ch, .int .i64 x.conns, .int .i64 x.pending, .int .i64 x.try_, .int .i64 x.fails, .int .i64 x.eject, .int .i64 x.panic] 38)).drew.cell? ⟨wr.heap.size, 8, none⟩ = some (.int .i64 x.panic) from ⟨HN.cell 0, HN.cell 1, HN.cell 2, HN.cell 3, HN.cell 4, HN.cell 5, HN.cell 6, HN.cell 7, HN.cell 8⟩)
          have hne : w.heap.size ≠ wr.heap.size := Nat.ne_of_lt HJ.out.2.box.lt
          have HH := Lib.hid HJ.out.1
          clear hxc hxx hfx hE HJ hba htx hcp hln
          go_wp2_with fail
          clear m0 m1 m2 m3 m4 m5 m6 m7 m8
          go_region_held3 (fun w' => w'.cell? ⟨w.heap.size, 7, none⟩ = some (.slice (some ⟨gc, oc, none⟩) c.clusters.length cc) ∧ w'.cell? ⟨wr.heap.size, 0, none⟩ = some (.string (ofL x.name)) ∧ w'.cell? ⟨wr.heap.size, 1, none⟩ = some (.int .i64 x.policy) ∧ w'.cell? ⟨wr.heap.size, 2, none⟩ = some (.slice ph x.hosts.length ch) ∧ w'.cell? ⟨wr.heap.size, 3, none⟩ = some (.int .i64 x.conns) ∧ w'.cell? ⟨wr.heap.size, 4, none⟩ = some (.int .i64 x.pending) ∧ w'.cell? ⟨wr.heap.size, 5, none⟩ = some (.int .i64 x.try_) ∧ w'.cell? ⟨wr.heap.size, 6, none⟩ = some (.int .i64 x.fails) ∧ w'.cell? ⟨wr.heap.size, 7, none⟩ = some (.int .i64 x.eject) ∧ w'.cell? ⟨wr.heap.size, 8, none⟩ = some (.int .i64 x.panic)) (first | exact s2 | exact s1)
            (first
              | (go_at_call 22; refine (HCl.out _ _ KA.mi KA.pw htx2 (hct2 _)).mono ?_; rintro e w6 ⟨rfl, hb6⟩
                 have K6 := KA.call hb6
                 have HN6 := HN.below hb6 HN.lt
                 have s2 := And.intro (show w6.cell? ⟨w.heap.size, 7, none⟩ = some (.slice (some ⟨gc, oc, none⟩) c.clusters.length cc) from K6.box.cell 7) (show w6.cell? ⟨wr.heap.size, 0, none⟩ = some (.string (ofL x.name)) ∧ w6.cell? ⟨wr.heap.size, 1, none⟩ = some (.int .i64 x.policy) ∧ w6.cell? ⟨wr.heap.size, 2, none⟩ = some (.slice ph x.hosts.length ch) ∧ w6.cell? ⟨wr.heap.size, 3, none⟩ = some (.int .i64 x.conns) ∧ w6.cell? ⟨wr.heap.size, 4, none⟩ = some (.int .i64 x.pending) ∧ w6.cell? ⟨wr.heap.size, 5, none⟩ = some (.int .i64 x.try_) ∧ w6.cell? ⟨wr.heap.size, 6, none⟩ = some (.int .i64 x.fails) ∧ w6.cell? ⟨wr.heap.size, 7, none⟩ = some (.int .i64 x.eject) ∧ w6.cell? ⟨wr.heap.size, 8, none⟩ = some (.int .i64 x.panic) from ⟨HN6.cell 0, HN6.cell 1, HN6.cell 2, HN6.cell 3, HN6.cell 4, HN6.cell 5, HN6.cell 6, HN6.cell 7, HN6.cell 8⟩)))
          have KQ := Lib.hid K6
          clear s1 s2 K6 HN6 HN KA htx2 hct2 hb6 HCl hne
          by_cases hE0 : E = 0
          · subst hE0
            have HK : Hid (clusE [] c.clusters = clusE (c.clusters.take (k + 1)) (c.clusters.drop (k + 1)) ∧ Kx w w.heap.size c (.slice pf c.filters.length cf) (.slice (some ⟨gc, oc, none⟩) c.clusters.length cc) (.slice pv c.vhosts.length cv) w6) := Lib.hid ⟨by rw [HH.out, HS.out, if_neg (fun h => h rfl)], KQ.out⟩
            clear HH HS KQ
            go_wp2_with fail
            go_roundw
            case rel => exact ⟨k + 1, by omega, by go_num, HK⟩
            case measure => simp [intOf]; omega
          · have hEb : (E != 0) = true := bne_iff_ne.2 hE0
            have HV : Hid (check14 c = E) := Lib.hid (by
              have e : clusE [] c.clusters = E := by rw [HH.out, HS.out, if_pos hE0]
              rw [HV2.out, e, if_pos hE0])
            clear HH HS hE0
            go_wp2_with fail
            go_ret
            exact ⟨ret_int HV.out.symm, KQ.out.below⟩
        · have hki : ¬ (k : Int) < (c.clusters.length : Int) := by omega
          obtain rfl : k = c.clusters.length := by omega
          have HV3 : Hid (check14 c = vhosE c.clusters [] c.vhosts) := Lib.hid (by
            have e : clusE [] c.clusters = 0 := by rw [HJ.out.1, List.drop_length]; rfl
            rw [HV2.out, e, if_neg (fun h => h rfl)])
          have K3 := Lib.hid HJ.out.2
          clear HJ hlt HV2
          have b8 : wr.cell? ⟨w.heap.size, 8, none⟩ = some (.slice pv c.vhosts.length cv) := K3.out.box.cell 8
          go_wp2_with fail
          clear b8 hk hki
          go_loopw [46] (fun i2 wr => ∃ k : Nat, k ≤ c.vhosts.length ∧ i2 = .int .i64 k ∧ Hid (vhosE c.clusters [] c.vhosts = vhosE c.clusters (c.vhosts.take k) (c.vhosts.drop k) ∧ Kx w w.heap.size c (.slice pf c.filters.length cf) (.slice pc c.clusters.length cc) (.slice pv c.vhosts.length cv) wr)) (fun i2 _ => c.vhosts.length - (intOf i2).toNat)
          case atStart => exact ⟨0, Nat.zero_le _, rfl, Lib.hid ⟨by simp, K3.out⟩⟩
          case round =>
            obtain ⟨k, hk, rfl, HJ⟩ := hrel
            clear K3
            by_cases hlt : k < c.vhosts.length
            · have hki : (k : Int) < (c.vhosts.length : Int) := by omega
              have hk0 : (0 : Int) ≤ (k : Int) := by omega
              have hkc2 : (k : Int) ≤ (cv : Int) := by omega
              have hln : (c.vhosts.take k).length ≤ 1048576 := by rw [List.length_take]; omega
              obtain ⟨gv, ov, rfl, hgl, hxc⟩ := vhoss_at HJ.out.2.cf.vhosts k hlt
              obtain ⟨x, hxx⟩ : ∃ x, x = c.vhosts[k] := ⟨_, rfl⟩
              have hfx : FitVhos x := by rw [hxx]; exact HX.out.vhosts.2 _ (List.getElem_mem hlt)
              have HS : Hid (vhosE c.clusters (c.vhosts.take k) (c.vhosts.drop k) = if vhE c.clusters (c.vhosts.take k) x ≠ 0 then vhE c.clusters (c.vhosts.take k) x else vhosE c.clusters (c.vhosts.take (k + 1)) (c.vhosts.drop (k + 1))) := Lib.hid (by
                rw [List.drop_eq_getElem_cons hlt, vhosE_step, hxx, List.take_succ_eq_append_getElem hlt])
              obtain ⟨hh, hrt, m0, m1⟩ := hxc x hxx
              obtain ⟨ph, ch, rfl⟩ : ∃ p cap, hh = .slice p x.routes.length cap := by obtain ⟨p, cap, h, _⟩ := hrt.parts; exact ⟨p, cap, h⟩
              have HCl := Lib.hid (fun (cap2 : Nat) w h1 h2 h3 h4 h5 => pvhost_any x (.slice ph x.routes.length ch) hfx (c.vhosts.take k) (.slice (some ⟨gv, ov, none⟩) k cap2) hln c.clusters (.slice pc c.clusters.length cc) hcl w h1 h2 h3 h4 h5)
              obtain ⟨E, hE⟩ : ∃ E, E = vhE c.clusters (c.vhosts.take k) x := ⟨_, rfl⟩
              rw [← hE] at HCl HS
              have hba : Below wr.heap.size wr (wr.alloc (.cells #[.string (ofL x.domain), .slice ph x.routes.length ch] 43)).drew := below_drew ((Below.refl wr.heap.size wr).alloc (Nat.le_refl _) _)
              have KA := HJ.out.2.call hba
              have HN := (Has.new wr 43 #[.string (ofL x.domain), .slice ph x.routes.length ch]).drew
              have hrt2 := hrt.below hba
              have hct2 := fun cap2 => vhoss_take KA.cf.vhosts k (Nat.le_of_lt hlt) cap2
              have s1 := And.intro (show (wr.alloc (.cells #[.string (ofL x.domain), .slice ph x.routes.length ch] 43)).drew.cell? ⟨w.heap.size, 7, none⟩ = some (.slice pc c.clusters.length cc) from KA.box.cell 7) (And.intro (show (wr.alloc (.cells #[.string (ofL x.domain), .slice ph x.routes.length ch] 43)).drew.cell? ⟨w.heap.size, 8, none⟩ = some (.slice (some ⟨gv, ov, none⟩) c.vhosts.length cv) from KA.box.cell 8) (show (wr.alloc (.cells #[.string (ofL x.domain), .slice ph x.routes.length ch] 43)).drew.cell? ⟨wr.heap.size, 0, none⟩ = some (.string (ofL x.domain)) ∧ (wr.alloc (.cells #[.string (ofL x.domain), .slice ph x.routes.length ch] 43)).drew.cell? ⟨wr.heap.size, 1, none⟩ = some (.slice ph x.routes.length ch) from ⟨HN.cell 0, HN.cell 1⟩))
              have hne : w.heap.size ≠ wr.heap.size := Nat.ne_of_lt HJ.out.2.box.lt
              have HH := Lib.hid HJ.out.1
              clear hxc hxx hfx hE HJ hba hrt hln
              go_wp2_with fail
              clear m0 m1
              go_region_held3 (fun w' => w'.cell? ⟨w.heap.size, 7, none⟩ = some (.slice pc c.clusters.length cc) ∧ w'.cell? ⟨w.heap.size, 8, none⟩ = some (.slice (some ⟨gv, ov, none⟩) c.vhosts.length cv) ∧ w'.cell? ⟨wr.heap.size, 0, none⟩ = some (.string (ofL x.domain)) ∧ w'.cell? ⟨wr.heap.size, 1, none⟩ = some (.slice ph x.routes.length ch)) (first | exact s2 | exact s1)
                (first
                  | (go_at_call 23; refine (HCl.out _ _ KA.mi KA.pw hrt2 (hct2 _) KA.cf.clusters).mono ?_; rintro e w6 ⟨rfl, hb6⟩
                     have K6 := KA.call hb6
                     have HN6 := HN.below hb6 HN.lt
                     have s2 := And.intro (show w6.cell? ⟨w.heap.size, 7, none⟩ = some (.slice pc c.clusters.length cc) from K6.box.cell 7) (And.intro (show w6.cell? ⟨w.heap.size, 8, none⟩ = some (.slice (some ⟨gv, ov, none⟩) c.vhosts.length cv) from K6.box.cell 8) (show w6.cell? ⟨wr.heap.size, 0, none⟩ = some (.string (ofL x.domain)) ∧ w6.cell? ⟨wr.heap.size, 1, none⟩ = some (.slice ph x.routes.length ch) from ⟨HN6.cell 0, HN6.cell 1⟩))))
              have KQ := Lib.hid K6
              clear s1 s2 K6 HN6 HN KA hrt2 hct2 hb6 HCl hne
              by_cases hE0 : E = 0
              · subst hE0
                have HK : Hid (vhosE c.clusters [] c.vhosts = vhosE c.clusters (c.vhosts.take (k + 1)) (c.vhosts.drop (k + 1)) ∧ Kx w w.heap.size c (.slice pf c.filters.length cf) (.slice pc c.clusters.length cc) (.slice (some ⟨gv, ov, none⟩) c.vhosts.length cv) w6) := Lib.hid ⟨by rw [HH.out, HS.out, if_neg (fun h => h rfl)], KQ.out⟩
                clear HH HS KQ
                go_wp2_with fail
                go_roundw
                case rel => exact ⟨k + 1, by omega, by go_num, HK⟩
                case measure => simp [intOf]; omega
              · have hEb : (E != 0) = true := bne_iff_ne.2 hE0
                have HV : Hid (check14 c = E) := Lib.hid (by rw [HV3.out, HH.out, HS.out, if_pos hE0])
                clear HH HS hE0
                go_wp2_with fail
                go_ret
                exact ⟨ret_int HV.out.symm, KQ.out.below⟩
            · have hki : ¬ (k : Int) < (c.vhosts.length : Int) := by omega
              obtain rfl : k = c.vhosts.length := by omega
              have HV : Hid (check14 c = 0) := Lib.hid (by rw [HV3.out, HJ.out.1, List.drop_length]; rfl)
              have K5 := Lib.hid HJ.out.2
              clear HJ hlt
              go_wp2_with fail
              go_ret
              exact ⟨ret_int HV.out.symm, K5.out.below⟩
end Go.Proofs.YtfihehobkbfmiaaGreatDoor.PCfgK

/- Layer 14 of the program: read, Parse. -/
namespace Go.Proofs.YtfihehobkbfmiaaGreatDoor.PCfgG
open Go.ChangeShapes Go.WideShapes Go.ChangeAt Go.RowKit Bytes LexPure LexNum PathPure CutAt ConfPure ConfBack ConfProg ConfMem Ret Mem RowKeep ConfOwn ConfCF PCfgLib PCfgT PCfgW PCfgM PCfgN PCfgO PCfgP PCfgQ PCfgL
set_option maxRecDepth 100000
set_option linter.unusedVariables false
set_option linter.unusedSimpArgs false
/-! ### how many there are, line by line -/
structure Cnt (c : Conf) (i : Nat) : Prop where
  nf : c.filters.length ≤ i
  nc : c.clusters.length ≤ i
  nv : c.vhosts.length ≤ i
  nr : ∀ v ∈ c.vhosts, v.routes.length ≤ i
theorem Cnt.zero : Cnt zeroC 0 := ⟨Nat.le_refl _, Nat.le_refl _, Nat.le_refl _, fun v hv => by cases hv⟩
theorem Cnt.few {c : Conf} {i : Nat} (h : Cnt c i) (hi : i ≤ 274877906944) : Few14 c := ⟨Nat.le_trans h.nf hi, Nat.le_trans h.nc hi, Nat.le_trans h.nv hi, fun v hv => Nat.le_trans (h.nr v hv) hi⟩
theorem Cnt.up {c : Conf} {i : Nat} (h : Cnt c i) : Cnt c (i + 1) := ⟨Nat.le_succ_of_le h.nf, Nat.le_succ_of_le h.nc, Nat.le_succ_of_le h.nv, fun v hv => Nat.le_succ_of_le (h.nr v hv)⟩
theorem Cnt.first {l : L} {c : Conf} (h : firstP l = some c) : Cnt c 1 := by
  unfold firstP at h
  dsimp only at h
  split at h
  · cases h
  · split at h
    · injection h with h
      subst h
      exact ⟨Nat.zero_le _, Nat.zero_le _, Nat.zero_le _, fun v hv => by cases hv⟩
    · cases h
theorem Cnt.line {l : L} {c c' : Conf} {i : Nat} (h : Cnt c i) (hl : lineP c l = some c') : Cnt c' (i + 1) := by
  have hu := h.up
  unfold lineP at hl
  dsimp only at hl
  split at hl
  · split at hl
    · cases hl
    · injection hl with hl
      subst hl
      exact ⟨by show (c.filters ++ [_]).length ≤ _; rw [List.length_append]; have := h.nf; simp; omega, hu.nc, hu.nv, hu.nr⟩
  split at hl
  · split at hl
    · cases hl
    · split at hl
      · injection hl with hl
        subst hl
        exact ⟨hu.nf, by show (c.clusters ++ [_]).length ≤ _; rw [List.length_append]; have := h.nc; simp; omega, hu.nv, hu.nr⟩
      · cases hl
  split at hl
  · split at hl
    · cases hl
    · injection hl with hl
      subst hl
      refine ⟨hu.nf, hu.nc, by show (c.vhosts ++ [_]).length ≤ _; rw [List.length_append]; have := h.nv; simp; omega, fun v hv => ?_⟩
      rcases List.mem_append.1 hv with hv | hv
      · exact hu.nr v hv
      · obtain rfl := List.mem_singleton.1 hv
        exact Nat.zero_le _
  split at hl
  · split at hl
    · cases hl
    · unfold addR at hl
      split at hl
      · cases hl
      · rename_i v hlast
        simp only [Option.map_some] at hl
        injection hl with hl
        subst hl
        obtain ⟨V0, hV0⟩ : ∃ V0, c.vhosts = V0 ++ [v] := by
          rcases List.eq_nil_or_concat c.vhosts with h0 | ⟨V0, u, h0⟩
          · rw [h0] at hlast; cases hlast
          · rw [List.concat_eq_append] at h0
            rw [h0, List.getLast?_concat] at hlast
            injection hlast with hlast
            exact ⟨V0, by rw [h0, hlast]⟩
        have hd : c.vhosts.dropLast = V0 := by rw [hV0, List.dropLast_concat]
        refine ⟨hu.nf, hu.nc, ?_, fun u hu2 => ?_⟩
        · show (c.vhosts.dropLast ++ [_]).length ≤ _
          rw [hd, List.length_append, List.length_singleton]
          have := h.nv
          rw [hV0, List.length_append, List.length_singleton] at this
          omega
        · replace hu2 : u ∈ c.vhosts.dropLast ++ [_] := hu2
          rw [hd] at hu2
          rcases List.mem_append.1 hu2 with hu2 | hu2
          · exact hu.nr u (by rw [hV0]; exact List.mem_append_left _ hu2)
          · obtain rfl := List.mem_singleton.1 hu2
            show (v.routes ++ [_]).length ≤ _
            rw [List.length_append, List.length_singleton]
            have := h.nr v (by rw [hV0]; exact List.mem_append_right _ (List.mem_singleton.2 rfl))
            omega
  · cases hl
theorem Cnt.step {l : L} {c c' : Conf} {i : Nat} (h : Cnt c i) (hl : stepP i c l = some c') : Cnt c' (i + 1) := by
  unfold stepP at hl
  split at hl
  · rename_i h0
    subst h0
    exact Cnt.first hl
  · exact h.line hl
/-- the lines of a text, the first cut off -/
theorem go_cut {i : Nat} {c : Conf} {s : L} (h : hasB 10 s = true) : goP i c (cutB 10 s) = match stepP i c (aheadOf 10 s) with
    | none => .inl i
    | some c' => goP (i + 1) c' (cutB 10 (behind 10 s)) := by
  rw [cutB_has h]
  cases hc : cutB 10 (behind 10 s) with
  | nil => exact absurd hc (cutB_ne _ _)
  | cons m ls => rfl
theorem go_last {i : Nat} {c : Conf} {s : L} (h : hasB 10 s = false) (h0 : s ≠ []) : goP i c (cutB 10 s) = .inl i := by
  rw [cutB_no h]
  show (if 0 < i ∧ s = [] then Sum.inr c else .inl i) = _
  rw [if_neg (fun e => h0 e.2)]
theorem go_end (i : Nat) (c : Conf) : goP i c (cutB 10 []) = if 0 < i then .inr c else .inl i := by
  show (if 0 < i ∧ ([] : L) = [] then Sum.inr c else .inl i) = _
  by_cases h : 0 < i
  · rw [if_pos ⟨h, rfl⟩, if_pos h]
  · rw [if_neg (fun e => h e.1), if_neg h]
theorem behind_short {x : UInt8} {s : L} (h : hasB x s = true) : (behind x s).length + 1 ≤ s.length := by
  have := congrArg List.length (cut_split x s h).1
  rw [List.length_append, List.length_cons] at this
  omega
theorem results_cell_tmp2 {fn : Func} {p t u : Tmp} {ty : TypeId} (h : fn.results = #[.cell p ty, .tmp t, .tmp u]) (tmps : Array Value) (P : Program) (w : World) :
    (results fn tmps).run P w =
      ((asAddr (tmps.getD p undef)).run P w).andThen fun a w₁ => ((loadVar ty a).run P w₁).andThen fun v w₂ => .ok (.tuple #[v, tmps.getD t undef, tmps.getD u undef]) w₂ := by
  simp only [results, h]
  simp [Sem.run_bind, Result.andThen]
theorem end_conf {fn : Func} {p t u : Tmp} (h : fn.results = #[.cell p 26, .tmp t, .tmp u]) (tmps : Array Value) (W : World) (b : Nat) (cs : Array Value) (x y : Value) (hp : tmps.getD p undef = .pointer (some ⟨b, 0, none⟩)) (hH : Has W b 26 cs) (hn : cs.size = 9) (hx : tmps.getD t undef = x) (hy : tmps.getD u undef = y) :
    (results fn tmps).run Tryz.prog W = .ok (.tuple #[.agg cs, x, y]) W := by
  rw [results_cell_tmp2 h, hp, hx, hy]
  have := run_loadVar_row W b 26 26 cs (0, 0) _ hH.at_ Tryz.underlying26 rfl (by rw [hn]; kernel_rfl)
  simp [asAddr, Result.andThen, this]
def zCs : Array Value := #[.int .i64 0, .int .i64 0, .int .i64 0, .int .i64 0, .int .i64 0, .int .i64 0, .slice none 0 0, .slice none 0 0, .slice none 0 0]
theorem zCs_eq : confV zeroC (.slice none 0 0) (.slice none 0 0) (.slice none 0 0) = zCs := rfl
/-- nothing -/
theorem OCs.zero {w : World} {g : Nat} (h : Has w g CT zCs) : OCs w g zeroC (.slice none 0 0) (.slice none 0 0) (.slice none 0 0) [] [] :=
  ⟨h, World.ownsRow_nil _ _ _ _, rfl, World.ownsRow_nil _ _ _ _, fun p hp => (by cases hp), List.Pairwise.nil, rfl, World.ownsRow_nil _ _ _ _, fun p hp => (by cases hp), List.Pairwise.nil⟩
/-- in read's loop -/
structure Rd (w : World) (b g : Nat) (s : ByteArray) (t : ByteArray) (i : Nat) (c : Conf) (W : World) : Prop where
  oc : OC W g c
  res : Has W b CT zCs
  below : Below b w W
  lo : b < g
  go : goP 0 zeroC (cutB 10 (toL s)) = goP i c (cutB 10 (toL t))
  cnt : Cnt c i
  len : i + t.size ≤ s.size
  zero : i = 0 → c = zeroC
def ReadPost (w : World) (s : ByteArray) (e : Ending) (w' : World) : Prop := Below w.heap.size w w' ∧ match goP 0 zeroC (cutB 10 (toL s)) with
  | .inl i => ∃ x0 x1 x2 x3 x4 x5 pf nf cf pc nc cc pv nv cv, e = .returned (.tuple #[.agg #[.int .i64 x0, .int .i64 x1, .int .i64 x2, .int .i64 x3, .int .i64 x4, .int .i64 x5, .slice pf nf cf, .slice pc nc cc, .slice pv nv cv], .int .i64 (i : Int), .bool false])
  | .inr c => ∃ g vf vc vv CL VL, e = .returned (.tuple #[.agg (confV c vf vc vv), .int .i64 0, .bool true]) ∧ OCs w' g c vf vc vv CL VL ∧ w.heap.size ≤ g
theorem below_of_grown {w W : World} {b : Nat} (h : Below b w W) (hb : b ≤ W.heap.size) (cs2 : Array Value) {B : Nat} (hB : B ≤ b) : Below B w (W.setRow b cs2) :=
  ⟨h.os, h.tape, h.output, by show _ ≤ (W.setRow b cs2).heap.size; simpa using h.size, fun k hk => (setRow_other W b k _ (by omega)).trans (h.block k (Nat.lt_of_lt_of_le hk hB))⟩
set_option maxHeartbeats 6400000 in
theorem pread_any (s : ByteArray) (hs : s.size ≤ 274877906944) (w : World) :
    Calls Tryz.prog 35 #[.string s] w (ReadPost w s) := by
  have R0 : Rd w w.heap.size (w.heap.size + 1) s s 0 zeroC ((w.alloc (.cells zCs CT)).alloc (.cells zCs CT)) := by
    have h1 := (Has.new w CT zCs).alloc (.cells zCs CT)
    have h2 := Has.new (w.alloc (.cells zCs CT)) CT zCs
    rw [show (w.alloc (.cells zCs CT)).heap.size = w.heap.size + 1 by simp] at h2
    exact ⟨⟨_, _, _, _, _, OCs.zero h2⟩, h1, ((Below.refl _ w).alloc (Nat.le_refl _) _).alloc (by simp) _, by omega, rfl, Cnt.zero, by omega, fun _ => rfl⟩
  have HR := Lib.hid R0
  unfold zCs CT at HR
  have hsi : (s.size : Int) ≤ 274877906944 := by omega
  have HS := Lib.hid hs
  clear R0 hs
  generalize hW : ((w.alloc (.cells #[.int .i64 0, .int .i64 0, .int .i64 0, .int .i64 0, .int .i64 0, .int .i64 0, .slice none 0 0, .slice none 0 0, .slice none 0 0] 26)).alloc (.cells #[.int .i64 0, .int .i64 0, .int .i64 0, .int .i64 0, .int .i64 0, .int .i64 0, .slice none 0 0, .slice none 0 0, .slice none 0 0] 26)) = W0 at HR
  have HW := Lib.hid hW
  obtain ⟨g, hg⟩ : ∃ g, g = w.heap.size + 1 := ⟨_, rfl⟩
  rw [← hg] at HR
  have HG := Lib.hid hg
  clear hW hg
  go_enter Tryz.func35, Tryz.ntmps35
  go_wp2_with fail
  rw [HW.out, ← HG.out]
  go_loopw [0, 6] (fun t n wr => ∃ (t' : ByteArray) (i : Nat), t = .string t' ∧ n = .int .i64 i ∧ i + t'.size ≤ s.size ∧ Hid (∃ c, Rd w w.heap.size g s t' i c wr)) (fun t _ _ => match t with | .string x => x.size | _ => 0)
  case atStart => exact ⟨s, 0, rfl, rfl, by omega, Lib.hid ⟨_, HR.out⟩⟩
  case round =>
    obtain ⟨t', i, rfl, rfl, hit, HJ⟩ := hrel
    clear HR HW
    obtain ⟨c, J⟩ := HJ.out
    have q1 : (t'.toList != []) = (toL t' != []) := by rw [ByteArray.toList_eq]
    have q2 : t'.toList.isEmpty = !(toL t' != []) := by
      rw [ByteArray.toList_eq]
      show (toL t').isEmpty = _
      cases toL t' <;> rfl
    have hii : (i : Int) ≤ 274877906944 := by omega
    have hi0 : (0 : Int) ≤ (i : Int) := by omega
    by_cases h0 : toL t' = []
    · rw [h0] at q1 q2
      replace q1 : (t'.toList != []) = false := q1
      replace q2 : t'.toList.isEmpty = true := q2
      obtain ⟨vf, vc, vv, CL, VL, O⟩ := J.oc
      have hgo := J.go
      rw [h0, go_end] at hgo
      have HGo := Lib.hid hgo
      have HO := Lib.hid O
      have HRes := J.res
      have HBl := Lib.hid J.below
      have HLo := Lib.hid J.lo
      obtain ⟨pf, cf, hvf, _⟩ := row_form O.rf
      obtain ⟨pc, cc, hvc, _⟩ := row_form O.rc
      obtain ⟨pv, cv, hvv, _⟩ := row_form O.rv
      obtain ⟨nf, hnf⟩ : ∃ n, n = c.filters.length := ⟨_, rfl⟩
      obtain ⟨nc, hnc⟩ : ∃ n, n = CL.length := ⟨_, rfl⟩
      obtain ⟨nv, hnv⟩ : ∃ n, n = VL.length := ⟨_, rfl⟩
      rw [← hnf] at hvf
      rw [← hnc] at hvc
      rw [← hnv] at hvv
      subst hvf
      subst hvc
      subst hvv
      have b0 : wr.cell? ⟨g, 0, none⟩ = some (.int .i64 c.conns) := O.box.cell 0
      have b1 : wr.cell? ⟨g, 1, none⟩ = some (.int .i64 c.body) := O.box.cell 1
      have b2 : wr.cell? ⟨g, 2, none⟩ = some (.int .i64 c.idle) := O.box.cell 2
      have b3 : wr.cell? ⟨g, 3, none⟩ = some (.int .i64 c.grace) := O.box.cell 3
      have b4 : wr.cell? ⟨g, 4, none⟩ = some (.int .i64 c.budget) := O.box.cell 4
      have b5 : wr.cell? ⟨g, 5, none⟩ = some (.int .i64 c.seed) := O.box.cell 5
      have b6 : wr.cell? ⟨g, 6, none⟩ = some (.slice pf nf cf) := O.box.cell 6
      have b7 : wr.cell? ⟨g, 7, none⟩ = some (.slice pc nc cc) := O.box.cell 7
      have b8 : wr.cell? ⟨g, 8, none⟩ = some (.slice pv nv cv) := O.box.cell 8
      have HE : Hid (∀ b : Bool, b = decide (0 < i) → ReadPost w s (.returned (.tuple #[.agg (confV c (.slice pf nf cf) (.slice pc nc cc) (.slice pv nv cv)), .int .i64 0, .bool b])) (wr.setRow w.heap.size (confV c (.slice pf nf cf) (.slice pc nc cc) (.slice pv nv cv)))) := Lib.hid (fun b hb => by
        subst hb
        have hbl := below_of_grown J.below (Nat.le_of_lt J.res.lt) (confV c (.slice pf nf cf) (.slice pc nc cc) (.slice pv nv cv)) (Nat.le_refl w.heap.size)
        refine ⟨hbl, ?_⟩
        rw [hgo]
        by_cases hi : 0 < i
        · rw [if_pos hi, decide_eq_true hi]
          refine ⟨g, _, _, _, CL, VL, rfl, ?_, Nat.le_of_lt J.lo⟩
          have hr : wr.grownBy (wr.setRow w.heap.size (confV c (.slice pf nf cf) (.slice pc nc cc) (.slice pv nv cv))) (some w.heap.size) := ⟨rfl, rfl, rfl, by simp, fun k _ hk => setRow_other wr w.heap.size k _ (fun e => hk (by rw [e]))⟩
          have hlo := J.lo
          have key : ∀ {n size : Nat} {e : TypeId} {v : Value} {xs : List Value}, wr.ownsRow g e size v n xs → (wr.setRow w.heap.size (confV c (.slice pf nf cf) (.slice pc nc cc) (.slice pv nv cv))).ownsRow g e size v n xs := fun hrw => hrw.kept hr (.inr (fun e => by have := (hrw.lt _ e).1; omega))
          exact ⟨O.box.grown hr (by intro e; injection e with e; omega), key O.rf, O.ec, key O.rc, fun p hp => key (O.hc p hp), O.ac, O.ev, key O.rv, fun p hp => key (O.hv p hp), O.av⟩
        · rw [if_neg hi, decide_eq_false hi]
          obtain rfl : i = 0 := by omega
          exact ⟨_, _, _, _, _, _, _, _, _, _, _, _, _, _, _, rfl⟩)
      have hgt : decide ((0 : Int) < (i : Int)) = decide (0 < i) := by
        by_cases h : 0 < i
        · rw [decide_eq_true h, decide_eq_true (by omega)]
        · rw [decide_eq_false h, decide_eq_false (by omega)]
      clear O J HJ hgo h0 hnf hnc hnv
      unfold confV at HE
      unfold zCs CT at HRes
      go_wp2_with (refine store_whole rfl 26 9 conf_size _ _ rfl w.heap.size _ _ HRes rfl rfl (by simp [Value.oneCell']) rfl rfl ?_)
      have hset : Has (wr.setRow w.heap.size #[.int .i64 c.conns, .int .i64 c.body, .int .i64 c.idle, .int .i64 c.grace, .int .i64 c.budget, .int .i64 c.seed, .slice pf nf cf, .slice pc nc cc, .slice pv nv cv]) w.heap.size 26 _ := ⟨setRow_heap wr w.heap.size _ _ 26 _ HRes.at_⟩
      exact bodyPost_ret (end_conf (p := 2) (t := 3) (u := 4) rfl _ _ w.heap.size _ (.int .i64 0) (.bool (decide (0 < i))) rfl hset rfl rfl rfl) rfl (HE.out _ rfl)
    · have b1 : (toL t' != []) = true := bne_iff_ne.2 h0
      rw [b1] at q1 q2
      have HC := Lib.hid (fun w => PCutLib.full_cut 10 t' (by omega) w)
      cases hb : hasB 10 (toL t') with
      | false =>
        rw [hb] at HC
        have hgo := J.go
        rw [go_last hb h0] at hgo
        have HRes := J.res
        have HBl := Lib.hid J.below
        have HE : Hid (∀ W, Below w.heap.size w W → ReadPost w s (.returned (.tuple #[.agg #[.int .i64 0, .int .i64 0, .int .i64 0, .int .i64 0, .int .i64 0, .int .i64 0, .slice none 0 0, .slice none 0 0, .slice none 0 0], .int .i64 (i : Int), .bool false])) W) := Lib.hid (fun W hW => by
          refine ⟨hW, ?_⟩
          rw [hgo]
          exact ⟨_, _, _, _, _, _, _, _, _, _, _, _, _, _, _, rfl⟩)
        have HRl := Lib.hid HRes
        clear J HJ hgo h0 hb b1 HRes
        generalize ofL (aheadOf 10 (toL t')) = A at HC
        generalize ofL (behind 10 (toL t')) = B at HC
        go_wp2_with fail
        refine (HC.out _).mono ?_
        rintro e w2 ⟨rfl, hb2⟩
        have HRes2 := HRl.out.below hb2 HRl.out.lt
        have HB2 := Lib.hid (show Below w.heap.size w w2 from ⟨hb2.os.trans HBl.out.os, hb2.tape.trans HBl.out.tape, hb2.output.trans HBl.out.output, Nat.le_trans HBl.out.size hb2.size, fun k hk => (hb2.block k (Nat.lt_trans hk HRl.out.lt)).trans (HBl.out.block k hk)⟩)
        unfold zCs CT at HRes2
        clear hb2 HC HRl HBl
        go_wp2_with (refine store_whole rfl 26 9 conf_size _ _ rfl w.heap.size _ _ HRes2 rfl rfl (by simp [Value.oneCell']) rfl rfl ?_)
        have hset : Has (w2.setRow w.heap.size #[.int .i64 0, .int .i64 0, .int .i64 0, .int .i64 0, .int .i64 0, .int .i64 0, .slice none 0 0, .slice none 0 0, .slice none 0 0]) w.heap.size 26 _ := ⟨setRow_heap w2 w.heap.size _ _ 26 _ HRes2.at_⟩
        exact bodyPost_ret (end_conf (p := 2) (t := 3) (u := 4) rfl _ _ w.heap.size _ (.int .i64 (i : Int)) (.bool false) rfl hset rfl rfl rfl) rfl (HE.out _ (below_of_grown HB2.out (Nat.le_of_lt HRes2.lt) _ (Nat.le_refl _)))
      | true =>
        rw [hb] at HC
        have hgo := J.go
        rw [go_cut hb] at hgo
        have hsh := behind_short hb
        rw [toL_length] at hsh
        have hal := ahead_len 10 (toL t')
        rw [toL_length] at hal
        obtain ⟨fst, hfst⟩ : ∃ f : Bool, f = decide (i = 0) := ⟨_, rfl⟩
        have q3 : ((i : Int) == 0) = fst := by
          rw [hfst]
          by_cases h : i = 0
          · rw [h]; rfl
          · rw [decide_eq_false h]; exact beq_false_of_ne (by omega)
        have hst : stepP i c (aheadOf 10 (toL t')) = if fst then firstP (aheadOf 10 (toL t')) else lineP c (aheadOf 10 (toL t')) := by
          unfold stepP
          rw [hfst]
          by_cases h : i = 0
          · rw [if_pos h, decide_eq_true h]; rfl
          · rw [if_neg h, decide_eq_false h]; rfl
        have HAdd := Lib.hid (fun W hO => padd_any g c (aheadOf 10 (toL t')) (by omega) fst (fun h => J.zero (by rw [hfst] at h; exact of_decide_eq_true h)) (J.cnt.few (by omega)) W hO)
        rw [← hst] at HAdd
        have HJ2 := Lib.hid J
        have HStep := Lib.hid (fun c' (hc' : stepP i c (aheadOf 10 (toL t')) = some c') => J.cnt.step hc')
        have HGo := Lib.hid hgo
        obtain ⟨r, hr⟩ : ∃ r, r = stepP i c (aheadOf 10 (toL t')) := ⟨_, rfl⟩
        rw [← hr] at HAdd HStep HGo
        have HSh := Lib.hid hsh
        have htl : toL (ofL (behind 10 (toL t'))) = behind 10 (toL t') := toL_ofL _
        have htz : (ofL (behind 10 (toL t'))).size = (behind 10 (toL t')).length := ofL_size _
        generalize behind 10 (toL t') = Bl at *
        generalize aheadOf 10 (toL t') = Al_ at *
        generalize ofL Bl = B at *
        generalize ofL Al_ = A at *
        have HT := Lib.hid (And.intro htl htz)
        clear J HJ hgo h0 hb b1 hst hfst hr hal hsh htl htz
        go_wp2_with fail
        refine (HC.out _).mono ?_
        rintro e w2 ⟨rfl, hb2⟩
        have hbw : Below w.heap.size w w2 := ⟨hb2.os.trans HJ2.out.below.os, hb2.tape.trans HJ2.out.below.tape, hb2.output.trans HJ2.out.below.output, Nat.le_trans HJ2.out.below.size hb2.size, fun k hk => (hb2.block k (Nat.lt_trans hk HJ2.out.res.lt)).trans (HJ2.out.below.block k hk)⟩
        obtain ⟨vf, vc, vv, CL, VL, O⟩ := HJ2.out.oc
        have HAd := Lib.hid (HAdd.out w2 ⟨_, _, _, _, _, O.below hb2⟩)
        have HRes2 := Lib.hid (HJ2.out.res.below hb2 HJ2.out.res.lt)
        have HBw := Lib.hid hbw
        clear hb2 hbw O HC HAdd
        go_wp2_with fail
        refine HAd.out.mono ?_
        rintro e w3 ⟨ok, rfl, hb3, hok⟩
        have HRes3 := HRes2.out.below hb3 HJ2.out.lo
        have HB3 := Lib.hid (show Below w.heap.size w w3 from ⟨hb3.os.trans HBw.out.os, hb3.tape.trans HBw.out.tape, hb3.output.trans HBw.out.output, Nat.le_trans HBw.out.size hb3.size, fun k hk => (hb3.block k (Nat.lt_trans hk HJ2.out.lo)).trans (HBw.out.block k hk)⟩)
        clear HAd hb3 HRes2 HBw
        cases r with
        | none =>
          replace hok : ok = false := hok
          subst hok
          have HE : Hid (∀ W, Below w.heap.size w W → ReadPost w s (.returned (.tuple #[.agg #[.int .i64 0, .int .i64 0, .int .i64 0, .int .i64 0, .int .i64 0, .int .i64 0, .slice none 0 0, .slice none 0 0, .slice none 0 0], .int .i64 (i : Int), .bool false])) W) := Lib.hid (fun W hW => by
            refine ⟨hW, ?_⟩
            rw [HGo.out]
            exact ⟨_, _, _, _, _, _, _, _, _, _, _, _, _, _, _, rfl⟩)
          unfold zCs CT at HRes3
          clear HJ2 HStep HGo
          go_wp2_with (refine store_whole rfl 26 9 conf_size _ _ rfl w.heap.size _ _ HRes3 rfl rfl (by simp [Value.oneCell']) rfl rfl ?_)
          have hset : Has (w3.setRow w.heap.size #[.int .i64 0, .int .i64 0, .int .i64 0, .int .i64 0, .int .i64 0, .int .i64 0, .slice none 0 0, .slice none 0 0, .slice none 0 0]) w.heap.size 26 _ := ⟨setRow_heap w3 w.heap.size _ _ 26 _ HRes3.at_⟩
          exact bodyPost_ret (end_conf (p := 2) (t := 3) (u := 4) rfl _ _ w.heap.size _ (.int .i64 (i : Int)) (.bool false) rfl hset rfl rfl rfl) rfl (HE.out _ (below_of_grown HB3.out (Nat.le_of_lt HRes3.lt) _ (Nat.le_refl _)))
        | some c' =>
          obtain ⟨hok, hO⟩ : ok = true ∧ OC w3 g c' := hok
          subst hok
          have HN : Hid (∃ c, Rd w w.heap.size g s B (i + 1) c w3) := Lib.hid ⟨c', hO, HRes3, HB3.out, HJ2.out.lo, by rw [HGo.out, HT.out.1], HStep.out c' rfl, by have := HSh.out; have := HT.out.2; omega, fun h => absurd h (by omega)⟩
          have hlen : i + 1 + B.size ≤ s.size := by have := HSh.out; have := HT.out.2; omega
          have hlt : B.size < t'.size := by have := HSh.out; have := HT.out.2; omega
          clear HJ2 HStep HGo hO HRes3 HB3
          go_wp2_with fail
          go_roundw
          case rel => exact ⟨B, i + 1, rfl, by go_num, hlen, HN⟩
          case measure => exact hlt
end Go.Proofs.YtfihehobkbfmiaaGreatDoor.PCfgG

/- Layer 14 of the program: Parse. -/
namespace Go.Proofs.YtfihehobkbfmiaaGreatDoor.PCfgH
open Go.ChangeShapes Go.WideShapes Go.ChangeAt Go.RowKit Bytes LexPure LexNum PathPure CutAt ConfPure ConfBack ConfProg ConfMem Ret Mem RowKeep ConfOwn ConfCF PCfgLib PCfgT PCfgN PCfgG
set_option maxRecDepth 100000
set_option linter.unusedVariables false
set_option linter.unusedSimpArgs false
/-- the block of its results, and what its own look like below another -/
structure Ps (w : World) (W : World) : Prop where
  res : Has W w.heap.size CT zCs
  mi : MaxInt W
  pw : PCfgLib.Pow W
  below : Below w.heap.size w W
theorem Ps.call {w W W' : World} (x : Ps w W) (hb : Below W.heap.size W W') : Ps w W' :=
  ⟨x.res.below hb x.res.lt, PUnder.MaxInt.below x.mi hb, x.pw.below hb, ⟨hb.os.trans x.below.os, hb.tape.trans x.below.tape, hb.output.trans x.below.output, Nat.le_trans x.below.size hb.size, fun i hi => (hb.block i (Nat.lt_trans hi x.res.lt)).trans (x.below.block i hi)⟩⟩
theorem Ps.alloc {w W : World} (x : Ps w W) (o : Obj) : Ps w (W.alloc o) := x.call ((Below.refl _ _).alloc (Nat.le_refl _) o)
theorem Ps.start {w : World} (hm : MaxInt w) (hp : PCfgLib.Pow w) : Ps w (w.alloc (.cells zCs CT)) :=
  have ha := (Below.refl w.heap.size w).alloc (Nat.le_refl _) (.cells zCs CT)
  ⟨Has.new w _ _, PUnder.MaxInt.below hm ha, hp.below ha, ha⟩
/-- the result's block is stored -/
theorem OCs.setRow {w : World} {g : Nat} {c : Conf} {vf vc vv : Value} {CL : List (Clus × Value)} {VL : List (Vhos × Value)} (O : OCs w g c vf vc vv CL VL) {r : Nat} (hr : r < g) {cs old : Array Value} (hH : Has w r CT old) : OCs (w.setRow r cs) g c vf vc vv CL VL := by
  have hg : w.grownBy (w.setRow r cs) (some r) := ⟨rfl, rfl, rfl, by simp, fun k _ hk => setRow_other w r k _ (fun e => hk (by rw [e]))⟩
  have key : ∀ {base n size : Nat} {e : TypeId} {v : Value} {xs : List Value}, w.ownsRow base e size v n xs → CT ≠ e → (w.setRow r cs).ownsRow base e size v n xs := fun hrw he => hrw.kept hg (.inr (row_far hrw hH he))
  exact ⟨O.box.grown hg (by intro e; injection e with e; omega), key O.rf (by decide), O.ec, key O.rc (by decide), fun p hp => key (O.hc p hp) (by decide), O.ac, O.ev, key O.rv (by decide), fun p hp => key (O.hv p hp) (by decide), O.av⟩
def ParsePost (w : World) (s : ByteArray) (e : Ending) (w' : World) : Prop := Below w.heap.size w w' ∧ ∃ g vf vc vv CL VL, e = .returned (.tuple #[.agg (confV (parse14 (toL s)).1 vf vc vv), .int .i64 (parse14 (toL s)).2.1, .int .i64 (parse14 (toL s)).2.2]) ∧ OCs w' g (parse14 (toL s)).1 vf vc vv CL VL ∧ w.heap.size ≤ g
theorem Ps.zero {w W : World} (x : Ps w W) {s : ByteArray} {n k : Int} (h : parse14 (toL s) = (zeroC, n, k)) : ParsePost w s (.returned (.tuple #[.agg #[.int .i64 0, .int .i64 0, .int .i64 0, .int .i64 0, .int .i64 0, .int .i64 0, .slice none 0 0, .slice none 0 0, .slice none 0 0], .int .i64 n, .int .i64 k])) (W.setRow w.heap.size #[.int .i64 0, .int .i64 0, .int .i64 0, .int .i64 0, .int .i64 0, .int .i64 0, .slice none 0 0, .slice none 0 0, .slice none 0 0]) := by
  refine ⟨below_of_grown x.below (Nat.le_of_lt x.res.lt) _ (Nat.le_refl _), w.heap.size, .slice none 0 0, .slice none 0 0, .slice none 0 0, [], [], ?_, ?_, Nat.le_refl _⟩
  · rw [h]; rfl
  · rw [h]
    exact OCs.zero ⟨setRow_heap W w.heap.size _ _ CT _ x.res.at_⟩
theorem parse_bad {t : L} {i : Nat} (h : goP 0 zeroC (cutB 10 t) = .inl i) : parse14 t = (zeroC, (i : Int), 140) := by unfold parse14; rw [h]
theorem parse_not {t : L} {c : Conf} (h : goP 0 zeroC (cutB 10 t) = .inr c) (hk : check14 c ≠ 0) : parse14 t = (zeroC, 0, check14 c) := by unfold parse14; rw [h]; exact if_pos hk
theorem parse_ok {t : L} {c : Conf} (h : goP 0 zeroC (cutB 10 t) = .inr c) (hk : check14 c = 0) : parse14 t = (c, 0, 0) := by unfold parse14; rw [h]; exact if_neg (fun e => e hk)
set_option maxHeartbeats 6400000 in
theorem pparse_any (s : ByteArray) (hs : s.size ≤ 274877906944) (hfit : ∀ c, goP 0 zeroC (cutB 10 (toL s)) = .inr c → FitConf c) (w : World) (hm : MaxInt w) (hp : PCfgLib.Pow w) :
    Calls Tryz.prog 13 #[.string s] w (ParsePost w s) := by
  have P0 := Ps.start hm hp
  have HP := Lib.hid P0
  have HRd := Lib.hid (fun w => pread_any s hs w)
  have HF := Lib.hid hfit
  unfold zCs CT at HP
  clear hs hfit hm hp P0
  go_enter Tryz.func13, Tryz.ntmps13
  go_wp2_with fail
  refine (HRd.out _).mono ?_
  rintro e w2 ⟨hb, hmm⟩
  have HP2 := Lib.hid (HP.out.call hb)
  clear HP HRd hb
  cases hg : goP 0 zeroC (cutB 10 (toL s)) with
  | inl i =>
    rw [hg] at hmm
    obtain ⟨x0, x1, x2, x3, x4, x5, pf, nf, cf, pc, nc, cc, pv, nv, cv, rfl⟩ := hmm
    have HE := Lib.hid (parse_bad hg)
    have HRes := HP2.out.res
    have HRb := (HP2.out.alloc (.cells #[.int .i64 x0, .int .i64 x1, .int .i64 x2, .int .i64 x3, .int .i64 x4, .int .i64 x5, .slice pf nf cf, .slice pc nc cc, .slice pv nv cv] CT))
    have HRx := Lib.hid HRb
    have HRes2 := HRb.res
    unfold zCs CT at HRes HRes2 HRx
    clear HF hg HP2 HRes HRb
    go_wp2_with (refine store_whole rfl 26 9 conf_size _ _ rfl w.heap.size _ _ HRes2 rfl rfl (by simp [Value.oneCell']) rfl rfl ?_)
    have hset : Has (World.setRow _ w.heap.size #[.int .i64 0, .int .i64 0, .int .i64 0, .int .i64 0, .int .i64 0, .int .i64 0, .slice none 0 0, .slice none 0 0, .slice none 0 0]) w.heap.size 26 _ := ⟨setRow_heap _ w.heap.size _ _ 26 _ HRes2.at_⟩
    exact bodyPost_ret (end_conf (p := 2) (t := 3) (u := 4) rfl _ _ w.heap.size _ (.int .i64 (i : Int)) (.int .i64 140) rfl hset rfl rfl rfl) rfl (HRx.out.zero HE.out)
  | inr c =>
    rw [hg] at hmm
    obtain ⟨g, vf, vc, vv, CL, VL, rfl, O, hlg⟩ := hmm
    have hx := HF.out c hg
    have HG := Lib.hid hg
    obtain ⟨⟨pf, cf, rfl⟩, ⟨pc, cc, rfl⟩, ⟨pv, cv, rfl⟩⟩ := R14Bnd.CF.vals (ConfCF.OCs.cf O)
    obtain ⟨nf, hnf⟩ : ∃ n, n = c.filters.length := ⟨_, rfl⟩
    obtain ⟨nc, hnc⟩ : ∃ n, n = c.clusters.length := ⟨_, rfl⟩
    obtain ⟨nv, hnv⟩ : ∃ n, n = c.vhosts.length := ⟨_, rfl⟩
    rw [← hnf, ← hnc, ← hnv] at O ⊢
    have O3 := O.alloc (.cells (confV c (.slice pf nf cf) (.slice pc nc cc) (.slice pv nv cv)) CT)
    have P3 := HP2.out.alloc (.cells (confV c (.slice pf nf cf) (.slice pc nc cc) (.slice pv nv cv)) CT)
    have b3 := Has.new w2 CT (confV c (.slice pf nf cf) (.slice pc nc cc) (.slice pv nv cv))
    have HCk := Lib.hid (PCfgK.pcheck_any c _ _ _ hx _ P3.mi P3.pw (ConfCF.OCs.cf O3))
    have HO := Lib.hid O3
    have HP3 := Lib.hid P3
    have HB := Lib.hid b3
    have HLg := Lib.hid (show w.heap.size < g by simp at hlg; omega)
    clear O O3 P3 hx hg HF HP2 hlg b3 hnf hnc hnv
    unfold confV at HCk HO HP3 HB ⊢
    unfold CT at HCk HO HP3 HB
    obtain ⟨k, hk⟩ : ∃ k, Hid (k = check14 c) := ⟨_, Lib.hid rfl⟩
    rw [← hk.out] at HCk
    go_wp2_with fail
    refine HCk.out.mono ?_
    rintro e w4 ⟨rfl, hb4⟩
    have HO4 := Lib.hid (HO.out.below hb4)
    have HP4 := Lib.hid (HP3.out.call hb4)
    have B4 := HB.out.below hb4 HB.out.lt
    clear HO HP3 HCk hb4
    have c0 : w4.cell? ⟨w2.heap.size, 0, none⟩ = some (.int .i64 c.conns) := B4.cell 0
    have c1 : w4.cell? ⟨w2.heap.size, 1, none⟩ = some (.int .i64 c.body) := B4.cell 1
    have c2 : w4.cell? ⟨w2.heap.size, 2, none⟩ = some (.int .i64 c.idle) := B4.cell 2
    have c3 : w4.cell? ⟨w2.heap.size, 3, none⟩ = some (.int .i64 c.grace) := B4.cell 3
    have c4 : w4.cell? ⟨w2.heap.size, 4, none⟩ = some (.int .i64 c.budget) := B4.cell 4
    have c5 : w4.cell? ⟨w2.heap.size, 5, none⟩ = some (.int .i64 c.seed) := B4.cell 5
    have c6 : w4.cell? ⟨w2.heap.size, 6, none⟩ = some (.slice pf nf cf) := B4.cell 6
    have c7 : w4.cell? ⟨w2.heap.size, 7, none⟩ = some (.slice pc nc cc) := B4.cell 7
    have c8 : w4.cell? ⟨w2.heap.size, 8, none⟩ = some (.slice pv nv cv) := B4.cell 8
    have HRes := HP4.out.res
    have HRes2 := Lib.hid HRes
    unfold zCs CT at HRes
    by_cases h0 : k = 0
    · have HE := Lib.hid (parse_ok HG.out (hk.out.symm.trans h0))
      have q1 : (k != 0) = false := by rw [h0]; rfl
      clear hk HG
      subst h0
      have hlg := Nat.le_of_lt HLg.out
      have HLg2 := Lib.hid (fun cs => OCs.setRow HO4.out HLg.out (cs := cs) HRes2.out)
      have HBw := Lib.hid (fun cs => below_of_grown HP4.out.below (Nat.le_of_lt HRes2.out.lt) cs (Nat.le_refl _))
      clear HO4 HLg HP4
      go_wp2_with (refine store_whole rfl 26 9 conf_size _ _ rfl w.heap.size _ _ HRes rfl rfl (by simp [Value.oneCell']) rfl rfl ?_)
      have hset : Has (World.setRow w4 w.heap.size #[.int .i64 c.conns, .int .i64 c.body, .int .i64 c.idle, .int .i64 c.grace, .int .i64 c.budget, .int .i64 c.seed, .slice pf nf cf, .slice pc nc cc, .slice pv nv cv]) w.heap.size 26 _ := ⟨setRow_heap _ w.heap.size _ _ 26 _ HRes.at_⟩
      have HPost : ParsePost w s (.returned (.tuple #[.agg #[.int .i64 c.conns, .int .i64 c.body, .int .i64 c.idle, .int .i64 c.grace, .int .i64 c.budget, .int .i64 c.seed, .slice pf nf cf, .slice pc nc cc, .slice pv nv cv], .int .i64 0, .int .i64 0])) (w4.setRow w.heap.size #[.int .i64 c.conns, .int .i64 c.body, .int .i64 c.idle, .int .i64 c.grace, .int .i64 c.budget, .int .i64 c.seed, .slice pf nf cf, .slice pc nc cc, .slice pv nv cv]) := by
        refine ⟨HBw.out _, ?_⟩
        rw [HE.out]
        exact ⟨g, _, _, _, CL, VL, rfl, HLg2.out _, hlg⟩
      exact bodyPost_ret (end_conf (p := 2) (t := 3) (u := 4) rfl _ _ w.heap.size _ (.int .i64 0) (.int .i64 0) rfl hset rfl rfl rfl) rfl HPost
    · have HE := Lib.hid (parse_not HG.out (by rw [← hk.out]; exact h0))
      have q1 : (k != 0) = true := bne_iff_ne.2 h0
      rw [← hk.out] at HE
      clear hk HG HO4 HLg
      go_wp2_with (refine store_whole rfl 26 9 conf_size _ _ rfl w.heap.size _ _ HRes rfl rfl (by simp [Value.oneCell']) rfl rfl ?_)
      have hset : Has (World.setRow w4 w.heap.size #[.int .i64 0, .int .i64 0, .int .i64 0, .int .i64 0, .int .i64 0, .int .i64 0, .slice none 0 0, .slice none 0 0, .slice none 0 0]) w.heap.size 26 _ := ⟨setRow_heap _ w.heap.size _ _ 26 _ HRes.at_⟩
      exact bodyPost_ret (end_conf (p := 2) (t := 3) (u := 4) rfl _ _ w.heap.size _ (.int .i64 0) (.int .i64 k) rfl hset rfl rfl rfl) rfl (HP4.out.zero HE.out)
end Go.Proofs.YtfihehobkbfmiaaGreatDoor.PCfgH
