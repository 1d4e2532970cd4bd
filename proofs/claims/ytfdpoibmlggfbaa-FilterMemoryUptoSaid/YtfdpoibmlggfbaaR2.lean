/- Texts of this seat, one behind another: R14Filt, L16Right. -/
import Derived.Deep.RegionHeld3
import Derived.BigRegion
import Derived.Test.YtfdpoibmlggfbaaR1
import Derived.Test.YtfdpoibmlggfbaaA1
/- Layer 14, the document's own Filter. -/
namespace Go.Proofs.Ytfdpoibmlggfbaa.R14Filt
open Go.ChangeShapes Go.WideShapes Go.ChangeAt Go.RowKit Bytes LexPure ConfPure ConfMem Ret Mem R14In R14Name R14Eq
set_option maxRecDepth 100000
set_option linter.unusedVariables false
set_option linter.unusedSimpArgs false
theorem empt (a : ByteArray) : (a.toList == (⟨#[]⟩ : ByteArray).toList) = (toL a == []) := by
  rw [ByteArray.toList_eq, ByteArray.toList_eq]
theorem self_ (a : ByteArray) : (a.toList == a.toList) = true := beq_self_eq_true _
/-- the two boxes, apart -/
structure Pair (w : World) (g1 g2 : Nat) (cp cg : Array Value) (W : World) : Prop where
  p : Has W g1 FT cp
  g : Has W g2 FT cg
  below : Below g1 w W
  lo : g1 < g2
theorem Pair.start (w : World) (cp cg : Array Value) : Pair w w.heap.size (w.heap.size + 1) cp cg ((w.alloc (.cells cp FT)).alloc (.cells cg FT)) := by
  refine ⟨(Has.new w _ _).alloc _, ?_, ((Below.refl w.heap.size w).alloc (Nat.le_refl _) _).alloc (by simp) _, by omega⟩
  have := Has.new (w.alloc (.cells cp FT)) FT cg
  rw [show (w.alloc (.cells cp FT)).heap.size = w.heap.size + 1 by simp] at this
  exact this
theorem Pair.drew {w W : World} {g1 g2 : Nat} {cp cg : Array Value} (h : Pair w g1 g2 cp cg W) : Pair w g1 g2 cp cg W.drew := ⟨h.p.drew, h.g.drew, below_drew h.below, h.lo⟩
theorem Pair.set {w W : World} {g1 g2 : Nat} {cp cg : Array Value} (h : Pair w g1 g2 cp cg W) (i : Nat) (u : Value) : Pair w g1 g2 cp (cg.setIfInBounds i u) (W.setCell ⟨g2, i, none⟩ u) :=
  ⟨h.p.far (p := ⟨g2, i, none⟩) (Nat.ne_of_lt h.lo) u, h.g.set_ i u, h.below.setCell (p := ⟨g2, i, none⟩) (Nat.le_of_lt h.lo) u, h.lo⟩
theorem Pair.call {w W W' : World} {g1 g2 : Nat} {cp cg : Array Value} (h : Pair w g1 g2 cp cg W) (hb : Below W.heap.size W W') : Pair w g1 g2 cp cg W' := ⟨h.p.below hb h.p.lt, h.g.below hb h.g.lt, ⟨hb.os.trans h.below.os, hb.tape.trans h.below.tape, hb.output.trans h.below.output, Nat.le_trans h.below.size hb.size, fun i hi => (hb.block i (Nat.lt_trans hi h.p.lt)).trans (h.below.block i hi)⟩, h.lo⟩
set_option maxHeartbeats 3200000 in
theorem filt1 (a b : ByteArray) (n m j : Int) (ha : a.size ≤ 1048576) (hb : b.size ≤ 1048576) (w : World) :
    Calls Try.prog 22 #[.agg (fcs 1 a b n m j)] w fun e w' => e = .returned (.bool (filtB ⟨1, toL a, toL b, n, m, j⟩)) ∧ Below w.heap.size w w' := by
  have H0 := Lib.hid (fun w => rname_any a ha w)
  have H1 := Lib.hid (fun w => rtext_any b hb w)
  obtain ⟨r0, hr0⟩ : ∃ r0, r0 = (nameB (toL a)) := ⟨_, rfl⟩
  rw [← hr0] at H0
  obtain ⟨r1, hr1⟩ : ∃ r1, r1 = (textB (toL b)) := ⟨_, rfl⟩
  rw [← hr1] at H1
  have heq := fun w => eqF 1 1 n 0 m 0 j 0 a a b b w
  obtain ⟨e0, he0⟩ : ∃ e0, e0 = ((n == 0) && (m == 0) && (j == 0)) := ⟨_, rfl⟩
  replace heq : ∀ w, (binOp .eql 29 (.agg #[.int .i64 1, .string a, .string b, .int .i64 n, .int .i64 m, .int .i64 j]) (.agg #[.int .i64 1, .string a, .string b, .int .i64 0, .int .i64 0, .int .i64 0])).run Try.prog w = .ok (.bool e0) w := fun w => by
    rw [heq w, he0]
    congr 2
    simp only [beq_self_eq_true, Bool.true_and, Bool.and_true, empt, self_, Bool.and_assoc]
  have HV : Hid (filtB ⟨1, toL a, toL b, n, m, j⟩ = (e0 && r0 && r1)) := Lib.hid (by
    rw [he0, hr0, hr1]
    unfold filtB
    dsimp only
    rw [if_pos (by decide)]
    try simp [TOK, Bool.and_assoc])
  have HPr := Lib.hid (Pair.start w (fcs 1 a b n m j) (fcs 1 ⟨#[]⟩ ⟨#[]⟩ 0 0 0))
  clear he0 hr0 hr1 ha hb
  unfold fcs FT at HPr
  unfold fcs
  obtain ⟨g1, hg1⟩ : ∃ g1, g1 = w.heap.size := ⟨_, rfl⟩
  obtain ⟨g2, hg2⟩ : ∃ g2, g2 = w.heap.size + 1 := ⟨_, rfl⟩
  rw [← hg2, ← hg1] at HPr
  rw [← hg1]
  have HG1 := Lib.hid hg1
  have HG2 := Lib.hid hg2
  clear hg1 hg2
  go_enter Try.func22, Try.ntmps22
  go_wp2_with fail
  rw [← HG2.out, ← HG1.out]
  generalize (w.alloc (.cells #[.int .i64 1, .string a, .string b, .int .i64 n, .int .i64 m, .int .i64 j] 29)).alloc (.cells #[.int .i64 1, .string ⟨#[]⟩, .string ⟨#[]⟩, .int .i64 0, .int .i64 0, .int .i64 0] 29) = W2 at HPr ⊢
  have hne : g1 ≠ g2 := Nat.ne_of_lt HPr.out.lo
  have hne2 : g2 ≠ g1 := Ne.symm hne
  have p0 : W2.cell? ⟨g1, 0, none⟩ = some (.int .i64 1) := HPr.out.p.cell 0
  have q0 : W2.cell? ⟨g2, 0, none⟩ = some (.int .i64 1) := HPr.out.g.cell 0
  have p1 : W2.cell? ⟨g1, 1, none⟩ = some (.string a) := HPr.out.p.cell 1
  have q1 : W2.cell? ⟨g2, 1, none⟩ = some (.string ⟨#[]⟩) := HPr.out.g.cell 1
  have p2 : W2.cell? ⟨g1, 2, none⟩ = some (.string b) := HPr.out.p.cell 2
  have q2 : W2.cell? ⟨g2, 2, none⟩ = some (.string ⟨#[]⟩) := HPr.out.g.cell 2
  have p3 : W2.cell? ⟨g1, 3, none⟩ = some (.int .i64 n) := HPr.out.p.cell 3
  have q3 : W2.cell? ⟨g2, 3, none⟩ = some (.int .i64 0) := HPr.out.g.cell 3
  have p4 : W2.cell? ⟨g1, 4, none⟩ = some (.int .i64 m) := HPr.out.p.cell 4
  have q4 : W2.cell? ⟨g2, 4, none⟩ = some (.int .i64 0) := HPr.out.g.cell 4
  have p5 : W2.cell? ⟨g1, 5, none⟩ = some (.int .i64 j) := HPr.out.p.cell 5
  have q5 : W2.cell? ⟨g2, 5, none⟩ = some (.int .i64 0) := HPr.out.g.cell 5
  have z1 : W2.frozen? ⟨g2, 1, none⟩ = false := HPr.out.g.free 1
  have z2 : W2.frozen? ⟨g2, 2, none⟩ = false := HPr.out.g.free 2
  go_region
  have P3 := Lib.hid ((HPr.out.drew.set 1 (.string a)).set 2 (.string b))
  cases e0 with
  | false =>
    go_wp2_with fail
    go_ret
    exact ⟨ret_bool (by rw [HV.out] <;> rfl), P3.out.below⟩
  | true =>
    go_wp2_with fail
    refine (H0.out _).mono ?_
    rintro e w4 ⟨rfl, hb0⟩
    have P4 := Lib.hid (P3.out.call hb0)
    clear hb0 H0 P3
    have k1 : w4.cell? ⟨g1, 1, none⟩ = some (.string a) := P4.out.p.cell 1
    have k2 : w4.cell? ⟨g1, 2, none⟩ = some (.string b) := P4.out.p.cell 2
    cases r0 with
    | false =>
      go_wp2_with fail
      go_ret
      exact ⟨ret_bool (by rw [HV.out] <;> rfl), P4.out.below⟩
    | true =>
      go_wp2_with fail
      refine (H1.out _).mono ?_
      rintro e w5 ⟨rfl, rfl⟩
      clear H1
      cases r1 with
      | false =>
        go_wp2_with fail
        go_ret
        exact ⟨ret_bool (by rw [HV.out] <;> rfl), P4.out.below⟩
      | true =>
        go_wp2_with fail
        go_ret
        exact ⟨ret_bool (by rw [HV.out] <;> rfl), P4.out.below⟩
set_option maxHeartbeats 3200000 in
theorem filt2 (a b : ByteArray) (n m j : Int) (ha : a.size ≤ 1048576) (hb : b.size ≤ 1048576) (w : World) :
    Calls Try.prog 22 #[.agg (fcs 2 a b n m j)] w fun e w' => e = .returned (.bool (filtB ⟨2, toL a, toL b, n, m, j⟩)) ∧ Below w.heap.size w w' := by
  have H0 := Lib.hid (fun w => rname_any a ha w)
  obtain ⟨r0, hr0⟩ : ∃ r0, r0 = (nameB (toL a)) := ⟨_, rfl⟩
  rw [← hr0] at H0
  have heq := fun w => eqF 2 2 n 0 m 0 j 0 a a b ⟨#[]⟩ w
  obtain ⟨e0, he0⟩ : ∃ e0, e0 = ((toL b == []) && (n == 0) && (m == 0) && (j == 0)) := ⟨_, rfl⟩
  replace heq : ∀ w, (binOp .eql 29 (.agg #[.int .i64 2, .string a, .string b, .int .i64 n, .int .i64 m, .int .i64 j]) (.agg #[.int .i64 2, .string a, .string ⟨#[]⟩, .int .i64 0, .int .i64 0, .int .i64 0])).run Try.prog w = .ok (.bool e0) w := fun w => by
    rw [heq w, he0]
    congr 2
    simp only [beq_self_eq_true, Bool.true_and, Bool.and_true, empt, self_, Bool.and_assoc]
  have HV : Hid (filtB ⟨2, toL a, toL b, n, m, j⟩ = (e0 && r0)) := Lib.hid (by
    rw [he0, hr0]
    unfold filtB
    dsimp only
    rw [if_neg (by decide), if_pos (by decide)]
    try simp [TOK, Bool.and_assoc])
  have HPr := Lib.hid (Pair.start w (fcs 2 a b n m j) (fcs 2 ⟨#[]⟩ ⟨#[]⟩ 0 0 0))
  clear he0 hr0 ha hb
  unfold fcs FT at HPr
  unfold fcs
  go_enter Try.func22, Try.ntmps22
  have P3 := Lib.hid (Pair.start w (fcs 2 a b n m j) (fcs 2 a ⟨#[]⟩ 0 0 0))
  unfold fcs FT at P3
  clear HPr
  cases e0 with
  | false =>
    go_wp2_with fail
    go_ret
    exact ⟨ret_bool (by rw [HV.out] <;> rfl), P3.out.below⟩
  | true =>
    go_wp2_with fail
    refine (H0.out _).mono ?_
    rintro e w4 ⟨rfl, hb0⟩
    have P4 := Lib.hid (P3.out.call hb0)
    clear hb0 H0 P3
    cases r0 with
    | false =>
      go_wp2_with fail
      go_ret
      exact ⟨ret_bool (by rw [HV.out] <;> rfl), P4.out.below⟩
    | true =>
      go_wp2_with fail
      go_ret
      exact ⟨ret_bool (by rw [HV.out] <;> rfl), P4.out.below⟩
set_option maxHeartbeats 3200000 in
theorem filt3 (a b : ByteArray) (n m j : Int) (ha : a.size ≤ 1048576) (hb : b.size ≤ 1048576) (w : World) :
    Calls Try.prog 22 #[.agg (fcs 3 a b n m j)] w fun e w' => e = .returned (.bool (filtB ⟨3, toL a, toL b, n, m, j⟩)) ∧ Below w.heap.size w w' := by
  have H0 := Lib.hid (fun w => rin_any n 1 1073741824 w)
  have H1 := Lib.hid (fun w => rin_any m 1 1073741824 w)
  have H2 := Lib.hid (fun w => rin_any j 1 1073741824 w)
  obtain ⟨r0, hr0⟩ : ∃ r0, r0 = (inB n 1 1073741824) := ⟨_, rfl⟩
  rw [← hr0] at H0
  obtain ⟨r1, hr1⟩ : ∃ r1, r1 = (inB m 1 1073741824) := ⟨_, rfl⟩
  rw [← hr1] at H1
  obtain ⟨r2, hr2⟩ : ∃ r2, r2 = (inB j 1 1073741824) := ⟨_, rfl⟩
  rw [← hr2] at H2
  have heq := fun w => eqF 3 3 n n m m j j a ⟨#[]⟩ b ⟨#[]⟩ w
  obtain ⟨e0, he0⟩ : ∃ e0, e0 = ((toL a == []) && (toL b == [])) := ⟨_, rfl⟩
  replace heq : ∀ w, (binOp .eql 29 (.agg #[.int .i64 3, .string a, .string b, .int .i64 n, .int .i64 m, .int .i64 j]) (.agg #[.int .i64 3, .string ⟨#[]⟩, .string ⟨#[]⟩, .int .i64 n, .int .i64 m, .int .i64 j])).run Try.prog w = .ok (.bool e0) w := fun w => by
    rw [heq w, he0]
    congr 2
    simp only [beq_self_eq_true, Bool.true_and, Bool.and_true, empt, self_, Bool.and_assoc]
  have HV : Hid (filtB ⟨3, toL a, toL b, n, m, j⟩ = (e0 && r0 && r1 && r2)) := Lib.hid (by
    rw [he0, hr0, hr1, hr2]
    unfold filtB
    dsimp only
    rw [if_neg (by decide), if_neg (by decide), if_pos (by decide)]
    try simp [TOK, Bool.and_assoc])
  have HPr := Lib.hid (Pair.start w (fcs 3 a b n m j) (fcs 3 ⟨#[]⟩ ⟨#[]⟩ 0 0 0))
  clear he0 hr0 hr1 hr2 ha hb
  unfold fcs FT at HPr
  unfold fcs
  obtain ⟨g1, hg1⟩ : ∃ g1, g1 = w.heap.size := ⟨_, rfl⟩
  obtain ⟨g2, hg2⟩ : ∃ g2, g2 = w.heap.size + 1 := ⟨_, rfl⟩
  rw [← hg2, ← hg1] at HPr
  rw [← hg1]
  have HG1 := Lib.hid hg1
  have HG2 := Lib.hid hg2
  clear hg1 hg2
  go_enter Try.func22, Try.ntmps22
  go_wp2_with fail
  rw [← HG2.out, ← HG1.out]
  generalize (w.alloc (.cells #[.int .i64 3, .string a, .string b, .int .i64 n, .int .i64 m, .int .i64 j] 29)).alloc (.cells #[.int .i64 3, .string ⟨#[]⟩, .string ⟨#[]⟩, .int .i64 0, .int .i64 0, .int .i64 0] 29) = W2 at HPr ⊢
  have hne : g1 ≠ g2 := Nat.ne_of_lt HPr.out.lo
  have hne2 : g2 ≠ g1 := Ne.symm hne
  have p0 : W2.cell? ⟨g1, 0, none⟩ = some (.int .i64 3) := HPr.out.p.cell 0
  have q0 : W2.cell? ⟨g2, 0, none⟩ = some (.int .i64 3) := HPr.out.g.cell 0
  have p1 : W2.cell? ⟨g1, 1, none⟩ = some (.string a) := HPr.out.p.cell 1
  have q1 : W2.cell? ⟨g2, 1, none⟩ = some (.string ⟨#[]⟩) := HPr.out.g.cell 1
  have p2 : W2.cell? ⟨g1, 2, none⟩ = some (.string b) := HPr.out.p.cell 2
  have q2 : W2.cell? ⟨g2, 2, none⟩ = some (.string ⟨#[]⟩) := HPr.out.g.cell 2
  have p3 : W2.cell? ⟨g1, 3, none⟩ = some (.int .i64 n) := HPr.out.p.cell 3
  have q3 : W2.cell? ⟨g2, 3, none⟩ = some (.int .i64 0) := HPr.out.g.cell 3
  have p4 : W2.cell? ⟨g1, 4, none⟩ = some (.int .i64 m) := HPr.out.p.cell 4
  have q4 : W2.cell? ⟨g2, 4, none⟩ = some (.int .i64 0) := HPr.out.g.cell 4
  have p5 : W2.cell? ⟨g1, 5, none⟩ = some (.int .i64 j) := HPr.out.p.cell 5
  have q5 : W2.cell? ⟨g2, 5, none⟩ = some (.int .i64 0) := HPr.out.g.cell 5
  have z3 : W2.frozen? ⟨g2, 3, none⟩ = false := HPr.out.g.free 3
  have z4 : W2.frozen? ⟨g2, 4, none⟩ = false := HPr.out.g.free 4
  have z5 : W2.frozen? ⟨g2, 5, none⟩ = false := HPr.out.g.free 5
  go_region
  have P3 := Lib.hid (((HPr.out.drew.set 3 (.int .i64 n)).set 4 (.int .i64 m)).set 5 (.int .i64 j))
  cases e0 with
  | false =>
    go_wp2_with fail
    go_ret
    exact ⟨ret_bool (by rw [HV.out] <;> rfl), P3.out.below⟩
  | true =>
    go_wp2_with fail
    refine (H0.out _).mono ?_
    rintro e w4 ⟨rfl, rfl⟩
    clear H0
    cases r0 with
    | false =>
      go_wp2_with fail
      go_ret
      exact ⟨ret_bool (by rw [HV.out] <;> rfl), P3.out.below⟩
    | true =>
      go_wp2_with fail
      refine (H1.out _).mono ?_
      rintro e w5 ⟨rfl, rfl⟩
      clear H1
      cases r1 with
      | false =>
        go_wp2_with fail
        go_ret
        exact ⟨ret_bool (by rw [HV.out] <;> rfl), P3.out.below⟩
      | true =>
        go_wp2_with fail
        refine (H2.out _).mono ?_
        rintro e w6 ⟨rfl, rfl⟩
        clear H2
        cases r2 with
        | false =>
          go_wp2_with fail
          go_ret
          exact ⟨ret_bool (by rw [HV.out] <;> rfl), P3.out.below⟩
        | true =>
          go_wp2_with fail
          go_ret
          exact ⟨ret_bool (by rw [HV.out] <;> rfl), P3.out.below⟩
set_option maxHeartbeats 3200000 in
theorem filt4 (a b : ByteArray) (n m j : Int) (ha : a.size ≤ 1048576) (hb : b.size ≤ 1048576) (w : World) :
    Calls Try.prog 22 #[.agg (fcs 4 a b n m j)] w fun e w' => e = .returned (.bool (filtB ⟨4, toL a, toL b, n, m, j⟩)) ∧ Below w.heap.size w w' := by
  have H0 := Lib.hid (fun w => rname_any a ha w)
  have H1 := Lib.hid (fun w => rtext_any b hb w)
  obtain ⟨r0, hr0⟩ : ∃ r0, r0 = (nameB (toL a)) := ⟨_, rfl⟩
  rw [← hr0] at H0
  obtain ⟨r1, hr1⟩ : ∃ r1, r1 = (textB (toL b)) := ⟨_, rfl⟩
  rw [← hr1] at H1
  obtain ⟨r2, hr2⟩ : ∃ r2, r2 = (toL b != []) := ⟨_, rfl⟩
  have y1 : ((b.toList != []) : Bool) = r2 := by rw [hr2, ByteArray.toList_eq]
  have y2 : b.toList.isEmpty = !r2 := by rw [hr2, ByteArray.toList_eq]; show (toL b).isEmpty = _; cases toL b <;> rfl
  have y3 : (b.toList == []) = !r2 := by rw [hr2, ByteArray.toList_eq]; show (toL b == []) = _; cases toL b <;> rfl
  have heq := fun w => eqF 4 4 n 0 m 0 j 0 a a b b w
  obtain ⟨e0, he0⟩ : ∃ e0, e0 = ((n == 0) && (m == 0) && (j == 0)) := ⟨_, rfl⟩
  replace heq : ∀ w, (binOp .eql 29 (.agg #[.int .i64 4, .string a, .string b, .int .i64 n, .int .i64 m, .int .i64 j]) (.agg #[.int .i64 4, .string a, .string b, .int .i64 0, .int .i64 0, .int .i64 0])).run Try.prog w = .ok (.bool e0) w := fun w => by
    rw [heq w, he0]
    congr 2
    simp only [beq_self_eq_true, Bool.true_and, Bool.and_true, empt, self_, Bool.and_assoc]
  have HV : Hid (filtB ⟨4, toL a, toL b, n, m, j⟩ = (e0 && r0 && r1 && r2)) := Lib.hid (by
    rw [he0, hr0, hr1, hr2]
    unfold filtB
    dsimp only
    rw [if_neg (by decide), if_neg (by decide), if_neg (by decide), if_pos (by decide)]
    try simp [TOK, Bool.and_assoc])
  have HPr := Lib.hid (Pair.start w (fcs 4 a b n m j) (fcs 4 ⟨#[]⟩ ⟨#[]⟩ 0 0 0))
  clear he0 hr0 hr1 hr2 ha hb
  unfold fcs FT at HPr
  unfold fcs
  obtain ⟨g1, hg1⟩ : ∃ g1, g1 = w.heap.size := ⟨_, rfl⟩
  obtain ⟨g2, hg2⟩ : ∃ g2, g2 = w.heap.size + 1 := ⟨_, rfl⟩
  rw [← hg2, ← hg1] at HPr
  rw [← hg1]
  have HG1 := Lib.hid hg1
  have HG2 := Lib.hid hg2
  clear hg1 hg2
  go_enter Try.func22, Try.ntmps22
  go_wp2_with fail
  rw [← HG2.out, ← HG1.out]
  generalize (w.alloc (.cells #[.int .i64 4, .string a, .string b, .int .i64 n, .int .i64 m, .int .i64 j] 29)).alloc (.cells #[.int .i64 4, .string ⟨#[]⟩, .string ⟨#[]⟩, .int .i64 0, .int .i64 0, .int .i64 0] 29) = W2 at HPr ⊢
  have hne : g1 ≠ g2 := Nat.ne_of_lt HPr.out.lo
  have hne2 : g2 ≠ g1 := Ne.symm hne
  have p0 : W2.cell? ⟨g1, 0, none⟩ = some (.int .i64 4) := HPr.out.p.cell 0
  have q0 : W2.cell? ⟨g2, 0, none⟩ = some (.int .i64 4) := HPr.out.g.cell 0
  have p1 : W2.cell? ⟨g1, 1, none⟩ = some (.string a) := HPr.out.p.cell 1
  have q1 : W2.cell? ⟨g2, 1, none⟩ = some (.string ⟨#[]⟩) := HPr.out.g.cell 1
  have p2 : W2.cell? ⟨g1, 2, none⟩ = some (.string b) := HPr.out.p.cell 2
  have q2 : W2.cell? ⟨g2, 2, none⟩ = some (.string ⟨#[]⟩) := HPr.out.g.cell 2
  have p3 : W2.cell? ⟨g1, 3, none⟩ = some (.int .i64 n) := HPr.out.p.cell 3
  have q3 : W2.cell? ⟨g2, 3, none⟩ = some (.int .i64 0) := HPr.out.g.cell 3
  have p4 : W2.cell? ⟨g1, 4, none⟩ = some (.int .i64 m) := HPr.out.p.cell 4
  have q4 : W2.cell? ⟨g2, 4, none⟩ = some (.int .i64 0) := HPr.out.g.cell 4
  have p5 : W2.cell? ⟨g1, 5, none⟩ = some (.int .i64 j) := HPr.out.p.cell 5
  have q5 : W2.cell? ⟨g2, 5, none⟩ = some (.int .i64 0) := HPr.out.g.cell 5
  have z1 : W2.frozen? ⟨g2, 1, none⟩ = false := HPr.out.g.free 1
  have z2 : W2.frozen? ⟨g2, 2, none⟩ = false := HPr.out.g.free 2
  go_region
  have P3 := Lib.hid ((HPr.out.drew.set 1 (.string a)).set 2 (.string b))
  cases e0 with
  | false =>
    go_wp2_with fail
    go_ret
    exact ⟨ret_bool (by rw [HV.out] <;> rfl), P3.out.below⟩
  | true =>
    go_wp2_with fail
    refine (H0.out _).mono ?_
    rintro e w4 ⟨rfl, hb0⟩
    have P4 := Lib.hid (P3.out.call hb0)
    clear hb0 H0 P3
    have k1 : w4.cell? ⟨g1, 1, none⟩ = some (.string a) := P4.out.p.cell 1
    have k2 : w4.cell? ⟨g1, 2, none⟩ = some (.string b) := P4.out.p.cell 2
    cases r0 with
    | false =>
      go_wp2_with fail
      go_ret
      exact ⟨ret_bool (by rw [HV.out] <;> rfl), P4.out.below⟩
    | true =>
      go_wp2_with fail
      refine (H1.out _).mono ?_
      rintro e w5 ⟨rfl, rfl⟩
      clear H1
      cases r1 with
      | false =>
        go_wp2_with fail
        go_ret
        exact ⟨ret_bool (by rw [HV.out] <;> rfl), P4.out.below⟩
      | true =>
        cases r2 with
        | false =>
          go_wp2_with fail
          go_ret
          exact ⟨ret_bool (by rw [HV.out] <;> rfl), P4.out.below⟩
        | true =>
          go_wp2_with fail
          go_ret
          exact ⟨ret_bool (by rw [HV.out] <;> rfl), P4.out.below⟩
set_option maxHeartbeats 3200000 in
theorem filt5 (a b : ByteArray) (n m j : Int) (ha : a.size ≤ 1048576) (hb : b.size ≤ 1048576) (w : World) :
    Calls Try.prog 22 #[.agg (fcs 5 a b n m j)] w fun e w' => e = .returned (.bool (filtB ⟨5, toL a, toL b, n, m, j⟩)) ∧ Below w.heap.size w w' := by
  have H0 := Lib.hid (fun w => rtext_any b hb w)
  obtain ⟨r0, hr0⟩ : ∃ r0, r0 = (textB (toL b)) := ⟨_, rfl⟩
  rw [← hr0] at H0
  obtain ⟨r1, hr1⟩ : ∃ r1, r1 = (toL b != []) := ⟨_, rfl⟩
  have y1 : ((b.toList != []) : Bool) = r1 := by rw [hr1, ByteArray.toList_eq]
  have y2 : b.toList.isEmpty = !r1 := by rw [hr1, ByteArray.toList_eq]; show (toL b).isEmpty = _; cases toL b <;> rfl
  have y3 : (b.toList == []) = !r1 := by rw [hr1, ByteArray.toList_eq]; show (toL b == []) = _; cases toL b <;> rfl
  have heq := fun w => eqF 5 5 n 0 m 0 j 0 a ⟨#[]⟩ b b w
  obtain ⟨e0, he0⟩ : ∃ e0, e0 = ((toL a == []) && (n == 0) && (m == 0) && (j == 0)) := ⟨_, rfl⟩
  replace heq : ∀ w, (binOp .eql 29 (.agg #[.int .i64 5, .string a, .string b, .int .i64 n, .int .i64 m, .int .i64 j]) (.agg #[.int .i64 5, .string ⟨#[]⟩, .string b, .int .i64 0, .int .i64 0, .int .i64 0])).run Try.prog w = .ok (.bool e0) w := fun w => by
    rw [heq w, he0]
    congr 2
    simp only [beq_self_eq_true, Bool.true_and, Bool.and_true, empt, self_, Bool.and_assoc]
  have HV : Hid (filtB ⟨5, toL a, toL b, n, m, j⟩ = (e0 && r0 && r1)) := Lib.hid (by
    rw [he0, hr0, hr1]
    unfold filtB
    dsimp only
    rw [if_neg (by decide), if_neg (by decide), if_neg (by decide), if_neg (by decide), if_pos (by decide)]
    try simp [TOK, Bool.and_assoc])
  have HPr := Lib.hid (Pair.start w (fcs 5 a b n m j) (fcs 5 ⟨#[]⟩ ⟨#[]⟩ 0 0 0))
  clear he0 hr0 hr1 ha hb
  unfold fcs FT at HPr
  unfold fcs
  go_enter Try.func22, Try.ntmps22
  have P3 := Lib.hid (Pair.start w (fcs 5 a b n m j) (fcs 5 ⟨#[]⟩ b 0 0 0))
  unfold fcs FT at P3
  clear HPr
  cases e0 with
  | false =>
    go_wp2_with fail
    go_ret
    exact ⟨ret_bool (by rw [HV.out] <;> rfl), P3.out.below⟩
  | true =>
    go_wp2_with fail
    refine (H0.out _).mono ?_
    rintro e w4 ⟨rfl, rfl⟩
    clear H0
    cases r0 with
    | false =>
      go_wp2_with fail
      go_ret
      exact ⟨ret_bool (by rw [HV.out] <;> rfl), P3.out.below⟩
    | true =>
      cases r1 with
      | false =>
        go_wp2_with fail
        go_ret
        exact ⟨ret_bool (by rw [HV.out] <;> rfl), P3.out.below⟩
      | true =>
        go_wp2_with fail
        go_ret
        exact ⟨ret_bool (by rw [HV.out] <;> rfl), P3.out.below⟩
set_option maxHeartbeats 3200000 in
theorem filt6 (a b : ByteArray) (n m j : Int) (ha : a.size ≤ 1048576) (hb : b.size ≤ 1048576) (w : World) :
    Calls Try.prog 22 #[.agg (fcs 6 a b n m j)] w fun e w' => e = .returned (.bool (filtB ⟨6, toL a, toL b, n, m, j⟩)) ∧ Below w.heap.size w w' := by
  have H0 := Lib.hid (fun w => rin_any n 0 65536 w)
  obtain ⟨r0, hr0⟩ : ∃ r0, r0 = (inB n 0 65536) := ⟨_, rfl⟩
  rw [← hr0] at H0
  have heq := fun w => eqF 6 6 n n m 0 j 0 a ⟨#[]⟩ b ⟨#[]⟩ w
  obtain ⟨e0, he0⟩ : ∃ e0, e0 = ((toL a == []) && (toL b == []) && (m == 0) && (j == 0)) := ⟨_, rfl⟩
  replace heq : ∀ w, (binOp .eql 29 (.agg #[.int .i64 6, .string a, .string b, .int .i64 n, .int .i64 m, .int .i64 j]) (.agg #[.int .i64 6, .string ⟨#[]⟩, .string ⟨#[]⟩, .int .i64 n, .int .i64 0, .int .i64 0])).run Try.prog w = .ok (.bool e0) w := fun w => by
    rw [heq w, he0]
    congr 2
    simp only [beq_self_eq_true, Bool.true_and, Bool.and_true, empt, self_, Bool.and_assoc]
  have HV : Hid (filtB ⟨6, toL a, toL b, n, m, j⟩ = (e0 && r0)) := Lib.hid (by
    rw [he0, hr0]
    unfold filtB
    dsimp only
    rw [if_neg (by decide), if_neg (by decide), if_neg (by decide), if_neg (by decide), if_neg (by decide), if_pos (by decide)]
    try simp [TOK, Bool.and_assoc])
  have HPr := Lib.hid (Pair.start w (fcs 6 a b n m j) (fcs 6 ⟨#[]⟩ ⟨#[]⟩ 0 0 0))
  clear he0 hr0 ha hb
  unfold fcs FT at HPr
  unfold fcs
  go_enter Try.func22, Try.ntmps22
  have P3 := Lib.hid (Pair.start w (fcs 6 a b n m j) (fcs 6 ⟨#[]⟩ ⟨#[]⟩ n 0 0))
  unfold fcs FT at P3
  clear HPr
  cases e0 with
  | false =>
    go_wp2_with fail
    go_ret
    exact ⟨ret_bool (by rw [HV.out] <;> rfl), P3.out.below⟩
  | true =>
    go_wp2_with fail
    refine (H0.out _).mono ?_
    rintro e w4 ⟨rfl, rfl⟩
    clear H0
    cases r0 with
    | false =>
      go_wp2_with fail
      go_ret
      exact ⟨ret_bool (by rw [HV.out] <;> rfl), P3.out.below⟩
    | true =>
      go_wp2_with fail
      go_ret
      exact ⟨ret_bool (by rw [HV.out] <;> rfl), P3.out.below⟩
set_option maxHeartbeats 3200000 in
theorem filt7 (a b : ByteArray) (n m j : Int) (ha : a.size ≤ 1048576) (hb : b.size ≤ 1048576) (w : World) :
    Calls Try.prog 22 #[.agg (fcs 7 a b n m j)] w fun e w' => e = .returned (.bool (filtB ⟨7, toL a, toL b, n, m, j⟩)) ∧ Below w.heap.size w w' := by
  have H0 := Lib.hid (fun w => rin_any n 0 100 w)
  have H1 := Lib.hid (fun w => rin_any m 400 599 w)
  obtain ⟨r0, hr0⟩ : ∃ r0, r0 = (inB n 0 100) := ⟨_, rfl⟩
  rw [← hr0] at H0
  obtain ⟨r1, hr1⟩ : ∃ r1, r1 = (inB m 400 599) := ⟨_, rfl⟩
  rw [← hr1] at H1
  have heq := fun w => eqF 7 7 n n m m j 0 a ⟨#[]⟩ b ⟨#[]⟩ w
  obtain ⟨e0, he0⟩ : ∃ e0, e0 = ((toL a == []) && (toL b == []) && (j == 0)) := ⟨_, rfl⟩
  replace heq : ∀ w, (binOp .eql 29 (.agg #[.int .i64 7, .string a, .string b, .int .i64 n, .int .i64 m, .int .i64 j]) (.agg #[.int .i64 7, .string ⟨#[]⟩, .string ⟨#[]⟩, .int .i64 n, .int .i64 m, .int .i64 0])).run Try.prog w = .ok (.bool e0) w := fun w => by
    rw [heq w, he0]
    congr 2
    simp only [beq_self_eq_true, Bool.true_and, Bool.and_true, empt, self_, Bool.and_assoc]
  have HV : Hid (filtB ⟨7, toL a, toL b, n, m, j⟩ = (e0 && r0 && r1)) := Lib.hid (by
    rw [he0, hr0, hr1]
    unfold filtB
    dsimp only
    rw [if_neg (by decide), if_neg (by decide), if_neg (by decide), if_neg (by decide), if_neg (by decide), if_neg (by decide), if_pos (by decide)]
    try simp [TOK, Bool.and_assoc])
  have HPr := Lib.hid (Pair.start w (fcs 7 a b n m j) (fcs 7 ⟨#[]⟩ ⟨#[]⟩ 0 0 0))
  clear he0 hr0 hr1 ha hb
  unfold fcs FT at HPr
  unfold fcs
  obtain ⟨g1, hg1⟩ : ∃ g1, g1 = w.heap.size := ⟨_, rfl⟩
  obtain ⟨g2, hg2⟩ : ∃ g2, g2 = w.heap.size + 1 := ⟨_, rfl⟩
  rw [← hg2, ← hg1] at HPr
  rw [← hg1]
  have HG1 := Lib.hid hg1
  have HG2 := Lib.hid hg2
  clear hg1 hg2
  go_enter Try.func22, Try.ntmps22
  go_wp2_with fail
  rw [← HG2.out, ← HG1.out]
  generalize (w.alloc (.cells #[.int .i64 7, .string a, .string b, .int .i64 n, .int .i64 m, .int .i64 j] 29)).alloc (.cells #[.int .i64 7, .string ⟨#[]⟩, .string ⟨#[]⟩, .int .i64 0, .int .i64 0, .int .i64 0] 29) = W2 at HPr ⊢
  have hne : g1 ≠ g2 := Nat.ne_of_lt HPr.out.lo
  have hne2 : g2 ≠ g1 := Ne.symm hne
  have p0 : W2.cell? ⟨g1, 0, none⟩ = some (.int .i64 7) := HPr.out.p.cell 0
  have q0 : W2.cell? ⟨g2, 0, none⟩ = some (.int .i64 7) := HPr.out.g.cell 0
  have p1 : W2.cell? ⟨g1, 1, none⟩ = some (.string a) := HPr.out.p.cell 1
  have q1 : W2.cell? ⟨g2, 1, none⟩ = some (.string ⟨#[]⟩) := HPr.out.g.cell 1
  have p2 : W2.cell? ⟨g1, 2, none⟩ = some (.string b) := HPr.out.p.cell 2
  have q2 : W2.cell? ⟨g2, 2, none⟩ = some (.string ⟨#[]⟩) := HPr.out.g.cell 2
  have p3 : W2.cell? ⟨g1, 3, none⟩ = some (.int .i64 n) := HPr.out.p.cell 3
  have q3 : W2.cell? ⟨g2, 3, none⟩ = some (.int .i64 0) := HPr.out.g.cell 3
  have p4 : W2.cell? ⟨g1, 4, none⟩ = some (.int .i64 m) := HPr.out.p.cell 4
  have q4 : W2.cell? ⟨g2, 4, none⟩ = some (.int .i64 0) := HPr.out.g.cell 4
  have p5 : W2.cell? ⟨g1, 5, none⟩ = some (.int .i64 j) := HPr.out.p.cell 5
  have q5 : W2.cell? ⟨g2, 5, none⟩ = some (.int .i64 0) := HPr.out.g.cell 5
  have z3 : W2.frozen? ⟨g2, 3, none⟩ = false := HPr.out.g.free 3
  have z4 : W2.frozen? ⟨g2, 4, none⟩ = false := HPr.out.g.free 4
  go_region
  have P3 := Lib.hid ((HPr.out.drew.set 3 (.int .i64 n)).set 4 (.int .i64 m))
  cases e0 with
  | false =>
    go_wp2_with fail
    go_ret
    exact ⟨ret_bool (by rw [HV.out] <;> rfl), P3.out.below⟩
  | true =>
    go_wp2_with fail
    refine (H0.out _).mono ?_
    rintro e w4 ⟨rfl, rfl⟩
    clear H0
    cases r0 with
    | false =>
      go_wp2_with fail
      go_ret
      exact ⟨ret_bool (by rw [HV.out] <;> rfl), P3.out.below⟩
    | true =>
      go_wp2_with fail
      refine (H1.out _).mono ?_
      rintro e w5 ⟨rfl, rfl⟩
      clear H1
      cases r1 with
      | false =>
        go_wp2_with fail
        go_ret
        exact ⟨ret_bool (by rw [HV.out] <;> rfl), P3.out.below⟩
      | true =>
        go_wp2_with fail
        go_ret
        exact ⟨ret_bool (by rw [HV.out] <;> rfl), P3.out.below⟩
set_option maxHeartbeats 3200000 in
theorem filt8 (a b : ByteArray) (n m j : Int) (ha : a.size ≤ 1048576) (hb : b.size ≤ 1048576) (w : World) :
    Calls Try.prog 22 #[.agg (fcs 8 a b n m j)] w fun e w' => e = .returned (.bool (filtB ⟨8, toL a, toL b, n, m, j⟩)) ∧ Below w.heap.size w w' := by
  have H0 := Lib.hid (fun w => rname_any a ha w)
  have H1 := Lib.hid (fun w => rtext_any b hb w)
  obtain ⟨r0, hr0⟩ : ∃ r0, r0 = (nameB (toL a)) := ⟨_, rfl⟩
  rw [← hr0] at H0
  obtain ⟨r1, hr1⟩ : ∃ r1, r1 = (textB (toL b)) := ⟨_, rfl⟩
  rw [← hr1] at H1
  have heq := fun w => eqF 8 8 n 0 m 0 j 0 a a b b w
  obtain ⟨e0, he0⟩ : ∃ e0, e0 = ((n == 0) && (m == 0) && (j == 0)) := ⟨_, rfl⟩
  replace heq : ∀ w, (binOp .eql 29 (.agg #[.int .i64 8, .string a, .string b, .int .i64 n, .int .i64 m, .int .i64 j]) (.agg #[.int .i64 8, .string a, .string b, .int .i64 0, .int .i64 0, .int .i64 0])).run Try.prog w = .ok (.bool e0) w := fun w => by
    rw [heq w, he0]
    congr 2
    simp only [beq_self_eq_true, Bool.true_and, Bool.and_true, empt, self_, Bool.and_assoc]
  have HV : Hid (filtB ⟨8, toL a, toL b, n, m, j⟩ = (e0 && r0 && r1)) := Lib.hid (by
    rw [he0, hr0, hr1]
    unfold filtB
    dsimp only
    rw [if_pos (by decide)]
    try simp [TOK, Bool.and_assoc])
  have HPr := Lib.hid (Pair.start w (fcs 8 a b n m j) (fcs 8 ⟨#[]⟩ ⟨#[]⟩ 0 0 0))
  clear he0 hr0 hr1 ha hb
  unfold fcs FT at HPr
  unfold fcs
  obtain ⟨g1, hg1⟩ : ∃ g1, g1 = w.heap.size := ⟨_, rfl⟩
  obtain ⟨g2, hg2⟩ : ∃ g2, g2 = w.heap.size + 1 := ⟨_, rfl⟩
  rw [← hg2, ← hg1] at HPr
  rw [← hg1]
  have HG1 := Lib.hid hg1
  have HG2 := Lib.hid hg2
  clear hg1 hg2
  go_enter Try.func22, Try.ntmps22
  go_wp2_with fail
  rw [← HG2.out, ← HG1.out]
  generalize (w.alloc (.cells #[.int .i64 8, .string a, .string b, .int .i64 n, .int .i64 m, .int .i64 j] 29)).alloc (.cells #[.int .i64 8, .string ⟨#[]⟩, .string ⟨#[]⟩, .int .i64 0, .int .i64 0, .int .i64 0] 29) = W2 at HPr ⊢
  have hne : g1 ≠ g2 := Nat.ne_of_lt HPr.out.lo
  have hne2 : g2 ≠ g1 := Ne.symm hne
  have p0 : W2.cell? ⟨g1, 0, none⟩ = some (.int .i64 8) := HPr.out.p.cell 0
  have q0 : W2.cell? ⟨g2, 0, none⟩ = some (.int .i64 8) := HPr.out.g.cell 0
  have p1 : W2.cell? ⟨g1, 1, none⟩ = some (.string a) := HPr.out.p.cell 1
  have q1 : W2.cell? ⟨g2, 1, none⟩ = some (.string ⟨#[]⟩) := HPr.out.g.cell 1
  have p2 : W2.cell? ⟨g1, 2, none⟩ = some (.string b) := HPr.out.p.cell 2
  have q2 : W2.cell? ⟨g2, 2, none⟩ = some (.string ⟨#[]⟩) := HPr.out.g.cell 2
  have p3 : W2.cell? ⟨g1, 3, none⟩ = some (.int .i64 n) := HPr.out.p.cell 3
  have q3 : W2.cell? ⟨g2, 3, none⟩ = some (.int .i64 0) := HPr.out.g.cell 3
  have p4 : W2.cell? ⟨g1, 4, none⟩ = some (.int .i64 m) := HPr.out.p.cell 4
  have q4 : W2.cell? ⟨g2, 4, none⟩ = some (.int .i64 0) := HPr.out.g.cell 4
  have p5 : W2.cell? ⟨g1, 5, none⟩ = some (.int .i64 j) := HPr.out.p.cell 5
  have q5 : W2.cell? ⟨g2, 5, none⟩ = some (.int .i64 0) := HPr.out.g.cell 5
  have z1 : W2.frozen? ⟨g2, 1, none⟩ = false := HPr.out.g.free 1
  have z2 : W2.frozen? ⟨g2, 2, none⟩ = false := HPr.out.g.free 2
  go_region
  have P3 := Lib.hid ((HPr.out.drew.set 1 (.string a)).set 2 (.string b))
  cases e0 with
  | false =>
    go_wp2_with fail
    go_ret
    exact ⟨ret_bool (by rw [HV.out] <;> rfl), P3.out.below⟩
  | true =>
    go_wp2_with fail
    refine (H0.out _).mono ?_
    rintro e w4 ⟨rfl, hb0⟩
    have P4 := Lib.hid (P3.out.call hb0)
    clear hb0 H0 P3
    have k1 : w4.cell? ⟨g1, 1, none⟩ = some (.string a) := P4.out.p.cell 1
    have k2 : w4.cell? ⟨g1, 2, none⟩ = some (.string b) := P4.out.p.cell 2
    cases r0 with
    | false =>
      go_wp2_with fail
      go_ret
      exact ⟨ret_bool (by rw [HV.out] <;> rfl), P4.out.below⟩
    | true =>
      go_wp2_with fail
      refine (H1.out _).mono ?_
      rintro e w5 ⟨rfl, rfl⟩
      clear H1
      cases r1 with
      | false =>
        go_wp2_with fail
        go_ret
        exact ⟨ret_bool (by rw [HV.out] <;> rfl), P4.out.below⟩
      | true =>
        go_wp2_with fail
        go_ret
        exact ⟨ret_bool (by rw [HV.out] <;> rfl), P4.out.below⟩
set_option maxHeartbeats 3200000 in
theorem filtOther (kd : Int) (a b : ByteArray) (n m j : Int) (h : ¬ (1 ≤ kd ∧ kd ≤ 8)) (w : World) :
    Calls Try.prog 22 #[.agg (fcs kd a b n m j)] w fun e w' => e = .returned (.bool (filtB ⟨kd, toL a, toL b, n, m, j⟩)) ∧ Below w.heap.size w w' := by
  have HV : Hid (filtB ⟨kd, toL a, toL b, n, m, j⟩ = false) := Lib.hid (by
    unfold filtB
    dsimp only
    rw [if_neg (by omega), if_neg (by omega), if_neg (by omega), if_neg (by omega), if_neg (by omega), if_neg (by omega), if_neg (by omega)])
  have i1 : (kd == 1) = false := beq_false_of_ne (by omega)
  have i2 : (kd == 2) = false := beq_false_of_ne (by omega)
  have i3 : (kd == 3) = false := beq_false_of_ne (by omega)
  have i4 : (kd == 4) = false := beq_false_of_ne (by omega)
  have i5 : (kd == 5) = false := beq_false_of_ne (by omega)
  have i6 : (kd == 6) = false := beq_false_of_ne (by omega)
  have i7 : (kd == 7) = false := beq_false_of_ne (by omega)
  have i8 : (kd == 8) = false := beq_false_of_ne (by omega)
  have P3 := Lib.hid (Pair.start w (fcs kd a b n m j) (fcs kd ⟨#[]⟩ ⟨#[]⟩ 0 0 0))
  clear h
  unfold fcs FT at P3
  unfold fcs
  go_enter Try.func22, Try.ntmps22
  go_wp2_with fail
  go_ret
  exact ⟨ret_bool HV.out.symm, P3.out.below⟩
theorem rfilter_any (x : Filt) (hx : FitFilt x) (w : World) :
    Calls Try.prog 22 #[.agg (fcs x.kind (ofL x.name) (ofL x.value) x.n x.m x.k)] w fun e w' => e = .returned (.bool (filtB x)) ∧ Below w.heap.size w w' := by
  obtain ⟨kd, a, b, n, m, j⟩ := x
  have ha : (ofL a).size ≤ 1048576 := by rw [ofL_size]; exact hx.name
  have hb : (ofL b).size ≤ 1048576 := by rw [ofL_size]; exact hx.value
  clear hx
  have key : Calls Try.prog 22 #[.agg (fcs kd (ofL a) (ofL b) n m j)] w fun e w' => e = .returned (.bool (filtB ⟨kd, toL (ofL a), toL (ofL b), n, m, j⟩)) ∧ Below w.heap.size w w' := by
    by_cases h : 1 ≤ kd ∧ kd ≤ 8
    · have h2 : kd = 1 ∨ kd = 2 ∨ kd = 3 ∨ kd = 4 ∨ kd = 5 ∨ kd = 6 ∨ kd = 7 ∨ kd = 8 := by omega
      rcases h2 with rfl | rfl | rfl | rfl | rfl | rfl | rfl | rfl
      · exact filt1 _ _ n m j ha hb w
      · exact filt2 _ _ n m j ha hb w
      · exact filt3 _ _ n m j ha hb w
      · exact filt4 _ _ n m j ha hb w
      · exact filt5 _ _ n m j ha hb w
      · exact filt6 _ _ n m j ha hb w
      · exact filt7 _ _ n m j ha hb w
      · exact filt8 _ _ n m j ha hb w
    · exact filtOther kd _ _ n m j h w
  rw [toL_ofL, toL_ofL] at key
  exact key
end Go.Proofs.Ytfdpoibmlggfbaa.R14Filt

/- Layer 16's laws: whether all filters of a list are right. -/
namespace Go.Proofs.Ytfdpoibmlggfbaa.L16Right
open Go.ChangeShapes Go.WideShapes Go.ChangeAt Go.RowKit Bytes LexPure ConfPure ConfMem Ret Mem R14Eq R14Filt
set_option maxRecDepth 100000
set_option linter.unusedVariables false
set_option linter.unusedSimpArgs false
theorem filt_at {w : World} {p : Option Addr} {n cap : Nat} {G : List Filt} (h : Filts w (.slice p n cap) G) (i : Nat) (hi : i < G.length) (x : Filt) (hx : x = G[i]) : ∃ g o, p = some ⟨g, o, none⟩ ∧ w.cell? ⟨g, o + i * 6, none⟩ = some (.int .i64 x.kind) ∧ w.cell? ⟨g, o + i * 6 + 1, none⟩ = some (.string (ofL x.name)) ∧ w.cell? ⟨g, o + i * 6 + 2, none⟩ = some (.string (ofL x.value)) ∧ w.cell? ⟨g, o + i * 6 + 3, none⟩ = some (.int .i64 x.n) ∧ w.cell? ⟨g, o + i * 6 + 4, none⟩ = some (.int .i64 x.m) ∧ w.cell? ⟨g, o + i * 6 + 5, none⟩ = some (.int .i64 x.k) := by
  subst hx
  obtain ⟨p2, c2, heq, _, hc⟩ := h.parts
  injection heq with e1 e2 e3
  obtain ⟨g, o, hp, _, hcell⟩ := hc (by omega)
  exact ⟨g, o, e1.trans hp, hcell i hi⟩
theorem all_more {A : Type} (l : List A) (k : Nat) (hk : k < l.length) (q : A → Bool) : (l.take (k + 1)).all q = ((l.take k).all q && q l[k]) := by
  rw [List.take_succ_eq_append_getElem hk, List.all_append]
  simp
set_option maxHeartbeats 3200000 in
theorem right_any (fs : List Filt) (hx : ∀ x ∈ fs, FitFilt x) (v : Value) (w : World) (h : Filts w v fs) :
    Calls Try.prog 10 #[v] w fun e w' => e = .returned (.bool (fs.all filtB)) ∧ Below w.heap.size w w' := by
  obtain ⟨p, cap, rfl, hn63, _⟩ := h.parts
  have HR := Lib.hid (fun x (hm : x ∈ fs) w => rfilter_any x (hx x hm) w)
  have HJ0 : Hid (Filts w (.slice p fs.length cap) fs ∧ Below w.heap.size w w) := Lib.hid ⟨h, Below.refl _ _⟩
  have HI0 : Hid ((fs.take 0).all filtB = true) := Lib.hid rfl
  clear h hx
  go_enter Try.func10, Try.ntmps10
  go_wp2_with fail
  go_loopw [7] (fun i wr => ∃ k : Nat, k ≤ fs.length ∧ i = .int .i64 k ∧ Hid ((fs.take k).all filtB = true) ∧ Hid (Filts wr (.slice p fs.length cap) fs ∧ Below w.heap.size w wr)) (fun i _ => fs.length - (intOf i).toNat)
  case atStart => exact ⟨0, Nat.zero_le _, rfl, HI0, HJ0⟩
  case round =>
    obtain ⟨k, hk, rfl, HI, HJ⟩ := hrel
    clear HI0 HJ0
    by_cases hlt : k < fs.length
    · have hki : (k : Int) < (fs.length : Int) := by omega
      have hk0 : (0 : Int) ≤ (k : Int) := by omega
      obtain ⟨x, hx⟩ : ∃ x, x = fs[k] := ⟨_, rfl⟩
      obtain ⟨g, o, rfl, m0, m1, m2, m3, m4, m5⟩ := filt_at HJ.out.1 k hlt x hx
      have HC := Lib.hid (HR.out x (hx ▸ List.getElem_mem hlt))
      have HA : Hid ((fs.take (k + 1)).all filtB = filtB x) := Lib.hid (by rw [all_more fs k hlt, HI.out, Bool.true_and, ← hx])
      have HF : Hid (filtB x = false → fs.all filtB = false) := Lib.hid (fun e => by rw [List.all_eq_false]; exact ⟨x, hx ▸ List.getElem_mem hlt, by rw [e]; decide⟩)
      unfold fcs at HC
      have hb1 := (Below.refl wr.heap.size wr).alloc (Nat.le_refl _) (.cells #[.int .i64 x.kind, .string (ofL x.name), .string (ofL x.value), .int .i64 x.n, .int .i64 x.m, .int .i64 x.k] 29)
      have HB1 := Lib.hid hb1
      generalize filtB x = b at *
      clear hx hb1 HI
      cases b
      · go_wp2_with fail
        refine (HC.out _).mono ?_
        rintro e w2 ⟨rfl, hb2⟩
        have HE := Lib.hid (HJ.out.2.trans ((below_chain HB1.out hb2).mono HJ.out.2.size))
        clear hb2 HJ HB1 m0 m1 m2 m3 m4 m5
        go_wp2_with fail
        go_ret
        exact ⟨ret_bool (HF.out (by first | exact rfl | trivial)).symm, HE.out⟩
      · go_wp2_with fail
        refine (HC.out _).mono ?_
        rintro e w2 ⟨rfl, hb2⟩
        have hb3 := below_chain HB1.out hb2
        have HN : Hid (Filts w2 (.slice (some ⟨g, o, none⟩) fs.length cap) fs ∧ Below w.heap.size w w2) := Lib.hid ⟨HJ.out.1.below hb3, HJ.out.2.trans (hb3.mono HJ.out.2.size)⟩
        clear hb2 hb3 HJ HB1 m0 m1 m2 m3 m4 m5
        go_wp2_with fail
        go_roundw
        case rel => exact ⟨k + 1, by omega, by go_num, HA, HN⟩
        case measure => simp [intOf]; omega
    · have HA : Hid (fs.all filtB = true) := Lib.hid (by have := HI.out; rwa [List.take_of_length_le (by omega)] at this)
      have hki : ¬ (k : Int) < (fs.length : Int) := by omega
      clear HI
      go_wp2_with fail
      go_ret
      exact ⟨ret_bool HA.out.symm, HJ.out.2⟩
end Go.Proofs.Ytfdpoibmlggfbaa.L16Right
