/- Texts of this seat, one behind another: R14Eq, R14Filt, PCfgF, R14Bnd. -/
import Derived.Laws.StructEq
import Derived.Deep.RegionHeld3
import Derived.BigRegion
import Derived.Test.YtfihehobkbfmiaaGreatDoorA3
import Derived.Test.YtfihehobkbfmiaaGreatDoorA1
import Derived.Test.YtfihehobkbfmiaaGreatDoorA4
/- Layer 14: two filters held against each other. -/
namespace Go.Proofs.YtfihehobkbfmiaaGreatDoor.R14Eq
open Go.ChangeShapes Go.WideShapes Go.ChangeAt Go.RowKit LexPure Bytes ConfPure ConfMem Mem
set_option maxRecDepth 20000
set_option linter.unusedSimpArgs false
abbrev FT : TypeId := 49
def fcs (k : Int) (a b : ByteArray) (n m j : Int) : Array Value := #[.int .i64 k, .string a, .string b, .int .i64 n, .int .i64 m, .int .i64 j]
set_option maxHeartbeats 6400000 in
theorem eqF (k k' n n' m m' j j' : Int) (a a' b b' : ByteArray) (w : World) : (binOp .eql 49 (.agg #[.int .i64 k, .string a, .string b, .int .i64 n, .int .i64 m, .int .i64 j]) (.agg #[.int .i64 k', .string a', .string b', .int .i64 n', .int .i64 m', .int .i64 j'])).run Tryz.prog w =
    .ok (.bool (k == k' && (a.toList == a'.toList && (b.toList == b'.toList && (n == n' && (m == m' && j == j')))))) w := by
  have u3 := Tryz.underlying3
  have a3 := Tryz.isAgg3
  have z3 := Tryz.sizeOf3
  have u9 := Tryz.underlying9
  have a9 := Tryz.isAgg9
  have z9 := Tryz.sizeOf9
  have hS : Tryz.prog.underlying 49 = some (.struct (Tryz.prog.fieldsOf 49)) := by kernel_rfl
  have hp : Tryz.prog.stoodInHeld 49 = false := by kernel_rfl
  obtain ⟨e1, h1⟩ : ∃ e1, (k == k') = e1 := ⟨_, rfl⟩
  obtain ⟨e2, h2⟩ : ∃ e2, (a.toList == a'.toList) = e2 := ⟨_, rfl⟩
  obtain ⟨e3, h3⟩ : ∃ e3, (b.toList == b'.toList) = e3 := ⟨_, rfl⟩
  obtain ⟨e4, h4⟩ : ∃ e4, (n == n') = e4 := ⟨_, rfl⟩
  obtain ⟨e5, h5⟩ : ∃ e5, (m == m') = e5 := ⟨_, rfl⟩
  obtain ⟨e6, h6⟩ : ∃ e6, (j == j') = e6 := ⟨_, rfl⟩
  rw [h1, h2, h3, h4, h5, h6]
  rw [run_eql_struct, show (10000 : Nat) = 9999 + 1 from rfl, run_equalIn_agg w 9999 49 _ _ hS hp]
  simp only [Program.fieldsOf, Tryz.underlying49]
  cases e1 <;> cases e2 <;> cases e3 <;> cases e4 <;> cases e5 <;> cases e6 <;> go_simp
end Go.Proofs.YtfihehobkbfmiaaGreatDoor.R14Eq

/- Layer 14, the document's own Filter. -/
namespace Go.Proofs.YtfihehobkbfmiaaGreatDoor.R14Filt
open Go.ChangeShapes Go.WideShapes Go.ChangeAt Go.RowKit Bytes LexPure ConfPure ConfMem Ret Mem R14In R14Name R14Eq
set_option maxRecDepth 100000
set_option linter.unusedVariables false
set_option linter.unusedSimpArgs false
theorem empt (a : ByteArray) : (a.toList == (⟨#[]⟩ : ByteArray).toList) = (toL a == []) := by
  rw [ByteArray.toList_eq, ByteArray.toList_eq]
theorem self_ (a : ByteArray) : (a.toList == a.toList) = true := beq_self_eq_true _
/-- the two boxes, apart -/
structure Pair (w : World) (g1 g2 : Nat) (cp cg : Array Value) (W : World) : Prop where
  p : Has W g1 FT cp
  g : Has W g2 FT cg
  below : Below g1 w W
  lo : g1 < g2
theorem Pair.start (w : World) (cp cg : Array Value) : Pair w w.heap.size (w.heap.size + 1) cp cg ((w.alloc (.cells cp FT)).alloc (.cells cg FT)) := by
  refine ⟨(Has.new w _ _).alloc _, ?_, ((Below.refl w.heap.size w).alloc (Nat.le_refl _) _).alloc (by simp) _, by omega⟩
  have := Has.new (w.alloc (.cells cp FT)) FT cg
  rw [show (w.alloc (.cells cp FT)).heap.size = w.heap.size + 1 by simp] at this
  exact this
theorem Pair.drew {w W : World} {g1 g2 : Nat} {cp cg : Array Value} (h : Pair w g1 g2 cp cg W) : Pair w g1 g2 cp cg W.drew := ⟨h.p.drew, h.g.drew, below_drew h.below, h.lo⟩
theorem Pair.set {w W : World} {g1 g2 : Nat} {cp cg : Array Value} (h : Pair w g1 g2 cp cg W) (i : Nat) (u : Value) : Pair w g1 g2 cp (cg.setIfInBounds i u) (W.setCell ⟨g2, i, none⟩ u) :=
  ⟨h.p.far (p := ⟨g2, i, none⟩) (Nat.ne_of_lt h.lo) u, h.g.set_ i u, h.below.setCell (p := ⟨g2, i, none⟩) (Nat.le_of_lt h.lo) u, h.lo⟩
theorem Pair.call {w W W' : World} {g1 g2 : Nat} {cp cg : Array Value} (h : Pair w g1 g2 cp cg W) (hb : Below W.heap.size W W') : Pair w g1 g2 cp cg W' := ⟨h.p.below hb h.p.lt, h.g.below hb h.g.lt, ⟨hb.os.trans h.below.os, hb.tape.trans h.below.tape, hb.output.trans h.below.output, Nat.le_trans h.below.size hb.size, fun i hi => (hb.block i (Nat.lt_trans hi h.p.lt)).trans (h.below.block i hi)⟩, h.lo⟩
set_option maxHeartbeats 3200000 in
theorem filt1 (a b : ByteArray) (n m j : Int) (ha : a.size ≤ 1048576) (hb : b.size ≤ 1048576) (w : World) :
    Calls Tryz.prog 25 #[.agg (fcs 1 a b n m j)] w fun e w' => e = .returned (.bool (filtB ⟨1, toL a, toL b, n, m, j⟩)) ∧ Below w.heap.size w w' := by
  have H0 := Lib.hid (fun w => rname_any a ha w)
  have H1 := Lib.hid (fun w => rtext_any b hb w)
  obtain ⟨r0, hr0⟩ : ∃ r0, r0 = (nameB (toL a)) := ⟨_, rfl⟩
  rw [← hr0] at H0
  obtain ⟨r1, hr1⟩ : ∃ r1, r1 = (textB (toL b)) := ⟨_, rfl⟩
  rw [← hr1] at H1
  have heq := fun w => eqF 1 1 n 0 m 0 j 0 a a b b w
  obtain ⟨e0, he0⟩ : ∃ e0, e0 = ((n == 0) && (m == 0) && (j == 0)) := ⟨_, rfl⟩
  replace heq : ∀ w, (binOp .eql 49 (.agg #[.int .i64 1, .string a, .string b, .int .i64 n, .int .i64 m, .int .i64 j]) (.agg #[.int .i64 1, .string a, .string b, .int .i64 0, .int .i64 0, .int .i64 0])).run Tryz.prog w = .ok (.bool e0) w := fun w => by
    rw [heq w, he0]
    congr 2
    simp only [beq_self_eq_true, Bool.true_and, Bool.and_true, empt, self_, Bool.and_assoc]
  have HV : Hid (filtB ⟨1, toL a, toL b, n, m, j⟩ = (e0 && r0 && r1)) := Lib.hid (by
    rw [he0, hr0, hr1]
    unfold filtB
    dsimp only
    rw [if_pos (by decide)]
    try simp [TOK, Bool.and_assoc])
  have HPr := Lib.hid (Pair.start w (fcs 1 a b n m j) (fcs 1 ⟨#[]⟩ ⟨#[]⟩ 0 0 0))
  clear he0 hr0 hr1 ha hb
  unfold fcs FT at HPr
  unfold fcs
  obtain ⟨g1, hg1⟩ : ∃ g1, g1 = w.heap.size := ⟨_, rfl⟩
  obtain ⟨g2, hg2⟩ : ∃ g2, g2 = w.heap.size + 1 := ⟨_, rfl⟩
  rw [← hg2, ← hg1] at HPr
  rw [← hg1]
  have HG1 := Lib.hid hg1
  have HG2 := Lib.hid hg2
  clear hg1 hg2
  go_enter Tryz.func25, Tryz.ntmps25
  go_wp2_with fail
  rw [← HG2.out, ← HG1.out]
  generalize (w.alloc (.cells #[.int .i64 1, .string a, .string b, .int .i64 n, .int .i64 m, .int .i64 j] 49)).alloc (.cells #[.int .i64 1, .string ⟨#[]⟩, .string ⟨#[]⟩, .int .i64 0, .int .i64 0, .int .i64 0] 49) = W2 at HPr ⊢
  have hne : g1 ≠ g2 := Nat.ne_of_lt HPr.out.lo
  have hne2 : g2 ≠ g1 := Ne.symm hne
  have p0 : W2.cell? ⟨g1, 0, none⟩ = some (.int .i64 1) := HPr.out.p.cell 0
  have q0 : W2.cell? ⟨g2, 0, none⟩ = some (.int .i64 1) := HPr.out.g.cell 0
  have p1 : W2.cell? ⟨g1, 1, none⟩ = some (.string a) := HPr.out.p.cell 1
  have q1 : W2.cell? ⟨g2, 1, none⟩ = some (.string ⟨#[]⟩) := HPr.out.g.cell 1
  have p2 : W2.cell? ⟨g1, 2, none⟩ = some (.string b) := HPr.out.p.cell 2
  have q2 : W2.cell? ⟨g2, 2, none⟩ = some (.string ⟨#[]⟩) := HPr.out.g.cell 2
  have p3 : W2.cell? ⟨g1, 3, none⟩ = some (.int .i64 n) := HPr.out.p.cell 3
  have q3 : W2.cell? ⟨g2, 3, none⟩ = some (.int .i64 0) := HPr.out.g.cell 3
  have p4 : W2.cell? ⟨g1, 4, none⟩ = some (.int .i64 m) := HPr.out.p.cell 4
  have q4 : W2.cell? ⟨g2, 4, none⟩ = some (.int .i64 0) := HPr.out.g.cell 4
  have p5 : W2.cell? ⟨g1, 5, none⟩ = some (.int .i64 j) := HPr.out.p.cell 5
  have q5 : W2.cell? ⟨g2, 5, none⟩ = some (.int .i64 0) := HPr.out.g.cell 5
  have z1 : W2.frozen? ⟨g2, 1, none⟩ = false := HPr.out.g.free 1
  have z2 : W2.frozen? ⟨g2, 2, none⟩ = false := HPr.out.g.free 2
  go_region
  have P3 := Lib.hid ((HPr.out.drew.set 1 (.string a)).set 2 (.string b))
  cases e0 with
  | false =>
    go_wp2_with fail
    go_ret
    exact ⟨ret_bool (by rw [HV.out] <;> rfl), P3.out.below⟩
  | true =>
    go_wp2_with fail
    refine (H0.out _).mono ?_
    rintro e w4 ⟨rfl, hb0⟩
    have P4 := Lib.hid (P3.out.call hb0)
    clear hb0 H0 P3
    have k1 : w4.cell? ⟨g1, 1, none⟩ = some (.string a) := P4.out.p.cell 1
    have k2 : w4.cell? ⟨g1, 2, none⟩ = some (.string b) := P4.out.p.cell 2
    cases r0 with
    | false =>
      go_wp2_with fail
      go_ret
      exact ⟨ret_bool (by rw [HV.out] <;> rfl), P4.out.below⟩
    | true =>
      go_wp2_with fail
      refine (H1.out _).mono ?_
      rintro e w5 ⟨rfl, rfl⟩
      clear H1
      cases r1 with
      | false =>
        go_wp2_with fail
        go_ret
        exact ⟨ret_bool (by rw [HV.out] <;> rfl), P4.out.below⟩
      | true =>
        go_wp2_with fail
        go_ret
        exact ⟨ret_bool (by rw [HV.out] <;> rfl), P4.out.below⟩
set_option maxHeartbeats 3200000 in
theorem filt2 (a b : ByteArray) (n m j : Int) (ha : a.size ≤ 1048576) (hb : b.size ≤ 1048576) (w : World) :
    Calls Tryz.prog 25 #[.agg (fcs 2 a b n m j)] w fun e w' => e = .returned (.bool (filtB ⟨2, toL a, toL b, n, m, j⟩)) ∧ Below w.heap.size w w' := by
  have H0 := Lib.hid (fun w => rname_any a ha w)
  obtain ⟨r0, hr0⟩ : ∃ r0, r0 = (nameB (toL a)) := ⟨_, rfl⟩
  rw [← hr0] at H0
  have heq := fun w => eqF 2 2 n 0 m 0 j 0 a a b ⟨#[]⟩ w
  obtain ⟨e0, he0⟩ : ∃ e0, e0 = ((toL b == []) && (n == 0) && (m == 0) && (j == 0)) := ⟨_, rfl⟩
  replace heq : ∀ w, (binOp .eql 49 (.agg #[.int .i64 2, .string a, .string b, .int .i64 n, .int .i64 m, .int .i64 j]) (.agg #[.int .i64 2, .string a, .string ⟨#[]⟩, .int .i64 0, .int .i64 0, .int .i64 0])).run Tryz.prog w = .ok (.bool e0) w := fun w => by
    rw [heq w, he0]
    congr 2
    simp only [beq_self_eq_true, Bool.true_and, Bool.and_true, empt, self_, Bool.and_assoc]
  have HV : Hid (filtB ⟨2, toL a, toL b, n, m, j⟩ = (e0 && r0)) := Lib.hid (by
    rw [he0, hr0]
    unfold filtB
    dsimp only
    rw [if_neg (by decide), if_pos (by decide)]
    try simp [TOK, Bool.and_assoc])
  have HPr := Lib.hid (Pair.start w (fcs 2 a b n m j) (fcs 2 ⟨#[]⟩ ⟨#[]⟩ 0 0 0))
  clear he0 hr0 ha hb
  unfold fcs FT at HPr
  unfold fcs
  go_enter Tryz.func25, Tryz.ntmps25
  have P3 := Lib.hid (Pair.start w (fcs 2 a b n m j) (fcs 2 a ⟨#[]⟩ 0 0 0))
  unfold fcs FT at P3
  clear HPr
  cases e0 with
  | false =>
    go_wp2_with fail
    go_ret
    exact ⟨ret_bool (by rw [HV.out] <;> rfl), P3.out.below⟩
  | true =>
    go_wp2_with fail
    refine (H0.out _).mono ?_
    rintro e w4 ⟨rfl, hb0⟩
    have P4 := Lib.hid (P3.out.call hb0)
    clear hb0 H0 P3
    cases r0 with
    | false =>
      go_wp2_with fail
      go_ret
      exact ⟨ret_bool (by rw [HV.out] <;> rfl), P4.out.below⟩
    | true =>
      go_wp2_with fail
      go_ret
      exact ⟨ret_bool (by rw [HV.out] <;> rfl), P4.out.below⟩
set_option maxHeartbeats 3200000 in
theorem filt3 (a b : ByteArray) (n m j : Int) (ha : a.size ≤ 1048576) (hb : b.size ≤ 1048576) (w : World) :
    Calls Tryz.prog 25 #[.agg (fcs 3 a b n m j)] w fun e w' => e = .returned (.bool (filtB ⟨3, toL a, toL b, n, m, j⟩)) ∧ Below w.heap.size w w' := by
  have H0 := Lib.hid (fun w => rin_any n 1 1073741824 w)
  have H1 := Lib.hid (fun w => rin_any m 1 1073741824 w)
  have H2 := Lib.hid (fun w => rin_any j 1 1073741824 w)
  obtain ⟨r0, hr0⟩ : ∃ r0, r0 = (inB n 1 1073741824) := ⟨_, rfl⟩
  rw [← hr0] at H0
  obtain ⟨r1, hr1⟩ : ∃ r1, r1 = (inB m 1 1073741824) := ⟨_, rfl⟩
  rw [← hr1] at H1
  obtain ⟨r2, hr2⟩ : ∃ r2, r2 = (inB j 1 1073741824) := ⟨_, rfl⟩
  rw [← hr2] at H2
  have heq := fun w => eqF 3 3 n n m m j j a ⟨#[]⟩ b ⟨#[]⟩ w
  obtain ⟨e0, he0⟩ : ∃ e0, e0 = ((toL a == []) && (toL b == [])) := ⟨_, rfl⟩
  replace heq : ∀ w, (binOp .eql 49 (.agg #[.int .i64 3, .string a, .string b, .int .i64 n, .int .i64 m, .int .i64 j]) (.agg #[.int .i64 3, .string ⟨#[]⟩, .string ⟨#[]⟩, .int .i64 n, .int .i64 m, .int .i64 j])).run Tryz.prog w = .ok (.bool e0) w := fun w => by
    rw [heq w, he0]
    congr 2
    simp only [beq_self_eq_true, Bool.true_and, Bool.and_true, empt, self_, Bool.and_assoc]
  have HV : Hid (filtB ⟨3, toL a, toL b, n, m, j⟩ = (e0 && r0 && r1 && r2)) := Lib.hid (by
    rw [he0, hr0, hr1, hr2]
    unfold filtB
    dsimp only
    rw [if_neg (by decide), if_neg (by decide), if_pos (by decide)]
    try simp [TOK, Bool.and_assoc])
  have HPr := Lib.hid (Pair.start w (fcs 3 a b n m j) (fcs 3 ⟨#[]⟩ ⟨#[]⟩ 0 0 0))
  clear he0 hr0 hr1 hr2 ha hb
  unfold fcs FT at HPr
  unfold fcs
  obtain ⟨g1, hg1⟩ : ∃ g1, g1 = w.heap.size := ⟨_, rfl⟩
  obtain ⟨g2, hg2⟩ : ∃ g2, g2 = w.heap.size + 1 := ⟨_, rfl⟩
  rw [← hg2, ← hg1] at HPr
  rw [← hg1]
  have HG1 := Lib.hid hg1
  have HG2 := Lib.hid hg2
  clear hg1 hg2
  go_enter Tryz.func25, Tryz.ntmps25
  go_wp2_with fail
  rw [← HG2.out, ← HG1.out]
  generalize (w.alloc (.cells #[.int .i64 3, .string a, .string b, .int .i64 n, .int .i64 m, .int .i64 j] 49)).alloc (.cells #[.int .i64 3, .string ⟨#[]⟩, .string ⟨#[]⟩, .int .i64 0, .int .i64 0, .int .i64 0] 49) = W2 at HPr ⊢
  have hne : g1 ≠ g2 := Nat.ne_of_lt HPr.out.lo
  have hne2 : g2 ≠ g1 := Ne.symm hne
  have p0 : W2.cell? ⟨g1, 0, none⟩ = some (.int .i64 3) := HPr.out.p.cell 0
  have q0 : W2.cell? ⟨g2, 0, none⟩ = some (.int .i64 3) := HPr.out.g.cell 0
  have p1 : W2.cell? ⟨g1, 1, none⟩ = some (.string a) := HPr.out.p.cell 1
  have q1 : W2.cell? ⟨g2, 1, none⟩ = some (.string ⟨#[]⟩) := HPr.out.g.cell 1
  have p2 : W2.cell? ⟨g1, 2, none⟩ = some (.string b) := HPr.out.p.cell 2
  have q2 : W2.cell? ⟨g2, 2, none⟩ = some (.string ⟨#[]⟩) := HPr.out.g.cell 2
  have p3 : W2.cell? ⟨g1, 3, none⟩ = some (.int .i64 n) := HPr.out.p.cell 3
  have q3 : W2.cell? ⟨g2, 3, none⟩ = some (.int .i64 0) := HPr.out.g.cell 3
  have p4 : W2.cell? ⟨g1, 4, none⟩ = some (.int .i64 m) := HPr.out.p.cell 4
  have q4 : W2.cell? ⟨g2, 4, none⟩ = some (.int .i64 0) := HPr.out.g.cell 4
  have p5 : W2.cell? ⟨g1, 5, none⟩ = some (.int .i64 j) := HPr.out.p.cell 5
  have q5 : W2.cell? ⟨g2, 5, none⟩ = some (.int .i64 0) := HPr.out.g.cell 5
  have z3 : W2.frozen? ⟨g2, 3, none⟩ = false := HPr.out.g.free 3
  have z4 : W2.frozen? ⟨g2, 4, none⟩ = false := HPr.out.g.free 4
  have z5 : W2.frozen? ⟨g2, 5, none⟩ = false := HPr.out.g.free 5
  go_region
  have P3 := Lib.hid (((HPr.out.drew.set 3 (.int .i64 n)).set 4 (.int .i64 m)).set 5 (.int .i64 j))
  cases e0 with
  | false =>
    go_wp2_with fail
    go_ret
    exact ⟨ret_bool (by rw [HV.out] <;> rfl), P3.out.below⟩
  | true =>
    go_wp2_with fail
    refine (H0.out _).mono ?_
    rintro e w4 ⟨rfl, rfl⟩
    clear H0
    cases r0 with
    | false =>
      go_wp2_with fail
      go_ret
      exact ⟨ret_bool (by rw [HV.out] <;> rfl), P3.out.below⟩
    | true =>
      go_wp2_with fail
      refine (H1.out _).mono ?_
      rintro e w5 ⟨rfl, rfl⟩
      clear H1
      cases r1 with
      | false =>
        go_wp2_with fail
        go_ret
        exact ⟨ret_bool (by rw [HV.out] <;> rfl), P3.out.below⟩
      | true =>
        go_wp2_with fail
        refine (H2.out _).mono ?_
        rintro e w6 ⟨rfl, rfl⟩
        clear H2
        cases r2 with
        | false =>
          go_wp2_with fail
          go_ret
          exact ⟨ret_bool (by rw [HV.out] <;> rfl), P3.out.below⟩
        | true =>
          go_wp2_with fail
          go_ret
          exact ⟨ret_bool (by rw [HV.out] <;> rfl), P3.out.below⟩
set_option maxHeartbeats 3200000 in
theorem filt4 (a b : ByteArray) (n m j : Int) (ha : a.size ≤ 1048576) (hb : b.size ≤ 1048576) (w : World) :
    Calls Tryz.prog 25 #[.agg (fcs 4 a b n m j)] w fun e w' => e = .returned (.bool (filtB ⟨4, toL a, toL b, n, m, j⟩)) ∧ Below w.heap.size w w' := by
  have H0 := Lib.hid (fun w => rname_any a ha w)
  have H1 := Lib.hid (fun w => rtext_any b hb w)
  obtain ⟨r0, hr0⟩ : ∃ r0, r0 = (nameB (toL a)) := ⟨_, rfl⟩
  rw [← hr0] at H0
  obtain ⟨r1, hr1⟩ : ∃ r1, r1 = (textB (toL b)) := ⟨_, rfl⟩
  rw [← hr1] at H1
  obtain ⟨r2, hr2⟩ : ∃ r2, r2 = (toL b != []) := ⟨_, rfl⟩
  have y1 : ((b.toList != []) : Bool) = r2 := by rw [hr2, ByteArray.toList_eq]
  have y2 : b.toList.isEmpty = !r2 := by rw [hr2, ByteArray.toList_eq]; show (toL b).isEmpty = _; cases toL b <;> rfl
  have y3 : (b.toList == []) = !r2 := by rw [hr2, ByteArray.toList_eq]; show (toL b == []) = _; cases toL b <;> rfl
  have heq := fun w => eqF 4 4 n 0 m 0 j 0 a a b b w
  obtain ⟨e0, he0⟩ : ∃ e0, e0 = ((n == 0) && (m == 0) && (j == 0)) := ⟨_, rfl⟩
  replace heq : ∀ w, (binOp .eql 49 (.agg #[.int .i64 4, .string a, .string b, .int .i64 n, .int .i64 m, .int .i64 j]) (.agg #[.int .i64 4, .string a, .string b, .int .i64 0, .int .i64 0, .int .i64 0])).run Tryz.prog w = .ok (.bool e0) w := fun w => by
    rw [heq w, he0]
    congr 2
    simp only [beq_self_eq_true, Bool.true_and, Bool.and_true, empt, self_, Bool.and_assoc]
  have HV : Hid (filtB ⟨4, toL a, toL b, n, m, j⟩ = (e0 && r0 && r1 && r2)) := Lib.hid (by
    rw [he0, hr0, hr1, hr2]
    unfold filtB
    dsimp only
    rw [if_neg (by decide), if_neg (by decide), if_neg (by decide), if_pos (by decide)]
    try simp [TOK, Bool.and_assoc])
  have HPr := Lib.hid (Pair.start w (fcs 4 a b n m j) (fcs 4 ⟨#[]⟩ ⟨#[]⟩ 0 0 0))
  clear he0 hr0 hr1 hr2 ha hb
  unfold fcs FT at HPr
  unfold fcs
  obtain ⟨g1, hg1⟩ : ∃ g1, g1 = w.heap.size := ⟨_, rfl⟩
  obtain ⟨g2, hg2⟩ : ∃ g2, g2 = w.heap.size + 1 := ⟨_, rfl⟩
  rw [← hg2, ← hg1] at HPr
  rw [← hg1]
  have HG1 := Lib.hid hg1
  have HG2 := Lib.hid hg2
  clear hg1 hg2
  go_enter Tryz.func25, Tryz.ntmps25
  go_wp2_with fail
  rw [← HG2.out, ← HG1.out]
  generalize (w.alloc (.cells #[.int .i64 4, .string a, .string b, .int .i64 n, .int .i64 m, .int .i64 j] 49)).alloc (.cells #[.int .i64 4, .string ⟨#[]⟩, .string ⟨#[]⟩, .int .i64 0, .int .i64 0, .int .i64 0] 49) = W2 at HPr ⊢
  have hne : g1 ≠ g2 := Nat.ne_of_lt HPr.out.lo
  have hne2 : g2 ≠ g1 := Ne.symm hne
  have p0 : W2.cell? ⟨g1, 0, none⟩ = some (.int .i64 4) := HPr.out.p.cell 0
  have q0 : W2.cell? ⟨g2, 0, none⟩ = some (.int .i64 4) := HPr.out.g.cell 0
  have p1 : W2.cell? ⟨g1, 1, none⟩ = some (.string a) := HPr.out.p.cell 1
  have q1 : W2.cell? ⟨g2, 1, none⟩ = some (.string ⟨#[]⟩) := HPr.out.g.cell 1
  have p2 : W2.cell? ⟨g1, 2, none⟩ = some (.string b) := HPr.out.p.cell 2
  have q2 : W2.cell? ⟨g2, 2, none⟩ = some (.string ⟨#[]⟩) := HPr.out.g.cell 2
  have p3 : W2.cell? ⟨g1, 3, none⟩ = some (.int .i64 n) := HPr.out.p.cell 3
  have q3 : W2.cell? ⟨g2, 3, none⟩ = some (.int .i64 0) := HPr.out.g.cell 3
  have p4 : W2.cell? ⟨g1, 4, none⟩ = some (.int .i64 m) := HPr.out.p.cell 4
  have q4 : W2.cell? ⟨g2, 4, none⟩ = some (.int .i64 0) := HPr.out.g.cell 4
  have p5 : W2.cell? ⟨g1, 5, none⟩ = some (.int .i64 j) := HPr.out.p.cell 5
  have q5 : W2.cell? ⟨g2, 5, none⟩ = some (.int .i64 0) := HPr.out.g.cell 5
  have z1 : W2.frozen? ⟨g2, 1, none⟩ = false := HPr.out.g.free 1
  have z2 : W2.frozen? ⟨g2, 2, none⟩ = false := HPr.out.g.free 2
  go_region
  have P3 := Lib.hid ((HPr.out.drew.set 1 (.string a)).set 2 (.string b))
  cases e0 with
  | false =>
    go_wp2_with fail
    go_ret
    exact ⟨ret_bool (by rw [HV.out] <;> rfl), P3.out.below⟩
  | true =>
    go_wp2_with fail
    refine (H0.out _).mono ?_
    rintro e w4 ⟨rfl, hb0⟩
    have P4 := Lib.hid (P3.out.call hb0)
    clear hb0 H0 P3
    have k1 : w4.cell? ⟨g1, 1, none⟩ = some (.string a) := P4.out.p.cell 1
    have k2 : w4.cell? ⟨g1, 2, none⟩ = some (.string b) := P4.out.p.cell 2
    cases r0 with
    | false =>
      go_wp2_with fail
      go_ret
      exact ⟨ret_bool (by rw [HV.out] <;> rfl), P4.out.below⟩
    | true =>
      go_wp2_with fail
      refine (H1.out _).mono ?_
      rintro e w5 ⟨rfl, rfl⟩
      clear H1
      cases r1 with
      | false =>
        go_wp2_with fail
        go_ret
        exact ⟨ret_bool (by rw [HV.out] <;> rfl), P4.out.below⟩
      | true =>
        cases r2 with
        | false =>
          go_wp2_with fail
          go_ret
          exact ⟨ret_bool (by rw [HV.out] <;> rfl), P4.out.below⟩
        | true =>
          go_wp2_with fail
          go_ret
          exact ⟨ret_bool (by rw [HV.out] <;> rfl), P4.out.below⟩
set_option maxHeartbeats 3200000 in
theorem filt5 (a b : ByteArray) (n m j : Int) (ha : a.size ≤ 1048576) (hb : b.size ≤ 1048576) (w : World) :
    Calls Tryz.prog 25 #[.agg (fcs 5 a b n m j)] w fun e w' => e = .returned (.bool (filtB ⟨5, toL a, toL b, n, m, j⟩)) ∧ Below w.heap.size w w' := by
  have H0 := Lib.hid (fun w => rtext_any b hb w)
  obtain ⟨r0, hr0⟩ : ∃ r0, r0 = (textB (toL b)) := ⟨_, rfl⟩
  rw [← hr0] at H0
  obtain ⟨r1, hr1⟩ : ∃ r1, r1 = (toL b != []) := ⟨_, rfl⟩
  have y1 : ((b.toList != []) : Bool) = r1 := by rw [hr1, ByteArray.toList_eq]
  have y2 : b.toList.isEmpty = !r1 := by rw [hr1, ByteArray.toList_eq]; show (toL b).isEmpty = _; cases toL b <;> rfl
  have y3 : (b.toList == []) = !r1 := by rw [hr1, ByteArray.toList_eq]; show (toL b == []) = _; cases toL b <;> rfl
  have heq := fun w => eqF 5 5 n 0 m 0 j 0 a ⟨#[]⟩ b b w
  obtain ⟨e0, he0⟩ : ∃ e0, e0 = ((toL a == []) && (n == 0) && (m == 0) && (j == 0)) := ⟨_, rfl⟩
  replace heq : ∀ w, (binOp .eql 49 (.agg #[.int .i64 5, .string a, .string b, .int .i64 n, .int .i64 m, .int .i64 j]) (.agg #[.int .i64 5, .string ⟨#[]⟩, .string b, .int .i64 0, .int .i64 0, .int .i64 0])).run Tryz.prog w = .ok (.bool e0) w := fun w => by
    rw [heq w, he0]
    congr 2
    simp only [beq_self_eq_true, Bool.true_and, Bool.and_true, empt, self_, Bool.and_assoc]
  have HV : Hid (filtB ⟨5, toL a, toL b, n, m, j⟩ = (e0 && r0 && r1)) := Lib.hid (by
    rw [he0, hr0, hr1]
    unfold filtB
    dsimp only
    rw [if_neg (by decide), if_neg (by decide), if_neg (by decide), if_neg (by decide), if_pos (by decide)]
    try simp [TOK, Bool.and_assoc])
  have HPr := Lib.hid (Pair.start w (fcs 5 a b n m j) (fcs 5 ⟨#[]⟩ ⟨#[]⟩ 0 0 0))
  clear he0 hr0 hr1 ha hb
  unfold fcs FT at HPr
  unfold fcs
  go_enter Tryz.func25, Tryz.ntmps25
  have P3 := Lib.hid (Pair.start w (fcs 5 a b n m j) (fcs 5 ⟨#[]⟩ b 0 0 0))
  unfold fcs FT at P3
  clear HPr
  cases e0 with
  | false =>
    go_wp2_with fail
    go_ret
    exact ⟨ret_bool (by rw [HV.out] <;> rfl), P3.out.below⟩
  | true =>
    go_wp2_with fail
    refine (H0.out _).mono ?_
    rintro e w4 ⟨rfl, rfl⟩
    clear H0
    cases r0 with
    | false =>
      go_wp2_with fail
      go_ret
      exact ⟨ret_bool (by rw [HV.out] <;> rfl), P3.out.below⟩
    | true =>
      cases r1 with
      | false =>
        go_wp2_with fail
        go_ret
        exact ⟨ret_bool (by rw [HV.out] <;> rfl), P3.out.below⟩
      | true =>
        go_wp2_with fail
        go_ret
        exact ⟨ret_bool (by rw [HV.out] <;> rfl), P3.out.below⟩
set_option maxHeartbeats 3200000 in
theorem filt6 (a b : ByteArray) (n m j : Int) (ha : a.size ≤ 1048576) (hb : b.size ≤ 1048576) (w : World) :
    Calls Tryz.prog 25 #[.agg (fcs 6 a b n m j)] w fun e w' => e = .returned (.bool (filtB ⟨6, toL a, toL b, n, m, j⟩)) ∧ Below w.heap.size w w' := by
  have H0 := Lib.hid (fun w => rin_any n 0 65536 w)
  obtain ⟨r0, hr0⟩ : ∃ r0, r0 = (inB n 0 65536) := ⟨_, rfl⟩
  rw [← hr0] at H0
  have heq := fun w => eqF 6 6 n n m 0 j 0 a ⟨#[]⟩ b ⟨#[]⟩ w
  obtain ⟨e0, he0⟩ : ∃ e0, e0 = ((toL a == []) && (toL b == []) && (m == 0) && (j == 0)) := ⟨_, rfl⟩
  replace heq : ∀ w, (binOp .eql 49 (.agg #[.int .i64 6, .string a, .string b, .int .i64 n, .int .i64 m, .int .i64 j]) (.agg #[.int .i64 6, .string ⟨#[]⟩, .string ⟨#[]⟩, .int .i64 n, .int .i64 0, .int .i64 0])).run Tryz.prog w = .ok (.bool e0) w := fun w => by
    rw [heq w, he0]
    congr 2
    simp only [beq_self_eq_true, Bool.true_and, Bool.and_true, empt, self_, Bool.and_assoc]
  have HV : Hid (filtB ⟨6, toL a, toL b, n, m, j⟩ = (e0 && r0)) := Lib.hid (by
    rw [he0, hr0]
    unfold filtB
    dsimp only
    rw [if_neg (by decide), if_neg (by decide), if_neg (by decide), if_neg (by decide), if_neg (by decide), if_pos (by decide)]
    try simp [TOK, Bool.and_assoc])
  have HPr := Lib.hid (Pair.start w (fcs 6 a b n m j) (fcs 6 ⟨#[]⟩ ⟨#[]⟩ 0 0 0))
  clear he0 hr0 ha hb
  unfold fcs FT at HPr
  unfold fcs
  go_enter Tryz.func25, Tryz.ntmps25
  have P3 := Lib.hid (Pair.start w (fcs 6 a b n m j) (fcs 6 ⟨#[]⟩ ⟨#[]⟩ n 0 0))
  unfold fcs FT at P3
  clear HPr
  cases e0 with
  | false =>
    go_wp2_with fail
    go_ret
    exact ⟨ret_bool (by rw [HV.out] <;> rfl), P3.out.below⟩
  | true =>
    go_wp2_with fail
    refine (H0.out _).mono ?_
    rintro e w4 ⟨rfl, rfl⟩
    clear H0
    cases r0 with
    | false =>
      go_wp2_with fail
      go_ret
      exact ⟨ret_bool (by rw [HV.out] <;> rfl), P3.out.below⟩
    | true =>
      go_wp2_with fail
      go_ret
      exact ⟨ret_bool (by rw [HV.out] <;> rfl), P3.out.below⟩
set_option maxHeartbeats 3200000 in
theorem filt7 (a b : ByteArray) (n m j : Int) (ha : a.size ≤ 1048576) (hb : b.size ≤ 1048576) (w : World) :
    Calls Tryz.prog 25 #[.agg (fcs 7 a b n m j)] w fun e w' => e = .returned (.bool (filtB ⟨7, toL a, toL b, n, m, j⟩)) ∧ Below w.heap.size w w' := by
  have H0 := Lib.hid (fun w => rin_any n 0 100 w)
  have H1 := Lib.hid (fun w => rin_any m 400 599 w)
  obtain ⟨r0, hr0⟩ : ∃ r0, r0 = (inB n 0 100) := ⟨_, rfl⟩
  rw [← hr0] at H0
  obtain ⟨r1, hr1⟩ : ∃ r1, r1 = (inB m 400 599) := ⟨_, rfl⟩
  rw [← hr1] at H1
  have heq := fun w => eqF 7 7 n n m m j 0 a ⟨#[]⟩ b ⟨#[]⟩ w
  obtain ⟨e0, he0⟩ : ∃ e0, e0 = ((toL a == []) && (toL b == []) && (j == 0)) := ⟨_, rfl⟩
  replace heq : ∀ w, (binOp .eql 49 (.agg #[.int .i64 7, .string a, .string b, .int .i64 n, .int .i64 m, .int .i64 j]) (.agg #[.int .i64 7, .string ⟨#[]⟩, .string ⟨#[]⟩, .int .i64 n, .int .i64 m, .int .i64 0])).run Tryz.prog w = .ok (.bool e0) w := fun w => by
    rw [heq w, he0]
    congr 2
    simp only [beq_self_eq_true, Bool.true_and, Bool.and_true, empt, self_, Bool.and_assoc]
  have HV : Hid (filtB ⟨7, toL a, toL b, n, m, j⟩ = (e0 && r0 && r1)) := Lib.hid (by
    rw [he0, hr0, hr1]
    unfold filtB
    dsimp only
    rw [if_neg (by decide), if_neg (by decide), if_neg (by decide), if_neg (by decide), if_neg (by decide), if_neg (by decide), if_pos (by decide)]
    try simp [TOK, Bool.and_assoc])
  have HPr := Lib.hid (Pair.start w (fcs 7 a b n m j) (fcs 7 ⟨#[]⟩ ⟨#[]⟩ 0 0 0))
  clear he0 hr0 hr1 ha hb
  unfold fcs FT at HPr
  unfold fcs
  obtain ⟨g1, hg1⟩ : ∃ g1, g1 = w.heap.size := ⟨_, rfl⟩
  obtain ⟨g2, hg2⟩ : ∃ g2, g2 = w.heap.size + 1 := ⟨_, rfl⟩
  rw [← hg2, ← hg1] at HPr
  rw [← hg1]
  have HG1 := Lib.hid hg1
  have HG2 := Lib.hid hg2
  clear hg1 hg2
  go_enter Tryz.func25, Tryz.ntmps25
  go_wp2_with fail
  rw [← HG2.out, ← HG1.out]
  generalize (w.alloc (.cells #[.int .i64 7, .string a, .string b, .int .i64 n, .int .i64 m, .int .i64 j] 49)).alloc (.cells #[.int .i64 7, .string ⟨#[]⟩, .string ⟨#[]⟩, .int .i64 0, .int .i64 0, .int .i64 0] 49) = W2 at HPr ⊢
  have hne : g1 ≠ g2 := Nat.ne_of_lt HPr.out.lo
  have hne2 : g2 ≠ g1 := Ne.symm hne
  have p0 : W2.cell? ⟨g1, 0, none⟩ = some (.int .i64 7) := HPr.out.p.cell 0
  have q0 : W2.cell? ⟨g2, 0, none⟩ = some (.int .i64 7) := HPr.out.g.cell 0
  have p1 : W2.cell? ⟨g1, 1, none⟩ = some (.string a) := HPr.out.p.cell 1
  have q1 : W2.cell? ⟨g2, 1, none⟩ = some (.string ⟨#[]⟩) := HPr.out.g.cell 1
  have p2 : W2.cell? ⟨g1, 2, none⟩ = some (.string b) := HPr.out.p.cell 2
  have q2 : W2.cell? ⟨g2, 2, none⟩ = some (.string ⟨#[]⟩) := HPr.out.g.cell 2
  have p3 : W2.cell? ⟨g1, 3, none⟩ = some (.int .i64 n) := HPr.out.p.cell 3
  have q3 : W2.cell? ⟨g2, 3, none⟩ = some (.int .i64 0) := HPr.out.g.cell 3
  have p4 : W2.cell? ⟨g1, 4, none⟩ = some (.int .i64 m) := HPr.out.p.cell 4
  have q4 : W2.cell? ⟨g2, 4, none⟩ = some (.int .i64 0) := HPr.out.g.cell 4
  have p5 : W2.cell? ⟨g1, 5, none⟩ = some (.int .i64 j) := HPr.out.p.cell 5
  have q5 : W2.cell? ⟨g2, 5, none⟩ = some (.int .i64 0) := HPr.out.g.cell 5
  have z3 : W2.frozen? ⟨g2, 3, none⟩ = false := HPr.out.g.free 3
  have z4 : W2.frozen? ⟨g2, 4, none⟩ = false := HPr.out.g.free 4
  go_region
  have P3 := Lib.hid ((HPr.out.drew.set 3 (.int .i64 n)).set 4 (.int .i64 m))
  cases e0 with
  | false =>
    go_wp2_with fail
    go_ret
    exact ⟨ret_bool (by rw [HV.out] <;> rfl), P3.out.below⟩
  | true =>
    go_wp2_with fail
    refine (H0.out _).mono ?_
    rintro e w4 ⟨rfl, rfl⟩
    clear H0
    cases r0 with
    | false =>
      go_wp2_with fail
      go_ret
      exact ⟨ret_bool (by rw [HV.out] <;> rfl), P3.out.below⟩
    | true =>
      go_wp2_with fail
      refine (H1.out _).mono ?_
      rintro e w5 ⟨rfl, rfl⟩
      clear H1
      cases r1 with
      | false =>
        go_wp2_with fail
        go_ret
        exact ⟨ret_bool (by rw [HV.out] <;> rfl), P3.out.below⟩
      | true =>
        go_wp2_with fail
        go_ret
        exact ⟨ret_bool (by rw [HV.out] <;> rfl), P3.out.below⟩
set_option maxHeartbeats 3200000 in
theorem filt8 (a b : ByteArray) (n m j : Int) (ha : a.size ≤ 1048576) (hb : b.size ≤ 1048576) (w : World) :
    Calls Tryz.prog 25 #[.agg (fcs 8 a b n m j)] w fun e w' => e = .returned (.bool (filtB ⟨8, toL a, toL b, n, m, j⟩)) ∧ Below w.heap.size w w' := by
  have H0 := Lib.hid (fun w => rname_any a ha w)
  have H1 := Lib.hid (fun w => rtext_any b hb w)
  obtain ⟨r0, hr0⟩ : ∃ r0, r0 = (nameB (toL a)) := ⟨_, rfl⟩
  rw [← hr0] at H0
  obtain ⟨r1, hr1⟩ : ∃ r1, r1 = (textB (toL b)) := ⟨_, rfl⟩
  rw [← hr1] at H1
  have heq := fun w => eqF 8 8 n 0 m 0 j 0 a a b b w
  obtain ⟨e0, he0⟩ : ∃ e0, e0 = ((n == 0) && (m == 0) && (j == 0)) := ⟨_, rfl⟩
  replace heq : ∀ w, (binOp .eql 49 (.agg #[.int .i64 8, .string a, .string b, .int .i64 n, .int .i64 m, .int .i64 j]) (.agg #[.int .i64 8, .string a, .string b, .int .i64 0, .int .i64 0, .int .i64 0])).run Tryz.prog w = .ok (.bool e0) w := fun w => by
    rw [heq w, he0]
    congr 2
    simp only [beq_self_eq_true, Bool.true_and, Bool.and_true, empt, self_, Bool.and_assoc]
  have HV : Hid (filtB ⟨8, toL a, toL b, n, m, j⟩ = (e0 && r0 && r1)) := Lib.hid (by
    rw [he0, hr0, hr1]
    unfold filtB
    dsimp only
    rw [if_pos (by decide)]
    try simp [TOK, Bool.and_assoc])
  have HPr := Lib.hid (Pair.start w (fcs 8 a b n m j) (fcs 8 ⟨#[]⟩ ⟨#[]⟩ 0 0 0))
  clear he0 hr0 hr1 ha hb
  unfold fcs FT at HPr
  unfold fcs
  obtain ⟨g1, hg1⟩ : ∃ g1, g1 = w.heap.size := ⟨_, rfl⟩
  obtain ⟨g2, hg2⟩ : ∃ g2, g2 = w.heap.size + 1 := ⟨_, rfl⟩
  rw [← hg2, ← hg1] at HPr
  rw [← hg1]
  have HG1 := Lib.hid hg1
  have HG2 := Lib.hid hg2
  clear hg1 hg2
  go_enter Tryz.func25, Tryz.ntmps25
  go_wp2_with fail
  rw [← HG2.out, ← HG1.out]
  generalize (w.alloc (.cells #[.int .i64 8, .string a, .string b, .int .i64 n, .int .i64 m, .int .i64 j] 49)).alloc (.cells #[.int .i64 8, .string ⟨#[]⟩, .string ⟨#[]⟩, .int .i64 0, .int .i64 0, .int .i64 0] 49) = W2 at HPr ⊢
  have hne : g1 ≠ g2 := Nat.ne_of_lt HPr.out.lo
  have hne2 : g2 ≠ g1 := Ne.symm hne
  have p0 : W2.cell? ⟨g1, 0, none⟩ = some (.int .i64 8) := HPr.out.p.cell 0
  have q0 : W2.cell? ⟨g2, 0, none⟩ = some (.int .i64 8) := HPr.out.g.cell 0
  have p1 : W2.cell? ⟨g1, 1, none⟩ = some (.string a) := HPr.out.p.cell 1
  have q1 : W2.cell? ⟨g2, 1, none⟩ = some (.string ⟨#[]⟩) := HPr.out.g.cell 1
  have p2 : W2.cell? ⟨g1, 2, none⟩ = some (.string b) := HPr.out.p.cell 2
  have q2 : W2.cell? ⟨g2, 2, none⟩ = some (.string ⟨#[]⟩) := HPr.out.g.cell 2
  have p3 : W2.cell? ⟨g1, 3, none⟩ = some (.int .i64 n) := HPr.out.p.cell 3
  have q3 : W2.cell? ⟨g2, 3, none⟩ = some (.int .i64 0) := HPr.out.g.cell 3
  have p4 : W2.cell? ⟨g1, 4, none⟩ = some (.int .i64 m) := HPr.out.p.cell 4
  have q4 : W2.cell? ⟨g2, 4, none⟩ = some (.int .i64 0) := HPr.out.g.cell 4
  have p5 : W2.cell? ⟨g1, 5, none⟩ = some (.int .i64 j) := HPr.out.p.cell 5
  have q5 : W2.cell? ⟨g2, 5, none⟩ = some (.int .i64 0) := HPr.out.g.cell 5
  have z1 : W2.frozen? ⟨g2, 1, none⟩ = false := HPr.out.g.free 1
  have z2 : W2.frozen? ⟨g2, 2, none⟩ = false := HPr.out.g.free 2
  go_region
  have P3 := Lib.hid ((HPr.out.drew.set 1 (.string a)).set 2 (.string b))
  cases e0 with
  | false =>
    go_wp2_with fail
    go_ret
    exact ⟨ret_bool (by rw [HV.out] <;> rfl), P3.out.below⟩
  | true =>
    go_wp2_with fail
    refine (H0.out _).mono ?_
    rintro e w4 ⟨rfl, hb0⟩
    have P4 := Lib.hid (P3.out.call hb0)
    clear hb0 H0 P3
    have k1 : w4.cell? ⟨g1, 1, none⟩ = some (.string a) := P4.out.p.cell 1
    have k2 : w4.cell? ⟨g1, 2, none⟩ = some (.string b) := P4.out.p.cell 2
    cases r0 with
    | false =>
      go_wp2_with fail
      go_ret
      exact ⟨ret_bool (by rw [HV.out] <;> rfl), P4.out.below⟩
    | true =>
      go_wp2_with fail
      refine (H1.out _).mono ?_
      rintro e w5 ⟨rfl, rfl⟩
      clear H1
      cases r1 with
      | false =>
        go_wp2_with fail
        go_ret
        exact ⟨ret_bool (by rw [HV.out] <;> rfl), P4.out.below⟩
      | true =>
        go_wp2_with fail
        go_ret
        exact ⟨ret_bool (by rw [HV.out] <;> rfl), P4.out.below⟩
set_option maxHeartbeats 3200000 in
theorem filtOther (kd : Int) (a b : ByteArray) (n m j : Int) (h : ¬ (1 ≤ kd ∧ kd ≤ 8)) (w : World) :
    Calls Tryz.prog 25 #[.agg (fcs kd a b n m j)] w fun e w' => e = .returned (.bool (filtB ⟨kd, toL a, toL b, n, m, j⟩)) ∧ Below w.heap.size w w' := by
  have HV : Hid (filtB ⟨kd, toL a, toL b, n, m, j⟩ = false) := Lib.hid (by
    unfold filtB
    dsimp only
    rw [if_neg (by omega), if_neg (by omega), if_neg (by omega), if_neg (by omega), if_neg (by omega), if_neg (by omega), if_neg (by omega)])
  have i1 : (kd == 1) = false := beq_false_of_ne (by omega)
  have i2 : (kd == 2) = false := beq_false_of_ne (by omega)
  have i3 : (kd == 3) = false := beq_false_of_ne (by omega)
  have i4 : (kd == 4) = false := beq_false_of_ne (by omega)
  have i5 : (kd == 5) = false := beq_false_of_ne (by omega)
  have i6 : (kd == 6) = false := beq_false_of_ne (by omega)
  have i7 : (kd == 7) = false := beq_false_of_ne (by omega)
  have i8 : (kd == 8) = false := beq_false_of_ne (by omega)
  have P3 := Lib.hid (Pair.start w (fcs kd a b n m j) (fcs kd ⟨#[]⟩ ⟨#[]⟩ 0 0 0))
  clear h
  unfold fcs FT at P3
  unfold fcs
  go_enter Tryz.func25, Tryz.ntmps25
  go_wp2_with fail
  go_ret
  exact ⟨ret_bool HV.out.symm, P3.out.below⟩
theorem rfilter_any (x : Filt) (hx : FitFilt x) (w : World) :
    Calls Tryz.prog 25 #[.agg (fcs x.kind (ofL x.name) (ofL x.value) x.n x.m x.k)] w fun e w' => e = .returned (.bool (filtB x)) ∧ Below w.heap.size w w' := by
  obtain ⟨kd, a, b, n, m, j⟩ := x
  have ha : (ofL a).size ≤ 1048576 := by rw [ofL_size]; exact hx.name
  have hb : (ofL b).size ≤ 1048576 := by rw [ofL_size]; exact hx.value
  clear hx
  have key : Calls Tryz.prog 25 #[.agg (fcs kd (ofL a) (ofL b) n m j)] w fun e w' => e = .returned (.bool (filtB ⟨kd, toL (ofL a), toL (ofL b), n, m, j⟩)) ∧ Below w.heap.size w w' := by
    by_cases h : 1 ≤ kd ∧ kd ≤ 8
    · have h2 : kd = 1 ∨ kd = 2 ∨ kd = 3 ∨ kd = 4 ∨ kd = 5 ∨ kd = 6 ∨ kd = 7 ∨ kd = 8 := by omega
      rcases h2 with rfl | rfl | rfl | rfl | rfl | rfl | rfl | rfl
      · exact filt1 _ _ n m j ha hb w
      · exact filt2 _ _ n m j ha hb w
      · exact filt3 _ _ n m j ha hb w
      · exact filt4 _ _ n m j ha hb w
      · exact filt5 _ _ n m j ha hb w
      · exact filt6 _ _ n m j ha hb w
      · exact filt7 _ _ n m j ha hb w
      · exact filt8 _ _ n m j ha hb w
    · exact filtOther kd _ _ n m j h w
  rw [toL_ofL, toL_ofL] at key
  exact key
end Go.Proofs.YtfihehobkbfmiaaGreatDoor.R14Filt

/- Layer 14 of the program: rightFilter. -/
namespace Go.Proofs.YtfihehobkbfmiaaGreatDoor.PCfgF
open Go.ChangeShapes Go.WideShapes Go.ChangeAt Go.RowKit Bytes LexPure ConfPure ConfMem Ret Mem R14Eq R14Filt PCfgBox PCfgT
set_option maxRecDepth 100000
set_option linter.unusedVariables false
set_option linter.unusedSimpArgs false
set_option maxHeartbeats 3200000 in
theorem pfilt1 (a b : ByteArray) (n m j : Int) (ha : a.size ≤ 1048576) (hb : b.size ≤ 1048576) (w : World) :
    Calls Tryz.prog 21 #[.agg (fcs 1 a b n m j)] w fun e w' => e = .returned (.bool (filtB ⟨1, toL a, toL b, n, m, j⟩)) ∧ Below w.heap.size w w' := by
  have H0 := Lib.hid (fun w => pname_any a ha w)
  have H1 := Lib.hid (fun w => ptext_any b hb w)
  obtain ⟨r0, hr0⟩ : ∃ r0, r0 = (nameB (toL a)) := ⟨_, rfl⟩
  rw [← hr0] at H0
  obtain ⟨r1, hr1⟩ : ∃ r1, r1 = (textB (toL b)) := ⟨_, rfl⟩
  rw [← hr1] at H1
  have heq := fun w => eqF 1 1 n 0 m 0 j 0 a a b b w
  obtain ⟨e0, he0⟩ : ∃ e0, e0 = ((n == 0) && (m == 0) && (j == 0)) := ⟨_, rfl⟩
  replace heq : ∀ w, (binOp .eql 49 (.agg #[.int .i64 1, .string a, .string b, .int .i64 n, .int .i64 m, .int .i64 j]) (.agg #[.int .i64 1, .string a, .string b, .int .i64 0, .int .i64 0, .int .i64 0])).run Tryz.prog w = .ok (.bool e0) w := fun w => by
    rw [heq w, he0]
    congr 2
    simp only [beq_self_eq_true, Bool.true_and, Bool.and_true, empt, self_, Bool.and_assoc]
  have HV : Hid (filtB ⟨1, toL a, toL b, n, m, j⟩ = (e0 && r0 && r1)) := Lib.hid (by
    rw [he0, hr0, hr1]
    unfold filtB
    dsimp only
    rw [if_pos (by decide)]
    try simp [TOK, Bool.and_assoc])
  have K0 := Lib.hid (Ob.start w FT #[.int .i64 1, .string a, .string b, .int .i64 n, .int .i64 m, .int .i64 j])
  clear he0 hr0 hr1 ha hb
  unfold FT at K0
  unfold fcs
  go_enter Tryz.func21, Tryz.ntmps21
  cases e0 with
  | false =>
    go_wp2_with fail
    go_ret
    exact ⟨ret_bool (by rw [HV.out]; simp), K0.out.below⟩
  | true =>
  go_wp2_with fail
  refine (H0.out _).mono ?_
  rintro e v1 ⟨rfl, hb⟩
  have K1 := Lib.hid (K0.out.call hb)
  clear hb H0
  clear K0
  have m1_1 : v1.cell? ⟨w.heap.size, 1, none⟩ = some (.string a) := K1.out.box.cell 1
  have m1_2 : v1.cell? ⟨w.heap.size, 2, none⟩ = some (.string b) := K1.out.box.cell 2
  have m1_3 : v1.cell? ⟨w.heap.size, 3, none⟩ = some (.int .i64 n) := K1.out.box.cell 3
  have m1_4 : v1.cell? ⟨w.heap.size, 4, none⟩ = some (.int .i64 m) := K1.out.box.cell 4
  have m1_5 : v1.cell? ⟨w.heap.size, 5, none⟩ = some (.int .i64 j) := K1.out.box.cell 5
  cases r0 with
  | false =>
    go_wp2_with fail
    go_ret
    exact ⟨ret_bool (by rw [HV.out]; simp), K1.out.below⟩
  | true =>
  go_wp2_with fail
  refine (H1.out _).mono ?_
  rintro e v2 ⟨rfl, hb⟩
  have K2 := Lib.hid (K1.out.call hb)
  clear m1_1 m1_2 m1_3 m1_4 m1_5
  clear hb H1
  clear K1
  have m2_1 : v2.cell? ⟨w.heap.size, 1, none⟩ = some (.string a) := K2.out.box.cell 1
  have m2_2 : v2.cell? ⟨w.heap.size, 2, none⟩ = some (.string b) := K2.out.box.cell 2
  have m2_3 : v2.cell? ⟨w.heap.size, 3, none⟩ = some (.int .i64 n) := K2.out.box.cell 3
  have m2_4 : v2.cell? ⟨w.heap.size, 4, none⟩ = some (.int .i64 m) := K2.out.box.cell 4
  have m2_5 : v2.cell? ⟨w.heap.size, 5, none⟩ = some (.int .i64 j) := K2.out.box.cell 5
  cases r1 with
  | false =>
    go_wp2_with fail
    go_ret
    exact ⟨ret_bool (by rw [HV.out]; simp), K2.out.below⟩
  | true =>
  go_wp2_with fail
  go_ret
  exact ⟨ret_bool (by rw [HV.out]; simp), K2.out.below⟩
set_option maxHeartbeats 3200000 in
theorem pfilt2 (a b : ByteArray) (n m j : Int) (ha : a.size ≤ 1048576) (hb : b.size ≤ 1048576) (w : World) :
    Calls Tryz.prog 21 #[.agg (fcs 2 a b n m j)] w fun e w' => e = .returned (.bool (filtB ⟨2, toL a, toL b, n, m, j⟩)) ∧ Below w.heap.size w w' := by
  have H0 := Lib.hid (fun w => pname_any a ha w)
  obtain ⟨r0, hr0⟩ : ∃ r0, r0 = (nameB (toL a)) := ⟨_, rfl⟩
  rw [← hr0] at H0
  have heq := fun w => eqF 2 2 n 0 m 0 j 0 a a b ⟨#[]⟩ w
  obtain ⟨e0, he0⟩ : ∃ e0, e0 = ((toL b == []) && (n == 0) && (m == 0) && (j == 0)) := ⟨_, rfl⟩
  replace heq : ∀ w, (binOp .eql 49 (.agg #[.int .i64 2, .string a, .string b, .int .i64 n, .int .i64 m, .int .i64 j]) (.agg #[.int .i64 2, .string a, .string ⟨#[]⟩, .int .i64 0, .int .i64 0, .int .i64 0])).run Tryz.prog w = .ok (.bool e0) w := fun w => by
    rw [heq w, he0]
    congr 2
    simp only [beq_self_eq_true, Bool.true_and, Bool.and_true, empt, self_, Bool.and_assoc]
  have HV : Hid (filtB ⟨2, toL a, toL b, n, m, j⟩ = (e0 && r0)) := Lib.hid (by
    rw [he0, hr0]
    unfold filtB
    dsimp only
    rw [if_neg (by decide), if_pos (by decide)]
    try simp [TOK, Bool.and_assoc])
  have K0 := Lib.hid (Ob.start w FT #[.int .i64 2, .string a, .string b, .int .i64 n, .int .i64 m, .int .i64 j])
  clear he0 hr0 ha hb
  unfold FT at K0
  unfold fcs
  go_enter Tryz.func21, Tryz.ntmps21
  cases e0 with
  | false =>
    go_wp2_with fail
    go_ret
    exact ⟨ret_bool (by rw [HV.out]; simp), K0.out.below⟩
  | true =>
  go_wp2_with fail
  refine (H0.out _).mono ?_
  rintro e v1 ⟨rfl, hb⟩
  have K1 := Lib.hid (K0.out.call hb)
  clear hb H0
  clear K0
  have m1_1 : v1.cell? ⟨w.heap.size, 1, none⟩ = some (.string a) := K1.out.box.cell 1
  have m1_2 : v1.cell? ⟨w.heap.size, 2, none⟩ = some (.string b) := K1.out.box.cell 2
  have m1_3 : v1.cell? ⟨w.heap.size, 3, none⟩ = some (.int .i64 n) := K1.out.box.cell 3
  have m1_4 : v1.cell? ⟨w.heap.size, 4, none⟩ = some (.int .i64 m) := K1.out.box.cell 4
  have m1_5 : v1.cell? ⟨w.heap.size, 5, none⟩ = some (.int .i64 j) := K1.out.box.cell 5
  cases r0 with
  | false =>
    go_wp2_with fail
    go_ret
    exact ⟨ret_bool (by rw [HV.out]; simp), K1.out.below⟩
  | true =>
  go_wp2_with fail
  go_ret
  exact ⟨ret_bool (by rw [HV.out]; simp), K1.out.below⟩
set_option maxHeartbeats 3200000 in
theorem pfilt3 (a b : ByteArray) (n m j : Int) (ha : a.size ≤ 1048576) (hb : b.size ≤ 1048576) (w : World) :
    Calls Tryz.prog 21 #[.agg (fcs 3 a b n m j)] w fun e w' => e = .returned (.bool (filtB ⟨3, toL a, toL b, n, m, j⟩)) ∧ Below w.heap.size w w' := by
  have H0 := Lib.hid (fun w => prate_any n w)
  have H1 := Lib.hid (fun w => prate_any m w)
  have H2 := Lib.hid (fun w => prate_any j w)
  obtain ⟨r0, hr0⟩ : ∃ r0, r0 = (inB n 1 1073741824) := ⟨_, rfl⟩
  rw [← hr0] at H0
  obtain ⟨r1, hr1⟩ : ∃ r1, r1 = (inB m 1 1073741824) := ⟨_, rfl⟩
  rw [← hr1] at H1
  obtain ⟨r2, hr2⟩ : ∃ r2, r2 = (inB j 1 1073741824) := ⟨_, rfl⟩
  rw [← hr2] at H2
  have heq := fun w => eqF 3 3 n n m m j j a ⟨#[]⟩ b ⟨#[]⟩ w
  obtain ⟨e0, he0⟩ : ∃ e0, e0 = ((toL a == []) && (toL b == [])) := ⟨_, rfl⟩
  replace heq : ∀ w, (binOp .eql 49 (.agg #[.int .i64 3, .string a, .string b, .int .i64 n, .int .i64 m, .int .i64 j]) (.agg #[.int .i64 3, .string ⟨#[]⟩, .string ⟨#[]⟩, .int .i64 n, .int .i64 m, .int .i64 j])).run Tryz.prog w = .ok (.bool e0) w := fun w => by
    rw [heq w, he0]
    congr 2
    simp only [beq_self_eq_true, Bool.true_and, Bool.and_true, empt, self_, Bool.and_assoc]
  have HV : Hid (filtB ⟨3, toL a, toL b, n, m, j⟩ = (e0 && r0 && r1 && r2)) := Lib.hid (by
    rw [he0, hr0, hr1, hr2]
    unfold filtB
    dsimp only
    rw [if_neg (by decide), if_neg (by decide), if_pos (by decide)]
    try simp [TOK, Bool.and_assoc])
  have K0 := Lib.hid (Ob.start w FT #[.int .i64 3, .string a, .string b, .int .i64 n, .int .i64 m, .int .i64 j])
  clear he0 hr0 hr1 hr2 ha hb
  unfold FT at K0
  unfold fcs
  go_enter Tryz.func21, Tryz.ntmps21
  cases e0 with
  | false =>
    go_wp2_with fail
    go_ret
    exact ⟨ret_bool (by rw [HV.out]; simp), K0.out.below⟩
  | true =>
  go_wp2_with fail
  refine (H0.out _).mono ?_
  rintro e v1 ⟨rfl, rfl⟩
  clear H0
  cases r0 with
  | false =>
    go_wp2_with fail
    go_ret
    exact ⟨ret_bool (by rw [HV.out]; simp), K0.out.below⟩
  | true =>
  go_wp2_with fail
  refine (H1.out _).mono ?_
  rintro e v2 ⟨rfl, rfl⟩
  clear H1
  cases r1 with
  | false =>
    go_wp2_with fail
    go_ret
    exact ⟨ret_bool (by rw [HV.out]; simp), K0.out.below⟩
  | true =>
  go_wp2_with fail
  refine (H2.out _).mono ?_
  rintro e v3 ⟨rfl, rfl⟩
  clear H2
  cases r2 with
  | false =>
    go_wp2_with fail
    go_ret
    exact ⟨ret_bool (by rw [HV.out]; simp), K0.out.below⟩
  | true =>
  go_wp2_with fail
  go_ret
  exact ⟨ret_bool (by rw [HV.out]; simp), K0.out.below⟩
set_option maxHeartbeats 3200000 in
theorem pfilt4 (a b : ByteArray) (n m j : Int) (ha : a.size ≤ 1048576) (hb : b.size ≤ 1048576) (w : World) :
    Calls Tryz.prog 21 #[.agg (fcs 4 a b n m j)] w fun e w' => e = .returned (.bool (filtB ⟨4, toL a, toL b, n, m, j⟩)) ∧ Below w.heap.size w w' := by
  have H0 := Lib.hid (fun w => pname_any a ha w)
  have H1 := Lib.hid (fun w => pfull_any b hb w)
  obtain ⟨r0, hr0⟩ : ∃ r0, r0 = (nameB (toL a)) := ⟨_, rfl⟩
  rw [← hr0] at H0
  obtain ⟨r1, hr1⟩ : ∃ r1, r1 = ((toL b != [] && textB (toL b))) := ⟨_, rfl⟩
  rw [← hr1] at H1
  have heq := fun w => eqF 4 4 n 0 m 0 j 0 a a b b w
  obtain ⟨e0, he0⟩ : ∃ e0, e0 = ((n == 0) && (m == 0) && (j == 0)) := ⟨_, rfl⟩
  replace heq : ∀ w, (binOp .eql 49 (.agg #[.int .i64 4, .string a, .string b, .int .i64 n, .int .i64 m, .int .i64 j]) (.agg #[.int .i64 4, .string a, .string b, .int .i64 0, .int .i64 0, .int .i64 0])).run Tryz.prog w = .ok (.bool e0) w := fun w => by
    rw [heq w, he0]
    congr 2
    simp only [beq_self_eq_true, Bool.true_and, Bool.and_true, empt, self_, Bool.and_assoc]
  have HV : Hid (filtB ⟨4, toL a, toL b, n, m, j⟩ = (e0 && r0 && r1)) := Lib.hid (by
    rw [he0, hr0, hr1]
    unfold filtB
    dsimp only
    rw [if_neg (by decide), if_neg (by decide), if_neg (by decide), if_pos (by decide)]
    cases (toL b != []) <;> simp [TOK, Bool.and_assoc, Bool.and_comm])
  have K0 := Lib.hid (Ob.start w FT #[.int .i64 4, .string a, .string b, .int .i64 n, .int .i64 m, .int .i64 j])
  clear he0 hr0 hr1 ha hb
  unfold FT at K0
  unfold fcs
  go_enter Tryz.func21, Tryz.ntmps21
  cases e0 with
  | false =>
    go_wp2_with fail
    go_ret
    exact ⟨ret_bool (by rw [HV.out]; simp), K0.out.below⟩
  | true =>
  go_wp2_with fail
  refine (H0.out _).mono ?_
  rintro e v1 ⟨rfl, hb⟩
  have K1 := Lib.hid (K0.out.call hb)
  clear hb H0
  clear K0
  have m1_1 : v1.cell? ⟨w.heap.size, 1, none⟩ = some (.string a) := K1.out.box.cell 1
  have m1_2 : v1.cell? ⟨w.heap.size, 2, none⟩ = some (.string b) := K1.out.box.cell 2
  have m1_3 : v1.cell? ⟨w.heap.size, 3, none⟩ = some (.int .i64 n) := K1.out.box.cell 3
  have m1_4 : v1.cell? ⟨w.heap.size, 4, none⟩ = some (.int .i64 m) := K1.out.box.cell 4
  have m1_5 : v1.cell? ⟨w.heap.size, 5, none⟩ = some (.int .i64 j) := K1.out.box.cell 5
  cases r0 with
  | false =>
    go_wp2_with fail
    go_ret
    exact ⟨ret_bool (by rw [HV.out]; simp), K1.out.below⟩
  | true =>
  go_wp2_with fail
  refine (H1.out _).mono ?_
  rintro e v2 ⟨rfl, hb⟩
  have K2 := Lib.hid (K1.out.call hb)
  clear m1_1 m1_2 m1_3 m1_4 m1_5
  clear hb H1
  clear K1
  have m2_1 : v2.cell? ⟨w.heap.size, 1, none⟩ = some (.string a) := K2.out.box.cell 1
  have m2_2 : v2.cell? ⟨w.heap.size, 2, none⟩ = some (.string b) := K2.out.box.cell 2
  have m2_3 : v2.cell? ⟨w.heap.size, 3, none⟩ = some (.int .i64 n) := K2.out.box.cell 3
  have m2_4 : v2.cell? ⟨w.heap.size, 4, none⟩ = some (.int .i64 m) := K2.out.box.cell 4
  have m2_5 : v2.cell? ⟨w.heap.size, 5, none⟩ = some (.int .i64 j) := K2.out.box.cell 5
  cases r1 with
  | false =>
    go_wp2_with fail
    go_ret
    exact ⟨ret_bool (by rw [HV.out]; simp), K2.out.below⟩
  | true =>
  go_wp2_with fail
  go_ret
  exact ⟨ret_bool (by rw [HV.out]; simp), K2.out.below⟩
set_option maxHeartbeats 3200000 in
theorem pfilt5 (a b : ByteArray) (n m j : Int) (ha : a.size ≤ 1048576) (hb : b.size ≤ 1048576) (w : World) :
    Calls Tryz.prog 21 #[.agg (fcs 5 a b n m j)] w fun e w' => e = .returned (.bool (filtB ⟨5, toL a, toL b, n, m, j⟩)) ∧ Below w.heap.size w w' := by
  have H0 := Lib.hid (fun w => pfull_any b hb w)
  obtain ⟨r0, hr0⟩ : ∃ r0, r0 = ((toL b != [] && textB (toL b))) := ⟨_, rfl⟩
  rw [← hr0] at H0
  have heq := fun w => eqF 5 5 n 0 m 0 j 0 a ⟨#[]⟩ b b w
  obtain ⟨e0, he0⟩ : ∃ e0, e0 = ((toL a == []) && (n == 0) && (m == 0) && (j == 0)) := ⟨_, rfl⟩
  replace heq : ∀ w, (binOp .eql 49 (.agg #[.int .i64 5, .string a, .string b, .int .i64 n, .int .i64 m, .int .i64 j]) (.agg #[.int .i64 5, .string ⟨#[]⟩, .string b, .int .i64 0, .int .i64 0, .int .i64 0])).run Tryz.prog w = .ok (.bool e0) w := fun w => by
    rw [heq w, he0]
    congr 2
    simp only [beq_self_eq_true, Bool.true_and, Bool.and_true, empt, self_, Bool.and_assoc]
  have HV : Hid (filtB ⟨5, toL a, toL b, n, m, j⟩ = (e0 && r0)) := Lib.hid (by
    rw [he0, hr0]
    unfold filtB
    dsimp only
    rw [if_neg (by decide), if_neg (by decide), if_neg (by decide), if_neg (by decide), if_pos (by decide)]
    cases (toL b != []) <;> simp [TOK, Bool.and_assoc, Bool.and_comm])
  have K0 := Lib.hid (Ob.start w FT #[.int .i64 5, .string a, .string b, .int .i64 n, .int .i64 m, .int .i64 j])
  clear he0 hr0 ha hb
  unfold FT at K0
  unfold fcs
  go_enter Tryz.func21, Tryz.ntmps21
  cases e0 with
  | false =>
    go_wp2_with fail
    go_ret
    exact ⟨ret_bool (by rw [HV.out]; simp), K0.out.below⟩
  | true =>
  go_wp2_with fail
  refine (H0.out _).mono ?_
  rintro e v1 ⟨rfl, hb⟩
  have K1 := Lib.hid (K0.out.call hb)
  clear hb H0
  clear K0
  have m1_1 : v1.cell? ⟨w.heap.size, 1, none⟩ = some (.string a) := K1.out.box.cell 1
  have m1_2 : v1.cell? ⟨w.heap.size, 2, none⟩ = some (.string b) := K1.out.box.cell 2
  have m1_3 : v1.cell? ⟨w.heap.size, 3, none⟩ = some (.int .i64 n) := K1.out.box.cell 3
  have m1_4 : v1.cell? ⟨w.heap.size, 4, none⟩ = some (.int .i64 m) := K1.out.box.cell 4
  have m1_5 : v1.cell? ⟨w.heap.size, 5, none⟩ = some (.int .i64 j) := K1.out.box.cell 5
  cases r0 with
  | false =>
    go_wp2_with fail
    go_ret
    exact ⟨ret_bool (by rw [HV.out]; simp), K1.out.below⟩
  | true =>
  go_wp2_with fail
  go_ret
  exact ⟨ret_bool (by rw [HV.out]; simp), K1.out.below⟩
set_option maxHeartbeats 3200000 in
theorem pfilt6 (a b : ByteArray) (n m j : Int) (ha : a.size ≤ 1048576) (hb : b.size ≤ 1048576) (w : World) :
    Calls Tryz.prog 21 #[.agg (fcs 6 a b n m j)] w fun e w' => e = .returned (.bool (filtB ⟨6, toL a, toL b, n, m, j⟩)) ∧ Below w.heap.size w w' := by
  have H0 := Lib.hid (fun w => pwithin_any n 0 65536 w)
  obtain ⟨r0, hr0⟩ : ∃ r0, r0 = (inB n 0 65536) := ⟨_, rfl⟩
  rw [← hr0] at H0
  have heq := fun w => eqF 6 6 n n m 0 j 0 a ⟨#[]⟩ b ⟨#[]⟩ w
  obtain ⟨e0, he0⟩ : ∃ e0, e0 = ((toL a == []) && (toL b == []) && (m == 0) && (j == 0)) := ⟨_, rfl⟩
  replace heq : ∀ w, (binOp .eql 49 (.agg #[.int .i64 6, .string a, .string b, .int .i64 n, .int .i64 m, .int .i64 j]) (.agg #[.int .i64 6, .string ⟨#[]⟩, .string ⟨#[]⟩, .int .i64 n, .int .i64 0, .int .i64 0])).run Tryz.prog w = .ok (.bool e0) w := fun w => by
    rw [heq w, he0]
    congr 2
    simp only [beq_self_eq_true, Bool.true_and, Bool.and_true, empt, self_, Bool.and_assoc]
  have HV : Hid (filtB ⟨6, toL a, toL b, n, m, j⟩ = (e0 && r0)) := Lib.hid (by
    rw [he0, hr0]
    unfold filtB
    dsimp only
    rw [if_neg (by decide), if_neg (by decide), if_neg (by decide), if_neg (by decide), if_neg (by decide), if_pos (by decide)]
    try simp [TOK, Bool.and_assoc])
  have K0 := Lib.hid (Ob.start w FT #[.int .i64 6, .string a, .string b, .int .i64 n, .int .i64 m, .int .i64 j])
  clear he0 hr0 ha hb
  unfold FT at K0
  unfold fcs
  go_enter Tryz.func21, Tryz.ntmps21
  cases e0 with
  | false =>
    go_wp2_with fail
    go_ret
    exact ⟨ret_bool (by rw [HV.out]; simp), K0.out.below⟩
  | true =>
  go_wp2_with fail
  refine (H0.out _).mono ?_
  rintro e v1 ⟨rfl, rfl⟩
  clear H0
  cases r0 with
  | false =>
    go_wp2_with fail
    go_ret
    exact ⟨ret_bool (by rw [HV.out]; simp), K0.out.below⟩
  | true =>
  go_wp2_with fail
  go_ret
  exact ⟨ret_bool (by rw [HV.out]; simp), K0.out.below⟩
set_option maxHeartbeats 3200000 in
theorem pfilt7 (a b : ByteArray) (n m j : Int) (ha : a.size ≤ 1048576) (hb : b.size ≤ 1048576) (w : World) :
    Calls Tryz.prog 21 #[.agg (fcs 7 a b n m j)] w fun e w' => e = .returned (.bool (filtB ⟨7, toL a, toL b, n, m, j⟩)) ∧ Below w.heap.size w w' := by
  have H0 := Lib.hid (fun w => pwithin_any n 0 100 w)
  have H1 := Lib.hid (fun w => pwithin_any m 400 599 w)
  obtain ⟨r0, hr0⟩ : ∃ r0, r0 = (inB n 0 100) := ⟨_, rfl⟩
  rw [← hr0] at H0
  obtain ⟨r1, hr1⟩ : ∃ r1, r1 = (inB m 400 599) := ⟨_, rfl⟩
  rw [← hr1] at H1
  have heq := fun w => eqF 7 7 n n m m j 0 a ⟨#[]⟩ b ⟨#[]⟩ w
  obtain ⟨e0, he0⟩ : ∃ e0, e0 = ((toL a == []) && (toL b == []) && (j == 0)) := ⟨_, rfl⟩
  replace heq : ∀ w, (binOp .eql 49 (.agg #[.int .i64 7, .string a, .string b, .int .i64 n, .int .i64 m, .int .i64 j]) (.agg #[.int .i64 7, .string ⟨#[]⟩, .string ⟨#[]⟩, .int .i64 n, .int .i64 m, .int .i64 0])).run Tryz.prog w = .ok (.bool e0) w := fun w => by
    rw [heq w, he0]
    congr 2
    simp only [beq_self_eq_true, Bool.true_and, Bool.and_true, empt, self_, Bool.and_assoc]
  have HV : Hid (filtB ⟨7, toL a, toL b, n, m, j⟩ = (e0 && r0 && r1)) := Lib.hid (by
    rw [he0, hr0, hr1]
    unfold filtB
    dsimp only
    rw [if_neg (by decide), if_neg (by decide), if_neg (by decide), if_neg (by decide), if_neg (by decide), if_neg (by decide), if_pos (by decide)]
    try simp [TOK, Bool.and_assoc])
  have K0 := Lib.hid (Ob.start w FT #[.int .i64 7, .string a, .string b, .int .i64 n, .int .i64 m, .int .i64 j])
  clear he0 hr0 hr1 ha hb
  unfold FT at K0
  unfold fcs
  go_enter Tryz.func21, Tryz.ntmps21
  cases e0 with
  | false =>
    go_wp2_with fail
    go_ret
    exact ⟨ret_bool (by rw [HV.out]; simp), K0.out.below⟩
  | true =>
  go_wp2_with fail
  refine (H0.out _).mono ?_
  rintro e v1 ⟨rfl, rfl⟩
  clear H0
  cases r0 with
  | false =>
    go_wp2_with fail
    go_ret
    exact ⟨ret_bool (by rw [HV.out]; simp), K0.out.below⟩
  | true =>
  go_wp2_with fail
  refine (H1.out _).mono ?_
  rintro e v2 ⟨rfl, rfl⟩
  clear H1
  cases r1 with
  | false =>
    go_wp2_with fail
    go_ret
    exact ⟨ret_bool (by rw [HV.out]; simp), K0.out.below⟩
  | true =>
  go_wp2_with fail
  go_ret
  exact ⟨ret_bool (by rw [HV.out]; simp), K0.out.below⟩
set_option maxHeartbeats 3200000 in
theorem pfilt8 (a b : ByteArray) (n m j : Int) (ha : a.size ≤ 1048576) (hb : b.size ≤ 1048576) (w : World) :
    Calls Tryz.prog 21 #[.agg (fcs 8 a b n m j)] w fun e w' => e = .returned (.bool (filtB ⟨8, toL a, toL b, n, m, j⟩)) ∧ Below w.heap.size w w' := by
  have H0 := Lib.hid (fun w => pname_any a ha w)
  have H1 := Lib.hid (fun w => ptext_any b hb w)
  obtain ⟨r0, hr0⟩ : ∃ r0, r0 = (nameB (toL a)) := ⟨_, rfl⟩
  rw [← hr0] at H0
  obtain ⟨r1, hr1⟩ : ∃ r1, r1 = (textB (toL b)) := ⟨_, rfl⟩
  rw [← hr1] at H1
  have heq := fun w => eqF 8 8 n 0 m 0 j 0 a a b b w
  obtain ⟨e0, he0⟩ : ∃ e0, e0 = ((n == 0) && (m == 0) && (j == 0)) := ⟨_, rfl⟩
  replace heq : ∀ w, (binOp .eql 49 (.agg #[.int .i64 8, .string a, .string b, .int .i64 n, .int .i64 m, .int .i64 j]) (.agg #[.int .i64 8, .string a, .string b, .int .i64 0, .int .i64 0, .int .i64 0])).run Tryz.prog w = .ok (.bool e0) w := fun w => by
    rw [heq w, he0]
    congr 2
    simp only [beq_self_eq_true, Bool.true_and, Bool.and_true, empt, self_, Bool.and_assoc]
  have HV : Hid (filtB ⟨8, toL a, toL b, n, m, j⟩ = (e0 && r0 && r1)) := Lib.hid (by
    rw [he0, hr0, hr1]
    unfold filtB
    dsimp only
    rw [if_pos (by decide)]
    try simp [TOK, Bool.and_assoc])
  have K0 := Lib.hid (Ob.start w FT #[.int .i64 8, .string a, .string b, .int .i64 n, .int .i64 m, .int .i64 j])
  clear he0 hr0 hr1 ha hb
  unfold FT at K0
  unfold fcs
  go_enter Tryz.func21, Tryz.ntmps21
  cases e0 with
  | false =>
    go_wp2_with fail
    go_ret
    exact ⟨ret_bool (by rw [HV.out]; simp), K0.out.below⟩
  | true =>
  go_wp2_with fail
  refine (H0.out _).mono ?_
  rintro e v1 ⟨rfl, hb⟩
  have K1 := Lib.hid (K0.out.call hb)
  clear hb H0
  clear K0
  have m1_1 : v1.cell? ⟨w.heap.size, 1, none⟩ = some (.string a) := K1.out.box.cell 1
  have m1_2 : v1.cell? ⟨w.heap.size, 2, none⟩ = some (.string b) := K1.out.box.cell 2
  have m1_3 : v1.cell? ⟨w.heap.size, 3, none⟩ = some (.int .i64 n) := K1.out.box.cell 3
  have m1_4 : v1.cell? ⟨w.heap.size, 4, none⟩ = some (.int .i64 m) := K1.out.box.cell 4
  have m1_5 : v1.cell? ⟨w.heap.size, 5, none⟩ = some (.int .i64 j) := K1.out.box.cell 5
  cases r0 with
  | false =>
    go_wp2_with fail
    go_ret
    exact ⟨ret_bool (by rw [HV.out]; simp), K1.out.below⟩
  | true =>
  go_wp2_with fail
  refine (H1.out _).mono ?_
  rintro e v2 ⟨rfl, hb⟩
  have K2 := Lib.hid (K1.out.call hb)
  clear m1_1 m1_2 m1_3 m1_4 m1_5
  clear hb H1
  clear K1
  have m2_1 : v2.cell? ⟨w.heap.size, 1, none⟩ = some (.string a) := K2.out.box.cell 1
  have m2_2 : v2.cell? ⟨w.heap.size, 2, none⟩ = some (.string b) := K2.out.box.cell 2
  have m2_3 : v2.cell? ⟨w.heap.size, 3, none⟩ = some (.int .i64 n) := K2.out.box.cell 3
  have m2_4 : v2.cell? ⟨w.heap.size, 4, none⟩ = some (.int .i64 m) := K2.out.box.cell 4
  have m2_5 : v2.cell? ⟨w.heap.size, 5, none⟩ = some (.int .i64 j) := K2.out.box.cell 5
  cases r1 with
  | false =>
    go_wp2_with fail
    go_ret
    exact ⟨ret_bool (by rw [HV.out]; simp), K2.out.below⟩
  | true =>
  go_wp2_with fail
  go_ret
  exact ⟨ret_bool (by rw [HV.out]; simp), K2.out.below⟩
set_option maxHeartbeats 1600000 in
theorem pfilt_else (x : Filt) (h1 : x.kind ≠ 1) (h2 : x.kind ≠ 2) (h3 : x.kind ≠ 3) (h4 : x.kind ≠ 4) (h5 : x.kind ≠ 5) (h6 : x.kind ≠ 6) (h7 : x.kind ≠ 7) (h8 : x.kind ≠ 8) (w : World) :
    Calls Tryz.prog 21 #[.agg (fcs x.kind (ofL x.name) (ofL x.value) x.n x.m x.k)] w fun e w' => e = .returned (.bool (filtB x)) ∧ Below w.heap.size w w' := by
  have HV : filtB x = false := by
    unfold filtB
    rw [if_neg (by rintro (h | h); exact h1 h; exact h8 h), if_neg h2, if_neg h3, if_neg h4, if_neg h5, if_neg h6, if_neg h7]
  rw [HV]
  unfold fcs
  have q1 : (x.kind == 1) = false := beq_false_of_ne h1
  have q2 : (x.kind == 2) = false := beq_false_of_ne h2
  have q3 : (x.kind == 3) = false := beq_false_of_ne h3
  have q4 : (x.kind == 4) = false := beq_false_of_ne h4
  have q5 : (x.kind == 5) = false := beq_false_of_ne h5
  have q6 : (x.kind == 6) = false := beq_false_of_ne h6
  have q7 : (x.kind == 7) = false := beq_false_of_ne h7
  have q8 : (x.kind == 8) = false := beq_false_of_ne h8
  clear HV h1 h2 h3 h4 h5 h6 h7 h8
  go_enter Tryz.func21, Tryz.ntmps21
  go_wp2_with fail
  go_ret
  exact ⟨rfl, (Below.refl _ _).alloc (Nat.le_refl _) _⟩
theorem pfilter_any (x : Filt) (hx : FitFilt x) (w : World) :
    Calls Tryz.prog 21 #[.agg (fcs x.kind (ofL x.name) (ofL x.value) x.n x.m x.k)] w fun e w' => e = .returned (.bool (filtB x)) ∧ Below w.heap.size w w' := by
  have ha : (ofL x.name).size ≤ 1048576 := by rw [ofL_size]; exact hx.name
  have hb : (ofL x.value).size ≤ 1048576 := by rw [ofL_size]; exact hx.value
  obtain ⟨k, a, b, n, m, j⟩ := x
  dsimp only at ha hb ⊢
  by_cases h1 : k = 1
  · subst h1
    have := pfilt1 (ofL a) (ofL b) n m j ha hb w
    rw [toL_ofL, toL_ofL] at this
    exact this
  by_cases h2 : k = 2
  · subst h2
    have := pfilt2 (ofL a) (ofL b) n m j ha hb w
    rw [toL_ofL, toL_ofL] at this
    exact this
  by_cases h3 : k = 3
  · subst h3
    have := pfilt3 (ofL a) (ofL b) n m j ha hb w
    rw [toL_ofL, toL_ofL] at this
    exact this
  by_cases h4 : k = 4
  · subst h4
    have := pfilt4 (ofL a) (ofL b) n m j ha hb w
    rw [toL_ofL, toL_ofL] at this
    exact this
  by_cases h5 : k = 5
  · subst h5
    have := pfilt5 (ofL a) (ofL b) n m j ha hb w
    rw [toL_ofL, toL_ofL] at this
    exact this
  by_cases h6 : k = 6
  · subst h6
    have := pfilt6 (ofL a) (ofL b) n m j ha hb w
    rw [toL_ofL, toL_ofL] at this
    exact this
  by_cases h7 : k = 7
  · subst h7
    have := pfilt7 (ofL a) (ofL b) n m j ha hb w
    rw [toL_ofL, toL_ofL] at this
    exact this
  by_cases h8 : k = 8
  · subst h8
    have := pfilt8 (ofL a) (ofL b) n m j ha hb w
    rw [toL_ofL, toL_ofL] at this
    exact this
  exact pfilt_else ⟨k, a, b, n, m, j⟩ h1 h2 h3 h4 h5 h6 h7 h8 w
end Go.Proofs.YtfihehobkbfmiaaGreatDoor.PCfgF

/- Layer 14, the document's own bounds. -/
namespace Go.Proofs.YtfihehobkbfmiaaGreatDoor.R14Bnd
open Go.ChangeShapes Go.WideShapes Go.ChangeAt Go.RowKit Bytes LexPure ConfPure ConfMem Ret Mem R14In
set_option maxRecDepth 100000
set_option linter.unusedSimpArgs false
set_option linter.unusedVariables false
abbrev CT : TypeId := 26
/-- the values of the three lists -/
structure Vals (c : Conf) (vf vc vv : Value) : Prop where
  lf : ∃ p cap, vf = .slice p c.filters.length cap
  lc : ∃ p cap, vc = .slice p c.clusters.length cap
  lv : ∃ p cap, vv = .slice p c.vhosts.length cap
theorem CF.vals {w : World} {vf vc vv : Value} {c : Conf} (h : CF w vf vc vv c) : Vals c vf vc vv := by
  obtain ⟨p, cap, h1, _⟩ := h.filters.parts
  obtain ⟨p2, cap2, h2, _⟩ := h.clusters.parts
  obtain ⟨p3, cap3, h3, _⟩ := h.vhosts.parts
  exact ⟨⟨p, cap, h1⟩, ⟨p2, cap2, h2⟩, ⟨p3, cap3, h3⟩⟩
set_option maxHeartbeats 3200000 in
theorem rbounds_any (c : Conf) (vf vc vv : Value) (hV : Vals c vf vc vv) (w : World) :
    Calls Tryz.prog 24 #[.agg (confV c vf vc vv)] w fun e w' => e = .returned (.bool (boundsB c)) ∧ Below w.heap.size w w' := by
  obtain ⟨⟨pf, cf, rfl⟩, ⟨pc, cc, rfl⟩, ⟨pv, cv, rfl⟩⟩ := hV
  have H0 := Lib.hid (fun w => rin_any c.conns 1 256 w)
  have H1 := Lib.hid (fun w => rin_any c.body 0 65536 w)
  have H2 := Lib.hid (fun w => rin_any c.idle 1 TICK w)
  have H3 := Lib.hid (fun w => rin_any c.grace 1 TICK w)
  have H4 := Lib.hid (fun w => rin_any c.budget 0 256 w)
  have H5 := Lib.hid (fun w => rin_any c.seed 0 1099511627776 w)
  have k1 : decide ((c.filters.length : Int) ≤ (32 : Int)) = decide (c.filters.length ≤ 32) := by by_cases h : c.filters.length ≤ 32 <;> simp [h] <;> omega
  have k2 : decide ((c.clusters.length : Int) ≤ (32 : Int)) = decide (c.clusters.length ≤ 32) := by by_cases h : c.clusters.length ≤ 32 <;> simp [h] <;> omega
  have k3 : decide ((c.vhosts.length : Int) ≤ (32 : Int)) = decide (c.vhosts.length ≤ 32) := by by_cases h : c.vhosts.length ≤ 32 <;> simp [h] <;> omega
  unfold boundsB
  obtain ⟨r0, hr0⟩ : ∃ r0, r0 = inB c.conns 1 256 := ⟨_, rfl⟩
  obtain ⟨r1, hr1⟩ : ∃ r1, r1 = inB c.body 0 65536 := ⟨_, rfl⟩
  obtain ⟨r2, hr2⟩ : ∃ r2, r2 = inB c.idle 1 TICK := ⟨_, rfl⟩
  obtain ⟨r3, hr3⟩ : ∃ r3, r3 = inB c.grace 1 TICK := ⟨_, rfl⟩
  obtain ⟨r4, hr4⟩ : ∃ r4, r4 = inB c.budget 0 256 := ⟨_, rfl⟩
  obtain ⟨r5, hr5⟩ : ∃ r5, r5 = inB c.seed 0 1099511627776 := ⟨_, rfl⟩
  obtain ⟨r6, hr6⟩ : ∃ r6, r6 = decide (c.filters.length ≤ 32) := ⟨_, rfl⟩
  obtain ⟨r7, hr7⟩ : ∃ r7, r7 = decide (c.clusters.length ≤ 32) := ⟨_, rfl⟩
  obtain ⟨r8, hr8⟩ : ∃ r8, r8 = decide (c.vhosts.length ≤ 32) := ⟨_, rfl⟩
  rw [← hr0] at H0 ⊢
  rw [← hr1] at H1 ⊢
  rw [← hr2] at H2 ⊢
  rw [← hr3] at H3 ⊢
  rw [← hr4] at H4 ⊢
  rw [← hr5] at H5 ⊢
  rw [← hr6] at k1 ⊢
  rw [← hr7] at k2 ⊢
  rw [← hr8] at k3 ⊢
  replace hr6 := hr6.symm
  replace hr7 := hr7.symm
  replace hr8 := hr8.symm
  unfold TICK at H2 H3
  have HB := Lib.hid ((Below.refl w.heap.size w).alloc (Nat.le_refl _) (.cells (confV c (.slice pf c.filters.length cf) (.slice pc c.clusters.length cc) (.slice pv c.vhosts.length cv)) CT))
  unfold confV
  unfold confV CT at HB
  clear hr0 hr1 hr2 hr3 hr4 hr5
  go_enter Tryz.func24, Tryz.ntmps24
  go_wp2_with fail
  refine (H0.out _).mono ?_
  rintro e w1 ⟨rfl, rfl⟩
  clear H0
  cases r0 with
  | false =>
    go_wp2_with fail
    go_ret
    exact ⟨rfl, HB.out⟩
  | true =>
    go_wp2_with fail
    refine (H1.out _).mono ?_
    rintro e w2 ⟨rfl, rfl⟩
    clear H1
    cases r1 with
    | false =>
      go_wp2_with fail
      go_ret
      exact ⟨rfl, HB.out⟩
    | true =>
      go_wp2_with fail
      refine (H2.out _).mono ?_
      rintro e w3 ⟨rfl, rfl⟩
      clear H2
      cases r2 with
      | false =>
        go_wp2_with fail
        go_ret
        exact ⟨rfl, HB.out⟩
      | true =>
        go_wp2_with fail
        refine (H3.out _).mono ?_
        rintro e w4 ⟨rfl, rfl⟩
        clear H3
        cases r3 with
        | false =>
          go_wp2_with fail
          go_ret
          exact ⟨rfl, HB.out⟩
        | true =>
          go_wp2_with fail
          refine (H4.out _).mono ?_
          rintro e w5 ⟨rfl, rfl⟩
          clear H4
          cases r4 with
          | false =>
            go_wp2_with fail
            go_ret
            exact ⟨rfl, HB.out⟩
          | true =>
            go_wp2_with fail
            refine (H5.out _).mono ?_
            rintro e w6 ⟨rfl, rfl⟩
            clear H5
            cases r5 with
            | false =>
              go_wp2_with fail
              go_ret
              exact ⟨rfl, HB.out⟩
            | true =>
              cases r6 <;> cases r7 <;> cases r8
              · go_wp2_with fail
                go_ret
                exact ⟨rfl, HB.out⟩
              · go_wp2_with fail
                go_ret
                exact ⟨rfl, HB.out⟩
              · go_wp2_with fail
                go_ret
                exact ⟨rfl, HB.out⟩
              · go_wp2_with fail
                go_ret
                exact ⟨rfl, HB.out⟩
              · go_wp2_with fail
                go_ret
                exact ⟨rfl, HB.out⟩
              · go_wp2_with fail
                go_ret
                exact ⟨rfl, HB.out⟩
              · go_wp2_with fail
                go_ret
                exact ⟨rfl, HB.out⟩
              · go_wp2_with fail
                go_ret
                exact ⟨rfl, HB.out⟩
end Go.Proofs.YtfihehobkbfmiaaGreatDoor.R14Bnd
