/- Empty lines ahead of a request are passed over and counted: HeadAhead returns true. -/
import Derived.Test.YtclecgopmegjeaaDoorHLaw
import Derived.Test.YtclecgopmegjeaaDoorR8Same
import Derived.Laws.DeepStrings4
namespace Go.Proofs.YtclecgopmegjeaaDoor.HeadAheadW
open Go.ChangeShapes Go.WideShapes Go.ChangeAt Go.RowKit LexPure Bytes Ret FieldsPure Flds HeadPure HBox KeptRow PHead8 PFlds8 R8Same HAnchor HLaw Mem
set_option maxRecDepth 20000
set_option linter.unusedVariables false
theorem empties_len (k : Nat) : (emptiesOf k).length = 2 * k := by
  induction k with
  | zero => rfl
  | succ k ih => rw [ahead_succ, List.length_cons, List.length_cons, ih]; omega
theorem empties_next (k : Nat) : ofL (emptiesOf k) ++ ⟨#[13, 10]⟩ = ofL (emptiesOf (k + 1)) := by
  refine toL_inj ?_
  rw [toL_append, toL_ofL, toL_ofL, ahead_snoc]
theorem passed (d : Nat) (s : List UInt8) : resE (shift d (read8 false s)) = resE (read8 false s) ∧ resH (shift d (read8 false s)) = resH (read8 false s) ∧ ((resN (read8 false s) = 0 ∧ resN (shift d (read8 false s)) = 0) ∨ (0 < resN (read8 false s) ∧ resN (shift d (read8 false s)) = resN (read8 false s) + d ∧ resN (read8 false s) ≤ s.length)) := by
  cases h : read8 false s with
  | wait => exact ⟨rfl, rfl, .inl ⟨rfl, rfl⟩⟩
  | bad e => exact ⟨rfl, rfl, .inl ⟨rfl, rfl⟩⟩
  | done h' n =>
    obtain ⟨h1, h2, _, _⟩ := read_front false s h' n h
    exact ⟨rfl, rfl, .inr ⟨h2, rfl, h1⟩⟩
set_option maxHeartbeats 1600000 in
theorem walkIn (s : ByteArray) (z0 : s.size ≤ 140737488351232) (l : Nat) (hl : l ≤ 500) (w : World) :
    Calls Tryd.prog 10 #[.string s, .int .i64 (l : Int)] w fun e w' => e = .returned (.bool true) ∧ Below w.heap.size w w' := by
  have U0 := Lib.hid (fun w => prequest_any s (by omega) w)
  have hel := empties_len l
  have V0 := Lib.hid (fun w => prequest_any (ofL (emptiesOf l) ++ s) (by rw [ByteArray.size_append, ofL_size]; omega) w)
  rw [toL_append, toL_ofL, read_ahead] at V0
  obtain ⟨a1, a2, a3⟩ := passed (2 * l) (toL s)
  rw [toL_length] at a3
  rw [a1, a2] at V0
  clear a1 a2
  generalize resH (read8 false (toL s)) = H1 at *
  generalize resE (read8 false (toL s)) = e1 at *
  generalize resN (shift (2 * l) (read8 false (toL s))) = m at *
  generalize resN (read8 false (toL s)) = n at *
  unfold hrv3 hv at U0 V0
  have t1 : ¬ ((l : Int) < 0) := by omega
  have t2 : ¬ ((500 : Int) < (l : Int)) := by omega
  have q1 : (e1 != e1) = false := bne_self_eq_false _
  have hsum : (ofL (emptiesOf l)).size + s.size ≤ 9223372036854775807 := by rw [ofL_size]; omega
  replace hsum := Lib.hid hsum
  go_enter Tryd.func10, Tryd.ntmps10
  go_wp2_with fail
  refine (anchor_any _).mono ?_
  rintro e w1 ⟨rfl, hb1⟩
  replace hb1 := Lib.hid hb1
  go_wp2_with fail
  clear t1 t2
  go_loop [5, 6] (fun x i => ∃ k : Nat, k ≤ l ∧ i = .int .i64 k ∧ x = .string (ofL (emptiesOf k)) ∧ Hid (k ≤ l)) (fun _ i => l - (intOf i).toNat)
  case atStart => exact ⟨0, Nat.zero_le _, rfl, rfl, Lib.hid (Nat.zero_le _)⟩
  case round =>
    obtain ⟨k, hk, rfl, rfl, _⟩ := hrel
    by_cases hlt : k < l
    · have hki : (k : Int) < (l : Int) := by omega
      have hr := Lib.hid (empties_next k)
      have hs : (ofL (emptiesOf k)).size = 2 * k := by rw [ofL_size, empties_len]
      have hq : (ofL (emptiesOf k)).size + 2 ≤ 9223372036854775807 := by omega
      generalize ofL (emptiesOf k) = Y at *
      clear hs
      go_wp2_with fail
      go_round
      case rel => exact ⟨k + 1, by omega, by go_num, by rw [← hr.out], Lib.hid (by omega)⟩
      case measure => simp [intOf]; omega
    · have hki : ¬ ((k : Int) < (l : Int)) := by omega
      have hkl : k = l := by omega
      subst hkl
      have hsum2 := hsum.out
      generalize ofL (emptiesOf k) = Y at *
      clear hsum hk
      go_wp2_with fail
      refine (U0.out _).mono ?_
      rintro e w2 ⟨v1, rfl, hF1, hb2⟩
      replace hb1 := below_chain hb1.out hb2
      obtain ⟨p1, c1, rfl, _, _⟩ := id hF1
      have L1 := Lib.hid (LB.new hb1 hF1)
      clear hb2 U0 hF1 hb1
      unfold hc at L1
      dsimp only
      iterate 18 go_step
      generalize w2.alloc (.cells #[.string (ofL H1.method), .string (ofL H1.target), .int .i64 H1.status, .string (ofL H1.reason), .int .i64 H1.minor, .slice p1 H1.fields.length c1] 25) = W2 at L1 ⊢
      generalize hg1 : w2.heap.size = g1 at L1 ⊢
      replace hg1 := Lib.hid hg1
      go_wp2_with fail
      refine (V0.out _).mono ?_
      rintro e w5 ⟨v2, rfl, hF2, hb5⟩
      clear V0
      replace L1 := Lib.hid (L1.out.call hb5)
      obtain ⟨p2, c2, rfl, _, _⟩ := id hF2
      have L2 := Lib.hid (LB.new L1.out.below hF2)
      replace L1 := Lib.hid (L1.out.alloc (.cells (hc H1 (.slice p2 H1.fields.length c2)) 25))
      unfold hc at L1 L2
      clear hb5 hF2
      dsimp only
      iterate 18 go_step
      generalize w5.alloc (.cells #[.string (ofL H1.method), .string (ofL H1.target), .int .i64 H1.status, .string (ofL H1.reason), .int .i64 H1.minor, .slice p2 H1.fields.length c2] 25) = W5 at L1 L2 ⊢
      generalize hg2 : w5.heap.size = g2 at L2 ⊢
      replace hg2 := Lib.hid hg2
      obtain ⟨d0, d1, d2, d3, d4, d5⟩ := L1.out.box.cells
      obtain ⟨f0, f1, f2, f3, f4, f5⟩ := L2.out.box.cells
      have HS := Lib.hid (same8_any H1 (.slice p1 H1.fields.length c1) (.slice p2 H1.fields.length c2) W5 L1.out.list L2.out.list)
      unfold hv at HS
      go_wp2_with fail
      refine HS.out.mono ?_
      rintro e w6 ⟨rfl, hb6⟩
      replace L1 := Lib.hid (L1.out.call hb6)
      clear hb6 HS L2 d0 d1 d2 d3 d4 d5 f0 f1 f2 f3 f4 f5
      rcases a3 with ⟨rfl, rfl⟩ | ⟨a3, rfl, a4⟩
      · go_wp2_with fail
        go_ret
        exact ⟨rfl, L1.out.below⟩
      · have x1 : ((n : Int) == 0) = false := beq_eq_false_iff_ne.2 (by omega)
        have x2 : (0 : Int) < (n : Int) := by omega
        have x3 : (((n + 2 * k : Nat) : Int) == (n : Int) + 2 * (k : Int)) = true := by rw [beq_iff_eq]; omega
        have x4 : (n : Int) ≤ 140737488351232 := by omega
        have x5 : (k : Int) ≤ 500 := by omega
        go_wp2_with fail
        go_ret
        exact ⟨rfl, L1.out.below⟩
theorem walk (s : ByteArray) (w0 : s.size ≤ maxLen) (z0 : s.size ≤ 140737488351232) (l : Int) (w1 : (Lit.int .i64 l).wf = true) (w : World) :
    Calls Tryd.prog 10 #[.string s, .int .i64 l] w fun e w' => e = .returned (.bool true) ∧ Below w.heap.size w w' := by
  by_cases h : 0 ≤ l ∧ l ≤ 500
  · obtain ⟨k, rfl⟩ := Int.eq_ofNat_of_zero_le h.1
    exact walkIn s z0 k (by omega) w
  · have hc : l < 0 ∨ (¬ l < 0 ∧ 500 < l) := by omega
    clear h
    go_enter Tryd.func10, Tryd.ntmps10
    go_wp2_with fail
    refine (anchor_any _).mono ?_
    rintro e w1 ⟨rfl, hb1⟩
    replace hb1 := Lib.hid hb1
    rcases hc with h | ⟨h, h2⟩
    all_goals
      go_wp2_with fail
      go_ret
      exact ⟨rfl, hb1.out⟩
end Go.Proofs.YtclecgopmegjeaaDoor.HeadAheadW
