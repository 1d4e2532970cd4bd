/- No byte 10 without a 13 ahead of it and no 13 without a 10 behind it is in a head that is taken: HeadBare returns true. -/
import Derived.Test.YtclecgopmegjeaaDoorHAnchor
namespace Go.Proofs.YtclecgopmegjeaaDoor.HeadBareW
open Go.ChangeShapes Go.WideShapes Go.ChangeAt Go.RowKit LexPure Bytes Ret FieldsPure HeadPure HBox PHead8 PNext HAnchor Mem
set_option maxRecDepth 20000
set_option linter.unusedVariables false
/-- what a reading says of its front -/
theorem front (r : Bool) (s : List UInt8) : (resE (read8 r s) = 0 ∨ resN (read8 r s) = 0) ∧ resN (read8 r s) ≤ s.length ∧ HeadPure.Clean (s.take (resN (read8 r s))) := by
  cases h : read8 r s with
  | wait => exact ⟨.inl rfl, Nat.zero_le _, clean_nil⟩
  | bad e => exact ⟨.inr rfl, Nat.zero_le _, clean_nil⟩
  | done h' n =>
    obtain ⟨h1, h2, h3, h4⟩ := read_front r s h' n h
    exact ⟨.inl rfl, h1, h4⟩
theorem clean_at {s : ByteArray} {n k : Nat} (h : HeadPure.Clean ((toL s).take n)) (hk : k < n) (hn : n ≤ s.size) :
    (s[k] = 10 → ∃ j, ∃ h : j < s.size, k = j + 1 ∧ s[j] = 13) ∧ (s[k] = 13 → k + 1 < n ∧ ∃ h : k + 1 < s.size, s[k + 1] = 10) := by
  have hks : k < s.size := by omega
  have hg : ((toL s).take n)[k]? = some s[k] := by rw [List.getElem?_take, if_pos hk, toL_get s k hks]
  obtain ⟨h1, h2⟩ := h k s[k] hg
  constructor
  · intro e
    obtain ⟨j, e1, e2⟩ := h1 e
    have hj : j < s.size := by omega
    rw [List.getElem?_take, if_pos (by omega), toL_get s j hj] at e2
    exact ⟨j, hj, e1, Option.some.inj e2⟩
  · intro e
    have e2 := h2 e
    by_cases hk1 : k + 1 < n
    · have hj : k + 1 < s.size := by omega
      rw [List.getElem?_take, if_pos hk1, toL_get s (k + 1) hj] at e2
      exact ⟨hk1, hj, Option.some.inj e2⟩
    · rw [List.getElem?_take, if_neg hk1] at e2
      cases e2
set_option maxHeartbeats 1600000 in
theorem walk (s : ByteArray) (w0 : s.size ≤ maxLen) (z0 : s.size ≤ 140737488351232) (w : World) :
    Calls Tryd.prog 8 #[.string s] w fun e w' => e = .returned (.bool true) ∧ Below w.heap.size w w' := by
  have U0 := Lib.hid (fun w => prequest_any s (by omega) w)
  have U1 := Lib.hid (fun w => presponse_any s (by omega) w)
  obtain ⟨a1, a2, a3⟩ := front false (toL s)
  obtain ⟨b1, b2, b3⟩ := front true (toL s)
  rw [toL_length] at a2 b2
  generalize resH (read8 false (toL s)) = H1 at *
  generalize resH (read8 true (toL s)) = H2 at *
  generalize resN (read8 false (toL s)) = n at *
  generalize resN (read8 true (toL s)) = m at *
  generalize resE (read8 false (toL s)) = e1 at *
  generalize resE (read8 true (toL s)) = e2 at *
  replace a3 := Lib.hid a3
  replace b3 := Lib.hid b3
  unfold hrv3 hv at U0 U1
  clear w0
  go_enter Tryd.func8, Tryd.ntmps8
  go_wp2_with fail
  refine (anchor_any _).mono ?_
  rintro e w1 ⟨rfl, hb1⟩
  go_wp2_with fail
  refine (U0.out _).mono ?_
  rintro e w2 ⟨v1, rfl, hF1, hb2⟩
  replace hb1 := below_chain hb1 hb2
  obtain ⟨p1, c1, rfl, _, _⟩ := hF1
  replace hb1 := hb1.alloc hb1.size (.cells (hc H1 (.slice p1 H1.fields.length c1)) 25)
  unfold hc at hb1
  clear hb2
  go_wp2_with fail
  refine (U1.out _).mono ?_
  rintro e w3 ⟨v2, rfl, hF2, hb3⟩
  replace hb1 := below_chain hb1 hb3
  obtain ⟨p2, c2, rfl, _, _⟩ := hF2
  replace hb1 := hb1.alloc hb1.size (.cells (hc H2 (.slice p2 H2.fields.length c2)) 25)
  unfold hc at hb1
  have HB := Lib.hid hb1
  clear hb3 hb1 U0 U1
  have ha : (e1 = 0) ∨ ((e1 != 0) = true ∧ ((n : Int) != 0) = false) := by
    by_cases h : e1 = 0
    · exact .inl h
    · exact .inr ⟨bne_iff_ne.2 h, by rw [a1.resolve_left h]; rfl⟩
  have hb : (e2 = 0) ∨ ((e2 != 0) = true ∧ ((m : Int) != 0) = false) := by
    by_cases h : e2 = 0
    · exact .inl h
    · exact .inr ⟨bne_iff_ne.2 h, by rw [b1.resolve_left h]; rfl⟩
  have hn1 : ¬ ((n : Int) < 0) := by omega
  have hm1 : ¬ ((m : Int) < 0) := by omega
  have hn2 : ¬ ((s.size : Int) < (n : Int)) := by omega
  have hm2 : ¬ ((s.size : Int) < (m : Int)) := by omega
  clear a1 b1
  by_cases hmn : n < m
  · have hmi : (n : Int) < (m : Int) := by omega
    obtain ⟨K, hK, hK1, hK2⟩ : ∃ K, K = m ∧ K ≤ s.size ∧ Hid (HeadPure.Clean ((toL s).take K)) := ⟨m, rfl, b2, b3⟩
    rcases ha with rfl | ⟨ha, hz⟩ <;> rcases hb with rfl | ⟨hb, hz2⟩
    all_goals go_wp2_with fail
    all_goals
      subst hK
      clear hmn hmi
      go_loop [9] (fun i => ∃ k : Nat, k ≤ K ∧ i = .int .i64 k ∧ Hid (k ≤ K)) (fun i => K - (intOf i).toNat)
      case atStart => exact ⟨0, Nat.zero_le _, rfl, Lib.hid (Nat.zero_le _)⟩
      case round =>
        obtain ⟨k, hk, rfl, _⟩ := hrel
        by_cases hlt : k < K
        · have hki : (k : Int) < (K : Int) := by omega
          have hks : (k : Int) < (s.size : Int) := by omega
          have hkn : k < s.size := by omega
          obtain ⟨q1, q2⟩ := clean_at hK2.out hlt hK1
          rcases mark_line s[k] with ⟨x0, x1, x2⟩ | ⟨x0, x9, x1, x2⟩ | ⟨x0, x9, x1, x2⟩
          · obtain ⟨j, hj, rfl, hj2⟩ := q1 x0
            have y1 : ((s[j].toNat : Int) != 13) = false := by rw [hj2]; rfl
            have y2 : (((j + 1 : Nat) : Int) == 0) = false := beq_eq_false_iff_ne.2 (by omega)
            have y3 : (j : Int) < (s.size : Int) := by omega
            clear q1 q2 x0 hj2
            go_wp2_with fail
            all_goals go_simp
            all_goals exact ⟨⟨j + 1 + 1, by omega, by omega, Lib.hid (by omega)⟩, by simp [intOf]; omega⟩
          · obtain ⟨u0, u1, u2⟩ := q2 x0
            have y1 : ((s[k + 1].toNat : Int) != 10) = false := by rw [u2]; rfl
            have y2 : ¬ ((K : Int) ≤ (k : Int) + 1) := by omega
            have y3 : (k : Int) + 1 < (s.size : Int) := by omega
            clear q1 q2 x0 x9 u2
            go_wp2_with fail
            all_goals go_simp
            all_goals exact ⟨⟨k + 1, by omega, by omega, Lib.hid (by omega)⟩, by simp [intOf]; omega⟩
          · clear q1 q2 x0 x9
            go_wp2_with fail
            go_round
            case rel => exact ⟨k + 1, by omega, by go_num, Lib.hid (by omega)⟩
            case measure => simp [intOf]; omega
        · have hki : ¬ (k : Int) < (K : Int) := by omega
          go_wp2_with fail
          go_ret
          exact ⟨rfl, HB.out⟩
  · have hmi : ¬ ((n : Int) < (m : Int)) := by omega
    obtain ⟨K, hK, hK1, hK2⟩ : ∃ K, K = n ∧ K ≤ s.size ∧ Hid (HeadPure.Clean ((toL s).take K)) := ⟨n, rfl, a2, a3⟩
    rcases ha with rfl | ⟨ha, hz⟩ <;> rcases hb with rfl | ⟨hb, hz2⟩
    all_goals go_wp2_with fail
    all_goals
      subst hK
      clear hmn hmi
      go_loop [9] (fun i => ∃ k : Nat, k ≤ K ∧ i = .int .i64 k ∧ Hid (k ≤ K)) (fun i => K - (intOf i).toNat)
      case atStart => exact ⟨0, Nat.zero_le _, rfl, Lib.hid (Nat.zero_le _)⟩
      case round =>
        obtain ⟨k, hk, rfl, _⟩ := hrel
        by_cases hlt : k < K
        · have hki : (k : Int) < (K : Int) := by omega
          have hks : (k : Int) < (s.size : Int) := by omega
          have hkn : k < s.size := by omega
          obtain ⟨q1, q2⟩ := clean_at hK2.out hlt hK1
          rcases mark_line s[k] with ⟨x0, x1, x2⟩ | ⟨x0, x9, x1, x2⟩ | ⟨x0, x9, x1, x2⟩
          · obtain ⟨j, hj, rfl, hj2⟩ := q1 x0
            have y1 : ((s[j].toNat : Int) != 13) = false := by rw [hj2]; rfl
            have y2 : (((j + 1 : Nat) : Int) == 0) = false := beq_eq_false_iff_ne.2 (by omega)
            have y3 : (j : Int) < (s.size : Int) := by omega
            clear q1 q2 x0 hj2
            go_wp2_with fail
            all_goals go_simp
            all_goals exact ⟨⟨j + 1 + 1, by omega, by omega, Lib.hid (by omega)⟩, by simp [intOf]; omega⟩
          · obtain ⟨u0, u1, u2⟩ := q2 x0
            have y1 : ((s[k + 1].toNat : Int) != 10) = false := by rw [u2]; rfl
            have y2 : ¬ ((K : Int) ≤ (k : Int) + 1) := by omega
            have y3 : (k : Int) + 1 < (s.size : Int) := by omega
            clear q1 q2 x0 x9 u2
            go_wp2_with fail
            all_goals go_simp
            all_goals exact ⟨⟨k + 1, by omega, by omega, Lib.hid (by omega)⟩, by simp [intOf]; omega⟩
          · clear q1 q2 x0 x9
            go_wp2_with fail
            go_round
            case rel => exact ⟨k + 1, by omega, by go_num, Lib.hid (by omega)⟩
            case measure => simp [intOf]; omega
        · have hki : ¬ (k : Int) < (K : Int) := by omega
          go_wp2_with fail
          go_ret
          exact ⟨rfl, HB.out⟩
end Go.Proofs.YtclecgopmegjeaaDoor.HeadBareW
