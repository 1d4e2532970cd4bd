/- Decode, Cut and Under of any texts are the document's: PathDecodes returns true, for what comes in of bulk at most 1048576. -/
import Derived.Test.YtlhpjinajaociaaDoorPathAnchor
import Derived.Test.YtlhpjinajaociaaDoorRUnder
import Derived.Test.YtlhpjinajaociaaDoorPCut
import Derived.Laws.DeepStrings4
namespace Go.Proofs.YtlhpjinajaociaaDoor.PathDecodesW
open Go.ChangeShapes Go.WideShapes Go.ChangeAt Go.RowKit LexPure Bytes PathPure REsc RUnder PathObj PUnder PCut PathAnchor Mem
set_option linter.unusedVariables false
theorem cut_at {s : List UInt8} {k : Nat} {r : List UInt8} (h : (s.take k).all (fun c => c != 63) = true) (hd : s.drop k = 63 :: r) : cutA s = s.take k ∧ cutB s = r ∧ cutQ s = true := by
  have e : s = s.take k ++ 63 :: r := by rw [← hd, List.take_append_drop]
  have h1 : ∀ x ∈ s.take k, (x != 63) = true := fun x hx => List.all_eq_true.1 h x hx
  have a1 : cutA s = s.take k := by
    unfold cutA
    conv => lhs; rw [e]
    rw [List.takeWhile_append_of_pos h1]
    simp
  have a2 : cutB s = r := by
    unfold cutB
    conv => lhs; rw [e]
    rw [List.dropWhile_append_of_pos h1]
    simp
  have a3 : cutQ s = true := by
    unfold cutQ
    rw [e, List.any_append]
    simp
  exact ⟨a1, a2, a3⟩
theorem cut_none {s : List UInt8} (h : s.all (fun c => c != 63) = true) : cutA s = s ∧ cutB s = [] ∧ cutQ s = false := by
  have h1 : ∀ x ∈ s, (x != 63) = true := fun x hx => List.all_eq_true.1 h x hx
  have a1 : cutA s = s := by
    unfold cutA
    have := List.takeWhile_append_of_pos (l₂ := []) h1
    simpa using this
  have a2 : cutB s = [] := by
    unfold cutB
    have := List.dropWhile_append_of_pos (l₂ := []) h1
    simp at this
    rw [this]
    rfl
  have a3 : cutQ s = false := by
    unfold cutQ
    rw [List.any_eq_false]
    intro x hx
    simpa [bne] using h1 x hx
  exact ⟨a1, a2, a3⟩
set_option maxHeartbeats 1600000 in
theorem walk (s : ByteArray) (w0 : s.size ≤ maxLen) (z0 : s.size ≤ 140737488351232) (t : ByteArray) (w1 : t.size ≤ maxLen) (z1 : t.size ≤ 140737488351232) (w : World) (hsh : w.ShapedOpen Tryd.prog) :
    Calls Tryd.prog 6 #[.string s, .string t] w fun e w' => e = .returned (.bool true) ∧ Below w.heap.size w w' := by
  have HM := Lib.hid (MaxInt.of_shape hsh)
  clear hsh
  have U0 := Lib.hid (fun w => decode_any s (by omega) w)
  have U1 := Lib.hid (fun w => rdecode_any s (by omega) w)
  have U2 := Lib.hid (fun w => under_any s t (by omega) (by omega) w)
  have U3 := Lib.hid (fun w => runder_any s t (by omega) w)
  have U4 := Lib.hid (fun w => cut_full s (by omega) w)
  have q1 : ((ofL ((dec (toL s)).getD [])).toList == (ofL ((dec (toL s)).getD [])).toList) = true := beq_self_eq_true _
  have q2 : ((dec (toL s)).isSome != (dec (toL s)).isSome) = false := bne_self_eq_false _
  have q3 : (under (toL s) (toL t) != under (toL s) (toL t)) = false := bne_self_eq_false _
  generalize ofL ((dec (toL s)).getD []) = A at *
  generalize (dec (toL s)).isSome = B at *
  generalize under (toL s) (toL t) = C at *
  clear w0 w1 z1
  go_enter Tryd.func6, Tryd.ntmps6
  go_wp2_with fail
  refine (anchor_any _ HM.out).mono ?_
  rintro e w1 ⟨rfl, hb1⟩
  go_wp2_with fail
  refine (U0.out _).mono ?_
  rintro e w2 ⟨rfl, hb2⟩
  replace hb1 := below_chain hb1 hb2
  clear hb2
  go_wp2_with fail
  refine (U1.out _).mono ?_
  rintro e w3 ⟨rfl, hb3⟩
  replace hb1 := below_chain hb1 hb3
  clear hb3
  go_wp2_with fail
  refine (U2.out _).mono ?_
  rintro e w4 ⟨rfl, hb4⟩
  replace hb1 := below_chain hb1 hb4
  clear hb4
  go_wp2_with fail
  refine (U3.out _).mono ?_
  rintro e w' ⟨rfl, rfl⟩
  go_wp2_with fail
  refine (U4.out _).mono ?_
  rintro e w5 ⟨rfl, hb5⟩
  replace hb1 := below_chain hb1 hb5
  clear hb5
  go_wp2_with fail
  clear U0 U1 U2 U3 U4
  go_loop [12] (fun i => ∃ k : Nat, k ≤ s.size ∧ i = .int .i64 k ∧ Hid (((toL s).take k).all (fun c => c != 63) = true)) (fun i => s.size - (intOf i).toNat)
  case atStart => exact ⟨0, Nat.zero_le _, rfl, Lib.hid rfl⟩
  case round =>
    obtain ⟨k, hk, rfl, ha⟩ := hrel
    by_cases hlt : k < s.size
    · have hki : (k : Int) < (s.size : Int) := by omega
      by_cases h63 : s[k] = 63
      · have hq : ((s[k].toNat : Int) != 63) = false := by rw [h63]; rfl
        obtain ⟨c1, c2, c3⟩ := cut_at ha.out (r := (toL s).drop (k + 1)) (by rw [toL_drop s k hlt, h63])
        have t1 : ((ofL (cutA (toL s))).toList == (s.extract 0 k).toList) = true := by
          rw [same_text, toL_ofL, toL_extract, c1, List.drop_zero]
          exact beq_self_eq_true _
        have t2 : ((ofL (cutB (toL s))).toList == (s.extract (k + 1) s.size).toList) = true := by
          rw [same_text, toL_ofL, toL_extract, c2, toL_take_all s (Nat.le_refl _)]
          exact beq_self_eq_true _
        have hk1 : ((k : Int) + 1) ≤ (s.size : Int) := by omega
        have HQ := Lib.hid c3
        clear ha h63 c1 c2
        generalize ofL (cutA (toL s)) = X at *
        generalize ofL (cutB (toL s)) = Y at *
        rw [HQ.out]
        clear c3 HQ
        go_wp2_with fail
        go_ret
        exact ⟨rfl, hb1⟩
      · have hq : ((s[k].toNat : Int) != 63) = true := by
          have := all_bytes (p := fun b => (((b.toNat : Int) != 63) == (b != 63))) (by decide +kernel) s[k]
          rw [beq_iff_eq] at this
          rw [this, bne_iff_ne]
          exact h63
        have HA : Hid (((toL s).take (k + 1)).all (fun c => c != 63) = true) := Lib.hid (by
          rw [toL_take_succ s k hlt, List.all_append, ha.out]
          simp [bne, h63])
        clear ha h63
        go_wp2_with fail
        go_round
        case rel => exact ⟨k + 1, by omega, by go_num, HA⟩
        case measure => simp [intOf]; omega
    · have hall : (toL s).all (fun c => c != 63) = true := by
        have := ha.out
        rwa [toL_take_all s (by omega)] at this
      obtain ⟨c1, c2, c3⟩ := cut_none hall
      have hke : k = s.size := by omega
      subst hke
      have t1 : ((ofL (cutA (toL s))).toList == (s.extract 0 s.size).toList) = true := by
        rw [same_text, toL_ofL, toL_extract, c1, List.drop_zero, toL_take_all s (Nat.le_refl _)]
        exact beq_self_eq_true _
      have t3 : ((ofL (cutA (toL s))).toList == s.toList) = true := by
        rw [same_text, toL_ofL, c1]
        exact beq_self_eq_true _
      have t2 : (ofL (cutB (toL s))).toList = [] := by
        rw [ByteArray.toList_eq, c2]
        rfl
      have HQ := Lib.hid c3
      clear ha hall c1 c2
      generalize ofL (cutA (toL s)) = X at *
      generalize ofL (cutB (toL s)) = Y at *
      rw [HQ.out]
      clear c3 HQ
      go_wp2_with fail
      go_ret
      exact ⟨rfl, hb1⟩
end Go.Proofs.YtlhpjinajaociaaDoor.PathDecodesW
