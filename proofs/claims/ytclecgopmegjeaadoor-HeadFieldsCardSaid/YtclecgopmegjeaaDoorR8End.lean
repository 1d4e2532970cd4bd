/- Layer 8, the document's own End. -/
import Derived.Test.YtclecgopmegjeaaDoorHeadPure
import Derived.Test.YtclecgopmegjeaaDoorLawBase
import Derived.Test.YtclecgopmegjeaaDoorRet
import Derived.Lib.Hide
import Derived.Outline
import Derived.LoopTactic
import Derived.Handy
namespace Go.Proofs.YtclecgopmegjeaaDoor.R8End
open Go.ChangeShapes Go.WideShapes Go.ChangeAt Go.RowKit LexPure Bytes Ret HeadPure
set_option maxRecDepth 20000
/-- a line's end as two numbers: its place (-1: none) and the error -/
def endP (a : Nat) : Line → Int × Int
  | .whole k => ((a : Int) + k, 0)
  | .bad e => (-1, e)
  | .wait => (-1, 0)
theorem ret_two {a b c d : Int} (h : a = b) (k : c = d) : Ending.returned (.tuple #[.int .i64 a, .int .i64 c]) = .returned (.tuple #[.int .i64 b, .int .i64 d]) := by rw [h, k]
theorem mark_end (b : UInt8) : (b = 10 ∧ ((b.toNat : Int) == 10) = true ∧ ((b.toNat : Int) != 10) = false) ∨ (b = 13 ∧ b ≠ 10 ∧ ((b.toNat : Int) == 10) = false ∧ ((b.toNat : Int) != 10) = true ∧ ((b.toNat : Int) == 13) = true) ∨ (b ≠ 10 ∧ b ≠ 13 ∧ ((b.toNat : Int) == 10) = false ∧ ((b.toNat : Int) != 10) = true ∧ ((b.toNat : Int) == 13) = false) := by
  have := all_bytes (p := fun b => decide ((b = 10 ∧ ((b.toNat : Int) == 10) = true ∧ ((b.toNat : Int) != 10) = false) ∨ (b = 13 ∧ b ≠ 10 ∧ ((b.toNat : Int) == 10) = false ∧ ((b.toNat : Int) != 10) = true ∧ ((b.toNat : Int) == 13) = true) ∨ (b ≠ 10 ∧ b ≠ 13 ∧ ((b.toNat : Int) == 10) = false ∧ ((b.toNat : Int) != 10) = true ∧ ((b.toNat : Int) == 13) = false))) (by decide +kernel) b
  exact of_decide_eq_true this
set_option maxHeartbeats 1600000 in
theorem r8end_any (s : ByteArray) (hs : s.size ≤ 140737488351232) (a most : Nat) (over : Int) (ha : a ≤ s.size) (w : World) :
    Calls Tryd.prog 24 #[.string s, .int .i64 (a : Int), .int .i64 (most : Int), .int .i64 over] w fun e w' => e = .returned (.tuple #[.int .i64 (endP a (scan most over 0 ((toL s).drop a))).1, .int .i64 (endP a (scan most over 0 ((toL s).drop a))).2]) ∧ w = w' := by
  go_enter Tryd.func24, Tryd.ntmps24
  go_wp2_with fail
  go_loop [10] (fun i => ∃ k : Nat, a ≤ k ∧ k ≤ s.size ∧ i = .int .i64 k ∧ Hid (scan most over 0 ((toL s).drop a) = scan most over (k - a) ((toL s).drop k))) (fun i => s.size - (intOf i).toNat)
  case atStart => exact ⟨a, Nat.le_refl _, ha, rfl, Lib.hid (by rw [Nat.sub_self])⟩
  case round =>
    obtain ⟨k, hak, hk, rfl, hq⟩ := hrel
    by_cases hlt : k < s.size
    · have hki : (k : Int) < (s.size : Int) := by omega
      have HE : Hid (scan most over 0 ((toL s).drop a) = scan most over (k - a) (s[k] :: (toL s).drop (k + 1))) := Lib.hid (by rw [hq.out, toL_drop s k hlt])
      clear hq
      rcases mark_end s[k] with ⟨c0, c1, c2⟩ | ⟨c0, c9, c1, c2, c3⟩ | ⟨c0, c9, c1, c2, c3⟩
      · have HV : Hid (scan most over 0 ((toL s).drop a) = .bad 80) := Lib.hid (by rw [HE.out, scan_cons, if_pos c0])
        clear HE c0 c2
        go_wp2_with fail
        go_ret2
        rw [HV.out]
        exact ⟨rfl, rfl⟩
      · by_cases hn : k + 1 < s.size
        · have hni : (k : Int) + 1 < (s.size : Int) := by omega
          have hng : ¬ (s.size : Int) ≤ (k : Int) + 1 := by omega
          have HD : Hid (scan most over 0 ((toL s).drop a) = if s[k + 1] = 10 then .whole (k - a) else .bad 80) := Lib.hid (by
            rw [HE.out, scan_cons, if_neg c9, if_pos c0, toL_drop s (k + 1) hn])
          rcases mark_end s[k + 1] with ⟨d0, d1, d2⟩ | ⟨_, d0, d1, d2, _⟩ | ⟨d0, _, d1, d2, _⟩
          · have HV : Hid (scan most over 0 ((toL s).drop a) = .whole (k - a)) := Lib.hid (by rw [HD.out, if_pos d0])
            clear HE HD c0 c9 c2 d0 d1
            go_wp2_with fail
            go_ret2
            rw [HV.out]
            exact ⟨ret_two (show (k : Int) = (a : Int) + ((k - a : Nat) : Int) by omega) rfl, rfl⟩
          · have HV : Hid (scan most over 0 ((toL s).drop a) = .bad 80) := Lib.hid (by rw [HD.out, if_neg d0])
            clear HE HD c0 c9 c2 d0 d1
            go_wp2_with fail
            go_ret2
            rw [HV.out]
            exact ⟨rfl, rfl⟩
          · have HV : Hid (scan most over 0 ((toL s).drop a) = .bad 80) := Lib.hid (by rw [HD.out, if_neg d0])
            clear HE HD c0 c9 c2 d0 d1
            go_wp2_with fail
            go_ret2
            rw [HV.out]
            exact ⟨rfl, rfl⟩
        · have hng : (s.size : Int) ≤ (k : Int) + 1 := by omega
          have HV : Hid (scan most over 0 ((toL s).drop a) = .wait) := Lib.hid (by
            rw [HE.out, scan_cons, if_neg c9, if_pos c0, List.drop_eq_nil_of_le (by rw [toL_length]; omega)])
          clear HE c0 c9 c2
          go_wp2_with fail
          go_ret2
          rw [HV.out]
          exact ⟨rfl, rfl⟩
      · by_cases hm : most ≤ k - a
        · have hmi : (most : Int) ≤ (k : Int) - (a : Int) := by omega
          have HV : Hid (scan most over 0 ((toL s).drop a) = .bad over) := Lib.hid (by rw [HE.out, scan_cons, if_neg c0, if_neg c9, if_pos hm])
          clear HE c0 c9 c2
          go_wp2_with fail
          go_ret2
          rw [HV.out]
          exact ⟨rfl, rfl⟩
        · have hmi : ¬ (most : Int) ≤ (k : Int) - (a : Int) := by omega
          have HV : Hid (scan most over 0 ((toL s).drop a) = scan most over (k + 1 - a) ((toL s).drop (k + 1))) := Lib.hid (by
            rw [HE.out, scan_cons, if_neg c0, if_neg c9, if_neg hm, show k - a + 1 = k + 1 - a by omega])
          clear HE c0 c9 c2
          go_wp2_with fail
          go_round
          case rel => exact ⟨k + 1, by omega, by omega, by go_num, HV⟩
          case measure => simp [intOf]; omega
    · have hki : ¬ (k : Int) < (s.size : Int) := by omega
      have HV : Hid (scan most over 0 ((toL s).drop a) = .wait) := Lib.hid (by rw [hq.out, List.drop_eq_nil_of_le (by rw [toL_length]; omega)]; rfl)
      clear hq
      go_wp2_with fail
      go_ret2
      rw [HV.out]
      exact ⟨rfl, rfl⟩
end Go.Proofs.YtclecgopmegjeaaDoor.R8End
