/- Layer 8 of the program: nextLine. -/
import Derived.Test.YtclecgopmegjeaaDoorHeadPure
import Derived.Test.YtclecgopmegjeaaDoorLawBase
import Derived.Test.YtclecgopmegjeaaDoorRet
import Derived.Lib.Hide
import Derived.Outline
import Derived.LoopTactic
import Derived.Handy
import Derived.Laws.DeepStrings4
namespace Go.Proofs.YtclecgopmegjeaaDoor.PNext
open Go.ChangeShapes Go.WideShapes Go.ChangeAt Go.RowKit LexPure Bytes Ret HeadPure
set_option maxRecDepth 20000
/-- a line as the program tells it: its bytes, whether it is whole, the error -/
def lineT (s : List UInt8) : Line → List UInt8
  | .whole k => s.take k
  | _ => []
def lineB : Line → Bool
  | .whole _ => true
  | _ => false
def lineE : Line → Int
  | .bad e => e
  | _ => 0
theorem ret_line {a b : ByteArray} (h : a = b) {p q : Bool} (k : p = q) {x y : Int} (l : x = y) : Ending.returned (.tuple #[.string a, .bool p, .int .i64 x]) = .returned (.tuple #[.string b, .bool q, .int .i64 y]) := by rw [h, k, l]
theorem mark_line (b : UInt8) : (b = 10 ∧ ((b.toNat : Int) == 10) = true ∧ ((b.toNat : Int) == 13) = false) ∨ (b = 13 ∧ b ≠ 10 ∧ ((b.toNat : Int) == 10) = false ∧ ((b.toNat : Int) == 13) = true) ∨ (b ≠ 10 ∧ b ≠ 13 ∧ ((b.toNat : Int) == 10) = false ∧ ((b.toNat : Int) == 13) = false) := by
  have := all_bytes (p := fun b => decide ((b = 10 ∧ ((b.toNat : Int) == 10) = true ∧ ((b.toNat : Int) == 13) = false) ∨ (b = 13 ∧ b ≠ 10 ∧ ((b.toNat : Int) == 10) = false ∧ ((b.toNat : Int) == 13) = true) ∨ (b ≠ 10 ∧ b ≠ 13 ∧ ((b.toNat : Int) == 10) = false ∧ ((b.toNat : Int) == 13) = false))) (by decide +kernel) b
  exact of_decide_eq_true this
set_option maxHeartbeats 1600000 in
theorem pnext_any (s : ByteArray) (hs : s.size ≤ 4611686018427387904) (most : Nat) (over : Int) (w : World) :
    Calls Tryd.prog 37 #[.string s, .int .i64 (most : Int), .int .i64 over] w fun e w' => e = .returned (.tuple #[.string (ofL (lineT (toL s) (scan most over 0 (toL s)))), .bool (lineB (scan most over 0 (toL s))), .int .i64 (lineE (scan most over 0 (toL s)))]) ∧ w' = w := by
  go_enter Tryd.func37, Tryd.ntmps37
  go_wp2_with fail
  go_loop [12] (fun i => ∃ k : Nat, k ≤ s.size ∧ i = .int .i64 k ∧ Hid (scan most over 0 (toL s) = scan most over k ((toL s).drop k))) (fun i => s.size - (intOf i).toNat)
  case atStart => exact ⟨0, Nat.zero_le _, rfl, Lib.hid rfl⟩
  case round =>
    obtain ⟨k, hk, rfl, hq⟩ := hrel
    by_cases hlt : k < s.size
    · have hki : (k : Int) < (s.size : Int) := by omega
      have HE : Hid (scan most over 0 (toL s) = scan most over k (s[k] :: (toL s).drop (k + 1))) := Lib.hid (by rw [hq.out, toL_drop s k hlt])
      clear hq
      rcases mark_line s[k] with ⟨c0, c1, c2⟩ | ⟨c0, c9, c1, c2⟩ | ⟨c0, c9, c1, c2⟩
      · have HV : Hid (scan most over 0 (toL s) = .bad 80) := Lib.hid (by rw [HE.out, scan_cons, if_pos c0])
        clear HE c0 c2
        go_wp2_with fail
        go_ret3
        rw [HV.out]
        exact ⟨rfl, rfl⟩
      · by_cases hn : k + 1 < s.size
        · have hni : (k : Int) + 1 < (s.size : Int) := by omega
          have hng : ((k : Int) + 1 == (s.size : Int)) = false := beq_eq_false_iff_ne.2 (by omega)
          have HD : Hid (scan most over 0 (toL s) = if s[k + 1] = 10 then .whole k else .bad 80) := Lib.hid (by
            rw [HE.out, scan_cons, if_neg c9, if_pos c0, toL_drop s (k + 1) hn])
          rcases mark_line s[k + 1] with ⟨d0, d1, d2⟩ | ⟨_, d0, d1, d2⟩ | ⟨d0, _, d1, d2⟩
          · have HV : Hid (scan most over 0 (toL s) = .whole k) := Lib.hid (by rw [HD.out, if_pos d0])
            have HT : Hid (s.extract 0 k = ofL ((toL s).take k)) := Lib.hid (toL_inj (by rw [toL_extract, toL_ofL, List.drop_zero]))
            clear HE HD c0 c9 d0 d2
            go_wp2_with fail
            go_ret3
            rw [HV.out]
            exact ⟨ret_line HT.out rfl rfl, rfl⟩
          · have HV : Hid (scan most over 0 (toL s) = .bad 80) := Lib.hid (by rw [HD.out, if_neg d0])
            clear HE HD c0 c9 d0 d2
            go_wp2_with fail
            go_ret3
            rw [HV.out]
            exact ⟨rfl, rfl⟩
          · have HV : Hid (scan most over 0 (toL s) = .bad 80) := Lib.hid (by rw [HD.out, if_neg d0])
            clear HE HD c0 c9 d0 d2
            go_wp2_with fail
            go_ret3
            rw [HV.out]
            exact ⟨rfl, rfl⟩
        · have hng : ((k : Int) + 1 == (s.size : Int)) = true := by rw [beq_iff_eq]; omega
          have HV : Hid (scan most over 0 (toL s) = .wait) := Lib.hid (by
            rw [HE.out, scan_cons, if_neg c9, if_pos c0, List.drop_eq_nil_of_le (by rw [toL_length]; omega)])
          clear HE c0 c9 hn
          go_wp2_with fail
          go_ret3
          rw [HV.out]
          exact ⟨rfl, rfl⟩
      · by_cases hm : most ≤ k
        · have hmi : (most : Int) ≤ (k : Int) := by omega
          have HV : Hid (scan most over 0 (toL s) = .bad over) := Lib.hid (by rw [HE.out, scan_cons, if_neg c0, if_neg c9, if_pos hm])
          clear HE c0 c9
          go_wp2_with fail
          go_ret3
          rw [HV.out]
          exact ⟨rfl, rfl⟩
        · have hmi : ¬ (most : Int) ≤ (k : Int) := by omega
          have HV : Hid (scan most over 0 (toL s) = scan most over (k + 1) ((toL s).drop (k + 1))) := Lib.hid (by
            rw [HE.out, scan_cons, if_neg c0, if_neg c9, if_neg hm])
          clear HE c0 c9
          go_wp2_with fail
          go_round
          case rel => exact ⟨k + 1, by omega, by go_num, HV⟩
          case measure => simp [intOf]; omega
    · have hki : ¬ (k : Int) < (s.size : Int) := by omega
      have HV : Hid (scan most over 0 (toL s) = .wait) := Lib.hid (by rw [hq.out, List.drop_eq_nil_of_le (by rw [toL_length]; omega)]; rfl)
      clear hq
      go_wp2_with fail
      go_ret3
      rw [HV.out]
      exact ⟨rfl, rfl⟩
end Go.Proofs.YtclecgopmegjeaaDoor.PNext
