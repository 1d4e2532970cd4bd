/- Layer 2: the wheel's reckoning: digit, above, place. -/
import Derived.Test.YtcobjejaflikjaaWheelMath
import Derived.Test.YtcobjejaflikjaaRows
import Derived.WalkKit
import Derived.ProofKit
import Derived.OpenShut
import Derived.Below
import Derived.Lib.Hide
import Derived.Outline
import Derived.LoopTactic
namespace Go.Proofs.Ytcobjejaflikjaa.WPure
open Go.RowKit WMath

theorem digit_any (t l : Nat) (hl : l ≤ 7) (w : World) :
    Calls Try.prog 34 #[.int .i64 t, .int .i64 l] w fun e w' => e = .returned (.int .i64 (dig t l : Nat)) ∧ w = w' := by
  go_enter Try.func34, Try.ntmps34
  go_wp2
  go_ret
  exact ⟨congrArg (fun n => Ending.returned (.int .i64 n)) (shr_dig t l), rfl⟩
theorem above_any (t l : Nat) (hl : l ≤ 7) (w : World) :
    Calls Try.prog 37 #[.int .i64 t, .int .i64 l] w fun e w' => e = .returned (.int .i64 (abv t l : Nat)) ∧ w = w' := by
  go_enter Try.func37, Try.ntmps37
  go_wp2
  go_ret
  exact ⟨congrArg (fun n => Ending.returned (.int .i64 n)) (shr_abv t l), rfl⟩
theorem place_any (now t : Nat) (hn : now ≤ 1099511627776) (ht : t ≤ 1099511627776) (w : World) :
    Calls Try.prog 42 #[.int .i64 now, .int .i64 t] w fun e w' => e = .returned (.tuple #[.int .i64 (lev now t : Nat), .int .i64 (dig t (lev now t) : Nat)]) ∧ w = w' := by
  go_enter Try.func42, Try.ntmps42
  go_wp2_with fail
  go_loop [4] (fun lv => ∃ k : Nat, k ≤ lev now t ∧ lv = .int .i64 k) (fun lv => 7 - (intOf lv).toNat)
  case atStart => exact ⟨0, Nat.zero_le _, rfl⟩
  case round =>
    obtain ⟨k, hk, rfl⟩ := hrel
    obtain ⟨h6, hl1, hl2⟩ := lev_spec hn ht
    have HL := Lib.hid hl1
    have HN := Lib.hid hl2
    clear hl1 hl2
    by_cases hlt : k = lev now t
    · have hq : (((abv now k : Nat) : Int) != ((abv t k : Nat) : Int)) = false := by rw [hlt, HL.out]; simp
      have hk6 : k ≤ 6 := by omega
      have HE := Lib.hid hlt
      clear hlt
      go_wp2_with fail
      refine (above_any now k (by omega) w).mono ?_
      rintro e w' ⟨rfl, rfl⟩
      go_wp2_with fail
      refine (above_any t k (by omega) w).mono ?_
      rintro e w' ⟨rfl, rfl⟩
      go_wp2_with fail
      refine (digit_any t k (by omega) w).mono ?_
      rintro e w' ⟨rfl, rfl⟩
      go_wp2_with fail
      go_ret2
      rw [HE.out]
      exact ⟨rfl, rfl⟩
    · have hne : abv now k ≠ abv t k := HN.out k (by omega)
      have hq : (((abv now k : Nat) : Int) != ((abv t k : Nat) : Int)) = true := bne_iff_ne.2 (fun e => hne (by omega))
      have hk6 : k ≤ 5 := by omega
      clear hne
      go_wp2_with fail
      refine (above_any now k (by omega) w).mono ?_
      rintro e w' ⟨rfl, rfl⟩
      go_wp2_with fail
      refine (above_any t k (by omega) w).mono ?_
      rintro e w' ⟨rfl, rfl⟩
      go_wp2_with fail
      go_round
      case rel => exact ⟨k + 1, by omega, by go_num⟩
      case measure => simp [intOf]; omega
end Go.Proofs.Ytcobjejaflikjaa.WPure
