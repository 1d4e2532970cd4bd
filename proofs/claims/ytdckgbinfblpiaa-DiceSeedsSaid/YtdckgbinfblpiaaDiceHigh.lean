/- The highest 64 bits of a product, reckoned in halves of 32 bits, are those of the product. No program is named. -/
import Derived.Laws.BitsAllLaws
import Derived.IntWalk
namespace Go.Proofs.Ytdckgbinfblpiaa.DiceHigh
theorem and32 (a : Int) (h0 : 0 ≤ a) (h1 : a ≤ 18446744073709551615) : bits .and .u64 a 4294967295 = a % 4294967296 := by
  obtain ⟨n, rfl⟩ := Int.eq_ofNat_of_zero_le h0
  have h : bits .and .u64 (n : Int) ((4294967295 : Nat) : Int) = ((n &&& 4294967295 : Nat) : Int) := u64_and_nat n 4294967295 (by omega) (by decide)
  have e : n &&& 4294967295 = n % 4294967296 := Nat.and_two_pow_sub_one_eq_mod n 32
  rw [e] at h
  rw [Int.natCast_emod] at h
  exact h
def highI (a b : Int) : Int := a * b / 18446744073709551616
theorem mul_bd (x y : Int) (h0 : 0 ≤ x) (h1 : x ≤ 4294967295) (k0 : 0 ≤ y) (k1 : y ≤ 4294967295) : 0 ≤ x * y ∧ x * y ≤ 18446744065119617025 := by
  refine ⟨Int.mul_nonneg h0 k0, ?_⟩
  have := Int.mul_le_mul h1 k1 k0 (by decide)
  omega
theorem parts (a b : Int) : a * b = (a / 4294967296 * (b / 4294967296)) * 18446744073709551616 + (a / 4294967296 * (b % 4294967296)) * 4294967296 + (a % 4294967296 * (b / 4294967296)) * 4294967296 + a % 4294967296 * (b % 4294967296) := by
  have ha : a = a / 4294967296 * 4294967296 + a % 4294967296 := by omega
  have hb : b = b / 4294967296 * 4294967296 + b % 4294967296 := by omega
  generalize a / 4294967296 = x at *
  generalize a % 4294967296 = y at *
  generalize b / 4294967296 = z at *
  generalize b % 4294967296 = t at *
  subst ha hb
  simp only [Int.add_mul, Int.mul_add]
  have e1 : x * 4294967296 * (z * 4294967296) = x * z * 18446744073709551616 := by
    rw [Int.mul_assoc, Int.mul_left_comm 4294967296 z, ← Int.mul_assoc]; rfl
  have e2 : x * 4294967296 * t = x * t * 4294967296 := by rw [Int.mul_assoc, Int.mul_comm 4294967296 t, ← Int.mul_assoc]
  have e3 : y * (z * 4294967296) = y * z * 4294967296 := by rw [← Int.mul_assoc]
  rw [e1, e2, e3]
  omega
theorem high_eq (a b : Int) (h0 : 0 ≤ a) (h1 : a ≤ 18446744073709551615) (k0 : 0 ≤ b) (k1 : b ≤ 18446744073709551615) :
    IntKind.u64.wrap (IntKind.u64.wrap (IntKind.u64.wrap (a / 4294967296 * (b / 4294967296)) +
        IntKind.u64.wrap (IntKind.u64.wrap (a / 4294967296 * bits .and .u64 b 4294967295) + IntKind.u64.wrap (bits .and .u64 a 4294967295 * bits .and .u64 b 4294967295) / 4294967296) / 4294967296) +
      IntKind.u64.wrap (IntKind.u64.wrap (bits .and .u64 a 4294967295 * (b / 4294967296)) +
        bits .and .u64 (IntKind.u64.wrap (IntKind.u64.wrap (a / 4294967296 * bits .and .u64 b 4294967295) + IntKind.u64.wrap (bits .and .u64 a 4294967295 * bits .and .u64 b 4294967295) / 4294967296)) 4294967295) / 4294967296) = highI a b := by
  rw [and32 a h0 h1, and32 b k0 k1]
  have hp := parts a b
  obtain ⟨p0, p1⟩ := mul_bd (a % 4294967296) (b % 4294967296) (by omega) (by omega) (by omega) (by omega)
  obtain ⟨q0, q1⟩ := mul_bd (a / 4294967296) (b % 4294967296) (by omega) (by omega) (by omega) (by omega)
  obtain ⟨r0, r1⟩ := mul_bd (a % 4294967296) (b / 4294967296) (by omega) (by omega) (by omega) (by omega)
  obtain ⟨s0, s1⟩ := mul_bd (a / 4294967296) (b / 4294967296) (by omega) (by omega) (by omega) (by omega)
  have hh : highI a b = a * b / 18446744073709551616 := rfl
  rw [hh, hp]
  clear hh hp
  generalize a % 4294967296 * (b % 4294967296) = P at *
  generalize a / 4294967296 * (b % 4294967296) = Q at *
  generalize a % 4294967296 * (b / 4294967296) = R at *
  generalize a / 4294967296 * (b / 4294967296) = T at *
  rw [IntWalk.u64_in P ⟨by omega, by omega⟩, IntWalk.u64_in Q ⟨by omega, by omega⟩, IntWalk.u64_in R ⟨by omega, by omega⟩, IntWalk.u64_in T ⟨by omega, by omega⟩]
  rw [IntWalk.u64_in (Q + P / 4294967296) ⟨by omega, by omega⟩, and32 (Q + P / 4294967296) (by omega) (by omega)]
  rw [IntWalk.u64_in (T + _) ⟨by omega, by omega⟩, IntWalk.u64_in (R + _) ⟨by omega, by omega⟩]
  rw [IntWalk.u64_in _ ⟨by omega, by omega⟩]
  omega
theorem high_eq' (a b : Int) (h0 : 0 ≤ a) (h1 : a ≤ 18446744073709551615) (k0 : 0 ≤ b) (k1 : b ≤ 18446744073709551615) :
    IntKind.u64.wrap (IntKind.u64.wrap (IntKind.u64.wrap (a / 4294967296 * (b / 4294967296)) +
        IntKind.u64.wrap (IntKind.u64.wrap (a / 4294967296 * bits .and .u64 b 4294967295) + IntKind.u64.wrap (bits .and .u64 a 4294967295 * bits .and .u64 b 4294967295) / 4294967296) / 4294967296) +
      IntKind.u64.wrap (bits .and .u64 (IntKind.u64.wrap (IntKind.u64.wrap (a / 4294967296 * bits .and .u64 b 4294967295) + IntKind.u64.wrap (bits .and .u64 a 4294967295 * bits .and .u64 b 4294967295) / 4294967296)) 4294967295 +
        IntKind.u64.wrap (bits .and .u64 a 4294967295 * (b / 4294967296))) / 4294967296) = highI a b := by
  rw [← high_eq a b h0 h1 k0 k1]
  generalize IntKind.u64.wrap (bits .and .u64 a 4294967295 * (b / 4294967296)) = x
  generalize bits .and .u64 (IntKind.u64.wrap (IntKind.u64.wrap (a / 4294967296 * bits .and .u64 b 4294967295) + IntKind.u64.wrap (bits .and .u64 a 4294967295 * bits .and .u64 b 4294967295) / 4294967296)) 4294967295 = y
  rw [Int.add_comm x y]
/-- it is below the second factor -/
theorem highI_lt (a b : Int) (h0 : 0 ≤ a) (h1 : a ≤ 18446744073709551615) (k0 : 1 ≤ b) : 0 ≤ highI a b ∧ highI a b < b := by
  have h : a * b ≤ 18446744073709551615 * b := Int.mul_le_mul_of_nonneg_right h1 (by omega)
  have h' : 0 ≤ a * b := Int.mul_nonneg h0 (by omega)
  unfold highI
  omega
end Go.Proofs.Ytdckgbinfblpiaa.DiceHigh
