/- Numbers read from digits. No program is named. -/
import Derived.Test.YtlgohmghjffiaaaDoorLexPure
namespace Go.Proofs.YtlgohmghjffiaaaDoor.LexNum
open LexPure Bytes
theorem numV_snoc (base : Nat) (l : List UInt8) (c : UInt8) : numV base (l ++ [c]) = base * numV base l + dig c := by
  simp [numV, List.foldl_append]
theorem numV_lt (base : Nat) (l : List UInt8) (h : l.all (fun c => decide (dig c < base)) = true) : numV base l < base ^ l.length := by
  have key : ∀ r : List UInt8, r.reverse.all (fun c => decide (dig c < base)) = true → numV base r.reverse < base ^ r.length := by
    intro r
    induction r with
    | nil => intro _; simp [numV]
    | cons c r ih =>
      intro h
      rw [List.reverse_cons, List.all_append, Bool.and_eq_true] at h
      have h1 := ih h.1
      have h2 : dig c < base := by simpa using h.2
      rw [List.reverse_cons, numV_snoc, List.length_cons, Nat.pow_succ]
      have h3 : base * (numV base r.reverse + 1) ≤ base * base ^ r.length := Nat.mul_le_mul_left _ h1
      rw [Nat.mul_add, Nat.mul_one, Nat.mul_comm base (base ^ r.length)] at h3
      omega
  have := key l.reverse (by rw [List.reverse_reverse]; exact h)
  rwa [List.reverse_reverse, List.length_reverse] at this
/-- the base and how many digits may be read in it -/
def Fit (base : Nat) (digits : Int) : Prop := (base = 10 ∧ digits ≤ 18) ∨ (base = 16 ∧ digits ≤ 15)
theorem Fit.bound {base : Nat} {digits : Int} (h : Fit base digits) {l : List UInt8} (hl : (l.length : Int) < digits) (ha : l.all (fun c => decide (dig c < base)) = true) : base * numV base l ≤ 1152921504606846976 ∧ base ≤ 16 := by
  have hv := numV_lt base l ha
  rcases h with ⟨rfl, hd⟩ | ⟨rfl, hd⟩
  · have : 10 ^ l.length ≤ 10 ^ 17 := Nat.pow_le_pow_right (by decide) (by omega)
    omega
  · have : 16 ^ l.length ≤ 16 ^ 14 := Nat.pow_le_pow_right (by decide) (by omega)
    omega
/-- where a byte lies among the digits -/
theorem dig_at (b : UInt8) : ((b.toNat : Int) < 48 ∧ dig b = 99) ∨ (48 ≤ (b.toNat : Int) ∧ (b.toNat : Int) ≤ 57 ∧ (dig b : Int) = (b.toNat : Int) - 48) ∨ (57 < (b.toNat : Int) ∧ (b.toNat : Int) < 65 ∧ dig b = 99) ∨
    (65 ≤ (b.toNat : Int) ∧ (b.toNat : Int) ≤ 70 ∧ (dig b : Int) = (b.toNat : Int) - 55) ∨ (70 < (b.toNat : Int) ∧ (b.toNat : Int) < 97 ∧ dig b = 99) ∨ (97 ≤ (b.toNat : Int) ∧ (b.toNat : Int) ≤ 102 ∧ (dig b : Int) = (b.toNat : Int) - 87) ∨ (102 < (b.toNat : Int) ∧ dig b = 99) := by
  have := all_bytes (p := fun b => decide (((b.toNat : Int) < 48 ∧ dig b = 99) ∨ (48 ≤ (b.toNat : Int) ∧ (b.toNat : Int) ≤ 57 ∧ (dig b : Int) = (b.toNat : Int) - 48) ∨ (57 < (b.toNat : Int) ∧ (b.toNat : Int) < 65 ∧ dig b = 99) ∨
    (65 ≤ (b.toNat : Int) ∧ (b.toNat : Int) ≤ 70 ∧ (dig b : Int) = (b.toNat : Int) - 55) ∨ (70 < (b.toNat : Int) ∧ (b.toNat : Int) < 97 ∧ dig b = 99) ∨ (97 ≤ (b.toNat : Int) ∧ (b.toNat : Int) ≤ 102 ∧ (dig b : Int) = (b.toNat : Int) - 87) ∨ (102 < (b.toNat : Int) ∧ dig b = 99))) (by decide +kernel) b
  exact of_decide_eq_true this
theorem dig_le (b : UInt8) : dig b ≤ 99 := by
  have := dig_at b
  omega
end Go.Proofs.YtlgohmghjffiaaaDoor.LexNum
