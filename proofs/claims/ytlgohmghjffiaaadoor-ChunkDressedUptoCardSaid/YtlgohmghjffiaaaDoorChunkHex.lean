/- Layer 10: sizes in hexadecimal, and what is written. No program is named. -/
import Derived.Test.YtlgohmghjffiaaaDoorLexNum
import Derived.Test.YtlgohmghjffiaaaDoorHeadPure
namespace Go.Proofs.YtlgohmghjffiaaaDoor.ChunkHex
open Bytes LexPure LexNum HeadPure
set_option maxRecDepth 20000
/-! ### a size in hexadecimal -/
def hexB (n : Nat) : UInt8 := if n < 10 then UInt8.ofNat (48 + n) else UInt8.ofNat (87 + n)
def hexN (n : Nat) : List UInt8 := if _h : n < 16 then [hexB n] else hexN (n / 16) ++ [hexB (n % 16)]
termination_by n
decreasing_by omega
theorem hexN_small {n : Nat} (h : n < 16) : hexN n = [hexB n] := by
  conv => lhs; unfold hexN
  rw [dif_pos h]
theorem hexN_more {n : Nat} (h : ¬ n < 16) : hexN n = hexN (n / 16) ++ [hexB (n % 16)] := by
  conv => lhs; unfold hexN
  rw [dif_neg h]
theorem hexB_say : ∀ n, n < 16 → dig (hexB n) = n ∧ hexB n ≠ 13 ∧ hexB n ≠ 10 ∧ hexB n ≠ 59 := by
  have : ∀ n : Fin 16, dig (hexB n.1) = n.1 ∧ hexB n.1 ≠ 13 ∧ hexB n.1 ≠ 10 ∧ hexB n.1 ≠ 59 := by decide +kernel
  intro n hn
  exact this ⟨n, hn⟩
theorem hexN_ne (n : Nat) : hexN n ≠ [] := by
  by_cases h : n < 16
  · rw [hexN_small h]; simp
  · rw [hexN_more h]; simp
theorem hexN_val (n : Nat) : numV 16 (hexN n) = n := by
  induction n using Nat.strongRecOn with
  | ind n ih =>
    by_cases h : n < 16
    · rw [hexN_small h]
      have := (hexB_say n h).1
      simp [numV, this]
    · rw [hexN_more h, numV_snoc, ih (n / 16) (by omega), (hexB_say (n % 16) (by omega)).1]
      omega
theorem hexN_all (n : Nat) : ∀ c ∈ hexN n, dig c < 16 ∧ c ≠ 13 ∧ c ≠ 10 ∧ c ≠ 59 := by
  induction n using Nat.strongRecOn with
  | ind n ih =>
    intro c hc
    by_cases h : n < 16
    · rw [hexN_small h, List.mem_singleton] at hc
      subst hc
      obtain ⟨h1, h2⟩ := hexB_say n h
      exact ⟨by omega, h2⟩
    · rw [hexN_more h, List.mem_append, List.mem_singleton] at hc
      rcases hc with hc | rfl
      · exact ih (n / 16) (by omega) c hc
      · obtain ⟨h1, h2⟩ := hexB_say (n % 16) (by omega)
        exact ⟨by omega, h2⟩
theorem hexN_len (k : Nat) : ∀ n, n < 16 ^ (k + 1) → (hexN n).length ≤ k + 1 := by
  induction k with
  | zero =>
    intro n h
    rw [hexN_small (by omega)]
    exact Nat.le_refl _
  | succ k ih =>
    intro n h
    by_cases h2 : n < 16
    · rw [hexN_small h2]
      simp
    · rw [hexN_more h2, List.length_append, List.length_singleton]
      have := ih (n / 16) (by rw [Nat.pow_succ] at h; omega)
      omega
def enc (t : List UInt8) : List UInt8 := if t = [] then [] else hexN t.length ++ [13, 10] ++ t ++ [13, 10]
def lastL : List UInt8 := [48, 13, 10, 13, 10]
theorem enc_len (t : List UInt8) (h : t.length < 4294967296) : (enc t).length ≤ 13 * t.length := by
  unfold enc
  by_cases h0 : t = []
  · rw [if_pos h0]
    simp
  · rw [if_neg h0]
    have := List.length_pos_iff.2 h0
    have := hexN_len 7 t.length h
    simp only [List.length_append, List.length_cons, List.length_nil]
    omega
end Go.Proofs.YtlgohmghjffiaaaDoor.ChunkHex
