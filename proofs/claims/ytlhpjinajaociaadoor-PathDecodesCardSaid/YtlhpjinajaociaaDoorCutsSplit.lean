/- The shelf's words for strings.Split at a slash, and the grammar's: they say one thing. No program is named. -/
import Derived.Test.YtlhpjinajaociaaDoorPathPure

import Derived.Lib.SplitLaws
import Derived.Lib.Bytealg
namespace Go.Proofs.YtlhpjinajaociaaDoor.CutsSplit
open LexPure Bytes PathPure
/-! ### Split -/
theorem index_cons (c : UInt8) (l : List UInt8) (h : (c == 47) = false) : Go.Lib.index (c :: l) [47] = if Go.Lib.index l [47] == -1 then -1 else Go.Lib.index l [47] + 1 := by
  have hp : ([47] : List UInt8).isPrefixOf (c :: l) = false := by
    have : ¬ (47 : UInt8) = c := fun e => by rw [← e] at h; cases h
    simp [List.isPrefixOf, this]
  rw [Go.Lib.index, hp]
  rfl
theorem split_cuts : ∀ s : List UInt8, Go.Lib.splitK [47] 0 (s.count 47) s = cuts s
  | [] => rfl
  | c :: l => by
    by_cases hc : c = 47
    · subst hc
      have hix : Go.Lib.index (47 :: l) [47] = 0 := by rw [Go.Lib.index]; simp [List.isPrefixOf]
      rw [List.count_cons_self, Go.Lib.splitK, hix, if_neg (by decide), cuts, if_pos (by decide), ← split_cuts l]
      rfl
    · have hq : (c == 47) = false := by simpa using hc
      have ih := split_cuts l
      rw [List.count_cons_of_ne (by simpa using hc), cuts, if_neg (by simp [hq]), ← ih]
      cases hk : l.count 47 with
      | zero => rfl
      | succ k =>
        unfold Go.Lib.splitK
        rw [index_cons c l hq]
        by_cases hm : Go.Lib.index l [47] = -1
        · rw [hm]; rfl
        · have hge := Go.Lib.index_ge l [47]
          obtain ⟨i, hi⟩ : ∃ i : Nat, Go.Lib.index l [47] = i := ⟨(Go.Lib.index l [47]).toNat, by omega⟩
          rw [hi]
          have h1 : ((i : Int) == -1) = false := beq_eq_false_iff_ne.2 (by omega)
          have h2 : (((i : Int) + 1) == -1) = false := beq_eq_false_iff_ne.2 (by omega)
          have h3 : ((i : Int) + 1).toNat = i + 1 := by omega
          have h4 : ((i : Int)).toNat = i := by omega
          simp [h1, h2, h3, h4]
/-- the marks that are plain beside digits and letters -/
def plainA : ByteArray := ⟨#[45, 46, 95, 126]⟩
def plainI (b : UInt8) : Int := Go.Lib.indexByte plainA.data.toList b
theorem plain_cases (b : UInt8) : plainP b.toNat = (decide (48 ≤ (b.toNat : Int) ∧ (b.toNat : Int) ≤ 57) || decide (65 ≤ (b.toNat : Int) ∧ (b.toNat : Int) ≤ 90) || decide (97 ≤ (b.toNat : Int) ∧ (b.toNat : Int) ≤ 122) || decide (0 ≤ plainI b)) := by
  have := all_bytes (p := fun b => plainP b.toNat == (decide (48 ≤ (b.toNat : Int) ∧ (b.toNat : Int) ≤ 57) || decide (65 ≤ (b.toNat : Int) ∧ (b.toNat : Int) ≤ 90) || decide (97 ≤ (b.toNat : Int) ∧ (b.toNat : Int) ≤ 122) || decide (0 ≤ plainI b))) (by decide +kernel) b
  simpa using this
theorem okc_cases (b : UInt8) : okc b = decide (32 < (b.toNat : Int) ∧ (b.toNat : Int) < 127 ∧ ¬ (b.toNat : Int) = 63 ∧ ¬ (b.toNat : Int) = 35) := by
  have := all_bytes (p := fun b => okc b == decide (32 < (b.toNat : Int) ∧ (b.toNat : Int) < 127 ∧ ¬ (b.toNat : Int) = 63 ∧ ¬ (b.toNat : Int) = 35)) (by decide +kernel) b
  simpa using this
end Go.Proofs.YtlhpjinajaociaaDoor.CutsSplit
