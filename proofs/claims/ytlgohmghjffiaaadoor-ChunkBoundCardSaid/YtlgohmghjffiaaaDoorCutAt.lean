/- A text cut at its first byte of a kind: ahead of it, behind it. No program is named. -/
import Derived.Test.YtlgohmghjffiaaaDoorBytes
import Derived.Lib.IndexMore
namespace Go.Proofs.YtlgohmghjffiaaaDoor.CutAt
open Bytes
def aheadOf (x : UInt8) (s : List UInt8) : List UInt8 := s.takeWhile (fun c => c != x)
def behind (x : UInt8) (s : List UInt8) : List UInt8 := (s.dropWhile (fun c => c != x)).tail
def hasB (x : UInt8) (s : List UInt8) : Bool := s.any (fun c => c == x)
theorem index_tail (x : UInt8) (c : UInt8) (l : List UInt8) (h : (c == x) = false) : Go.Lib.index (c :: l) [x] = if Go.Lib.index l [x] == -1 then -1 else Go.Lib.index l [x] + 1 := by
  have hp : ([x] : List UInt8).isPrefixOf (c :: l) = false := by
    have : ¬ x = c := fun e => by rw [← e, beq_self_eq_true] at h; cases h
    simp [List.isPrefixOf, this]
  rw [Go.Lib.index, hp]
  rfl
theorem cut_say (x : UInt8) (s : List UInt8) : (Go.Lib.cut s [x]).1 = aheadOf x s ∧ (Go.Lib.cut s [x]).2.1 = behind x s ∧ (Go.Lib.cut s [x]).2.2 = hasB x s := by
  unfold aheadOf behind hasB Go.Lib.cut
  induction s with
  | nil =>
    have : Go.Lib.index [] [x] = -1 := by simp [Go.Lib.index]
    rw [this]
    exact ⟨rfl, rfl, rfl⟩
  | cons c l ih =>
    by_cases hc : c = x
    · subst hc
      have hix : Go.Lib.index (c :: l) [c] = 0 := by rw [Go.Lib.index]; simp [List.isPrefixOf]
      rw [hix]
      simp
    · have hq : (c == x) = false := by simpa using hc
      have hn : (c != x) = true := by simp [hc]
      rw [index_tail x c l hq, List.takeWhile_cons, hn, List.dropWhile_cons, hn, List.any_cons, hq]
      have hge := Go.Lib.index_ge l [x]
      by_cases hm : Go.Lib.index l [x] = -1
      · rw [hm] at ih ⊢
        simp at ih ⊢
        exact ⟨ih.1, ih.2⟩
      · obtain ⟨i, hi⟩ : ∃ i : Nat, Go.Lib.index l [x] = i := ⟨(Go.Lib.index l [x]).toNat, by omega⟩
        rw [hi] at ih ⊢
        have h1 : ((i : Int) == -1) = false := beq_eq_false_iff_ne.2 (by omega)
        have h3 : ((i : Int) + 1).toNat = i + 1 := by omega
        have h4 : (0 : Int) ≤ (i : Int) + 1 := by omega
        have h5 : (0 : Int) ≤ (i : Int) := by omega
        simp only [h1, h3, h4, h5, if_true, Bool.false_eq_true, if_false, Bool.false_or] at ih ⊢
        rw [show i + 1 + ([x] : List UInt8).length = (i + [x].length) + 1 from rfl, List.take_succ_cons, List.drop_succ_cons]
        exact ⟨by rw [← ih.1]; simp, ih.2.1, ih.2.2⟩
end Go.Proofs.YtlgohmghjffiaaaDoor.CutAt
