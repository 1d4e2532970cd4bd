/- After just as long as Wait tells there are that many tokens, and a tick earlier there aren't: the numbers. No program is named. -/
import Derived.Test.YtlajneljcmaiiaaBucketObj
namespace Go.Proofs.Ytlajneljcmaiiaa.BucketWaitsP
open BucketPure BucketObj
variable {b : B} {n now : Int}

theorem pass_fresh (hok : Ok b) : (pass b now).told - (pass b now).filled < (pass b now).every := by
  have hs := fillings_spec hok.e1 now
  show now - (b.filled + fillings b now * b.every) < b.every
  omega
theorem wait_over (hok : Ok b) (hn : b.most < n) : wait b n = -1 := by
  have := hok.t2
  unfold wait
  rw [if_neg (by omega), if_pos hn]
theorem wait_spec (hok : Ok b) (hd : b.told - b.filled < b.every) (hn : n ≤ b.most) :
    0 ≤ wait b n ∧ wait b n ≤ (b.most * b.every) ∧ (0 < wait b n → (pass b (b.told + wait b n - 1)).tokens < n) ∧ n ≤ (pass b (b.told + wait b n)).tokens := by
  have he := hok.e1
  have hf := hok.f1
  have ht := hok.t1
  have ht2 := hok.t2
  have hl := hok.l2
  have hm := hok.m1
  unfold wait
  by_cases h1 : n ≤ b.tokens
  · rw [if_pos h1]
    refine ⟨Int.le_refl _, Int.mul_nonneg (by omega) (by omega), by omega, ?_⟩
    rw [show b.told + 0 = b.told by omega, pass_same hok hd]
    exact h1
  · rw [if_neg h1, if_neg (by omega)]
    have hb := missing_bd (b := b) hf (n := n) (by omega)
    have hms := missing_spec (b := b) hf n
    have hm1 : 1 ≤ missing b n := by
      rcases Int.lt_or_le (missing b n) 1 with h | h
      · have e0 : missing b n = 0 := by omega
        rw [e0] at hms
        omega
      · exact h
    have hp : 1 * b.every ≤ missing b n * b.every := Int.mul_le_mul_of_nonneg_right hm1 (by omega)
    have hq : missing b n * b.every ≤ b.most * b.every := Int.mul_le_mul_of_nonneg_right (by omega) (by omega)
    refine ⟨by omega, by omega, fun _ => ?_, ?_⟩
    · have hk : fillings b (b.told + (b.filled + missing b n * b.every - b.told) - 1) = missing b n - 1 := by
        refine (quo_iff _ _ _ he).2 ?_
        rw [Int.sub_mul]
        omega
      unfold pass
      rw [hk]
      show min b.most (b.tokens + (missing b n - 1) * b.fill) < n
      omega
    · have hk : fillings b (b.told + (b.filled + missing b n * b.every - b.told)) = missing b n := by
        refine (quo_iff _ _ _ he).2 ?_
        omega
      unfold pass
      rw [hk]
      show n ≤ min b.most (b.tokens + missing b n * b.fill)
      omega
end Go.Proofs.Ytlajneljcmaiiaa.BucketWaitsP
