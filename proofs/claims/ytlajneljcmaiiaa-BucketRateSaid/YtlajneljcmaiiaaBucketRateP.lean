/- In any stretch of time no more is taken than the bucket holds and the fillings bring: the numbers. No program is named. -/
import Derived.Test.YtlajneljcmaiiaaBucketObj
namespace Go.Proofs.Ytlajneljcmaiiaa.BucketRateP
open BucketPure BucketObj

/-- so much was taken up to the bucket's time -/
structure Inv (m f e taken : Int) (b : B) : Prop where
  k1 : b.most = m
  k2 : b.fill = f
  k3 : b.every = e
  at_ : b.filled = b.told / e * e
  t0 : 0 ≤ taken
  sum : taken + b.tokens ≤ m + b.told / e * f
variable {m f e taken now x : Int} {b : B}
theorem Inv.start : Inv m f e 0 (full m f e 0) :=
  ⟨rfl, rfl, rfl, by simp [full], Int.le_refl _, by simp [full]⟩
theorem Inv.pass (h : Inv m f e taken b) (hok : Ok b) : Inv m f e taken (pass b now) := by
  obtain ⟨rfl, rfl, rfl, h4, h5, h6⟩ := h
  have hs := fillings_spec hok.e1 now
  have hk : now / b.every = b.told / b.every + fillings b now := by
    refine (quo_iff _ _ _ hok.e1).2 ?_
    rw [Int.add_mul]
    omega
  refine ⟨rfl, rfl, rfl, ?_, h5, ?_⟩
  · show b.filled + fillings b now * b.every = now / b.every * b.every
    rw [hk, Int.add_mul]
    omega
  · show taken + min b.most (b.tokens + fillings b now * b.fill) ≤ b.most + now / b.every * b.fill
    rw [hk, Int.add_mul]
    omega
theorem Inv.less (h : Inv m f e taken b) : Inv m f e (if can b x then taken + x else taken) (less b x) := by
  obtain ⟨h1, h2, h3, h4, h5, h6⟩ := h
  unfold BucketPure.less
  by_cases hc : can b x = true
  · rw [if_pos hc, if_pos hc]
    have := of_decide_eq_true hc
    exact ⟨h1, h2, h3, h4, by omega, by simp only; omega⟩
  · rw [if_neg hc, if_neg hc]
    exact ⟨h1, h2, h3, h4, h5, h6⟩
theorem Inv.taken_le (h : Inv m f e taken b) (hok : Ok b) : taken ≤ m + b.told / e * f := by
  have h1 := h.sum
  have h2 := hok.t1
  omega
theorem can_bd (hok : Ok b) (hc : can b x = true) : 1 ≤ x ∧ x ≤ b.most := by
  have := of_decide_eq_true hc
  have := hok.t2
  omega
end Go.Proofs.Ytlajneljcmaiiaa.BucketRateP
