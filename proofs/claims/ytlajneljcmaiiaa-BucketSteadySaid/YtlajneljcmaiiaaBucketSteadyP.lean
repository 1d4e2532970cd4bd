/- Who takes one token as soon as it is there: the numbers. No program is named. -/
import Derived.Test.YtlajneljcmaiiaaBucketObj
namespace Go.Proofs.Ytlajneljcmaiiaa.BucketSteadyP
open BucketPure BucketObj

/-- behind q fillings that were of use, with t tokens -/
def st (m f e q t : Int) : B := ⟨m, f, e, t, q * e, q * e⟩
structure Inv (m f e i q t : Int) : Prop where
  q0 : 0 ≤ q
  t0 : 0 ≤ t
  sum : i + t = m + q * min f m
  low : 1 ≤ q → t < min f m
structure In (m f e : Int) : Prop where
  m1 : 1 ≤ m
  m2 : m ≤ 50
  f1 : 1 ≤ f
  f2 : f ≤ 50
  e1 : 1 ≤ e
  e2 : e ≤ 1000
def nq (q t : Int) : Int := if 1 ≤ t then q else q + 1
def nt (m f t : Int) : Int := if 1 ≤ t then t - 1 else min f m - 1

section
variable {m f e i q t : Int}
theorem Inv.q_le (h : Inv m f e i q t) (hn : In m f e) (hi : 0 ≤ i) : q ≤ i := by
  have h1 := h.sum
  have h2 := hn.f1
  have h3 := hn.m1
  rcases Int.lt_or_le q 1 with hq | hq
  · omega
  · have h4 := h.low hq
    have h5 : q * 1 ≤ q * min f m := Int.mul_le_mul_of_nonneg_left (by omega) (by omega)
    omega
theorem Inv.t_le (h : Inv m f e i q t) (hi : 0 ≤ i) : t ≤ m := by
  have h1 := h.sum
  rcases Int.lt_or_le q 1 with hq | hq
  · have := h.q0
    have e0 : q = 0 := by omega
    subst e0
    omega
  · have := h.low hq
    omega
theorem Inv.ok (h : Inv m f e i q t) (hn : In m f e) (hi : 0 ≤ i) (hi5 : i ≤ 500) : Ok (st m f e q t) := by
  have h1 := h.q_le hn hi
  have h2 := h.t_le hi
  have h3 : 0 ≤ q * e := Int.mul_nonneg h.q0 (by have := hn.e1; omega)
  have h4 : q * e ≤ 500 * 1000 := Int.mul_le_mul (by omega) hn.e2 (by have := hn.e1; omega) (by omega)
  obtain ⟨a1, a2, a3, a4, a5, a6⟩ := hn
  exact ⟨a1, by simp only [st]; omega, a3, by simp only [st]; omega, a5, by simp only [st]; omega, h.t0, h2, h3, Int.le_refl _, by simp only [st]; omega⟩
theorem Inv.start (hn : In m f e) : Inv m f e 0 0 m := ⟨Int.le_refl _, by have := hn.m1; omega, by omega, by omega⟩
theorem Inv.next (h : Inv m f e i q t) (hn : In m f e) : Inv m f e (i + 1) (nq q t) (nt m f t) := by
  have h1 := h.sum
  have h2 := hn.f1
  have h3 := hn.m1
  have h4 := h.q0
  have h5 := h.t0
  unfold nq nt
  split
  · exact ⟨h4, by omega, by omega, fun hq => by have := h.low hq; omega⟩
  · refine ⟨by omega, by omega, ?_, fun _ => by omega⟩
    rw [Int.add_mul]
    omega
/-- the time is the document's -/
theorem Inv.want_early (h : Inv m f e i q t) (hi : i < m) : nq q t = 0 := by
  have h1 := h.sum
  have h4 := h.q0
  have hq : ¬ 1 ≤ q := fun hq => by
    have h2 := h.low hq
    have h5 : 1 * min f m ≤ q * min f m := Int.mul_le_mul_of_nonneg_right hq (by have := h.t0; omega)
    omega
  have e0 : q = 0 := by omega
  subst e0
  unfold nq
  rw [if_pos (by omega)]
theorem Inv.want_late (h : Inv m f e i q t) (hn : In m f e) (hi : m ≤ i) : (i - m) / min f m + 1 = nq q t := by
  have h1 := h.sum
  have h2 := hn.f1
  have h3 := hn.m1
  have h4 := h.q0
  have h5 := h.t0
  have : (i - m) / min f m = nq q t - 1 := by
    refine (quo_iff _ _ _ (by omega)).2 ?_
    unfold nq
    split
    · have hq : 1 ≤ q := by
        rcases Int.lt_or_le q 1 with hq | hq
        · have e0 : q = 0 := by omega
          subst e0
          omega
        · exact hq
      have := h.low hq
      rw [Int.sub_mul]
      omega
    · rw [show q + 1 - 1 = q by omega]
      omega
  omega
theorem pass_now (h : Inv m f e i q t) (hn : In m f e) (hi : 0 ≤ i) (hi5 : i ≤ 500) : pass (st m f e q t) (q * e) = st m f e q t :=
  pass_same (h.ok hn hi hi5) (by have := hn.e1; simp only [st]; omega)
theorem late_not (h : Inv m f e i q t) (hn : In m f e) (hi : 0 ≤ i) (hi5 : i ≤ 500) : ¬ late (st m f e q t) (q * e) := by
  have := (h.ok hn hi hi5).n2
  unfold late
  simp only [st] at this ⊢
  omega
theorem wait_now (h : Inv m f e i q t) (hn : In m f e) (hi : 0 ≤ i) (hi5 : i ≤ 500) :
    passE (st m f e q t) (q * e) = 0 ∧ passB (st m f e q t) (q * e) = st m f e q t ∧ (if late (st m f e q t) (q * e) then 0 else wait (pass (st m f e q t) (q * e)) 1) = nq q t * e - q * e := by
  have hl := late_not h hn hi hi5
  refine ⟨by unfold passE; rw [if_neg hl], by unfold passB; rw [if_neg hl, pass_now h hn hi hi5], ?_⟩
  rw [if_neg hl, pass_now h hn hi hi5]
  have h5 := h.t0
  have h3 := hn.m1
  unfold wait nq
  by_cases ht : 1 ≤ t
  · rw [if_pos (by exact ht), if_pos ht]
    omega
  · rw [if_neg (by exact ht), if_neg (by simp only [st]; omega), if_neg ht]
    have e0 : t = 0 := by omega
    have hm : missing (st m f e q t) 1 = 1 := by
      have := hn.f1
      refine (quo_iff _ _ _ (by exact hn.f1)).2 ?_
      simp only [st]
      omega
    rw [hm, Int.add_mul]
    simp only [st]
theorem take_now (h : Inv m f e i q t) (hn : In m f e) (hi : 0 ≤ i) (hi5 : i ≤ 500) :
    ¬ late (st m f e q t) (nq q t * e) ∧ can (pass (st m f e q t) (nq q t * e)) 1 = true ∧ less (pass (st m f e q t) (nq q t * e)) 1 = st m f e (nq q t) (nt m f t) := by
  have h5 := h.t0
  have h3 := hn.m1
  have h2 := hn.f1
  have he := hn.e1
  have hok := h.ok hn hi hi5
  have hl := late_not h hn hi hi5
  have hql := h.q_le hn hi
  have hqe : q * e ≤ 500 * 1000 := Int.mul_le_mul (by omega) hn.e2 (by omega) (by omega)
  unfold nq nt
  by_cases ht : 1 ≤ t
  · rw [if_pos ht, if_pos ht, pass_now h hn hi hi5]
    have hc : can (st m f e q t) 1 = true := decide_eq_true ⟨by omega, by exact ht⟩
    refine ⟨hl, hc, ?_⟩
    unfold less
    rw [if_pos hc]
    rfl
  · rw [if_neg ht, if_neg ht]
    have e0 : t = 0 := by omega
    have e2 := hn.e2
    have hp : pass (st m f e q t) ((q + 1) * e) = st m f e (q + 1) (min f m) := by
      have hk : fillings (st m f e q t) ((q + 1) * e) = 1 := by
        refine (quo_iff _ _ _ (by exact hn.e1)).2 ?_
        simp only [st]
        rw [Int.add_mul]
        omega
      unfold pass
      rw [hk]
      simp only [after, st]
      congr 1
      · omega
      · rw [Int.add_mul]
    rw [hp]
    have hc : can (st m f e (q + 1) (min f m)) 1 = true := decide_eq_true ⟨by omega, by simp only [st]; omega⟩
    refine ⟨?_, hc, ?_⟩
    · unfold late
      rw [Int.add_mul]
      simp only [st]
      omega
    · unfold less
      rw [if_pos hc]
      rfl
end
end Go.Proofs.Ytlajneljcmaiiaa.BucketSteadyP
