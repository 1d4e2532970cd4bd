/- A bucket as numbers: what passing time does to it. No program is named. -/
import Derived.ProofKit
namespace Go.Proofs.Ytlajneljcmaiiaa.BucketPure

structure B where
  most : Int
  fill : Int
  every : Int
  tokens : Int
  filled : Int
  told : Int

/-- within its bounds, and fillings reckoned as far as they go -/
structure Ok (b : B) : Prop where
  m1 : 1 ≤ b.most
  m2 : b.most ≤ 1073741824
  f1 : 1 ≤ b.fill
  f2 : b.fill ≤ 1073741824
  e1 : 1 ≤ b.every
  e2 : b.every ≤ 1073741824
  t1 : 0 ≤ b.tokens
  t2 : b.tokens ≤ b.most
  l1 : 0 ≤ b.filled
  l2 : b.filled ≤ b.told
  n2 : b.told ≤ 1099511627776

/-- how many fillings come -/
def fillings (b : B) (now : Int) : Int := (now - b.filled) / b.every
/-- how many fillings it takes until there are n -/
def missing (b : B) (n : Int) : Int := (n - b.tokens + b.fill - 1) / b.fill
/-- the bucket behind k fillings, at a time -/
def after (b : B) (k now : Int) : B := { b with tokens := min b.most (b.tokens + k * b.fill), filled := b.filled + k * b.every, told := now }
def pass (b : B) (now : Int) : B := after b (fillings b now) now

theorem quo_iff (a e k : Int) (he : 1 ≤ e) : a / e = k ↔ k * e ≤ a ∧ a < k * e + e := by
  constructor
  · rintro rfl
    have h1 := Int.mul_ediv_add_emod a e
    have h2 := Int.emod_nonneg a (show e ≠ 0 by omega)
    have h3 := Int.emod_lt_of_pos a (show 0 < e by omega)
    rw [Int.mul_comm] at h1
    omega
  · rintro ⟨h1, h2⟩
    have h3 : k ≤ a / e := (Int.le_ediv_iff_mul_le (by omega)).2 h1
    have h4 : a / e < k + 1 := (Int.ediv_lt_iff_lt_mul (by omega)).2 (by rw [Int.add_mul]; omega)
    omega

theorem fillings_spec {b : B} (h : 1 ≤ b.every) (now : Int) : fillings b now * b.every ≤ now - b.filled ∧ now - b.filled < fillings b now * b.every + b.every :=
  (quo_iff _ _ _ h).1 rfl
theorem fillings_nonneg {b : B} (h : 1 ≤ b.every) {now : Int} (hn : b.filled ≤ now) : 0 ≤ fillings b now :=
  Int.ediv_nonneg (by omega) (by omega)
theorem fillings_le {b : B} {now : Int} (hn : b.filled ≤ now) : fillings b now ≤ now - b.filled :=
  Int.ediv_le_self _ (by omega)
theorem missing_spec {b : B} (h : 1 ≤ b.fill) (n : Int) : (missing b n - 1) * b.fill < n - b.tokens ∧ n - b.tokens ≤ missing b n * b.fill := by
  have := (quo_iff (n - b.tokens + b.fill - 1) b.fill (missing b n) h).1 rfl
  rw [Int.sub_mul]
  omega
theorem missing_iff {b : B} (h : 1 ≤ b.fill) (n k : Int) : missing b n ≤ k ↔ n ≤ b.tokens + k * b.fill := by
  have hs := missing_spec h n
  constructor
  · intro hk
    have := Int.mul_le_mul_of_nonneg_right hk (show 0 ≤ b.fill by omega)
    omega
  · intro hk
    rcases Int.lt_or_le k (missing b n) with hl | hl
    · have := Int.mul_le_mul_of_nonneg_right (show k ≤ missing b n - 1 by omega) (show 0 ≤ b.fill by omega)
      omega
    · exact hl
theorem missing_bd {b : B} (h : 1 ≤ b.fill) {n : Int} (hn : b.tokens ≤ n) : 0 ≤ missing b n ∧ missing b n ≤ n - b.tokens := by
  refine ⟨Int.ediv_nonneg (by omega) (by omega), (missing_iff h n _).2 ?_⟩
  have := Int.mul_le_mul_of_nonneg_left h (show 0 ≤ n - b.tokens by omega)
  omega

theorem after_ok {b : B} (h : Ok b) {k now : Int} (hk : 0 ≤ k) (hl : b.filled + k * b.every ≤ now) (hn : now ≤ 1099511627776) : Ok (after b k now) := by
  have h1 : 0 ≤ k * b.fill := Int.mul_nonneg hk (by have := h.f1; omega)
  have h2 : 0 ≤ k * b.every := Int.mul_nonneg hk (by have := h.e1; omega)
  have := h.t1
  have := h.m1
  have := h.l1
  exact ⟨h.m1, h.m2, h.f1, h.f2, h.e1, h.e2, by simp only [after]; omega, by simp only [after]; omega, by simp only [after]; omega, hl, hn⟩
theorem pass_ok {b : B} (h : Ok b) {now : Int} (h1 : b.told ≤ now) (h2 : now ≤ 1099511627776) : Ok (pass b now) := by
  have hs := fillings_spec h.e1 now
  have := h.l2
  exact after_ok h (fillings_nonneg h.e1 (by omega)) (by omega) h2
/-- some fillings ahead change nothing -/
theorem pass_after {b : B} (h : Ok b) {k t now : Int} (hl : b.filled + k * b.every ≤ now) : pass (after b k t) now = pass b now := by
  have he := h.e1
  have hf := h.f1
  have hs := fillings_spec he now
  have e : fillings (after b k t) now = fillings b now - k := by
    refine (quo_iff _ _ _ he).2 ?_
    simp only [after, Int.sub_mul]
    omega
  have hk2 : k ≤ fillings b now := (Int.le_ediv_iff_mul_le (by omega)).2 (by omega)
  have hm : 0 ≤ (fillings b now - k) * b.fill := Int.mul_nonneg (by omega) (by omega)
  unfold pass
  rw [e]
  simp only [after, Int.sub_mul] at hm ⊢
  congr 1 <;> omega
theorem pass_pass {b : B} (h : Ok b) {t now : Int} (h2 : t ≤ now) : pass (pass b t) now = pass b now := by
  have hs := fillings_spec h.e1 t
  exact pass_after h (by omega)
theorem pass_told {b : B} {now : Int} : (pass b now).told = now := rfl
/-- no filling is left -/
theorem pass_done {b : B} (h : Ok b) {now : Int} : fillings (pass b now) now = 0 := by
  have hs := fillings_spec h.e1 now
  refine (quo_iff _ _ _ h.e1).2 ?_
  simp only [pass, after]
  omega
theorem pass_same {b : B} (h : Ok b) (h1 : b.told - b.filled < b.every) : pass b b.told = b := by
  have h2 := h.l2
  have h3 := h.t2
  have e : fillings b b.told = 0 := (quo_iff _ _ _ h.e1).2 (by omega)
  unfold pass
  rw [e]
  cases b
  simp only [after] at *
  congr 1 <;> omega

/-- the full bucket -/
def full (m f e now : Int) : B := ⟨m, f, e, m, now, now⟩
def fits (n : Int) : Bool := decide (1 ≤ n ∧ n ≤ 1073741824)
theorem full_ok {m f e now : Int} (hm : fits m = true) (hf : fits f = true) (he : fits e = true) (h0 : 0 ≤ now) (h1 : now ≤ 1099511627776) : Ok (full m f e now) := by
  have := of_decide_eq_true hm
  have := of_decide_eq_true hf
  have := of_decide_eq_true he
  exact ⟨by simp only [full]; omega, by simp only [full]; omega, by simp only [full]; omega, by simp only [full]; omega, by simp only [full]; omega, by simp only [full]; omega, by simp only [full]; omega, Int.le_refl _, h0, Int.le_refl _, h1⟩

/-- n tokens fewer, if there are so many -/
def can (b : B) (n : Int) : Bool := decide (1 ≤ n ∧ n ≤ b.tokens)
def less (b : B) (n : Int) : B := if can b n then { b with tokens := b.tokens - n } else b
theorem less_ok {b : B} (h : Ok b) (n : Int) : Ok (less b n) := by
  unfold less
  split
  · rename_i hc
    have := of_decide_eq_true hc
    have := h.t2
    exact ⟨h.m1, h.m2, h.f1, h.f2, h.e1, h.e2, by simp only; omega, by simp only; omega, h.l1, h.l2, h.n2⟩
  · exact h
/-- how long until there are n -/
def wait (b : B) (n : Int) : Int := if n ≤ b.tokens then 0 else if b.most < n then -1 else b.filled + missing b n * b.every - b.told
end Go.Proofs.Ytlajneljcmaiiaa.BucketPure
