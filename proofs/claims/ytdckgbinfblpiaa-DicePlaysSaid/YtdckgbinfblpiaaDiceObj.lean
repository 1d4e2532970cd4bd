/- Layer 1's dice, the program's and the document's: what each call does to its state. -/
import Derived.Test.YtdckgbinfblpiaaDiceWalks
import Derived.Test.YtdckgbinfblpiaaDiceHigh
import Derived.Test.YtdckgbinfblpiaaMem
namespace Go.Proofs.Ytdckgbinfblpiaa.DiceObj
open Go.ChangeShapes Go.WideShapes Go.ChangeAt Go.RowKit DiceMath DiceWalks DiceHigh Mem

theorem mul_any (a b : Int) (h0 : 0 ≤ a) (h1 : a ≤ 18446744073709551615) (k0 : 0 ≤ b) (k1 : b ≤ 18446744073709551615) (w : World) :
    Calls Try.prog 22 #[.int .u64 a, .int .u64 b] w fun e w' => e = .returned (.tuple #[.int .u64 (highI a b), .int .u64 (IntKind.u64.wrap (a * b))]) ∧ w = w' := by
  go_enter Try.func22, Try.ntmps22
  go_wp2
  go_ret2
  exact ⟨congrArg (fun n => Ending.returned (.tuple #[.int .u64 n, .int .u64 (IntKind.u64.wrap (a * b))])) (high_eq' a b h0 h1 k0 k1), rfl⟩
theorem high_any (a b : Int) (h0 : 0 ≤ a) (h1 : a ≤ 18446744073709551615) (k0 : 0 ≤ b) (k1 : b ≤ 18446744073709551615) (w : World) :
    Calls Try.prog 23 #[.int .u64 a, .int .u64 b] w fun e w' => e = .returned (.int .u64 (highI a b)) ∧ w = w' := by
  go_enter Try.func23, Try.ntmps23
  go_wp2
  go_ret
  exact ⟨ret_u64 (high_eq a b h0 h1 k0 k1), rfl⟩
theorem new_any (s : Int) (w : World) :
    Calls Try.prog 10 #[.int .i64 s] w fun e w' => e = .returned (.pointer (some ⟨w.heap.size, 0, none⟩)) ∧ w.alloc (.cells #[.int .u64 (IntKind.u64.wrap s), .int .i64 0] 47) = w' := by
  go_enter Try.func10, Try.ntmps10
  go_wp2
  go_ret
  exact ⟨rfl, rfl⟩
/-- the next state -/
def stepI (s : Int) : Int := IntKind.u64.wrap (s + 11400714819323198485)
theorem stepI_bd (s : Int) : 0 ≤ stepI s ∧ stepI s ≤ 18446744073709551615 := by
  unfold stepI
  rw [IntKind.wrap_u64]
  omega
def upI (n : Int) : Int := wrap64 (n + 1)
/-- what a draw does to the program's dice, and to the document's -/
theorem next_any (g : Nat) (s n : Int) (w : World) (h : Has w g 47 #[.int .u64 s, .int .i64 n]) :
    Calls Try.prog 11 #[.pointer (some ⟨g, 0, none⟩)] w fun e w' => e = .returned (.int .u64 (mixI (stepI s))) ∧ Has w' g 47 #[.int .u64 (stepI s), .int .i64 (upI n)] ∧ w.grownBy w' (some g) := by
  have c0 := h.cell 0
  have c1 := h.cell 1
  have f0 := h.free 0
  have f1 := h.free 1
  have b := stepI_bd s
  go_enter Try.func11, Try.ntmps11
  go_wp2_with fail
  refine (mix_any (stepI s) b.1 b.2 _).mono ?_
  rintro e w' ⟨rfl, rfl⟩
  go_wp2_with fail
  go_ret
  exact ⟨rfl, (h.set_ 0 _).set_ 1 _, own_set (own_set (World.grownBy.refl w _) 0 _) 1 _⟩
theorem rnext_any (g : Nat) (s n : Int) (w : World) (h : Has w g 29 #[.int .u64 s, .int .i64 n]) :
    Calls Try.prog 12 #[.pointer (some ⟨g, 0, none⟩)] w fun e w' => e = .returned (.int .u64 (mixI (stepI s))) ∧ Has w' g 29 #[.int .u64 (stepI s), .int .i64 (upI n)] ∧ w.grownBy w' (some g) := by
  have c0 := h.cell 0
  have c1 := h.cell 1
  have f0 := h.free 0
  have f1 := h.free 1
  have b := stepI_bd s
  go_enter Try.func12, Try.ntmps12
  go_wp2_with fail
  refine (rmix_any (stepI s) b.1 b.2 _).mono ?_
  rintro e w' ⟨rfl, rfl⟩
  go_wp2_with fail
  go_ret
  exact ⟨rfl, (h.set_ 0 _).set_ 1 _, own_set (own_set (World.grownBy.refl w _) 0 _) 1 _⟩
/-- a draw below n, and what it leaves -/
def belowI (s n : Int) : Int := if n < 1 then 0 else highI (mixI (stepI s)) n
def bS (s n : Int) : Int := if n < 1 then s else stepI s
def bN (k n : Int) : Int := if n < 1 then k else upI k
theorem bS_bd (s n : Int) (h0 : 0 ≤ s) (h1 : s ≤ 18446744073709551615) : 0 ≤ bS s n ∧ bS s n ≤ 18446744073709551615 := by
  unfold bS
  split
  · exact ⟨h0, h1⟩
  · exact stepI_bd s
theorem belowI_bd (s n : Int) : 0 ≤ belowI s n ∧ (1 ≤ n → belowI s n < n) ∧ (n < 1 → belowI s n = 0) := by
  unfold belowI
  have b := mixI_bd (stepI s)
  split
  · exact ⟨by omega, by omega, fun _ => rfl⟩
  · have := highI_lt (mixI (stepI s)) n b.1 b.2 (by omega)
    exact ⟨this.1, fun _ => this.2, by omega⟩
theorem below_any (g : Nat) (s k n : Int) (hn : n ≤ 9223372036854775807) (w : World) (h : Has w g 47 #[.int .u64 s, .int .i64 k]) :
    Calls Try.prog 13 #[.pointer (some ⟨g, 0, none⟩), .int .i64 n] w fun e w' => e = .returned (.int .i64 (belowI s n)) ∧ Has w' g 47 #[.int .u64 (bS s n), .int .i64 (bN k n)] ∧ w.grownBy w' (some g) := by
  by_cases hlt : n < 1
  · unfold belowI bS bN
    rw [if_pos hlt, if_pos hlt, if_pos hlt]
    go_enter Try.func13, Try.ntmps13
    go_wp2_with fail
    go_ret
    exact ⟨rfl, h, World.grownBy.refl w _⟩
  · have b := mixI_bd (stepI s)
    have bb := highI_lt (mixI (stepI s)) n b.1 b.2 (by omega)
    unfold belowI bS bN
    rw [if_neg hlt, if_neg hlt, if_neg hlt]
    have hge : 1 ≤ n := by omega
    go_enter Try.func13, Try.ntmps13
    go_wp2_with fail
    refine (next_any g s k _ h).mono ?_
    rintro e w' ⟨rfl, h', hg⟩
    go_wp2_with fail
    refine (mul_any _ _ b.1 b.2 (by omega) (by omega) _).mono ?_
    rintro e w' ⟨rfl, rfl⟩
    go_wp2_with fail
    go_ret
    exact ⟨rfl, h', hg⟩
theorem rbelow_any (g : Nat) (s k n : Int) (hn : n ≤ 9223372036854775807) (w : World) (h : Has w g 29 #[.int .u64 s, .int .i64 k]) :
    Calls Try.prog 14 #[.pointer (some ⟨g, 0, none⟩), .int .i64 n] w fun e w' => e = .returned (.int .i64 (belowI s n)) ∧ Has w' g 29 #[.int .u64 (bS s n), .int .i64 (bN k n)] ∧ w.grownBy w' (some g) := by
  by_cases hlt : n < 1
  · unfold belowI bS bN
    rw [if_pos hlt, if_pos hlt, if_pos hlt]
    go_enter Try.func14, Try.ntmps14
    go_wp2_with fail
    go_ret
    exact ⟨rfl, h, World.grownBy.refl w _⟩
  · have b := mixI_bd (stepI s)
    have bb := highI_lt (mixI (stepI s)) n b.1 b.2 (by omega)
    unfold belowI bS bN
    rw [if_neg hlt, if_neg hlt, if_neg hlt]
    have hge : 1 ≤ n := by omega
    go_enter Try.func14, Try.ntmps14
    go_wp2_with fail
    refine (rnext_any g s k _ h).mono ?_
    rintro e w' ⟨rfl, h', hg⟩
    go_wp2_with fail
    refine (high_any _ _ b.1 b.2 (by omega) (by omega) _).mono ?_
    rintro e w' ⟨rfl, rfl⟩
    go_wp2_with fail
    go_ret
    exact ⟨rfl, h', hg⟩
/-- some percent off, at random -/
def inJ (b p : Int) : Bool := decide (1 ≤ b ∧ b ≤ 1099511627776 ∧ 1 ≤ p ∧ p ≤ 100)
def jitI (s b p : Int) : Int := if inJ b p then b - belowI s (b * p / 100 + 1) else b
def jS (s b p : Int) : Int := if inJ b p then stepI s else s
def jN (k b p : Int) : Int := if inJ b p then upI k else k
theorem jS_bd (s b p : Int) (h0 : 0 ≤ s) (h1 : s ≤ 18446744073709551615) : 0 ≤ jS s b p ∧ jS s b p ≤ 18446744073709551615 := by
  unfold jS
  split
  · exact stepI_bd s
  · exact ⟨h0, h1⟩
theorem prod_bd (b p : Int) (h1 : 1 ≤ b) (h2 : b ≤ 1099511627776) (h3 : 1 ≤ p) (h4 : p ≤ 100) : 1 ≤ b * p ∧ b * p ≤ 109951162777600 := by
  have e1 := Int.mul_le_mul h2 h4 (by omega) (by decide)
  have e2 := Int.mul_le_mul h1 h3 (by decide) (by omega)
  omega
theorem jitI_bd (s b p : Int) : jitI s b p ≤ b ∧ (inJ b p = true → b - b * p / 100 ≤ jitI s b p) ∧ (inJ b p = false → jitI s b p = b) := by
  unfold jitI
  have hb := belowI_bd s (b * p / 100 + 1)
  refine ⟨by split <;> omega, fun h => ?_, fun h => by simp [h]⟩
  have := of_decide_eq_true h
  have := prod_bd b p (by omega) (by omega) (by omega) (by omega)
  rw [if_pos h]
  omega
theorem jit_any (g : Nat) (s k b p : Int) (w : World) (h : Has w g 47 #[.int .u64 s, .int .i64 k]) :
    Calls Try.prog 15 #[.pointer (some ⟨g, 0, none⟩), .int .i64 b, .int .i64 p] w fun e w' => e = .returned (.int .i64 (jitI s b p)) ∧ Has w' g 47 #[.int .u64 (jS s b p), .int .i64 (jN k b p)] ∧ w.grownBy w' (some g) := by
  by_cases hi : inJ b p = true
  · obtain ⟨h1, h2, h3, h4⟩ := of_decide_eq_true hi
    have pb := prod_bd b p h1 h2 h3 h4
    have bb := belowI_bd s (b * p / 100 + 1)
    have bb2 : belowI s (b * p / 100 + 1) < b * p / 100 + 1 := bb.2.1 (by omega)
    have bb1 := bb.1
    have eS : bS s (b * p / 100 + 1) = stepI s := by unfold bS; rw [if_neg (by omega)]
    have eN : bN k (b * p / 100 + 1) = upI k := by unfold bN; rw [if_neg (by omega)]
    have HS := Lib.hid eS
    have HN := Lib.hid eN
    have t1 : ¬ b < 1 := by omega
    have t2 : ¬ 1099511627776 < b := by omega
    have t3 : ¬ p < 1 := by omega
    have t4 : ¬ 100 < p := by omega
    clear eS eN bb
    unfold jitI jS jN
    rw [if_pos hi, if_pos hi, if_pos hi]
    clear hi
    go_enter Try.func15, Try.ntmps15
    go_wp2_with fail
    refine (below_any g s k _ (by omega) _ h).mono ?_
    rintro e w' ⟨rfl, h', hg⟩
    rw [HS.out, HN.out] at h'
    go_wp2_with fail
    go_ret
    exact ⟨rfl, h', hg⟩
  · unfold jitI jS jN
    rw [if_neg hi, if_neg hi, if_neg hi]
    have hx : b < 1 ∨ (1 ≤ b ∧ 1099511627776 < b) ∨ (1 ≤ b ∧ b ≤ 1099511627776 ∧ p < 1) ∨ (1 ≤ b ∧ b ≤ 1099511627776 ∧ 1 ≤ p ∧ 100 < p) := by
      simp only [inJ, decide_eq_true_eq] at hi
      omega
    clear hi
    rcases hx with hx | ⟨h1, hx⟩ | ⟨h1, h2, hx⟩ | ⟨h1, h2, h3, hx⟩
    all_goals
      go_enter Try.func15, Try.ntmps15
      go_wp2_with fail
      go_ret
      exact ⟨rfl, h, World.grownBy.refl w _⟩
theorem rjit_any (g : Nat) (s k b p : Int) (w : World) (h : Has w g 29 #[.int .u64 s, .int .i64 k]) :
    Calls Try.prog 16 #[.pointer (some ⟨g, 0, none⟩), .int .i64 b, .int .i64 p] w fun e w' => e = .returned (.int .i64 (jitI s b p)) ∧ Has w' g 29 #[.int .u64 (jS s b p), .int .i64 (jN k b p)] ∧ w.grownBy w' (some g) := by
  by_cases hi : inJ b p = true
  · obtain ⟨h1, h2, h3, h4⟩ := of_decide_eq_true hi
    have pb := prod_bd b p h1 h2 h3 h4
    have bb := belowI_bd s (b * p / 100 + 1)
    have bb2 : belowI s (b * p / 100 + 1) < b * p / 100 + 1 := bb.2.1 (by omega)
    have bb1 := bb.1
    have eS : bS s (b * p / 100 + 1) = stepI s := by unfold bS; rw [if_neg (by omega)]
    have eN : bN k (b * p / 100 + 1) = upI k := by unfold bN; rw [if_neg (by omega)]
    have HS := Lib.hid eS
    have HN := Lib.hid eN
    have t1 : ¬ b < 1 := by omega
    have t2 : ¬ 1099511627776 < b := by omega
    have t3 : ¬ p < 1 := by omega
    have t4 : ¬ 100 < p := by omega
    clear eS eN bb
    unfold jitI jS jN
    rw [if_pos hi, if_pos hi, if_pos hi]
    clear hi
    go_enter Try.func16, Try.ntmps16
    go_wp2_with fail
    refine (rbelow_any g s k _ (by omega) _ h).mono ?_
    rintro e w' ⟨rfl, h', hg⟩
    rw [HS.out, HN.out] at h'
    go_wp2_with fail
    go_ret
    exact ⟨rfl, h', hg⟩
  · unfold jitI jS jN
    rw [if_neg hi, if_neg hi, if_neg hi]
    have hx : b < 1 ∨ (1 ≤ b ∧ 1099511627776 < b) ∨ (1 ≤ b ∧ b ≤ 1099511627776 ∧ p < 1) ∨ (1 ≤ b ∧ b ≤ 1099511627776 ∧ 1 ≤ p ∧ 100 < p) := by
      simp only [inJ, decide_eq_true_eq] at hi
      omega
    clear hi
    rcases hx with hx | ⟨h1, hx⟩ | ⟨h1, h2, hx⟩ | ⟨h1, h2, h3, hx⟩
    all_goals
      go_enter Try.func16, Try.ntmps16
      go_wp2_with fail
      go_ret
      exact ⟨rfl, h, World.grownBy.refl w _⟩
theorem drawn_any (g : Nat) (s k : Int) (w : World) (h : Has w g 47 #[.int .u64 s, .int .i64 k]) :
    Calls Try.prog 17 #[.pointer (some ⟨g, 0, none⟩)] w fun e w' => e = .returned (.int .i64 k) ∧ w = w' := by
  have c1 := h.cell 1
  go_enter Try.func17, Try.ntmps17
  go_wp2_with fail
  go_ret
  exact ⟨rfl, rfl⟩
end Go.Proofs.Ytdckgbinfblpiaa.DiceObj
