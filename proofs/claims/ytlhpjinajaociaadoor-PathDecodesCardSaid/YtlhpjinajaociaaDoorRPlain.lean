/- Layer 5, the document's own Plain, hex and At. -/
import Derived.Test.YtlhpjinajaociaaDoorPathPure
import Derived.Test.YtlhpjinajaociaaDoorRHex
import Derived.Laws.DeepStrings4
namespace Go.Proofs.YtlhpjinajaociaaDoor.RPlain
open Go.ChangeShapes Go.WideShapes Go.ChangeAt Go.RowKit LexPure Bytes Ret LexNum RHex PathPure
def PlainI (c : Int) : Prop := c = 45 ∨ c = 46 ∨ c = 95 ∨ c = 126 ∨ (48 ≤ c ∧ c ≤ 57) ∨ (65 ≤ c ∧ c ≤ 90) ∨ (97 ≤ c ∧ c ≤ 122)
instance (c : Int) : Decidable (PlainI c) := by unfold PlainI; infer_instance
theorem plain_eq {n : Nat} (h : n < 256) : decide (PlainI (n : Int)) = plainP n := by
  have := all_below (p := fun n => decide (PlainI (n : Int)) == plainP n) (by decide +kernel) h
  simpa using this
theorem rplain_any (n : Nat) (h : n < 256) (w : World) :
    Calls Tryd.prog 13 #[.int .u8 (n : Int)] w fun e w' => e = .returned (.bool (plainP n)) ∧ w = w' := by
  rw [← plain_eq h]
  generalize (n : Int) = c
  go_enter Tryd.func13, Tryd.ntmps13
  go_wp2_with fail
  all_goals
    go_ret
    refine ⟨ret_bool ?_, rfl⟩
    try simp only [beq_eq_false_iff_ne, beq_iff_eq, ne_eq] at *
    first
      | exact Eq.symm (decide_eq_true (p := PlainI _) (by unfold PlainI; omega))
      | exact Eq.symm (decide_eq_false (p := PlainI _) (by unfold PlainI; omega))
      | (rw [Bool.eq_iff_iff]; simp only [Bool.or_eq_true, decide_eq_true_eq]; unfold PlainI; omega)
      | (rw [Bool.eq_iff_iff]; simp only [decide_eq_true_eq]; unfold PlainI; omega)
theorem hx_int {n : Nat} (h : n < 16) : ((hx n).toNat : Int) = if (n : Int) < 10 then 48 + (n : Int) else 55 + (n : Int) := by
  have : n = 0 ∨ n = 1 ∨ n = 2 ∨ n = 3 ∨ n = 4 ∨ n = 5 ∨ n = 6 ∨ n = 7 ∨ n = 8 ∨ n = 9 ∨ n = 10 ∨ n = 11 ∨ n = 12 ∨ n = 13 ∨ n = 14 ∨ n = 15 := by omega
  rcases this with h | h | h | h | h | h | h | h | h | h | h | h | h | h | h | h <;> subst h <;> decide
theorem ret_u8 {a b : Int} (h : a = b) : Ending.returned (.int .u8 a) = .returned (.int .u8 b) := by rw [h]
theorem rhexd_any (n : Nat) (h : n < 16) (w : World) :
    Calls Tryd.prog 24 #[.int .i64 (n : Int)] w fun e w' => e = .returned (.int .u8 ((hx n).toNat : Int)) ∧ w = w' := by
  rw [hx_int h]
  by_cases h10 : (n : Int) < 10
  · rw [if_pos h10]
    go_enter Tryd.func24, Tryd.ntmps24
    go_wp2_with fail
    go_ret
    exact ⟨rfl, rfl⟩
  · rw [if_neg h10]
    go_enter Tryd.func24, Tryd.ntmps24
    go_wp2_with fail
    go_ret
    exact ⟨rfl, rfl⟩
/-- the byte of the escape that begins here, or -1 -/
def atL : List UInt8 → Int
  | 37 :: a :: b :: _ => if isHex a && isHex b then (two a b : Int) else -1
  | _ => -1
theorem num_two (a b : UInt8) : numOk 16 (min 2 15) [a, b] = (isHex a && isHex b) ∧ (numOk 16 (min 2 15) [a, b] = true → numR 16 (min 2 15) [a, b] = (two a b : Int)) := by
  have h1 : numOk 16 (min 2 15) [a, b] = (isHex a && isHex b) := by
    unfold numOk isHex
    simp
    intro _ _
    decide
  refine ⟨h1, fun h => ?_⟩
  unfold numR
  rw [h, if_pos rfl]
  unfold numV two
  simp
theorem ret_i64 {a b : Int} (h : a = b) : Ending.returned (.int .i64 a) = .returned (.int .i64 b) := by rw [h]
theorem rat_any (s : ByteArray) (hs : s.size ≤ 140737488355328) (k : Nat) (hk : k < s.size) (w : World) :
    Calls Tryd.prog 12 #[.string s, .int .i64 (k : Int)] w fun e w' => e = .returned (.int .i64 (atL ((toL s).drop k))) ∧ w = w' := by
  have hs2 := hs
  by_cases h3 : k + 2 < s.size
  · have hd : (toL s).drop k = s[k] :: s[k + 1] :: s[k + 2] :: (toL s).drop (k + 3) := by
      rw [toL_drop s k (by omega), toL_drop s (k + 1) (by omega), toL_drop s (k + 2) (by omega)]
    have hi : ((k : Int) + 2) < (s.size : Int) := by omega
    by_cases h37 : s[k] = 37
    · have hq : ((s[k].toNat : Int) != 37) = false := by rw [h37]; rfl
      have he : toL (s.extract (k + 1) (k + 3)) = [s[k + 1], s[k + 2]] := by
        rw [toL_extract, List.drop_take]
        rw [toL_drop s (k + 1) (by omega), toL_drop s (k + 2) (by omega)]
        have : k + 3 - (k + 1) = 2 := by omega
        rw [this]
        rfl
      obtain ⟨n1, n2⟩ := num_two s[k + 1] s[k + 2]
      have hsz2 : (s.extract (k + 1) (k + 3)).size = 2 := by rw [← toL_length, he]; rfl
      have HH := Lib.hid (fun w => rhex_any (s.extract (k + 1) (k + 3)) (by rw [hsz2]; decide) 2 w)
      rw [he] at HH
      have hA : atL ((toL s).drop k) = if isHex s[k + 1] && isHex s[k + 2] then (two s[k + 1] s[k + 2] : Int) else -1 := by rw [hd, h37]; rfl
      have hki : (k : Int) < (s.size : Int) := by omega
      rw [hA]
      rw [n1] at HH n2
      clear n1 he hA hd h37 hs hsz2
      by_cases hok : (isHex s[k + 1] && isHex s[k + 2]) = true
      · rw [n2 hok, hok] at HH
        rw [if_pos hok]
        have hb1 := two_lt (a := s[k + 1]) (b := s[k + 2]) (by simp at hok; exact hok.1) (by simp at hok; exact hok.2)
        clear hok n2
        generalize two s[k + 1] s[k + 2] = n at *
        go_enter Tryd.func12, Tryd.ntmps12
        go_wp2_with fail
        refine (HH.out _).mono ?_
        rintro e w' ⟨rfl, rfl⟩
        go_wp2_with fail
        go_ret
        exact ⟨rfl, rfl⟩
      · have hok : (isHex s[k + 1] && isHex s[k + 2]) = false := by simpa using hok
        rw [hok] at HH
        rw [hok, if_neg (by decide)]
        clear hok n2
        go_enter Tryd.func12, Tryd.ntmps12
        go_wp2_with fail
        refine (HH.out _).mono ?_
        rintro e w' ⟨rfl, rfl⟩
        go_wp2_with fail
        go_ret
        exact ⟨rfl, rfl⟩
    · have hq : ((s[k].toNat : Int) != 37) = true := by
        have := all_bytes (p := fun b => (((b.toNat : Int) != 37) == (b != 37))) (by decide +kernel) s[k]
        rw [beq_iff_eq] at this
        rw [this, bne_iff_ne]
        exact h37
      have hA : atL ((toL s).drop k) = -1 := by
        rw [hd]
        unfold atL
        split
        · rename_i h
          injection h with h
          exact absurd h h37
        · rfl
      rw [hA]
      have hki : (k : Int) < (s.size : Int) := by omega
      clear hA hd h37 hs
      go_enter Tryd.func12, Tryd.ntmps12
      go_wp2_with fail
      go_ret
      exact ⟨rfl, rfl⟩
  · have hA : atL ((toL s).drop k) = -1 := by
      have hl : ((toL s).drop k).length ≤ 2 := by rw [List.length_drop, toL_length]; omega
      unfold atL
      split
      · rename_i h
        rw [h] at hl
        simp at hl
      · rfl
    rw [hA]
    have hi : ¬ ((k : Int) + 2) < (s.size : Int) := by omega
    clear hA hs
    go_enter Tryd.func12, Tryd.ntmps12
    go_wp2_with fail
    go_ret
    exact ⟨rfl, rfl⟩
end Go.Proofs.YtlhpjinajaociaaDoor.RPlain
