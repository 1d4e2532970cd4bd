/- A digit more behind a number is ten times (sixteen times) the number and the digit: LexShifts returns true. No condition. -/
import Derived.Test.YtinpgmckndcpbaaDoorLexAnchor
import Derived.Test.YtinpgmckndcpbaaDoorLexNum
import Derived.Laws.IdiomStrings
import Derived.Maps.AppendAt
namespace Go.Proofs.YtinpgmckndcpbaaDoor.LexShiftsW
open Go.ChangeShapes Go.WideShapes Go.ChangeAt Go.RowKit LexPure Bytes LexObj LexAnchor LexNum Mem
set_option linter.unusedVariables false
/-- the digit's sign -/
def sign (d : Int) : UInt8 := UInt8.ofNat (48 + d.toNat)
theorem sign_nat {d : Int} (h0 : 0 ≤ d) (h1 : d < 10) : ((sign d).toNat : Int) = 48 + d ∧ (dig (sign d) : Int) = d := by
  have : d = 0 ∨ d = 1 ∨ d = 2 ∨ d = 3 ∨ d = 4 ∨ d = 5 ∨ d = 6 ∨ d = 7 ∨ d = 8 ∨ d = 9 := by omega
  rcases this with h | h | h | h | h | h | h | h | h | h <;> subst h <;> decide
theorem shift {base : Nat} {D : Nat} (hb : 10 ≤ base) {s : List UInt8} {d : Int} (h0 : 0 ≤ d) (h1 : d < 10) (h : numOk base D s = true) :
    numOk base (D + 1) (s ++ [sign d]) = true ∧ numR base (D + 1) (s ++ [sign d]) = base * numR base D s + d := by
  have hs := sign_nat h0 h1
  have hok : numOk base (D + 1) (s ++ [sign d]) = true := by
    unfold numOk at *
    simp only [Bool.and_eq_true, decide_eq_true_eq] at h
    rw [List.all_append, h.2, List.length_append]
    have hl := h.1.2
    simp only [Bool.and_eq_true, decide_eq_true_eq, List.length_singleton, List.all_cons, List.all_nil]
    exact ⟨⟨by cases s <;> rfl, by omega⟩, trivial, by omega, trivial⟩
  refine ⟨hok, ?_⟩
  unfold numR
  rw [hok, h, if_pos rfl, if_pos rfl, numV_snoc]
  push_cast
  omega
theorem both {s : List UInt8} (h : numOk 10 17 s = true) (hl : s.length ≤ 14) : numOk 16 14 s = true := by
  unfold numOk at *
  simp only [Bool.and_eq_true, decide_eq_true_eq, List.all_eq_true] at *
  exact ⟨⟨h.1.1, by omega⟩, fun c hc => by have := h.2 c hc; omega⟩
set_option maxHeartbeats 1600000 in
theorem walk (s : ByteArray) (w0 : s.size ≤ maxLen) (z0 : s.size ≤ 140737488351232) (d : Int) (w1 : (Lit.int .u8 d).wf = true) (w : World) :
    Calls Tryd.prog 6 #[.string s, .int .u8 d] w fun e w' => e = .returned (.bool true) ∧ Below w.heap.size w w' := by
  have hd0 : 0 ≤ d := by
    simp only [Lit.wf, Bool.and_eq_true, decide_eq_true_eq] at w1
    exact w1.1
  have hd1 : d ≤ 255 := by
    simp only [Lit.wf, Bool.and_eq_true, decide_eq_true_eq] at w1
    exact w1.2
  have HD := Lib.hid (fun w => decimal_any s (by omega) 17 w)
  have HF := Lib.hid (fun w => hex_any s (by omega) 14 w)
  rw [show min (17 : Int) 18 = 17 by decide] at HD
  rw [show min (14 : Int) 15 = 14 by decide] at HF
  clear w0 w1
  go_enter Tryd.func6, Tryd.ntmps6
  go_wp2_with fail
  refine (anchor_any _).mono ?_
  rintro e w1 ⟨rfl, hb1⟩
  go_wp2_with fail
  refine (HD.out _).mono ?_
  rintro e w2 ⟨rfl, hb2⟩
  replace hb1 := below_chain hb1 hb2
  clear hb2
  go_wp2_with fail
  refine (HF.out _).mono ?_
  rintro e w3 ⟨rfl, hb3⟩
  replace hb1 := below_chain hb1 hb3
  clear hb3
  have hsz : (s ++ ofL [sign d]).size = s.size + 1 := by rw [ByteArray.size_append, ofL_size]; rfl
  have hap : toL (s ++ ofL [sign d]) = toL s ++ [sign d] := by rw [toL_append, toL_ofL]
  have HC : ∀ W : World, d < 10 → (Go.convert 32 9 (.slice (some ⟨W.heap.size, 0, none⟩) 1 1)).run Tryd.prog (W.alloc (.cells #[.int .u8 (48 + d)] 5)) = .ok (.string (ofL [sign d])) (W.alloc (.cells #[.int .u8 (48 + d)] 5)) := fun W h10 => by
    have h := run_convert_bytes_back (P := Tryd.prog) (W.alloc (.cells #[.int .u8 (48 + d)] 5)) 32 9 5 ⟨W.heap.size, 0, none⟩ 1 [sign d] Tryd.underlying32 Tryd.underlying5 Tryd.underlying9 (fun j hj => by
      have hj0 : j = 0 := by simp at hj; omega
      subst hj0
      rw [cell_one_new W (.int .u8 (48 + d)) _ 0 _ rfl]
      simp only [List.getElem_cons_zero, (sign_nat hd0 h10).1])
    exact h
  have KD := Lib.hid (fun w => decimal_any (s ++ ofL [sign d]) (by omega) 18 w)
  have KF := Lib.hid (fun w => hex_any (s ++ ofL [sign d]) (by omega) 15 w)
  rw [hap, show min (18 : Int) 18 = 18 by decide] at KD
  rw [hap, show min (15 : Int) 15 = 15 by decide] at KF
  have sD := fun h10 => shift (base := 10) (D := 17) (by decide) (s := toL s) hd0 h10
  have sF := fun h10 => shift (base := 16) (D := 14) (by decide) (s := toL s) hd0 h10
  have hBD : numOk 10 17 (toL s) = true → 0 ≤ numR 10 17 (toL s) ∧ numR 10 17 (toL s) ≤ 100000000000000000 := fun h => by
    have h2 := h
    unfold numOk at h2
    simp only [Bool.and_eq_true, decide_eq_true_eq] at h2
    have h3 := numV_lt 10 (toL s) h2.2
    have h4 : 10 ^ (toL s).length ≤ 10 ^ 17 := Nat.pow_le_pow_right (by decide) (by omega)
    unfold numR
    rw [h]
    simp only [if_true]
    omega
  have hBF : numOk 16 14 (toL s) = true → 0 ≤ numR 16 14 (toL s) ∧ numR 16 14 (toL s) ≤ 72057594037927936 := fun h => by
    have h2 := h
    unfold numOk at h2
    simp only [Bool.and_eq_true, decide_eq_true_eq] at h2
    have h3 := numV_lt 16 (toL s) h2.2
    have h4 : 16 ^ (toL s).length ≤ 16 ^ 14 := Nat.pow_le_pow_right (by decide) (by omega)
    unfold numR
    rw [h]
    simp only [if_true]
    omega
  have hboth : numOk 10 17 (toL s) = true → numOk 16 14 (toL s) = false → (14 : Int) < (s.size : Int) := fun h1 h2 => by
    rcases Nat.lt_or_ge 14 s.size with h | h
    · omega
    · rw [both h1 (by rw [toL_length]; exact h)] at h2
      cases h2
  have hsum : s.size + (ofL [sign d]).size ≤ 9223372036854775807 := by rw [ofL_size]; simp; omega
  have hno : ¬ (9223372036854775807 < s.size + (ofL [sign d]).size) := by omega
  clear hap
  by_cases h10 : d < 10
  · replace HC := fun W => HC W h10
    by_cases hok : numOk 10 17 (toL s) = true
    · by_cases his : numOk 16 14 (toL s) = true
      · obtain ⟨k1, k2⟩ := sD h10 hok
        obtain ⟨n0, n1⟩ := hBD hok
        rw [show ((17 : Nat) : Int) + 1 = 18 by decide, show ((17 : Nat) : Int) = 17 by decide] at *
        replace k2 : numR 10 18 (toL s ++ [sign d]) = numR 10 17 (toL s) * 10 + d := by rw [k2]; omega
        rw [k1, k2] at KD
        clear k1 k2
        obtain ⟨k3, k4⟩ := sF h10 his
        obtain ⟨m0, m1⟩ := hBF his
        rw [show ((14 : Nat) : Int) + 1 = 15 by decide, show ((14 : Nat) : Int) = 14 by decide] at *
        replace k4 : numR 16 15 (toL s ++ [sign d]) = numR 16 14 (toL s) * 16 + d := by rw [k4]; omega
        rw [k3, k4] at KF
        clear k3 k4
        rw [hok, his]
        clear hok his
        clear hboth hBD hBF sD sF
        generalize numR 10 17 (toL s) = n at *
        generalize numR 16 14 (toL s) = m at *
        have q1 : (n * 10 + d != n * 10 + d) = false := bne_self_eq_false _
        have q2 : (m * 16 + d != m * 16 + d) = false := bne_self_eq_false _
        go_wp2_with fail
        refine (KD.out _).mono ?_
        rintro e w5 ⟨rfl, hb5⟩
        replace hb1 : Below w.heap.size w w5 := below_chain (hb1.alloc hb1.size _) hb5
        clear hb5
        go_wp2_with fail
        refine (KF.out _).mono ?_
        rintro e w7 ⟨rfl, hb7⟩
        replace hb1 : Below w.heap.size w w7 := below_chain (hb1.alloc hb1.size _) hb7
        clear hb7
        go_wp2_with fail
        go_ret
        exact ⟨rfl, hb1⟩
      · have his : numOk 16 14 (toL s) = false := by simpa using his
        obtain ⟨k1, k2⟩ := sD h10 hok
        obtain ⟨n0, n1⟩ := hBD hok
        rw [show ((17 : Nat) : Int) + 1 = 18 by decide, show ((17 : Nat) : Int) = 17 by decide] at *
        replace k2 : numR 10 18 (toL s ++ [sign d]) = numR 10 17 (toL s) * 10 + d := by rw [k2]; omega
        rw [k1, k2] at KD
        clear k1 k2
        have h14 := hboth hok his
        rw [hok, his]
        clear hok his
        clear hboth hBD hBF sD sF
        generalize numR 10 17 (toL s) = n at *
        generalize numR 16 14 (toL s) = m at *
        have q1 : (n * 10 + d != n * 10 + d) = false := bne_self_eq_false _
        go_wp2_with fail
        refine (KD.out _).mono ?_
        rintro e w5 ⟨rfl, hb5⟩
        replace hb1 : Below w.heap.size w w5 := below_chain (hb1.alloc hb1.size _) hb5
        clear hb5
        go_wp2_with fail
        go_ret
        exact ⟨rfl, hb1⟩
    · have hok : numOk 10 17 (toL s) = false := by simpa using hok
      by_cases his : numOk 16 14 (toL s) = true
      · obtain ⟨k3, k4⟩ := sF h10 his
        obtain ⟨m0, m1⟩ := hBF his
        rw [show ((14 : Nat) : Int) + 1 = 15 by decide, show ((14 : Nat) : Int) = 14 by decide] at *
        replace k4 : numR 16 15 (toL s ++ [sign d]) = numR 16 14 (toL s) * 16 + d := by rw [k4]; omega
        rw [k3, k4] at KF
        clear k3 k4
        rw [hok, his]
        clear hok his
        clear hboth hBD hBF sD sF
        generalize numR 10 17 (toL s) = n at *
        generalize numR 16 14 (toL s) = m at *
        have q2 : (m * 16 + d != m * 16 + d) = false := bne_self_eq_false _
        go_wp2_with fail
        refine (KF.out _).mono ?_
        rintro e w7 ⟨rfl, hb7⟩
        replace hb1 : Below w.heap.size w w7 := below_chain (hb1.alloc hb1.size _) hb7
        clear hb7
        go_wp2_with fail
        go_ret
        exact ⟨rfl, hb1⟩
      · have his : numOk 16 14 (toL s) = false := by simpa using his
        rw [hok, his]
        clear hok his
        clear hboth hBD hBF sD sF
        generalize numR 10 17 (toL s) = n at *
        generalize numR 16 14 (toL s) = m at *
        go_wp2_with fail
        go_ret
        exact ⟨rfl, hb1⟩
  · clear HC
    by_cases hok : numOk 10 17 (toL s) = true
    · by_cases his : numOk 16 14 (toL s) = true
      · rw [hok, his]
        clear hok his
        clear hboth hBD hBF sD sF
        generalize numR 10 17 (toL s) = n at *
        generalize numR 16 14 (toL s) = m at *
        go_wp2_with fail
        go_ret
        exact ⟨rfl, hb1⟩
      · have his : numOk 16 14 (toL s) = false := by simpa using his
        have h14 := hboth hok his
        rw [hok, his]
        clear hok his
        clear hboth hBD hBF sD sF
        generalize numR 10 17 (toL s) = n at *
        generalize numR 16 14 (toL s) = m at *
        go_wp2_with fail
        go_ret
        exact ⟨rfl, hb1⟩
    · have hok : numOk 10 17 (toL s) = false := by simpa using hok
      by_cases his : numOk 16 14 (toL s) = true
      · rw [hok, his]
        clear hok his
        clear hboth hBD hBF sD sF
        generalize numR 10 17 (toL s) = n at *
        generalize numR 16 14 (toL s) = m at *
        go_wp2_with fail
        go_ret
        exact ⟨rfl, hb1⟩
      · have his : numOk 16 14 (toL s) = false := by simpa using his
        rw [hok, his]
        clear hok his
        clear hboth hBD hBF sD sF
        generalize numR 10 17 (toL s) = n at *
        generalize numR 16 14 (toL s) = m at *
        go_wp2_with fail
        go_ret
        exact ⟨rfl, hb1⟩

end Go.Proofs.YtinpgmckndcpbaaDoor.LexShiftsW
