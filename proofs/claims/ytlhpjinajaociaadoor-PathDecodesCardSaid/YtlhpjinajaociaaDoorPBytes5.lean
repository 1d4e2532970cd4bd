/- Layer 5 of the program: what its functions of one byte and of one escape answer (ofPath, plain, escaped). -/
import Derived.Test.YtlhpjinajaociaaDoorPEsc
import Derived.Test.YtlhpjinajaociaaDoorCutsSplit
import Derived.Test.YtlhpjinajaociaaDoorPHex
import Derived.Test.YtlhpjinajaociaaDoorRPlain
import Derived.Test.YtlhpjinajaociaaDoorPathLays
namespace Go.Proofs.YtlhpjinajaociaaDoor.PBytes5
open Go.ChangeShapes Go.WideShapes Go.ChangeAt Go.RowKit LexPure Bytes Ret LexNum PathPure PEsc CutsSplit PHex
theorem lib_plain (b : UInt8) (w : World) :
    Calls Tryd.prog 49 #[.string plainA, .int .u8 (b.toNat : Int)] w fun e w' => e = .returned (.int .i64 (plainI b)) ∧ w' = w := by
  have h := Any.strings_IndexByte Tryd.lays137 plainA (b.toNat : Int) w
  rw [show ((b.toNat : Int)).toNat.toUInt8 = b from by simp] at h
  exact h
theorem pofpath_any (b : UInt8) (w : World) :
    Calls Tryd.prog 32 #[.int .u8 (b.toNat : Int)] w fun e w' => e = .returned (.bool (okc b)) ∧ w = w' := by
  rw [okc_cases]
  generalize (b.toNat : Int) = c
  go_enter Tryd.func32, Tryd.ntmps32
  go_wp2_with fail
  all_goals
    go_ret
    refine ⟨ret_bool ?_, rfl⟩
    try simp only [beq_eq_false_iff_ne, beq_iff_eq, ne_eq] at *
    first
      | exact Eq.symm (decide_eq_true (by omega))
      | exact Eq.symm (decide_eq_false (by omega))
      | (by_cases e1 : c = 63 <;> by_cases e2 : c = 35 <;> by_cases e3 : 32 < c <;> by_cases e4 : c < 127 <;> first | (exfalso; omega) | simp [e1, e2, e3, e4] | (subst e1; decide) | (subst e2; decide))
theorem pplain_any (b : UInt8) (w : World) :
    Calls Tryd.prog 43 #[.int .u8 (b.toNat : Int)] w fun e w' => e = .returned (.bool (plainP b.toNat)) ∧ w = w' := by
  have HM := Lib.hid (lib_plain b w)
  rw [plain_cases]
  unfold plainA at HM
  generalize plainI b = i at *
  generalize (b.toNat : Int) = c at *
  go_enter Tryd.func43, Tryd.ntmps43
  go_wp2_with (refine HM.out.mono ?_; rintro e w' ⟨rfl, rfl⟩)
  all_goals
    go_ret
    refine ⟨ret_bool ?_, rfl⟩
  all_goals first
    | rfl
    | exact Eq.symm (decide_eq_true (by omega))
    | exact Eq.symm (by rw [decide_eq_true (show 48 ≤ c ∧ c ≤ 57 by omega)]; rfl)
    | exact Eq.symm (by rw [decide_eq_true (show 65 ≤ c ∧ c ≤ 90 by omega), Bool.or_true]; rfl)
    | exact Eq.symm (by rw [decide_eq_true (show 97 ≤ c ∧ c ≤ 122 by omega), Bool.or_true]; rfl)
    | (rw [decide_eq_false (show ¬ (48 ≤ c ∧ c ≤ 57) by omega), decide_eq_false (show ¬ (65 ≤ c ∧ c ≤ 90) by omega), decide_eq_false (show ¬ (97 ≤ c ∧ c ≤ 122) by omega)]; first | (simp; done) | (simp; intro h; omega))
theorem ret_esc {a b : Int} {p q : Bool} (h : a = b) (k : p = q) : Ending.returned (.tuple #[.int .u8 a, .bool p]) = .returned (.tuple #[.int .u8 b, .bool q]) := by rw [h, k]
theorem pescaped_any (s : ByteArray) (hs : s.size ≤ 140737488355328) (w : World) :
    Calls Tryd.prog 26 #[.string s] w fun e w' => e = .returned (.tuple #[.int .u8 (escN (toL s) : Int), .bool (escO (toL s))]) ∧ w = w' := by
  by_cases h3 : s.size < 3
  · have h3i : (s.size : Int) < 3 := by omega
    have hv : escO (toL s) = false ∧ escN (toL s) = 0 := by
      have hl := toL_length s
      match hm : toL s with
      | [] => exact ⟨rfl, rfl⟩
      | [_] => exact ⟨rfl, rfl⟩
      | [_, _] => exact ⟨rfl, rfl⟩
      | _ :: _ :: _ :: _ => rw [hm] at hl; simp at hl; omega
    rw [hv.1, hv.2]
    clear hv h3
    go_enter Tryd.func26, Tryd.ntmps26
    go_wp2_with fail
    go_ret2
    exact ⟨rfl, rfl⟩
  · have h3i : ¬ (s.size : Int) < 3 := by omega
    have h3j : 3 ≤ (s.size : Int) := by omega
    obtain ⟨c, a, b, r, hl⟩ : ∃ c a b r, toL s = c :: a :: b :: r := by
      have hl := toL_length s
      match hm : toL s with
      | [] => rw [hm] at hl; simp at hl; omega
      | [_] => rw [hm] at hl; simp at hl; omega
      | [_, _] => rw [hm] at hl; simp at hl; omega
      | c :: a :: b :: r => exact ⟨c, a, b, r, rfl⟩
    have hx : toL (s.extract 1 3) = [a, b] := by rw [toL_extract, hl]; rfl
    have HC := Lib.hid (phex_any (s.extract 1 3) (by rw [ByteArray.size_extract]; unfold maxLen; omega) 2)
    rw [hx] at HC
    obtain ⟨n1, n2⟩ := RPlain.num_two a b
    have HO : Hid (numOk 16 (min 2 15) [a, b] = escO (toL s)) := Lib.hid (by rw [n1, hl]; rfl)
    have HN : Hid (numR 16 (min 2 15) [a, b] = (escN (toL s) : Int)) := Lib.hid (by
      rw [hl]
      unfold escN
      simp only
      by_cases hh : numOk 16 (min 2 15) [a, b] = true
      · rw [n2 hh, if_pos (by rw [← n1]; exact hh)]
      · rw [if_neg (by rw [← n1]; exact hh)]
        unfold numR
        rw [if_neg hh]
        rfl)
    have hlt := escN_lt (toL s)
    rw [HO.out, HN.out] at HC
    have h0 : (0 : Int) ≤ (escN (toL s) : Int) := by omega
    have h1 : (escN (toL s) : Int) ≤ 255 := by omega
    clear hx hl n1 n2 HO HN hlt h3
    generalize (escN (toL s) : Int) = v at *
    generalize escO (toL s) = o at *
    go_enter Tryd.func26, Tryd.ntmps26
    go_wp2_with fail
    refine (HC.out _).mono ?_
    rintro e w' ⟨rfl, rfl⟩
    go_wp2_with fail
    go_ret2
    exact ⟨ret_esc (by omega) rfl, rfl⟩
end Go.Proofs.YtlhpjinajaociaaDoor.PBytes5
