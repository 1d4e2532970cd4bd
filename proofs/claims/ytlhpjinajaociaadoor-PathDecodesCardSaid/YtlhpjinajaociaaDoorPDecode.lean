/- Layer 5 of the program: Decode: escapes undone, round by round. -/
import Derived.Test.YtlhpjinajaociaaDoorPBytes5
import Derived.Test.YtlhpjinajaociaaDoorPBuild
import Derived.Outline
import Derived.LoopTactic
import Derived.Handy
import Derived.Laws.DeepStrings4
namespace Go.Proofs.YtlhpjinajaociaaDoor.PDecode
open Go.ChangeShapes Go.WideShapes Go.ChangeAt Go.RowKit LexPure Bytes Ret PathPure PEsc PBytes5 PBuild
def sizeOfS : Value → Nat | .string s => s.size | _ => 0
theorem empty_no {s : ByteArray} (h : 0 < s.size) : ¬ s.toList = [] ∧ s.toList.isEmpty = false := by
  have h1 : ¬ s.toList = [] := fun e => by
    rw [ByteArray.toList_eq] at e
    have := toL_length s
    rw [show toL s = [] from e] at this
    simp at this
    omega
  refine ⟨h1, ?_⟩
  cases h2 : s.toList with
  | nil => exact absurd h2 h1
  | cons => rfl
theorem empty_yes {s : ByteArray} (h : ¬ 0 < s.size) : s.toList = [] ∧ s.toList.isEmpty = true := by
  have h1 : s.toList = [] := by
    rw [ByteArray.toList_eq]
    exact List.length_eq_zero_iff.1 (by have := toL_length s; unfold toL at this; omega)
  exact ⟨h1, by rw [h1]; rfl⟩
theorem sign_cases (c : UInt8) : (c = 37 ∧ ((c.toNat : Int) != 37) = false) ∨ (¬ c = 37 ∧ ((c.toNat : Int) != 37) = true) := by
  have := all_bytes (p := fun c => (c == 37 && (((c.toNat : Int) != 37) == false)) || (!(c == 37) && (((c.toNat : Int) != 37) == true))) (by decide +kernel) c
  simpa using this
theorem cut_one (s : ByteArray) (h : 0 < s.size) : toL s = s[0] :: toL (s.extract 1 s.size) ∧ (s.extract 1 s.size).size + 1 = s.size := by
  constructor
  · have h1 := toL_drop s 0 h
    rw [List.drop_zero] at h1
    rw [h1, toL_extract, List.take_of_length_le (by rw [toL_length]; exact Nat.le_refl _)]
  · rw [ByteArray.size_extract]; omega
theorem cut_three (s : ByteArray) : toL (s.extract 3 s.size) = (toL s).drop 3 ∧ (s.extract 3 s.size).size = s.size - 3 := by
  constructor
  · rw [toL_extract, List.take_of_length_le (by rw [toL_length]; exact Nat.le_refl _)]
  · rw [ByteArray.size_extract]; omega
theorem ret_dec {a b : ByteArray} {p q : Bool} (h : a = b) (k : p = q) : Ending.returned (.tuple #[.string a, .bool p]) = .returned (.tuple #[.string b, .bool q]) := by rw [h, k]
set_option maxHeartbeats 1600000 in
theorem pdecode_any (s : ByteArray) (hs : s.size ≤ 140737488351232) (w : World) :
    Calls Tryd.prog 15 #[.string s] w fun e w' => e = .returned (.tuple #[.string (ofL ((dec (toL s)).getD [])), .bool (dec (toL s)).isSome]) ∧ Below w.heap.size w w' := by
  have HB := Lib.hid (Bld.start w)
  go_enter Tryd.func15, Tryd.ntmps15
  go_wp2_with fail
  go_loopw [0] (fun v wr => ∃ cur acc, v = .string cur ∧ acc.length + cur.size ≤ s.size ∧ Hid (Bld w w.heap.size acc wr) ∧ Hid (dec (toL s) = (dec (toL cur)).map (acc ++ ·))) (fun v _ => sizeOfS v)
  case atStart => exact ⟨s, [], rfl, by simp, HB, Lib.hid (by simp)⟩
  case round =>
    clear HB
    obtain ⟨cur, acc, rfl, hlen, HI, HD⟩ := hrel
    by_cases hpos : 0 < cur.size
    · obtain ⟨m1, m2⟩ := empty_no hpos
      obtain ⟨hc1, hc2⟩ := cut_one cur hpos
      have hC1 := Lib.hid hc1
      have hpi : (0 : Int) < (cur.size : Int) := by omega
      have hcs : (cur.size : Int) ≤ 140737488351232 := by omega
      clear hc1
      rcases sign_cases cur[0] with ⟨h37, hq⟩ | ⟨h37, hq⟩
      · have HE := Lib.hid (fun w => pescaped_any cur (by omega) w)
        obtain ⟨hd1, hd2⟩ := cut_three cur
        have hlt := escN_lt (toL cur)
        by_cases ho : escO (toL cur) = true
        · have h3 := esc_three ho
          rw [toL_length] at h3
          have HD2 : Hid (dec (toL s) = (dec (toL (cur.extract 3 cur.size))).map ((acc ++ [UInt8.ofNat (escN (toL cur))]) ++ ·)) := Lib.hid (by
            rw [HD.out, hd1, ← map_cons, hC1.out, h37]
            rw [hC1.out, h37] at ho
            rw [dec_yes ho])
          rw [ho] at HE
          have HN := Lib.hid (fun wr' (h : Bld w w.heap.size acc wr') => bld_num h (escN (toL cur)) hlt (by omega))
          have h3i : 3 ≤ (cur.size : Int) := by omega
          clear HD ho hC1 hd1 h37
          generalize escN (toL cur) = n at *
          go_wp2_with fail
          refine (HE.out _).mono ?_
          rintro e w' ⟨rfl, rfl⟩
          go_wp2_with fail
          refine (HN.out _ HI.out).mono ?_
          rintro e w2 ⟨rfl, hb2⟩
          have HB2 := Lib.hid hb2
          clear hb2 HI
          go_wp2_with fail
          go_roundw
          case rel => exact ⟨_, _, rfl, by rw [hd2]; simp; omega, HB2, HD2⟩
          case measure => simp [sizeOfS]; omega
        · have hof : escO (toL cur) = false := by simpa using ho
          have HV : Hid (dec (toL s) = none) := Lib.hid (by
            rw [HD.out, hC1.out, h37, dec_no (by rw [← h37, ← hC1.out]; exact hof)]
            rfl)
          rw [hof] at HE
          clear HD ho hof hC1 hd1 h37 hd2 hlt
          generalize escN (toL cur) = n at *
          go_wp2_with fail
          refine (HE.out _).mono ?_
          rintro e w' ⟨rfl, rfl⟩
          go_wp2_with fail
          go_ret2
          exact ⟨ret_dec (by rw [HV.out]; rfl) (by rw [HV.out]; rfl), HI.out.2⟩
      · have HD2 : Hid (dec (toL s) = (dec (toL (cur.extract 1 cur.size))).map ((acc ++ [cur[0]]) ++ ·)) := Lib.hid (by
          rw [HD.out, ← map_cons, ← dec_other h37, ← hC1.out])
        have HN := Lib.hid (fun wr' (h : Bld w w.heap.size acc wr') => bld_byte h cur[0] (by omega))
        clear HD hC1 h37
        go_wp2_with fail
        refine (HN.out _ HI.out).mono ?_
        rintro e w2 ⟨rfl, hb2⟩
        have HB2 := Lib.hid hb2
        clear hb2 HI
        go_wp2_with fail
        go_roundw
        case rel => exact ⟨_, _, rfl, by simp; omega, HB2, HD2⟩
        case measure => simp [sizeOfS]; omega
    · obtain ⟨m1, m2⟩ := empty_yes hpos
      have HV : Hid (dec (toL s) = some acc) := Lib.hid (by
        rw [HD.out, show toL cur = [] from (ByteArray.toList_eq cur).symm.trans m1]
        simp [dec])
      have HN := Lib.hid (fun wr' (h : Bld w w.heap.size acc wr') => bld_out h)
      clear HD hpos
      go_wp2_with fail
      refine (HN.out _ HI.out).mono ?_
      rintro e w2 ⟨rfl, hb2⟩
      have HB2 := Lib.hid hb2
      clear hb2 HI
      go_wp2_with fail
      go_ret2
      exact ⟨ret_dec (by rw [HV.out]; rfl) (by rw [HV.out, Option.isSome_some]), HB2.out⟩
end Go.Proofs.YtlhpjinajaociaaDoor.PDecode
