/- Layer 5 of the program: settled: escapes in their one form, round by round. -/
import Derived.Test.YtlhpjinajaociaaDoorPBytes5
import Derived.Test.YtlhpjinajaociaaDoorPBuild
import Derived.Test.YtlhpjinajaociaaDoorPOneForm
import Derived.Test.YtlhpjinajaociaaDoorPDecode
import Derived.Outline
import Derived.LoopTactic
import Derived.Handy
import Derived.Laws.DeepStrings4
namespace Go.Proofs.YtlhpjinajaociaaDoor.PSettled
open Go.ChangeShapes Go.WideShapes Go.ChangeAt Go.RowKit LexPure Bytes Ret PathPure PEsc PBytes5 PBuild POneForm PDecode
set_option maxHeartbeats 1600000 in
theorem psettled_any (s : ByteArray) (hs : s.size ≤ 140737488351232) (w : World) :
    Calls Tryd.prog 21 #[.string s] w fun e w' => e = .returned (.tuple #[.string (ofL ((esc (toL s)).getD [])), .bool (esc (toL s)).isSome]) ∧ Below w.heap.size w w' := by
  have HB := Lib.hid (Bld.start w)
  go_enter Tryd.func21, Tryd.ntmps21
  go_wp2_with fail
  go_loopw [0] (fun v wr => ∃ cur acc, v = .string cur ∧ acc.length + cur.size ≤ s.size ∧ Hid (Bld w w.heap.size acc wr) ∧ Hid (esc (toL s) = (esc (toL cur)).map (acc ++ ·))) (fun v _ => sizeOfS v)
  case atStart => exact ⟨s, [], rfl, by simp, HB, Lib.hid (by simp)⟩
  case round =>
    clear HB
    obtain ⟨cur, acc, rfl, hlen, HI, HD⟩ := hrel
    by_cases hpos : 0 < cur.size
    · obtain ⟨m1, m2⟩ := empty_no hpos
      obtain ⟨hc1, hc2⟩ := cut_one cur hpos
      have hC1 := Lib.hid hc1
      have hpi : (0 : Int) < (cur.size : Int) := by omega
      have hcs : (cur.size : Int) ≤ 140737488351232 := by omega
      clear hc1
      have HK := Lib.hid (fun w => pofpath_any cur[0] w)
      by_cases hk : okc cur[0] = true
      rotate_left
      · have hkf : okc cur[0] = false := by simpa using hk
        have HV : Hid (esc (toL s) = none) := Lib.hid (by
          rw [HD.out, hC1.out, esc_bad hkf]
          rfl)
        rw [hkf] at HK
        clear HD hk hkf hC1
        go_wp2_with fail
        refine (HK.out _).mono ?_
        rintro e w' ⟨rfl, rfl⟩
        go_wp2_with fail
        go_ret2
        exact ⟨ret_dec (by rw [HV.out]; rfl) (by rw [HV.out]; rfl), HI.out.2⟩
      rw [hk] at HK
      rcases sign_cases cur[0] with ⟨h37, hq⟩ | ⟨h37, hq⟩
      · have HE := Lib.hid (fun w => pescaped_any cur (by omega) w)
        obtain ⟨hd1, hd2⟩ := cut_three cur
        have hlt := escN_lt (toL cur)
        by_cases ho : escO (toL cur) = true
        · have h3 := esc_three ho
          rw [toL_length] at h3
          have HD2 : Hid (esc (toL s) = (esc (toL (cur.extract 3 cur.size))).map ((acc ++ PathPure.wr (escN (toL cur))) ++ ·)) := Lib.hid (by
            rw [HD.out, hd1, ← map_map, hC1.out, h37]
            rw [hC1.out, h37] at ho
            rw [esc_yes ho])
          rw [ho] at HE
          have hwl := wr_le (escN (toL cur))
          have HN := Lib.hid (fun wr' (h : Bld w w.heap.size acc wr') => bld_text h (ofL (PathPure.wr (escN (toL cur)))) (by rw [ofL_size]; omega))
          have HF := Lib.hid (fun w => poneform_any (UInt8.ofNat (escN (toL cur))) w)
          rw [UInt8.toNat_ofNat_of_lt' hlt] at HF
          rw [toL_ofL] at HN
          have h3i : 3 ≤ (cur.size : Int) := by omega
          clear HD ho hC1 hd1 h37
          generalize escN (toL cur) = n at *
          generalize ofL (PathPure.wr n) = X at *
          go_wp2_with fail
          refine (HK.out _).mono ?_
          rintro e w' ⟨rfl, rfl⟩
          go_wp2_with fail
          refine (HE.out _).mono ?_
          rintro e w' ⟨rfl, rfl⟩
          go_wp2_with fail
          refine (HF.out _).mono ?_
          rintro e w3 ⟨rfl, hb3⟩
          have HI3 := Lib.hid (HI.out.keep hb3)
          clear hb3 HI
          go_wp2_with fail
          refine (HN.out _ HI3.out).mono ?_
          rintro e w2 ⟨rfl, hb2⟩
          have HB2 := Lib.hid hb2
          clear hb2 HI3
          go_wp2_with fail
          go_roundw
          case rel => exact ⟨_, _, rfl, by rw [hd2, List.length_append]; omega, HB2, HD2⟩
          case measure => simp [sizeOfS]; omega
        · have hof : escO (toL cur) = false := by simpa using ho
          have HV : Hid (esc (toL s) = none) := Lib.hid (by
            rw [HD.out, hC1.out, h37, esc_no (by rw [← h37, ← hC1.out]; exact hof)]
            rfl)
          rw [hof] at HE
          clear HD ho hof hC1 hd1 h37 hd2 hlt
          generalize escN (toL cur) = n at *
          go_wp2_with fail
          refine (HK.out _).mono ?_
          rintro e w' ⟨rfl, rfl⟩
          go_wp2_with fail
          refine (HE.out _).mono ?_
          rintro e w' ⟨rfl, rfl⟩
          go_wp2_with fail
          go_ret2
          exact ⟨ret_dec (by rw [HV.out]; rfl) (by rw [HV.out]; rfl), HI.out.2⟩
      · have HD2 : Hid (esc (toL s) = (esc (toL (cur.extract 1 cur.size))).map ((acc ++ [cur[0]]) ++ ·)) := Lib.hid (by
          rw [HD.out, ← map_cons, ← esc_other hk h37, ← hC1.out])
        have HN := Lib.hid (fun wr' (h : Bld w w.heap.size acc wr') => bld_byte h cur[0] (by omega))
        clear HD hC1 h37
        go_wp2_with fail
        refine (HK.out _).mono ?_
        rintro e w' ⟨rfl, rfl⟩
        go_wp2_with fail
        refine (HN.out _ HI.out).mono ?_
        rintro e w2 ⟨rfl, hb2⟩
        have HB2 := Lib.hid hb2
        clear hb2 HI
        go_wp2_with fail
        go_roundw
        case rel => exact ⟨_, _, rfl, by simp; omega, HB2, HD2⟩
        case measure => simp [sizeOfS]; omega
    · obtain ⟨m1, m2⟩ := empty_yes hpos
      have HV : Hid (esc (toL s) = some acc) := Lib.hid (by
        rw [HD.out, show toL cur = [] from (ByteArray.toList_eq cur).symm.trans m1]
        simp [esc])
      have HN := Lib.hid (fun wr' (h : Bld w w.heap.size acc wr') => bld_out h)
      clear HD hpos
      go_wp2_with fail
      refine (HN.out _ HI.out).mono ?_
      rintro e w2 ⟨rfl, hb2⟩
      have HB2 := Lib.hid hb2
      clear hb2 HI
      go_wp2_with fail
      go_ret2
      exact ⟨ret_dec (by rw [HV.out]; rfl) (by rw [HV.out, Option.isSome_some]), HB2.out⟩
end Go.Proofs.YtlhpjinajaociaaDoor.PSettled
