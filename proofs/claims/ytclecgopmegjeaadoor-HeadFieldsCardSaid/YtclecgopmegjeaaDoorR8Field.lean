/- Layer 8, the document's own Field. -/
import Derived.Test.YtclecgopmegjeaaDoorR8End
import Derived.Test.YtclecgopmegjeaaDoorHBox
import Derived.Test.YtclecgopmegjeaaDoorRToken
import Derived.Test.YtclecgopmegjeaaDoorRTrim
import Derived.Test.YtclecgopmegjeaaDoorRValue
import Derived.Laws.DeepStrings4
import Derived.Deep.QuietTactic
import Derived.BigQuiet
namespace Go.Proofs.YtclecgopmegjeaaDoor.R8Field
open Go.ChangeShapes Go.WideShapes Go.ChangeAt Go.RowKit LexPure Bytes Ret FieldsPure HeadPure HBox Mem R8End RToken RTrim RValue
set_option maxRecDepth 20000
theorem name_step {l : List UInt8} {c : UInt8} : nameB (c :: l) = if c != 58 then c :: nameB l else [] := by
  unfold nameB
  rw [List.takeWhile_cons]
theorem mark_58 (b : UInt8) : (b = 58 ∧ ((b.toNat : Int) != 58) = false) ∨ (b ≠ 58 ∧ ((b.toNat : Int) != 58) = true) := by
  have := all_bytes (p := fun b => decide ((b = 58 ∧ ((b.toNat : Int) != 58) = false) ∨ (b ≠ 58 ∧ ((b.toNat : Int) != 58) = true))) (by decide +kernel) b
  exact of_decide_eq_true this
theorem name_take (s : List UInt8) : nameB s = s.take (nameB s).length := by
  unfold nameB
  induction s with
  | nil => rfl
  | cons c s ih =>
    rw [List.takeWhile_cons]
    split
    · rw [List.length_cons, List.take_succ_cons, ← ih]
    · rfl
set_option maxHeartbeats 1600000 in
theorem r8field_any (s : ByteArray) (hs : s.size ≤ 140737488351232) (w : World) :
    Calls Tryd.prog 19 #[.string s] w fun e w' => e = .returned (frv (field8 (toL s))) ∧ Below w.heap.size w w' := by
  have HO := Lib.hid (FOne.start w)
  obtain ⟨x, hx⟩ : ∃ x, x = field8 (toL s) := ⟨_, rfl⟩
  rw [← hx]
  replace hx := Lib.hid hx
  go_enter Tryd.func19, Tryd.ntmps19
  go_wp2_with fail
  generalize w.alloc (.cells #[.string ⟨#[]⟩, .string ⟨#[]⟩] 37) = W at HO ⊢
  obtain ⟨g, hg⟩ : ∃ g, g = w.heap.size := ⟨_, rfl⟩
  rw [← hg] at HO ⊢
  replace hg := Lib.hid hg
  go_loop [4] (fun i => ∃ k : Nat, k ≤ s.size ∧ i = .int .i64 k ∧ Hid ((nameB (toL s)).length = k + (nameB ((toL s).drop k)).length)) (fun i => s.size - (intOf i).toNat)
  case atStart => exact ⟨0, Nat.zero_le _, rfl, Lib.hid (by rw [List.drop_zero, Nat.zero_add])⟩
  case round =>
    obtain ⟨k, hk, rfl, hq⟩ := hrel
    have hx2 : (∃ hlt : k < s.size, (k : Int) < (s.size : Int) ∧ ((s[k].toNat : Int) != 58) = true ∧ Hid ((nameB (toL s)).length = k + 1 + (nameB ((toL s).drop (k + 1))).length)) ∨ (∃ hlt : k < s.size, (k : Int) < (s.size : Int) ∧ ((s[k].toNat : Int) != 58) = false ∧ Hid ((nameB (toL s)).length = k)) ∨ (k = s.size ∧ ¬ (k : Int) < (s.size : Int) ∧ Hid ((nameB (toL s)).length = s.size)) := by
      by_cases hlt : k < s.size
      · have HE := hq.out
        rw [toL_drop s k hlt, name_step] at HE
        rcases mark_58 s[k] with ⟨c0, c1⟩ | ⟨c0, c1⟩
        · exact .inr (.inl ⟨hlt, by omega, c1, Lib.hid (by rw [HE, c0]; rfl)⟩)
        · exact .inl ⟨hlt, by omega, c1, Lib.hid (by rw [HE, if_pos (bne_iff_ne.2 c0), List.length_cons]; omega)⟩
      · have HE := hq.out
        rw [List.drop_eq_nil_of_le (by rw [toL_length]; omega)] at HE
        exact .inr (.inr ⟨by omega, by omega, Lib.hid (HE.trans (by show k + 0 = s.size; omega))⟩)
    clear hq
    obtain ⟨d0, d1⟩ := HO.out.box.cells
    obtain ⟨z0, z1⟩ := HO.out.box.frees
    rcases hx2 with ⟨hlt, hki, c1, HV⟩ | ⟨hlt, hki, c1, HV⟩ | ⟨rfl, hki, HV⟩
    · go_wp2_with fail
      go_round
      case rel => exact ⟨k + 1, by omega, by go_num, HV⟩
      case measure => simp [intOf]; omega
    · have hne : ((k : Int) == (s.size : Int)) = false := beq_eq_false_iff_ne.2 (by omega)
      have e1 : toL (s.extract 0 k) = nameB (toL s) := by rw [toL_extract, List.drop_zero, name_take (toL s), HV.out]
      have e2 : toL (s.extract (k + 1) s.size) = (toL s).drop ((nameB (toL s)).length + 1) := by rw [toL_extract, toL_take_all s (Nat.le_refl _), HV.out]
      have HT := Lib.hid (fun w => (rtoken_any (s.extract 0 k) (by unfold maxLen; rw [ByteArray.size_extract]; omega) w).mono (fun e w' h => (⟨h.1, h.2.symm⟩ : e = .returned (.bool (token (toL (s.extract 0 k)))) ∧ w' = w)))
      have HR := Lib.hid (fun w => rtrim_any (s.extract (k + 1) s.size) (by unfold maxLen; rw [ByteArray.size_extract]; omega) w)
      have HL := Lib.hid (fun w => rvalue_any (ofL (trim (toL (s.extract (k + 1) s.size)))) (by unfold maxLen; rw [ofL_size]; have := trim_length (toL (s.extract (k + 1) s.size)); rw [toL_length, ByteArray.size_extract] at this; omega) w)
      rw [toL_ofL] at HL
      have h0 : x = if token (toL (s.extract 0 k)) = true ∧ value (trim (toL (s.extract (k + 1) s.size))) = true then ((toL (s.extract 0 k), trim (toL (s.extract (k + 1) s.size))), 0) else (([], []), 70) := by
        rw [hx.out]
        unfold field8
        rw [e1, e2]
        by_cases h : token (nameB (toL s)) = true ∧ value (trim ((toL s).drop ((nameB (toL s)).length + 1))) = true
        · rw [if_pos h, if_pos ⟨by rw [HV.out, toL_length]; exact hlt, h⟩]
        · rw [if_neg h, if_neg (fun h2 => h h2.2)]
      have e3 : ofL (toL (s.extract 0 k)) = s.extract 0 k := ofL_toL _
      replace h0 := Lib.hid h0
      replace e3 := Lib.hid e3
      clear e1 e2 HV hx
      generalize toL (s.extract 0 k) = A at *
      generalize trim (toL (s.extract (k + 1) s.size)) = B at *
      cases ht : token A with
      | false =>
        rw [ht] at HT
        have HV : x = (([], []), 70) := by rw [h0.out, ht]; rfl
        subst HV
        have HE := Lib.hid (HO.out.box.put ([], []))
        have HB := Lib.hid (HO.out.put ([], []))
        clear h0 HR HL ht e3 HO
        go_wp2_with fail
        refine (HT.out _).mono ?_
        rintro e w' ⟨rfl, rfl⟩
        go_wp2_with fail
        refine bodyPost_ret (v := frv (([], []), 70)) ?_ rfl ⟨rfl, HB.out⟩
        rw [results_cell_tmp rfl]
        exact end_fbox rfl rfl HE.out
      | true =>
        rw [ht] at HT
        cases hv : value B with
        | false =>
          rw [hv] at HL
          have HV : x = (([], []), 70) := by rw [h0.out, hv]; simp
          subst HV
          have HE := Lib.hid (HO.out.box.put ([], []))
          have HB := Lib.hid (HO.out.put ([], []))
          clear h0 ht hv e3 HO
          go_wp2_with fail
          refine (HT.out _).mono ?_
          rintro e w' ⟨rfl, rfl⟩
          go_wp2_with fail
          refine (HR.out _).mono ?_
          rintro e w' ⟨rfl, rfl⟩
          go_wp2_with fail
          refine (HL.out _).mono ?_
          rintro e w' ⟨rfl, rfl⟩
          go_wp2_with fail
          refine bodyPost_ret (v := frv (([], []), 70)) ?_ rfl ⟨rfl, HB.out⟩
          rw [results_cell_tmp rfl]
          exact end_fbox rfl rfl HE.out
        | true =>
          rw [hv] at HL
          have HV : x = ((A, B), 0) := by rw [h0.out, ht, hv]; rfl
          subst HV
          have HE := HO.out.box.put (A, B)
          have HB := HO.out.put (A, B)
          unfold fput at HE HB
          simp only [e3.out] at HE HB
          replace HE := Lib.hid HE
          replace HB := Lib.hid HB
          clear h0 ht hv e3 HO
          go_wp2_with fail
          refine (HT.out _).mono ?_
          rintro e w' ⟨rfl, rfl⟩
          go_wp2_with fail
          refine (HR.out _).mono ?_
          rintro e w' ⟨rfl, rfl⟩
          go_wp2_with fail
          refine (HL.out _).mono ?_
          rintro e w' ⟨rfl, rfl⟩
          go_wp2_with fail
          refine bodyPost_ret (v := frv ((A, B), 0)) ?_ rfl ⟨rfl, HB.out⟩
          rw [results_cell_tmp rfl]
          exact end_fbox rfl rfl HE.out
    · have hne : ((s.size : Int) == (s.size : Int)) = true := beq_self_eq_true _
      have HV : x = (([], []), 70) := by rw [hx.out]; unfold field8; rw [if_neg]; rintro ⟨h, _⟩; rw [HV.out, toL_length] at h; omega
      subst HV
      have HE := Lib.hid (HO.out.box.put ([], []))
      have HB := Lib.hid (HO.out.put ([], []))
      clear hx
      go_wp2_with fail
      refine bodyPost_ret (v := frv (([], []), 70)) ?_ rfl ⟨rfl, HB.out⟩
      rw [results_cell_tmp rfl]
      exact end_fbox rfl rfl HE.out
end Go.Proofs.YtclecgopmegjeaaDoor.R8Field
