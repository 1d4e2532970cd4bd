/- Layer 7, the document's own Check. -/
import Derived.Test.YtclecgopmegjeaaDoorFlds
import Derived.Outline
import Derived.LoopTactic
import Derived.Handy
import Derived.Test.YtclecgopmegjeaaDoorRToken
import Derived.Test.YtclecgopmegjeaaDoorRValue
import Derived.IntWalk
import Derived.Deep.QuietTactic
import Derived.BigQuiet
namespace Go.Proofs.YtclecgopmegjeaaDoor.R7Check
open Go.ChangeShapes Go.WideShapes Go.ChangeAt Go.RowKit LexPure Bytes Ret Rows1 FieldsPure Flds RToken RValue Mem
set_option maxRecDepth 20000
theorem ret_i {a b : Int} (h : a = b) : Ending.returned (.int .i64 a) = .returned (.int .i64 b) := by rw [h]
set_option maxHeartbeats 1600000 in
theorem r7check_far (v : Value) (G : List HField) (hG : Far G) (w : World) (hF : FL w v G) :
    Calls Tryd.prog 17 #[v] w fun e w' => e = .returned (.int .i64 (check G)) ∧ Below w.heap.size w w' := by
  obtain ⟨p, cap, rfl, hle, hc⟩ := hF
  replace hc := Lib.hid hc
  replace hG := Lib.hid hG
  go_enter Tryd.func17, Tryd.ntmps17
  go_wp2_with fail
  go_loopw [3] (fun i wr => ∃ k : Nat, k ≤ G.length ∧ i = .int .i64 k ∧ Hid ((G.take k).all right = true) ∧ Hid (Below w.heap.size w wr)) (fun i _ => G.length - (intOf i).toNat)
  case atStart => exact ⟨0, Nat.zero_le _, rfl, Lib.hid rfl, Lib.hid (Below.refl _ _)⟩
  case round =>
    obtain ⟨k, hk, rfl, ha, HB⟩ := hrel
    by_cases hlt : k < G.length
    · obtain ⟨g, o, rfl, hgl, hcell⟩ := hc.out (by omega)
      obtain ⟨c1, c2⟩ := hcell k hlt
      replace c1 := (HB.out.cell (p := ⟨g, o + k * 2, none⟩) hgl).trans c1
      replace c2 := (HB.out.cell (p := ⟨g, o + k * 2 + 1, none⟩) hgl).trans c2
      have hki : (k : Int) < (G.length : Int) := by omega
      obtain ⟨s1, s2⟩ := hG.out k hlt
      clear hcell
      have HTk := Lib.hid (fun w => (rtoken_any (ofL G[k].1) (by rw [ofL_size]; unfold maxLen; omega) w).mono (fun e w' h => (⟨h.1, h.2.symm⟩ : e = .returned (.bool (token (toL (ofL G[k].1)))) ∧ w' = w)))
      have HVl := Lib.hid (fun w => (rvalue_any (ofL G[k].2) (by rw [ofL_size]; unfold maxLen; omega) w).mono (fun e w' h => (⟨h.1, h.2.symm⟩ : e = .returned (.bool (value (toL (ofL G[k].2)))) ∧ w' = w)))
      rw [toL_ofL] at HTk HVl
      have hA := ofL_size G[k].1
      have hB := ofL_size G[k].2
      have HT : Hid ((G.take (k + 1)).all right = ((G.take k).all right && right G[k])) := Lib.hid (by
        rw [List.take_add_one, List.getElem?_eq_getElem hlt, List.all_append]
        simp)
      have HF : right G[k] = false → Hid (check G = 70) := fun h => Lib.hid (by
        unfold check
        rw [if_neg]
        intro h2
        have := List.all_eq_true.1 h2 _ (List.getElem_mem hlt)
        rw [h] at this
        cases this)
      have hr : right G[k] = (token G[k].1 && value G[k].2 && decide (G[k].1.length + G[k].2.length ≤ 512)) := rfl
      have hsum : IntKind.i64.wrap (((ofL G[k].1).size : Int) + ((ofL G[k].2).size : Int)) = ((ofL G[k].1).size : Int) + ((ofL G[k].2).size : Int) := IntWalk.i64_in _ (by omega)
      have hcases : (token G[k].1 = false) ∨ (token G[k].1 = true ∧ value G[k].2 = false) ∨ (token G[k].1 = true ∧ value G[k].2 = true ∧ decide ((512 : Int) < ((ofL G[k].1).size : Int) + ((ofL G[k].2).size : Int)) = true ∧ right G[k] = false) ∨ (token G[k].1 = true ∧ value G[k].2 = true ∧ decide ((512 : Int) < ((ofL G[k].1).size : Int) + ((ofL G[k].2).size : Int)) = false ∧ right G[k] = true) := by
        rw [hr, hA, hB]
        cases token G[k].1
        · exact .inl rfl
        · cases value G[k].2
          · exact .inr (.inl ⟨rfl, rfl⟩)
          · by_cases h : G[k].1.length + G[k].2.length ≤ 512
            · exact .inr (.inr (.inr ⟨rfl, rfl, decide_eq_false (by omega), by rw [decide_eq_true h]; rfl⟩))
            · exact .inr (.inr (.inl ⟨rfl, rfl, decide_eq_true (by omega), by rw [decide_eq_false h]; rfl⟩))
      clear hA hB
      rcases hcases with h1 | ⟨h1, h2⟩ | ⟨h1, h2, h3, h4⟩ | ⟨h1, h2, h3, h4⟩
      · have HV := HF (by rw [hr, h1]; rfl)
        rw [h1] at HTk
        clear hr h1 HF HT ha hsum
        generalize ofL G[k].1 = A at *
        generalize ofL G[k].2 = B at *
        have HBH := Lib.hid HB.out
        go_wp2_with fail
        go_quiet (first | (go_at_call 16; exact Calls.quiet_of_same (HTk.out _)) | (go_at_call 30; exact Calls.quiet_of_same (HVl.out _)))
        go_wp2_with fail
        go_ret
        exact ⟨ret_i HV.out.symm, HBH.out.trans ⟨rfl, rfl, rfl, Nat.le_refl _, fun _ _ => rfl⟩⟩
      · have HV := HF (by rw [hr, h1, h2]; rfl)
        rw [h1] at HTk
        rw [h2] at HVl
        clear hr h1 h2 HF HT ha hsum
        generalize ofL G[k].1 = A at *
        generalize ofL G[k].2 = B at *
        have HBH := Lib.hid HB.out
        go_wp2_with fail
        go_quiet (first | (go_at_call 16; exact Calls.quiet_of_same (HTk.out _)) | (go_at_call 30; exact Calls.quiet_of_same (HVl.out _)))
        go_wp2_with fail
        go_ret
        exact ⟨ret_i HV.out.symm, HBH.out.trans ⟨rfl, rfl, rfl, Nat.le_refl _, fun _ _ => rfl⟩⟩
      · have HV := HF h4
        rw [h1] at HTk
        rw [h2] at HVl
        clear hr h1 h2 h4 HF HT ha
        generalize ofL G[k].1 = A at *
        generalize ofL G[k].2 = B at *
        have HBH := Lib.hid HB.out
        go_wp2_with fail
        go_quiet (first | (go_at_call 16; exact Calls.quiet_of_same (HTk.out _)) | (go_at_call 30; exact Calls.quiet_of_same (HVl.out _)))
        go_wp2_with fail
        go_ret
        exact ⟨ret_i HV.out.symm, HBH.out.trans ⟨rfl, rfl, rfl, Nat.le_refl _, fun _ _ => rfl⟩⟩
      · have HA2 : Hid ((G.take (k + 1)).all right = true) := Lib.hid (by rw [HT.out, ha.out, h4]; rfl)
        rw [h1] at HTk
        rw [h2] at HVl
        clear hr h1 h2 h4 HF HT ha
        generalize ofL G[k].1 = A at *
        generalize ofL G[k].2 = B at *
        have HBH := Lib.hid HB.out
        go_wp2_with fail
        go_quiet (first | (go_at_call 16; exact Calls.quiet_of_same (HTk.out _)) | (go_at_call 30; exact Calls.quiet_of_same (HVl.out _)))
        go_wp2_with fail
        have HB3 : Hid (Below w.heap.size w (wr.drewN nq)) := Lib.hid (HBH.out.trans ⟨rfl, rfl, rfl, Nat.le_refl _, fun _ _ => rfl⟩)
        go_roundw
        case rel => exact ⟨k + 1, by omega, by go_num, HA2, HB3⟩
        case measure => simp [intOf]; omega
    · have hall : G.take k = G := List.take_of_length_le (by omega)
      have hc2 := ha.out
      rw [hall] at hc2
      have HBH := Lib.hid HB.out
      by_cases h32 : G.length ≤ 32
      · have HV : Hid (check G = 0) := Lib.hid (by unfold check; rw [if_pos hc2, if_pos h32])
        have hi : ¬ (32 : Int) < (G.length : Int) := by omega
        clear hall hc2 ha
        go_wp2_with fail
        go_ret
        exact ⟨ret_i HV.out.symm, HBH.out⟩
      · have HV : Hid (check G = 71) := Lib.hid (by unfold check; rw [if_pos hc2, if_neg h32])
        have hi : (32 : Int) < (G.length : Int) := by omega
        clear hall hc2 ha
        go_wp2_with fail
        go_ret
        exact ⟨ret_i HV.out.symm, HBH.out⟩
theorem r7check_any (v : Value) (G : List HField) (hG : Few G) (w : World) (hF : FL w v G) :
    Calls Tryd.prog 17 #[v] w fun e w' => e = .returned (.int .i64 (check G)) ∧ Below w.heap.size w w' := r7check_far v G hG.far w hF
end Go.Proofs.YtclecgopmegjeaaDoor.R7Check
