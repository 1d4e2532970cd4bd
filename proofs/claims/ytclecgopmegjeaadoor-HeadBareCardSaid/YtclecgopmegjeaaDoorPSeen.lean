/- Layer 8 of the program: isTarget, isReason. -/
import Derived.Test.YtclecgopmegjeaaDoorHeadCut
import Derived.Test.YtclecgopmegjeaaDoorPText
import Derived.Test.YtclecgopmegjeaaDoorLawBase
import Derived.Test.YtclecgopmegjeaaDoorMem
import Derived.Test.YtclecgopmegjeaaDoorRet
import Derived.Lib.Hide
import Derived.Outline
import Derived.LoopTactic
import Derived.Handy
namespace Go.Proofs.YtclecgopmegjeaaDoor.PSeen
open Go.ChangeShapes Go.WideShapes Go.ChangeAt Go.RowKit LexPure Bytes Ret FieldsPure HeadPure HeadCut PText Mem
set_option maxRecDepth 20000
/-- what may stand as a target -/
def targetB (s : List UInt8) : Bool := s.all seenB && !s.isEmpty
theorem target_iff (s : List UInt8) : targetB s = true ↔ s.all seenB = true ∧ s ≠ [] := by
  unfold targetB
  cases s <;> simp
theorem seen_three (b : UInt8) : (seenB b = false ∧ (b.toNat : Int) < 33) ∨ (seenB b = false ∧ ¬ (b.toNat : Int) < 33 ∧ (126 : Int) < (b.toNat : Int)) ∨ (seenB b = true ∧ ¬ (b.toNat : Int) < 33 ∧ ¬ (126 : Int) < (b.toNat : Int)) := by
  unfold seenB
  rcases (show b.toNat ≤ 32 ∨ 127 ≤ b.toNat ∨ (32 < b.toNat ∧ b.toNat < 127) by omega) with h | h | h
  · exact .inl ⟨by rw [decide_eq_false (by omega)]; rfl, by omega⟩
  · exact .inr (.inl ⟨by rw [decide_eq_false (p := b.toNat < 127) (by omega), Bool.and_false], by omega, by omega⟩)
  · exact .inr (.inr ⟨by rw [decide_eq_true h.1, decide_eq_true h.2]; rfl, by omega, by omega⟩)
theorem ptarget_any (s : ByteArray) (hs : s.size ≤ 140737488351232) (w : World) :
    Calls Tryd.prog 39 #[.string s] w fun e w' => e = .returned (.bool (targetB (toL s))) ∧ w' = w := by
  go_enter Tryd.func39, Tryd.ntmps39
  go_wp2_with fail
  go_loop [6] (fun i => ∃ k : Nat, k ≤ s.size ∧ i = .int .i64 k ∧ Hid (((toL s).take k).all seenB = true)) (fun i => s.size - (intOf i).toNat)
  case atStart => exact ⟨0, Nat.zero_le _, rfl, Lib.hid rfl⟩
  case round =>
    obtain ⟨k, hk, rfl, ha⟩ := hrel
    by_cases hlt : k < s.size
    · have hki : (k : Int) < (s.size : Int) := by omega
      have HS := Lib.hid (toL_take_succ s k hlt)
      have HG := Lib.hid (toL_get s k hlt)
      rcases seen_three s[k] with ⟨c0, c1⟩ | ⟨c0, c1, c2⟩ | ⟨c0, c1, c2⟩
      · have HV : Hid (targetB (toL s) = false) := Lib.hid (by
          unfold targetB
          rw [Bool.and_eq_false_iff]
          left
          rw [List.all_eq_false]
          exact ⟨s[k], List.mem_of_getElem? HG.out, by rw [c0]; decide⟩)
        clear HS HG c0
        go_wp2_with fail
        go_ret
        exact ⟨by rw [HV.out]; rfl, rfl⟩
      · have HV : Hid (targetB (toL s) = false) := Lib.hid (by
          unfold targetB
          rw [Bool.and_eq_false_iff]
          left
          rw [List.all_eq_false]
          exact ⟨s[k], List.mem_of_getElem? HG.out, by rw [c0]; decide⟩)
        clear HS HG c0
        go_wp2_with fail
        go_ret
        exact ⟨by rw [HV.out]; rfl, rfl⟩
      · have HA : Hid (((toL s).take (k + 1)).all seenB = true) := Lib.hid (by rw [HS.out, List.all_append, ha.out]; simp [c0])
        clear HS HG c0
        go_wp2_with fail
        go_round
        case rel => exact ⟨k + 1, by omega, by go_num, HA⟩
        case measure => simp [intOf]; omega
    · have hki : ¬ (k : Int) < (s.size : Int) := by omega
      have hall : (toL s).take k = toL s := toL_take_all s (by omega)
      have HV : Hid (targetB (toL s) = !(s.toList).isEmpty) := Lib.hid (by
        unfold targetB
        rw [← hall, ha.out, hall, ByteArray.toList_eq]
        rfl)
      clear ha hall
      cases hz : s.toList with
      | nil =>
        rw [hz] at HV
        go_wp2_with fail
        go_ret
        exact ⟨by rw [HV.out]; rfl, rfl⟩
      | cons c r =>
        rw [hz] at HV
        have n1 : ¬ (s.toList = []) := by rw [hz]; intro h; cases h
        have n2 : s.toList.isEmpty = false := by rw [hz]; rfl
        clear hz
        go_wp2_with fail
        go_ret
        exact ⟨by rw [HV.out]; rfl, rfl⟩
theorem preason_any (s : ByteArray) (hs : s.size ≤ 140737488351232) (w : World) :
    Calls Tryd.prog 45 #[.string s] w fun e w' => e = .returned (.bool ((toL s).all plainB)) ∧ Below w.heap.size w w' := by
  have HT := Lib.hid (fun w => ptrim_any s (by unfold maxLen; omega) w)
  have HV := Lib.hid (fun w => pvalue_any (ofL (trim (toL s))) (by unfold maxLen; rw [ofL_size]; have := trim_length (toL s); rw [toL_length] at this; omega) w)
  rw [toL_ofL, value_trim'] at HV
  generalize (toL s).all plainB = x at HV ⊢
  clear hs
  go_enter Tryd.func45, Tryd.ntmps45
  go_wp2_with fail
  refine (HT.out _).mono ?_
  rintro e w1 ⟨rfl, hb1⟩
  go_wp2_with fail
  refine (HV.out _).mono ?_
  rintro e w2 ⟨rfl, hb2⟩
  replace hb1 := below_chain hb1 hb2
  clear hb2
  go_wp2_with fail
  go_ret
  exact ⟨rfl, hb1⟩
end Go.Proofs.YtclecgopmegjeaaDoor.PSeen
