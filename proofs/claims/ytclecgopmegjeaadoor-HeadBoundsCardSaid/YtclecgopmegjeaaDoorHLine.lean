/- Layer 8: the law's own line of so many bytes. -/
import Derived.Test.YtclecgopmegjeaaDoorHAnchor
import Derived.Test.YtclecgopmegjeaaDoorBRow
import Derived.OwnWalk
namespace Go.Proofs.YtclecgopmegjeaaDoor.HLine
open Go.ChangeShapes Go.WideShapes Go.ChangeAt Go.RowKit LexPure Bytes Ret Rows1 FieldsPure Flds HeadPure HBox BRow Mem
set_option maxRecDepth 20000
set_option linter.unusedVariables false
def lineL (k : Nat) : List UInt8 := List.replicate k 97
def halfL (n k : Nat) : List UInt8 := List.replicate k 97 ++ List.replicate (n - k) 0
theorem half_len {n k : Nat} (h : k ≤ n) : (halfL n k).length = n := by unfold halfL; rw [List.length_append, List.length_replicate, List.length_replicate]; omega
theorem half_set {n k : Nat} (h : k < n) : (halfL n k).set k 97 = halfL n (k + 1) := by
  unfold halfL
  rw [List.set_append_right _ _ (by rw [List.length_replicate]; exact Nat.le_refl _), List.length_replicate, Nat.sub_self, show n - k = (n - (k + 1)) + 1 by omega, List.replicate_succ, List.set_cons_zero, List.replicate_succ', List.append_assoc]
  rfl
structure LInv (w : World) (n k : Nat) (wr : World) : Prop where
  row : BRow wr w.heap.size (halfL n k)
  below : Below w.heap.size w wr
  lt : w.heap.size < wr.heap.size
theorem infoB : (Tryd.prog.info? 5).map (fun i => (i.zero, i.size, i.bytes)) = some (some (.int .u8 0), 1, 1) := by kernel_rfl
set_option maxHeartbeats 1600000 in
theorem line_any (n : Nat) (hn : n ≤ 2000) (w : World) :
    Calls Tryd.prog 20 #[.int .i64 (n : Int)] w fun e w' => e = .returned (.string (ofL (lineL n))) ∧ Below w.heap.size w w' := by
  obtain ⟨i0, hi, hz0, hz1, hz2⟩ := info_parts infoB
  go_enter Tryd.func20, Tryd.ntmps20
  go_wp2_with (at_make; refine wpList_make_full _ rfl _ _ 56 rfl w.heap.size 5 i0 (.int .u8 0) 1 Tryd.underlying56 hi hz0 hz1 .i64 .i64 _ _ n rfl rfl rfl rfl (by rw [hz2]; omega) (by simp only [maxLen]; omega) (Nat.le_refl _) ?_; intro w1 hown hg1)
  have HR0 : Hid (LInv w n 0 w1) := Lib.hid (by
    have hl : (halfL n 0).length = n := half_len (Nat.zero_le _)
    refine ⟨⟨fun j hj => ?_, fun j hj => hown.frozenAt j⟩, ⟨hg1.os, hg1.tape, hg1.output, hg1.size, fun i hi => hg1.block i hi (by simp)⟩, (hown.lt w.heap.size rfl).2⟩
    rw [hl] at hj
    have h1 := hown.cells (g := w.heap.size) rfl j (.int .u8 0) (by
      rw [Nat.mul_one]
      simp [madeCells, Value.cells, hj, Nat.mod_one])
    rw [show (⟨w.heap.size, 0, none⟩ : Addr).add j = ⟨w.heap.size, j, none⟩ by unfold Addr.add; split <;> simp_all] at h1
    rw [h1]
    unfold halfL
    simp)
  clear hown hg1
  generalize hgq : w.heap.size = g at *
  go_loopw [9] (fun i wr => ∃ k : Nat, k ≤ n ∧ i = .int .i64 k ∧ Hid (LInv w n k wr)) (fun i _ => n - (intOf i).toNat)
  case atStart => exact ⟨0, Nat.zero_le _, rfl, HR0⟩
  case round =>
    obtain ⟨k, hk, rfl, HI⟩ := hrel
    clear HR0
    by_cases hlt : k < n
    · have hki : (k : Int) < (n : Int) := by omega
      have hkl : k < (halfL n k).length := by rw [half_len hk]; exact hlt
      have hc := HI.out.row.cell k hkl
      rw [hgq] at hc
      have hf := HI.out.row.free k hkl
      rw [hgq] at hf
      have HN : Hid (LInv w n (k + 1) (wr.setCell ⟨g, k, none⟩ (.int .u8 ((97 : UInt8).toNat : Int)))) := Lib.hid ⟨by
          have h := HI.out.row.set k hkl 97
          rw [hgq] at h ⊢
          rwa [half_set hlt] at h,
        HI.out.below.setCell (by rw [hgq]; exact Nat.le_refl _) _, by
          have := HI.out.lt
          rw [World.size_setCell]; exact this⟩
      obtain ⟨z, hz⟩ : ∃ z, wr.cell? ⟨g, k, none⟩ = some z := ⟨_, hc⟩
      clear hc hkl HI
      go_wp2_with fail
      go_roundw
      case rel => exact ⟨k + 1, by omega, by go_num, HN⟩
      case measure => simp [intOf]; omega
    · have hkn : k = n := by omega
      subst hkn
      have HF : BRow wr g (lineL k) := by
        have h := HI.out.row
        rw [hgq] at h
        have e : halfL k k = lineL k := by unfold halfL lineL; rw [Nat.sub_self, List.replicate_zero, List.append_nil]
        rwa [e] at h
      have HT := HF.text (P := Tryd.prog) (cap := k) 56 9 5 Tryd.underlying56 Tryd.underlying5 Tryd.underlying9
      rw [show (lineL k).length = k from List.length_replicate] at HT
      have HB := Lib.hid (show Below g w wr by have := HI.out.below; rwa [hgq] at this)
      clear HF HI
      have hki : ¬ ((k : Int) < (k : Int)) := by omega
      go_wp2_with fail
      go_ret
      exact ⟨rfl, HB.out⟩
end Go.Proofs.YtclecgopmegjeaaDoor.HLine
