/- Layer 4, the document's own Lower. -/
import Derived.Test.YtgkmkkgneipabaaDoorLexPure
import Derived.Test.YtgkmkkgneipabaaDoorLawBase
import Derived.Test.YtgkmkkgneipabaaDoorRet
import Derived.Lib.Hide
import Derived.Below
import Derived.Outline
import Derived.LoopTactic
import Derived.Test.YtgkmkkgneipabaaDoorRows1
import Derived.Maps.AppendAt
namespace Go.Proofs.YtgkmkkgneipabaaDoor.RLower
open Go.ChangeShapes Go.WideShapes Go.ChangeAt Go.RowKit LexPure Bytes Ret Rows1
set_option maxRecDepth 20000
theorem infoB : (Tryd.prog.info? 5).map (fun i => (i.zero, i.size, i.bytes)) = some (some (.int .u8 0), 1, 1) := by kernel_rfl
/-- what is gathered so far -/
def LInv (w : World) (s : ByteArray) (k : Nat) (v : Value) (wr : World) : Prop :=
  wr.ownsRow w.heap.size 5 1 v k (bvs (lower ((toL s).take k))) ∧ Below w.heap.size w wr
theorem small_at {b : UInt8} : (65 ≤ (b.toNat : Int) ∧ (b.toNat : Int) ≤ 90 ∧ (small b).toNat = (b.toNat : Int) - 65 + 97) ∨ (((b.toNat : Int) < 65 ∨ (65 ≤ (b.toNat : Int) ∧ 90 < (b.toNat : Int))) ∧ small b = b) := by
  have := all_bytes (p := fun b => decide ((65 ≤ (b.toNat : Int) ∧ (b.toNat : Int) ≤ 90 ∧ ((small b).toNat : Int) = (b.toNat : Int) - 65 + 97) ∨ (((b.toNat : Int) < 65 ∨ (65 ≤ (b.toNat : Int) ∧ 90 < (b.toNat : Int))) ∧ small b = b))) (by decide +kernel) b
  simpa only [decide_eq_true_eq] using this
theorem rlower_any (s : ByteArray) (hs : s.size ≤ 140737488351232) (w : World) :
    Calls Tryd.prog 26 #[.string s] w fun e w' => e = .returned (.string (ofL (lower (toL s)))) ∧ Below w.heap.size w w' := by
  obtain ⟨i0, hi, hz0, hz1, hz2⟩ := info_parts infoB
  go_enter Tryd.func26, Tryd.ntmps26
  go_wp2_with fail
  go_loopw [3, 4] (fun v i wr => ∃ k : Nat, k ≤ s.size ∧ i = .int .i64 k ∧ Hid (LInv w s k v wr)) (fun _ i _ => s.size - (intOf i).toNat)
  case atStart => exact ⟨0, Nat.zero_le _, rfl, Lib.hid ⟨World.ownsRow_nil _ _ _ _, Below.refl _ _⟩⟩
  case round =>
    obtain ⟨k, hk, rfl, HI⟩ := hrel
    obtain ⟨hrow, hbw⟩ := HI.out
    by_cases hlt : k < s.size
    · have hki : (k : Int) < (s.size : Int) := by omega
      have HT : Hid (lower ((toL s).take (k + 1)) = lower ((toL s).take k) ++ [small s[k]]) := Lib.hid (by
        rw [toL_take_succ s k hlt]
        unfold lower
        rw [List.map_append]
        rfl)
      rcases small_at (b := s[k]) with ⟨h1, h2, h3⟩ | ⟨h1, h2⟩
      · have HV : Hid (bv (small s[k]) = .int .u8 ((s[k].toNat : Int) - 65 + 97)) := Lib.hid (by unfold bv; rw [h3])
        go_wp2_with (at_builtin; refine wpList_append_own _ rfl _ _ 57 rfl w.heap.size 5 i0 (.int .u8 0) 1 1 Tryd.underlying57 hi hz0 hz1 hz2 rfl (by decide) _ _ _ rfl (hrow.alloc _) ⟨wr.heap.size, 0, none⟩ 1 1 [.int .u8 ((s[k].toNat : Int) - 65 + 97)] rfl rfl (cell_one_new _ _ _) (fun x hx => by simp at hx; subst hx; rfl) (by unfold maxLen; omega) (by omega) (by have := hbw.size; simp; omega) ?_; intro v' w3 hown' hgrow3 hnil3)
        have HI3 : Hid (LInv w s (k + 1) v' w3) := Lib.hid ⟨by rw [HT.out, bvs_append]; have h := hown'; rw [← HV.out] at h; exact h, Below.grown (hbw.alloc hbw.size _) hgrow3 (by have := hbw.size; simp; omega) (fun j hj => (hrow.lt _ hj).1)⟩
        clear hown' hgrow3 hnil3
        go_wp2_with fail
        go_roundw
        case rel => exact ⟨k + 1, by omega, by go_num, HI3⟩
        case measure => simp [intOf]; omega
      · rcases h1 with h1 | ⟨h1, h3⟩
        all_goals
          have HV : Hid (bv (small s[k]) = .int .u8 (s[k].toNat : Int)) := Lib.hid (by rw [h2]; rfl)
          go_wp2_with (at_builtin; refine wpList_append_own _ rfl _ _ 57 rfl w.heap.size 5 i0 (.int .u8 0) 1 1 Tryd.underlying57 hi hz0 hz1 hz2 rfl (by decide) _ _ _ rfl (hrow.alloc _) ⟨wr.heap.size, 0, none⟩ 1 1 [.int .u8 (s[k].toNat : Int)] rfl rfl (cell_one_new _ _ _) (fun x hx => by simp at hx; subst hx; rfl) (by unfold maxLen; omega) (by omega) (by have := hbw.size; simp; omega) ?_; intro v' w3 hown' hgrow3 hnil3)
          have HI3 : Hid (LInv w s (k + 1) v' w3) := Lib.hid ⟨by rw [HT.out, bvs_append]; have h := hown'; rw [← HV.out] at h; exact h, Below.grown (hbw.alloc hbw.size _) hgrow3 (by have := hbw.size; simp; omega) (fun j hj => (hrow.lt _ hj).1)⟩
          clear hown' hgrow3 hnil3
          go_wp2_with fail
          go_roundw
          case rel => exact ⟨k + 1, by omega, by go_num, HI3⟩
          case measure => simp [intOf]; omega
    · have HC := own_string (P := Tryd.prog) hrow 57 9 Tryd.underlying57 Tryd.underlying5 Tryd.underlying9
      rw [toL_take_all s (by omega)] at HC
      clear hrow HI
      go_wp2_with fail
      go_ret
      exact ⟨rfl, hbw⟩
end Go.Proofs.YtgkmkkgneipabaaDoor.RLower
