/- Layer 4 of the program: Lower, Alike. -/
import Derived.Test.YtgkmkkgneipabaaDoorPLsmall
import Derived.Outline
import Derived.LoopTactic
import Derived.Handy
import Derived.Deep.QuietTactic
import Derived.BigQuiet
import Derived.Below
import Derived.Test.YtgkmkkgneipabaaDoorRows1
import Derived.Test.YtgkmkkgneipabaaDoorBRow
import Derived.Test.YtgkmkkgneipabaaDoorMem
namespace Go.Proofs.YtgkmkkgneipabaaDoor.PLower
open Go.ChangeShapes Go.WideShapes Go.ChangeAt Go.RowKit LexPure Bytes Ret PLsmall Rows1 BRow Mem
set_option maxRecDepth 20000
/-- ahead of a round: the first k bytes are small -/
structure LInv (w : World) (s : ByteArray) (k : Nat) (wr : World) : Prop where
  row : BRow wr w.heap.size (lower ((toL s).take k) ++ (toL s).drop k)
  below : Below w.heap.size w wr
  lt : w.heap.size < wr.heap.size
theorem plower_any (s : ByteArray) (hs : s.size ≤ maxLen) (w : World) :
    Calls Tryd.prog 40 #[.string s] w fun e w' => e = .returned (.string (ofL (lower (toL s)))) ∧ Below w.heap.size w w' := by
  go_enter Tryd.func40, Tryd.ntmps40
  unfold maxLen at hs
  obtain ⟨cap, w1, HC, hR, hb, hg⟩ := bytes_of (P := Tryd.prog) w 9 57 5 s Tryd.underlying9 Tryd.underlying57 Tryd.underlying5
  have HR0 : Hid (LInv w s 0 w1) := Lib.hid ⟨by rw [List.take_zero, List.drop_zero]; exact hR, hb, hg⟩
  clear hR hb hg
  go_wp2_with fail
  generalize hgq : w.heap.size = g at *
  go_loopw [10] (fun i wr => ∃ k : Nat, k ≤ s.size ∧ i = .int .i64 k ∧ Hid (LInv w s k wr)) (fun i _ => s.size - (intOf i).toNat)
  case atStart => exact ⟨0, Nat.zero_le _, rfl, HR0⟩
  case round =>
    obtain ⟨k, hk, rfl, HI⟩ := hrel
    clear HR0
    by_cases hlt : k < s.size
    · have hki : (k : Int) < (s.size : Int) := by omega
      have hlen : (lower ((toL s).take k) ++ (toL s).drop k).length = s.size := by
        rw [List.length_append, lower_length, List.length_take, List.length_drop, toL_length]; omega
      have hkl : k < (lower ((toL s).take k) ++ (toL s).drop k).length := by omega
      have hc := HI.out.row.cell k hkl
      have hget : (lower ((toL s).take k) ++ (toL s).drop k)[k] = s[k] := by
        have h1 : (lower ((toL s).take k) ++ (toL s).drop k)[k]? = some s[k] := by
          rw [List.getElem?_append_right (by rw [lower_length, List.length_take, toL_length]; omega), lower_length, List.length_take, toL_length, List.getElem?_drop, ← toL_get s k hlt]
          congr 1
          omega
        rw [List.getElem?_eq_getElem hkl] at h1
        exact Option.some.inj h1
      rw [hget, hgq] at hc
      have hf := HI.out.row.free k hkl
      rw [hgq] at hf
      have HC := Lib.hid (fun w => psmall_same s[k] w)
      have HN : Hid (LInv w s (k + 1) (wr.setCell ⟨g, k, none⟩ (.int .u8 ((small s[k]).toNat : Int)))) := Lib.hid ⟨by
          have h := HI.out.row.set k hkl (small s[k])
          rw [hgq] at h ⊢
          have e : (lower ((toL s).take k) ++ (toL s).drop k).set k (small s[k]) = lower ((toL s).take (k + 1)) ++ (toL s).drop (k + 1) := by
            rw [toL_take_succ s k hlt, toL_drop s k hlt]
            unfold lower
            rw [List.map_append, List.set_append_right _ _ (by rw [List.length_map, List.length_take, toL_length]; omega), List.length_map, List.length_take, toL_length, show k - min k s.size = 0 by omega]
            simp
          rwa [e] at h,
        HI.out.below.setCell (by rw [hgq]; exact Nat.le_refl _) _, by
          have := HI.out.lt
          rw [World.size_setCell]; exact this⟩
      clear hlen hkl hget HI
      go_wp2_with fail
      refine (HC.out _).mono ?_
      rintro e w' ⟨rfl, rfl⟩
      go_wp2_with fail
      go_roundw
      case rel => exact ⟨k + 1, by omega, by go_num, HN⟩
      case measure => simp [intOf]; omega
    · have hall : (toL s).take k = toL s := toL_take_all s (by omega)
      have HF : Hid (BRow wr g (lower (toL s))) := Lib.hid (by
        have h := HI.out.row
        rw [hall, hgq] at h
        rwa [List.drop_of_length_le (by rw [toL_length]; omega), List.append_nil] at h)
      have HT := HF.out.text (P := Tryd.prog) (cap := cap) 57 9 5 Tryd.underlying57 Tryd.underlying5 Tryd.underlying9
      rw [lower_length, toL_length] at HT
      have HB := Lib.hid HI.out.below
      clear hall HF HI
      go_wp2_with fail
      go_ret
      exact ⟨rfl, HB.out⟩
end Go.Proofs.YtgkmkkgneipabaaDoor.PLower
