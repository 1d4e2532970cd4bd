/- Layer 7 of the program: the test by which Strip leaves fields out. -/
import Derived.Test.YtgkmkkgneipabaaDoorPAlone
import Derived.Test.YtgkmkkgneipabaaDoorPLower
import Derived.Maps.OwnSet
namespace Go.Proofs.YtgkmkkgneipabaaDoor.PStrip1
open Go.ChangeShapes Go.WideShapes Go.ChangeAt Go.RowKit LexPure Bytes Ret FieldsPure PAlone PLower Mem Go.Maps Go.WideMaps
set_option maxRecDepth 20000
theorem lawS : Keyed Tryd.prog 9 := string_keyed Tryd.underlying9
theorem zeroU (w : World) : (zeroValue 54).run Tryd.prog w = .ok (.agg #[]) w := by kernel_rfl
set_option maxHeartbeats 1600000 in
theorem pstrip1_any (a b : ByteArray) (ha : a.size ≤ 1048576) (bx mb n : Nat) (D : DataW Unit) (w : World) (hx : w.cell? ⟨bx, 0, none⟩ = some (.map (some mb))) (hown : w.ownsMap Tryd.prog 9 unitElem mb n D) :
    Calls Tryd.prog 41 #[.agg #[.string a, .string b], .pointer (some ⟨bx, 0, none⟩)] w fun e w' => e = .returned (.bool (Maps.has D (.string (lower (toL a))) || fixed.contains (lower (toL a)))) ∧ Below w.heap.size w w' := by
  have hbx := World.block_lt_of_cell? _ _ hx
  have HA := Lib.hid (fun w => plower_any a (by unfold maxLen; omega) w)
  have hkey : keyOf Tryd.prog 9 (.string (ofL (lower (toL a)))) = some (.string (lower (toL a))) := by
    have h := keyOf_string_mk (P := Tryd.prog) (k := 9) Tryd.underlying9 (s := ofL (lower (toL a))) (by rw [ofL_size, lower_length, toL_length]; unfold maxLen; omega)
    rw [h]
    rfl
  have HL := Lib.hid (fun w => palone_any (ofL (lower (toL a))) w)
  rw [toL_ofL] at HL
  generalize lower (toL a) = L at *
  generalize hE : ofL L = E at *
  clear hE
  go_enter Tryd.func41, Tryd.ntmps41
  go_wp2_with fail
  refine (HA.out _).mono ?_
  rintro e w2 ⟨rfl, hb2⟩
  have hb3 := below_chain ((Below.refl w.heap.size w).alloc (Nat.le_refl _) (.cells #[.string a, .string b] 38)) hb2
  have hx2 := (hb3.cell (p := ⟨bx, 0, none⟩) hbx).trans hx
  have hbx2 : bx < w2.heap.size := Nat.lt_of_lt_of_le hbx hb3.size
  have hown2 := hown.kept (show w.grownBy w2 none from ⟨hb3.os, hb3.tape, hb3.output, hb3.size, fun k hk _ => hb3.block k hk⟩) (by simp)
  have HB := Lib.hid (hb3.alloc hb3.size (.cells #[] 54))
  clear hb2 hb3 hx hown hbx HA
  cases hD : Maps.has D (.string L)
  · go_wp2_with (at_lookup; refine wpList_lookup_own_unit _ rfl _ _ 53 rfl 9 54 lawS Tryd.underlying53 (zeroU _) mb n _ rfl hown2 _ _ rfl hkey ?_; rw [hD])
    refine (HL.out _).mono ?_
    rintro e w4 ⟨rfl, rfl⟩
    go_wp2_with fail
    go_ret
    exact ⟨by simp [hD], HB.out⟩
  · go_wp2_with (at_lookup; refine wpList_lookup_own_unit _ rfl _ _ 53 rfl 9 54 lawS Tryd.underlying53 (zeroU _) mb n _ rfl hown2 _ _ rfl hkey ?_; rw [hD])
    go_ret
    exact ⟨by simp [hD], HB.out⟩
end Go.Proofs.YtgkmkkgneipabaaDoor.PStrip1
