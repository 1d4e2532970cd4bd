/- The document's example, with which each law of layer 8 begins. -/
import Derived.Test.YtclecgopmegjeaaDoorPHead8
namespace Go.Proofs.YtclecgopmegjeaaDoor.HAnchor
open Go.ChangeShapes Go.WideShapes Go.ChangeAt Go.RowKit LexPure Bytes Ret Rows1 FieldsPure Flds HeadPure HBox Mem PHead8
set_option maxRecDepth 20000
def exT : ByteArray := ⟨#[13, 10, 71, 69, 84, 32, 47, 97, 32, 72, 84, 84, 80, 47, 49, 46, 49, 13, 10, 72, 111, 115, 116, 58, 32, 32, 104, 32, 13, 10, 13, 10, 114, 101, 115, 116]⟩
theorem ex1 : resN (read8 false (toL exT)) = 32 ∧ resE (read8 false (toL exT)) = 0 := by decide +kernel
theorem ex2 : (resH (read8 false (toL exT))).method = [71, 69, 84] ∧ (resH (read8 false (toL exT))).target = [47, 97] ∧ (resH (read8 false (toL exT))).minor = 1 ∧ (resH (read8 false (toL exT))).fields = [([72, 111, 115, 116], [104])] := by decide +kernel
set_option maxHeartbeats 1600000 in
theorem anchor_any (w : World) :
    Calls Tryd.prog 11 #[] w fun e w' => e = .returned (.bool true) ∧ Below w.heap.size w w' := by
  have HR := prequest_any exT (by decide) w
  obtain ⟨e1, e2⟩ := ex1
  obtain ⟨e3, e4, e5, e6⟩ := ex2
  rw [e1, e2] at HR
  generalize resH (read8 false (toL exT)) = H at *
  obtain ⟨m, t, st, re, mi, fs⟩ := H
  dsimp only at e3 e4 e5 e6
  subst e3 e4 e5 e6
  unfold hrv3 hv exT at HR
  dsimp only at HR
  rw [show ofL [71, 69, 84] = ⟨#[71, 69, 84]⟩ from rfl, show ofL [47, 97] = ⟨#[47, 97]⟩ from rfl] at HR
  replace HR := Lib.hid HR
  clear e1 e2
  go_enter Tryd.func11, Tryd.ntmps11
  go_wp2_with fail
  refine HR.out.mono ?_
  rintro e w1 ⟨v, rfl, hF, hb1⟩
  obtain ⟨p, cap, rfl, _, hc⟩ := hF
  obtain ⟨g, o, rfl, hlt, hcell⟩ := hc (by decide)
  have c0 : w1.cell? ⟨g, o, none⟩ = some (.string ⟨#[72, 111, 115, 116]⟩) := (hcell 0 (by decide)).1
  have c1 : w1.cell? ⟨g, o + 1, none⟩ = some (.string ⟨#[104]⟩) := (hcell 0 (by decide)).2
  clear hc hcell HR
  have HB := Lib.hid (below_chain hb1 ((Below.refl _ _).alloc (Nat.le_refl _) (.cells #[.string ⟨#[71, 69, 84]⟩, .string ⟨#[47, 97]⟩, .int .i64 st, .string (ofL re), .int .i64 1, .slice (some ⟨g, o, none⟩) 1 cap] 25)))
  clear hb1
  go_wp2_with fail
  go_ret
  exact ⟨rfl, HB.out⟩
end Go.Proofs.YtclecgopmegjeaaDoor.HAnchor
