/- Field of any line is the document's: HeadFields returns true. -/
import Derived.Test.YtclecgopmegjeaaDoorHAnchor
import Derived.Test.YtclecgopmegjeaaDoorR8Field
import Derived.Laws.StructEq
namespace Go.Proofs.YtclecgopmegjeaaDoor.HeadFieldsW
open Go.ChangeShapes Go.WideShapes Go.ChangeAt Go.RowKit LexPure Bytes Ret FieldsPure HeadPure HBox PField8 R8Field HAnchor Mem
set_option maxRecDepth 20000
set_option linter.unusedVariables false
theorem eqF (a b : ByteArray) (w : World) : (binOp .eql 37 (.agg #[.string a, .string b]) (.agg #[.string a, .string b])).run Tryd.prog w = .ok (.bool true) w := by
  have u9 := Tryd.underlying9
  have a9 := Tryd.isAgg9
  have z9 := Tryd.sizeOf9
  have hS : Tryd.prog.underlying 37 = some (.struct (Tryd.prog.fieldsOf 37)) := by kernel_rfl
  have hp : Tryd.prog.stoodInHeld 37 = false := by kernel_rfl
  rw [run_eql_struct, show (10000 : Nat) = 9999 + 1 from rfl, run_equalIn_agg w 9999 37 _ _ hS hp]
  simp only [Program.fieldsOf, Tryd.underlying37]
  go_simp
set_option maxHeartbeats 1600000 in
theorem walk (s : ByteArray) (w0 : s.size ≤ maxLen) (z0 : s.size ≤ 140737488351232) (w : World) :
    Calls Tryd.prog 7 #[.string s] w fun e w' => e = .returned (.bool true) ∧ Below w.heap.size w w' := by
  have U0 := Lib.hid (fun w => pfield_any s z0 w)
  have U1 := Lib.hid (fun w => r8field_any s z0 w)
  generalize field8 (toL s) = x at *
  obtain ⟨⟨f1, f2⟩, er⟩ := x
  unfold frv fv at U0 U1
  dsimp only at U0 U1
  generalize ofL f1 = A at *
  generalize ofL f2 = B at *
  have q1 : (er == er) = true := beq_self_eq_true _
  have q2 := eqF A B
  clear w0 z0
  go_enter Tryd.func7, Tryd.ntmps7
  go_wp2_with fail
  refine (anchor_any _).mono ?_
  rintro e w1 ⟨rfl, hb1⟩
  go_wp2_with fail
  refine (U0.out _).mono ?_
  rintro e w2 ⟨rfl, hb2⟩
  replace hb1 := below_chain hb1 hb2
  clear hb2
  replace hb1 := below_chain hb1 ((Below.refl _ _).alloc (Nat.le_refl _) (.cells #[.string A, .string B] 37))
  have d := (Has.new w2 37 #[.string A, .string B]).cell
  have d0 := d 0
  have d1 := d 1
  have hsz : w2.heap.size < (w2.alloc (.cells #[.string A, .string B] 37)).heap.size := by simp
  clear d
  go_wp2_with fail
  generalize w2.alloc (.cells #[.string A, .string B] 37) = W4 at hb1 d0 d1 hsz ⊢
  generalize w2.heap.size = g at d0 d1 hsz ⊢
  refine (U1.out _).mono ?_
  rintro e w3 ⟨rfl, hb3⟩
  replace hb1 := below_chain hb1 hb3
  replace d0 := (hb3.cell (p := ⟨g, 0, none⟩) hsz).trans d0
  replace d1 := (hb3.cell (p := ⟨g, 1, none⟩) hsz).trans d1
  have hsz3 := World.block_lt_of_cell? _ _ d0
  have hal := (Below.refl w3.heap.size w3).alloc (Nat.le_refl _) (.cells #[.string A, .string B] 37)
  have e0 := (hal.cell (p := ⟨g, 0, none⟩) hsz3).trans d0
  have e1 := (hal.cell (p := ⟨g, 1, none⟩) hsz3).trans d1
  clear hal
  have hb4 := Lib.hid (below_chain hb1 ((Below.refl _ _).alloc (Nat.le_refl _) (.cells #[.string A, .string B] 37)))
  clear hb3 hb1
  go_wp2_with fail
  go_ret
  exact ⟨rfl, hb4.out⟩
end Go.Proofs.YtclecgopmegjeaaDoor.HeadFieldsW
