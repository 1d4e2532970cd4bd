/- Layer 7 of the program: Remove. -/
import Derived.Test.YtgkmkkgneipabaaDoorPWithout
import Derived.Test.YtgkmkkgneipabaaDoorPAlike
import Derived.Shelf.Abstract
namespace Go.Proofs.YtgkmkkgneipabaaDoor.PRemove
open Go.ChangeShapes Go.WideShapes Go.ChangeAt Go.RowKit LexPure Bytes Ret Rows1 FieldsPure Flds R7Get R7Remove PWithout PAlike Mem Go.Shelf
set_option maxRecDepth 20000
set_option maxHeartbeats 1600000 in
theorem premove1_any (a b nm : ByteArray) (ha : a.size ≤ maxLen) (bx : Nat) (w : World) (hx : w.cell? ⟨bx, 0, none⟩ = some (.string nm)) :
    Calls Tryd.prog 39 #[.agg #[.string a, .string b], .pointer (some ⟨bx, 0, none⟩)] w fun e w' => e = .returned (.bool (alike (toL a) (toL nm))) ∧ Below w.heap.size w w' := by
  have hbx := World.block_lt_of_cell? _ _ hx
  have HA := Lib.hid (fun w => palike_any a nm ha w)
  go_enter Tryd.func39, Tryd.ntmps39
  go_wp2_with fail
  refine (HA.out _).mono ?_
  rintro e w2 ⟨rfl, hb2⟩
  have HB := Lib.hid (below_chain ((Below.refl w.heap.size w).alloc (Nat.le_refl _) (.cells #[.string a, .string b] 38)) hb2)
  clear hb2 hx
  go_wp2_with fail
  go_ret
  exact ⟨rfl, HB.out⟩
set_option maxHeartbeats 1600000 in
theorem premove_any (v : Value) (G : List HField) (n : ByteArray) (hG : Few G) (hle2 : G.length ≤ 1048576) (w : World) (hF : FL w v G) :
    Calls Tryd.prog 22 #[v, .string n] w fun e w' => ∃ v', e = .returned v' ∧ w'.ownsRow w.heap.size 38 2 v' (remove G (toL n)).length (encFs (remove G (toL n))) ∧ Below w.heap.size w w' := by
  have hx := (Has.new w 9 #[.string n]).cell 0
  have hb := (Below.refl w.heap.size w).alloc (Nat.le_refl _) (.cells #[.string n] 9)
  have hsz : w.heap.size < (w.alloc (.cells #[.string n] 9)).heap.size := by simp
  have HW := Lib.hid (pwithout_any 39 w.heap.size (enters_of Tryd.func39 (by kernel_rfl) rfl) (hit (toL n)) v G hle2 (w.alloc (.cells #[.string n] 9)) (hF.below hb) (fun j hj W hW => by
    have h := premove1_any (ofL G[j].1) (ofL G[j].2) n (by rw [ofL_size]; unfold maxLen; have := (hG j hj).1; omega) w.heap.size W ((hW.cell (p := ⟨w.heap.size, 0, none⟩) hsz).trans hx)
    rw [toL_ofL] at h
    exact h))
  obtain ⟨p, cap, rfl, _, _⟩ := hF
  have HB := Lib.hid hb
  clear hx hb hsz hG
  go_enter Tryd.func22, Tryd.ntmps22
  go_wp2_with fail
  refine HW.out.mono ?_
  rintro e w2 ⟨v2, rfl, hrow, hb2⟩
  have HR : Hid (w2.ownsRow w.heap.size 38 2 v2 (remove G (toL n)).length (encFs (remove G (toL n))) ∧ Below w.heap.size w w2) := Lib.hid ⟨row_mono hrow HB.out.size, below_chain HB.out hb2⟩
  clear hrow hb2 HW HB
  go_wp2_with fail
  go_ret
  exact ⟨_, rfl, HR.out⟩
end Go.Proofs.YtgkmkkgneipabaaDoor.PRemove
