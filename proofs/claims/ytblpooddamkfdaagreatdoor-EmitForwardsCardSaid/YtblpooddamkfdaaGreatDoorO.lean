/- Texts of this seat, one behind another: TOrigin, ROrigin. -/
import Derived.Lib.Hide
import Derived.Outline
import Derived.Handy
import Derived.Laws.DeepStrings4
import Derived.Test.YtblpooddamkfdaaGreatDoorC1
import Derived.Test.YtblpooddamkfdaaGreatDoorA1
/- Layer 6 of the program: Origin. -/
namespace Go.Proofs.YtblpooddamkfdaaGreatDoor.TOrigin
open Go.ChangeShapes Go.WideShapes Go.ChangeAt Go.RowKit LexPure Bytes Ret TargetPure TBox Mem
set_option maxRecDepth 20000
theorem joined (p q : List UInt8) : (ofL p ++ ⟨#[63]⟩ : ByteArray) ++ ofL q = ofL (p ++ 63 :: q) := by
  apply toL_inj
  rw [toL_append, toL_append, toL_ofL, toL_ofL, toL_ofL, List.append_assoc]
  rfl
end Go.Proofs.YtblpooddamkfdaaGreatDoor.TOrigin

/- Layer 6, the document's own Origin. -/
namespace Go.Proofs.YtblpooddamkfdaaGreatDoor.ROrigin
open Go.ChangeShapes Go.WideShapes Go.ChangeAt Go.RowKit LexPure Bytes Ret TargetPure TBox TOrigin Mem
set_option maxRecDepth 20000
set_option maxHeartbeats 1600000 in
theorem rorigin_any (t : Tgt) (hl : t.path.length + t.query.length ≤ 140737488351232) (w : World) :
    Calls Tryz.prog 11 #[.agg #[.int .i64 t.form, .string (ofL t.host), .int .i64 t.port, .string (ofL t.path), .string (ofL t.query), .bool t.has]] w fun e w' => e = .returned (.string (ofL (origin6 t))) ∧ Below w.heap.size w w' := by
  have hl2 : (ofL t.path).size + (⟨#[63]⟩ : ByteArray).size ≤ 9223372036854775807 := by rw [ofL_size]; exact (by omega : t.path.length + 1 ≤ 9223372036854775807)
  have hl3 : (ofL t.path ++ ⟨#[63]⟩).size + (ofL t.query).size ≤ 9223372036854775807 := by rw [ByteArray.size_append, ofL_size, ofL_size]; exact (by omega : t.path.length + 1 + t.query.length ≤ 9223372036854775807)
  have HJ := Lib.hid (joined t.path t.query)
  have hb := Lib.hid ((Below.refl w.heap.size w).alloc (Nat.le_refl _) (.cells (tc t) 27))
  obtain ⟨x, hx⟩ : ∃ x, x = origin6 t := ⟨_, rfl⟩
  rw [← hx]
  replace hx := Lib.hid hx
  obtain ⟨fo, ho, po, pa, qu, ha⟩ := t
  simp only at *
  clear hl
  by_cases h12 : fo = 1 ∨ fo = 2
  · cases ha with
    | true =>
      have hr : Hid (x = pa ++ 63 :: qu) := Lib.hid (by rw [hx.out]; unfold origin6; rw [if_pos h12]; rfl)
      clear hx
      rcases h12 with rfl | rfl
      all_goals
        go_enter Tryz.func11, Tryz.ntmps11
        go_wp2_with fail
        go_ret
        exact ⟨ret_string (by rw [hr.out, HJ.out]), hb.out⟩
    | false =>
      have hr : Hid (x = pa) := Lib.hid (by rw [hx.out]; unfold origin6; rw [if_pos h12]; rfl)
      clear hx
      rcases h12 with rfl | rfl
      all_goals
        go_enter Tryz.func11, Tryz.ntmps11
        go_wp2_with fail
        go_ret
        exact ⟨ret_string (by rw [hr.out]), hb.out⟩
  · by_cases h4 : fo = 4
    · have hr : Hid (x = [42]) := Lib.hid (by rw [hx.out]; unfold origin6; rw [if_neg h12, if_pos h4])
      clear hx h12
      subst h4
      go_enter Tryz.func11, Tryz.ntmps11
      go_wp2_with fail
      go_ret
      exact ⟨ret_string (by rw [hr.out]; rfl), hb.out⟩
    · have hr : Hid (x = []) := Lib.hid (by rw [hx.out]; unfold origin6; rw [if_neg h12, if_neg h4])
      have q1 : (fo == 1) = false := beq_eq_false_iff_ne.2 (fun h => h12 (.inl h))
      have q2 : (fo == 2) = false := beq_eq_false_iff_ne.2 (fun h => h12 (.inr h))
      have q4 : (fo == 4) = false := beq_eq_false_iff_ne.2 h4
      have n1 : (fo != 1) = true := bne_iff_ne.2 (fun h => h12 (.inl h))
      have n2 : (fo != 2) = true := bne_iff_ne.2 (fun h => h12 (.inr h))
      clear hx h12 h4
      go_enter Tryz.func11, Tryz.ntmps11
      go_wp2_with fail
      go_ret
      exact ⟨ret_string (by rw [hr.out]; rfl), hb.out⟩
end Go.Proofs.YtblpooddamkfdaaGreatDoor.ROrigin
