/- Layer 7 of the program: Set. -/
import Derived.Test.YtgkmkkgneipabaaDoorPRemove
namespace Go.Proofs.YtgkmkkgneipabaaDoor.PSet
open Go.ChangeShapes Go.WideShapes Go.ChangeAt Go.RowKit LexPure Bytes Ret Rows1 FieldsPure Flds R7Get R7Remove PRemove Mem
set_option maxRecDepth 20000
set_option maxHeartbeats 1600000 in
theorem pset_any (v : Value) (G : List HField) (n x : ByteArray) (hG : Few G) (hle2 : G.length ≤ 1048576) (w : World) (hF : FL w v G) :
    Calls Tryd.prog 20 #[v, .string n, .string x] w fun e w' => ∃ v', e = .returned v' ∧ w'.ownsRow w.heap.size 38 2 v' (setF G (toL n) (toL x)).length (encFs (setF G (toL n) (toL x))) ∧ Below w.heap.size w w' := by
  obtain ⟨i0, hi, hz0, hz1, hz2⟩ := info_parts infoF
  have HR := Lib.hid (premove_any v G n hG hle2 w hF)
  have hlen := remove_len G (toL n)
  have HX : Hid (encFs (setF G (toL n) (toL x)) = encFs (remove G (toL n)) ++ encF (toL n, toL x)) := Lib.hid (by unfold setF; rw [encFs_append]; rfl)
  have HL : Hid ((setF G (toL n) (toL x)).length = (remove G (toL n)).length + 1) := Lib.hid (by unfold setF; simp)
  obtain ⟨p, cap, rfl, _, _⟩ := hF
  clear hG
  go_enter Tryd.func20, Tryd.ntmps20
  go_wp2_with fail
  refine HR.out.mono ?_
  rintro e w2 ⟨v2, rfl, hrow2, hb2⟩
  have hrow := row_below hrow2 ((Below.refl w2.heap.size w2).alloc (Nat.le_refl _) (.cells #[.string n, .string x] 38))
  have HB := Lib.hid (hb2.alloc hb2.size (.cells #[.string n, .string x] 38))
  have HLT := Lib.hid (fun j (hj : v2.ownBlock = some j) => (hrow2.lt j hj).1)
  have HN := Lib.hid (World.news_of_block (heap_alloc_new w2 (.cells #[.string n, .string x] 38)))
  clear hrow2 hb2 HR
  go_wp2_with (at_builtin; refine wpList_append_own_at _ rfl _ _ 22 rfl w.heap.size 38 i0 _ 2 32 Tryd.underlying22 hi hz0 hz1 hz2 rfl (by omega) _ _ _ rfl hrow ⟨w2.heap.size, 0, none⟩ 1 1 [.string n, .string x] rfl rfl HN.out (by simp [Value.oneCell']) (by simp only [maxLen]; omega) (by omega) HB.out.size ?_; intro v4 w4 hown4 hg4 _ hat4)
  have HE : Hid (w4.ownsRow w.heap.size 38 2 v4 (setF G (toL n) (toL x)).length (encFs (setF G (toL n) (toL x))) ∧ Below w.heap.size w w4) := Lib.hid (by
    rw [HX.out, HL.out]
    unfold encF
    rw [ofL_toL, ofL_toL]
    exact ⟨hown4, Below.grown HB.out hg4 HB.out.size HLT.out⟩)
  clear hown4 hg4 hat4 hrow
  go_wp2_with fail
  go_ret
  exact ⟨_, rfl, HE.out⟩
end Go.Proofs.YtgkmkkgneipabaaDoor.PSet
