/- Layer 8 of the program: readVersion. -/
import Derived.Test.YtclecgopmegjeaaDoorHeadCut
import Derived.Test.YtclecgopmegjeaaDoorPPre
import Derived.Test.YtclecgopmegjeaaDoorPCutLib
import Derived.Test.YtclecgopmegjeaaDoorPDecimal
import Derived.Outline
import Derived.Handy
namespace Go.Proofs.YtclecgopmegjeaaDoor.PVer8
open Go.ChangeShapes Go.WideShapes Go.ChangeAt Go.RowKit LexPure Bytes Ret LexNum FieldsPure HeadPure CutAt HeadCut PPre PCutLib PDecimal
set_option maxRecDepth 20000
theorem ret_ver {a b c d : Int} (h : a = b) (k : c = d) : Ending.returned (.tuple #[.int .i64 a, .int .i64 c]) = .returned (.tuple #[.int .i64 b, .int .i64 d]) := by rw [h, k]
set_option maxHeartbeats 1600000 in
theorem pversion_any (s : ByteArray) (hs : s.size ≤ 140737488351232) (w : World) :
    Calls Tryd.prog 40 #[.string s] w fun e w' => e = .returned (.tuple #[.int .i64 (version8 (toL s)).1, .int .i64 (version8 (toL s)).2]) ∧ Below w.heap.size w w' := by
  have HP := lib_cutp s ⟨#[72, 84, 84, 80, 47]⟩ w
  rw [show toL (⟨#[72, 84, 84, 80, 47]⟩ : ByteArray) = HTTPS from rfl, show (⟨#[72, 84, 84, 80, 47]⟩ : ByteArray).size = 5 from rfl] at HP
  have hv : (if HTTPS.isPrefixOf (toL s) then (toL s).drop 5 else toL s) = verR (toL s) := rfl
  rw [hv] at HP
  have hvl : (verR (toL s)).length ≤ s.size := by
    unfold verR
    rw [← toL_length s]
    split
    · rw [List.length_drop]; omega
    · exact Nat.le_refl _
  have HC := Lib.hid (fun w => full_cut 46 (ofL (verR (toL s))) (by rw [ofL_size]; omega) w)
  rw [toL_ofL] at HC
  have l1 : (aheadOf 46 (verR (toL s))).length ≤ (verR (toL s)).length := by rw [ahead_take, List.length_take]; omega
  have l2 : (behind 46 (verR (toL s))).length ≤ (verR (toL s)).length := by rw [cut_drop, List.length_drop]; omega
  have HD1 := Lib.hid (fun w => pdecimal_any (ofL (aheadOf 46 (verR (toL s)))) (by unfold maxLen; rw [ofL_size]; omega) 1 w)
  have HD2 := Lib.hid (fun w => pdecimal_any (ofL (behind 46 (verR (toL s)))) (by unfold maxLen; rw [ofL_size]; omega) 1 w)
  rw [toL_ofL, show min (1 : Int) 18 = 1 from rfl] at HD1 HD2
  have HX := version_prog (toL s)
  unfold verP at HX
  generalize version8 (toL s) = X at *
  generalize HTTPS.isPrefixOf (toL s) = p at *
  generalize aheadOf 46 (verR (toL s)) = A at *
  generalize behind 46 (verR (toL s)) = B at *
  generalize hasB 46 (verR (toL s)) = q at *
  generalize verR (toL s) = R at *
  generalize numOk 10 1 A = a at *
  generalize numOk 10 1 B = b at *
  generalize numR 10 1 A = m at *
  generalize numR 10 1 B = n at *
  replace HP := Lib.hid HP
  clear hv hvl l1 l2 hs
  rcases (show (p = true ∧ a = true ∧ b = true) ∨ p = false ∨ (p = true ∧ a = false) ∨ (p = true ∧ a = true ∧ b = false) by cases p <;> cases a <;> cases b <;> simp) with ⟨rfl, rfl, rfl⟩ | rfl | ⟨rfl, rfl⟩ | ⟨rfl, rfl, rfl⟩
  · rw [if_pos (by decide)] at HX
    by_cases hm : m = 1
    · rw [if_pos hm] at HX
      have hb : (m != 1) = false := by rw [hm]; rfl
      replace HX := Lib.hid HX
      clear hm
      go_enter Tryd.func40, Tryd.ntmps40
      go_wp2_with fail
      refine HP.out.mono ?_
      rintro e w' ⟨rfl, rfl⟩
      go_wp2_with fail
      refine (HC.out _).mono ?_
      rintro e w2 ⟨rfl, hb2⟩
      go_wp2_with fail
      refine (HD1.out _).mono ?_
      rintro e w3 ⟨rfl, rfl⟩
      go_wp2_with fail
      refine (HD2.out _).mono ?_
      rintro e w4 ⟨rfl, rfl⟩
      go_wp2_with fail
      go_ret2
      exact ⟨ret_ver (by rw [HX.out]) (by rw [HX.out]), hb2⟩
    · rw [if_neg hm] at HX
      have hb : (m != 1) = true := bne_iff_ne.2 hm
      replace HX := Lib.hid HX
      clear hm
      go_enter Tryd.func40, Tryd.ntmps40
      go_wp2_with fail
      refine HP.out.mono ?_
      rintro e w' ⟨rfl, rfl⟩
      go_wp2_with fail
      refine (HC.out _).mono ?_
      rintro e w2 ⟨rfl, hb2⟩
      go_wp2_with fail
      refine (HD1.out _).mono ?_
      rintro e w3 ⟨rfl, rfl⟩
      go_wp2_with fail
      refine (HD2.out _).mono ?_
      rintro e w4 ⟨rfl, rfl⟩
      go_wp2_with fail
      go_ret2
      exact ⟨ret_ver (by rw [HX.out]) (by rw [HX.out]), hb2⟩
  all_goals
    rw [if_neg (by simp)] at HX
    replace HX := Lib.hid HX
    go_enter Tryd.func40, Tryd.ntmps40
    go_wp2_with fail
    refine HP.out.mono ?_
    rintro e w' ⟨rfl, rfl⟩
    go_wp2_with fail
    refine (HC.out _).mono ?_
    rintro e w2 ⟨rfl, hb2⟩
    go_wp2_with fail
    refine (HD1.out _).mono ?_
    rintro e w3 ⟨rfl, rfl⟩
    go_wp2_with fail
    refine (HD2.out _).mono ?_
    rintro e w4 ⟨rfl, rfl⟩
    go_wp2_with fail
    go_ret2
    exact ⟨ret_ver (by rw [HX.out]) (by rw [HX.out]), hb2⟩
end Go.Proofs.YtclecgopmegjeaaDoor.PVer8
