/- What lies under a path lies under all that this lies under: PathChain returns true, for what comes in of bulk at most 1048576. -/
import Derived.Test.YtlhpjinajaociaaDoorPathAnchor
namespace Go.Proofs.YtlhpjinajaociaaDoor.PathChainW
open Go.ChangeShapes Go.WideShapes Go.ChangeAt Go.RowKit LexPure Bytes PathPure PathMore PathObj PUnder PathAnchor Mem
set_option linter.unusedVariables false
set_option maxHeartbeats 1600000 in
theorem walk (a : ByteArray) (w0 : a.size ≤ maxLen) (z0 : a.size ≤ 140737488351232) (b : ByteArray) (w1 : b.size ≤ maxLen) (z1 : b.size ≤ 140737488351232) (c : ByteArray) (w2 : c.size ≤ maxLen) (z2 : c.size ≤ 140737488351232) (w : World) (hsh : w.ShapedOpen Tryd.prog) :
    Calls Tryd.prog 7 #[.string a, .string b, .string c] w fun e w' => e = .returned (.bool true) ∧ Below w.heap.size w w' := by
  have HM := Lib.hid (MaxInt.of_shape hsh)
  clear hsh
  have h1 : under (toL ⟨#[47, 97, 47, 98]⟩) (toL ⟨#[47, 97]⟩) = true := by decide +kernel
  have h2 : under (toL ⟨#[47, 97, 98]⟩) (toL ⟨#[47, 97]⟩) = false := by decide +kernel
  have H1 := Lib.hid h1
  have H2 := Lib.hid h2
  have U0 := Lib.hid (fun w => under_any a a (by omega) (by omega) w)
  have U1 := Lib.hid (fun w => under_any a b (by omega) (by omega) w)
  have U2 := Lib.hid (fun w => under_any b c (by omega) (by omega) w)
  have U3 := Lib.hid (fun w => under_any a c (by omega) (by omega) w)
  rw [under_self] at U0
  have ht := under_trans (a := toL a) (b := toL b) (c := toL c)
  generalize under (toL a) (toL b) = x at *
  generalize under (toL b) (toL c) = y at *
  generalize under (toL a) (toL c) = z at *
  clear h1 h2 w0 w1 w2 z0 z1 z2
  have hx : x = false ∨ (x = true ∧ y = false) ∨ (x = true ∧ y = true ∧ z = true) := by
    cases x with
    | false => exact .inl rfl
    | true => cases y with
      | false => exact .inr (.inl ⟨rfl, rfl⟩)
      | true => exact .inr (.inr ⟨rfl, rfl, ht rfl rfl⟩)
  clear ht
  rcases hx with rfl | ⟨rfl, rfl⟩ | ⟨rfl, rfl, rfl⟩
  · go_enter Tryd.func7, Tryd.ntmps7
    go_wp2_with fail
    refine (anchor_any _ HM.out).mono ?_
    rintro e w1 ⟨rfl, hb1⟩
    go_wp2_with fail
    refine (under_any _ _ (by decide) (by decide) _).mono ?_
    rintro e w2 ⟨rfl, hb2⟩
    replace hb1 := below_chain hb1 hb2
    clear hb2
    rw [H1.out]
    go_wp2_with fail
    refine (under_any _ _ (by decide) (by decide) _).mono ?_
    rintro e w3 ⟨rfl, hb3⟩
    replace hb1 := below_chain hb1 hb3
    clear hb3
    rw [H2.out]
    go_wp2_with fail
    refine (U0.out _).mono ?_
    rintro e w4 ⟨rfl, hb4⟩
    replace hb1 := below_chain hb1 hb4
    clear hb4
    go_wp2_with fail
    refine (U1.out _).mono ?_
    rintro e w5 ⟨rfl, hb5⟩
    replace hb1 := below_chain hb1 hb5
    clear hb5
    go_wp2_with fail
    go_ret
    exact ⟨rfl, hb1⟩
  · go_enter Tryd.func7, Tryd.ntmps7
    go_wp2_with fail
    refine (anchor_any _ HM.out).mono ?_
    rintro e w1 ⟨rfl, hb1⟩
    go_wp2_with fail
    refine (under_any _ _ (by decide) (by decide) _).mono ?_
    rintro e w2 ⟨rfl, hb2⟩
    replace hb1 := below_chain hb1 hb2
    clear hb2
    rw [H1.out]
    go_wp2_with fail
    refine (under_any _ _ (by decide) (by decide) _).mono ?_
    rintro e w3 ⟨rfl, hb3⟩
    replace hb1 := below_chain hb1 hb3
    clear hb3
    rw [H2.out]
    go_wp2_with fail
    refine (U0.out _).mono ?_
    rintro e w4 ⟨rfl, hb4⟩
    replace hb1 := below_chain hb1 hb4
    clear hb4
    go_wp2_with fail
    refine (U1.out _).mono ?_
    rintro e w5 ⟨rfl, hb5⟩
    replace hb1 := below_chain hb1 hb5
    clear hb5
    go_wp2_with fail
    refine (U2.out _).mono ?_
    rintro e w6 ⟨rfl, hb6⟩
    replace hb1 := below_chain hb1 hb6
    clear hb6
    go_wp2_with fail
    go_ret
    exact ⟨rfl, hb1⟩
  · go_enter Tryd.func7, Tryd.ntmps7
    go_wp2_with fail
    refine (anchor_any _ HM.out).mono ?_
    rintro e w1 ⟨rfl, hb1⟩
    go_wp2_with fail
    refine (under_any _ _ (by decide) (by decide) _).mono ?_
    rintro e w2 ⟨rfl, hb2⟩
    replace hb1 := below_chain hb1 hb2
    clear hb2
    rw [H1.out]
    go_wp2_with fail
    refine (under_any _ _ (by decide) (by decide) _).mono ?_
    rintro e w3 ⟨rfl, hb3⟩
    replace hb1 := below_chain hb1 hb3
    clear hb3
    rw [H2.out]
    go_wp2_with fail
    refine (U0.out _).mono ?_
    rintro e w4 ⟨rfl, hb4⟩
    replace hb1 := below_chain hb1 hb4
    clear hb4
    go_wp2_with fail
    refine (U1.out _).mono ?_
    rintro e w5 ⟨rfl, hb5⟩
    replace hb1 := below_chain hb1 hb5
    clear hb5
    go_wp2_with fail
    refine (U2.out _).mono ?_
    rintro e w6 ⟨rfl, hb6⟩
    replace hb1 := below_chain hb1 hb6
    clear hb6
    go_wp2_with fail
    refine (U3.out _).mono ?_
    rintro e w7 ⟨rfl, hb7⟩
    replace hb1 := below_chain hb1 hb7
    clear hb7
    go_wp2_with fail
    go_ret
    exact ⟨rfl, hb1⟩
end Go.Proofs.YtlhpjinajaociaaDoor.PathChainW
