/- Texts of this seat, one behind another: TargetCaseW. -/
import Derived.Laws.DeepStrings4
import Derived.Test.YtaiipdjibllodaaDoorB2
import Derived.Test.YtaiipdjibllodaaDoorC
/- The case of letters and noughts ahead of a port don't matter; what is told means itself: TargetCase returns true. -/
namespace Go.Proofs.YtaiipdjibllodaaDoor.TargetCaseW
open Go.ChangeShapes Go.WideShapes Go.ChangeAt Go.RowKit LexPure Bytes HostPure PUnder TAuth RLower TAnchor Mem
set_option maxRecDepth 20000
set_option linter.unusedVariables false
set_option maxHeartbeats 1600000 in
theorem walk (s : ByteArray) (w0 : s.size ≤ maxLen) (z0 : s.size ≤ 140737488351232) (w : World) (hsh : w.ShapedOpen Tryd.prog) :
    Calls Tryd.prog 7 #[.string s] w fun e w' => e = .returned (.bool true) ∧ Below w.heap.size w w' := by
  have HM := Lib.hid (MaxInt.of_shape hsh)
  clear hsh
  have U0 := Lib.hid (fun w hm => tauth_any s z0 w hm)
  have U1 := Lib.hid (fun w => rlower_any s z0 w)
  have U2 := Lib.hid (fun w hm => tauth_any (ofL (lower (toL s))) (by rw [ofL_size, lower_length, toL_length]; exact z0) w hm)
  have same : authH (toL (ofL (lower (toL s)))) = authH (toL s) ∧ authP (toL (ofL (lower (toL s)))) = authP (toL s) ∧ authE (toL (ofL (lower (toL s)))) = authE (toL s) := by
    unfold authH authP authE
    rw [toL_ofL, authO_lower]
    exact ⟨rfl, rfl, rfl⟩
  rw [same.1, same.2.1, same.2.2] at U2
  clear same w0 z0
  generalize ofL (lower (toL s)) = S2 at *
  cases ha : authO (toL s) with
  | none =>
    rw [(auth_none ha).1, (auth_none ha).2.1, (auth_none ha).2.2, show ofL [] = (⟨#[]⟩ : ByteArray) from rfl] at U0 U2
    clear ha
    go_enter Tryd.func7, Tryd.ntmps7
    go_wp2_with fail
    refine (anchor_any _ HM.out).mono ?_
    rintro e w1 ⟨rfl, hb1⟩
    go_wp2_with fail
    refine (U0.out _ (HM.out.below hb1)).mono ?_
    rintro e w2 ⟨rfl, hb2⟩
    replace hb1 := below_chain hb1 hb2
    clear hb2
    go_wp2_with fail
    refine (U1.out _).mono ?_
    rintro e w3 ⟨rfl, hb3⟩
    replace hb1 := below_chain hb1 hb3
    clear hb3
    go_wp2_with fail
    refine (U2.out _ (HM.out.below hb1)).mono ?_
    rintro e w4 ⟨rfl, hb4⟩
    replace hb1 := below_chain hb1 hb4
    clear hb4
    go_wp2_with fail
    go_ret
    exact ⟨rfl, hb1⟩
  | some q =>
    obtain ⟨h, p⟩ := q
    rw [(auth_some ha).1, (auth_some ha).2.1, (auth_some ha).2.2] at U0 U2
    obtain ⟨h1, h2, h3, h4⟩ := authO_some ha
    have hl := host_len h1
    have U3 := Lib.hid (fun w => rlower_any (ofL h) (by rw [ofL_size]; omega) w)
    rw [toL_ofL, h2] at U3
    have U4 := Lib.hid (fun w hm => tauth_any (ofL h) (by rw [ofL_size]; omega) w hm)
    have e4 : authO (toL (ofL h)) = some (h, 0) := by rw [toL_ofL]; exact authO_host h1 h2
    rw [(auth_some e4).1, (auth_some e4).2.1, (auth_some e4).2.2] at U4
    have z5 : (ofL h).size + (⟨#[58, 48, 48, 48, 56, 48]⟩ : ByteArray).size ≤ 9223372036854775807 := by rw [ofL_size]; exact (by omega : h.length + 6 ≤ 9223372036854775807)
    have U5 := Lib.hid (fun w hm => tauth_any (ofL h ++ ⟨#[58, 48, 48, 48, 56, 48]⟩) (by rw [ByteArray.size_append, ofL_size]; exact (by omega : h.length + 6 ≤ 140737488351232)) w hm)
    have e5 : authO (toL (ofL h ++ ⟨#[58, 48, 48, 48, 56, 48]⟩)) = some (h, 80) := by rw [toL_append, toL_ofL]; exact authO_port h1 h2
    rw [(auth_some e5).1, (auth_some e5).2.1, (auth_some e5).2.2] at U5
    clear ha e4 e5 h1 h2 hl
    generalize ofL h = H at *
    have q1 : (H.toList == H.toList) = true := beq_self_eq_true _
    have q2 : (p == p) = true := beq_self_eq_true _
    have q3 : (p != p) = false := by simp
    have q4 : (H.toList != H.toList) = false := by simp
    go_enter Tryd.func7, Tryd.ntmps7
    go_wp2_with fail
    refine (anchor_any _ HM.out).mono ?_
    rintro e w1 ⟨rfl, hb1⟩
    go_wp2_with fail
    refine (U0.out _ (HM.out.below hb1)).mono ?_
    rintro e w2 ⟨rfl, hb2⟩
    replace hb1 := below_chain hb1 hb2
    clear hb2
    go_wp2_with fail
    refine (U1.out _).mono ?_
    rintro e w3 ⟨rfl, hb3⟩
    replace hb1 := below_chain hb1 hb3
    clear hb3
    go_wp2_with fail
    refine (U2.out _ (HM.out.below hb1)).mono ?_
    rintro e w4 ⟨rfl, hb4⟩
    replace hb1 := below_chain hb1 hb4
    clear hb4
    go_wp2_with fail
    refine (U3.out _).mono ?_
    rintro e w5 ⟨rfl, hb5⟩
    replace hb1 := below_chain hb1 hb5
    clear hb5
    go_wp2_with fail
    refine (U4.out _ (HM.out.below hb1)).mono ?_
    rintro e w6 ⟨rfl, hb6⟩
    replace hb1 := below_chain hb1 hb6
    clear hb6
    go_wp2_with fail
    refine (U5.out _ (HM.out.below hb1)).mono ?_
    rintro e w7 ⟨rfl, hb7⟩
    replace hb1 := below_chain hb1 hb7
    clear hb7
    go_wp2_with fail
    go_ret
    exact ⟨rfl, hb1⟩
end Go.Proofs.YtaiipdjibllodaaDoor.TargetCaseW
