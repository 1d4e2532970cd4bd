/- Where a path has neither dots nor doubled slashes, its normal form decodes to what it decodes to itself: PathMeans returns true, for what comes in of bulk at most 1048576. -/
import Derived.Test.YtlhpjinajaociaaDoorPathAnchor
import Derived.Test.YtlhpjinajaociaaDoorPathMore
namespace Go.Proofs.YtlhpjinajaociaaDoor.PathMeansW
open Go.ChangeShapes Go.WideShapes Go.ChangeAt Go.RowKit LexPure Bytes PathPure PathForm PathMore REscapes RNormal PathObj PUnder PathAnchor Mem
set_option linter.unusedVariables false
set_option maxHeartbeats 1600000 in
theorem walk (s : ByteArray) (w0 : s.size ≤ maxLen) (z0 : s.size ≤ 1048576) (w : World) (hsh : w.ShapedOpen Tryd.prog) :
    Calls Tryd.prog 5 #[.string s] w fun e w' => e = .returned (.bool true) ∧ Below w.heap.size w w' := by
  have HM := Lib.hid (MaxInt.of_shape hsh)
  clear hsh
  have U0 := Lib.hid (fun w hm => normal_any s (by omega) w hm)
  have U1 := Lib.hid (fun w => rescapes_any s (by omega) w)
  have U2 := Lib.hid (fun w => decode_any s (by omega) w)
  cases hn : normal (toL s) with
  | none =>
    rw [(norm_none hn).1, (norm_none hn).2] at U0
    clear w0 z0 hn
    go_enter Tryd.func5, Tryd.ntmps5
    go_wp2_with fail
    refine (anchor_any _ HM.out).mono ?_
    rintro e w1 ⟨rfl, hb1⟩
    go_wp2_with fail
    refine (U0.out _ (HM.out.below hb1)).mono ?_
    rintro e w2 ⟨rfl, hb2⟩
    replace hb1 := below_chain hb1 hb2
    clear hb2
    go_wp2_with fail
    go_ret
    exact ⟨rfl, hb1⟩
  | some P =>
    rw [(norm_some hn).1, (norm_some hn).2] at U0
    obtain ⟨t, ht⟩ : ∃ t, escapes (toL s) = some t := by
      cases h : escapes (toL s) with
      | none => unfold normal at hn; rw [h] at hn; cases hn
      | some t => exact ⟨t, rfl⟩
    rw [ht] at U1
    have he := (escapes_esc ht).1
    obtain ⟨hd, v, hv⟩ := dec_esc _ (Nat.le_refl _) he
    by_cases hpt : P = t
    · have q1 : ((ofL P).toList == (ofL t).toList) = true := by rw [same_ofL, hpt]; exact beq_self_eq_true _
      have hsz : (ofL P).size ≤ 1048576 := by
        rw [ofL_size, hpt]
        have := escapes_len ht
        rw [toL_length] at this
        omega
      have U3 := Lib.hid (fun w => decode_any (ofL P) (by omega) w)
      rw [toL_ofL, hpt, ← hd, hv] at U3
      rw [hv] at U2
      rw [hpt] at U0 q1
      have q2 : ((ofL v).toList == (ofL v).toList) = true := beq_self_eq_true _
      clear w0 z0 hn ht he hd hv hpt hsz
      have e1 : (some t).getD [] = t := rfl
      have e2 : (some v).getD [] = v := rfl
      rw [e1] at U1
      rw [e2] at U2 U3
      clear e1 e2
      generalize ofL t = T at *
      generalize ofL v = V at *
      go_enter Tryd.func5, Tryd.ntmps5
      go_wp2_with fail
      refine (anchor_any _ HM.out).mono ?_
      rintro e w1 ⟨rfl, hb1⟩
      go_wp2_with fail
      refine (U0.out _ (HM.out.below hb1)).mono ?_
      rintro e w2 ⟨rfl, hb2⟩
      replace hb1 := below_chain hb1 hb2
      clear hb2
      go_wp2_with fail
      refine (U1.out _).mono ?_
      rintro e w3 ⟨rfl, hb3⟩
      replace hb1 := below_chain hb1 hb3
      clear hb3
      go_wp2_with fail
      refine (U2.out _).mono ?_
      rintro e w4 ⟨rfl, hb4⟩
      replace hb1 := below_chain hb1 hb4
      clear hb4
      go_wp2_with fail
      refine (U3.out _).mono ?_
      rintro e w5 ⟨rfl, hb5⟩
      replace hb1 := below_chain hb1 hb5
      clear hb5
      go_wp2_with fail
      go_ret
      exact ⟨rfl, hb1⟩
    · have q1 : ((ofL P).toList == (ofL t).toList) = false := by rw [same_ofL, beq_eq_false_iff_ne]; exact hpt
      clear w0 z0 hn ht he hd hv hpt
      have e1 : (some t).getD [] = t := rfl
      rw [e1] at U1
      clear e1
      generalize ofL t = T at *
      generalize ofL P = V at *
      go_enter Tryd.func5, Tryd.ntmps5
      go_wp2_with fail
      refine (anchor_any _ HM.out).mono ?_
      rintro e w1 ⟨rfl, hb1⟩
      go_wp2_with fail
      refine (U0.out _ (HM.out.below hb1)).mono ?_
      rintro e w2 ⟨rfl, hb2⟩
      replace hb1 := below_chain hb1 hb2
      clear hb2
      go_wp2_with fail
      refine (U1.out _).mono ?_
      rintro e w3 ⟨rfl, hb3⟩
      replace hb1 := below_chain hb1 hb3
      clear hb3
      go_wp2_with fail
      go_ret
      exact ⟨rfl, hb1⟩
end Go.Proofs.YtlhpjinajaociaaDoor.PathMeansW
