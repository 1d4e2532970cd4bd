/- Draws below n lie from 0 to n - 1, jitter takes at most its percentage off and never adds, two dices of one seed draw alike: DiceBelow returns true. No condition. -/
import Derived.Test.YtdckgbinfblpiaaDiceTwo
import Derived.Test.YtdckgbinfblpiaaLawBase
namespace Go.Proofs.Ytdckgbinfblpiaa.DiceBelowP
open Go.ChangeShapes Go.WideShapes Go.ChangeAt Go.RowKit DiceMath DiceWalks DiceObj DiceTwo
set_option linter.unusedVariables false
def Inv (w0 : World) (gd ge : Nat) (w : World) : Prop := ∃ s y : Int, Two w0 47 47 gd ge w s y s y
set_option maxHeartbeats 1600000 in
set_option maxRecDepth 100000 in
theorem walk (a0 : Int) (w0 : (Lit.int .i64 a0).wf = true) (a1 : Int) (w1 : (Lit.int .i64 a1).wf = true) (a2 : Int) (w2 : (Lit.int .i64 a2).wf = true) (w : World) :
    Calls Try.prog 6 #[.int .i64 a0, .int .i64 a1, .int .i64 a2] w fun e w' => e = .returned (.bool true) ∧ Below w.heap.size w w' := by
  have hn : a1 ≤ 9223372036854775807 := (bounds_i64 w1).2
  have hl : -9223372036854775808 ≤ a1 := (bounds_i64 w1).1
  clear w0 w1 w2
  go_enter Try.func6, Try.ntmps6
  go_wp2_with (first
    | (go_at_call 9; refine (anchor_any _).mono ?_; rintro e w1 ⟨rfl, hb⟩)
    | (go_at_call 10; refine (new_any _ _).mono ?_; rintro e w' ⟨rfl, rfl⟩))
  have I : Inv w w1.heap.size (w1.heap.size + 1) _ := ⟨_, _, Two.made hb _ _ (IntKind.u64.wrap a0) 0 (IntKind.u64.wrap a0) 0⟩
  clear hb
  generalize ((w1.alloc _).alloc _) = wB at *
  generalize w1.heap.size = gd at *
  generalize gd + 1 = ge at *
  go_loopw [9] (fun i wr => ∃ k : Nat, k ≤ 20 ∧ i = .int .i64 k ∧ Inv w gd ge wr) (fun i _ => 20 - (intOf i).toNat)
  case atStart => exact ⟨0, by omega, rfl, I⟩
  case round =>
    obtain ⟨k, hk, rfl, hI⟩ := hrel
    obtain ⟨s, y, T⟩ := hI
    clear I
    by_cases hlt : k < 20
    · have hx := belowI_bd s a1
      have hj := jitI_bd (bS s a1) a1 a2
      go_wp2_with fail
      refine (below_any _ _ _ _ hn _ T.d).mono ?_
      rintro e w2 ⟨rfl, h', hg⟩
      have T2 := T.stepD h' hg
      clear h' hg T
      go_wp2_with fail
      refine (below_any _ _ _ _ hn _ T2.e).mono ?_
      rintro e w3 ⟨rfl, h', hg⟩
      have T3 := T2.stepE h' hg
      clear h' hg T2
      generalize bS s a1 = s' at *
      generalize bN y a1 = y' at *
      generalize belowI s a1 = x at *
      have hx0 : 0 ≤ x := hx.1
      have tx : (x != x) = false := bne_self_eq_false _
      have tj : (jitI s' a1 a2 != jitI s' a1 a2) = false := bne_self_eq_false _
      have hjl : jitI s' a1 a2 ≤ a1 := hj.1
      by_cases h1 : a1 < 1
      · have e0 : (x != 0) = false := by rw [hx.2.2 h1]; rfl
        have ej : (jitI s' a1 a2 != a1) = false := by rw [hj.2.2 (by unfold inJ; exact decide_eq_false (by omega))]; exact bne_self_eq_false _
        clear hx hj
        go_wp2_with fail
        refine (jit_any _ _ _ _ _ _ T3.d).mono ?_
        rintro e w4 ⟨rfl, h', hg⟩
        have T4 := T3.stepD h' hg
        clear h' hg T3
        go_wp2_with fail
        refine (jit_any _ _ _ _ _ _ T4.e).mono ?_
        rintro e w5 ⟨rfl, h', hg⟩
        have T5 := T4.stepE h' hg
        have I5 : Inv w gd ge w5 := ⟨_, _, T5⟩
        clear h' hg T4 T5
        go_wp2_with fail
        go_roundw
        case rel => exact ⟨k + 1, by omega, by go_num, I5⟩
        case measure => simp [intOf]; omega
      · have hxn : x < a1 := hx.2.1 (by omega)
        by_cases hi : inJ a1 a2 = true
        · obtain ⟨j1, j2, j3, j4⟩ := of_decide_eq_true hi
          have hp := prod_bd a1 a2 j1 j2 j3 j4
          have hjj := hj.2.1 hi
          clear hi hx hj
          go_wp2_with fail
          refine (jit_any _ _ _ _ _ _ T3.d).mono ?_
          rintro e w4 ⟨rfl, h', hg⟩
          have T4 := T3.stepD h' hg
          clear h' hg T3
          go_wp2_with fail
          refine (jit_any _ _ _ _ _ _ T4.e).mono ?_
          rintro e w5 ⟨rfl, h', hg⟩
          have T5 := T4.stepE h' hg
          have I5 : Inv w gd ge w5 := ⟨_, _, T5⟩
          clear h' hg T4 T5
          go_wp2_with fail
          go_roundw
          case rel => exact ⟨k + 1, by omega, by go_num, I5⟩
          case measure => simp [intOf]; omega
        · have ej : (jitI s' a1 a2 != a1) = false := by rw [hj.2.2 (by simpa using hi)]; exact bne_self_eq_false _
          have hc : 1099511627776 < a1 ∨ (a1 ≤ 1099511627776 ∧ a2 < 1) ∨ (a1 ≤ 1099511627776 ∧ 1 ≤ a2 ∧ 100 < a2) := by
            simp only [inJ, decide_eq_true_eq] at hi
            omega
          clear hi hx hj
          rcases hc with hc | ⟨j2, hc⟩ | ⟨j2, j3, hc⟩
          all_goals
            go_wp2_with fail
            refine (jit_any _ _ _ _ _ _ T3.d).mono ?_
            rintro e w4 ⟨rfl, h', hg⟩
            have T4 := T3.stepD h' hg
            clear h' hg T3
            go_wp2_with fail
            refine (jit_any _ _ _ _ _ _ T4.e).mono ?_
            rintro e w5 ⟨rfl, h', hg⟩
            have T5 := T4.stepE h' hg
            have I5 : Inv w gd ge w5 := ⟨_, _, T5⟩
            clear h' hg T4 T5
            go_wp2_with fail
            go_roundw
            case rel => exact ⟨k + 1, by omega, by go_num, I5⟩
            case measure => simp [intOf]; omega
    · go_wp2_with fail
      refine (drawn_any _ _ _ _ T.d).mono ?_
      rintro e w' ⟨rfl, rfl⟩
      go_wp2_with fail
      refine (drawn_any _ _ _ _ T.e).mono ?_
      rintro e w' ⟨rfl, rfl⟩
      go_wp2_with fail
      go_ret
      exact ⟨rfl, T.below⟩

/-! ### the row's step -/
set_option maxRecDepth 100000 in
theorem lifted (os : Os) (started : os.Started) (H : Type) (enc : TypeId × Value → H) :
    ReturnsInHanded {} Try.checked os 6 .any (Rows.diceBelowSpec.pre6 enc Try.prog Try.f6 Rows.diceBelowRow.domain false) (Rows.diceBelowSpec.post enc Try.prog Try.f6 false true false false) := by
  refine returnsInHanded_of_change_sized (C := Try.checked) LawBase.own started (by kernel_rfl) Try.func6
    (ChangeSpec.witness6 (enc := enc) (C := Try.checked) false ⟨#[], #[.int .i64 0, .int .i64 0, .int .i64 0], []⟩ 8 (by kernel_rfl) (by kernel_rfl) (by kernel_rfl) (by kernel_rfl)) ?_
  intro W base args ds gs before hval0 hW hcnd hsz0 _
  have hval : ∀ (j : Nat) t v, Try.f6.params[j]? = some t → args[j]? = some v → Value.okWide Try.prog W .any base t v := hval0
  have hW' := hW
  obtain ⟨p, q, hA0, hV, rfl, hfz, hnd⟩ := hW
  have hA : DataW.TrodAll enc Try.prog W 0 (fun _ => true) true Try.f6.params.toList args.toList ds p := hA0
  rw [Try.params6] at hA hval
  have hlt : ∀ x ∈ p ++ q, x.block < W.heap.size := fun x hx => by simpa using hW'.lt x hx
  obtain ⟨v0, vs0, d0, ds0, p0, q0, hargs, rfl, rfl, h0, r0⟩ := trodAll_cons hA
  obtain ⟨v1, vs1, d1, ds1, p1, q1, rfl, rfl, rfl, h1, r1⟩ := trodAll_cons r0
  obtain ⟨v2, vs2, d2, ds2, p2, q2, rfl, rfl, rfl, h2, r2⟩ := trodAll_cons r1
  obtain ⟨rfl, rfl, rfl⟩ := trodAll_nil r2
  obtain rfl : args = #[v0, v1, v2] := by cases args; simp_all
  obtain ⟨rfl, rfl⟩ := trodVars_none hV
  obtain ⟨a0, rfl, rfl, rfl, w0⟩ := open_int Try.underlying3 (hval 0 3 v0 rfl rfl) h0
  obtain ⟨a1, rfl, rfl, rfl, w1⟩ := open_int Try.underlying3 (hval 1 3 v1 rfl rfl) h1
  obtain ⟨a2, rfl, rfl, rfl, w2⟩ := open_int Try.underlying3 (hval 2 3 v2 rfl rfl) h2
  refine (walk a0 w0 a1 w1 a2 w2 W).mono fun e W' ⟨he, hb⟩ => ?_
  subst he
  exact ⟨_, rfl, LawKit.law_post LawBase.laidOut (by kernel_rfl) hW' rfl rfl (by kernel_rfl) Try.underlying4 hb⟩

theorem over : Rows.diceBelowRow.holds Try.pinned (OpenSpec.ofChange Rows.diceBelowSpec) :=
  OpenClaim.holds_of_wide 6 Try.f6 rfl rfl rfl rfl rfl rfl rfl ⟨rfl, rfl, rfl, rfl, rfl⟩ rfl rfl rfl rfl rfl (by kernel_rfl) Try.func6 (by kernel_rfl)
    (of_decide_eq_true (by kernel_rfl)) (by unfold Func.isWrapper; first | (rw [if_pos (by decide +kernel)]; kernel_rfl) | (rw [if_neg (by decide +kernel)]; exact ⟨rfl, rfl⟩))
    (fun os started H enc _ => lifted os started H enc)

/-- THE STATEMENT -/
theorem proved : Rows.DiceBelowSaid :=
  over
end Go.Proofs.Ytdckgbinfblpiaa.DiceBelowP
