/- What a dice draws from its second draw on a dice draws whose seed is one step further: DiceSeeds returns true. No condition. -/
import Derived.Test.YtdckgbinfblpiaaDiceTwo
import Derived.Test.YtdckgbinfblpiaaLawBase
namespace Go.Proofs.Ytdckgbinfblpiaa.DiceSeedsP
open Go.ChangeShapes Go.WideShapes Go.ChangeAt Go.RowKit DiceMath DiceWalks DiceObj DiceTwo
set_option linter.unusedVariables false
theorem seed_step (a : Int) : IntKind.u64.wrap (wrap64 (IntKind.u64.wrap (IntKind.u64.wrap a + 11400714819323198485))) = stepI (IntKind.u64.wrap a) := by
  unfold stepI
  unfold wrap64
  simp only [IntKind.wrap_u64]
  omega
def Inv (w0 : World) (gd ge : Nat) (w : World) : Prop := ∃ s y : Int, Two w0 47 47 gd ge w s (upI y) s y
theorem walk (a0 : Int) (w0 : (Lit.int .i64 a0).wf = true) (a1 : Int) (w1 : (Lit.int .i64 a1).wf = true) (w : World) :
    Calls Try.prog 8 #[.int .i64 a0, .int .i64 a1] w fun e w' => e = .returned (.bool true) ∧ Below w.heap.size w w' := by
  have hn : a1 ≤ 9223372036854775807 := (bounds_i64 w1).2
  clear w0 w1
  go_enter Try.func8, Try.ntmps8
  go_wp2_with (first
    | (go_at_call 9; refine (anchor_any _).mono ?_; rintro e w1 ⟨rfl, hb⟩)
    | (go_at_call 10; refine (new_any _ _).mono ?_; rintro e w' ⟨rfl, rfl⟩))
  obtain ⟨s', hs', T0⟩ : ∃ s', s' = stepI (IntKind.u64.wrap a0) ∧ Two w 47 47 w1.heap.size (w1.heap.size + 1) _ (IntKind.u64.wrap a0) 0 s' 0 := ⟨_, seed_step a0, Two.made hb _ _ _ _ _ _⟩
  refine (next_any _ _ _ _ T0.d).mono ?_
  rintro e w' ⟨rfl, h', hg⟩
  have T := T0.stepD h' hg
  rw [← hs'] at T
  have I : Inv w w1.heap.size (w1.heap.size + 1) w' := ⟨_, _, T⟩
  clear h' hg T0 hs' hb T
  generalize w1.heap.size = gd at *
  generalize gd + 1 = ge at *
  go_wp2_with fail
  go_loopw [8] (fun i wr => ∃ k : Nat, k ≤ 10 ∧ i = .int .i64 k ∧ Inv w gd ge wr) (fun i _ => 10 - (intOf i).toNat)
  case atStart => exact ⟨0, by omega, rfl, I⟩
  case round =>
    obtain ⟨k, hk, rfl, hI⟩ := hrel
    obtain ⟨s, y, T⟩ := hI
    by_cases hlt : k < 10
    · have tt : (mixI (stepI s) != mixI (stepI s)) = false := bne_self_eq_false _
      have tu : (belowI (stepI s) a1 != belowI (stepI s) a1) = false := bne_self_eq_false _
      go_wp2_with fail
      refine (next_any _ _ _ _ T.d).mono ?_
      rintro e w2 ⟨rfl, h', hg⟩
      have T2 := T.stepD h' hg
      clear h' hg T
      go_wp2_with fail
      refine (next_any _ _ _ _ T2.e).mono ?_
      rintro e w3 ⟨rfl, h', hg⟩
      have T3 := T2.stepE h' hg
      clear h' hg T2
      go_wp2_with fail
      refine (below_any _ _ _ _ hn _ T3.d).mono ?_
      rintro e w4 ⟨rfl, h', hg⟩
      have T4 := T3.stepD h' hg
      clear h' hg T3
      go_wp2_with fail
      refine (below_any _ _ _ _ hn _ T4.e).mono ?_
      rintro e w5 ⟨rfl, h', hg⟩
      have T5 := T4.stepE h' hg
      clear h' hg T4
      have I5 : Inv w gd ge w5 := by
        by_cases h1 : a1 < 1
        · simp only [bN, if_pos h1] at T5; exact ⟨_, _, T5⟩
        · simp only [bN, if_neg h1] at T5; exact ⟨_, _, T5⟩
      clear T5
      go_wp2_with fail
      go_roundw
      case rel => exact ⟨k + 1, by omega, by go_num, I5⟩
      case measure => simp [intOf]; omega
    · go_wp2_with fail
      refine (drawn_any _ _ _ _ T.d).mono ?_
      rintro e w' ⟨rfl, rfl⟩
      go_wp2_with fail
      refine (drawn_any _ _ _ _ T.e).mono ?_
      rintro e w' ⟨rfl, rfl⟩
      go_wp2_with fail
      go_ret
      exact ⟨congrArg (fun b => Ending.returned (.bool b)) (beq_self_eq_true _), T.below⟩

/-! ### the row's step -/
set_option maxRecDepth 100000 in
theorem lifted (os : Os) (started : os.Started) (H : Type) (enc : TypeId × Value → H) :
    ReturnsInHanded {} Try.checked os 8 .any (Rows.diceSeedsSpec.pre6 enc Try.prog Try.f8 Rows.diceSeedsRow.domain false) (Rows.diceSeedsSpec.post enc Try.prog Try.f8 false true false false) := by
  refine returnsInHanded_of_change_sized (C := Try.checked) LawBase.own started (by kernel_rfl) Try.func8
    (ChangeSpec.witness6 (enc := enc) (C := Try.checked) false ⟨#[], #[.int .i64 0, .int .i64 0], []⟩ 8 (by kernel_rfl) (by kernel_rfl) (by kernel_rfl) (by kernel_rfl)) ?_
  intro W base args ds gs before hval0 hW hcnd hsz0 _
  have hval : ∀ (j : Nat) t v, Try.f8.params[j]? = some t → args[j]? = some v → Value.okWide Try.prog W .any base t v := hval0
  have hW' := hW
  obtain ⟨p, q, hA0, hV, rfl, hfz, hnd⟩ := hW
  have hA : DataW.TrodAll enc Try.prog W 0 (fun _ => true) true Try.f8.params.toList args.toList ds p := hA0
  rw [Try.params8] at hA hval
  have hlt : ∀ x ∈ p ++ q, x.block < W.heap.size := fun x hx => by simpa using hW'.lt x hx
  obtain ⟨v0, vs0, d0, ds0, p0, q0, hargs, rfl, rfl, h0, r0⟩ := trodAll_cons hA
  obtain ⟨v1, vs1, d1, ds1, p1, q1, rfl, rfl, rfl, h1, r1⟩ := trodAll_cons r0
  obtain ⟨rfl, rfl, rfl⟩ := trodAll_nil r1
  obtain rfl : args = #[v0, v1] := by cases args; simp_all
  obtain ⟨rfl, rfl⟩ := trodVars_none hV
  obtain ⟨a0, rfl, rfl, rfl, w0⟩ := open_int Try.underlying3 (hval 0 3 v0 rfl rfl) h0
  obtain ⟨a1, rfl, rfl, rfl, w1⟩ := open_int Try.underlying3 (hval 1 3 v1 rfl rfl) h1
  refine (walk a0 w0 a1 w1 W).mono fun e W' ⟨he, hb⟩ => ?_
  subst he
  exact ⟨_, rfl, LawKit.law_post LawBase.laidOut (by kernel_rfl) hW' rfl rfl (by kernel_rfl) Try.underlying4 hb⟩

theorem over : Rows.diceSeedsRow.holds Try.pinned (OpenSpec.ofChange Rows.diceSeedsSpec) :=
  OpenClaim.holds_of_wide 8 Try.f8 rfl rfl rfl rfl rfl rfl rfl ⟨rfl, rfl, rfl, rfl, rfl⟩ rfl rfl rfl rfl rfl (by kernel_rfl) Try.func8 (by kernel_rfl)
    (of_decide_eq_true (by kernel_rfl)) (by unfold Func.isWrapper; first | (rw [if_pos (by decide +kernel)]; kernel_rfl) | (rw [if_neg (by decide +kernel)]; exact ⟨rfl, rfl⟩))
    (fun os started H enc _ => lifted os started H enc)

/-- THE STATEMENT -/
theorem proved : Rows.DiceSeedsSaid :=
  over
end Go.Proofs.Ytdckgbinfblpiaa.DiceSeedsP
