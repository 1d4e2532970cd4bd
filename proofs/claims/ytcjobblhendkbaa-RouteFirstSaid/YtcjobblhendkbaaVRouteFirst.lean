/- Routes put behind the one that counts change nothing, one for everything put ahead of all takes all: RouteFirst returns true, whatever the config, the request and the route. -/
import Derived.Test.YtcjobblhendkbaaF
import Derived.Test.YtcjobblhendkbaaA1
import Derived.JoinedCond
namespace Go.Proofs.Ytcjobblhendkbaa.RouteFirstL
open Go.ChangeShapes Go.WideShapes Go.ChangeAt Go.RowKit RouteFirstW
set_option linter.unusedVariables false
set_option linter.unusedSimpArgs false
/-! ### the row's step -/
set_option maxRecDepth 100000 in
theorem lifted (os : Os) (started : os.Started) (H : Type) (enc : TypeId × Value → H) :
    ReturnsInHanded {} Try.checked os 4 .any (Rows.routeFirstSpec.pre6 enc Try.prog Try.f4 Rows.routeFirstRow.domain false) (Rows.routeFirstSpec.post enc Try.prog Try.f4 false true false false) := by
  refine returnsInHanded_of_change_sized (C := Try.checked) LawBase.own started (by kernel_rfl) Try.func4
    (ChangeSpec.witness6 (enc := enc) (C := Try.checked) false ⟨#[], #[.agg #[.int .i64 0, .int .i64 0, .int .i64 0, .int .i64 0, .int .i64 0, .int .i64 0, .slice none 0 0, .slice none 0 0, .slice none 0 0], .string ⟨#[]⟩, .string ⟨#[]⟩, .string ⟨#[]⟩, .slice none 0 0, .agg #[.bool false, .string .empty, .string .empty, .string .empty, .string .empty, .int .i64 0, .string .empty, .int .i64 0, .string .empty, .string .empty, .int .i64 0, .int .i64 0, .bool false]], []⟩ 8 (by kernel_rfl) (by kernel_rfl) (by kernel_rfl) (by kernel_rfl)) ?_
  intro W base args ds gs before hval0 hW hcnd hsz0 _
  have hval : ∀ (j : Nat) t v, Try.f4.params[j]? = some t → args[j]? = some v → Value.okWide Try.prog W .any base t v := hval0
  have hW' := hW
  obtain ⟨p, q, hA0, hV, rfl, hfz, hnd⟩ := hW
  have hA : DataW.TrodAll enc Try.prog W 0 (fun _ => true) true Try.f4.params.toList args.toList ds p := hA0
  rw [Try.params4] at hA hval
  have hlt : ∀ x ∈ p ++ q, x.block < W.heap.size := fun x hx => by simpa using hW'.lt x hx
  obtain ⟨v0, vs0, d0, ds0, p0, q0, hargs, rfl, rfl, h0, r0⟩ := trodAll_cons hA
  obtain ⟨v1, vs1, d1, ds1, p1, q1, rfl, rfl, rfl, h1, r1⟩ := trodAll_cons r0
  obtain ⟨v2, vs2, d2, ds2, p2, q2, rfl, rfl, rfl, h2, r2⟩ := trodAll_cons r1
  obtain ⟨v3, vs3, d3, ds3, p3, q3, rfl, rfl, rfl, h3, r3⟩ := trodAll_cons r2
  obtain ⟨v4, vs4, d4, ds4, p4, q4, rfl, rfl, rfl, h4, r4⟩ := trodAll_cons r3
  obtain ⟨v5, vs5, d5, ds5, p5, q5, rfl, rfl, rfl, h5, r5⟩ := trodAll_cons r4
  obtain ⟨rfl, rfl, rfl⟩ := trodAll_nil r5
  obtain rfl : args = #[v0, v1, v2, v3, v4, v5] := by cases args; simp_all
  obtain ⟨rfl, rfl⟩ := trodVars_none hV
  have l0 : ∀ x ∈ p0, x.block < W.heap.size := fun x hx => hlt x (by simp [hx])
  obtain ⟨a1, rfl, rfl, rfl, w1⟩ := Go.ChangeMaps.open_string Try.underlying9 (hval 1 9 v1 rfl rfl) h1
  obtain ⟨a2, rfl, rfl, rfl, w2⟩ := Go.ChangeMaps.open_string Try.underlying9 (hval 2 9 v2 rfl rfl) h2
  obtain ⟨a3, rfl, rfl, rfl, w3⟩ := Go.ChangeMaps.open_string Try.underlying9 (hval 3 9 v3 rfl rfl) h3
  have l4 : ∀ x ∈ p4, x.block < W.heap.size := fun x hx => hlt x (by simp [hx])
  have l5 : ∀ x ∈ p5, x.block < W.heap.size := fun x hx => hlt x (by simp [hx])
  have z1 : a1.size ≤ 140737488351232 := LawKit.weight_string (LawKit.weights_get _ _ 1 9 _ hsz0 rfl rfl)
  have z2 : a2.size ≤ 140737488351232 := LawKit.weight_string (LawKit.weights_get _ _ 2 9 _ hsz0 rfl rfl)
  have z3 : a3.size ≤ 140737488351232 := LawKit.weight_string (LawKit.weights_get _ _ 3 9 _ hsz0 rfl rfl)
  refine (walk (enc := enc) (W := W) v0 d0 p0 (hval 0 26 v0 rfl rfl) h0 l0 (LawKit.weights_get _ _ 0 26 _ hsz0 rfl rfl) a1 w1 z1 a2 w2 z2 a3 w3 z3 v4 d4 p4 (hval 4 27 v4 rfl rfl) h4 l4 (LawKit.weights_get _ _ 4 27 _ hsz0 rfl rfl) v5 d5 p5 (hval 5 39 v5 rfl rfl) h5 l5 (LawKit.weights_get _ _ 5 39 _ hsz0 rfl rfl)).mono fun e W' ⟨he, hb⟩ => ?_
  subst he
  exact ⟨_, rfl, LawKit.law_post LawBase.laidOut (by kernel_rfl) hW' rfl rfl (by kernel_rfl) Try.underlying4 hb⟩

theorem over : Rows.routeFirstRow.holds Try.pinned (OpenSpec.ofChange Rows.routeFirstSpec) :=
  OpenClaim.holds_of_wide 4 Try.f4 rfl rfl rfl rfl rfl rfl rfl ⟨rfl, rfl, rfl, rfl, rfl⟩ rfl rfl rfl rfl rfl (by kernel_rfl) Try.func4 (by kernel_rfl)
    (of_decide_eq_true (by kernel_rfl)) (by unfold Func.isWrapper; first | (rw [if_pos (by decide +kernel)]; kernel_rfl) | (rw [if_neg (by decide +kernel)]; exact ⟨rfl, rfl⟩))
    (fun os started H enc _ => lifted os started H enc)

/-- THE STATEMENT -/
theorem proved : Rows.RouteFirstSaid :=
  over
end Go.Proofs.Ytcjobblhendkbaa.RouteFirstL
