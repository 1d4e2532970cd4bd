/- Texts of this seat, one behind another: FrameBodilessW. -/

import Derived.Test.YtgkdepoimnmhfaaDoorB
/- A response to HEAD, and one of status 1xx, 204 or 304, has no body: FrameBodiless returns true. -/
namespace Go.Proofs.YtgkdepoimnmhfaaDoor.FrameBodilessW
open Go.ChangeShapes Go.WideShapes Go.ChangeAt Go.RowKit LexPure Bytes Ret Rows1 FieldsPure HeadPure FramePure Flds HBox KeptRow Held FRow FrameObj FrAnchor FCopied HArg Mem
set_option maxRecDepth 100000
set_option linter.unusedVariables false
theorem bare_head (status minor : Int) (G : List HField) : response9 [72, 69, 65, 68] status minor G = if status = 101 then (5, 0, 0) else (1, 0, 0) := by
  unfold response9
  by_cases h1 : status = 101
  · rw [if_pos h1, if_pos h1]
  · rw [if_neg h1, if_neg h1]
    by_cases h2 : (100 ≤ status ∧ status < 200) ∨ status = 204 ∨ status = 304
    · rw [if_pos h2]
    · rw [if_neg h2, if_neg (fun h => by have := h.1; revert this; decide), if_pos rfl]
theorem bare_any (m : List UInt8) (status minor : Int) (G : List HField) (h : (100 ≤ status ∧ status < 200) ∨ status = 204 ∨ status = 304) : response9 m status minor G = if status = 101 then (5, 0, 0) else (1, 0, 0) := by
  unfold response9
  by_cases h1 : status = 101
  · rw [if_pos h1, if_pos h1]
  · rw [if_neg h1, if_neg h1, if_pos h]
set_option maxHeartbeats 1600000 in
theorem walkIn (m : ByteArray) (h : H8) (v : Value) (hst : (Lit.int .i64 h.status).wf = true) (hle : h.fields.length ≤ 4398046511104) (hy : Nice v h.fields.length) (w : World) (hF : FL w v h.fields) (hm : Fit w) :
    Calls Tryd.prog 6 #[hv h v, .string m] w fun e w' => e = .returned (.bool true) ∧ Below w.heap.size w w' := by
  have L0 := Lib.hid (LB.new (Below.refl w.heap.size w) hF)
  have HM := Lib.hid hm
  have U1 := Lib.hid (fun w v hF hm => presponse9_soon ⟨#[72, 69, 65, 68]⟩ h v hst (.inr (.inr (.inr (.inr rfl)))) w hF hm)
  have U2 := fun hs => Lib.hid (fun w v hF hm => show Calls Tryd.prog 15 #[.string m, hv h v] w fun e w' => e = .returned (frv9 (if h.status = 101 then (5, 0, 0) else (1, 0, 0))) ∧ Below w.heap.size w w' by rw [← bare_any (toL m) h.status h.minor h.fields hs]; exact presponse9_soon m h v hst (by rcases hs with h | h | h <;> simp [h]) w hF hm)
  clear hst
  rw [show toL ⟨#[72, 69, 65, 68]⟩ = [72, 69, 65, 68] from rfl, bare_head] at U1
  have CP := Lib.hid (fun w v hy hF => copied_any h v hle hy w hF)
  obtain ⟨p, cap, rfl, _, _⟩ := id hF
  replace hy := Lib.hid hy
  unfold hv at U1 U2 CP ⊢
  unfold hc at L0
  clear hF hm
  obtain ⟨st, hsx⟩ : ∃ st, st = h.status := ⟨_, rfl⟩
  rw [← hsx] at U1 U2 CP L0 ⊢
  replace hsx := Lib.hid hsx
  by_cases h1 : st = 101
  · subst h1
    rw [if_pos rfl] at U1
    unfold frv9 at U1
    dsimp only at U1
    replace U2 := U2 (.inl ⟨by decide, by decide⟩)
    rw [if_pos rfl] at U2
    unfold frv9 at U2
    dsimp only at U2
    go_enter Tryd.func6, Tryd.ntmps6
    go_wp2_with fail
    generalize w.alloc (.cells #[.string (ofL h.method), .string (ofL h.target), .int .i64 101, .string (ofL h.reason), .int .i64 h.minor, .slice p h.fields.length cap] 24) = W at *
    obtain ⟨g, hg⟩ : ∃ g, g = w.heap.size := ⟨_, rfl⟩
    rw [← hg] at L0 ⊢
    replace hg := Lib.hid hg
    refine (anchor_any _ (HM.out.below L0.out.below)).mono ?_
    rintro e w1 ⟨rfl, hb⟩
    replace L0 := Lib.hid (L0.out.call hb)
    clear hb
    obtain ⟨d0, d1, d2, d3, d4, d5⟩ := L0.out.box.cells
    rw [← hsx.out] at d2
    go_wp2_with fail
    refine (CP.out _ _ hy.out L0.out.list).mono ?_
    rintro e w2 ⟨v2, rfl, hF2, hy2, hb⟩
    replace L0 := Lib.hid (L0.out.call hb)
    clear hb d0 d1 d2 d3 d4 d5
    go_wp2_with fail
    refine (U1.out _ _ hF2 (HM.out.below L0.out.below)).mono ?_
    rintro e w3 ⟨rfl, hb⟩
    replace L0 := Lib.hid ((L0.out.call hb).alloc (.cells #[.int .i64 5, .int .i64 0] 27))
    have fx := (Has.new w3 27 #[.int .i64 5, .int .i64 0])
    have fs : w3.heap.size < (w3.alloc (.cells #[.int .i64 5, .int .i64 0] 27)).heap.size := by simp
    clear hb hF2 hy2 U1
    dsimp only
    iterate 15 go_step
    generalize w3.alloc (.cells #[.int .i64 5, .int .i64 0] 27) = W3 at L0 fx fs ⊢
    generalize w3.heap.size = gf at fx fs ⊢
    have f0 := fx.cell 0
    have f1 := fx.cell 1
    obtain ⟨d0, d1, d2, d3, d4, d5⟩ := L0.out.box.cells
    rw [← hsx.out] at d2
    go_wp2_with fail
    refine (CP.out _ _ hy.out L0.out.list).mono ?_
    rintro e w4 ⟨v3, rfl, hF3, hy3, hb⟩
    replace L0 := Lib.hid (L0.out.call hb)
    clear hb d0 d1 d2 d3 d4 d5 f0 f1 fx fs
    go_wp2_with fail
    refine (U2.out _ _ hF3 (HM.out.below L0.out.below)).mono ?_
    rintro e w5 ⟨rfl, hb⟩
    replace L0 := Lib.hid ((L0.out.call hb).alloc (.cells #[.int .i64 5, .int .i64 0] 27))
    have fx := (Has.new w5 27 #[.int .i64 5, .int .i64 0])
    clear hb hF3 hy3 U2
    dsimp only
    iterate 15 go_step
    generalize w5.alloc (.cells #[.int .i64 5, .int .i64 0] 27) = W5 at L0 fx ⊢
    generalize w5.heap.size = gg at fx ⊢
    have f0 := fx.cell 0
    have f1 := fx.cell 1
    obtain ⟨d0, d1, d2, d3, d4, d5⟩ := L0.out.box.cells
    rw [← hsx.out] at d2
    go_wp2_with fail
    go_ret
    exact ⟨rfl, L0.out.below⟩
  by_cases h2 : st = 204
  · subst h2
    rw [if_neg (by decide)] at U1
    unfold frv9 at U1
    dsimp only at U1
    replace U2 := U2 (.inr (.inl rfl))
    rw [if_neg (by decide)] at U2
    unfold frv9 at U2
    dsimp only at U2
    go_enter Tryd.func6, Tryd.ntmps6
    go_wp2_with fail
    generalize w.alloc (.cells #[.string (ofL h.method), .string (ofL h.target), .int .i64 204, .string (ofL h.reason), .int .i64 h.minor, .slice p h.fields.length cap] 24) = W at *
    obtain ⟨g, hg⟩ : ∃ g, g = w.heap.size := ⟨_, rfl⟩
    rw [← hg] at L0 ⊢
    replace hg := Lib.hid hg
    refine (anchor_any _ (HM.out.below L0.out.below)).mono ?_
    rintro e w1 ⟨rfl, hb⟩
    replace L0 := Lib.hid (L0.out.call hb)
    clear hb
    obtain ⟨d0, d1, d2, d3, d4, d5⟩ := L0.out.box.cells
    rw [← hsx.out] at d2
    go_wp2_with fail
    refine (CP.out _ _ hy.out L0.out.list).mono ?_
    rintro e w2 ⟨v2, rfl, hF2, hy2, hb⟩
    replace L0 := Lib.hid (L0.out.call hb)
    clear hb d0 d1 d2 d3 d4 d5
    go_wp2_with fail
    refine (U1.out _ _ hF2 (HM.out.below L0.out.below)).mono ?_
    rintro e w3 ⟨rfl, hb⟩
    replace L0 := Lib.hid ((L0.out.call hb).alloc (.cells #[.int .i64 1, .int .i64 0] 27))
    have fx := (Has.new w3 27 #[.int .i64 1, .int .i64 0])
    have fs : w3.heap.size < (w3.alloc (.cells #[.int .i64 1, .int .i64 0] 27)).heap.size := by simp
    clear hb hF2 hy2 U1
    dsimp only
    iterate 15 go_step
    generalize w3.alloc (.cells #[.int .i64 1, .int .i64 0] 27) = W3 at L0 fx fs ⊢
    generalize w3.heap.size = gf at fx fs ⊢
    have f0 := fx.cell 0
    have f1 := fx.cell 1
    obtain ⟨d0, d1, d2, d3, d4, d5⟩ := L0.out.box.cells
    rw [← hsx.out] at d2
    go_wp2_with fail
    refine (CP.out _ _ hy.out L0.out.list).mono ?_
    rintro e w4 ⟨v3, rfl, hF3, hy3, hb⟩
    replace L0 := Lib.hid (L0.out.call hb)
    clear hb d0 d1 d2 d3 d4 d5 f0 f1 fx fs
    go_wp2_with fail
    refine (U2.out _ _ hF3 (HM.out.below L0.out.below)).mono ?_
    rintro e w5 ⟨rfl, hb⟩
    replace L0 := Lib.hid ((L0.out.call hb).alloc (.cells #[.int .i64 1, .int .i64 0] 27))
    have fx := (Has.new w5 27 #[.int .i64 1, .int .i64 0])
    clear hb hF3 hy3 U2
    dsimp only
    iterate 15 go_step
    generalize w5.alloc (.cells #[.int .i64 1, .int .i64 0] 27) = W5 at L0 fx ⊢
    generalize w5.heap.size = gg at fx ⊢
    have f0 := fx.cell 0
    have f1 := fx.cell 1
    obtain ⟨d0, d1, d2, d3, d4, d5⟩ := L0.out.box.cells
    rw [← hsx.out] at d2
    go_wp2_with fail
    go_ret
    exact ⟨rfl, L0.out.below⟩
  by_cases h3 : st = 304
  · subst h3
    rw [if_neg (by decide)] at U1
    unfold frv9 at U1
    dsimp only at U1
    replace U2 := U2 (.inr (.inr rfl))
    rw [if_neg (by decide)] at U2
    unfold frv9 at U2
    dsimp only at U2
    go_enter Tryd.func6, Tryd.ntmps6
    go_wp2_with fail
    generalize w.alloc (.cells #[.string (ofL h.method), .string (ofL h.target), .int .i64 304, .string (ofL h.reason), .int .i64 h.minor, .slice p h.fields.length cap] 24) = W at *
    obtain ⟨g, hg⟩ : ∃ g, g = w.heap.size := ⟨_, rfl⟩
    rw [← hg] at L0 ⊢
    replace hg := Lib.hid hg
    refine (anchor_any _ (HM.out.below L0.out.below)).mono ?_
    rintro e w1 ⟨rfl, hb⟩
    replace L0 := Lib.hid (L0.out.call hb)
    clear hb
    obtain ⟨d0, d1, d2, d3, d4, d5⟩ := L0.out.box.cells
    rw [← hsx.out] at d2
    go_wp2_with fail
    refine (CP.out _ _ hy.out L0.out.list).mono ?_
    rintro e w2 ⟨v2, rfl, hF2, hy2, hb⟩
    replace L0 := Lib.hid (L0.out.call hb)
    clear hb d0 d1 d2 d3 d4 d5
    go_wp2_with fail
    refine (U1.out _ _ hF2 (HM.out.below L0.out.below)).mono ?_
    rintro e w3 ⟨rfl, hb⟩
    replace L0 := Lib.hid ((L0.out.call hb).alloc (.cells #[.int .i64 1, .int .i64 0] 27))
    have fx := (Has.new w3 27 #[.int .i64 1, .int .i64 0])
    have fs : w3.heap.size < (w3.alloc (.cells #[.int .i64 1, .int .i64 0] 27)).heap.size := by simp
    clear hb hF2 hy2 U1
    dsimp only
    iterate 15 go_step
    generalize w3.alloc (.cells #[.int .i64 1, .int .i64 0] 27) = W3 at L0 fx fs ⊢
    generalize w3.heap.size = gf at fx fs ⊢
    have f0 := fx.cell 0
    have f1 := fx.cell 1
    obtain ⟨d0, d1, d2, d3, d4, d5⟩ := L0.out.box.cells
    rw [← hsx.out] at d2
    go_wp2_with fail
    refine (CP.out _ _ hy.out L0.out.list).mono ?_
    rintro e w4 ⟨v3, rfl, hF3, hy3, hb⟩
    replace L0 := Lib.hid (L0.out.call hb)
    clear hb d0 d1 d2 d3 d4 d5 f0 f1 fx fs
    go_wp2_with fail
    refine (U2.out _ _ hF3 (HM.out.below L0.out.below)).mono ?_
    rintro e w5 ⟨rfl, hb⟩
    replace L0 := Lib.hid ((L0.out.call hb).alloc (.cells #[.int .i64 1, .int .i64 0] 27))
    have fx := (Has.new w5 27 #[.int .i64 1, .int .i64 0])
    clear hb hF3 hy3 U2
    dsimp only
    iterate 15 go_step
    generalize w5.alloc (.cells #[.int .i64 1, .int .i64 0] 27) = W5 at L0 fx ⊢
    generalize w5.heap.size = gg at fx ⊢
    have f0 := fx.cell 0
    have f1 := fx.cell 1
    obtain ⟨d0, d1, d2, d3, d4, d5⟩ := L0.out.box.cells
    rw [← hsx.out] at d2
    go_wp2_with fail
    go_ret
    exact ⟨rfl, L0.out.below⟩
  have k1 : (st != 101) = true := bne_iff_ne.2 h1
  have k2 : (st == 204) = false := beq_eq_false_iff_ne.2 h2
  have k3 : (st == 304) = false := beq_eq_false_iff_ne.2 h3
  by_cases h4 : 100 ≤ st ∧ st ≤ 199
  · obtain ⟨h5, h6⟩ := h4
    rw [if_neg h1] at U1
    unfold frv9 at U1
    dsimp only at U1
    replace U2 := U2 (.inl ⟨h5, by omega⟩)
    rw [if_neg h1] at U2
    unfold frv9 at U2
    dsimp only at U2
    clear h1 h2 h3
    go_enter Tryd.func6, Tryd.ntmps6
    go_wp2_with fail
    generalize w.alloc (.cells #[.string (ofL h.method), .string (ofL h.target), .int .i64 st, .string (ofL h.reason), .int .i64 h.minor, .slice p h.fields.length cap] 24) = W at *
    obtain ⟨g, hg⟩ : ∃ g, g = w.heap.size := ⟨_, rfl⟩
    rw [← hg] at L0 ⊢
    replace hg := Lib.hid hg
    refine (anchor_any _ (HM.out.below L0.out.below)).mono ?_
    rintro e w1 ⟨rfl, hb⟩
    replace L0 := Lib.hid (L0.out.call hb)
    clear hb
    obtain ⟨d0, d1, d2, d3, d4, d5⟩ := L0.out.box.cells
    rw [← hsx.out] at d2
    go_wp2_with fail
    refine (CP.out _ _ hy.out L0.out.list).mono ?_
    rintro e w2 ⟨v2, rfl, hF2, hy2, hb⟩
    replace L0 := Lib.hid (L0.out.call hb)
    clear hb d0 d1 d2 d3 d4 d5
    go_wp2_with fail
    refine (U1.out _ _ hF2 (HM.out.below L0.out.below)).mono ?_
    rintro e w3 ⟨rfl, hb⟩
    replace L0 := Lib.hid ((L0.out.call hb).alloc (.cells #[.int .i64 1, .int .i64 0] 27))
    have fx := (Has.new w3 27 #[.int .i64 1, .int .i64 0])
    have fs : w3.heap.size < (w3.alloc (.cells #[.int .i64 1, .int .i64 0] 27)).heap.size := by simp
    clear hb hF2 hy2 U1
    dsimp only
    iterate 15 go_step
    generalize w3.alloc (.cells #[.int .i64 1, .int .i64 0] 27) = W3 at L0 fx fs ⊢
    generalize w3.heap.size = gf at fx fs ⊢
    have f0 := fx.cell 0
    have f1 := fx.cell 1
    obtain ⟨d0, d1, d2, d3, d4, d5⟩ := L0.out.box.cells
    rw [← hsx.out] at d2
    go_wp2_with fail
    refine (CP.out _ _ hy.out L0.out.list).mono ?_
    rintro e w4 ⟨v3, rfl, hF3, hy3, hb⟩
    replace L0 := Lib.hid (L0.out.call hb)
    clear hb d0 d1 d2 d3 d4 d5 f0 f1 fx fs
    go_wp2_with fail
    refine (U2.out _ _ hF3 (HM.out.below L0.out.below)).mono ?_
    rintro e w5 ⟨rfl, hb⟩
    replace L0 := Lib.hid ((L0.out.call hb).alloc (.cells #[.int .i64 1, .int .i64 0] 27))
    have fx := (Has.new w5 27 #[.int .i64 1, .int .i64 0])
    clear hb hF3 hy3 U2
    dsimp only
    iterate 15 go_step
    generalize w5.alloc (.cells #[.int .i64 1, .int .i64 0] 27) = W5 at L0 fx ⊢
    generalize w5.heap.size = gg at fx ⊢
    have f0 := fx.cell 0
    have f1 := fx.cell 1
    obtain ⟨d0, d1, d2, d3, d4, d5⟩ := L0.out.box.cells
    rw [← hsx.out] at d2
    go_wp2_with fail
    go_ret
    exact ⟨rfl, L0.out.below⟩
  · have h7 : ¬ 100 ≤ st ∨ (100 ≤ st ∧ ¬ st ≤ 199) := by omega
    rw [if_neg h1] at U1
    unfold frv9 at U1
    dsimp only at U1
    clear U2
    clear h1 h2 h3 h4
    rcases h7 with h5 | ⟨h5, h6⟩
    all_goals
      go_enter Tryd.func6, Tryd.ntmps6
      go_wp2_with fail
      generalize w.alloc (.cells #[.string (ofL h.method), .string (ofL h.target), .int .i64 st, .string (ofL h.reason), .int .i64 h.minor, .slice p h.fields.length cap] 24) = W at *
      obtain ⟨g, hg⟩ : ∃ g, g = w.heap.size := ⟨_, rfl⟩
      rw [← hg] at L0 ⊢
      replace hg := Lib.hid hg
      refine (anchor_any _ (HM.out.below L0.out.below)).mono ?_
      rintro e w1 ⟨rfl, hb⟩
      replace L0 := Lib.hid (L0.out.call hb)
      clear hb
      obtain ⟨d0, d1, d2, d3, d4, d5⟩ := L0.out.box.cells
      rw [← hsx.out] at d2
      go_wp2_with fail
      refine (CP.out _ _ hy.out L0.out.list).mono ?_
      rintro e w2 ⟨v2, rfl, hF2, hy2, hb⟩
      replace L0 := Lib.hid (L0.out.call hb)
      clear hb d0 d1 d2 d3 d4 d5
      go_wp2_with fail
      refine (U1.out _ _ hF2 (HM.out.below L0.out.below)).mono ?_
      rintro e w3 ⟨rfl, hb⟩
      replace L0 := Lib.hid ((L0.out.call hb).alloc (.cells #[.int .i64 1, .int .i64 0] 27))
      have fx := (Has.new w3 27 #[.int .i64 1, .int .i64 0])
      have fs : w3.heap.size < (w3.alloc (.cells #[.int .i64 1, .int .i64 0] 27)).heap.size := by simp
      clear hb hF2 hy2 U1
      dsimp only
      iterate 15 go_step
      generalize w3.alloc (.cells #[.int .i64 1, .int .i64 0] 27) = W3 at L0 fx fs ⊢
      generalize w3.heap.size = gf at fx fs ⊢
      have f0 := fx.cell 0
      have f1 := fx.cell 1
      obtain ⟨d0, d1, d2, d3, d4, d5⟩ := L0.out.box.cells
      rw [← hsx.out] at d2
      go_wp2_with fail
      go_ret
      exact ⟨rfl, L0.out.below⟩
theorem walk {H : Type} {enc : TypeId × Value → H} {W : World} {base : Nat} (v : Value) (d : DataW H) (p : List MemPlace) (hv : Value.okWide Tryd.prog W .any base 24 v)
    (hd : DataW.Trod enc Tryd.prog W 0 (fun _ => true) true 24 v d p) (hl : ∀ x ∈ p, x.block < W.heap.size) (hb : (d.weights Tryd.prog 24).all (· ≤ reachBytes) = true) (m : ByteArray) (w1 : m.size ≤ maxLen) (z1 : m.size ≤ 140737488351232) (hsh : W.ShapedOpen Tryd.prog) :
    Calls Tryd.prog 6 #[v, .string m] W fun e w' => e = .returned (.bool true) ∧ Below W.heap.size W w' := by
  obtain ⟨x, l, rfl, hF, _, hle, hy, hst⟩ := head_arg_reach hv hd hb
  exact walkIn m x l hst (by omega) hy W hF (Fit.of_shape hsh)
end Go.Proofs.YtgkdepoimnmhfaaDoor.FrameBodilessW
