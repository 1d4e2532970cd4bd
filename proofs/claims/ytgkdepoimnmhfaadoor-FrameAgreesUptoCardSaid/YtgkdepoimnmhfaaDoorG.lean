/- Texts of this seat, one behind another: FrameAgreesW. -/

import Derived.Test.YtgkdepoimnmhfaaDoorB
/- What a request's reader and a response's reader see in the same fields is one framing: FrameAgrees returns true. -/
namespace Go.Proofs.YtgkdepoimnmhfaaDoor.FrameAgreesW
open Go.ChangeShapes Go.WideShapes Go.ChangeAt Go.RowKit LexPure Bytes Ret Rows1 FieldsPure HeadPure FramePure Flds HBox KeptRow Held FRow FrameObj FrAnchor FCopied HArg Mem
set_option maxRecDepth 100000
set_option linter.unusedVariables false
theorem lb_status {w W : World} {g : Nat} {h : H8} {v : Value} (x : LB w W g h v) (hF : FL w v h.fields) (n : Int) : LB w (W.setCell ⟨g, 2, none⟩ (.int .i64 n)) g { h with status := n } v := by
  have hb := x.below.setCell (p := ⟨g, 2, none⟩) x.low (.int .i64 n)
  refine ⟨hb, x.low, ⟨?_⟩, hF.below hb, by rw [World.size_setCell]; exact x.lt⟩
  have := x.box.has.set_ 2 (.int .i64 n)
  simpa [hc] using this
/-- how the two answers go together -/
theorem agree (minor : Int) (G : List HField) (most : Int) :
    (request9 minor G most = (0, 0, 101) ∧ response9 [71, 69, 84] 200 minor G = (2, lenN G, 0) ∧ most < lenN G) ∨
    (∃ a b, (a = 90 ∨ a = 91) ∧ (b = 90 ∨ b = 91) ∧ request9 minor G most = (0, 0, a) ∧ response9 [71, 69, 84] 200 minor G = (0, 0, b)) ∨
    (request9 minor G most = (1, 0, 0) ∧ response9 [71, 69, 84] 200 minor G = (4, 0, 0)) ∨
    (∃ k n, (k = 2 ∨ k = 3) ∧ request9 minor G most = (k, n, 0) ∧ response9 [71, 69, 84] 200 minor G = (k, n, 0)) := by
  unfold request9 response9
  rw [if_neg (show ¬ ((200 : Int) = 101) by decide), if_neg (show ¬ ((100 ≤ (200 : Int) ∧ (200 : Int) < 200) ∨ (200 : Int) = 204 ∨ (200 : Int) = 304) by decide), if_neg (show ¬ (([71, 69, 84] : List UInt8) = [67, 79, 78, 78, 69, 67, 84] ∧ 200 ≤ (200 : Int) ∧ (200 : Int) < 300) by decide), if_neg (show ¬ (([71, 69, 84] : List UInt8) = [72, 69, 65, 68]) by decide)]
  by_cases h2 : 0 < getN G TENC
  · rw [if_pos h2, if_pos h2]
    by_cases h1 : minor = 0 ∨ 0 < getN G CLEN
    · rw [if_pos h1, if_pos (by rcases h1 with h | h; exact .inl h; exact .inr (.inl h))]
      exact .inr (.inl ⟨90, 90, .inl rfl, .inl rfl, rfl, rfl⟩)
    · rw [if_neg h1]
      rcases code_three (elems G TENC) with c | c | c
      · rw [if_neg (by rintro (h | h | h); exact h1 (.inl h); exact h1 (.inr h); omega), if_neg (by omega), if_pos c]
        exact .inr (.inr (.inr ⟨3, 0, .inr rfl, rfl, rfl⟩))
      · rw [if_neg (by rintro (h | h | h); exact h1 (.inl h); exact h1 (.inr h); omega), if_pos c, if_neg (by omega)]
        exact .inr (.inl ⟨91, 91, .inr rfl, .inr rfl, rfl, rfl⟩)
      · rw [if_pos (.inr (.inr c)), if_neg (by omega)]
        exact .inr (.inl ⟨90, 91, .inl rfl, .inr rfl, rfl, rfl⟩)
  · rw [if_neg h2, if_neg h2]
    by_cases h1 : getN G CLEN = 0
    · rw [if_pos h1, if_pos h1]
      exact .inr (.inr (.inl ⟨rfl, rfl⟩))
    · rw [if_neg h1, if_neg h1]
      by_cases n0 : lenN G < 0
      · rw [if_pos n0, if_pos n0]
        exact .inr (.inl ⟨90, 90, .inl rfl, .inl rfl, rfl, rfl⟩)
      · rw [if_neg n0, if_neg n0]
        by_cases n1 : most < lenN G
        · rw [if_pos n1]
          exact .inl ⟨rfl, rfl, n1⟩
        · rw [if_neg n1]
          exact .inr (.inr (.inr ⟨2, lenN G, .inl rfl, rfl, rfl⟩))
set_option maxHeartbeats 1600000 in
theorem walkIn (h : H8) (v : Value) (most : Int) (hG : Few h.fields) (hle : h.fields.length ≤ 1048576) (hy : Nice v h.fields.length) (w : World) (hF : FL w v h.fields) (hm : Fit w) :
    Calls Tryd.prog 7 #[hv h v, .int .i64 most] w fun e w' => e = .returned (.bool true) ∧ Below w.heap.size w w' := by
  have L0 := Lib.hid (LB.new (Below.refl w.heap.size w) hF)
  have HM := Lib.hid hm
  have HA := agree h.minor h.fields most
  have U1 := Lib.hid (fun w v hF hm => prequest9_any h v most hG hle w hF hm)
  have U2 := Lib.hid (fun w v hF hm => presponse9_any ⟨#[71, 69, 84]⟩ { h with status := 200 } v rfl hG hle w hF hm)
  rw [show toL ⟨#[71, 69, 84]⟩ = [71, 69, 84] from rfl] at U2
  have CP := Lib.hid (fun w v hy hF => copied_any h v (by omega) hy w hF)
  have CP2 := Lib.hid (fun w v hy hF => copied_any { h with status := 200 } v (Nat.le_trans hle (by decide)) hy w hF)
  dsimp only at U2 CP2
  generalize request9 h.minor h.fields most = r at *
  generalize response9 [71, 69, 84] 200 h.minor h.fields = q at *
  generalize lenN h.fields = nn at *
  obtain ⟨r1, r2, r3⟩ := r
  obtain ⟨q1, q2, q3⟩ := q
  have hF0 := Lib.hid hF
  obtain ⟨p, cap, rfl, _, _⟩ := id hF
  replace hy := Lib.hid hy
  unfold frv9 at U1 U2
  unfold hv at U1 U2 CP CP2 ⊢
  dsimp only at U1 U2 CP2
  unfold hc at L0
  clear hF hm
  go_enter Tryd.func7, Tryd.ntmps7
  go_wp2_with fail
  generalize w.alloc (.cells #[.string (ofL h.method), .string (ofL h.target), .int .i64 h.status, .string (ofL h.reason), .int .i64 h.minor, .slice p h.fields.length cap] 24) = W at *
  obtain ⟨g, hg⟩ : ∃ g, g = w.heap.size := ⟨_, rfl⟩
  rw [← hg] at L0 ⊢
  replace hg := Lib.hid hg
  refine (anchor_any _ (HM.out.below L0.out.below)).mono ?_
  rintro e w1 ⟨rfl, hb⟩
  replace L0 := Lib.hid (L0.out.call hb)
  clear hb
  obtain ⟨d0, d1, d2, d3, d4, d5⟩ := L0.out.box.cells
  go_wp2_with fail
  refine (CP.out _ _ hy.out L0.out.list).mono ?_
  rintro e w2 ⟨v2, rfl, hF2, hy2, hb⟩
  replace L0 := Lib.hid (L0.out.call hb)
  clear hb d0 d1 d2 d3 d4 d5
  go_wp2_with fail
  refine (U1.out _ _ hF2 (HM.out.below L0.out.below)).mono ?_
  rintro e w3 ⟨rfl, hb⟩
  have hne := Nat.ne_of_lt (L0.out.call hb).lt
  replace L0 := Lib.hid ((L0.out.call hb).alloc (.cells #[.int .i64 r1, .int .i64 r2] 27))
  have fx := (Has.new w3 27 #[.int .i64 r1, .int .i64 r2])
  have fs : w3.heap.size < (w3.alloc (.cells #[.int .i64 r1, .int .i64 r2] 27)).heap.size := by simp
  clear hb hF2 hy2 U1
  dsimp only
  iterate 15 go_step
  generalize w3.alloc (.cells #[.int .i64 r1, .int .i64 r2] 27) = W3 at L0 fx fs ⊢
  generalize w3.heap.size = gf at fx fs hne ⊢
  obtain ⟨d0, d1, d2, d3, d4, d5⟩ := L0.out.box.cells
  obtain ⟨x0, x1, x2, x3, x4, x5⟩ := L0.out.box.frees
  have L2 := lb_status L0.out hF0.out 200
  obtain ⟨W4, hW4⟩ : ∃ W4, W4 = W3.setCell ⟨g, 2, none⟩ (.int .i64 200) := ⟨_, rfl⟩
  have fx4 := fx.far (p := ⟨g, 2, none⟩) (show gf ≠ g from fun e => hne e.symm) (.int .i64 200)
  have fs4 : gf < W4.heap.size := by rw [hW4, World.size_setCell]; exact fs
  rw [← hW4] at L2 fx4
  replace hW4 := Lib.hid hW4
  replace L2 := Lib.hid L2
  replace fx4 := Lib.hid fx4
  clear L0 fx fs
  go_wp2_with fail
  rw [← hW4.out]
  refine (CP2.out _ _ hy.out L2.out.list).mono ?_
  rintro e w5 ⟨v3, rfl, hF3, hy3, hb⟩
  replace L2 := Lib.hid (L2.out.call hb)
  replace fx4 := Lib.hid (fx4.out.below hb fs4)
  have fs5 := Nat.lt_of_lt_of_le fs4 hb.size
  clear hb hW4 fs4 d0 d1 d2 d3 d4 d5 x0 x1 x2 x3 x4 x5 CP CP2
  go_wp2_with fail
  refine (U2.out _ _ hF3 (HM.out.below L2.out.below)).mono ?_
  rintro e w6 ⟨rfl, hb⟩
  have fx6 := fx4.out.below hb fs5
  have fs6 := Nat.lt_of_lt_of_le fs5 hb.size
  have hne6 := Nat.ne_of_lt fs6
  replace L2 := Lib.hid ((L2.out.call hb).alloc (.cells #[.int .i64 q1, .int .i64 q2] 27))
  have gx := (Has.new w6 27 #[.int .i64 q1, .int .i64 q2])
  replace fx6 := fx6.alloc (.cells #[.int .i64 q1, .int .i64 q2] 27)
  clear hb hF3 hy3 U2 fx4
  dsimp only
  iterate 15 go_step
  generalize w6.alloc (.cells #[.int .i64 q1, .int .i64 q2] 27) = W6 at L2 fx6 gx ⊢
  generalize w6.heap.size = gg at gx hne6 ⊢
  have f0 := fx6.cell 0
  have f1 := fx6.cell 1
  have g0 := gx.cell 0
  have g1 := gx.cell 1
  have hz := fun a b => eqFr a b
  rcases HA with ⟨hA, hB, hn⟩ | ⟨a, b, ha, hb, hA, hB⟩ | ⟨hA, hB⟩ | ⟨k, n, hk, hA, hB⟩
  · injection hA with e1 e2
    injection e2 with e2 e3
    injection hB with e4 e5
    injection e5 with e5 e6
    subst e1 e2 e3 e4 e6
    rw [← e5] at hn
    clear e5 hz
    go_wp2_with fail
    go_ret
    exact ⟨rfl, L2.out.below⟩
  · injection hA with e1 e2
    injection e2 with e2 e3
    injection hB with e4 e5
    injection e5 with e5 e6
    subst e1 e2 e3 e4 e5 e6
    clear hz
    rcases ha with rfl | rfl <;> rcases hb with rfl | rfl
    all_goals
      go_wp2_with fail
      go_ret
      exact ⟨rfl, L2.out.below⟩
  · injection hA with e1 e2
    injection e2 with e2 e3
    injection hB with e4 e5
    injection e5 with e5 e6
    subst e1 e2 e3 e4 e5 e6
    have z := hz 4 0
    clear hz
    go_wp2_with fail
    go_ret
    exact ⟨rfl, L2.out.below⟩
  · injection hA with e1 e2
    injection e2 with e2 e3
    injection hB with e4 e5
    injection e5 with e5 e6
    subst e1 e2 e3 e4 e5 e6
    rcases hk with rfl | rfl
    all_goals
      go_wp2_with fail
      go_ret
      exact ⟨rfl, L2.out.below⟩
theorem walk {H : Type} {enc : TypeId × Value → H} {W : World} {base : Nat} (v : Value) (d : DataW H) (p : List MemPlace) (hv : Value.okWide Tryd.prog W .any base 24 v)
    (hd : DataW.Trod enc Tryd.prog W 0 (fun _ => true) true 24 v d p) (hl : ∀ x ∈ p, x.block < W.heap.size) (hb : Rows.uptoBulk d ≤ 1048576)
    (most : Int) (w1 : (Lit.int .i64 most).wf = true) (hsh : W.ShapedOpen Tryd.prog) :
    Calls Tryd.prog 7 #[v, .int .i64 most] W fun e w' => e = .returned (.bool true) ∧ Below W.heap.size W w' := by
  obtain ⟨x, l, rfl, hF, hG, hle, hy, _⟩ := head_arg hv hd hb
  exact walkIn x l most hG hle hy W hF (Fit.of_shape hsh)
end Go.Proofs.YtgkdepoimnmhfaaDoor.FrameAgreesW
