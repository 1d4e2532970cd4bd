/- For every three integers now, id, at: WheelRefuses returns true. No condition. -/
import Derived.Test.YtcobjejaflikjaaWheelOne
import Derived.Test.YtcobjejaflikjaaLawBase
namespace Go.Proofs.Ytcobjejaflikjaa.WheelRefusesP
open Go.ChangeShapes Go.WideShapes Go.ChangeAt Go.RowKit Go.Maps WMath Mem Step WObj WOrd WMm WOps WSet WMin WSort WAdv WOne

set_option maxHeartbeats 6400000 in
set_option maxRecDepth 100000 in
theorem walk (now : Int) (w0 : (Lit.int .i64 now).wf = true) (id : Int) (w1 : (Lit.int .i64 id).wf = true) (at_ : Int) (w2 : (Lit.int .i64 at_).wf = true) (W : World) :
    Calls Try.prog 9 #[.int .i64 now, .int .i64 id, .int .i64 at_] W fun e w' => e = .returned (.bool true) ∧ Below W.heap.size W w' := by
  obtain ⟨l0, u0⟩ := bounds_i64 w0
  obtain ⟨l1, u1⟩ := bounds_i64 w1
  obtain ⟨l2, u2⟩ := bounds_i64 w2
  clear w0 w1 w2
  go_enter Try.func9, Try.ntmps9
  go_wp2_with fail
  refine (anchor_any W).mono ?_
  rintro e w1 ⟨rfl, hb1⟩
  have HN := Lib.hid (one_new W w1 hb1)
  clear hb1
  go_wp2_with fail
  refine HN.out.mono ?_
  rintro e w2 ⟨g, rfl, O2⟩
  clear HN
  have HADV := Lib.hid (one_adv O2 now)
  have HO2 := Lib.hid O2
  clear O2
  by_cases q : now < 0 ∨ 1099511627776 < now
  · have HQ := Lib.hid q
    have fin : ∀ x : Int, x = now → True := fun _ _ => trivial
    clear fin
    rcases q with q | q
    all_goals
      go_wp2_with fail
      refine HADV.out.mono ?_
      rintro e w3 (⟨_, rfl, rfl⟩ | ⟨n2, fv2, X2, h1, h2, h3, _⟩)
      rotate_left
      · omega
      have HNOW := Lib.hid (one_now HO2.out)
      have HB := Lib.hid HO2.out.below
      go_wp2_with fail
      refine HNOW.out.mono ?_
      rintro e w' ⟨rfl, rfl⟩
      go_wp2_with fail
      go_ret
      exact ⟨rfl, HB.out⟩
  · have q1 : ¬ (now < 0) := by omega
    have q2 : ¬ (1099511627776 < now) := by omega
    clear q
    go_wp2_with fail
    refine HADV.out.mono ?_
    rintro e w3 (⟨h1, _⟩ | ⟨n, fv, X, h1, h2, h3, rfl, _, _, _, O3⟩)
    · omega
    subst h1
    have O3' : One W w3 g n [] := O3
    have HSET0 := Lib.hid (WOne.one_set O3' id at_ l1 u1)
    clear O3 O3' HADV HO2
    by_cases p1 : id < 0 ∨ 1099511627776 < id
    · have e1 : setE n [] id at_ = 21 := by unfold setE; rw [if_pos p1]
      have e2 : setS n [] id at_ = [] := by unfold setS; rw [if_neg (by rw [e1]; decide)]
      have HSET := HSET0.out
      rw [e1, e2] at HSET
      have HSET := Lib.hid HSET
      clear e1 e2 HSET0
      rcases p1 with p1 | p1
      all_goals
        go_wp2_with fail
        refine (HSET.out).mono ?_
        rintro e w4 ⟨rfl, O4⟩
        have HADV2 := Lib.hid (one_adv O4 ((n : Int) - 1))
        have HNX := Lib.hid O4
        clear O4
        go_wp2_with fail
        refine HADV2.out.mono ?_
        rintro e w5 (⟨_, rfl, rfl⟩ | ⟨n2, fv2, X2, h1, h2, _⟩)
        rotate_left
        · omega
        have O5 := HNX.out
        have HN5 := Lib.hid (one_next O5)
        clear O5 HADV2 HNX HSET
        go_wp2_with fail
        refine HN5.out.mono ?_
        rintro e w6 ⟨⟨m, hm, _⟩ | ⟨_, rfl⟩, O6⟩
        · exact absurd hm.1 (by simp)
        have HNOW := Lib.hid (one_now (O6.far ((Below.refl w6.heap.size w6).alloc (Nat.le_refl _) (.cells #[.int .i64 0, .int .i64 0] 42))))
        have HLEN := Lib.hid (one_len (O6.far ((Below.refl w6.heap.size w6).alloc (Nat.le_refl _) (.cells #[.int .i64 0, .int .i64 0] 42))))
        have HCAN := Lib.hid (one_cancel (O6.far ((Below.refl w6.heap.size w6).alloc (Nat.le_refl _) (.cells #[.int .i64 0, .int .i64 0] 42))) id (by omega) (by omega))
        clear O6 HN5
        go_wp2_with fail
        refine HNOW.out.mono ?_
        rintro e w' ⟨rfl, rfl⟩
        go_wp2_with fail
        refine HLEN.out.mono ?_
        rintro e w' ⟨rfl, rfl⟩
        go_wp2_with fail
        refine HCAN.out.mono ?_
        rintro e w7 ⟨rfl, O7⟩
        have hh : hasId [] id = false := rfl
        rw [hh]
        have HB := Lib.hid O7.below
        clear O7 hh
        go_wp2_with fail
        go_ret
        exact ⟨rfl, HB.out⟩
    · have p1a : ¬ (id < 0) := by omega
      have p1b : ¬ (1099511627776 < id) := by omega
      by_cases p2 : at_ < n ∨ 1099511627776 < at_
      · have e1 : setE n [] id at_ = 20 := by unfold setE; rw [if_neg p1, if_pos p2]
        have e2 : setS n [] id at_ = [] := by unfold setS; rw [if_neg (by rw [e1]; decide)]
        have HSET := HSET0.out
        rw [e1, e2] at HSET
        have HSET := Lib.hid HSET
        clear e1 e2 HSET0 p1
        rcases p2 with p2 | p2
        all_goals
          go_wp2_with fail
          refine (HSET.out).mono ?_
          rintro e w4 ⟨rfl, O4⟩
          have HADV2 := Lib.hid (one_adv O4 ((n : Int) - 1))
          have HNX := Lib.hid O4
          clear O4
          go_wp2_with fail
          refine HADV2.out.mono ?_
          rintro e w5 (⟨_, rfl, rfl⟩ | ⟨n2, fv2, X2, h1, h2, _⟩)
          rotate_left
          · omega
          have O5 := HNX.out
          have HN5 := Lib.hid (one_next O5)
          clear O5 HADV2 HNX HSET
          go_wp2_with fail
          refine HN5.out.mono ?_
          rintro e w6 ⟨⟨m, hm, _⟩ | ⟨_, rfl⟩, O6⟩
          · exact absurd hm.1 (by simp)
          have HNOW := Lib.hid (one_now (O6.far ((Below.refl w6.heap.size w6).alloc (Nat.le_refl _) (.cells #[.int .i64 0, .int .i64 0] 42))))
          have HLEN := Lib.hid (one_len (O6.far ((Below.refl w6.heap.size w6).alloc (Nat.le_refl _) (.cells #[.int .i64 0, .int .i64 0] 42))))
          have HCAN := Lib.hid (one_cancel (O6.far ((Below.refl w6.heap.size w6).alloc (Nat.le_refl _) (.cells #[.int .i64 0, .int .i64 0] 42))) id (by omega) (by omega))
          clear O6 HN5
          go_wp2_with fail
          refine HNOW.out.mono ?_
          rintro e w' ⟨rfl, rfl⟩
          go_wp2_with fail
          refine HLEN.out.mono ?_
          rintro e w' ⟨rfl, rfl⟩
          go_wp2_with fail
          refine HCAN.out.mono ?_
          rintro e w7 ⟨rfl, O7⟩
          have hh : hasId [] id = false := rfl
          rw [hh]
          have HB := Lib.hid O7.below
          clear O7 hh
          go_wp2_with fail
          go_ret
          exact ⟨rfl, HB.out⟩
      · have p2a : ¬ (at_ < n) := by omega
        have p2b : ¬ (1099511627776 < at_) := by omega
        obtain ⟨x, rfl⟩ : ∃ x : Nat, id = x := ⟨id.toNat, by omega⟩
        obtain ⟨a, rfl⟩ : ∃ a : Nat, at_ = a := ⟨at_.toNat, by omega⟩
        have e1 : setE n [] x a = 0 := by unfold setE; rw [if_neg p1, if_neg p2, if_neg (by simp)]
        have e2 : setS n [] x a = [(x, a)] := by unfold setS; rw [if_pos e1]; rfl
        have HSET := HSET0.out
        rw [e1, e2] at HSET
        have HSET := Lib.hid HSET
        clear e1 e2 HSET0 p1 p2
        go_wp2_with fail
        refine (HSET.out).mono ?_
        rintro e w4 ⟨rfl, O4⟩
        have HN5 := Lib.hid (one_next O4)
        clear O4
        go_wp2_with fail
        refine HN5.out.mono ?_
        rintro e w6 ⟨⟨m, hm, rfl⟩ | ⟨h, _⟩, O6⟩
        rotate_left
        · cases h
        have hm2 : m = (x, a) := by simpa using hm.1
        subst hm2
        have O7 := O6.far ((Below.refl w6.heap.size w6).alloc (Nat.le_refl _) (.cells #[.int .i64 (x : Int), .int .i64 (a : Int)] 42))
        have HLEN := Lib.hid (one_len O7)
        have HB := Lib.hid O7.below
        clear O6 O7 HN5 hm
        go_wp2_with fail
        refine HLEN.out.mono ?_
        rintro e w' ⟨rfl, rfl⟩
        go_wp2_with fail
        go_ret
        exact ⟨rfl, HB.out⟩

/-! ### the row's step -/
set_option maxRecDepth 100000 in
theorem lifted (os : Os) (started : os.Started) (H : Type) (enc : TypeId × Value → H) :
    ReturnsInHanded {} Try.checked os 9 .any (Rows.wheelRefusesSpec.pre6 enc Try.prog Try.f9 Rows.wheelRefusesRow.domain false) (Rows.wheelRefusesSpec.post enc Try.prog Try.f9 false true false false) := by
  refine returnsInHanded_of_change_sized (C := Try.checked) LawBase.own started (by kernel_rfl) Try.func9
    (ChangeSpec.witness6 (enc := enc) (C := Try.checked) false ⟨#[], #[.int .i64 0, .int .i64 0, .int .i64 0], []⟩ 8 (by kernel_rfl) (by kernel_rfl) (by kernel_rfl) (by kernel_rfl)) ?_
  intro W base args ds gs before hval0 hW hcnd hsz0 _
  have hval : ∀ (j : Nat) t v, Try.f9.params[j]? = some t → args[j]? = some v → Value.okWide Try.prog W .any base t v := hval0
  have hW' := hW
  obtain ⟨p, q, hA0, hV, rfl, hfz, hnd⟩ := hW
  have hA : DataW.TrodAll enc Try.prog W 0 (fun _ => true) true Try.f9.params.toList args.toList ds p := hA0
  rw [Try.params9] at hA hval
  have hlt : ∀ x ∈ p ++ q, x.block < W.heap.size := fun x hx => by simpa using hW'.lt x hx
  obtain ⟨v0, vs0, d0, ds0, p0, q0, hargs, rfl, rfl, h0, r0⟩ := trodAll_cons hA
  obtain ⟨v1, vs1, d1, ds1, p1, q1, rfl, rfl, rfl, h1, r1⟩ := trodAll_cons r0
  obtain ⟨v2, vs2, d2, ds2, p2, q2, rfl, rfl, rfl, h2, r2⟩ := trodAll_cons r1
  obtain ⟨rfl, rfl, rfl⟩ := trodAll_nil r2
  obtain rfl : args = #[v0, v1, v2] := by cases args; simp_all
  obtain ⟨rfl, rfl⟩ := trodVars_none hV
  obtain ⟨a0, rfl, rfl, rfl, w0⟩ := open_int Try.underlying3 (hval 0 3 v0 rfl rfl) h0
  obtain ⟨a1, rfl, rfl, rfl, w1⟩ := open_int Try.underlying3 (hval 1 3 v1 rfl rfl) h1
  obtain ⟨a2, rfl, rfl, rfl, w2⟩ := open_int Try.underlying3 (hval 2 3 v2 rfl rfl) h2
  refine (walk a0 w0 a1 w1 a2 w2 W).mono fun e W' ⟨he, hb⟩ => ?_
  subst he
  exact ⟨_, rfl, LawKit.law_post LawBase.laidOut (by kernel_rfl) hW' rfl rfl (by kernel_rfl) Try.underlying4 hb⟩

theorem over : Rows.wheelRefusesRow.holds Try.pinned (OpenSpec.ofChange Rows.wheelRefusesSpec) :=
  OpenClaim.holds_of_wide 9 Try.f9 rfl rfl rfl rfl rfl rfl rfl ⟨rfl, rfl, rfl, rfl, rfl⟩ rfl rfl rfl rfl rfl (by kernel_rfl) Try.func9 (by kernel_rfl)
    (of_decide_eq_true (by kernel_rfl)) (by unfold Func.isWrapper; first | (rw [if_pos (by decide +kernel)]; kernel_rfl) | (rw [if_neg (by decide +kernel)]; exact ⟨rfl, rfl⟩))
    (fun os started H enc _ => lifted os started H enc)

/-- THE STATEMENT -/
theorem proved : Rows.WheelRefusesSaid :=
  over

end Go.Proofs.Ytcobjejaflikjaa.WheelRefusesP
