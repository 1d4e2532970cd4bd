/- For every three integers id, first, last and every strike: WheelAgain returns true. No condition. -/
import Derived.Test.YtcobjejaflikjaaWheelOne
import Derived.Test.YtcobjejaflikjaaLawBase
namespace Go.Proofs.Ytcobjejaflikjaa.WheelAgainP
open Go.ChangeShapes Go.WideShapes Go.ChangeAt Go.RowKit Go.Maps WMath Mem Step WObj WOrd WMm WOps WSet WMin WSort WAdv WOne

theorem again_setE (x f l : Nat) (hx : x ≤ 1099511627776) (hl : l ≤ 1099511627776) : setE 0 [(x, f)] x l = 0 := by
  unfold setE
  rw [if_neg (by omega), if_neg (by omega), if_neg (by simp [hasId])]
theorem again_setS (x f l : Nat) (hx : x ≤ 1099511627776) (hl : l ≤ 1099511627776) : setS 0 [(x, f)] x l = [(x, l)] := by
  unfold setS
  rw [if_pos (again_setE x f l hx hl)]
  simp [without]
theorem first_setE (x f : Nat) (hx : x ≤ 1099511627776) (hl : f ≤ 1099511627776) : setE 0 [] x f = 0 := by
  unfold setE
  rw [if_neg (by omega), if_neg (by omega), if_neg (by simp)]
theorem first_setS (x f : Nat) (hx : x ≤ 1099511627776) (hl : f ≤ 1099511627776) : setS 0 [] x f = [(x, f)] := by
  unfold setS
  rw [if_pos (first_setE x f hx hl)]
  simp [without]

set_option maxHeartbeats 6400000 in
set_option maxRecDepth 100000 in
theorem walk (id : Int) (w0 : (Lit.int .i64 id).wf = true) (first : Int) (w1 : (Lit.int .i64 first).wf = true) (last : Int) (w2 : (Lit.int .i64 last).wf = true) (strike : Bool) (W : World) :
    Calls Try.prog 5 #[.int .i64 id, .int .i64 first, .int .i64 last, .bool strike] W fun e w' => e = .returned (.bool true) ∧ Below W.heap.size W w' := by
  obtain ⟨l0, u0⟩ := bounds_i64 w0
  obtain ⟨l1, u1⟩ := bounds_i64 w1
  obtain ⟨l2, u2⟩ := bounds_i64 w2
  clear w0 w1 w2
  go_enter Try.func5, Try.ntmps5
  by_cases q1 : id < 0
  · go_wp2_with fail
    refine (anchor_any W).mono ?_
    rintro e w1 ⟨rfl, hb1⟩
    have HB := Lib.hid hb1
    clear hb1
    go_wp2_with fail
    go_ret
    exact ⟨rfl, HB.out⟩
  · skip
    by_cases q2 : 1099511627776 < id
    · go_wp2_with fail
      refine (anchor_any W).mono ?_
      rintro e w1 ⟨rfl, hb1⟩
      have HB := Lib.hid hb1
      clear hb1
      go_wp2_with fail
      go_ret
      exact ⟨rfl, HB.out⟩
    · skip
      by_cases q3 : first < 0
      · go_wp2_with fail
        refine (anchor_any W).mono ?_
        rintro e w1 ⟨rfl, hb1⟩
        have HB := Lib.hid hb1
        clear hb1
        go_wp2_with fail
        go_ret
        exact ⟨rfl, HB.out⟩
      · skip
        by_cases q4 : 1099511627776 < first
        · go_wp2_with fail
          refine (anchor_any W).mono ?_
          rintro e w1 ⟨rfl, hb1⟩
          have HB := Lib.hid hb1
          clear hb1
          go_wp2_with fail
          go_ret
          exact ⟨rfl, HB.out⟩
        · skip
          by_cases q5 : last < 0
          · go_wp2_with fail
            refine (anchor_any W).mono ?_
            rintro e w1 ⟨rfl, hb1⟩
            have HB := Lib.hid hb1
            clear hb1
            go_wp2_with fail
            go_ret
            exact ⟨rfl, HB.out⟩
          · skip
            by_cases q6 : 1099511627776 < last
            · go_wp2_with fail
              refine (anchor_any W).mono ?_
              rintro e w1 ⟨rfl, hb1⟩
              have HB := Lib.hid hb1
              clear hb1
              go_wp2_with fail
              go_ret
              exact ⟨rfl, HB.out⟩
            · skip
              obtain ⟨x, rfl⟩ : ∃ x : Nat, id = x := ⟨id.toNat, by omega⟩
              obtain ⟨f, rfl⟩ : ∃ f : Nat, first = f := ⟨first.toNat, by omega⟩
              obtain ⟨l, rfl⟩ : ∃ l : Nat, last = l := ⟨last.toNat, by omega⟩
              go_wp2_with fail
              refine (anchor_any W).mono ?_
              rintro e w1 ⟨rfl, hb1⟩
              have HN := Lib.hid (one_new W w1 hb1)
              clear hb1
              go_wp2_with fail
              refine HN.out.mono ?_
              rintro e w2 ⟨g, rfl, O2⟩
              clear HN
              have hs1 := WOne.one_set O2 x f (by omega) (by omega)
              rw [first_setE x f (by omega) (by omega), first_setS x f (by omega) (by omega)] at hs1
              have HS1 := Lib.hid hs1
              clear hs1 O2
              go_wp2_with fail
              refine HS1.out.mono ?_
              rintro e w3 ⟨rfl, O3⟩
              have hs2 := WOne.one_set O3 x l (by omega) (by omega)
              rw [again_setE x f l (by omega) (by omega), again_setS x f l (by omega) (by omega)] at hs2
              have HS2 := Lib.hid hs2
              clear hs2 O3 HS1
              go_wp2_with fail
              refine HS2.out.mono ?_
              rintro e w4 ⟨rfl, O4⟩
              clear HS2
              have HL4 := Lib.hid (one_len O4)
              have HC4 := Lib.hid (one_cancel O4 x (by omega) (by omega))
              have HO4 := Lib.hid O4
              clear O4
              go_wp2_with fail
              refine HL4.out.mono ?_
              rintro e w' ⟨rfl, rfl⟩
              cases strike with
              | true =>
                go_wp2_with fail
                refine HC4.out.mono ?_
                rintro e w5 ⟨rfl, O5⟩
                have h1 : hasId [(x, l)] (x : Int) = true := by simp [hasId]
                have h2 : without [(x, l)] (x : Int) = [] := by simp [without]
                rw [h2] at O5
                rw [h1]
                have HC5 := Lib.hid (one_cancel O5 x (by omega) (by omega))
                clear O5 h1 h2 HC4 HL4 HO4
                go_wp2_with fail
                refine HC5.out.mono ?_
                rintro e w6 ⟨rfl, O6⟩
                have h1 : hasId [] (x : Int) = false := rfl
                have h2 : without [] (x : Int) = [] := rfl
                rw [h2] at O6
                rw [h1]
                have HL6 := Lib.hid (one_len O6)
                have HO6 := Lib.hid O6
                clear O6 h1 h2 HC5
                go_wp2_with fail
                refine HL6.out.mono ?_
                rintro e w' ⟨rfl, rfl⟩
                by_cases hl0 : 0 < l
                · have hli : (0 : Int) < (l : Int) := by omega
                  have hA := one_adv HO6.out ((l : Int) - 1)
                  have HA := Lib.hid hA
                  clear hA
                  go_wp2_with fail
                  refine HA.out.mono ?_
                  rintro e w7 (⟨h1, _⟩ | ⟨n, fv, X, h1, h2, h3, rfl, h4, _, ⟨p, cap, rfl, _⟩, O7⟩)
                  · omega
                  have hX : X = [] := by simpa using h4.eq_nil
                  subst hX
                  have O7' : WOne.One W w7 g n [] := O7
                  have HA2 := Lib.hid (one_adv O7' l)
                  clear O7 O7' HA HO6 h4 HL6
                  go_wp2_with fail
                  refine HA2.out.mono ?_
                  rintro e w8 (⟨h1', _⟩ | ⟨n', fv, X, h1', h2', h3', rfl, h4, _, ⟨p, cap, rfl, _⟩, O8⟩)
                  · omega
                  have hX : X = [] := by simpa using h4.eq_nil
                  subst hX
                  have HB := Lib.hid O8.below
                  clear O8 HA2 h4
                  go_wp2_with fail
                  refine wp_loop_rounds 1 ?_
                  rw [rounds_succ]
                  go_wp2_with fail
                  go_ret
                  exact ⟨rfl, HB.out⟩
                · have hli : ¬ ((0 : Int) < (l : Int)) := by omega
                  have HA2 := Lib.hid (one_adv HO6.out l)
                  clear HO6 HL6
                  go_wp2_with fail
                  refine HA2.out.mono ?_
                  rintro e w8 (⟨h1', _⟩ | ⟨n', fv, X, h1', h2', h3', rfl, h4, _, ⟨p, cap, rfl, _⟩, O8⟩)
                  · omega
                  have hX : X = [] := by simpa using h4.eq_nil
                  subst hX
                  have HB := Lib.hid O8.below
                  clear O8 HA2 h4
                  go_wp2_with fail
                  refine wp_loop_rounds 1 ?_
                  rw [rounds_succ]
                  go_wp2_with fail
                  go_ret
                  exact ⟨rfl, HB.out⟩
              | false =>
                clear HC4 HL4
                by_cases hl0 : 0 < l
                · have hli : (0 : Int) < (l : Int) := by omega
                  have hA := one_adv HO4.out ((l : Int) - 1)
                  have HA := Lib.hid hA
                  clear hA HO4
                  go_wp2_with fail
                  refine HA.out.mono ?_
                  rintro e w7 (⟨h1, _⟩ | ⟨n, fv, X, h1, h2, h3, rfl, h4, _, ⟨p, cap, rfl, _⟩, O7⟩)
                  · omega
                  have hln : n < l := by omega
                  have e1 : ([(x, l)] : List Tm).filter (isDue n) = [] := by simp [isDue, isLate, hln]
                  have e2 : ([(x, l)] : List Tm).filter (isLate n) = [(x, l)] := by simp [isLate, hln]
                  rw [e1] at h4
                  rw [e2] at O7
                  have hX : X = [] := by simpa using h4.eq_nil
                  subst hX
                  have HA2 := Lib.hid (one_adv O7 l)
                  clear O7 HA h4 e1 e2
                  go_wp2_with fail
                  refine HA2.out.mono ?_
                  rintro e w8 (⟨h1', _⟩ | ⟨n', fv, X, h1', h2', h3', rfl, h4, _, hls, O8⟩)
                  · omega
                  have hnl : n' = l := by omega
                  subst hnl
                  have e1 : ([(x, n')] : List Tm).filter (isDue n') = [(x, n')] := by simp [isDue, isLate]
                  rw [e1] at h4
                  have hX : X = [(x, n')] := List.perm_singleton.1 h4
                  subst hX
                  obtain ⟨p, cap, rfl, hp⟩ := hls
                  obtain ⟨b, rfl, hr, hbl⟩ := hp (by simp)
                  obtain ⟨c0, c1⟩ := hr 0 (x, n') rfl
                  have HB := Lib.hid O8.below
                  clear O8 HA2 h4 e1 hr hp
                  go_wp2_with fail
                  refine wp_loop_rounds 2 ?_
                  rw [rounds_succ]
                  go_wp2_with fail
                  rw [rounds_succ]
                  go_wp2_with fail
                  go_ret
                  exact ⟨rfl, HB.out.alloc HB.out.size _⟩
                · have hli : ¬ ((0 : Int) < (l : Int)) := by omega
                  have HA2 := Lib.hid (one_adv HO4.out l)
                  clear HO4
                  go_wp2_with fail
                  refine HA2.out.mono ?_
                  rintro e w8 (⟨h1', _⟩ | ⟨n', fv, X, h1', h2', h3', rfl, h4, _, hls, O8⟩)
                  · omega
                  have hnl : n' = l := by omega
                  subst hnl
                  have e1 : ([(x, n')] : List Tm).filter (isDue n') = [(x, n')] := by simp [isDue, isLate]
                  rw [e1] at h4
                  have hX : X = [(x, n')] := List.perm_singleton.1 h4
                  subst hX
                  obtain ⟨p, cap, rfl, hp⟩ := hls
                  obtain ⟨b, rfl, hr, hbl⟩ := hp (by simp)
                  obtain ⟨c0, c1⟩ := hr 0 (x, n') rfl
                  have HB := Lib.hid O8.below
                  clear O8 HA2 h4 e1 hr hp
                  go_wp2_with fail
                  refine wp_loop_rounds 2 ?_
                  rw [rounds_succ]
                  go_wp2_with fail
                  rw [rounds_succ]
                  go_wp2_with fail
                  go_ret
                  exact ⟨rfl, HB.out.alloc HB.out.size _⟩

/-! ### the row's step -/
set_option maxRecDepth 100000 in
theorem lifted (os : Os) (started : os.Started) (H : Type) (enc : TypeId × Value → H) :
    ReturnsInHanded {} Try.checked os 5 .any (Rows.wheelAgainSpec.pre6 enc Try.prog Try.f5 Rows.wheelAgainRow.domain false) (Rows.wheelAgainSpec.post enc Try.prog Try.f5 false true false false) := by
  refine returnsInHanded_of_change_sized (C := Try.checked) LawBase.own started (by kernel_rfl) Try.func5
    (ChangeSpec.witness6 (enc := enc) (C := Try.checked) false ⟨#[], #[.int .i64 0, .int .i64 0, .int .i64 0, .bool false], []⟩ 8 (by kernel_rfl) (by kernel_rfl) (by kernel_rfl) (by kernel_rfl)) ?_
  intro W base args ds gs before hval0 hW hcnd hsz0 _
  have hval : ∀ (j : Nat) t v, Try.f5.params[j]? = some t → args[j]? = some v → Value.okWide Try.prog W .any base t v := hval0
  have hW' := hW
  obtain ⟨p, q, hA0, hV, rfl, hfz, hnd⟩ := hW
  have hA : DataW.TrodAll enc Try.prog W 0 (fun _ => true) true Try.f5.params.toList args.toList ds p := hA0
  rw [Try.params5] at hA hval
  have hlt : ∀ x ∈ p ++ q, x.block < W.heap.size := fun x hx => by simpa using hW'.lt x hx
  obtain ⟨v0, vs0, d0, ds0, p0, q0, hargs, rfl, rfl, h0, r0⟩ := trodAll_cons hA
  obtain ⟨v1, vs1, d1, ds1, p1, q1, rfl, rfl, rfl, h1, r1⟩ := trodAll_cons r0
  obtain ⟨v2, vs2, d2, ds2, p2, q2, rfl, rfl, rfl, h2, r2⟩ := trodAll_cons r1
  obtain ⟨v3, vs3, d3, ds3, p3, q3, rfl, rfl, rfl, h3, r3⟩ := trodAll_cons r2
  obtain ⟨rfl, rfl, rfl⟩ := trodAll_nil r3
  obtain rfl : args = #[v0, v1, v2, v3] := by cases args; simp_all
  obtain ⟨rfl, rfl⟩ := trodVars_none hV
  obtain ⟨a0, rfl, rfl, rfl, w0⟩ := open_int Try.underlying3 (hval 0 3 v0 rfl rfl) h0
  obtain ⟨a1, rfl, rfl, rfl, w1⟩ := open_int Try.underlying3 (hval 1 3 v1 rfl rfl) h1
  obtain ⟨a2, rfl, rfl, rfl, w2⟩ := open_int Try.underlying3 (hval 2 3 v2 rfl rfl) h2
  obtain ⟨a3, rfl, rfl, rfl⟩ := open_bool Try.underlying4 (hval 3 4 v3 rfl rfl) h3
  refine (walk a0 w0 a1 w1 a2 w2 a3 W).mono fun e W' ⟨he, hb⟩ => ?_
  subst he
  exact ⟨_, rfl, LawKit.law_post LawBase.laidOut (by kernel_rfl) hW' rfl rfl (by kernel_rfl) Try.underlying4 hb⟩

theorem over : Rows.wheelAgainRow.holds Try.pinned (OpenSpec.ofChange Rows.wheelAgainSpec) :=
  OpenClaim.holds_of_wide 5 Try.f5 rfl rfl rfl rfl rfl rfl rfl ⟨rfl, rfl, rfl, rfl, rfl⟩ rfl rfl rfl rfl rfl (by kernel_rfl) Try.func5 (by kernel_rfl)
    (of_decide_eq_true (by kernel_rfl)) (by unfold Func.isWrapper; first | (rw [if_pos (by decide +kernel)]; kernel_rfl) | (rw [if_neg (by decide +kernel)]; exact ⟨rfl, rfl⟩))
    (fun os started H enc _ => lifted os started H enc)

/-- THE STATEMENT -/
theorem proved : Rows.WheelAgainSaid :=
  over

end Go.Proofs.Ytcobjejaflikjaa.WheelAgainP
