/- For every integer at: WheelFull returns true. No condition. -/
import Derived.Test.YtcobjejaflikjaaWheelOne
import Derived.Test.YtcobjejaflikjaaLawBase
namespace Go.Proofs.Ytcobjejaflikjaa.WheelFullP
open Go.ChangeShapes Go.WideShapes Go.ChangeAt Go.RowKit Go.Maps WMath Mem Step WObj WOrd WMm WOps WSet WMin WSort WAdv WOne

/-- the first i timers that are set -/
def fullS (a : Nat) : Nat → List Tm
  | 0 => []
  | i + 1 => (i, a + i % 97) :: fullS a i
theorem fullS_len (a : Nat) : ∀ i, (fullS a i).length = i
  | 0 => rfl
  | i + 1 => by simp [fullS, fullS_len a i]
theorem fullS_mem (a : Nat) : ∀ i (t : Tm), t ∈ fullS a i ↔ t.1 < i ∧ t.2 = a + t.1 % 97
  | 0, t => by simp [fullS]
  | i + 1, t => by
    rw [fullS, List.mem_cons, fullS_mem a i t]
    constructor
    · rintro (rfl | ⟨h1, h2⟩)
      · exact ⟨by simp, rfl⟩
      · exact ⟨by omega, h2⟩
    · rintro ⟨h1, h2⟩
      by_cases e : t.1 = i
      · exact .inl (Prod.ext e (by rw [h2, e]))
      · exact .inr ⟨by omega, h2⟩
theorem fullS_no (a i : Nat) (x : Int) (hx : (i : Int) ≤ x) : hasId (fullS a i) x = false := by
  simp only [hasId, List.any_eq_false, beq_iff_eq]
  intro t ht
  have := ((fullS_mem a i t).1 ht).1
  omega
theorem tm97 (k : Nat) : (k : Int).tmod 97 = ((k % 97 : Nat) : Int) := by norm_cast
theorem full_setE (a i : Nat) (ha : a ≤ 549755813888) (hi : i < 4096) : setE 0 (fullS a i) i ((a : Int) + (i : Int).tmod 97) = 0 := by
  have := tm97 i
  have := Nat.mod_lt i (show 0 < 97 by omega)
  unfold setE
  rw [if_neg (by omega), if_neg (by omega), if_neg (by rw [fullS_len]; omega)]
theorem full_setS (a i : Nat) (ha : a ≤ 549755813888) (hi : i < 4096) : setS 0 (fullS a i) i ((a : Int) + (i : Int).tmod 97) = fullS a (i + 1) := by
  unfold setS
  rw [if_pos (full_setE a i ha hi), without_no]
  · rw [fullS, tm97, show ((a : Int) + ((i % 97 : Nat) : Int)).toNat = a + i % 97 by omega]
    rfl
  · intro t ht
    have := ((fullS_mem a i t).1 ht).1
    omega
theorem full_more (a : Nat) (ha : a ≤ 549755813888) : setE 0 (fullS a 4096) 4096 a = 22 := by
  unfold setE
  rw [if_neg (by omega), if_neg (by omega), if_pos ⟨fullS_no a 4096 4096 (by omega), by rw [fullS_len]; omega⟩]
theorem full_moreS (a : Nat) (ha : a ≤ 549755813888) : setS 0 (fullS a 4096) 4096 a = fullS a 4096 := by
  unfold setS
  rw [if_neg (by rw [full_more a ha]; decide)]
theorem full_seven (a : Nat) (ha : a ≤ 549755813888) : setE 0 (fullS a 4096) 7 a = 0 := by
  have h : hasId (fullS a 4096) 7 = true := by
    simp only [hasId, List.any_eq_true, beq_iff_eq]
    exact ⟨(7, a + 7 % 97), (fullS_mem a 4096 _).2 ⟨by simp, rfl⟩, rfl⟩
  unfold setE
  rw [if_neg (by omega), if_neg (by omega), if_neg (by rw [h]; simp)]
def sevenS (a : Nat) : List Tm := (7, a) :: without (fullS a 4096) 7
theorem full_sevenS (a : Nat) (ha : a ≤ 549755813888) : setS 0 (fullS a 4096) 7 a = sevenS a := by
  unfold setS
  rw [if_pos (full_seven a ha)]
  rfl
theorem full_nodup (a : Nat) : ∀ i, ((fullS a i).map Prod.fst).Nodup
  | 0 => by simp [fullS]
  | i + 1 => by
    rw [fullS, List.map_cons, List.nodup_cons]
    refine ⟨fun h => ?_, full_nodup a i⟩
    rw [List.mem_map] at h
    obtain ⟨t, ht, e⟩ := h
    have := ((fullS_mem a i t).1 ht).1
    simp only at e
    omega
theorem seven_len (a : Nat) : (sevenS a).length = 4096 := by
  have h := without_len (full_nodup a 4096) (t := (7, a + 7 % 97)) ((fullS_mem a 4096 _).2 ⟨by simp, rfl⟩)
  rw [fullS_len] at h
  simp only [sevenS, List.length_cons]
  exact h
theorem seven_mem (a : Nat) (t : Tm) : t ∈ sevenS a ↔ t = (7, a) ∨ (t.1 < 4096 ∧ t.2 = a + t.1 % 97 ∧ t.1 ≠ 7) := by
  rw [sevenS, List.mem_cons, mem_without, fullS_mem]
  constructor
  · rintro (h | ⟨⟨h1, h2⟩, h3⟩)
    · exact .inl h
    · exact .inr ⟨h1, h2, by omega⟩
  · rintro (h | ⟨h1, h2, h3⟩)
    · exact .inl h
    · exact .inr ⟨⟨h1, h2⟩, by omega⟩
theorem seven_bad (a : Nat) (x : Int) : setE 0 (sevenS a) (-1) x = 21 := by
  unfold setE
  rw [if_pos (.inl (by decide))]
theorem seven_badS (a : Nat) (x : Int) : setS 0 (sevenS a) (-1) x = sevenS a := by
  unfold setS
  rw [if_neg (by rw [seven_bad]; decide)]
theorem seven_due (a : Nat) : (sevenS a).filter (isDue (a + 96)) = sevenS a := by
  rw [List.filter_eq_self]
  intro t ht
  rcases (seven_mem a t).1 ht with rfl | ⟨_, h, _⟩
  · simp [isDue, isLate]
  · have := Nat.mod_lt t.1 (show 0 < 97 by omega)
    simp [isDue, isLate]; omega
/-- of a list in its order the first is the one that is ahead of all others -/
theorem rising_first {X : List Tm} {y : Tm} (hR : Rising X) (hy : y ∈ X) (hf : ∀ z ∈ X, z = y ∨ ltT y z) : ∃ Z, X = y :: Z ∧ Rising Z ∧ ∀ z, z ∈ Z ↔ z ∈ X ∧ z ≠ y := by
  cases X with
  | nil => cases hy
  | cons x Z =>
    have hxy : x = y := by
      rcases hf x (by simp) with h | h
      · exact h
      · rcases List.mem_cons.1 hy with h' | h'
        · exact h'.symm
        · exact absurd (ltT_trans h ((List.pairwise_cons.1 hR).1 y h')) (ltT_irrefl y)
    subst hxy
    refine ⟨Z, rfl, (List.pairwise_cons.1 hR).2, fun z => ⟨fun hz => ⟨by simp [hz], fun e => ?_⟩, fun ⟨hz, hne⟩ => ?_⟩⟩
    · subst e
      exact ltT_irrefl z ((List.pairwise_cons.1 hR).1 z hz)
    · rcases List.mem_cons.1 hz with h | h
      · exact absurd h hne
      · exact h
theorem seven_two (a : Nat) {X : List Tm} (hp : X.Perm (sevenS a)) (hR : Rising X) : X[0]? = some (0, a) ∧ X[1]? = some (7, a) := by
  have hm : ∀ t, t ∈ X ↔ t ∈ sevenS a := fun t => hp.mem_iff
  obtain ⟨Z, rfl, hZ, hzm⟩ := rising_first hR (y := (0, a)) ((hm _).2 ((seven_mem a _).2 (.inr ⟨by simp, by simp, by simp⟩))) (fun z hz => by
    rcases (seven_mem a z).1 ((hm z).1 hz) with rfl | ⟨h1, h2, h3⟩
    · exact .inr (by simp [ltT])
    · by_cases e : z.1 = 0
      · exact .inl (Prod.ext e (by rw [h2, e]; rfl))
      · exact .inr (by simp only [ltT]; omega))
  obtain ⟨Y, rfl, _, _⟩ := rising_first hZ (y := (7, a)) ((hzm _).2 ⟨(hm _).2 ((seven_mem a _).2 (.inl rfl)), by simp⟩) (fun z hz => by
    obtain ⟨hz1, hz2⟩ := (hzm z).1 hz
    rcases (seven_mem a z).1 ((hm z).1 hz1) with rfl | ⟨h1, h2, h3⟩
    · exact .inl rfl
    · refine .inr ?_
      simp only [ltT]
      by_cases e : z.1 % 97 = 0
      · refine .inr ⟨by omega, ?_⟩
        by_cases e0 : z.1 = 0
        · exact absurd (Prod.ext e0 (by rw [h2, e0]; rfl)) hz2
        · omega
      · exact .inl (by omega))
  exact ⟨rfl, rfl⟩

set_option maxHeartbeats 6400000 in
set_option maxRecDepth 100000 in
theorem walk (at_ : Int) (w0 : (Lit.int .i64 at_).wf = true) (W : World) :
    Calls Try.prog 6 #[.int .i64 at_] W fun e w' => e = .returned (.bool true) ∧ Below W.heap.size W w' := by
  obtain ⟨l0, u0⟩ := bounds_i64 w0
  clear w0
  go_enter Try.func6, Try.ntmps6
  go_wp2_with fail
  refine (anchor_any W).mono ?_
  rintro e w1 ⟨rfl, hb1⟩
  have HN := Lib.hid (one_new W w1 hb1)
  clear hb1
  go_wp2_with fail
  refine HN.out.mono ?_
  rintro e w2 ⟨g, rfl, O2⟩
  clear HN
  by_cases q1 : at_ < 0
  · have e1 : setE 0 [] 1 at_ = 20 := by unfold setE; rw [if_neg (by omega), if_pos (.inl (by omega))]
    have hs := WOne.one_set O2 1 at_ (by omega) (by omega)
    rw [e1] at hs
    have HS := Lib.hid hs
    clear hs e1 O2
    go_wp2_with fail
    refine HS.out.mono ?_
    rintro e w3 ⟨rfl, O3⟩
    have HB := Lib.hid O3.below
    clear O3
    go_wp2_with fail
    go_ret
    exact ⟨rfl, HB.out⟩
  · by_cases q2 : 549755813888 < at_
    · by_cases q3 : 1099511627776 < at_
      · have e1 : setE 0 [] 1 at_ = 20 := by unfold setE; rw [if_neg (by omega), if_pos (.inr (by omega))]
        have hs := WOne.one_set O2 1 at_ (by omega) (by omega)
        rw [e1] at hs
        have HS := Lib.hid hs
        clear hs e1 O2
        go_wp2_with fail
        refine HS.out.mono ?_
        rintro e w3 ⟨rfl, O3⟩
        have HB := Lib.hid O3.below
        clear O3
        go_wp2_with fail
        go_ret
        exact ⟨rfl, HB.out⟩
      · have e1 : setE 0 [] 1 at_ = 0 := by unfold setE; rw [if_neg (by omega), if_neg (by omega), if_neg (by simp)]
        have hs := WOne.one_set O2 1 at_ (by omega) (by omega)
        rw [e1] at hs
        have HS := Lib.hid hs
        clear hs e1 O2
        go_wp2_with fail
        refine HS.out.mono ?_
        rintro e w3 ⟨rfl, O3⟩
        have HB := Lib.hid O3.below
        clear O3
        go_wp2_with fail
        go_ret
        exact ⟨rfl, HB.out⟩
    · obtain ⟨a, rfl⟩ : ∃ a : Nat, at_ = a := ⟨at_.toNat, by omega⟩
      have ha : a ≤ 549755813888 := by omega
      have O2' := Lib.hid O2
      clear O2
      go_wp2_with fail
      go_loopw [4] (fun i wr => ∃ k : Nat, k ≤ 4096 ∧ i = .int .i64 k ∧ Hid (WOne.One W wr g 0 (fullS a k))) (fun i _ => 4096 - (intOf i).toNat)
      case atStart => exact ⟨0, Nat.zero_le _, rfl, O2'⟩
      case round =>
        obtain ⟨k, hk, rfl, HO⟩ := hrel
        clear O2'
        by_cases hlt : k < 4096
        · have hki : (k : Int) < 4096 := by omega
          have hs := WOne.one_set HO.out k ((a : Int) + (k : Int).tmod 97) (by omega) (by omega)
          rw [full_setE a k ha hlt, full_setS a k ha hlt] at hs
          have HS := Lib.hid hs
          have hw : -9223372036854775808 ≤ (a : Int) + (k : Int).tmod 97 ∧ (a : Int) + (k : Int).tmod 97 ≤ 9223372036854775807 := by
            have := tm97 k
            have := Nat.mod_lt k (show 0 < 97 by omega)
            omega
          obtain ⟨hw1, hw2⟩ := hw
          clear hs
          go_wp2_with fail
          refine HS.out.mono ?_
          rintro e w3 ⟨rfl, O3⟩
          have HO3 := Lib.hid O3
          clear O3
          go_wp2_with fail
          exact ⟨⟨k + 1, by omega, by go_num, HO3⟩, by simp [intOf]; omega⟩
        · have hk4 : k = 4096 := by omega
          subst hk4
          have hs := WOne.one_set HO.out 4096 a (by omega) (by omega)
          rw [full_more a ha, full_moreS a ha] at hs
          have HS := Lib.hid hs
          clear hs HO
          go_wp2_with fail
          refine HS.out.mono ?_
          rintro e w3 ⟨rfl, O3⟩
          have hs := WOne.one_set O3 7 a (by omega) (by omega)
          rw [full_seven a ha, full_sevenS a ha] at hs
          have HS2 := Lib.hid hs
          clear hs O3 HS
          go_wp2_with fail
          refine HS2.out.mono ?_
          rintro e w4 ⟨rfl, O4⟩
          have hl := one_len O4
          rw [seven_len] at hl
          have HL := Lib.hid hl
          have hs := WOne.one_set O4 (-1) a (by omega) (by omega)
          rw [seven_bad, seven_badS] at hs
          have HS3 := Lib.hid hs
          clear hs hl O4 HS2
          go_wp2_with fail
          refine HL.out.mono ?_
          rintro e w' ⟨rfl, rfl⟩
          go_wp2_with fail
          refine HS3.out.mono ?_
          rintro e w5 ⟨rfl, O5⟩
          have HA := Lib.hid (one_adv O5 ((a : Int) + 96))
          clear O5 HS3 HL
          go_wp2_with fail
          refine HA.out.mono ?_
          rintro e w6 (⟨h1, _⟩ | ⟨n, fv, X, h1, h2, h3, rfl, h4, h5, ⟨p, cap, rfl, hp⟩, O6⟩)
          · omega
          have hn : n = a + 96 := by omega
          subst hn
          rw [seven_due] at h4
          have hXl : X.length = 4096 := by rw [h4.length_eq, seven_len]
          obtain ⟨x0, x1⟩ := seven_two a h4 h5
          obtain ⟨b, rfl, hr, hbl⟩ := hp (by omega)
          obtain ⟨c0, _⟩ := hr 0 _ x0
          obtain ⟨c1, _⟩ := hr 1 _ x1
          have e5 : ∀ S', setE (a + 96) S' 5 a = 20 := fun S' => by unfold setE; rw [if_neg (by omega), if_pos (.inl (by omega))]
          have hs := WOne.one_set O6 5 a (by omega) (by omega)
          rw [e5] at hs
          have HS4 := Lib.hid hs
          rw [hXl]
          clear hs O6 HA h4 h5 hr hp x0 x1 hXl e5
          go_wp2_with fail
          refine HS4.out.mono ?_
          rintro e w7 ⟨rfl, O7⟩
          have HB := Lib.hid O7.below
          clear O7 HS4
          go_wp2_with fail
          go_ret
          exact ⟨rfl, HB.out⟩

/-! ### the row's step -/
set_option maxRecDepth 100000 in
theorem lifted (os : Os) (started : os.Started) (H : Type) (enc : TypeId × Value → H) :
    ReturnsInHanded {} Try.checked os 6 .any (Rows.wheelFullSpec.pre6 enc Try.prog Try.f6 Rows.wheelFullRow.domain false) (Rows.wheelFullSpec.post enc Try.prog Try.f6 false true false false) := by
  refine returnsInHanded_of_change_sized (C := Try.checked) LawBase.own started (by kernel_rfl) Try.func6
    (ChangeSpec.witness6 (enc := enc) (C := Try.checked) false ⟨#[], #[.int .i64 0], []⟩ 8 (by kernel_rfl) (by kernel_rfl) (by kernel_rfl) (by kernel_rfl)) ?_
  intro W base args ds gs before hval0 hW hcnd hsz0 _
  have hval : ∀ (j : Nat) t v, Try.f6.params[j]? = some t → args[j]? = some v → Value.okWide Try.prog W .any base t v := hval0
  have hW' := hW
  obtain ⟨p, q, hA0, hV, rfl, hfz, hnd⟩ := hW
  have hA : DataW.TrodAll enc Try.prog W 0 (fun _ => true) true Try.f6.params.toList args.toList ds p := hA0
  rw [Try.params6] at hA hval
  have hlt : ∀ x ∈ p ++ q, x.block < W.heap.size := fun x hx => by simpa using hW'.lt x hx
  obtain ⟨v0, vs0, d0, ds0, p0, q0, hargs, rfl, rfl, h0, r0⟩ := trodAll_cons hA
  obtain ⟨rfl, rfl, rfl⟩ := trodAll_nil r0
  obtain rfl : args = #[v0] := by cases args; simp_all
  obtain ⟨rfl, rfl⟩ := trodVars_none hV
  obtain ⟨a0, rfl, rfl, rfl, w0⟩ := open_int Try.underlying3 (hval 0 3 v0 rfl rfl) h0
  refine (walk a0 w0 W).mono fun e W' ⟨he, hb⟩ => ?_
  subst he
  exact ⟨_, rfl, LawKit.law_post LawBase.laidOut (by kernel_rfl) hW' rfl rfl (by kernel_rfl) Try.underlying4 hb⟩

theorem over : Rows.wheelFullRow.holds Try.pinned (OpenSpec.ofChange Rows.wheelFullSpec) :=
  OpenClaim.holds_of_wide 6 Try.f6 rfl rfl rfl rfl rfl rfl rfl ⟨rfl, rfl, rfl, rfl, rfl⟩ rfl rfl rfl rfl rfl (by kernel_rfl) Try.func6 (by kernel_rfl)
    (of_decide_eq_true (by kernel_rfl)) (by unfold Func.isWrapper; first | (rw [if_pos (by decide +kernel)]; kernel_rfl) | (rw [if_neg (by decide +kernel)]; exact ⟨rfl, rfl⟩))
    (fun os started H enc _ => lifted os started H enc)

/-- THE STATEMENT -/
theorem proved : Rows.WheelFullSaid :=
  over

end Go.Proofs.Ytcobjejaflikjaa.WheelFullP
