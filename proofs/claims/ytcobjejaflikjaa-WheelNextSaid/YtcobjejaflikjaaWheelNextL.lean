/- For every list of integers: WheelNext returns true. No condition. -/
import Derived.Test.YtcobjejaflikjaaWheelOneF
import Derived.Test.YtcobjejaflikjaaLawBase
import Derived.Test.YtcobjejaflikjaaRead
namespace Go.Proofs.Ytcobjejaflikjaa.WheelNextP
open Go.ChangeShapes Go.WideShapes Go.ChangeAt Go.RowKit Go.Maps WMath Mem Step WObj WOrd WMm WOps WSet WMin WSort WAdv WOne WOneF Rdg

/-- numbers asked for lie where the list points -/
def Ints (w : World) (A : Option Addr) (n : Nat) : Prop :=
  0 < n → ∃ b o : Nat, A = some ⟨b, o, none⟩ ∧ b < w.heap.size ∧ ∀ i, i < n → ∃ x : Int, w.cell? ⟨b, o + i, none⟩ = some (.int .i64 x) ∧ -9223372036854775808 ≤ x ∧ x ≤ 9223372036854775807
theorem ints_read {H : Type} {enc : TypeId × Value → H} {w : World} {base : Nat} {v : Value} {d : DataW H} {p : List MemPlace} (hv : Value.okWide Try.prog w .any base 34 v) (h : DataW.Trod enc Try.prog w 0 (fun _ => true) true 34 v d p) :
    ∃ A n c, v = .slice A n c ∧ n ≤ maxLen ∧ Ints w A n := by
  have hC : Try.prog.cellsOf 3 = 1 := by kernel_rfl
  obtain ⟨A, n, c, rfl⟩ := okWide_slice Try.underlying34 hv
  obtain ⟨A', n', c', D, S, h1, h2, h3, h4, h5⟩ := (rd_of h).slice Try.underlying34 (by rw [hC]; decide)
  simp only [Value.cells, List.cons.injEq, and_true, Value.slice.injEq] at h1
  obtain ⟨rfl, rfl, rfl⟩ := h1
  refine ⟨_, _, _, rfl, Nat.le_trans h2 h3, fun hn => ?_⟩
  obtain ⟨b, o, rfl, hb, h5⟩ := h5 hn
  refine ⟨b, o, rfl, hb, fun i hi => ?_⟩
  obtain ⟨xs, di, _, hl, hc, hr⟩ := h5 i hi
  obtain ⟨x, e0, _, wx⟩ := hr.int Try.underlying3
  subst e0
  have c0 := hc 0 _ rfl
  rw [hC] at c0
  exact ⟨x, by simpa using c0, (bounds_i64 wx).1, (bounds_i64 wx).2⟩

/-- the timers set so far -/
def Set1 (W : World) (g : Nat) (k : Nat) (cnt : Value) (w : World) : Prop :=
  ∃ S, WOne.One W w g 0 S ∧ cnt = .int .i64 (S.length : Nat) ∧ (∀ t ∈ S, t.1 < k) ∧ S.length ≤ 2000 ∧ S.length ≤ k
theorem set1_next {S : List Tm} {k : Nat} (hS : ∀ t ∈ S, t.1 < k) : without S (k : Int) = S := without_no (fun t ht e => by have := hS t ht; omega)
theorem first_of_len {m : Tm} {S : List Tm} (h : FirstOf m S) : (without S (m.1 : Int)).length + 1 ≤ S.length := by
  have : (without S (m.1 : Int)).length < S.length := by
    unfold without
    exact List.length_filter_lt_length_iff_exists.2 ⟨m, h.1, by simp⟩
  omega

set_option maxHeartbeats 6400000 in
set_option maxRecDepth 100000 in
theorem walk {H : Type} {enc : TypeId × Value → H} {base : Nat} (v0 : Value) (d0 : DataW H) (p0 : List MemPlace) {W : World} (k0 : Value.okWide Try.prog W .any base 34 v0)
    (h0 : DataW.Trod enc Try.prog W 0 (fun _ => true) true 34 v0 d0 p0) (_l0 : ∀ x ∈ p0, x.block < W.heap.size) :
    Calls Try.prog 8 #[v0] W fun e w' => e = .returned (.bool true) ∧ Below W.heap.size W w' := by
  obtain ⟨A, n, c, rfl, hn, hI⟩ := ints_read k0 h0
  unfold maxLen at hn
  clear k0 h0
  go_enter Try.func8, Try.ntmps8
  go_wp2_with fail
  refine (anchor_any W).mono ?_
  rintro e w1 ⟨rfl, hb1⟩
  have HN := Lib.hid (one_new W w1 hb1)
  clear hb1
  go_wp2_with fail
  refine HN.out.mono ?_
  rintro e w2 ⟨g, rfl, O2⟩
  clear HN
  have I0 : Hid (Set1 W g 0 (.int .i64 0) w2) := Lib.hid ⟨[], O2, rfl, (fun t ht => by simp at ht), by simp, by simp⟩
  clear O2
  have HI := Lib.hid hI
  clear hI
  go_wp2_with fail
  go_loopw [4, 22] (fun cnt i wr => ∃ k : Nat, k ≤ n ∧ i = .int .i64 k ∧ Hid (Set1 W g k cnt wr)) (fun _ i _ => n - (intOf i).toNat)
  case atStart => exact ⟨0, Nat.zero_le _, rfl, I0⟩
  case round =>
    obtain ⟨k, hk, rfl, HS⟩ := hrel
    clear I0
    obtain ⟨S, O, rfl, hS1, hS2, hS3⟩ := HS.out
    clear HS
    by_cases hlt : k < n
    · have hki : (k : Int) < (n : Int) := by omega
      obtain ⟨b, o, rfl, hb, hc⟩ := HI.out (by omega)
      obtain ⟨x, c0, x1, x2⟩ := hc k hlt
      have c0 := (O.below.cell (p := ⟨b, o + k, none⟩) hb).trans c0
      by_cases h2 : k < 2000
      · have h2i : (k : Int) < 2000 := by omega
        have HSE := Lib.hid (WOne.one_set O k x (by omega) (by omega))
        by_cases hE : setE 0 S k x = 0
        · have e2 : setS 0 S k x = (k, x.toNat) :: S := by unfold setS; rw [if_pos hE, set1_next hS1]; rfl
          have hs := HSE.out
          rw [hE, e2] at hs
          have HS := Lib.hid hs
          have H1 := Lib.hid hS1
          clear hs HSE hE e2 O hS1 hc
          go_wp2_with fail
          refine HS.out.mono ?_
          rintro e w3 ⟨rfl, O3⟩
          have HO3 := Lib.hid O3
          clear O3 c0 HS
          go_wp2_with fail
          exact ⟨⟨k + 1, by omega, by go_num, Lib.hid ⟨_, HO3.out, by go_num, fun t ht => by
            rcases List.mem_cons.1 ht with rfl | ht
            · exact Nat.lt_succ_self _
            · have := H1.out t ht; omega, by simp; omega, by simp; omega⟩⟩, by simp [intOf]; omega⟩
        · have e2 : setS 0 S k x = S := by unfold setS; rw [if_neg hE]
          have hs := HSE.out
          rw [e2] at hs
          have hq : (setE 0 S k x == 0) = false := by simpa using hE
          generalize setE 0 S k x = r at hs hq
          have HS := Lib.hid hs
          have H1 := Lib.hid hS1
          clear hs HSE hE e2 O hS1 hc
          go_wp2_with fail
          refine HS.out.mono ?_
          rintro e w3 ⟨rfl, O3⟩
          have HO3 := Lib.hid O3
          clear O3 c0 HS
          go_wp2_with fail
          exact ⟨⟨k + 1, by omega, by go_num, Lib.hid ⟨S, HO3.out, rfl, fun t ht => by have := H1.out t ht; omega, hS2, by omega⟩⟩, by simp [intOf]; omega⟩
      · have h2i : ¬ ((k : Int) < 2000) := by omega
        have HO := Lib.hid O
        have H1 := Lib.hid hS1
        clear O hS1 hc
        go_wp2_with fail
        exact ⟨⟨k + 1, by omega, by go_num, Lib.hid ⟨S, HO.out, rfl, fun t ht => by have := H1.out t ht; omega, hS2, by omega⟩⟩, by simp [intOf]; omega⟩
    · have hkn : ¬ ((k : Int) < (n : Int)) := by omega
      have I1 : Hid (∃ S nw, WOne.One W wr g nw S ∧ Value.int .i64 ((S.length : Nat) : Int) = .int .i64 (S.length : Nat) ∧ S.length ≤ 2000) := Lib.hid ⟨S, 0, O, rfl, hS2⟩
      have I2 : Hid (WOne.One W wr g 0 S) := Lib.hid O
      clear O hS1 I1
      go_wp2_with fail
      clear hkn hk
      go_loopw [4] (fun cnt wr => ∃ (S : List Tm) (nw : Nat), cnt = .int .i64 (S.length : Nat) ∧ S.length ≤ 2000 ∧ Hid (WOne.One W wr g nw S)) (fun cnt _ => (intOf cnt).toNat)
      case atStart => exact ⟨S, 0, rfl, hS2, I2⟩
      case round =>
        obtain ⟨S, nw, rfl, hS2, HO⟩ := hrel
        clear I2
        by_cases h0 : 0 < S.length
        · have h0i : (0 : Int) < ((S.length : Nat) : Int) := by omega
          obtain ⟨F, HOF⟩ := HO.out
          have HX := Lib.hid (f_next (show OneF W wr g nw S F from HOF))
          clear HO HOF
          go_wp2_with fail
          refine HX.out.mono ?_
          rintro e w3 ⟨⟨m, hm, rfl⟩ | ⟨hS0, _⟩, O3, _⟩
          rotate_left
          · rw [hS0] at h0; simp at h0
          clear HX
          obtain ⟨hnw, hbd, hnd, _⟩ := O3.bnd
          obtain ⟨m1, m2, m3⟩ := hbd m hm.1
          have sA := Step.alloc w3 (.cells #[.int .i64 (m.1 : Int), .int .i64 (m.2 : Int)] 42) (fun _ => False)
          have O4 := O3.far sA (fun _ _ h => h) (fun _ h => h.elim)
          have hbF : ¬ F w3.heap.size := fun h => by have := O3.low _ h; omega
          have hbx := Has.new w3 42 #[.int .i64 (m.1 : Int), .int .i64 (m.2 : Int)]
          have HL := Lib.hid (one_len O4.one)
          have HM := Lib.hid hm
          have HD := Lib.hid hbd
          have hlen1 := without_len hnd hm.1
          clear O3 hm hbd sA
          go_wp2_with fail
          generalize w3.alloc (.cells #[.int .i64 (m.1 : Int), .int .i64 (m.2 : Int)] 42) = wb at O4 hbx HL ⊢
          generalize w3.heap.size = bx at hbx hbF ⊢
          have y0 := (hbx.cell 0).trans (show _ = some (Value.int .i64 (m.1 : Int)) from rfl)
          have y1 := (hbx.cell 1).trans (show _ = some (Value.int .i64 (m.2 : Int)) from rfl)
          have HBX := Lib.hid (hbx.drew)
          have hod := O4.far (Step.drew wb (fun _ => False)) (fun _ _ h => h) (fun _ h => h.elim)
          have HOD := Lib.hid hod
          have hbl : bx < wb.drew.heap.size := hbx.lt
          clear hbx O4 hod
          refine HL.out.mono ?_
          rintro e w' ⟨rfl, rfl⟩
          clear HL
          have hhas : hasId S (m.1 : Int) = true := by simp only [hasId, List.any_eq_true, beq_iff_eq]; exact ⟨m, HM.out.1, rfl⟩
          by_cases hlt : nw < m.2
          · have hli : ((nw : Nat) : Int) < ((m.2 : Nat) : Int) := by omega
            go_wp2_with fail
            go_region_held3 (fun w' => w'.cell? ⟨bx, 1, none⟩ = some (.int .i64 m.2)) (go_keep) (first | (go_at_call 18; refine (one_now HOD.out.one).mono ?_; rintro e w' ⟨rfl, rfl⟩))
            have HA := Lib.hid (f_adv HOD.out ((m.2 : Int) - 1))
            go_wp2_with fail
            clear y0 y1
            refine HA.out.mono ?_
            rintro e w5 (⟨h1, _⟩ | ⟨n', fv, X, F5, h1, h2, h3, rfl, h4, _, h6, _, O5, s5⟩)
            · omega
            have hdue : S.filter (isDue n') = [] := by
              rw [List.filter_eq_nil_iff]
              intro t ht
              have := HM.out.2 t ht
              simp only [isDue, isLate, Bool.not_eq_true', decide_eq_false_iff_not]
              unfold ltT at this
              omega
            have hlate : S.filter (isLate n') = S := by
              rw [List.filter_eq_self]
              intro t ht
              have := HM.out.2 t ht
              simp only [isLate, decide_eq_true_iff]
              unfold ltT at this
              omega
            rw [hdue] at h4
            rw [hlate] at O5
            have hX : X = [] := h4.eq_nil
            subst hX
            obtain ⟨p, cap, rfl, _⟩ := WAdw.row_shape h6
            have hbx5 := s5.has HBX.out hbF
            have y0 := (hbx5.cell 0).trans (show _ = some (Value.int .i64 (m.1 : Int)) from rfl)
            have y1 := (hbx5.cell 1).trans (show _ = some (Value.int .i64 (m.2 : Int)) from rfl)
            have HDU := Lib.hid (one_due O5.one m.1 (by omega) (by omega))
            have HCA := Lib.hid (one_cancel O5.one m.1 (by omega) (by omega))
            clear O5 s5 HA hbx5 h6 h4 hdue hlate
            go_wp2_with fail
            refine HDU.out.mono ?_
            rintro e w' ⟨⟨c, rfl, hc1, _⟩, rfl⟩
            have hcm : c = m.2 := hc1 m HM.out.1 rfl
            subst hcm
            rw [hhas]
            clear hc1
            go_wp2_with fail
            refine HCA.out.mono ?_
            rintro e w6 ⟨rfl, O6⟩
            rw [hhas]
            have HO6 := Lib.hid O6
            clear O6 HCA HDU y0 y1
            go_wp2_with fail
            exact ⟨⟨without S (m.1 : Int), _, by rw [← hlen1]; go_num, by omega, HO6⟩, by simp [intOf]; omega⟩
          · have hli : ¬ (((nw : Nat) : Int) < ((m.2 : Nat) : Int)) := by omega
            go_wp2_with fail
            go_region_held3 (fun w' => w'.cell? ⟨bx, 1, none⟩ = some (.int .i64 m.2)) (go_keep) (first | (go_at_call 18; refine (one_now HOD.out.one).mono ?_; rintro e w' ⟨rfl, rfl⟩))
            have hbx5 := HBX.out
            clear y0 y1
            have y0 := (hbx5.cell 0).trans (show _ = some (Value.int .i64 (m.1 : Int)) from rfl)
            have y1 := (hbx5.cell 1).trans (show _ = some (Value.int .i64 (m.2 : Int)) from rfl)
            have HDU := Lib.hid (one_due HOD.out.one m.1 (by omega) (by omega))
            have HCA := Lib.hid (one_cancel HOD.out.one m.1 (by omega) (by omega))
            clear hbx5
            go_wp2_with fail
            refine HDU.out.mono ?_
            rintro e w' ⟨⟨c, rfl, hc1, _⟩, rfl⟩
            have hcm : c = m.2 := hc1 m HM.out.1 rfl
            subst hcm
            rw [hhas]
            clear hc1
            go_wp2_with fail
            refine HCA.out.mono ?_
            rintro e w6 ⟨rfl, O6⟩
            rw [hhas]
            have HO6 := Lib.hid O6
            clear O6 HCA HDU y0 y1
            go_wp2_with fail
            exact ⟨⟨without S (m.1 : Int), _, by rw [← hlen1]; go_num, by omega, HO6⟩, by simp [intOf]; omega⟩
        · have h0n : S = [] := List.eq_nil_of_length_eq_zero (by omega)
          subst h0n
          have HX := Lib.hid (one_next HO.out)
          clear HO
          go_wp2_with fail
          refine HX.out.mono ?_
          rintro e w3 ⟨⟨m, hm, rfl⟩ | ⟨_, rfl⟩, O3⟩
          · exact absurd hm.1 (by simp)
          have O4 := O3.far ((Below.refl w3.heap.size w3).alloc (Nat.le_refl _) (.cells #[.int .i64 0, .int .i64 0] 42))
          have HL := Lib.hid (one_len O4)
          have HB := Lib.hid O4.below
          clear O3 O4 HX
          go_wp2_with fail
          refine HL.out.mono ?_
          rintro e w' ⟨rfl, rfl⟩
          go_wp2_with fail
          go_ret
          exact ⟨rfl, HB.out⟩

/-! ### the row's step -/
set_option maxRecDepth 100000 in
theorem lifted (os : Os) (started : os.Started) (H : Type) (enc : TypeId × Value → H) :
    ReturnsInHanded {} Try.checked os 8 .any (Rows.wheelNextSpec.pre6 enc Try.prog Try.f8 Rows.wheelNextRow.domain false) (Rows.wheelNextSpec.post enc Try.prog Try.f8 false true false false) := by
  refine returnsInHanded_of_change_sized (C := Try.checked) LawBase.own started (by kernel_rfl) Try.func8
    (ChangeSpec.witness6 (enc := enc) (C := Try.checked) false ⟨#[], #[.slice none 0 0], []⟩ 8 (by kernel_rfl) (by kernel_rfl) (by kernel_rfl) (by kernel_rfl)) ?_
  intro W base args ds gs before hval0 hW hcnd hsz0 _
  have hval : ∀ (j : Nat) t v, Try.f8.params[j]? = some t → args[j]? = some v → Value.okWide Try.prog W .any base t v := hval0
  have hW' := hW
  obtain ⟨p, q, hA0, hV, rfl, hfz, hnd⟩ := hW
  have hA : DataW.TrodAll enc Try.prog W 0 (fun _ => true) true Try.f8.params.toList args.toList ds p := hA0
  rw [Try.params8] at hA hval
  have hlt : ∀ x ∈ p ++ q, x.block < W.heap.size := fun x hx => by simpa using hW'.lt x hx
  obtain ⟨v0, vs0, d0, ds0, p0, q0, hargs, rfl, rfl, h0, r0⟩ := trodAll_cons hA
  obtain ⟨rfl, rfl, rfl⟩ := trodAll_nil r0
  obtain rfl : args = #[v0] := by cases args; simp_all
  obtain ⟨rfl, rfl⟩ := trodVars_none hV
  have l0 : ∀ x ∈ p0, x.block < W.heap.size := fun x hx => hlt x (by simp [hx])
  refine (walk (enc := enc) (W := W) v0 d0 p0 (hval 0 34 v0 rfl rfl) h0 l0).mono fun e W' ⟨he, hb⟩ => ?_
  subst he
  exact ⟨_, rfl, LawKit.law_post LawBase.laidOut (by kernel_rfl) hW' rfl rfl (by kernel_rfl) Try.underlying4 hb⟩

theorem over : Rows.wheelNextRow.holds Try.pinned (OpenSpec.ofChange Rows.wheelNextSpec) :=
  OpenClaim.holds_of_wide 8 Try.f8 rfl rfl rfl rfl rfl rfl rfl ⟨rfl, rfl, rfl, rfl, rfl⟩ rfl rfl rfl rfl rfl (by kernel_rfl) Try.func8 (by kernel_rfl)
    (of_decide_eq_true (by kernel_rfl)) (by unfold Func.isWrapper; first | (rw [if_pos (by decide +kernel)]; kernel_rfl) | (rw [if_neg (by decide +kernel)]; exact ⟨rfl, rfl⟩))
    (fun os started H enc _ => lifted os started H enc)

/-- THE STATEMENT -/
theorem proved : Rows.WheelNextSaid :=
  over

end Go.Proofs.Ytcobjejaflikjaa.WheelNextP
