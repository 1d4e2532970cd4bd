/- Whoever takes one token as soon as Wait says that it is there gets, behind the first ones, just the filling's tokens each round: BucketSteady returns true. No condition. -/
import Derived.Test.YtlajneljcmaiiaaBucketOne
import Derived.Test.YtlajneljcmaiiaaBucketSteadyP
namespace Go.Proofs.Ytlajneljcmaiiaa.BucketSteadyL
open Go.ChangeShapes Go.WideShapes Go.ChangeAt Go.RowKit BucketPure BucketObj BucketOps BucketOne BucketSteadyP
set_option linter.unusedVariables false
def Round (w0 : World) (g : Nat) (m f e : Int) (i : Nat) (w : World) (now : Int) : Prop := ∃ q t : Int, Inv m f e i q t ∧ now = q * e ∧ One w0 g 51 w (st m f e q t)
set_option maxHeartbeats 1600000 in
set_option maxRecDepth 100000 in
theorem walkOut (m : Int) (f : Int) (e : Int) (n : Int) (hin : ¬ (In m f e ∧ 1 ≤ n ∧ n ≤ 500)) (w : World) :
    Calls Try.prog 7 #[.int .i64 m, .int .i64 f, .int .i64 e, .int .i64 n] w fun e w' => e = .returned (.bool true) ∧ Below w.heap.size w w' := by
  have hx : m < 1 ∨ (1 ≤ m ∧ 50 < m) ∨ (1 ≤ m ∧ m ≤ 50 ∧ f < 1) ∨ (1 ≤ m ∧ m ≤ 50 ∧ 1 ≤ f ∧ 50 < f) ∨ (1 ≤ m ∧ m ≤ 50 ∧ 1 ≤ f ∧ f ≤ 50 ∧ e < 1) ∨ (1 ≤ m ∧ m ≤ 50 ∧ 1 ≤ f ∧ f ≤ 50 ∧ 1 ≤ e ∧ 1000 < e) ∨
      (1 ≤ m ∧ m ≤ 50 ∧ 1 ≤ f ∧ f ≤ 50 ∧ 1 ≤ e ∧ e ≤ 1000 ∧ n < 1) ∨ (1 ≤ m ∧ m ≤ 50 ∧ 1 ≤ f ∧ f ≤ 50 ∧ 1 ≤ e ∧ e ≤ 1000 ∧ 1 ≤ n ∧ 500 < n) := by
    have : ¬ (1 ≤ m ∧ m ≤ 50 ∧ 1 ≤ f ∧ f ≤ 50 ∧ 1 ≤ e ∧ e ≤ 1000 ∧ 1 ≤ n ∧ n ≤ 500) := fun ⟨a1, a2, a3, a4, a5, a6, a7, a8⟩ => hin ⟨⟨a1, a2, a3, a4, a5, a6⟩, a7, a8⟩
    omega
  clear hin
  rcases hx with h1 | ⟨h0, h1⟩ | ⟨h0, h0', h1⟩ | ⟨h0, h0', h2, h1⟩ | ⟨h0, h0', h2, h2', h1⟩ | ⟨h0, h0', h2, h2', h3, h1⟩ | ⟨h0, h0', h2, h2', h3, h3', h1⟩ | ⟨h0, h0', h2, h2', h3, h3', h4, h1⟩
  all_goals
    go_enter Try.func7, Try.ntmps7
    go_wp2_with fail
    refine (anchor_any _).mono ?_
    rintro x wa ⟨rfl, hb⟩
    go_wp2_with fail
    go_ret
    exact ⟨rfl, hb⟩


set_option maxHeartbeats 1600000 in
set_option maxRecDepth 100000 in
theorem walkIn (m : Int) (f : Int) (e : Int) (n : Int) (hn : In m f e) (n1 : 1 ≤ n) (n5 : n ≤ 500) (w : World) :
    Calls Try.prog 7 #[.int .i64 m, .int .i64 f, .int .i64 e, .int .i64 n] w fun e w' => e = .returned (.bool true) ∧ Below w.heap.size w w' := by
  have hok : Ok (full m f e 0) := full_ok (decide_eq_true ⟨hn.m1, by have := hn.m2; omega⟩) (decide_eq_true ⟨hn.f1, by have := hn.f2; omega⟩) (decide_eq_true ⟨hn.e1, by have := hn.e2; omega⟩) (by decide) (by decide)
  have hne : newE m f e 0 = 0 := by
    unfold newE
    have h1 : fits m = true := decide_eq_true ⟨hn.m1, by have := hn.m2; omega⟩
    have h2 : fits f = true := decide_eq_true ⟨hn.f1, by have := hn.f2; omega⟩
    have h3 : fits e = true := decide_eq_true ⟨hn.e1, by have := hn.e2; omega⟩
    rw [h1, h2, h3]
    decide
  have hm1 := hn.m1
  have hm2 := hn.m2
  have hf1 := hn.f1
  have hf2 := hn.f2
  have he1 := hn.e1
  have he2 := hn.e2
  go_enter Try.func7, Try.ntmps7
  go_wp2_with fail
  refine (anchor_any _).mono ?_
  rintro x wa ⟨rfl, hb⟩
  go_wp2_with fail
  refine (new_ok _ _ _ _ hne _).mono ?_
  rintro x wb ⟨rfl, rfl⟩
  have O1 : One w wa.heap.size 51 _ (full m f e 0) := One.made hb hok
  have R1 : Round w wa.heap.size m f e 0 _ 0 := ⟨0, m, Inv.start hn, by omega, by
    have : st m f e 0 m = full m f e 0 := by unfold st full; simp
    rw [this]; exact O1⟩
  clear O1 hb hok hne
  generalize (wa.alloc _) = wb at *
  generalize wa.heap.size = gd at *
  go_wp2_with fail
  go_loopw [11, 12] (fun nv i wr => ∃ k : Nat, k ≤ n ∧ i = .int .i64 k ∧ Hid (∃ x, nv = .int .i64 x ∧ Round w gd m f e k wr x)) (fun _ i _ => n.toNat - (intOf i).toNat)
  case atStart => exact ⟨0, by omega, rfl, ⟨0, rfl, R1⟩⟩
  case round =>
    obtain ⟨k, hk, rfl, hI0⟩ := hrel
    obtain ⟨x, rfl, q, t, hI, rfl, O⟩ := hI0.out
    clear hI0
    clear R1
    by_cases hlt : k < n
    · have hk0 : (0 : Int) ≤ k := by omega
      have hk5 : (k : Int) ≤ 500 := by omega
      obtain ⟨v1, v2, v3⟩ := wait_now hI hn hk0 hk5
      have v3 : waitR (st m f e q t) (q * e) 1 = nq q t * e - q * e := v3
      obtain ⟨u1, u2, u3⟩ := take_now hI hn hk0 hk5
      have u4 : passE (st m f e q t) (nq q t * e) = 0 := by unfold passE; rw [if_neg u1]
      have u5 : takeR (st m f e q t) (nq q t * e) 1 = true := by unfold takeR; rw [if_neg u1]; exact u2
      have u6 : takeB (st m f e q t) (nq q t * e) 1 = st m f e (nq q t) (nt m f t) := by unfold takeB; rw [if_neg u1]; exact u3
      have hnx := hI.next hn
      have hbd := hI.q_le hn hk0
      have hq0 := hI.q0
      have hok := hI.ok hn hk0 hk5
      have hok2 := hnx.ok hn (by omega) (by omega)
      have hnq : nq q t = q ∨ nq q t = q + 1 := by unfold nq; split <;> simp
      have b1 : 0 ≤ q * e := Int.mul_nonneg hq0 (by omega)
      have b2 : q * e ≤ 500 * 1000 := Int.mul_le_mul (by omega) he2 (by omega) (by omega)
      have b3 : nq q t * e = q * e ∨ nq q t * e = q * e + e := by
        rcases hnq with h | h
        · exact .inl (by rw [h])
        · exact .inr (by rw [h, Int.add_mul]; omega)
      have hw1 := hI.want_early
      have hw2 := hI.want_late hn
      have HW1 := Lib.hid hw1
      have HW2 := Lib.hid hw2
      have HX := Lib.hid hnx
      have HQ := Lib.hid hnq
      have V1 := Lib.hid v1
      have V3 := Lib.hid v3
      have U4 := Lib.hid u4
      have U5 := Lib.hid u5
      clear v1 v3 u1 u2 u3 u4 u5 hw1 hw2 hnx hnq hI
      go_wp2_with fail
      refine (wait_any _ _ _ _ hok _ O.bk).mono ?_
      rintro x w2 ⟨rfl, h', hg⟩
      rw [V1.out, V3.out]
      rw [v2] at h'
      have O2 := O.step h' hg hok
      clear h' hg O v2 V1 V3
      go_wp2_with fail
      rw [show q * e + (nq q t * e - q * e) = nq q t * e by omega]
      refine (take_any _ _ _ _ hok _ O2.bk).mono ?_
      rintro x w3 ⟨rfl, h', hg⟩
      rw [U4.out, U5.out]
      rw [u6] at h'
      have O3 := O2.step h' hg hok2
      have R3 : Round w gd m f e (k + 1 : Nat) w3 (nq q t * e) := ⟨_, _, by have := HX.out; push_cast; exact this, rfl, O3⟩
      have HR := Lib.hid R3
      clear h' hg O2 u6 U4 U5 O3 hok hok2 R3 HX HQ b3 b1 b2 hbd hq0
      by_cases hkm : k < m
      · have hz := HW1.out hkm
        rw [show nq q t * e = 0 by rw [hz]; omega] at HR ⊢
        clear hz HW1 HW2 v3
        go_wp2_with fail
        go_roundw
        case rel => exact ⟨k + 1, by omega, by go_num, ⟨_, rfl, HR.out⟩⟩
        case measure => simp [intOf]; omega
      · have hz := HW2.out (by omega)
        clear HW1 HW2 v3
        by_cases h : m < f
        · have hmf : min f m = m := by omega
          rw [hmf] at hz
          have hd0 : 0 ≤ (k - m) / m := Int.ediv_nonneg (by omega) (by omega)
          have hd1 : (k - m) / m ≤ k - m := Int.ediv_le_self _ (by omega)
          have hp0 : 0 ≤ ((k - m) / m + 1) * e := Int.mul_nonneg (by omega) (by omega)
          have hp1 : ((k - m) / m + 1) * e ≤ 501 * 1000 := Int.mul_le_mul (by omega) he2 (by omega) (by omega)
          have hv0 : ¬ m = 0 := by omega
          have tt : (((k - m) / m + 1) * e != ((k - m) / m + 1) * e) = false := bne_self_eq_false _
          rw [← hz] at HR ⊢
          clear hz hmf
          go_wp2_with fail
          go_roundw
          case rel => exact ⟨k + 1, by omega, by go_num, ⟨_, rfl, HR.out⟩⟩
          case measure => simp [intOf]; omega
        · have hmf : min f m = f := by omega
          rw [hmf] at hz
          have hd0 : 0 ≤ (k - m) / f := Int.ediv_nonneg (by omega) (by omega)
          have hd1 : (k - m) / f ≤ k - m := Int.ediv_le_self _ (by omega)
          have hp0 : 0 ≤ ((k - m) / f + 1) * e := Int.mul_nonneg (by omega) (by omega)
          have hp1 : ((k - m) / f + 1) * e ≤ 501 * 1000 := Int.mul_le_mul (by omega) he2 (by omega) (by omega)
          have hv0 : ¬ f = 0 := by omega
          have tt : (((k - m) / f + 1) * e != ((k - m) / f + 1) * e) = false := bne_self_eq_false _
          rw [← hz] at HR ⊢
          clear hz hmf
          go_wp2_with fail
          go_roundw
          case rel => exact ⟨k + 1, by omega, by go_num, ⟨_, rfl, HR.out⟩⟩
          case measure => simp [intOf]; omega
    · go_wp2_with fail
      go_ret
      exact ⟨rfl, O.below⟩
theorem walk (m : Int) (_ : (Lit.int .i64 m).wf = true) (f : Int) (_ : (Lit.int .i64 f).wf = true) (e : Int) (_ : (Lit.int .i64 e).wf = true) (n : Int) (_ : (Lit.int .i64 n).wf = true) (w : World) :
    Calls Try.prog 7 #[.int .i64 m, .int .i64 f, .int .i64 e, .int .i64 n] w fun e w' => e = .returned (.bool true) ∧ Below w.heap.size w w' := by
  by_cases hin : In m f e ∧ 1 ≤ n ∧ n ≤ 500
  · exact walkIn m f e n hin.1 hin.2.1 hin.2.2 w
  · exact walkOut m f e n hin w

/-! ### the row's step -/
set_option maxRecDepth 100000 in
theorem lifted (os : Os) (started : os.Started) (H : Type) (enc : TypeId × Value → H) :
    ReturnsInHanded {} Try.checked os 7 .any (Rows.bucketSteadySpec.pre6 enc Try.prog Try.f7 Rows.bucketSteadyRow.domain false) (Rows.bucketSteadySpec.post enc Try.prog Try.f7 false true false false) := by
  refine returnsInHanded_of_change_sized (C := Try.checked) LawBase.own started (by kernel_rfl) Try.func7
    (ChangeSpec.witness6 (enc := enc) (C := Try.checked) false ⟨#[], #[.int .i64 0, .int .i64 0, .int .i64 0, .int .i64 0], []⟩ 8 (by kernel_rfl) (by kernel_rfl) (by kernel_rfl) (by kernel_rfl)) ?_
  intro W base args ds gs before hval0 hW hcnd hsz0 _
  have hval : ∀ (j : Nat) t v, Try.f7.params[j]? = some t → args[j]? = some v → Value.okWide Try.prog W .any base t v := hval0
  have hW' := hW
  obtain ⟨p, q, hA0, hV, rfl, hfz, hnd⟩ := hW
  have hA : DataW.TrodAll enc Try.prog W 0 (fun _ => true) true Try.f7.params.toList args.toList ds p := hA0
  rw [Try.params7] at hA hval
  have hlt : ∀ x ∈ p ++ q, x.block < W.heap.size := fun x hx => by simpa using hW'.lt x hx
  obtain ⟨v0, vs0, d0, ds0, p0, q0, hargs, rfl, rfl, h0, r0⟩ := trodAll_cons hA
  obtain ⟨v1, vs1, d1, ds1, p1, q1, rfl, rfl, rfl, h1, r1⟩ := trodAll_cons r0
  obtain ⟨v2, vs2, d2, ds2, p2, q2, rfl, rfl, rfl, h2, r2⟩ := trodAll_cons r1
  obtain ⟨v3, vs3, d3, ds3, p3, q3, rfl, rfl, rfl, h3, r3⟩ := trodAll_cons r2
  obtain ⟨rfl, rfl, rfl⟩ := trodAll_nil r3
  obtain rfl : args = #[v0, v1, v2, v3] := by cases args; simp_all
  obtain ⟨rfl, rfl⟩ := trodVars_none hV
  obtain ⟨a0, rfl, rfl, rfl, w0⟩ := open_int Try.underlying3 (hval 0 3 v0 rfl rfl) h0
  obtain ⟨a1, rfl, rfl, rfl, w1⟩ := open_int Try.underlying3 (hval 1 3 v1 rfl rfl) h1
  obtain ⟨a2, rfl, rfl, rfl, w2⟩ := open_int Try.underlying3 (hval 2 3 v2 rfl rfl) h2
  obtain ⟨a3, rfl, rfl, rfl, w3⟩ := open_int Try.underlying3 (hval 3 3 v3 rfl rfl) h3
  refine (walk a0 w0 a1 w1 a2 w2 a3 w3 W).mono fun e W' ⟨he, hb⟩ => ?_
  subst he
  exact ⟨_, rfl, LawKit.law_post LawBase.laidOut (by kernel_rfl) hW' rfl rfl (by kernel_rfl) Try.underlying4 hb⟩

theorem over : Rows.bucketSteadyRow.holds Try.pinned (OpenSpec.ofChange Rows.bucketSteadySpec) :=
  OpenClaim.holds_of_wide 7 Try.f7 rfl rfl rfl rfl rfl rfl rfl ⟨rfl, rfl, rfl, rfl, rfl⟩ rfl rfl rfl rfl rfl (by kernel_rfl) Try.func7 (by kernel_rfl)
    (of_decide_eq_true (by kernel_rfl)) (by unfold Func.isWrapper; first | (rw [if_pos (by decide +kernel)]; kernel_rfl) | (rw [if_neg (by decide +kernel)]; exact ⟨rfl, rfl⟩))
    (fun os started H enc _ => lifted os started H enc)

/-- THE STATEMENT -/
theorem proved : Rows.BucketSteadySaid :=
  over
end Go.Proofs.Ytlajneljcmaiiaa.BucketSteadyL
