/- In any stretch of time no more tokens are taken than the bucket holds and the fillings bring: BucketRate returns true. No condition. -/
import Derived.Test.YtlajneljcmaiiaaBucketOne
import Derived.Test.YtlajneljcmaiiaaBucketRateP
import Derived.Test.YtlajneljcmaiiaaInts
namespace Go.Proofs.Ytlajneljcmaiiaa.BucketRateL
open Go.ChangeShapes Go.WideShapes Go.ChangeAt Go.RowKit BucketPure BucketObj BucketOps BucketOne BucketRateP IntsP
set_option linter.unusedVariables false
structure In (m f e : Int) : Prop where
  m1 : 1 ≤ m
  m2 : m ≤ 1000
  f1 : 1 ≤ f
  f2 : f ≤ 1000
  e1 : 1 ≤ e
  e2 : e ≤ 1000
theorem In.ok {m f e : Int} (h : In m f e) : Ok (full m f e 0) :=
  full_ok (decide_eq_true ⟨h.m1, by have := h.m2; omega⟩) (decide_eq_true ⟨h.f1, by have := h.f2; omega⟩) (decide_eq_true ⟨h.e1, by have := h.e2; omega⟩) (by decide) (by decide)
theorem In.new {m f e : Int} (h : In m f e) : newE m f e 0 = 0 := by
  unfold newE
  have h1 : fits m = true := decide_eq_true ⟨h.m1, by have := h.m2; omega⟩
  have h2 : fits f = true := decide_eq_true ⟨h.f1, by have := h.f2; omega⟩
  have h3 : fits e = true := decide_eq_true ⟨h.e1, by have := h.e2; omega⟩
  rw [h1, h2, h3]
  decide
/-- ahead of a round: the time and what was taken -/
def Round (w0 : World) (g : Nat) (m f e : Int) (w : World) (nv tv : Value) : Prop :=
  ∃ (b : B) (taken : Int), nv = .int .i64 b.told ∧ tv = .int .i64 taken ∧ b.told ≤ 1073751824 ∧ Inv m f e taken b ∧ One w0 g 51 w b
set_option maxHeartbeats 1600000 in
set_option maxRecDepth 100000 in
theorem walkIn (m f e : Int) (hn : In m f e) (A0 : Option Addr) (n0 c0 : Nat) (z0 : n0 ≤ maxLen) (A1 : Option Addr) (n1 c1 : Nat) (z1 : n1 ≤ maxLen) (w : World) (I0 : Ints w A0 n0) (I1 : Ints w A1 n1) :
    Calls Try.prog 4 #[.int .i64 m, .int .i64 f, .int .i64 e, .slice A0 n0 c0, .slice A1 n1 c1] w fun e w' => e = .returned (.bool true) ∧ Below w.heap.size w w' := by
  have hok := hn.ok
  have hne := hn.new
  have hm1 := hn.m1
  have hm2 := hn.m2
  have hf1 := hn.f1
  have hf2 := hn.f2
  have he1 := hn.e1
  have he2 := hn.e2
  unfold maxLen at z0 z1
  have HI0 := Lib.hid I0
  have HI1 := Lib.hid I1
  clear I0 I1
  go_enter Try.func4, Try.ntmps4
  go_wp2_with fail
  refine (anchor_any _).mono ?_
  rintro x wa ⟨rfl, hb⟩
  go_wp2_with fail
  refine (new_ok _ _ _ _ hne _).mono ?_
  rintro x wb ⟨rfl, rfl⟩
  have O1 : One w wa.heap.size 51 _ (full m f e 0) := One.made hb hok
  have R1 : Round w wa.heap.size m f e _ _ _ := ⟨_, 0, rfl, rfl, by simp [full], Inv.start, O1⟩
  clear O1 hb hok hne
  generalize (wa.alloc _) = wb at *
  generalize wa.heap.size = gd at *
  go_wp2_with fail
  go_loopw [13, 14, 58] (fun nv tv i wr => ∃ k : Nat, k ≤ n0 ∧ i = .int .i64 k ∧ Hid (Round w gd m f e wr nv tv)) (fun _ _ i _ => n0 - (intOf i).toNat)
  case atStart => exact ⟨0, by omega, rfl, Lib.hid R1⟩
  case round =>
    obtain ⟨k, hk, rfl, hI0⟩ := hrel
    obtain ⟨b, taken, rfl, rfl, hnow, hI, O⟩ := hI0.out
    clear hI0 R1
    by_cases hlt : k < n0
    · have hki : (k : Int) < (n0 : Int) := by omega
      obtain ⟨b0, o0, rfl, hb, hc⟩ := HI0.out (by omega)
      obtain ⟨x, cxW, x1, x2⟩ := hc k hlt
      have cx := (O.below.cell (p := ⟨b0, o0 + k, none⟩) hb).trans cxW
      clear cxW
      clear hc hb
      by_cases hs : x < 0 ∨ (0 ≤ x ∧ 10000 < x) ∨ (0 ≤ x ∧ x ≤ 10000 ∧ 1073741824 < b.told) ∨ (0 ≤ x ∧ x ≤ 10000 ∧ b.told ≤ 1073741824 ∧ (n1 : Int) ≤ k)
      · have R2 : Hid (Round w gd m f e wr (.int .i64 b.told) (.int .i64 taken)) := Lib.hid ⟨b, taken, rfl, rfl, hnow, hI, O⟩
        generalize b.told = tn at *
        clear O hI hnow
        rcases hs with hs | ⟨h0, hs⟩ | ⟨h0, h1, hs⟩ | ⟨h0, h1, h2, hs⟩
        all_goals
          go_wp2_with fail
          go_roundw
          case rel => exact ⟨k + 1, by omega, by go_num, R2⟩
          case measure => simp [intOf]; omega
      · have h0 : 0 ≤ x := by omega
        have h1 : x ≤ 10000 := by omega
        have h2 : b.told ≤ 1073741824 := by omega
        have h3 : (k : Int) < (n1 : Int) := by omega
        obtain ⟨b3, o3, rfl, hb, hc⟩ := HI1.out (by omega)
        obtain ⟨y, cyW, y1, y2⟩ := hc k (by omega)
        have cy := (O.below.cell (p := ⟨b3, o3 + k, none⟩) hb).trans cyW
        have CY := Lib.hid cyW
        clear cyW
        have ht0 : 0 ≤ b.told := Int.le_trans O.ok.l1 O.ok.l2
        have hl : ¬ late b (b.told + x) := by unfold late; omega
        have u4 : passE b (b.told + x) = 0 := by unfold passE; rw [if_neg hl]
        have u5 : takeR b (b.told + x) y = can (pass b (b.told + x)) y := by unfold takeR; rw [if_neg hl]
        have u6 : takeB b (b.told + x) y = less (pass b (b.told + x)) y := by unfold takeB; rw [if_neg hl]
        have hto : (pass b (b.told + x)).told = b.told + x := rfl
        have hI1 := hI.pass O.ok (now := b.told + x)
        have hok1 : Ok (pass b (b.told + x)) := pass_ok O.ok (by omega) (by omega)
        have HT := Lib.hid (take_any gd b (b.told + x) y O.ok)
        rw [u4, u5, u6] at HT
        have HBelow := Lib.hid O.below
        clear hs hc hl u4 u5 u6 hI
        generalize pass b (b.told + x) = b1 at *
        have hI2 := hI1.less (x := y)
        have hok2 := less_ok hok1 y
        have hto2 : (less b1 y).told = b.told + x := by rw [← hto]; unfold less; split <;> rfl
        have hle := hI2.taken_le hok2
        have hle0 := hI2.t0
        have HB := Lib.hid (can_bd (x := y) hok1)
        have hk1 := hI1.k1
        rw [hto2] at hle
        generalize hd : (b.told + x) / e = d at hle
        have hd0 : 0 ≤ (b.told + x) / e := Int.ediv_nonneg (by omega) (by omega)
        have hd1 : (b.told + x) / e ≤ b.told + x := Int.ediv_le_self _ (by omega)
        have hp0 : 0 ≤ (b.told + x) / e * f := Int.mul_nonneg hd0 (by omega)
        have hp1 : (b.told + x) / e * f ≤ 1073751824 * 1000 := Int.mul_le_mul (by omega) hf2 (by omega) (by omega)
        have hv0 : ¬ e = 0 := by omega
        subst hd
        have HO := Lib.hid O
        have HI2 := Lib.hid hI2
        have HK2 := Lib.hid hok2
        have HT2 := Lib.hid hto2
        clear O hI1 hI2 hok1 hok2 hto2 hto
        by_cases hcan : can b1 y = true
        · have hy := HB.out hcan
          have hy1 : 1 ≤ y := hy.1
          have hy2 : y ≤ m := by omega
          rw [if_pos hcan] at hle hle0 HI2
          rw [hcan] at HT
          clear hy hcan HB hk1
          go_wp2_with fail
          refine (HT.out _ HO.out.bk).mono ?_
          rintro q w2 ⟨rfl, h', hg⟩
          have O2 := HO.out.step h' hg HK2.out
          have cy2 := (O2.below.cell (p := ⟨b3, o3 + k, none⟩) hb).trans CY.out
          have R2 : Round w gd m f e w2 (.int .i64 (b.told + x)) (.int .i64 (taken + y)) := ⟨less b1 y, taken + y, by rw [HT2.out], rfl, by rw [HT2.out]; omega, HI2.out, O2⟩
          have HR := Lib.hid R2
          clear h' hg O2 HO HT HI2 HK2 HT2 cy CY cx R2 HBelow
          have dy1 : decide (y < 1) = false := decide_eq_false (by omega)
          have dy2 : decide (m < y) = false := decide_eq_false (by omega)
          go_wp2_with fail
          go_roundw
          case rel => exact ⟨k + 1, by omega, by go_num, HR⟩
          case measure => simp [intOf]; omega
        · rw [if_neg hcan] at hle hle0 HI2
          have hcan : can b1 y = false := by simpa using hcan
          rw [hcan] at HT
          clear hcan HB hk1
          go_wp2_with fail
          refine (HT.out _ HO.out.bk).mono ?_
          rintro q w2 ⟨rfl, h', hg⟩
          have O2 := HO.out.step h' hg HK2.out
          have R2 : Round w gd m f e w2 (.int .i64 (b.told + x)) (.int .i64 taken) := ⟨less b1 y, taken, by rw [HT2.out], rfl, by rw [HT2.out]; omega, HI2.out, O2⟩
          have HR := Lib.hid R2
          clear h' hg O2 HO HT HI2 HK2 HT2 cy CY cx R2 HBelow
          go_wp2_with fail
          go_roundw
          case rel => exact ⟨k + 1, by omega, by go_num, HR⟩
          case measure => simp [intOf]; omega
    · go_wp2_with fail
      go_ret
      exact ⟨rfl, O.below⟩
set_option maxHeartbeats 1600000 in
set_option maxRecDepth 100000 in
theorem walkOut (m f e : Int) (hn : ¬ In m f e) (A0 : Option Addr) (n0 c0 : Nat) (A1 : Option Addr) (n1 c1 : Nat) (w : World) :
    Calls Try.prog 4 #[.int .i64 m, .int .i64 f, .int .i64 e, .slice A0 n0 c0, .slice A1 n1 c1] w fun e w' => e = .returned (.bool true) ∧ Below w.heap.size w w' := by
  have hx : m < 1 ∨ (1 ≤ m ∧ 1000 < m) ∨ (1 ≤ m ∧ m ≤ 1000 ∧ f < 1) ∨ (1 ≤ m ∧ m ≤ 1000 ∧ 1 ≤ f ∧ 1000 < f) ∨ (1 ≤ m ∧ m ≤ 1000 ∧ 1 ≤ f ∧ f ≤ 1000 ∧ e < 1) ∨ (1 ≤ m ∧ m ≤ 1000 ∧ 1 ≤ f ∧ f ≤ 1000 ∧ 1 ≤ e ∧ 1000 < e) := by
    have : ¬ (1 ≤ m ∧ m ≤ 1000 ∧ 1 ≤ f ∧ f ≤ 1000 ∧ 1 ≤ e ∧ e ≤ 1000) := fun ⟨a1, a2, a3, a4, a5, a6⟩ => hn ⟨a1, a2, a3, a4, a5, a6⟩
    omega
  clear hn
  rcases hx with h1 | ⟨h0, h1⟩ | ⟨h0, h0', h1⟩ | ⟨h0, h0', h2, h1⟩ | ⟨h0, h0', h2, h2', h1⟩ | ⟨h0, h0', h2, h2', h3, h1⟩
  all_goals
    go_enter Try.func4, Try.ntmps4
    go_wp2_with fail
    refine (anchor_any _).mono ?_
    rintro x wa ⟨rfl, hb⟩
    go_wp2_with fail
    go_ret
    exact ⟨rfl, hb⟩
theorem walk {H : Type} {enc : TypeId × Value → H} {W : World} (m : Int) (_ : (Lit.int .i64 m).wf = true) (f : Int) (_ : (Lit.int .i64 f).wf = true) (e : Int) (_ : (Lit.int .i64 e).wf = true) {base : Nat} (v3 : Value) (d3 : DataW H) (p3 : List MemPlace) (k3 : Value.okWide Try.prog W .any base 44 v3)
    (h3 : DataW.Trod enc Try.prog W 0 (fun _ => true) true 44 v3 d3 p3) (_l3 : ∀ x ∈ p3, x.block < W.heap.size) (v4 : Value) (d4 : DataW H) (p4 : List MemPlace) (k4 : Value.okWide Try.prog W .any base 44 v4)
    (h4 : DataW.Trod enc Try.prog W 0 (fun _ => true) true 44 v4 d4 p4) (_l4 : ∀ x ∈ p4, x.block < W.heap.size) :
    Calls Try.prog 4 #[.int .i64 m, .int .i64 f, .int .i64 e, v3, v4] W fun e w' => e = .returned (.bool true) ∧ Below W.heap.size W w' := by
  obtain ⟨A0, n0, c0, rfl, hn0, hI0⟩ := ints_read k3 h3
  obtain ⟨A1, n1, c1, rfl, hn1, hI1⟩ := ints_read k4 h4
  by_cases hn : In m f e
  · exact walkIn m f e hn A0 n0 c0 hn0 A1 n1 c1 hn1 W hI0 hI1
  · exact walkOut m f e hn A0 n0 c0 A1 n1 c1 W

/-! ### the row's step -/
set_option maxRecDepth 100000 in
theorem lifted (os : Os) (started : os.Started) (H : Type) (enc : TypeId × Value → H) :
    ReturnsInHanded {} Try.checked os 4 .any (Rows.bucketRateSpec.pre6 enc Try.prog Try.f4 Rows.bucketRateRow.domain false) (Rows.bucketRateSpec.post enc Try.prog Try.f4 false true false false) := by
  refine returnsInHanded_of_change_sized (C := Try.checked) LawBase.own started (by kernel_rfl) Try.func4
    (ChangeSpec.witness6 (enc := enc) (C := Try.checked) false ⟨#[], #[.int .i64 0, .int .i64 0, .int .i64 0, .slice none 0 0, .slice none 0 0], []⟩ 8 (by kernel_rfl) (by kernel_rfl) (by kernel_rfl) (by kernel_rfl)) ?_
  intro W base args ds gs before hval0 hW hcnd hsz0 _
  have hval : ∀ (j : Nat) t v, Try.f4.params[j]? = some t → args[j]? = some v → Value.okWide Try.prog W .any base t v := hval0
  have hW' := hW
  obtain ⟨p, q, hA0, hV, rfl, hfz, hnd⟩ := hW
  have hA : DataW.TrodAll enc Try.prog W 0 (fun _ => true) true Try.f4.params.toList args.toList ds p := hA0
  rw [Try.params4] at hA hval
  have hlt : ∀ x ∈ p ++ q, x.block < W.heap.size := fun x hx => by simpa using hW'.lt x hx
  obtain ⟨v0, vs0, d0, ds0, p0, q0, hargs, rfl, rfl, h0, r0⟩ := trodAll_cons hA
  obtain ⟨v1, vs1, d1, ds1, p1, q1, rfl, rfl, rfl, h1, r1⟩ := trodAll_cons r0
  obtain ⟨v2, vs2, d2, ds2, p2, q2, rfl, rfl, rfl, h2, r2⟩ := trodAll_cons r1
  obtain ⟨v3, vs3, d3, ds3, p3, q3, rfl, rfl, rfl, h3, r3⟩ := trodAll_cons r2
  obtain ⟨v4, vs4, d4, ds4, p4, q4, rfl, rfl, rfl, h4, r4⟩ := trodAll_cons r3
  obtain ⟨rfl, rfl, rfl⟩ := trodAll_nil r4
  obtain rfl : args = #[v0, v1, v2, v3, v4] := by cases args; simp_all
  obtain ⟨rfl, rfl⟩ := trodVars_none hV
  obtain ⟨a0, rfl, rfl, rfl, w0⟩ := open_int Try.underlying3 (hval 0 3 v0 rfl rfl) h0
  obtain ⟨a1, rfl, rfl, rfl, w1⟩ := open_int Try.underlying3 (hval 1 3 v1 rfl rfl) h1
  obtain ⟨a2, rfl, rfl, rfl, w2⟩ := open_int Try.underlying3 (hval 2 3 v2 rfl rfl) h2
  have l3 : ∀ x ∈ p3, x.block < W.heap.size := fun x hx => hlt x (by simp [hx])
  have l4 : ∀ x ∈ p4, x.block < W.heap.size := fun x hx => hlt x (by simp [hx])
  refine (walk (enc := enc) (W := W) a0 w0 a1 w1 a2 w2 v3 d3 p3 (hval 3 44 v3 rfl rfl) h3 l3 v4 d4 p4 (hval 4 44 v4 rfl rfl) h4 l4).mono fun e W' ⟨he, hb⟩ => ?_
  subst he
  exact ⟨_, rfl, LawKit.law_post LawBase.laidOut (by kernel_rfl) hW' rfl rfl (by kernel_rfl) Try.underlying4 hb⟩

theorem over : Rows.bucketRateRow.holds Try.pinned (OpenSpec.ofChange Rows.bucketRateSpec) :=
  OpenClaim.holds_of_wide 4 Try.f4 rfl rfl rfl rfl rfl rfl rfl ⟨rfl, rfl, rfl, rfl, rfl⟩ rfl rfl rfl rfl rfl (by kernel_rfl) Try.func4 (by kernel_rfl)
    (of_decide_eq_true (by kernel_rfl)) (by unfold Func.isWrapper; first | (rw [if_pos (by decide +kernel)]; kernel_rfl) | (rw [if_neg (by decide +kernel)]; exact ⟨rfl, rfl⟩))
    (fun os started H enc _ => lifted os started H enc)

/-- THE STATEMENT -/
theorem proved : Rows.BucketRateSaid :=
  over
end Go.Proofs.Ytlajneljcmaiiaa.BucketRateL
