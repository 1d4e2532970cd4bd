/- After just as long as Wait tells there are that many tokens, and a tick earlier there aren't: BucketWaits returns true. No condition. -/
import Derived.Test.YtlajneljcmaiiaaBucketOne
import Derived.Test.YtlajneljcmaiiaaBucketWaitsP
namespace Go.Proofs.Ytlajneljcmaiiaa.BucketWaitsL
open Go.ChangeShapes Go.WideShapes Go.ChangeAt Go.RowKit BucketPure BucketObj BucketOps BucketOne BucketWaitsP
set_option linter.unusedVariables false
def In (m f e l t : Int) : Prop := 1 ≤ m ∧ m ≤ 1000 ∧ 1 ≤ f ∧ f ≤ 1000 ∧ 1 ≤ e ∧ e ≤ 1000 ∧ 0 ≤ l ∧ l ≤ 100000 ∧ 1 ≤ t ∧ t ≤ m
theorem In.ok {m f e l t : Int} (h : In m f e l t) : Ok (full m f e 0) := by
  unfold In at h
  exact full_ok (decide_eq_true (by omega)) (decide_eq_true (by omega)) (decide_eq_true (by omega)) (by decide) (by decide)
theorem In.new {m f e l t : Int} (h : In m f e l t) : newE m f e 0 = 0 := by
  unfold In at h
  unfold newE
  have h1 : fits m = true := decide_eq_true (by omega)
  have h2 : fits f = true := decide_eq_true (by omega)
  have h3 : fits e = true := decide_eq_true (by omega)
  rw [h1, h2, h3]
  decide
/-- behind the first taking -/
def b1 (m f e t : Int) : B := ⟨m, f, e, m - t, 0, 0⟩
theorem In.first {m f e l t : Int} (h : In m f e l t) : takeR (full m f e 0) 0 t = true ∧ takeB (full m f e 0) 0 t = b1 m f e t := by
  have hok := h.ok
  have hl : ¬ late (full m f e 0) 0 := by unfold late full; simp
  have hp : pass (full m f e 0) 0 = full m f e 0 := pass_same hok (by have := hok.e1; simp only [full] at *; omega)
  unfold In at h
  have hc : can (full m f e 0) t = true := decide_eq_true ⟨by omega, by simp only [full]; omega⟩
  unfold takeR takeB less
  rw [if_neg hl, if_neg hl, hp, hc, if_pos rfl]
  exact ⟨rfl, rfl⟩
theorem In.ok1 {m f e l t : Int} (h : In m f e l t) : Ok (b1 m f e t) := by
  rw [← h.first.2]
  exact takeB_ok h.ok 0 t
set_option maxHeartbeats 1600000 in
set_option maxRecDepth 100000 in
theorem walkOut (m f e t n l : Int) (hn : ¬ In m f e l t) (w : World) :
    Calls Try.prog 5 #[.int .i64 m, .int .i64 f, .int .i64 e, .int .i64 t, .int .i64 n, .int .i64 l] w fun e w' => e = .returned (.bool true) ∧ Below w.heap.size w w' := by
  rcases Int.lt_or_le m 1 with hx | c0
  rotate_left
  rcases Int.lt_or_le 1000 m with hx | c1
  rotate_left
  rcases Int.lt_or_le f 1 with hx | c2
  rotate_left
  rcases Int.lt_or_le 1000 f with hx | c3
  rotate_left
  rcases Int.lt_or_le e 1 with hx | c4
  rotate_left
  rcases Int.lt_or_le 1000 e with hx | c5
  rotate_left
  rcases Int.lt_or_le l 0 with hx | c6
  rotate_left
  rcases Int.lt_or_le 100000 l with hx | c7
  rotate_left
  rcases Int.lt_or_le t 1 with hx | c8
  rotate_left
  rcases Int.lt_or_le m t with hx | c9
  rotate_left
  · exact absurd ⟨c0, c1, c2, c3, c4, c5, c6, c7, c8, c9⟩ hn
  all_goals clear hn
  all_goals
    go_enter Try.func5, Try.ntmps5
    go_wp2_with fail
    refine (anchor_any _).mono ?_
    rintro x wa ⟨rfl, hb⟩
    go_wp2_with fail
    go_ret
    exact ⟨rfl, hb⟩
set_option maxHeartbeats 1600000 in
set_option maxRecDepth 100000 in
theorem walkIn (m f e t n l : Int) (hin : In m f e l t) (w : World) :
    Calls Try.prog 5 #[.int .i64 m, .int .i64 f, .int .i64 e, .int .i64 t, .int .i64 n, .int .i64 l] w fun e w' => e = .returned (.bool true) ∧ Below w.heap.size w w' := by
  have hok := hin.ok
  have hne := hin.new
  have hok1 := hin.ok1
  obtain ⟨hf1, hf2⟩ := hin.first
  have hf3 : passE (full m f e 0) 0 = 0 := by unfold passE; rw [if_neg]; unfold late full; simp
  have hll : ¬ late (b1 m f e t) l := by unfold In at hin; unfold late b1; simp only; omega
  have hw1 : passE (b1 m f e t) l = 0 := by unfold passE; rw [if_neg hll]
  have hw2 : waitR (b1 m f e t) l n = wait (pass (b1 m f e t) l) n := by unfold waitR; rw [if_neg hll]
  have hw3 : passB (b1 m f e t) l = pass (b1 m f e t) l := by unfold passB; rw [if_neg hll]
  unfold In at hin
  obtain ⟨m1, m2, f1, f2, e1, e2, l0, l1, t1, t2⟩ := hin
  have hok2 : Ok (pass (b1 m f e t) l) := pass_ok hok1 l0 (by omega)
  have hfr := pass_fresh hok1 (now := l)
  have hmost : (pass (b1 m f e t) l).most = m := rfl
  have hev : (pass (b1 m f e t) l).every = e := rfl
  have htold : (pass (b1 m f e t) l).told = l := rfl
  have hover := wait_over (n := n) hok2
  have hspec := wait_spec (n := n) hok2 hfr
  have hpp : ∀ x, l ≤ x → pass (pass (b1 m f e t) l) x = pass (b1 m f e t) x := fun x hx => pass_pass hok1 hx
  have hme : m * e ≤ 1000 * 1000 := Int.mul_le_mul m2 e2 (by omega) (by omega)
  rw [hmost, hev, htold] at hspec
  rw [hmost] at hover
  have HNE := Lib.hid hne
  have HOK := Lib.hid hok
  have HOK1 := Lib.hid hok1
  have HOK2 := Lib.hid hok2
  have HF1 := Lib.hid hf1
  have HF2 := Lib.hid hf2
  have HF3 := Lib.hid hf3
  have HW1 := Lib.hid hw1
  have HW2 := Lib.hid hw2
  have HW3 := Lib.hid hw3
  have HOV := Lib.hid hover
  have HSP := Lib.hid hspec
  have HPP := Lib.hid hpp
  have HT := Lib.hid htold
  clear hne hok hok1 hf1 hf2 hf3 hll hw1 hw2 hw3 hok2 hfr hmost hev htold hover hspec hpp
  go_enter Try.func5, Try.ntmps5
  go_wp2_with fail
  refine (anchor_any _).mono ?_
  rintro x wa ⟨rfl, hb⟩
  go_wp2_with fail
  refine (new_ok _ _ _ _ HNE.out _).mono ?_
  rintro x wb ⟨rfl, rfl⟩
  go_wp2_with fail
  refine (new_ok _ _ _ _ HNE.out _).mono ?_
  rintro x wb ⟨rfl, rfl⟩
  have T1 : Two w wa.heap.size (wa.heap.size + 1) 51 51 _ (full m f e 0) (full m f e 0) := Two.made hb HOK.out
  clear hb
  rw [show (wa.alloc (.cells #[.int .i64 m, .int .i64 f, .int .i64 e, .int .i64 m, .int .i64 0, .int .i64 0] 51)).heap.size = wa.heap.size + 1 by simp]
  generalize ((wa.alloc _).alloc _) = wb at *
  generalize wa.heap.size = ga at *
  generalize ga + 1 = gb at *
  go_wp2_with fail
  refine (take_any _ _ _ _ HOK.out _ T1.one.bk).mono ?_
  rintro x w2 ⟨rfl, h', hg⟩
  rw [HF1.out, HF3.out]
  rw [HF2.out] at h'
  have T2 := T1.stepA h' hg HOK1.out
  clear h' hg T1
  go_wp2_with fail
  refine (take_any _ _ _ _ HOK.out _ T2.two.bk).mono ?_
  rintro x w3 ⟨rfl, h', hg⟩
  rw [HF1.out, HF3.out]
  rw [HF2.out] at h'
  have T3 := T2.stepB h' hg HOK1.out
  clear h' hg T2
  go_wp2_with fail
  refine (wait_any _ _ _ _ HOK1.out _ T3.one.bk).mono ?_
  rintro x w4 ⟨rfl, h', hg⟩
  rw [HW1.out, HW2.out]
  rw [HW3.out] at h'
  have T4 := T3.stepA h' hg HOK2.out
  clear h' hg T3
  rcases Int.lt_or_le m n with hn | hn
  · rw [HOV.out hn]
    have hb := T4.one.below
    go_wp2_with fail
    go_ret
    exact ⟨rfl, hb⟩
  · obtain ⟨s0, s1, s2, s3⟩ := HSP.out hn
    have HP := HPP.out (l + wait (pass (b1 m f e t) l) n) (by omega)
    rw [HP] at s3
    clear HOV HSP HPP HP HNE HOK HF1 HF2 HF3 HW1 HW2 HW3
    have hlb : ¬ late (b1 m f e t) (l + wait (pass (b1 m f e t) l) n) := fun h => by
      have h : l + wait (pass (b1 m f e t) l) n < 0 ∨ 1099511627776 < l + wait (pass (b1 m f e t) l) n := h
      omega
    have q1 : passE (b1 m f e t) (l + wait (pass (b1 m f e t) l) n) = 0 := by unfold passE; rw [if_neg hlb]
    have q2 : tokR (b1 m f e t) (l + wait (pass (b1 m f e t) l) n) = (pass (b1 m f e t) (l + wait (pass (b1 m f e t) l) n)).tokens := by unfold tokR; rw [if_neg hlb]
    have HB := Lib.hid (tokens_any gb (b1 m f e t) (l + wait (pass (b1 m f e t) l) n) HOK1.out)
    rw [q1, q2] at HB
    clear hlb q1 q2
    generalize (pass (b1 m f e t) (l + wait (pass (b1 m f e t) l) n)).tokens = kb at *
    have hla : 0 < wait (pass (b1 m f e t) l) n → ¬ late (pass (b1 m f e t) l) (l + wait (pass (b1 m f e t) l) n - 1) := fun hw => by
      unfold late
      rw [HT.out]
      omega
    have HA : Hid (0 < wait (pass (b1 m f e t) l) n → passE (pass (b1 m f e t) l) (l + wait (pass (b1 m f e t) l) n - 1) = 0 ∧ tokR (pass (b1 m f e t) l) (l + wait (pass (b1 m f e t) l) n - 1) = (pass (pass (b1 m f e t) l) (l + wait (pass (b1 m f e t) l) n - 1)).tokens) :=
      Lib.hid (fun hw => ⟨by unfold passE; rw [if_neg (hla hw)], by unfold tokR; rw [if_neg (hla hw)]⟩)
    have HS2 := Lib.hid s2
    clear hla s2
    have okp : Ok (passB (b1 m f e t) (l + wait (pass (b1 m f e t) l) n)) := passB_ok HOK1.out _
    have OKP := Lib.hid okp
    clear okp HT
    generalize pass (b1 m f e t) l = b2 at *
    generalize passB (b1 m f e t) (l + wait b2 n) = b3 at *
    generalize b1 m f e t = b0 at *
    generalize hW : wait b2 n = W at *
    clear hW
    rcases Int.lt_or_le 0 W with hw | hw
    · obtain ⟨a1, a2⟩ := HA.out hw
      have a3 := HS2.out hw
      have HTA := Lib.hid (tokens_any ga b2 (l + W - 1) HOK2.out)
      have OK4 := Lib.hid (passB_ok HOK2.out (l + W - 1))
      rw [a1, a2] at HTA
      clear a1 a2 HA HS2
      generalize (pass b2 (l + W - 1)).tokens = ka at *
      generalize passB b2 (l + W - 1) = b4 at *
      go_wp2_with fail
      refine (HTA.out _ T4.one.bk).mono ?_
      rintro x w5 ⟨rfl, h', hg⟩
      have T5 := T4.stepA h' hg OK4.out
      clear h' hg T4
      go_wp2_with fail
      refine (HB.out _ T5.two.bk).mono ?_
      rintro x w6 ⟨rfl, h', hg⟩
      have T6 := T5.stepB h' hg OKP.out
      clear h' hg T5
      go_wp2_with fail
      go_ret
      exact ⟨rfl, T6.one.below⟩
    · have e0 : W = 0 := by omega
      subst e0
      rw [Int.add_zero] at HB
      clear HA HS2 hw
      go_wp2_with fail
      refine (HB.out _ T4.two.bk).mono ?_
      rintro x w6 ⟨rfl, h', hg⟩
      have T6 := T4.stepB h' hg OKP.out
      clear h' hg T4
      go_wp2_with fail
      go_ret
      exact ⟨rfl, T6.one.below⟩
theorem walk (m : Int) (_ : (Lit.int .i64 m).wf = true) (f : Int) (_ : (Lit.int .i64 f).wf = true) (e : Int) (_ : (Lit.int .i64 e).wf = true) (t : Int) (_ : (Lit.int .i64 t).wf = true) (n : Int) (_ : (Lit.int .i64 n).wf = true) (l : Int) (_ : (Lit.int .i64 l).wf = true) (w : World) :
    Calls Try.prog 5 #[.int .i64 m, .int .i64 f, .int .i64 e, .int .i64 t, .int .i64 n, .int .i64 l] w fun e w' => e = .returned (.bool true) ∧ Below w.heap.size w w' := by
  by_cases hn : In m f e l t
  · exact walkIn m f e t n l hn w
  · exact walkOut m f e t n l hn w

/-! ### the row's step -/
set_option maxRecDepth 100000 in
theorem lifted (os : Os) (started : os.Started) (H : Type) (enc : TypeId × Value → H) :
    ReturnsInHanded {} Try.checked os 5 .any (Rows.bucketWaitsSpec.pre6 enc Try.prog Try.f5 Rows.bucketWaitsRow.domain false) (Rows.bucketWaitsSpec.post enc Try.prog Try.f5 false true false false) := by
  refine returnsInHanded_of_change_sized (C := Try.checked) LawBase.own started (by kernel_rfl) Try.func5
    (ChangeSpec.witness6 (enc := enc) (C := Try.checked) false ⟨#[], #[.int .i64 0, .int .i64 0, .int .i64 0, .int .i64 0, .int .i64 0, .int .i64 0], []⟩ 8 (by kernel_rfl) (by kernel_rfl) (by kernel_rfl) (by kernel_rfl)) ?_
  intro W base args ds gs before hval0 hW hcnd hsz0 _
  have hval : ∀ (j : Nat) t v, Try.f5.params[j]? = some t → args[j]? = some v → Value.okWide Try.prog W .any base t v := hval0
  have hW' := hW
  obtain ⟨p, q, hA0, hV, rfl, hfz, hnd⟩ := hW
  have hA : DataW.TrodAll enc Try.prog W 0 (fun _ => true) true Try.f5.params.toList args.toList ds p := hA0
  rw [Try.params5] at hA hval
  have hlt : ∀ x ∈ p ++ q, x.block < W.heap.size := fun x hx => by simpa using hW'.lt x hx
  obtain ⟨v0, vs0, d0, ds0, p0, q0, hargs, rfl, rfl, h0, r0⟩ := trodAll_cons hA
  obtain ⟨v1, vs1, d1, ds1, p1, q1, rfl, rfl, rfl, h1, r1⟩ := trodAll_cons r0
  obtain ⟨v2, vs2, d2, ds2, p2, q2, rfl, rfl, rfl, h2, r2⟩ := trodAll_cons r1
  obtain ⟨v3, vs3, d3, ds3, p3, q3, rfl, rfl, rfl, h3, r3⟩ := trodAll_cons r2
  obtain ⟨v4, vs4, d4, ds4, p4, q4, rfl, rfl, rfl, h4, r4⟩ := trodAll_cons r3
  obtain ⟨v5, vs5, d5, ds5, p5, q5, rfl, rfl, rfl, h5, r5⟩ := trodAll_cons r4
  obtain ⟨rfl, rfl, rfl⟩ := trodAll_nil r5
  obtain rfl : args = #[v0, v1, v2, v3, v4, v5] := by cases args; simp_all
  obtain ⟨rfl, rfl⟩ := trodVars_none hV
  obtain ⟨a0, rfl, rfl, rfl, w0⟩ := open_int Try.underlying3 (hval 0 3 v0 rfl rfl) h0
  obtain ⟨a1, rfl, rfl, rfl, w1⟩ := open_int Try.underlying3 (hval 1 3 v1 rfl rfl) h1
  obtain ⟨a2, rfl, rfl, rfl, w2⟩ := open_int Try.underlying3 (hval 2 3 v2 rfl rfl) h2
  obtain ⟨a3, rfl, rfl, rfl, w3⟩ := open_int Try.underlying3 (hval 3 3 v3 rfl rfl) h3
  obtain ⟨a4, rfl, rfl, rfl, w4⟩ := open_int Try.underlying3 (hval 4 3 v4 rfl rfl) h4
  obtain ⟨a5, rfl, rfl, rfl, w5⟩ := open_int Try.underlying3 (hval 5 3 v5 rfl rfl) h5
  refine (walk a0 w0 a1 w1 a2 w2 a3 w3 a4 w4 a5 w5 W).mono fun e W' ⟨he, hb⟩ => ?_
  subst he
  exact ⟨_, rfl, LawKit.law_post LawBase.laidOut (by kernel_rfl) hW' rfl rfl (by kernel_rfl) Try.underlying4 hb⟩

theorem over : Rows.bucketWaitsRow.holds Try.pinned (OpenSpec.ofChange Rows.bucketWaitsSpec) :=
  OpenClaim.holds_of_wide 5 Try.f5 rfl rfl rfl rfl rfl rfl rfl ⟨rfl, rfl, rfl, rfl, rfl⟩ rfl rfl rfl rfl rfl (by kernel_rfl) Try.func5 (by kernel_rfl)
    (of_decide_eq_true (by kernel_rfl)) (by unfold Func.isWrapper; first | (rw [if_pos (by decide +kernel)]; kernel_rfl) | (rw [if_neg (by decide +kernel)]; exact ⟨rfl, rfl⟩))
    (fun os started H enc _ => lifted os started H enc)

/-- THE STATEMENT -/
theorem proved : Rows.BucketWaitsSaid :=
  over
end Go.Proofs.Ytlajneljcmaiiaa.BucketWaitsL
