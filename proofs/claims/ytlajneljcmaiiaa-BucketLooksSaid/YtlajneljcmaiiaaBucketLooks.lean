/- Looking at a bucket, however often, changes nothing that is taken later: BucketLooks returns true. No condition. -/
import Derived.Test.YtlajneljcmaiiaaBucketOne
import Derived.Test.YtlajneljcmaiiaaInts
namespace Go.Proofs.Ytlajneljcmaiiaa.BucketLooksL
open Go.ChangeShapes Go.WideShapes Go.ChangeAt Go.RowKit BucketPure BucketObj BucketOps BucketOne IntsP
set_option linter.unusedVariables false
/-- a look at a time that is not refused -/
theorem look {b : B} {last t : Int} (hok : Ok b) (h0 : b.told ≤ last) (h1 : last ≤ t) (h2 : t ≤ 1099511627776) : Ok (pass b last) ∧ passE (pass b last) t = 0 ∧ passB (pass b last) t = pass b t ∧ tokR (pass b last) t = (pass b t).tokens := by
  have hl : ¬ late (pass b last) t := fun h => by
    have h : t < last ∨ 1099511627776 < t := h
    omega
  have hp := pass_pass hok h1
  refine ⟨pass_ok hok h0 (by omega), by unfold passE; rw [if_neg hl], by unfold passB; rw [if_neg hl, hp], by unfold tokR; rw [if_neg hl, hp]⟩
theorem plain {b : B} {t : Int} (h0 : b.told ≤ t) (h2 : t ≤ 1099511627776) : passE b t = 0 ∧ passB b t = pass b t ∧ tokR b t = (pass b t).tokens := by
  have hl : ¬ late b t := fun h => by
    have h : t < b.told ∨ 1099511627776 < t := h
    omega
  exact ⟨by unfold passE; rw [if_neg hl], by unfold passB; rw [if_neg hl], by unfold tokR; rw [if_neg hl]⟩
/-- behind the first taking -/
theorem first {m f e : Int} (hok : Ok (full m f e 0)) (n : Int) : Ok (takeB (full m f e 0) 0 n) ∧ (takeB (full m f e 0) 0 n).told = 0 ∧ (takeB (full m f e 0) 0 n).most = m ∧ pass (takeB (full m f e 0) 0 n) 0 = takeB (full m f e 0) 0 n := by
  have hl : ¬ late (full m f e 0) 0 := by unfold late full; simp
  have hp : pass (full m f e 0) 0 = full m f e 0 := pass_same hok (by have := hok.e1; simp only [full] at *; omega)
  have h1 := takeB_ok hok 0 n
  have ht : (takeB (full m f e 0) 0 n).told = 0 ∧ (takeB (full m f e 0) 0 n).filled = 0 ∧ (takeB (full m f e 0) 0 n).most = m := by
    unfold takeB
    rw [if_neg hl, hp]
    unfold less
    split <;> exact ⟨rfl, rfl, rfl⟩
  refine ⟨h1, ht.1, ht.2.2, ?_⟩
  have := pass_same h1 (by have := h1.e1; omega)
  rwa [ht.1] at this
/-- ahead of a round -/
def Round (w0 : World) (ga gb : Nat) (b : B) (w : World) (lv : Value) : Prop :=
  ∃ last : Int, lv = .int .i64 last ∧ 0 ≤ last ∧ last ≤ 1099511627776 ∧ Two w0 ga gb 51 51 w (pass b last) b
set_option maxHeartbeats 1600000 in
set_option maxRecDepth 100000 in
theorem walkOut (m f e n : Int) (hn : newE m f e 0 ≠ 0) (A0 : Option Addr) (n0 c0 : Nat) (w : World) :
    Calls Try.prog 6 #[.int .i64 m, .int .i64 f, .int .i64 e, .slice A0 n0 c0, .int .i64 n] w fun e w' => e = .returned (.bool true) ∧ Below w.heap.size w w' := by
  have tt : (newE m f e 0 != newE m f e 0) = false := bne_self_eq_false _
  have tu : (newE m f e 0 != 0) = true := by simpa using hn
  have HN := Lib.hid hn
  clear hn
  go_enter Try.func6, Try.ntmps6
  go_wp2_with fail
  refine (anchor_any _).mono ?_
  rintro x wa ⟨rfl, hb⟩
  go_wp2_with fail
  refine (new_bad _ _ _ _ HN.out _).mono ?_
  rintro x wb ⟨rfl, rfl⟩
  go_wp2_with fail
  refine (new_bad _ _ _ _ HN.out _).mono ?_
  rintro x wb ⟨rfl, rfl⟩
  generalize newE m f e 0 = E at *
  go_wp2_with fail
  go_ret
  exact ⟨rfl, hb⟩
set_option maxHeartbeats 1600000 in
set_option maxRecDepth 100000 in
theorem walkIn (m f e n : Int) (hn : newE m f e 0 = 0) (A0 : Option Addr) (n0 c0 : Nat) (z0 : n0 ≤ maxLen) (w : World) (I0 : Ints w A0 n0) :
    Calls Try.prog 6 #[.int .i64 m, .int .i64 f, .int .i64 e, .slice A0 n0 c0, .int .i64 n] w fun e w' => e = .returned (.bool true) ∧ Below w.heap.size w w' := by
  have hfit : fits m = true ∧ fits f = true ∧ fits e = true := by
    unfold newE at hn
    by_cases hm : fits m = true <;> by_cases hf : fits f = true <;> by_cases he : fits e = true <;> simp [hm, hf, he] at hn ⊢
  have hok : Ok (full m f e 0) := full_ok hfit.1 hfit.2.1 hfit.2.2 (by decide) (by decide)
  obtain ⟨hok1, htold, hmost, hp0⟩ := first hok n
  unfold maxLen at z0
  have HI0 := Lib.hid I0
  have HN := Lib.hid hn
  have HOK := Lib.hid hok
  have HOK1 := Lib.hid hok1
  have HT := Lib.hid htold
  have HM := Lib.hid hmost
  have HP := Lib.hid hp0
  clear hn hfit hok hok1 htold hmost hp0 I0
  go_enter Try.func6, Try.ntmps6
  go_wp2_with fail
  refine (anchor_any _).mono ?_
  rintro x wa ⟨rfl, hb⟩
  go_wp2_with fail
  refine (new_ok _ _ _ _ HN.out _).mono ?_
  rintro x wb ⟨rfl, rfl⟩
  go_wp2_with fail
  refine (new_ok _ _ _ _ HN.out _).mono ?_
  rintro x wb ⟨rfl, rfl⟩
  have T1 : Two w wa.heap.size (wa.heap.size + 1) 51 51 _ (full m f e 0) (full m f e 0) := Two.made hb HOK.out
  clear hb HN
  rw [show (wa.alloc (.cells #[.int .i64 m, .int .i64 f, .int .i64 e, .int .i64 m, .int .i64 0, .int .i64 0] 51)).heap.size = wa.heap.size + 1 by simp]
  generalize ((wa.alloc _).alloc _) = wb at *
  generalize wa.heap.size = ga at *
  generalize ga + 1 = gb at *
  go_wp2_with fail
  refine (take_any _ _ _ _ HOK.out _ T1.one.bk).mono ?_
  rintro x w2 ⟨rfl, h', hg⟩
  have T2 := T1.stepA h' hg HOK1.out
  clear h' hg T1
  generalize takeR (full m f e 0) 0 n = r at *
  generalize passE (full m f e 0) 0 = r2 at *
  go_wp2_with fail
  refine (take_any _ _ _ _ HOK.out _ T2.two.bk).mono ?_
  rintro x w3 ⟨rfl, h', hg⟩
  have T3 := T2.stepB h' hg HOK1.out
  clear h' hg T2 HOK
  generalize takeB (full m f e 0) 0 n = b at *
  have R1 : Hid (Round w ga gb b w3 (.int .i64 0)) := Lib.hid ⟨0, rfl, by decide, by decide, by rw [HP.out]; exact T3⟩
  clear T3 HP
  go_wp2_with fail
  go_loopw [15, 65] (fun lv i wr => ∃ k : Nat, k ≤ n0 ∧ i = .int .i64 k ∧ Hid (Round w ga gb b wr lv)) (fun _ i _ => n0 - (intOf i).toNat)
  case atStart => exact ⟨0, by omega, rfl, R1⟩
  case round =>
    obtain ⟨k, hk, rfl, hI0⟩ := hrel
    obtain ⟨last, rfl, hl0, hl1, T⟩ := hI0.out
    clear hI0 R1
    by_cases hlt : k < n0
    · have hki : (k : Int) < (n0 : Int) := by omega
      obtain ⟨b0, o0, rfl, hb, hc⟩ := HI0.out (by omega)
      obtain ⟨t, cxW, x1, x2⟩ := hc k hlt
      have cx := (T.one.below.cell (p := ⟨b0, o0 + k, none⟩) hb).trans cxW
      clear cxW hc hb
      by_cases hs : t < last ∨ (last ≤ t ∧ 1099511627776 < t)
      · have R2 : Hid (Round w ga gb b wr (.int .i64 last)) := Lib.hid ⟨last, rfl, hl0, hl1, T⟩
        clear T
        rcases hs with hs | ⟨h0, hs⟩
        all_goals
          go_wp2_with fail
          go_roundw
          case rel => exact ⟨k + 1, by omega, by go_num, R2⟩
          case measure => simp [intOf]; omega
      · have h0 : last ≤ t := by omega
        have h1 : t ≤ 1099511627776 := by omega
        obtain ⟨q0, q1, q2, q3⟩ := look HOK1.out (last := last) (t := t) (by rw [HT.out]; exact hl0) h0 h1
        obtain ⟨q4, q5, q6, q7⟩ := look HOK1.out (last := t) (t := t) (by rw [HT.out]; omega) (Int.le_refl _) h1
        have HA := Lib.hid (tokens_any ga _ t q0)
        have HB := Lib.hid (wait_any ga _ t n q4)
        rw [q1, q2, q3] at HA
        rw [q5, q6] at HB
        have Q4 := Lib.hid q4
        clear q0 q1 q2 q3 q4 q5 q6 q7 hs
        generalize waitR (pass b t) t n = wv at *
        go_wp2_with fail
        refine (HA.out _ T.one.bk).mono ?_
        rintro x w5 ⟨rfl, h', hg⟩
        have T5 := T.stepA h' hg Q4.out
        clear h' hg T
        go_wp2_with fail
        refine (HB.out _ T5.one.bk).mono ?_
        rintro x w6 ⟨rfl, h', hg⟩
        have T6 := T5.stepA h' hg Q4.out
        have R2 : Hid (Round w ga gb b w6 (.int .i64 t)) := Lib.hid ⟨t, rfl, by omega, h1, T6⟩
        clear h' hg T5 T6 HA HB Q4
        go_wp2_with fail
        go_roundw
        case rel => exact ⟨k + 1, by omega, by go_num, R2⟩
        case measure => simp [intOf]; omega
    · obtain ⟨q0, q1, q2, q3⟩ := look HOK1.out (last := last) (t := last) (by rw [HT.out]; exact hl0) (Int.le_refl _) hl1
      obtain ⟨p1, p2, p3⟩ := plain (b := b) (t := last) (by rw [HT.out]; exact hl0) hl1
      have t1 := q0.t1
      have t2 : (pass b last).tokens ≤ m := by
        have h := q0.t2
        have e : (pass b last).most = m := HM.out
        omega
      have HA := Lib.hid (tokens_any ga _ last q0)
      have HB := Lib.hid (tokens_any gb _ last HOK1.out)
      rw [q1, q2, q3] at HA
      rw [p1, p2, p3] at HB
      have Q0 := Lib.hid q0
      clear q0 q1 q2 q3 p1 p2 p3
      generalize (pass b last).tokens = tk at *
      have tt : (tk == tk) = true := beq_self_eq_true _
      go_wp2_with fail
      refine (HA.out _ T.one.bk).mono ?_
      rintro x w5 ⟨rfl, h', hg⟩
      have T5 := T.stepA h' hg Q0.out
      clear h' hg T
      go_wp2_with fail
      refine (HB.out _ T5.two.bk).mono ?_
      rintro x w6 ⟨rfl, h', hg⟩
      have T6 := T5.stepB h' hg Q0.out
      clear h' hg T5
      go_wp2_with fail
      go_ret
      exact ⟨rfl, T6.one.below⟩
theorem walk {H : Type} {enc : TypeId × Value → H} {W : World} (m : Int) (_ : (Lit.int .i64 m).wf = true) (f : Int) (_ : (Lit.int .i64 f).wf = true) (e : Int) (_ : (Lit.int .i64 e).wf = true) {base : Nat} (v3 : Value) (d3 : DataW H) (p3 : List MemPlace) (k3 : Value.okWide Try.prog W .any base 44 v3)
    (h3 : DataW.Trod enc Try.prog W 0 (fun _ => true) true 44 v3 d3 p3) (_l3 : ∀ x ∈ p3, x.block < W.heap.size) (n : Int) (_ : (Lit.int .i64 n).wf = true) :
    Calls Try.prog 6 #[.int .i64 m, .int .i64 f, .int .i64 e, v3, .int .i64 n] W fun e w' => e = .returned (.bool true) ∧ Below W.heap.size W w' := by
  obtain ⟨A0, n0, c0, rfl, hn0, hI0⟩ := ints_read k3 h3
  by_cases hn : newE m f e 0 = 0
  · exact walkIn m f e n hn A0 n0 c0 hn0 W hI0
  · exact walkOut m f e n hn A0 n0 c0 W

/-! ### the row's step -/
set_option maxRecDepth 100000 in
theorem lifted (os : Os) (started : os.Started) (H : Type) (enc : TypeId × Value → H) :
    ReturnsInHanded {} Try.checked os 6 .any (Rows.bucketLooksSpec.pre6 enc Try.prog Try.f6 Rows.bucketLooksRow.domain false) (Rows.bucketLooksSpec.post enc Try.prog Try.f6 false true false false) := by
  refine returnsInHanded_of_change_sized (C := Try.checked) LawBase.own started (by kernel_rfl) Try.func6
    (ChangeSpec.witness6 (enc := enc) (C := Try.checked) false ⟨#[], #[.int .i64 0, .int .i64 0, .int .i64 0, .slice none 0 0, .int .i64 0], []⟩ 8 (by kernel_rfl) (by kernel_rfl) (by kernel_rfl) (by kernel_rfl)) ?_
  intro W base args ds gs before hval0 hW hcnd hsz0 _
  have hval : ∀ (j : Nat) t v, Try.f6.params[j]? = some t → args[j]? = some v → Value.okWide Try.prog W .any base t v := hval0
  have hW' := hW
  obtain ⟨p, q, hA0, hV, rfl, hfz, hnd⟩ := hW
  have hA : DataW.TrodAll enc Try.prog W 0 (fun _ => true) true Try.f6.params.toList args.toList ds p := hA0
  rw [Try.params6] at hA hval
  have hlt : ∀ x ∈ p ++ q, x.block < W.heap.size := fun x hx => by simpa using hW'.lt x hx
  obtain ⟨v0, vs0, d0, ds0, p0, q0, hargs, rfl, rfl, h0, r0⟩ := trodAll_cons hA
  obtain ⟨v1, vs1, d1, ds1, p1, q1, rfl, rfl, rfl, h1, r1⟩ := trodAll_cons r0
  obtain ⟨v2, vs2, d2, ds2, p2, q2, rfl, rfl, rfl, h2, r2⟩ := trodAll_cons r1
  obtain ⟨v3, vs3, d3, ds3, p3, q3, rfl, rfl, rfl, h3, r3⟩ := trodAll_cons r2
  obtain ⟨v4, vs4, d4, ds4, p4, q4, rfl, rfl, rfl, h4, r4⟩ := trodAll_cons r3
  obtain ⟨rfl, rfl, rfl⟩ := trodAll_nil r4
  obtain rfl : args = #[v0, v1, v2, v3, v4] := by cases args; simp_all
  obtain ⟨rfl, rfl⟩ := trodVars_none hV
  obtain ⟨a0, rfl, rfl, rfl, w0⟩ := open_int Try.underlying3 (hval 0 3 v0 rfl rfl) h0
  obtain ⟨a1, rfl, rfl, rfl, w1⟩ := open_int Try.underlying3 (hval 1 3 v1 rfl rfl) h1
  obtain ⟨a2, rfl, rfl, rfl, w2⟩ := open_int Try.underlying3 (hval 2 3 v2 rfl rfl) h2
  have l3 : ∀ x ∈ p3, x.block < W.heap.size := fun x hx => hlt x (by simp [hx])
  obtain ⟨a4, rfl, rfl, rfl, w4⟩ := open_int Try.underlying3 (hval 4 3 v4 rfl rfl) h4
  refine (walk (enc := enc) (W := W) a0 w0 a1 w1 a2 w2 v3 d3 p3 (hval 3 44 v3 rfl rfl) h3 l3 a4 w4).mono fun e W' ⟨he, hb⟩ => ?_
  subst he
  exact ⟨_, rfl, LawKit.law_post LawBase.laidOut (by kernel_rfl) hW' rfl rfl (by kernel_rfl) Try.underlying4 hb⟩

theorem over : Rows.bucketLooksRow.holds Try.pinned (OpenSpec.ofChange Rows.bucketLooksSpec) :=
  OpenClaim.holds_of_wide 6 Try.f6 rfl rfl rfl rfl rfl rfl rfl ⟨rfl, rfl, rfl, rfl, rfl⟩ rfl rfl rfl rfl rfl (by kernel_rfl) Try.func6 (by kernel_rfl)
    (of_decide_eq_true (by kernel_rfl)) (by unfold Func.isWrapper; first | (rw [if_pos (by decide +kernel)]; kernel_rfl) | (rw [if_neg (by decide +kernel)]; exact ⟨rfl, rfl⟩))
    (fun os started H enc _ => lifted os started H enc)

/-- THE STATEMENT -/
theorem proved : Rows.BucketLooksSaid :=
  over
end Go.Proofs.Ytlajneljcmaiiaa.BucketLooksL
