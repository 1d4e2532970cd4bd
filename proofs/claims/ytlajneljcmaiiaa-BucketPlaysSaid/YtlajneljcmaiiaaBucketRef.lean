/- The document's own bucket: what each call does to its state. -/
import Derived.Test.YtlajneljcmaiiaaBucketOps
namespace Go.Proofs.Ytlajneljcmaiiaa.BucketRef
open Go.ChangeShapes Go.WideShapes Go.ChangeAt Go.RowKit BucketPure BucketObj BucketOps Mem

theorem after_after {b : B} (h : Ok b) {j now : Int} : after (after b j now) 1 now = after b (j + 1) now := by
  have := h.f1
  unfold after
  simp only [Int.one_mul, Int.add_mul]
  congr 1 <;> omega
theorem after_zero {b : B} (h : Ok b) {now : Int} : after b 0 now = { b with told := now } := by
  have := h.t2
  unfold after
  simp only [Int.zero_mul]
  congr 1 <;> omega
/-- many fillings by the rule -/
theorem rule {b : B} (h : Ok b) (k : Int) : ((b.most - b.tokens) / b.fill + 1 ≤ k → b.most ≤ b.tokens + k * b.fill) ∧ (k < (b.most - b.tokens) / b.fill + 1 → b.tokens + k * b.fill ≤ b.most) := by
  have hf := h.f1
  obtain ⟨h1, h2⟩ := (quo_iff (b.most - b.tokens) b.fill _ hf).1 rfl
  generalize (b.most - b.tokens) / b.fill = q at *
  constructor
  · intro hk
    have := Int.mul_le_mul_of_nonneg_right hk (show 0 ≤ b.fill by omega)
    rw [Int.add_mul] at this
    omega
  · intro hk
    have := Int.mul_le_mul_of_nonneg_right (show k ≤ q by omega) (show 0 ≤ b.fill by omega)
    omega
/-- the fillings so far -/
def RInv (w : World) (g : Nat) (b : B) (now : Int) (wr : World) : Prop :=
  ∃ j : Int, 0 ≤ j ∧ b.filled + j * b.every ≤ now ∧ Bk wr g 53 (after b j now) ∧ w.grownBy wr (some g)
set_option maxHeartbeats 1600000 in
set_option maxRecDepth 100000 in
/-- one filling -/
theorem reckon_any (g : Nat) (b : B) (now : Int) (ok : Ok b) (w : World) (h : Bk w g 53 b) :
    Calls Try.prog 19 #[.pointer (some ⟨g, 0, none⟩), .int .i64 now] w fun e w' => e = .returned (.int .i64 (passE b now)) ∧ Bk w' g 53 (passB b now) ∧ w.grownBy w' (some g) := by
  by_cases hl : late b now
  · have e1 : passE b now = 20 := by unfold passE; rw [if_pos hl]
    have e2 : passB b now = b := by unfold passB; rw [if_pos hl]
    rw [e1, e2]
    have c5 := h.cell 5
    have hx : now < b.told ∨ (¬ now < b.told ∧ 1099511627776 < now) := by unfold late at hl; omega
    clear hl e1 e2
    rcases hx with hx | ⟨h1, hx⟩
    all_goals
      go_enter Try.func19, Try.ntmps19
      go_wp2_with fail
      go_ret
      exact ⟨rfl, h, World.grownBy.refl w _⟩
  · have e1 : passE b now = 0 := by unfold passE; rw [if_neg hl]
    have e2 : passB b now = pass b now := by unfold passB; rw [if_neg hl]
    rw [e1, e2]
    have h1 : ¬ now < b.told := by unfold late at hl; omega
    have h2 : ¬ 1099511627776 < now := by unfold late at hl; omega
    have hl1 := ok.l1
    have hl2 := ok.l2
    clear hl e1 e2
    have c5 := h.cell 5
    have f5 := h.free 5
    go_enter Try.func19, Try.ntmps19
    go_wp2_with fail
    have R0 : Hid (RInv w g b now (w.setCell ⟨g, 5, none⟩ (.int .i64 now))) := Lib.hid ⟨0, Int.le_refl _, by omega, by rw [after_zero ok]; exact h.set_ 5 _, own_set (World.grownBy.refl w (some g)) 5 (.int .i64 now)⟩
    clear c5 f5 h
    generalize (w.setCell _ _) = w1 at *
    go_loopw [5] (fun i wr => ∃ k : Nat, k ≤ 100 ∧ i = .int .i64 k ∧ Hid (RInv w g b now wr)) (fun i _ => 100 - (intOf i).toNat)
    case atStart => exact ⟨0, by omega, rfl, R0⟩
    case round =>
      obtain ⟨k, hk, rfl, hI0⟩ := hrel
      obtain ⟨j, hj0, hj1, H, hg⟩ := hI0.out
      clear hI0 R0
      have okj : Ok (after b j now) := after_ok ok hj0 hj1 (by omega)
      have htj : (after b j now).told = now := rfl
      have hfin : pass (after b j now) now = pass b now := pass_after ok hj1
      have hstep : after (after b j now) 1 now = after b (j + 1) now := after_after ok
      have hsum : b.filled + (j + 1) * b.every = (after b j now).filled + (after b j now).every := by
        show _ = b.filled + j * b.every + b.every
        rw [Int.add_mul]
        omega
      have HF := Lib.hid hfin
      have HS := Lib.hid hstep
      have HSU := Lib.hid hsum
      have HJ := Lib.hid hj0
      have OKJ := Lib.hid okj
      clear hfin hstep hj1 hsum hj0 ok hl1 hl2 h1
      generalize after b j now = a at *
      have a1 := okj.m1
      have a2 := okj.m2
      have a3 := okj.f1
      have a4 := okj.f2
      have a5 := okj.e1
      have a6 := okj.e2
      have a7 := okj.t1
      have a8 := okj.t2
      have a9 := okj.l1
      have a10 := okj.l2
      rw [htj] at a10
      clear okj
      by_cases hgo : k < 100 ∧ a.filled ≤ now - a.every
      · obtain ⟨hk2, hfl⟩ := hgo
        have hki : (k : Int) < 100 := by omega
        have c2 := H.cell 2
        have c4 := H.cell 4
        have f4 := H.free 4
        go_wp2_with fail
        go_quiet (fail)
        have H1 := H.drewN nq
        have G1 := own_drewN hg nq
        clear H hg c2 c4 f4
        generalize (wr.drewN nq) = w2 at *
        have c2 := H1.cell 2
        have c4 := H1.cell 4
        have f4 := H1.free 4
        go_wp2_with fail
        go_region
        have H2 : Bk (w2.setCell ⟨g, 4, none⟩ (.int .i64 (a.filled + a.every))).drew g 53 { a with filled := a.filled + a.every } := (H1.set_ 4 _).drew
        have G2 := own_drew (own_set G1 4 (.int .i64 (a.filled + a.every)))
        clear H1 G1 c2 c4 f4
        generalize (w2.setCell _ _).drew = w3 at *
        have c1 := H2.cell 1
        have c3 := H2.cell 3
        have f3 := H2.free 3
        go_wp2_with fail
        go_region
        have H3 : Bk (w3.setCell ⟨g, 3, none⟩ (.int .i64 (a.tokens + a.fill))).drew g 53 { a with filled := a.filled + a.every, tokens := a.tokens + a.fill } := (H2.set_ 3 _).drew
        have G3 := own_drew (own_set G2 3 (.int .i64 (a.tokens + a.fill)))
        clear H2 G2 c1 c3 f3
        generalize (w3.setCell _ _).drew = w4 at *
        have c0 := H3.cell 0
        have c3 := H3.cell 3
        have f3 := H3.free 3
        by_cases hc : a.most < a.tokens + a.fill
        · have e : after a 1 now = { a with filled := a.filled + a.every, tokens := a.most } := by
            unfold after
            rw [← htj]
            simp only [Int.one_mul]
            congr 1
            omega
          have HE := Lib.hid e
          clear e
          go_wp2_with fail
          go_quiet (fail)
          have H4 := H3.drewN nq
          have G4 := own_drewN G3 nq
          clear H3 G3 c0 c3 f3
          generalize (w4.drewN nq) = w5 at *
          have c0 := H4.cell 0
          have c3 := H4.cell 3
          have f3 := H4.free 3
          have RR : Hid (RInv w g b now (w5.setCell ⟨g, 3, none⟩ (.int .i64 a.most))) := Lib.hid ⟨j + 1, by have := HJ.out; omega, by rw [HSU.out]; omega, by rw [← HS.out, HE.out]; exact H4.set_ 3 _, own_set G4 3 _⟩
          go_wp2_with fail
          go_roundw
          case rel => exact ⟨k + 1, by omega, by go_num, RR⟩
          case measure => simp [intOf]; omega
        · have e : after a 1 now = { a with filled := a.filled + a.every, tokens := a.tokens + a.fill } := by
            unfold after
            rw [← htj]
            simp only [Int.one_mul]
            congr 1
            omega
          have HE := Lib.hid e
          clear e
          go_wp2_with fail
          go_quiet (fail)
          have H4 := H3.drewN nq
          have G4 := own_drewN G3 nq
          clear H3 G3 c0 c3 f3
          generalize (w4.drewN nq) = w5 at *
          have RR : Hid (RInv w g b now w5) := Lib.hid ⟨j + 1, by have := HJ.out; omega, by rw [HSU.out]; omega, by rw [← HS.out, HE.out]; exact H4, G4⟩
          go_wp2_with fail
          go_roundw
          case rel => exact ⟨k + 1, by omega, by go_num, RR⟩
          case measure => simp [intOf]; omega
      · have c2 := H.cell 2
        have c4 := H.cell 4
        have hz : ¬ a.every = 0 := by omega
        have hK0 : 0 ≤ (now - a.filled) / a.every := Int.ediv_nonneg (by omega) (by omega)
        have hK1 : (now - a.filled) / a.every ≤ now - a.filled := Int.ediv_le_self _ (by omega)
        have HSP := Lib.hid (fillings_spec (b := a) a5 now)
        have HPA : Hid (pass b now = after a ((now - a.filled) / a.every) now) := Lib.hid HF.out.symm
        have HR := Lib.hid (rule OKJ.out)
        clear HF HS HSU HJ
        have hx : ((k : Int) < 100 ∧ now - a.every < a.filled) ∨ (¬ (k : Int) < 100 ∧ decide ((k : Int) < 100) = false) := by
          by_cases hk2 : k < 100
          · exact .inl ⟨by omega, by omega⟩
          · exact .inr ⟨by omega, decide_eq_false (by omega)⟩
        clear hgo hk
        rcases hx with ⟨hki, hfl⟩ | ⟨hki, hkd⟩
        all_goals
          go_wp2_with fail
          go_quiet (fail)
          have H1 := H.drewN nq
          have G1 := own_drewN hg nq
          clear H hg c2 c4 hki
          generalize (wr.drewN nq) = w2 at *
          have c2 := H1.cell 2
          have c4 := H1.cell 4
          go_wp2_with fail
          go_quiet (fail)
          have H2 := H1.drewN nq
          have G2 := own_drewN G1 nq
          clear H1 G1 c2 c4
          generalize (w2.drewN nq) = w3 at *
          have e1 : fillings a now = (now - a.filled) / a.every := rfl
          rw [e1] at HSP
          clear e1
          generalize (now - a.filled) / a.every = K at *
          have hs1 : K * a.every ≤ now - a.filled := HSP.out.1
          have hs0 : 0 ≤ K * a.every := Int.mul_nonneg hK0 (by omega)
          have hf0 : 0 ≤ K * a.fill := Int.mul_nonneg hK0 (by omega)
          have c0 := H2.cell 0
          have c3 := H2.cell 3
          by_cases hK : 0 < K
          · by_cases hTM : a.tokens < a.most
            · go_wp2_with fail
              go_quiet (fail)
              have H3 := H2.drewN nq
              have G3 := own_drewN G2 nq
              clear H2 G2 c0 c3
              generalize (w3.drewN nq) = w4 at *
              have c0 := H3.cell 0
              have c3 := H3.cell 3
              go_wp2_with fail
              go_quiet (fail)
              have H4 := H3.drewN nq
              have G4 := own_drewN G3 nq
              clear H3 G3 c0 c3
              generalize (w4.drewN nq) = w5 at *
              have c1 := H4.cell 1
              have hzf : ¬ a.fill = 0 := by omega
              have hm0 : 0 ≤ (a.most - a.tokens) / a.fill := Int.ediv_nonneg (by omega) (by omega)
              have hm1 : (a.most - a.tokens) / a.fill ≤ a.most - a.tokens := Int.ediv_le_self _ (by omega)
              obtain ⟨r1, r2⟩ := HR.out K
              have c0 := H4.cell 0
              have c3 := H4.cell 3
              have f3 := H4.free 3
              by_cases hq : (a.most - a.tokens) / a.fill + 1 ≤ K
              · have r3 := r1 hq
                have HE : Hid (pass b now = { a with tokens := a.most, filled := a.filled + K * a.every }) := Lib.hid (by
                  rw [HPA.out]
                  unfold after
                  rw [← htj]
                  congr 1
                  omega)
                clear r1 r2 r3
                go_wp2_with fail
                have H6 : Bk _ g 53 { a with tokens := a.most } := H4.set_ 3 (.int .i64 a.most)
                have G6 := own_set G4 3 (.int .i64 a.most)
                clear H4 G4 c0 c1 c3 f3
                generalize (World.setCell _ _ _) = w7 at *
                have c2 := H6.cell 2
                have c4 := H6.cell 4
                have f4 := H6.free 4
                go_wp2_with fail
                go_region
                have H8 : Bk _ g 53 { a with tokens := a.most, filled := a.filled + K * a.every } := (H6.set_ 4 (.int .i64 (a.filled + K * a.every))).drew
                have G8 := own_drew (own_set G6 4 (.int .i64 (a.filled + K * a.every)))
                clear H6 G6 c2 c4 f4
                generalize (World.setCell _ _ _).drew = w8 at *
                have c0 := H8.cell 0
                have c3 := H8.cell 3
                go_wp2_with fail
                go_quiet (fail)
                go_wp2_with fail
                go_ret
                rw [HE.out]
                exact ⟨rfl, H8.drewN _, own_drewN G8 _⟩
              · have r3 := r2 (by omega)
                have HE : Hid (pass b now = { a with tokens := a.tokens + K * a.fill, filled := a.filled + K * a.every }) := Lib.hid (by
                  rw [HPA.out]
                  unfold after
                  rw [← htj]
                  congr 1
                  omega)
                clear r1 r2
                go_wp2_with fail
                go_region
                have H6 : Bk _ g 53 { a with tokens := a.tokens + K * a.fill } := (H4.set_ 3 (.int .i64 (a.tokens + K * a.fill))).drew
                have G6 := own_drew (own_set G4 3 (.int .i64 (a.tokens + K * a.fill)))
                clear H4 G4 c0 c1 c3 f3
                generalize (World.setCell _ _ _).drew = w7 at *
                have c2 := H6.cell 2
                have c4 := H6.cell 4
                have f4 := H6.free 4
                go_wp2_with fail
                go_region
                have H8 : Bk _ g 53 { a with tokens := (a.tokens + K * a.fill), filled := a.filled + K * a.every } := (H6.set_ 4 (.int .i64 (a.filled + K * a.every))).drew
                have G8 := own_drew (own_set G6 4 (.int .i64 (a.filled + K * a.every)))
                clear H6 G6 c2 c4 f4
                generalize (World.setCell _ _ _).drew = w8 at *
                have c0 := H8.cell 0
                have c3 := H8.cell 3
                go_wp2_with fail
                go_quiet (fail)
                go_wp2_with fail
                go_ret
                rw [HE.out]
                exact ⟨rfl, H8.drewN _, own_drewN G8 _⟩
            · have hTd : decide (a.tokens < a.most) = false := decide_eq_false hTM
              have hTe : a.tokens = a.most := by omega
              have HE : Hid (pass b now = { a with tokens := a.tokens, filled := a.filled + K * a.every }) := Lib.hid (by
                rw [HPA.out]
                unfold after
                rw [← htj]
                congr 1
                omega)
              go_wp2_with fail
              go_quiet (fail)
              have H3 := H2.drewN nq
              have G3 := own_drewN G2 nq
              clear H2 G2 c0 c3
              generalize (w3.drewN nq) = w4 at *
              have c2 := H3.cell 2
              have c4 := H3.cell 4
              have f4 := H3.free 4
              go_wp2_with fail
              go_region
              have H8 : Bk _ g 53 { a with tokens := a.tokens, filled := a.filled + K * a.every } := (H3.set_ 4 (.int .i64 (a.filled + K * a.every))).drew
              have G8 := own_drew (own_set G3 4 (.int .i64 (a.filled + K * a.every)))
              clear H3 G3 c2 c4 f4
              generalize (World.setCell _ _ _).drew = w8 at *
              have c0 := H8.cell 0
              have c3 := H8.cell 3
              go_wp2_with fail
              go_quiet (fail)
              go_wp2_with fail
              go_ret
              rw [HE.out]
              exact ⟨rfl, H8.drewN _, own_drewN G8 _⟩
          · have hKd : decide (0 < K) = false := decide_eq_false hK
            have hKe : K = 0 := by omega
            have HE : Hid (pass b now = { a with tokens := a.tokens, filled := a.filled + K * a.every }) := Lib.hid (by
              rw [HPA.out]
              unfold after
              rw [← htj]
              congr 1
              subst hKe
              omega)
            clear hKe
            go_wp2_with fail
            go_quiet (fail)
            have H3 := H2.drewN nq
            have G3 := own_drewN G2 nq
            clear H2 G2 c0 c3
            generalize (w3.drewN nq) = w4 at *
            have c2 := H3.cell 2
            have c4 := H3.cell 4
            have f4 := H3.free 4
            go_wp2_with fail
            go_region
            have H8 : Bk _ g 53 { a with tokens := a.tokens, filled := a.filled + K * a.every } := (H3.set_ 4 (.int .i64 (a.filled + K * a.every))).drew
            have G8 := own_drew (own_set G3 4 (.int .i64 (a.filled + K * a.every)))
            clear H3 G3 c2 c4 f4
            generalize (World.setCell _ _ _).drew = w8 at *
            have c0 := H8.cell 0
            have c3 := H8.cell 3
            go_wp2_with fail
            go_quiet (fail)
            go_wp2_with fail
            go_ret
            rw [HE.out]
            exact ⟨rfl, H8.drewN _, own_drewN G8 _⟩
end Go.Proofs.Ytlajneljcmaiiaa.BucketRef
