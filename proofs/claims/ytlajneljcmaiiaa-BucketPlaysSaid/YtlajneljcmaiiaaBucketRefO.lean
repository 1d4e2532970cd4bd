/- The document's own bucket: New, Take, Count, Wait. -/
import Derived.Test.YtlajneljcmaiiaaBucketRef
namespace Go.Proofs.Ytlajneljcmaiiaa.BucketRefO
open Go.ChangeShapes Go.WideShapes Go.ChangeAt Go.RowKit BucketPure BucketObj BucketOps BucketRef Mem

theorem newE_ok {m f e now : Int} (hE : newE m f e now = 0) : (1 ≤ m ∧ m ≤ 1073741824) ∧ (1 ≤ f ∧ f ≤ 1073741824) ∧ (1 ≤ e ∧ e ≤ 1073741824) ∧ 0 ≤ now ∧ now ≤ 1099511627776 := by
  unfold newE at hE
  by_cases h : (fits m && fits f && fits e) = true
  · rw [if_pos h] at hE
    simp only [Bool.and_eq_true] at h
    obtain ⟨⟨h1, h2⟩, h3⟩ := h
    refine ⟨of_decide_eq_true h1, of_decide_eq_true h2, of_decide_eq_true h3, ?_⟩
    by_cases hn : 0 ≤ now ∧ now ≤ 1099511627776
    · exact hn
    · rw [if_neg hn] at hE; omega
  · rw [if_neg h] at hE; omega
theorem newE_20 {m f e now : Int} (h1 : 1 ≤ m ∧ m ≤ 1073741824) (h2 : 1 ≤ f ∧ f ≤ 1073741824) (h3 : 1 ≤ e ∧ e ≤ 1073741824) (hn : ¬ (0 ≤ now ∧ now ≤ 1099511627776)) : newE m f e now = 20 := by
  unfold newE
  rw [show fits m = true from decide_eq_true h1, show fits f = true from decide_eq_true h2, show fits e = true from decide_eq_true h3, if_pos (show (true && true && true) = true from rfl), if_neg hn]
theorem newE_30 {m f e now : Int} (h : ¬ ((1 ≤ m ∧ m ≤ 1073741824) ∧ (1 ≤ f ∧ f ≤ 1073741824) ∧ (1 ≤ e ∧ e ≤ 1073741824))) : newE m f e now = 30 := by
  unfold newE
  rw [if_neg]
  intro hb
  simp only [Bool.and_eq_true] at hb
  exact h ⟨of_decide_eq_true hb.1.1, of_decide_eq_true hb.1.2, of_decide_eq_true hb.2⟩
theorem rnew_ok (m f e now : Int) (hE : newE m f e now = 0) (w : World) :
    Calls Try.prog 10 #[.int .i64 m, .int .i64 f, .int .i64 e, .int .i64 now] w fun x w' => x = .returned (.tuple #[.pointer (some ⟨w.heap.size, 0, none⟩), .int .i64 0]) ∧
      w.alloc (.cells #[.int .i64 m, .int .i64 f, .int .i64 e, .int .i64 m, .int .i64 now, .int .i64 now] 53) = w' := by
  obtain ⟨⟨h1, h2⟩, ⟨h3, h4⟩, ⟨h5, h6⟩, h7, h8⟩ := newE_ok hE
  clear hE
  go_enter Try.func10, Try.ntmps10
  go_wp2_with fail
  go_ret2
  exact ⟨rfl, rfl⟩
theorem rnew_bad (m f e now : Int) (hE : newE m f e now ≠ 0) (w : World) :
    Calls Try.prog 10 #[.int .i64 m, .int .i64 f, .int .i64 e, .int .i64 now] w fun x w' => x = .returned (.tuple #[.pointer none, .int .i64 (newE m f e now)]) ∧ w = w' := by
  rcases Int.lt_or_le m 1 with hx | c0
  rotate_left
  rcases Int.lt_or_le 1073741824 m with hx | c1
  rotate_left
  rcases Int.lt_or_le f 1 with hx | c2
  rotate_left
  rcases Int.lt_or_le 1073741824 f with hx | c3
  rotate_left
  rcases Int.lt_or_le e 1 with hx | c4
  rotate_left
  rcases Int.lt_or_le 1073741824 e with hx | c5
  rotate_left
  · have e20 : newE m f e now = 20 := newE_20 ⟨c0, c1⟩ ⟨c2, c3⟩ ⟨c4, c5⟩ (fun hn => hE (by
      unfold newE
      rw [show fits m = true from decide_eq_true ⟨c0, c1⟩, show fits f = true from decide_eq_true ⟨c2, c3⟩, show fits e = true from decide_eq_true ⟨c4, c5⟩, if_pos (show (true && true && true) = true from rfl), if_pos hn]))
    have hn : now < 0 ∨ (0 ≤ now ∧ 1099511627776 < now) := by
      by_cases h : now < 0
      · exact .inl h
      · refine .inr ⟨by omega, ?_⟩
        rcases Int.lt_or_le 1099511627776 now with h2 | h2
        · exact h2
        · exfalso
          refine hE ?_
          unfold newE
          rw [show fits m = true from decide_eq_true ⟨c0, c1⟩, show fits f = true from decide_eq_true ⟨c2, c3⟩, show fits e = true from decide_eq_true ⟨c4, c5⟩, if_pos (show (true && true && true) = true from rfl), if_pos ⟨by omega, h2⟩]
    rw [e20]
    clear hE e20
    rcases hn with hn | ⟨h0, hn⟩
    all_goals
      go_enter Try.func10, Try.ntmps10
      go_wp2_with fail
      go_ret2
      exact ⟨rfl, rfl⟩
  all_goals
    have e30 : newE m f e now = 30 := newE_30 (by omega)
    rw [e30]
    clear hE e30
    go_enter Try.func10, Try.ntmps10
    go_wp2_with fail
    go_ret2
    exact ⟨rfl, rfl⟩
theorem count_any (g : Nat) (b : B) (now : Int) (ok : Ok b) (w : World) (h : Bk w g 53 b) :
    Calls Try.prog 14 #[.pointer (some ⟨g, 0, none⟩), .int .i64 now] w fun e w' => e = .returned (.tuple #[.int .i64 (tokR b now), .int .i64 (passE b now)]) ∧ Bk w' g 53 (passB b now) ∧ w.grownBy w' (some g) := by
  by_cases hl : late b now
  · have e1 : passE b now = 20 := by unfold passE; rw [if_pos hl]
    have e2 : tokR b now = 0 := by unfold tokR; rw [if_pos hl]
    rw [e1, e2]
    go_enter Try.func14, Try.ntmps14
    go_wp2_with fail
    refine (reckon_any g b now ok _ h).mono ?_
    rintro e w' ⟨rfl, h', hg⟩
    rw [e1]
    go_wp2_with fail
    go_ret2
    exact ⟨rfl, h', hg⟩
  · have e1 : passE b now = 0 := by unfold passE; rw [if_neg hl]
    have e2 : tokR b now = (passB b now).tokens := by unfold tokR passB; rw [if_neg hl, if_neg hl]
    rw [e1, e2]
    clear e2
    generalize hB : passB b now = b'
    have HB := Lib.hid hB
    clear hB
    go_enter Try.func14, Try.ntmps14
    go_wp2_with fail
    refine (reckon_any g b now ok _ h).mono ?_
    rintro e w' ⟨rfl, h', hg⟩
    rw [e1]
    rw [HB.out] at h'
    clear e1
    have c3 := h'.cell 3
    go_wp2_with fail
    go_ret2
    exact ⟨rfl, h', hg⟩
theorem rwait_any (g : Nat) (b : B) (now n : Int) (ok : Ok b) (w : World) (h : Bk w g 53 b) :
    Calls Try.prog 16 #[.pointer (some ⟨g, 0, none⟩), .int .i64 now, .int .i64 n] w fun e w' => e = .returned (.tuple #[.int .i64 (waitR b now n), .int .i64 (passE b now)]) ∧ Bk w' g 53 (passB b now) ∧ w.grownBy w' (some g) := by
  by_cases hl : late b now
  · have e1 : passE b now = 20 := by unfold passE; rw [if_pos hl]
    have e2 : waitR b now n = 0 := by unfold waitR; rw [if_pos hl]
    rw [e1, e2]
    go_enter Try.func16, Try.ntmps16
    go_wp2_with fail
    refine (reckon_any g b now ok _ h).mono ?_
    rintro e w' ⟨rfl, h', hg⟩
    rw [e1]
    go_wp2_with fail
    go_ret2
    exact ⟨rfl, h', hg⟩
  · have e1 : passE b now = 0 := by unfold passE; rw [if_neg hl]
    have e2 : waitR b now n = wait (passB b now) n := by unfold waitR passB; rw [if_neg hl, if_neg hl]
    have e3 : (passB b now).told = now := by unfold passB; rw [if_neg hl]; rfl
    rw [e1, e2]
    have ok' := passB_ok ok now
    clear e2
    generalize hB : passB b now = b' at *
    have HB := Lib.hid hB
    clear hB hl
    subst e3
    go_enter Try.func16, Try.ntmps16
    go_wp2_with fail
    refine (reckon_any g b _ ok _ h).mono ?_
    rintro e w' ⟨rfl, h', hg⟩
    rw [e1]
    rw [HB.out] at h'
    clear e1
    have c0 := h'.cell 0
    have c2 := h'.cell 2
    have c3 := h'.cell 3
    have c4 := h'.cell 4
    by_cases h1 : n ≤ b'.tokens
    · have e4 : wait b' n = 0 := by unfold wait; rw [if_pos h1]
      have E4 := Lib.hid e4
      clear e4
      go_wp2_with fail
      go_ret2
      rw [E4.out]
      exact ⟨rfl, h', hg⟩
    · by_cases h2 : b'.most < n
      · have e4 : wait b' n = -1 := by unfold wait; rw [if_neg h1, if_pos h2]
        have E4 := Lib.hid e4
        clear e4
        go_wp2_with fail
        go_ret2
        rw [E4.out]
        exact ⟨rfl, h', hg⟩
      · have c1 := h'.cell 1
        have hm := missing_bd (b := b') ok'.f1 (n := n) (by omega)
        have hmm := ok'.m2
        have ht := ok'.t1
        have he1 := ok'.e1
        have he2 := ok'.e2
        have hf1 := ok'.f1
        have hl1 := ok'.l1
        have hl2 := ok'.l2
        have hn2 := ok'.n2
        have hz : ¬ b'.fill = 0 := by omega
        have hd0 : 0 ≤ (n - b'.tokens) / b'.fill := Int.ediv_nonneg (by omega) (by omega)
        have hd1 : (n - b'.tokens) / b'.fill ≤ n - b'.tokens := Int.ediv_le_self _ (by omega)
        obtain ⟨q1, q2⟩ := (quo_iff (n - b'.tokens) b'.fill _ hf1).1 rfl
        have hmod : (n - b'.tokens) % b'.fill = n - b'.tokens - (n - b'.tokens) / b'.fill * b'.fill := by
          have := Int.mul_ediv_add_emod (n - b'.tokens) b'.fill
          rw [Int.mul_comm] at this
          omega
        have hw : wait b' n = b'.filled - b'.told + missing b' n * b'.every := by unfold wait; rw [if_neg h1, if_neg h2]; omega
        have hM1 : missing b' n ≤ 1073741824 := by omega
        have p0 : 0 ≤ missing b' n * b'.every := Int.mul_nonneg hm.1 (by omega)
        have p1 : missing b' n * b'.every ≤ 1073741824 * 1073741824 := Int.mul_le_mul hM1 he2 (by omega) (by omega)
        by_cases hr : 0 < (n - b'.tokens) % b'.fill
        · have hq : missing b' n = (n - b'.tokens) / b'.fill + 1 := by
            refine (quo_iff _ _ _ hf1).2 ?_
            rw [Int.add_mul]
            omega
          rw [hq] at hw p0 p1
          have E4 := Lib.hid hw
          clear hw hq q1 q2 hmod hm hM1
          go_wp2_with fail
          go_quiet (fail)
          go_wp2_with fail
          go_ret2
          rw [E4.out]
          exact ⟨rfl, h'.drewN _, own_drewN hg _⟩
        · have hq : missing b' n = (n - b'.tokens) / b'.fill := by
            refine (quo_iff _ _ _ hf1).2 ?_
            have := Int.emod_nonneg (n - b'.tokens) hz
            omega
          rw [hq] at hw p0 p1
          have E4 := Lib.hid hw
          clear hw hq q1 q2 hmod hm hM1
          go_wp2_with fail
          go_quiet (fail)
          go_wp2_with fail
          go_ret2
          rw [E4.out]
          exact ⟨rfl, h'.drewN _, own_drewN hg _⟩
theorem rtake_any (g : Nat) (b : B) (now n : Int) (ok : Ok b) (w : World) (h : Bk w g 53 b) :
    Calls Try.prog 12 #[.pointer (some ⟨g, 0, none⟩), .int .i64 now, .int .i64 n] w fun e w' => e = .returned (.tuple #[.bool (takeR b now n), .int .i64 (passE b now)]) ∧ Bk w' g 53 (takeB b now n) ∧ w.grownBy w' (some g) := by
  by_cases hl : late b now
  · have e1 : passE b now = 20 := by unfold passE; rw [if_pos hl]
    have e2 : takeR b now n = false := by unfold takeR; rw [if_pos hl]
    have e3 : takeB b now n = passB b now := by unfold takeB passB; rw [if_pos hl, if_pos hl]
    rw [e1, e2, e3]
    go_enter Try.func12, Try.ntmps12
    go_wp2_with fail
    refine (reckon_any g b now ok _ h).mono ?_
    rintro e w' ⟨rfl, h', hg⟩
    rw [e1]
    go_wp2_with fail
    go_ret2
    exact ⟨rfl, h', hg⟩
  · have e1 : passE b now = 0 := by unfold passE; rw [if_neg hl]
    have e2 : takeR b now n = can (passB b now) n := by unfold takeR passB; rw [if_neg hl, if_neg hl]
    have e3 : takeB b now n = less (passB b now) n := by unfold takeB passB; rw [if_neg hl, if_neg hl]
    rw [e1, e2, e3]
    have ok' := passB_ok ok now
    clear e2 e3
    generalize hB : passB b now = b' at *
    have HB := Lib.hid hB
    clear hB hl
    go_enter Try.func12, Try.ntmps12
    go_wp2_with fail
    refine (reckon_any g b _ ok _ h).mono ?_
    rintro e w' ⟨rfl, h', hg⟩
    rw [e1]
    rw [HB.out] at h'
    clear e1
    have c3 := h'.cell 3
    have f3 := h'.free 3
    by_cases h1 : 1 ≤ n
    · by_cases h2 : n ≤ b'.tokens
      · have e4 : can b' n = true := decide_eq_true ⟨h1, h2⟩
        have e5 : less b' n = { b' with tokens := b'.tokens - n } := by unfold less; rw [if_pos e4]
        have E4 := Lib.hid e4
        have E5 := Lib.hid e5
        have hm2 := ok'.m2
        have ht2 := ok'.t2
        clear e4 e5
        go_wp2_with fail
        go_ret2
        rw [E4.out, E5.out]
        exact ⟨rfl, h'.set_ 3 _, own_set hg 3 _⟩
      · have e4 : can b' n = false := decide_eq_false (by omega)
        have e5 : less b' n = b' := by unfold less; rw [if_neg (by simp [e4])]
        have E4 := Lib.hid e4
        have E5 := Lib.hid e5
        clear e4 e5
        go_wp2_with fail
        go_ret2
        rw [E4.out, E5.out]
        exact ⟨rfl, h', hg⟩
    · have e4 : can b' n = false := decide_eq_false (by omega)
      have e5 : less b' n = b' := by unfold less; rw [if_neg (by simp [e4])]
      have E4 := Lib.hid e4
      have E5 := Lib.hid e5
      clear e4 e5
      go_wp2_with fail
      go_ret2
      rw [E4.out, E5.out]
      exact ⟨rfl, h', hg⟩
end Go.Proofs.Ytlajneljcmaiiaa.BucketRefO
