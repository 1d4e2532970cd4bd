/- Layer 3's bucket: New, Take, Tokens, Wait of the program's. -/
import Derived.Test.YtlajneljcmaiiaaBucketObj
namespace Go.Proofs.Ytlajneljcmaiiaa.BucketOps
open Go.ChangeShapes Go.WideShapes Go.ChangeAt Go.RowKit BucketPure BucketObj Mem

/-- why no bucket is made (0: it is made) -/
def newE (m f e now : Int) : Int := if fits m && fits f && fits e then (if 0 ≤ now ∧ now ≤ 1099511627776 then 0 else 20) else 30
theorem new_ok (m f e now : Int) (hE : newE m f e now = 0) (w : World) :
    Calls Try.prog 9 #[.int .i64 m, .int .i64 f, .int .i64 e, .int .i64 now] w fun x w' => x = .returned (.tuple #[.pointer (some ⟨w.heap.size, 0, none⟩), .int .i64 0]) ∧
      w.alloc (.cells #[.int .i64 m, .int .i64 f, .int .i64 e, .int .i64 m, .int .i64 now, .int .i64 now] 51) = w' := by
  unfold newE at hE
  by_cases hm : fits m = true
  · by_cases hf : fits f = true
    · by_cases he : fits e = true
      · rw [hm, hf, he] at hE
        have h0 : 0 ≤ now := by simp at hE; omega
        have h1 : now ≤ 1099511627776 := by simp at hE; omega
        clear hE
        go_enter Try.func9, Try.ntmps9
        go_wp2_with (first | (go_at_call 17; refine (bounded_any _ _).mono ?_; rintro e w' ⟨rfl, rfl⟩; first | rw [hm] | rw [hf] | rw [he]))
        go_ret2
        exact ⟨rfl, rfl⟩
      · simp [he] at hE
    · simp [hf] at hE
  · simp [hm] at hE
theorem new_bad (m f e now : Int) (hE : newE m f e now ≠ 0) (w : World) :
    Calls Try.prog 9 #[.int .i64 m, .int .i64 f, .int .i64 e, .int .i64 now] w fun x w' => x = .returned (.tuple #[.pointer none, .int .i64 (newE m f e now)]) ∧ w = w' := by
  unfold newE at hE ⊢
  by_cases hm : fits m = true
  · by_cases hf : fits f = true
    · by_cases he : fits e = true
      · rw [hm, hf, he] at hE ⊢
        have h0 : now < 0 ∨ (0 ≤ now ∧ 1099511627776 < now) := by simp at hE; omega
        have e0 : (if (true && true && true) = true then (if 0 ≤ now ∧ now ≤ 1099511627776 then 0 else 20) else 30) = (20 : Int) := by rw [if_pos (by rfl), if_neg (by omega)]
        rw [e0]
        clear e0 hE
        rcases h0 with h0 | ⟨h0, h1⟩
        all_goals
          go_enter Try.func9, Try.ntmps9
          go_wp2_with (first | (go_at_call 17; refine (bounded_any _ _).mono ?_; rintro e w' ⟨rfl, rfl⟩; first | rw [hm] | rw [hf] | rw [he]))
          go_ret2
          exact ⟨rfl, rfl⟩
      · have he : fits e = false := by simpa using he
        rw [hm, hf, he]
        clear hE
        go_enter Try.func9, Try.ntmps9
        go_wp2_with (first | (go_at_call 17; refine (bounded_any _ _).mono ?_; rintro e w' ⟨rfl, rfl⟩; first | rw [hm] | rw [hf] | rw [he]))
        go_ret2
        exact ⟨rfl, rfl⟩
    · have hf : fits f = false := by simpa using hf
      rw [hm, hf]
      clear hE
      go_enter Try.func9, Try.ntmps9
      go_wp2_with (first | (go_at_call 17; refine (bounded_any _ _).mono ?_; rintro e w' ⟨rfl, rfl⟩; first | rw [hm] | rw [hf]))
      go_ret2
      exact ⟨rfl, rfl⟩
  · have hm : fits m = false := by simpa using hm
    rw [hm]
    clear hE
    go_enter Try.func9, Try.ntmps9
    go_wp2_with (first | (go_at_call 17; refine (bounded_any _ _).mono ?_; rintro e w' ⟨rfl, rfl⟩; rw [hm]))
    go_ret2
    exact ⟨rfl, rfl⟩
/-- Take: what it says, and the bucket behind it -/
def takeR (b : B) (now n : Int) : Bool := if late b now then false else can (pass b now) n
def takeB (b : B) (now n : Int) : B := if late b now then b else less (pass b now) n
theorem takeB_ok {b : B} (h : Ok b) (now n : Int) : Ok (takeB b now n) := by
  have := passB_ok h now
  unfold takeB
  unfold passB at this
  split
  · exact h
  · rename_i hl
    rw [if_neg hl] at this
    exact less_ok this n
def tokR (b : B) (now : Int) : Int := if late b now then 0 else (pass b now).tokens
def waitR (b : B) (now n : Int) : Int := if late b now then 0 else wait (pass b now) n
theorem tokens_any (g : Nat) (b : B) (now : Int) (ok : Ok b) (w : World) (h : Bk w g 51 b) :
    Calls Try.prog 13 #[.pointer (some ⟨g, 0, none⟩), .int .i64 now] w fun e w' => e = .returned (.tuple #[.int .i64 (tokR b now), .int .i64 (passE b now)]) ∧ Bk w' g 51 (passB b now) ∧ w.grownBy w' (some g) := by
  by_cases hl : late b now
  · have e1 : passE b now = 20 := by unfold passE; rw [if_pos hl]
    have e2 : tokR b now = 0 := by unfold tokR; rw [if_pos hl]
    rw [e1, e2]
    go_enter Try.func13, Try.ntmps13
    go_wp2_with fail
    refine (pass_any g b now ok _ h).mono ?_
    rintro e w' ⟨rfl, h', hg⟩
    rw [e1]
    go_wp2_with fail
    go_ret2
    exact ⟨rfl, h', hg⟩
  · have e1 : passE b now = 0 := by unfold passE; rw [if_neg hl]
    have e2 : tokR b now = (passB b now).tokens := by unfold tokR passB; rw [if_neg hl, if_neg hl]
    rw [e1, e2]
    clear e2
    generalize hB : passB b now = b'
    have HB := Lib.hid hB
    clear hB
    go_enter Try.func13, Try.ntmps13
    go_wp2_with fail
    refine (pass_any g b now ok _ h).mono ?_
    rintro e w' ⟨rfl, h', hg⟩
    rw [e1]
    rw [HB.out] at h'
    clear e1
    have c3 := h'.cell 3
    go_wp2_with fail
    go_ret2
    exact ⟨rfl, h', hg⟩
theorem wait_any (g : Nat) (b : B) (now n : Int) (ok : Ok b) (w : World) (h : Bk w g 51 b) :
    Calls Try.prog 15 #[.pointer (some ⟨g, 0, none⟩), .int .i64 now, .int .i64 n] w fun e w' => e = .returned (.tuple #[.int .i64 (waitR b now n), .int .i64 (passE b now)]) ∧ Bk w' g 51 (passB b now) ∧ w.grownBy w' (some g) := by
  by_cases hl : late b now
  · have e1 : passE b now = 20 := by unfold passE; rw [if_pos hl]
    have e2 : waitR b now n = 0 := by unfold waitR; rw [if_pos hl]
    rw [e1, e2]
    go_enter Try.func15, Try.ntmps15
    go_wp2_with fail
    refine (pass_any g b now ok _ h).mono ?_
    rintro e w' ⟨rfl, h', hg⟩
    rw [e1]
    go_wp2_with fail
    go_ret2
    exact ⟨rfl, h', hg⟩
  · have e1 : passE b now = 0 := by unfold passE; rw [if_neg hl]
    have e2 : waitR b now n = wait (passB b now) n := by unfold waitR passB; rw [if_neg hl, if_neg hl]
    have e3 : (passB b now).told = now := by unfold passB; rw [if_neg hl]; rfl
    rw [e1, e2]
    have ok' := passB_ok ok now
    clear e2
    generalize hB : passB b now = b' at *
    have HB := Lib.hid hB
    clear hB hl
    subst e3
    go_enter Try.func15, Try.ntmps15
    go_wp2_with fail
    refine (pass_any g b _ ok _ h).mono ?_
    rintro e w' ⟨rfl, h', hg⟩
    rw [e1]
    rw [HB.out] at h'
    clear e1
    have c0 := h'.cell 0
    have c2 := h'.cell 2
    have c3 := h'.cell 3
    have c4 := h'.cell 4
    by_cases h1 : n ≤ b'.tokens
    · have e4 : wait b' n = 0 := by unfold wait; rw [if_pos h1]
      have E4 := Lib.hid e4
      clear e4
      go_wp2_with fail
      go_ret2
      rw [E4.out]
      exact ⟨rfl, h', hg⟩
    · by_cases h2 : b'.most < n
      · have e4 : wait b' n = -1 := by unfold wait; rw [if_neg h1, if_pos h2]
        have E4 := Lib.hid e4
        clear e4
        go_wp2_with fail
        go_ret2
        rw [E4.out]
        exact ⟨rfl, h', hg⟩
      · have e4 : wait b' n = b'.filled + missing b' n * b'.every - b'.told := by unfold wait; rw [if_neg h1, if_neg h2]
        have E4 := Lib.hid e4
        have hm := missing_bd (b := b') ok'.f1 (n := n) (by omega)
        have hmm := ok'.m2
        have ht := ok'.t1
        have hM1 : missing b' n ≤ 1073741824 := by omega
        have he1 := ok'.e1
        have he2 := ok'.e2
        have p0 : 0 ≤ missing b' n * b'.every := Int.mul_nonneg hm.1 (by omega)
        have p1 : missing b' n * b'.every ≤ 1073741824 * 1073741824 := Int.mul_le_mul hM1 he2 (by omega) (by omega)
        have hl1 := ok'.l1
        have hl2 := ok'.l2
        have hn2 := ok'.n2
        clear e4 hm hM1
        go_wp2_with fail
        have okm1 := ok'.f1
        have okm2 := ok'.f2
        go_quiet (first | (go_at_call 20; exact Calls.quiet_of (missing_any g b' n okm1 okm2 ht (by omega) (by omega) _ (h'.drewN _))))
        go_wp2_with fail
        go_ret2
        rw [E4.out]
        exact ⟨rfl, h'.drewN _, own_drewN hg _⟩
theorem take_any (g : Nat) (b : B) (now n : Int) (ok : Ok b) (w : World) (h : Bk w g 51 b) :
    Calls Try.prog 11 #[.pointer (some ⟨g, 0, none⟩), .int .i64 now, .int .i64 n] w fun e w' => e = .returned (.tuple #[.bool (takeR b now n), .int .i64 (passE b now)]) ∧ Bk w' g 51 (takeB b now n) ∧ w.grownBy w' (some g) := by
  by_cases hl : late b now
  · have e1 : passE b now = 20 := by unfold passE; rw [if_pos hl]
    have e2 : takeR b now n = false := by unfold takeR; rw [if_pos hl]
    have e3 : takeB b now n = passB b now := by unfold takeB passB; rw [if_pos hl, if_pos hl]
    rw [e1, e2, e3]
    go_enter Try.func11, Try.ntmps11
    go_wp2_with fail
    refine (pass_any g b now ok _ h).mono ?_
    rintro e w' ⟨rfl, h', hg⟩
    rw [e1]
    go_wp2_with fail
    go_ret2
    exact ⟨rfl, h', hg⟩
  · have e1 : passE b now = 0 := by unfold passE; rw [if_neg hl]
    have e2 : takeR b now n = can (passB b now) n := by unfold takeR passB; rw [if_neg hl, if_neg hl]
    have e3 : takeB b now n = less (passB b now) n := by unfold takeB passB; rw [if_neg hl, if_neg hl]
    rw [e1, e2, e3]
    have ok' := passB_ok ok now
    clear e2 e3
    generalize hB : passB b now = b' at *
    have HB := Lib.hid hB
    clear hB hl
    go_enter Try.func11, Try.ntmps11
    go_wp2_with fail
    refine (pass_any g b _ ok _ h).mono ?_
    rintro e w' ⟨rfl, h', hg⟩
    rw [e1]
    rw [HB.out] at h'
    clear e1
    have c3 := h'.cell 3
    have f3 := h'.free 3
    by_cases h1 : 1 ≤ n
    · by_cases h2 : n ≤ b'.tokens
      · have e4 : can b' n = true := decide_eq_true ⟨h1, h2⟩
        have e5 : less b' n = { b' with tokens := b'.tokens - n } := by unfold less; rw [if_pos e4]
        have E4 := Lib.hid e4
        have E5 := Lib.hid e5
        have hm2 := ok'.m2
        have ht2 := ok'.t2
        clear e4 e5
        go_wp2_with fail
        go_ret2
        rw [E4.out, E5.out]
        exact ⟨rfl, h'.set_ 3 _, own_set hg 3 _⟩
      · have e4 : can b' n = false := decide_eq_false (by omega)
        have e5 : less b' n = b' := by unfold less; rw [if_neg (by simp [e4])]
        have E4 := Lib.hid e4
        have E5 := Lib.hid e5
        clear e4 e5
        go_wp2_with fail
        go_ret2
        rw [E4.out, E5.out]
        exact ⟨rfl, h', hg⟩
    · have e4 : can b' n = false := decide_eq_false (by omega)
      have e5 : less b' n = b' := by unfold less; rw [if_neg (by simp [e4])]
      have E4 := Lib.hid e4
      have E5 := Lib.hid e5
      clear e4 e5
      go_wp2_with fail
      go_ret2
      rw [E4.out, E5.out]
      exact ⟨rfl, h', hg⟩
end Go.Proofs.Ytlajneljcmaiiaa.BucketOps
