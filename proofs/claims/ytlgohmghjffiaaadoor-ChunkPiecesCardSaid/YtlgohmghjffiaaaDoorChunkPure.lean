/- Layer 10: bodies in chunks, read byte by byte, and written. No program is named. -/
import Derived.Test.YtlgohmghjffiaaaDoorLexNum
import Derived.Test.YtlgohmghjffiaaaDoorHeadPure
namespace Go.Proofs.YtlgohmghjffiaaaDoor.ChunkPure
open Bytes LexPure LexNum HeadPure
set_option maxRecDepth 20000
inductive Ph where
  | size
  | data (left : Nat)
  | after
  | trail (n : Nat)
  | done
  | bad (e : Int)
/-- where the reading stands: the line so far, whether a 13 stands behind it -/
structure M where
  most : Int
  size : Nat
  ph : Ph
  line : List UInt8
  cr : Bool
def begin_ (most : Int) : M := ⟨most, 0, .size, [], false⟩
def bound : Ph → Nat
  | .size => 64
  | .trail _ => 512
  | _ => 0
def extB (c : UInt8) : Bool := c == 9 || (decide (32 ≤ c) && decide (c ≤ 126))
/-- the size that a size line says, or -1 -/
def sizeL (l : List UInt8) : Int := if numOk 16 8 (l.takeWhile (fun c => c != 59)) = true then numR 16 8 (l.takeWhile (fun c => c != 59)) else -1
/-- a line has its semicolon or its colon -/
def parted (l : List UInt8) : Bool := l.any (fun c => c == 59 || c == 58)
/-- may c stand next in a size line, in a trailer? -/
def fitsSize (l : List UInt8) (c : UInt8) : Bool := if parted l = true then extB c else if c = 59 then !l.isEmpty else decide (dig c < 16) && decide (l.length < 8)
def fitsTrail (l : List UInt8) (c : UInt8) : Bool := if parted l = true then plainB c else if c = 58 then !l.isEmpty else markB c
def fits (ph : Ph) (l : List UInt8) (c : UInt8) : Bool :=
  match ph with
  | .size => decide (l.length < 64) && fitsSize l c
  | .trail _ => decide (l.length < 512) && fitsTrail l c
  | _ => false
theorem fits_bound {ph : Ph} {l : List UInt8} {c : UInt8} (h : fits ph l c = true) : l.length < bound ph := by
  unfold fits at h
  unfold bound
  split at h
  · rw [Bool.and_eq_true] at h; exact of_decide_eq_true h.1
  · rw [Bool.and_eq_true] at h; exact of_decide_eq_true h.1
  · cases h
def fail (m : M) (e : Int) : M := ⟨m.most, m.size, .bad e, [], false⟩
def goOn (m : M) (ph : Ph) : M := ⟨m.most, m.size, ph, [], false⟩
/-- a line's end -/
def endLine (m : M) : M :=
  match m.ph with
  | .size => if sizeL m.line < 0 then fail m 100 else if m.most < m.size + sizeL m.line then fail m 101 else if sizeL m.line = 0 then goOn m (.trail 0) else goOn m (.data (sizeL m.line).toNat)
  | .after => goOn m .size
  | .trail n => if m.line = [] then goOn m .done else if (field8 m.line).2 ≠ 0 ∨ n = 32 then fail m 100 else goOn m (.trail (n + 1))
  | _ => m
def lineStep (m : M) (c : UInt8) : M :=
  if m.cr then (if c = 10 then endLine m else fail m 100)
  else if c = 13 then { m with cr := true }
  else if fits m.ph m.line c = true then { m with line := m.line ++ [c] } else fail m 100
def bstep (m : M) (c : UInt8) : M × List UInt8 :=
  match m.ph with
  | .data left => (⟨m.most, m.size + 1, if left ≤ 1 then .after else .data (left - 1), m.line, m.cr⟩, [c])
  | .done => (m, [])
  | .bad _ => (m, [])
  | _ => (lineStep m c, [])
def stop (m : M) : Bool :=
  match m.ph with
  | .done => true
  | .bad _ => true
  | _ => false
def run : M → List UInt8 → M × List UInt8 × Nat
  | m, [] => (m, [], 0)
  | m, c :: l => if stop m = true then (m, [], 0) else ((run (bstep m c).1 l).1, (bstep m c).2 ++ (run (bstep m c).1 l).2.1, (run (bstep m c).1 l).2.2 + 1)
theorem run_stop {m : M} (h : stop m = true) (l : List UInt8) : run m l = (m, [], 0) := by
  cases l with
  | nil => rfl
  | cons c l => unfold run; rw [if_pos h]
theorem run_cons {m : M} (h : stop m = false) (c : UInt8) (l : List UInt8) : run m (c :: l) = ((run (bstep m c).1 l).1, (bstep m c).2 ++ (run (bstep m c).1 l).2.1, (run (bstep m c).1 l).2.2 + 1) := by
  conv => lhs; unfold run
  rw [if_neg (by rw [h]; decide)]
theorem run_append : ∀ (m : M) (a b : List UInt8), run m (a ++ b) = ((run (run m a).1 b).1, (run m a).2.1 ++ (run (run m a).1 b).2.1, (run m a).2.2 + (run (run m a).1 b).2.2)
  | m, [], b => by
    rw [List.nil_append]
    show run m b = ((run m b).1, [] ++ (run m b).2.1, 0 + (run m b).2.2)
    rw [List.nil_append, Nat.zero_add]
  | m, c :: a, b => by
    cases h : stop m
    · rw [List.cons_append, run_cons h, run_cons h, run_append]
      simp only [List.append_assoc]
      congr 2
      omega
    · rw [run_stop h, run_stop h]
      show (m, [], 0) = ((run m b).1, [] ++ (run m b).2.1, 0 + (run m b).2.2)
      rw [run_stop h]
      rfl
theorem run_used (m : M) (l : List UInt8) : (run m l).2.2 ≤ l.length ∧ (run m l).2.1.length ≤ (run m l).2.2 ∧ (stop (run m l).1 = false → (run m l).2.2 = l.length) := by
  induction l generalizing m with
  | nil => exact ⟨Nat.le_refl _, Nat.le_refl _, fun _ => rfl⟩
  | cons c l ih =>
    cases h : stop m
    · rw [run_cons h]
      obtain ⟨h1, h2, h3⟩ := ih (bstep m c).1
      have h4 : (bstep m c).2.length ≤ 1 := by
        unfold bstep
        split <;> simp
      refine ⟨by simpa using h1, ?_, fun hs => ?_⟩
      · rw [List.length_append]
        show _ ≤ (run (bstep m c).1 l).2.2 + 1
        omega
      · show (run (bstep m c).1 l).2.2 + 1 = _
        rw [h3 hs, List.length_cons]
    · rw [run_stop h]
      exact ⟨Nat.zero_le _, Nat.le_refl _, fun hs => by rw [h] at hs; cases hs⟩
/-- the whole is in order -/
structure Ok (m : M) : Prop where
  most : (m.size : Int) ≤ m.most ∨ m.size = 0
  left : ∀ n, m.ph = .data n → 1 ≤ n ∧ (m.size : Int) + n ≤ m.most
  line : m.line.length ≤ 512
  trail : ∀ n, m.ph = .trail n → n ≤ 32
theorem Ok.start (most : Int) : Ok (begin_ most) := ⟨.inr rfl, fun n h => (by cases h), Nat.zero_le _, fun n h => (by cases h)⟩
theorem Ok.fail {m : M} (h : Ok m) (e : Int) : Ok (fail m e) := ⟨h.most, fun n h => (by cases h), Nat.zero_le _, fun n h => (by cases h)⟩
theorem numR_nonneg (base : Nat) (d : Int) (p : List UInt8) : 0 ≤ numR base d p := by
  unfold numR
  split
  · omega
  · exact Int.le_refl 0
theorem Ok.endLine {m : M} (h : Ok m) : Ok (endLine m) := by
  unfold ChunkPure.endLine
  split
  · split
    · exact h.fail _
    · split
      · exact h.fail _
      · split
        · exact ⟨h.most, fun n h => (by cases h), Nat.zero_le _, fun n h => (by cases h; exact Nat.zero_le _)⟩
        · rename_i h1 h2 h3
          refine ⟨h.most, fun n hn => ?_, Nat.zero_le _, fun n h => (by cases h)⟩
          have hn2 : (sizeL m.line).toNat = n := by
            have : Ph.data (sizeL m.line).toNat = Ph.data n := hn
            injection this
          have e : (goOn m (.data (sizeL m.line).toNat)).size = m.size := rfl
          have e2 : (goOn m (.data (sizeL m.line).toNat)).most = m.most := rfl
          rw [e, e2]
          omega
  · exact ⟨h.most, fun n h => (by cases h), Nat.zero_le _, fun n h => (by cases h)⟩
  · rename_i n hp
    split
    · exact ⟨h.most, fun n h => (by cases h), Nat.zero_le _, fun n h => (by cases h)⟩
    · split
      · exact h.fail _
      · rename_i h1 h2
        refine ⟨h.most, fun n h => (by cases h), Nat.zero_le _, fun k hk => ?_⟩
        have hk2 : n + 1 = k := by
          have : Ph.trail (n + 1) = Ph.trail k := hk
          injection this
        have := h.trail n hp
        omega
  · exact h
theorem Ok.lineStep {m : M} (h : Ok m) (c : UInt8) : Ok (lineStep m c) := by
  unfold ChunkPure.lineStep
  split
  · split
    · exact h.endLine
    · exact h.fail _
  · split
    · exact ⟨h.most, h.left, h.line, h.trail⟩
    · split
      rotate_left
      · exact h.fail _
      · rename_i h1 h2 h3
        replace h3 := fits_bound h3
        refine ⟨h.most, h.left, ?_, h.trail⟩
        show (m.line ++ [c]).length ≤ 512
        rw [List.length_append, List.length_singleton]
        have : bound m.ph ≤ 512 := by unfold bound; split <;> omega
        omega
theorem Ok.bstep {m : M} (h : Ok m) (c : UInt8) : Ok (bstep m c).1 := by
  unfold ChunkPure.bstep
  split
  · rename_i left hp
    obtain ⟨h1, h2⟩ := h.left left hp
    refine ⟨.inl (by show ((m.size + 1 : Nat) : Int) ≤ m.most; omega), fun n hn => ?_, h.line, fun n hn => ?_⟩
    · have hn2 : (if left ≤ 1 then Ph.after else Ph.data (left - 1)) = Ph.data n := hn
      by_cases hl : left ≤ 1
      · rw [if_pos hl] at hn2; cases hn2
      · rw [if_neg hl] at hn2
        injection hn2 with hn3
        show 1 ≤ n ∧ ((m.size + 1 : Nat) : Int) + n ≤ m.most
        omega
    · have hn2 : (if left ≤ 1 then Ph.after else Ph.data (left - 1)) = Ph.trail n := hn
      split at hn2 <;> cases hn2
  · exact h
  · exact h
  · exact h.lineStep c
theorem Ok.run {m : M} (h : Ok m) (l : List UInt8) : Ok (run m l).1 := by
  induction l generalizing m with
  | nil => exact h
  | cons c l ih =>
    cases hs : stop m
    · rw [run_cons hs]
      exact ih (h.bstep c)
    · rw [run_stop hs]
      exact h
theorem end_keeps (m : M) : (endLine m).size = m.size ∧ (endLine m).most = m.most := by
  unfold endLine
  split
  · split
    · exact ⟨rfl, rfl⟩
    · split
      · exact ⟨rfl, rfl⟩
      · split <;> exact ⟨rfl, rfl⟩
  · exact ⟨rfl, rfl⟩
  · split
    · exact ⟨rfl, rfl⟩
    · split <;> exact ⟨rfl, rfl⟩
  · exact ⟨rfl, rfl⟩
theorem step_size (m : M) (c : UInt8) : (bstep m c).1.size = m.size + (bstep m c).2.length ∧ (bstep m c).1.most = m.most := by
  unfold bstep
  split
  · exact ⟨rfl, rfl⟩
  · exact ⟨rfl, rfl⟩
  · exact ⟨rfl, rfl⟩
  · unfold lineStep
    split
    · split
      · exact end_keeps m
      · exact ⟨rfl, rfl⟩
    · split
      · exact ⟨rfl, rfl⟩
      · split <;> exact ⟨rfl, rfl⟩
theorem run_size (m : M) (l : List UInt8) : (run m l).1.size = m.size + (run m l).2.1.length ∧ (run m l).1.most = m.most := by
  induction l generalizing m with
  | nil => exact ⟨rfl, rfl⟩
  | cons c l ih =>
    cases hs : stop m
    · rw [run_cons hs]
      obtain ⟨h1, h2⟩ := ih (bstep m c).1
      obtain ⟨h3, h4⟩ := step_size m c
      refine ⟨?_, h2.trans h4⟩
      rw [List.length_append]
      show (run (bstep m c).1 l).1.size = _
      omega
    · rw [run_stop hs]
      exact ⟨rfl, rfl⟩
/-! ### what a call answers -/
/-- the bytes of the body, how many were read, whether it is whole, the error -/
def ans (m : M) (l : List UInt8) : List UInt8 × Nat × Bool × Int :=
  match (run m l).1.ph with
  | .bad e => ([], 0, false, e)
  | .done => ((run m l).2.1, (run m l).2.2, true, 0)
  | _ => ((run m l).2.1, (run m l).2.2, false, 0)
def next (m : M) (l : List UInt8) : M := (run m l).1
theorem ans_used (m : M) (l : List UInt8) : (ans m l).2.1 ≤ l.length ∧ (ans m l).1.length ≤ (ans m l).2.1 ∧ ((ans m l).2.2.2 ≠ 0 → (ans m l).1 = []) := by
  obtain ⟨h1, h2, _⟩ := run_used m l
  unfold ans
  split
  · exact ⟨Nat.zero_le _, Nat.le_refl _, fun _ => rfl⟩
  · exact ⟨h1, h2, fun h => absurd rfl h⟩
  · exact ⟨h1, h2, fun h => absurd rfl h⟩
theorem ans_size (m : M) (l : List UInt8) : m.size + (ans m l).1.length ≤ (next m l).size := by
  have := (run_size m l).1
  unfold ans next
  split
  · show m.size + 0 ≤ _
    omega
  · show m.size + (run m l).2.1.length ≤ _
    omega
  · show m.size + (run m l).2.1.length ≤ _
    omega
/-! ### in whatever pieces -/
/-- no error stands -/
def good (m : M) : Bool :=
  match m.ph with
  | .bad _ => false
  | _ => true
def whole (m : M) : Bool :=
  match m.ph with
  | .done => true
  | _ => false
theorem stop_say (m : M) : stop m = (!good m || whole m) := by
  unfold stop good whole
  split <;> simp_all
theorem ans_good {m : M} {l : List UInt8} (h : good (run m l).1 = true) : ans m l = ((run m l).2.1, (run m l).2.2, whole (run m l).1, 0) := by
  unfold ans whole
  unfold good at h
  split <;> simp_all
theorem ans_bad {m : M} {l : List UInt8} (h : good (run m l).1 = false) : ∃ e, (run m l).1.ph = .bad e ∧ ans m l = ([], 0, false, e) := by
  unfold good at h
  split at h
  · rename_i e he
    refine ⟨e, he, ?_⟩
    unfold ans
    rw [he]
  · cases h
/-- errors have numbers -/
def Told (m : M) : Prop := ∀ e, m.ph = .bad e → e = 100 ∨ e = 101
theorem Told.start (most : Int) : Told (begin_ most) := fun e h => by cases h
theorem told_fail {m : M} {e : Int} (he : e = 100 ∨ e = 101) : Told (fail m e) := fun k h => by
  have : Ph.bad e = Ph.bad k := h
  injection this with h2
  rw [← h2]
  exact he
theorem told_end {m : M} (h : Told m) : Told (endLine m) := by
  unfold endLine
  split
  · split
    · exact told_fail (.inl rfl)
    · split
      · exact told_fail (.inr rfl)
      · split
        · exact fun e he => by cases he
        · exact fun e he => by cases he
  · exact fun e he => by cases he
  · split
    · exact fun e he => by cases he
    · split
      · exact told_fail (.inl rfl)
      · exact fun e he => by cases he
  · exact h
theorem told_step {m : M} (h : Told m) (c : UInt8) : Told (bstep m c).1 := by
  unfold bstep
  split
  · intro e he
    have he2 : (if _ ≤ 1 then Ph.after else Ph.data _) = Ph.bad e := he
    split at he2 <;> cases he2
  · exact h
  · exact h
  · unfold lineStep
    split
    · split
      · exact told_end h
      · exact told_fail (.inl rfl)
    · split
      · exact h
      · split
        · exact h
        · exact told_fail (.inl rfl)
theorem Told.run {m : M} (h : Told m) (l : List UInt8) : Told (run m l).1 := by
  induction l generalizing m with
  | nil => exact h
  | cons c l ih =>
    cases hs : stop m
    · rw [run_cons hs]
      exact ih (told_step h c)
    · rw [run_stop hs]
      exact h
theorem ans_err {m : M} {l : List UInt8} (ht : Told m) : (ans m l).2.2.2 = 0 ↔ good (run m l).1 = true := by
  cases h : good (run m l).1
  · obtain ⟨e, he, ha⟩ := ans_bad h
    rw [ha]
    have := ht.run l e he
    simp
    omega
  · rw [ans_good h]
    simp
theorem next_next (m : M) (a b : List UInt8) : next (next m a) b = next m (a ++ b) := by
  unfold next
  rw [run_append]
theorem piece_bad {m : M} (ht : Told m) {a b d : List UInt8} (h : (ans (next m a) b).2.2.2 ≠ 0) : ans m (a ++ b ++ d) = ([], 0, false, (ans (next m a) b).2.2.2) := by
  have ht2 : Told (next m a) := ht.run a
  have hg : good (run (next m a) b).1 = false := by
    cases q : good (run (next m a) b).1
    · rfl
    · exact absurd ((ans_err ht2).2 q) h
  obtain ⟨e, he, ha⟩ := ans_bad hg
  have h1 : (run m (a ++ b)).1 = (run (next m a) b).1 := by rw [run_append]; rfl
  have hs : stop (run m (a ++ b)).1 = true := by rw [stop_say, h1, hg]; rfl
  have h2 : (run m (a ++ b ++ d)).1 = (run (next m a) b).1 := by
    rw [run_append, run_stop hs, h1]
  rw [ha]
  unfold ans
  rw [h2, he]
theorem piece_ok {m : M} (ht : Told m) {a b : List UInt8} (d : List UInt8) (h : (ans (next m a) b).2.2.2 = 0) :
    good (run m (a ++ b)).1 = true ∧ (run m (a ++ b)).2.1 = (run m a).2.1 ++ (ans (next m a) b).1 ∧ (run m (a ++ b)).2.2 = (run m a).2.2 + (ans (next m a) b).2.1 ∧
      (ans (next m a) b).2.2.1 = ((ans m (a ++ b ++ d)).2.2.1 && decide ((run m (a ++ b)).2.2 = (ans m (a ++ b ++ d)).2.1)) := by
  have ht2 : Told (next m a) := ht.run a
  have hg := (ans_err ht2).1 h
  have h1 : (run m (a ++ b)).1 = (run (next m a) b).1 := by rw [run_append]; rfl
  refine ⟨by rw [h1]; exact hg, by rw [ans_good hg, run_append]; rfl, by rw [ans_good hg, run_append]; rfl, ?_⟩
  rw [show (ans (next m a) b).2.2.1 = whole (run (next m a) b).1 by rw [ans_good hg], ← h1]
  rw [← h1] at hg
  cases hw : whole (run m (a ++ b)).1
  · have hs : stop (run m (a ++ b)).1 = false := by rw [stop_say, hg, hw]; rfl
    cases hr : good (run m (a ++ b ++ d)).1
    · obtain ⟨e, _, ha⟩ := ans_bad hr
      rw [ha]
      rfl
    · rw [ans_good hr]
      cases hw2 : whole (run m (a ++ b ++ d)).1
      · rfl
      · rw [Bool.true_and]
        symm
        rw [decide_eq_false_iff_not]
        intro heq
        have hra := run_append m (a ++ b) d
        have h3 : (run (run m (a ++ b)).1 d).2.2 = 0 := by
          have := congrArg (fun r => r.2.2) hra
          dsimp only at this heq
          omega
        have h4 : (run (run m (a ++ b)).1 d).1 = (run m (a ++ b)).1 := by
          cases d with
          | nil => rfl
          | cons c d =>
            rw [run_cons hs] at h3
            cases h3
        have h5 : (run m (a ++ b ++ d)).1 = (run m (a ++ b)).1 := by rw [hra]; exact h4
        rw [h5, hw] at hw2
        cases hw2
  · have hs : stop (run m (a ++ b)).1 = true := by rw [stop_say, hw, Bool.or_true]
    have h2 : run m (a ++ b ++ d) = run m (a ++ b) := by
      rw [run_append, run_stop hs]
      simp
    have hr : good (run m (a ++ b ++ d)).1 = true := by rw [h2]; exact hg
    rw [ans_good hr, h2, hw]
    simp
end Go.Proofs.YtlgohmghjffiaaaDoor.ChunkPure
