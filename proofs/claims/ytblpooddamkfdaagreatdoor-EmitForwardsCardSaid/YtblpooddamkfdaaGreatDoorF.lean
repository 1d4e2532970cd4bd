/- Texts of this seat, one behind another: DChunkPure, ChunkHex, DChunkText, ChunkRead, R10Line, R10Trail, R10Size, R10Enc, R10Read. -/
import Derived.Lib.Hide
import Derived.Outline
import Derived.LoopTactic
import Derived.Handy
import Derived.Laws.DeepStrings4
import Derived.Lib.AppendStr
import Derived.Below
import Derived.Maps.AppendAt
import Derived.Test.YtblpooddamkfdaaGreatDoorA1
import Derived.Test.YtblpooddamkfdaaGreatDoorB3
import Derived.Test.YtblpooddamkfdaaGreatDoorC1
/- Layer 10: bodies in chunks, read byte by byte, and written. No program is named. -/
namespace Go.Proofs.YtblpooddamkfdaaGreatDoor.DChunkPure
open Bytes LexPure LexNum HeadPure
set_option maxRecDepth 20000
inductive Ph where
  | size
  | data (left : Nat)
  | after
  | trail (n : Nat)
  | done
  | bad (e : Int)
/-- where the reading stands: the line so far, whether a 13 stands behind it -/
structure M where
  most : Int
  size : Nat
  ph : Ph
  line : List UInt8
  cr : Bool
def begin_ (most : Int) : M := ⟨most, 0, .size, [], false⟩
def bound : Ph → Nat
  | .size => 64
  | .trail _ => 512
  | _ => 0
def extB (c : UInt8) : Bool := c == 9 || (decide (32 ≤ c) && decide (c ≤ 126))
/-- the size that a size line says, or -1 -/
def sizeL (l : List UInt8) : Int := if numOk 16 8 (l.takeWhile (fun c => c != 59)) = true ∧ (l.dropWhile (fun c => c != 59)).all extB = true then numR 16 8 (l.takeWhile (fun c => c != 59)) else -1
def fail (m : M) (e : Int) : M := ⟨m.most, m.size, .bad e, [], false⟩
def goOn (m : M) (ph : Ph) : M := ⟨m.most, m.size, ph, [], false⟩
/-- a line's end -/
def endLine (m : M) : M :=
  match m.ph with
  | .size => if sizeL m.line < 0 then fail m 100 else if sizeL m.line = 0 then goOn m (.trail 0) else if m.most - m.size < sizeL m.line then fail m 101 else goOn m (.data (sizeL m.line).toNat)
  | .after => goOn m .size
  | .trail n => if m.line = [] then goOn m .done else if (field8 m.line).2 ≠ 0 ∨ n = 32 then fail m 100 else goOn m (.trail (n + 1))
  | _ => m
def lineStep (m : M) (c : UInt8) : M :=
  if m.cr then (if c = 10 then endLine m else fail m 100)
  else if c = 13 then { m with cr := true }
  else if c = 10 ∨ bound m.ph ≤ m.line.length then fail m 100 else { m with line := m.line ++ [c] }
def bstep (m : M) (c : UInt8) : M × List UInt8 :=
  match m.ph with
  | .data left => (⟨m.most, m.size + 1, if left ≤ 1 then .after else .data (left - 1), m.line, m.cr⟩, [c])
  | .done => (m, [])
  | .bad _ => (m, [])
  | _ => (lineStep m c, [])
def stop (m : M) : Bool :=
  match m.ph with
  | .done => true
  | .bad _ => true
  | _ => false
def run : M → List UInt8 → M × List UInt8 × Nat
  | m, [] => (m, [], 0)
  | m, c :: l => if stop m = true then (m, [], 0) else ((run (bstep m c).1 l).1, (bstep m c).2 ++ (run (bstep m c).1 l).2.1, (run (bstep m c).1 l).2.2 + 1)
theorem run_stop {m : M} (h : stop m = true) (l : List UInt8) : run m l = (m, [], 0) := by
  cases l with
  | nil => rfl
  | cons c l => unfold run; rw [if_pos h]
theorem run_cons {m : M} (h : stop m = false) (c : UInt8) (l : List UInt8) : run m (c :: l) = ((run (bstep m c).1 l).1, (bstep m c).2 ++ (run (bstep m c).1 l).2.1, (run (bstep m c).1 l).2.2 + 1) := by
  conv => lhs; unfold run
  rw [if_neg (by rw [h]; decide)]
theorem run_append : ∀ (m : M) (a b : List UInt8), run m (a ++ b) = ((run (run m a).1 b).1, (run m a).2.1 ++ (run (run m a).1 b).2.1, (run m a).2.2 + (run (run m a).1 b).2.2)
  | m, [], b => by
    rw [List.nil_append]
    show run m b = ((run m b).1, [] ++ (run m b).2.1, 0 + (run m b).2.2)
    rw [List.nil_append, Nat.zero_add]
  | m, c :: a, b => by
    cases h : stop m
    · rw [List.cons_append, run_cons h, run_cons h, run_append]
      simp only [List.append_assoc]
      congr 2
      omega
    · rw [run_stop h, run_stop h]
      show (m, [], 0) = ((run m b).1, [] ++ (run m b).2.1, 0 + (run m b).2.2)
      rw [run_stop h]
      rfl
theorem run_used (m : M) (l : List UInt8) : (run m l).2.2 ≤ l.length ∧ (run m l).2.1.length ≤ (run m l).2.2 ∧ (stop (run m l).1 = false → (run m l).2.2 = l.length) := by
  induction l generalizing m with
  | nil => exact ⟨Nat.le_refl _, Nat.le_refl _, fun _ => rfl⟩
  | cons c l ih =>
    cases h : stop m
    · rw [run_cons h]
      obtain ⟨h1, h2, h3⟩ := ih (bstep m c).1
      have h4 : (bstep m c).2.length ≤ 1 := by
        unfold bstep
        split <;> simp
      refine ⟨by simpa using h1, ?_, fun hs => ?_⟩
      · rw [List.length_append]
        show _ ≤ (run (bstep m c).1 l).2.2 + 1
        omega
      · show (run (bstep m c).1 l).2.2 + 1 = _
        rw [h3 hs, List.length_cons]
    · rw [run_stop h]
      exact ⟨Nat.zero_le _, Nat.le_refl _, fun hs => by rw [h] at hs; cases hs⟩
/-- the whole is in order -/
structure Ok (m : M) : Prop where
  most : (m.size : Int) ≤ m.most ∨ m.size = 0
  left : ∀ n, m.ph = .data n → 1 ≤ n ∧ (m.size : Int) + n ≤ m.most
  line : m.line.length ≤ 512
  trail : ∀ n, m.ph = .trail n → n ≤ 32
theorem Ok.start (most : Int) : Ok (begin_ most) := ⟨.inr rfl, fun n h => (by cases h), Nat.zero_le _, fun n h => (by cases h)⟩
theorem Ok.fail {m : M} (h : Ok m) (e : Int) : Ok (fail m e) := ⟨h.most, fun n h => (by cases h), Nat.zero_le _, fun n h => (by cases h)⟩
theorem numR_nonneg (base : Nat) (d : Int) (p : List UInt8) : 0 ≤ numR base d p := by
  unfold numR
  split
  · omega
  · exact Int.le_refl 0
theorem Ok.endLine {m : M} (h : Ok m) : Ok (endLine m) := by
  unfold DChunkPure.endLine
  split
  · split
    · exact h.fail _
    · split
      · exact ⟨h.most, fun n h => (by cases h), Nat.zero_le _, fun n h => (by cases h; exact Nat.zero_le _)⟩
      · split
        · exact h.fail _
        · rename_i h1 h2 h3
          refine ⟨h.most, fun n hn => ?_, Nat.zero_le _, fun n h => (by cases h)⟩
          have hn2 : (sizeL m.line).toNat = n := by
            have : Ph.data (sizeL m.line).toNat = Ph.data n := hn
            injection this
          have e : (goOn m (.data (sizeL m.line).toNat)).size = m.size := rfl
          have e2 : (goOn m (.data (sizeL m.line).toNat)).most = m.most := rfl
          rw [e, e2]
          omega
  · exact ⟨h.most, fun n h => (by cases h), Nat.zero_le _, fun n h => (by cases h)⟩
  · rename_i n hp
    split
    · exact ⟨h.most, fun n h => (by cases h), Nat.zero_le _, fun n h => (by cases h)⟩
    · split
      · exact h.fail _
      · rename_i h1 h2
        refine ⟨h.most, fun n h => (by cases h), Nat.zero_le _, fun k hk => ?_⟩
        have hk2 : n + 1 = k := by
          have : Ph.trail (n + 1) = Ph.trail k := hk
          injection this
        have := h.trail n hp
        omega
  · exact h
theorem Ok.lineStep {m : M} (h : Ok m) (c : UInt8) : Ok (lineStep m c) := by
  unfold DChunkPure.lineStep
  split
  · split
    · exact h.endLine
    · exact h.fail _
  · split
    · exact ⟨h.most, h.left, h.line, h.trail⟩
    · split
      · exact h.fail _
      · rename_i h1 h2 h3
        refine ⟨h.most, h.left, ?_, h.trail⟩
        show (m.line ++ [c]).length ≤ 512
        rw [List.length_append, List.length_singleton]
        have : bound m.ph ≤ 512 := by unfold bound; split <;> omega
        omega
theorem Ok.bstep {m : M} (h : Ok m) (c : UInt8) : Ok (bstep m c).1 := by
  unfold DChunkPure.bstep
  split
  · rename_i left hp
    obtain ⟨h1, h2⟩ := h.left left hp
    refine ⟨.inl (by show ((m.size + 1 : Nat) : Int) ≤ m.most; omega), fun n hn => ?_, h.line, fun n hn => ?_⟩
    · have hn2 : (if left ≤ 1 then Ph.after else Ph.data (left - 1)) = Ph.data n := hn
      by_cases hl : left ≤ 1
      · rw [if_pos hl] at hn2; cases hn2
      · rw [if_neg hl] at hn2
        injection hn2 with hn3
        show 1 ≤ n ∧ ((m.size + 1 : Nat) : Int) + n ≤ m.most
        omega
    · have hn2 : (if left ≤ 1 then Ph.after else Ph.data (left - 1)) = Ph.trail n := hn
      split at hn2 <;> cases hn2
  · exact h
  · exact h
  · exact h.lineStep c
theorem Ok.run {m : M} (h : Ok m) (l : List UInt8) : Ok (run m l).1 := by
  induction l generalizing m with
  | nil => exact h
  | cons c l ih =>
    cases hs : stop m
    · rw [run_cons hs]
      exact ih (h.bstep c)
    · rw [run_stop hs]
      exact h
theorem end_keeps (m : M) : (endLine m).size = m.size ∧ (endLine m).most = m.most := by
  unfold endLine
  split
  · split
    · exact ⟨rfl, rfl⟩
    · split
      · exact ⟨rfl, rfl⟩
      · split <;> exact ⟨rfl, rfl⟩
  · exact ⟨rfl, rfl⟩
  · split
    · exact ⟨rfl, rfl⟩
    · split <;> exact ⟨rfl, rfl⟩
  · exact ⟨rfl, rfl⟩
theorem step_size (m : M) (c : UInt8) : (bstep m c).1.size = m.size + (bstep m c).2.length ∧ (bstep m c).1.most = m.most := by
  unfold bstep
  split
  · exact ⟨rfl, rfl⟩
  · exact ⟨rfl, rfl⟩
  · exact ⟨rfl, rfl⟩
  · unfold lineStep
    split
    · split
      · exact end_keeps m
      · exact ⟨rfl, rfl⟩
    · split
      · exact ⟨rfl, rfl⟩
      · split <;> exact ⟨rfl, rfl⟩
theorem run_size (m : M) (l : List UInt8) : (run m l).1.size = m.size + (run m l).2.1.length ∧ (run m l).1.most = m.most := by
  induction l generalizing m with
  | nil => exact ⟨rfl, rfl⟩
  | cons c l ih =>
    cases hs : stop m
    · rw [run_cons hs]
      obtain ⟨h1, h2⟩ := ih (bstep m c).1
      obtain ⟨h3, h4⟩ := step_size m c
      refine ⟨?_, h2.trans h4⟩
      rw [List.length_append]
      show (run (bstep m c).1 l).1.size = _
      omega
    · rw [run_stop hs]
      exact ⟨rfl, rfl⟩
/-! ### what a call answers -/
/-- the bytes of the body, how many were read, whether it is whole, the error -/
def ans (m : M) (l : List UInt8) : List UInt8 × Nat × Bool × Int :=
  match (run m l).1.ph with
  | .bad e => ([], 0, false, e)
  | .done => ((run m l).2.1, (run m l).2.2, true, 0)
  | _ => ((run m l).2.1, (run m l).2.2, false, 0)
def next (m : M) (l : List UInt8) : M := (run m l).1
theorem ans_used (m : M) (l : List UInt8) : (ans m l).2.1 ≤ l.length ∧ (ans m l).1.length ≤ (ans m l).2.1 ∧ ((ans m l).2.2.2 ≠ 0 → (ans m l).1 = []) := by
  obtain ⟨h1, h2, _⟩ := run_used m l
  unfold ans
  split
  · exact ⟨Nat.zero_le _, Nat.le_refl _, fun _ => rfl⟩
  · exact ⟨h1, h2, fun h => absurd rfl h⟩
  · exact ⟨h1, h2, fun h => absurd rfl h⟩
theorem ans_size (m : M) (l : List UInt8) : m.size + (ans m l).1.length ≤ (next m l).size := by
  have := (run_size m l).1
  unfold ans next
  split
  · show m.size + 0 ≤ _
    omega
  · show m.size + (run m l).2.1.length ≤ _
    omega
  · show m.size + (run m l).2.1.length ≤ _
    omega
/-! ### in whatever pieces -/
/-- no error stands -/
def good (m : M) : Bool :=
  match m.ph with
  | .bad _ => false
  | _ => true
def whole (m : M) : Bool :=
  match m.ph with
  | .done => true
  | _ => false
theorem stop_say (m : M) : stop m = (!good m || whole m) := by
  unfold stop good whole
  split <;> simp_all
theorem ans_good {m : M} {l : List UInt8} (h : good (run m l).1 = true) : ans m l = ((run m l).2.1, (run m l).2.2, whole (run m l).1, 0) := by
  unfold ans whole
  unfold good at h
  split <;> simp_all
theorem ans_bad {m : M} {l : List UInt8} (h : good (run m l).1 = false) : ∃ e, (run m l).1.ph = .bad e ∧ ans m l = ([], 0, false, e) := by
  unfold good at h
  split at h
  · rename_i e he
    refine ⟨e, he, ?_⟩
    unfold ans
    rw [he]
  · cases h
/-- errors have numbers -/
def Told (m : M) : Prop := ∀ e, m.ph = .bad e → e = 100 ∨ e = 101
theorem Told.start (most : Int) : Told (begin_ most) := fun e h => by cases h
theorem told_fail {m : M} {e : Int} (he : e = 100 ∨ e = 101) : Told (fail m e) := fun k h => by
  have : Ph.bad e = Ph.bad k := h
  injection this with h2
  rw [← h2]
  exact he
theorem told_end {m : M} (h : Told m) : Told (endLine m) := by
  unfold endLine
  split
  · split
    · exact told_fail (.inl rfl)
    · split
      · exact fun e he => by cases he
      · split
        · exact told_fail (.inr rfl)
        · exact fun e he => by cases he
  · exact fun e he => by cases he
  · split
    · exact fun e he => by cases he
    · split
      · exact told_fail (.inl rfl)
      · exact fun e he => by cases he
  · exact h
theorem told_step {m : M} (h : Told m) (c : UInt8) : Told (bstep m c).1 := by
  unfold bstep
  split
  · intro e he
    have he2 : (if _ ≤ 1 then Ph.after else Ph.data _) = Ph.bad e := he
    split at he2 <;> cases he2
  · exact h
  · exact h
  · unfold lineStep
    split
    · split
      · exact told_end h
      · exact told_fail (.inl rfl)
    · split
      · exact h
      · split
        · exact told_fail (.inl rfl)
        · exact h
theorem Told.run {m : M} (h : Told m) (l : List UInt8) : Told (run m l).1 := by
  induction l generalizing m with
  | nil => exact h
  | cons c l ih =>
    cases hs : stop m
    · rw [run_cons hs]
      exact ih (told_step h c)
    · rw [run_stop hs]
      exact h
theorem ans_err {m : M} {l : List UInt8} (ht : Told m) : (ans m l).2.2.2 = 0 ↔ good (run m l).1 = true := by
  cases h : good (run m l).1
  · obtain ⟨e, he, ha⟩ := ans_bad h
    rw [ha]
    have := ht.run l e he
    simp
    omega
  · rw [ans_good h]
    simp
theorem next_next (m : M) (a b : List UInt8) : next (next m a) b = next m (a ++ b) := by
  unfold next
  rw [run_append]
theorem piece_bad {m : M} (ht : Told m) {a b d : List UInt8} (h : (ans (next m a) b).2.2.2 ≠ 0) : ans m (a ++ b ++ d) = ([], 0, false, (ans (next m a) b).2.2.2) := by
  have ht2 : Told (next m a) := ht.run a
  have hg : good (run (next m a) b).1 = false := by
    cases q : good (run (next m a) b).1
    · rfl
    · exact absurd ((ans_err ht2).2 q) h
  obtain ⟨e, he, ha⟩ := ans_bad hg
  have h1 : (run m (a ++ b)).1 = (run (next m a) b).1 := by rw [run_append]; rfl
  have hs : stop (run m (a ++ b)).1 = true := by rw [stop_say, h1, hg]; rfl
  have h2 : (run m (a ++ b ++ d)).1 = (run (next m a) b).1 := by
    rw [run_append, run_stop hs, h1]
  rw [ha]
  unfold ans
  rw [h2, he]
theorem piece_ok {m : M} (ht : Told m) {a b : List UInt8} (d : List UInt8) (h : (ans (next m a) b).2.2.2 = 0) :
    good (run m (a ++ b)).1 = true ∧ (run m (a ++ b)).2.1 = (run m a).2.1 ++ (ans (next m a) b).1 ∧ (run m (a ++ b)).2.2 = (run m a).2.2 + (ans (next m a) b).2.1 ∧
      (ans (next m a) b).2.2.1 = ((ans m (a ++ b ++ d)).2.2.1 && decide ((run m (a ++ b)).2.2 = (ans m (a ++ b ++ d)).2.1)) := by
  have ht2 : Told (next m a) := ht.run a
  have hg := (ans_err ht2).1 h
  have h1 : (run m (a ++ b)).1 = (run (next m a) b).1 := by rw [run_append]; rfl
  refine ⟨by rw [h1]; exact hg, by rw [ans_good hg, run_append]; rfl, by rw [ans_good hg, run_append]; rfl, ?_⟩
  rw [show (ans (next m a) b).2.2.1 = whole (run (next m a) b).1 by rw [ans_good hg], ← h1]
  rw [← h1] at hg
  cases hw : whole (run m (a ++ b)).1
  · have hs : stop (run m (a ++ b)).1 = false := by rw [stop_say, hg, hw]; rfl
    cases hr : good (run m (a ++ b ++ d)).1
    · obtain ⟨e, _, ha⟩ := ans_bad hr
      rw [ha]
      rfl
    · rw [ans_good hr]
      cases hw2 : whole (run m (a ++ b ++ d)).1
      · rfl
      · rw [Bool.true_and]
        symm
        rw [decide_eq_false_iff_not]
        intro heq
        have hra := run_append m (a ++ b) d
        have h3 : (run (run m (a ++ b)).1 d).2.2 = 0 := by
          have := congrArg (fun r => r.2.2) hra
          dsimp only at this heq
          omega
        have h4 : (run (run m (a ++ b)).1 d).1 = (run m (a ++ b)).1 := by
          cases d with
          | nil => rfl
          | cons c d =>
            rw [run_cons hs] at h3
            cases h3
        have h5 : (run m (a ++ b ++ d)).1 = (run m (a ++ b)).1 := by rw [hra]; exact h4
        rw [h5, hw] at hw2
        cases hw2
  · have hs : stop (run m (a ++ b)).1 = true := by rw [stop_say, hw, Bool.or_true]
    have h2 : run m (a ++ b ++ d) = run m (a ++ b) := by
      rw [run_append, run_stop hs]
      simp
    have hr : good (run m (a ++ b ++ d)).1 = true := by rw [h2]; exact hg
    rw [ans_good hr, h2, hw]
    simp
end Go.Proofs.YtblpooddamkfdaaGreatDoor.DChunkPure

/- Layer 10: sizes in hexadecimal, and what is written. No program is named. -/
namespace Go.Proofs.YtblpooddamkfdaaGreatDoor.ChunkHex
open Bytes LexPure LexNum HeadPure
set_option maxRecDepth 20000
/-! ### a size in hexadecimal -/
def hexB (n : Nat) : UInt8 := if n < 10 then UInt8.ofNat (48 + n) else UInt8.ofNat (87 + n)
def hexN (n : Nat) : List UInt8 := if _h : n < 16 then [hexB n] else hexN (n / 16) ++ [hexB (n % 16)]
termination_by n
decreasing_by omega
theorem hexN_small {n : Nat} (h : n < 16) : hexN n = [hexB n] := by
  conv => lhs; unfold hexN
  rw [dif_pos h]
theorem hexN_more {n : Nat} (h : ¬ n < 16) : hexN n = hexN (n / 16) ++ [hexB (n % 16)] := by
  conv => lhs; unfold hexN
  rw [dif_neg h]
theorem hexB_say : ∀ n, n < 16 → dig (hexB n) = n ∧ hexB n ≠ 13 ∧ hexB n ≠ 10 ∧ hexB n ≠ 59 := by
  have : ∀ n : Fin 16, dig (hexB n.1) = n.1 ∧ hexB n.1 ≠ 13 ∧ hexB n.1 ≠ 10 ∧ hexB n.1 ≠ 59 := by decide +kernel
  intro n hn
  exact this ⟨n, hn⟩
theorem hexN_ne (n : Nat) : hexN n ≠ [] := by
  by_cases h : n < 16
  · rw [hexN_small h]; simp
  · rw [hexN_more h]; simp
theorem hexN_val (n : Nat) : numV 16 (hexN n) = n := by
  induction n using Nat.strongRecOn with
  | ind n ih =>
    by_cases h : n < 16
    · rw [hexN_small h]
      have := (hexB_say n h).1
      simp [numV, this]
    · rw [hexN_more h, numV_snoc, ih (n / 16) (by omega), (hexB_say (n % 16) (by omega)).1]
      omega
theorem hexN_all (n : Nat) : ∀ c ∈ hexN n, dig c < 16 ∧ c ≠ 13 ∧ c ≠ 10 ∧ c ≠ 59 := by
  induction n using Nat.strongRecOn with
  | ind n ih =>
    intro c hc
    by_cases h : n < 16
    · rw [hexN_small h, List.mem_singleton] at hc
      subst hc
      obtain ⟨h1, h2⟩ := hexB_say n h
      exact ⟨by omega, h2⟩
    · rw [hexN_more h, List.mem_append, List.mem_singleton] at hc
      rcases hc with hc | rfl
      · exact ih (n / 16) (by omega) c hc
      · obtain ⟨h1, h2⟩ := hexB_say (n % 16) (by omega)
        exact ⟨by omega, h2⟩
theorem hexN_len (k : Nat) : ∀ n, n < 16 ^ (k + 1) → (hexN n).length ≤ k + 1 := by
  induction k with
  | zero =>
    intro n h
    rw [hexN_small (by omega)]
    exact Nat.le_refl _
  | succ k ih =>
    intro n h
    by_cases h2 : n < 16
    · rw [hexN_small h2]
      simp
    · rw [hexN_more h2, List.length_append, List.length_singleton]
      have := ih (n / 16) (by rw [Nat.pow_succ] at h; omega)
      omega
def enc (t : List UInt8) : List UInt8 := if t = [] then [] else hexN t.length ++ [13, 10] ++ t ++ [13, 10]
def lastL : List UInt8 := [48, 13, 10, 13, 10]
theorem enc_len (t : List UInt8) (h : t.length < 4294967296) : (enc t).length ≤ 13 * t.length := by
  unfold enc
  by_cases h0 : t = []
  · rw [if_pos h0]
    simp
  · rw [if_neg h0]
    have := List.length_pos_iff.2 h0
    have := hexN_len 7 t.length h
    simp only [List.length_append, List.length_cons, List.length_nil]
    omega
end Go.Proofs.YtblpooddamkfdaaGreatDoor.ChunkHex

/- Layer 10: what is written is read back. No program is named. -/
namespace Go.Proofs.YtblpooddamkfdaaGreatDoor.DChunkText
open Bytes LexPure LexNum HeadPure HeadWrit DChunkPure ChunkHex
set_option maxRecDepth 20000
/-! ### lines -/
/-- a line may be read here -/
def lineP (m : M) : Prop := (m.ph = .size ∨ m.ph = .after ∨ ∃ n, m.ph = .trail n) ∧ m.cr = false
def plainL (l : List UInt8) : Prop := ∀ c ∈ l, c ≠ 13 ∧ c ≠ 10
theorem line_step {m : M} (h : m.ph = .size ∨ m.ph = .after ∨ ∃ n, m.ph = .trail n) (c : UInt8) : bstep m c = (lineStep m c, []) ∧ stop m = false := by
  rcases h with h | h | ⟨n, h⟩ <;> (unfold bstep stop; rw [h]; exact ⟨rfl, rfl⟩)
theorem run_line : ∀ (l : List UInt8) (m : M), lineP m → plainL l → m.line.length + l.length ≤ bound m.ph → run m l = ({ m with line := m.line ++ l }, [], l.length)
  | [], m, _, _, _ => by
    show (m, [], 0) = _
    simp
  | c :: l, m, h, hp, hb => by
    obtain ⟨h1, h2⟩ := line_step h.1 c
    obtain ⟨q1, q2⟩ := hp c List.mem_cons_self
    rw [List.length_cons] at hb
    have hs : lineStep m c = { m with line := m.line ++ [c] } := by
      unfold lineStep
      rw [if_neg (by rw [h.2]; decide), if_neg q1, if_neg]
      rintro (h | h)
      · exact q2 h
      · omega
    rw [run_cons h2, h1, hs]
    have ih := run_line l { m with line := m.line ++ [c] } ⟨h.1, h.2⟩ (fun x hx => hp x (List.mem_cons_of_mem _ hx)) (by show (m.line ++ [c]).length + l.length ≤ _; rw [List.length_append, List.length_singleton]; show _ ≤ bound m.ph; omega)
    rw [ih]
    simp
theorem run_end {m : M} (h : lineP m) (hl : endLine { m with cr := true } = endLine m) : run m [13, 10] = (endLine m, [], 2) := by
  obtain ⟨h1, h2⟩ := line_step h.1 13
  have hs : lineStep m 13 = { m with cr := true } := by
    unfold lineStep
    rw [if_neg (by rw [h.2]; decide), if_pos rfl]
  rw [run_cons h2, h1, hs]
  obtain ⟨h3, h4⟩ := line_step (m := { m with cr := true }) h.1 10
  have hs2 : lineStep { m with cr := true } 10 = endLine m := by
    unfold lineStep
    rw [if_pos rfl, if_pos rfl]
    exact hl
  rw [run_cons h4, h3, hs2]
  rfl
theorem end_cr {m : M} (h : m.ph = .size ∨ m.ph = .after ∨ ∃ n, m.ph = .trail n) : endLine { m with cr := true } = endLine m := by
  rcases h with h | h | ⟨n, h⟩ <;> (unfold endLine; simp only [h]; rfl)
/-- a whole line -/
theorem run_whole {m : M} (h : lineP m) {l : List UInt8} (hl : plainL l) (h0 : m.line = []) (hb : l.length ≤ bound m.ph) : run m (l ++ [13, 10]) = (endLine { m with line := l }, [], l.length + 2) := by
  have e : { m with line := m.line ++ l } = { m with line := l } := by rw [h0, List.nil_append]
  rw [run_append, run_line l m h hl (by rw [h0]; simpa using hb), e]
  have h2 : lineP { m with line := l } := ⟨h.1, h.2⟩
  rw [run_end h2 (end_cr h2.1)]
  rfl
theorem run_data : ∀ (l : List UInt8) (m : M), m.ph = .data l.length → l ≠ [] → run m l = (⟨m.most, m.size + l.length, .after, m.line, m.cr⟩, l, l.length)
  | [], m, _, h => absurd rfl h
  | [c], m, hp, _ => by
    have hs : stop m = false := by unfold stop; rw [hp]
    rw [run_cons hs]
    have : bstep m c = (⟨m.most, m.size + 1, .after, m.line, m.cr⟩, [c]) := by
      unfold bstep
      rw [hp]
      rfl
    rw [this]
    rfl
  | c :: d :: l, m, hp, _ => by
    have hs : stop m = false := by unfold stop; rw [hp]
    rw [run_cons hs]
    have h1 : bstep m c = (⟨m.most, m.size + 1, .data (d :: l).length, m.line, m.cr⟩, [c]) := by
      unfold bstep
      rw [hp]
      show ((⟨m.most, m.size + 1, if (c :: d :: l).length ≤ 1 then Ph.after else Ph.data ((c :: d :: l).length - 1), m.line, m.cr⟩ : M), [c]) = _
      rw [if_neg (by simp)]
      rfl
    rw [h1]
    have ih := run_data (d :: l) ⟨m.most, m.size + 1, .data (d :: l).length, m.line, m.cr⟩ rfl (by simp)
    rw [ih]
    simp only [List.length_cons]
    congr 2
    omega
/-- between chunks -/
def at_ (most : Int) (n : Nat) : M := ⟨most, n, .size, [], false⟩
theorem at_line (most : Int) (n : Nat) : lineP (at_ most n) := ⟨.inl rfl, rfl⟩
/-- a chunk: its size line, its bytes, its end -/
theorem run_chunk {most : Int} {n : Nat} {L t : List UInt8} (hL : plainL L) (hb : L.length ≤ 64) (hs : sizeL L = t.length) (ht : t ≠ []) (hm : (n : Int) + t.length ≤ most) :
    run (at_ most n) (L ++ [13, 10] ++ t ++ [13, 10]) = (at_ most (n + t.length), t, (L ++ [13, 10] ++ t ++ [13, 10]).length) := by
  have h0 : 0 < t.length := List.length_pos_iff.2 ht
  have h1 := run_whole (at_line most n) hL rfl hb
  have e1 : endLine { at_ most n with line := L } = ⟨most, n, .data t.length, [], false⟩ := by
    unfold endLine at_ goOn
    simp only [hs]
    rw [if_neg (by omega), if_neg (by omega), if_neg (by omega)]
    simp
  rw [e1] at h1
  have h2 := run_data t ⟨most, n, .data t.length, [], false⟩ rfl ht
  have h3 : run ⟨most, n + t.length, .after, [], false⟩ [13, 10] = (at_ most (n + t.length), [], 2) := by
    rw [run_end ⟨.inr (.inl rfl), rfl⟩ rfl]
    rfl
  rw [run_append, run_append, h1]
  simp only
  rw [h2]
  simp only
  rw [h3]
  have e : (L ++ [13, 10] ++ t ++ [13, 10]).length = L.length + 2 + t.length + 2 := by simp only [List.length_append, List.length_cons, List.length_nil]
  rw [e]
  simp
/-- a chunk that is too much -/
theorem run_over {most : Int} {n : Nat} {L t x : List UInt8} (hL : plainL L) (hb : L.length ≤ 64) (hs : sizeL L = t.length) (ht : t ≠ []) (hm : most < (n : Int) + t.length) :
    (run (at_ most n) (L ++ [13, 10] ++ x)).1.ph = .bad 101 := by
  have h0 : 0 < t.length := List.length_pos_iff.2 ht
  have h1 := run_whole (at_line most n) hL rfl hb
  have e1 : endLine { at_ most n with line := L } = ⟨most, n, .bad 101, [], false⟩ := by
    unfold endLine at_ fail
    simp only [hs]
    rw [if_neg (by omega), if_neg (by omega), if_pos (by omega)]
  rw [e1] at h1
  rw [run_append, h1, run_stop rfl]
/-! ### written texts -/
theorem size_hex {n : Nat} {z e : List UInt8} (hz : ∀ c ∈ z, c = 48) (he : e = [] ∨ ∃ r, e = 59 :: r ∧ r.all extB = true) (hl : z.length + (hexN n).length ≤ 8) : sizeL (z ++ hexN n ++ e) = n := by
  have hno : ∀ c ∈ z ++ hexN n, (c != 59) = true := by
    intro c hc
    rw [List.mem_append] at hc
    rcases hc with hc | hc
    · rw [hz c hc]; decide
    · exact bne_iff_ne.2 (hexN_all n c hc).2.2.2
  have htk : (z ++ hexN n ++ e).takeWhile (fun c => c != 59) = z ++ hexN n := by
    rw [List.takeWhile_append_of_pos hno]
    rcases he with rfl | ⟨r, rfl, _⟩
    · simp
    · rw [List.takeWhile_cons_of_neg (by decide)]
      simp
  have hdr : (z ++ hexN n ++ e).dropWhile (fun c => c != 59) = e := by
    rw [List.dropWhile_append_of_pos hno]
    rcases he with rfl | ⟨r, rfl, _⟩
    · rfl
    · rw [List.dropWhile_cons_of_neg (by decide)]
  have hex : e.all extB = true := by
    rcases he with rfl | ⟨r, rfl, hr⟩
    · rfl
    · rw [List.all_cons, hr]
      decide
  have hne := hexN_ne n
  have hok : numOk 16 8 (z ++ hexN n) = true := by
    unfold numOk
    have h1 : (z ++ hexN n).isEmpty = false := by
      cases h : z ++ hexN n with
      | nil => exact absurd (List.append_eq_nil_iff.1 h).2 hne
      | cons => rfl
    have h2 : (((z ++ hexN n).length : Nat) : Int) ≤ 8 := by rw [List.length_append]; omega
    have h3 : (z ++ hexN n).all (fun c => decide (dig c < 16)) = true := by
      rw [List.all_eq_true]
      intro c hc
      rw [List.mem_append] at hc
      rcases hc with hc | hc
      · rw [hz c hc]; decide
      · exact decide_eq_true (hexN_all n c hc).1
    rw [h1, decide_eq_true h2, h3]
    rfl
  unfold sizeL
  rw [htk, hdr, if_pos ⟨hok, hex⟩]
  unfold numR
  rw [if_pos hok]
  have hv : numV 16 (z ++ hexN n) = n := by
    have h0 : ∀ z : List UInt8, (∀ c ∈ z, c = 48) → z.foldl (fun n c => 16 * n + dig c) 0 = 0 := by
      intro z
      induction z with
      | nil => intro _; rfl
      | cons c z ih =>
        intro h
        rw [List.foldl_cons, h c List.mem_cons_self]
        exact ih (fun x hx => h x (List.mem_cons_of_mem _ hx))
    unfold numV
    rw [List.foldl_append, h0 z hz]
    exact hexN_val n
  rw [hv]
theorem hex_plain (n : Nat) : plainL (hexN n) := fun c hc => ⟨(hexN_all n c hc).2.1, (hexN_all n c hc).2.2.1⟩
theorem hex_size {n : Nat} (h : n < 4294967296) : sizeL (hexN n) = n ∧ (hexN n).length ≤ 8 := by
  have hl := hexN_len 7 n h
  have := size_hex (n := n) (z := []) (e := []) (fun c hc => by cases hc) (.inl rfl) (by simpa using hl)
  simp only [List.nil_append, List.append_nil] at this
  exact ⟨this, hl⟩
theorem run_enc {most : Int} {n : Nat} {t : List UInt8} (h : t.length < 4294967296) (hm : (n : Int) + t.length ≤ most ∨ t = []) : run (at_ most n) (enc t) = (at_ most (n + t.length), t, (enc t).length) := by
  unfold enc
  by_cases h0 : t = []
  · subst h0
    rfl
  · rw [if_neg h0]
    obtain ⟨h1, h2⟩ := hex_size h
    exact run_chunk (hex_plain _) (by omega) h1 h0 (by rcases hm with h | h; exact h; exact absurd h h0)
/-- many texts, one behind another -/
theorem run_many : ∀ (T : List (List UInt8)) (most : Int) (n : Nat), (∀ t ∈ T, t.length < 4294967296) → ((n : Int) + T.flatten.length ≤ most ∨ T.flatten = []) → run (at_ most n) (T.flatMap enc) = (at_ most (n + T.flatten.length), T.flatten, (T.flatMap enc).length)
  | [], most, n, _, _ => rfl
  | t :: T, most, n, h, hm => by
    rw [List.flatMap_cons, List.flatten_cons, run_append]
    rw [List.flatten_cons] at hm
    have ht := h t List.mem_cons_self
    have h1 : (n : Int) + t.length ≤ most ∨ t = [] := by
      rcases hm with hm | hm
      · rw [List.length_append] at hm
        left
        omega
      · exact .inr (List.append_eq_nil_iff.1 hm).1
    rw [run_enc ht h1]
    have h2 : ((n + t.length : Nat) : Int) + T.flatten.length ≤ most ∨ T.flatten = [] := by
      rcases hm with hm | hm
      · rw [List.length_append] at hm
        left
        omega
      · exact .inr (List.append_eq_nil_iff.1 hm).2
    have ih := run_many T most (n + t.length) (fun x hx => h x (List.mem_cons_of_mem _ hx)) h2
    simp only
    rw [ih]
    simp only [List.length_append]
    rw [Nat.add_assoc]
theorem run_last (most : Int) (n : Nat) (x : List UInt8) : run (at_ most n) (lastL ++ x) = (⟨most, n, .done, [], false⟩, [], 5) := by
  have h1 : run (at_ most n) [48, 13, 10] = (⟨most, n, .trail 0, [], false⟩, [], 3) := by
    have := run_whole (at_line most n) (l := [48]) (by intro c hc; rw [List.mem_singleton] at hc; subst hc; decide) rfl (by show 1 ≤ 64; decide)
    rw [show ([48] : List UInt8) ++ [13, 10] = [48, 13, 10] from rfl] at this
    rw [this]
    have hs : sizeL [48] = 0 := by decide
    unfold endLine at_ goOn
    simp only [hs]
    rfl
  have h2 : run ⟨most, n, .trail 0, [], false⟩ [13, 10] = (⟨most, n, .done, [], false⟩, [], 2) := by
    rw [run_end ⟨.inr (.inr ⟨0, rfl⟩), rfl⟩ rfl]
    rfl
  rw [show lastL ++ x = [48, 13, 10] ++ ([13, 10] ++ x) from rfl, run_append, h1]
  simp only
  rw [run_append, h2]
  simp only
  rw [run_stop rfl]
  rfl
/-- ChunkBack: all is read back -/
theorem back_say (T : List (List UInt8)) (x : List UInt8) (h : ∀ t ∈ T, t.length < 4294967296) : ans (begin_ T.flatten.length) (T.flatMap enc ++ lastL ++ x) = (T.flatten, (T.flatMap enc ++ lastL).length, true, 0) := by
  have h1 := run_many T T.flatten.length 0 h (.inl (by omega))
  have h2 : run (begin_ T.flatten.length) (T.flatMap enc ++ lastL ++ x) = (⟨T.flatten.length, T.flatten.length, .done, [], false⟩, T.flatten, (T.flatMap enc ++ lastL).length) := by
    rw [List.append_assoc, run_append]
    rw [show begin_ T.flatten.length = at_ T.flatten.length 0 from rfl, h1]
    simp only
    rw [run_last]
    simp [lastL]
  unfold ans
  rw [h2]
theorem back_over : ∀ (T : List (List UInt8)) (most : Int) (n : Nat) (x : List UInt8), (∀ t ∈ T, t.length < 4294967296) → (n : Int) ≤ most → most < (n : Int) + T.flatten.length → (run (at_ most n) (T.flatMap enc ++ x)).1.ph = .bad 101
  | [], most, n, x, _, h1, h2 => by
    exfalso
    simp at h2
    omega
  | t :: T, most, n, x, h, h1, h2 => by
    rw [List.flatten_cons, List.length_append] at h2
    rw [List.flatMap_cons, List.append_assoc]
    have ht := h t List.mem_cons_self
    by_cases h0 : t = []
    · subst h0
      exact back_over T most n x (fun y hy => h y (List.mem_cons_of_mem _ hy)) h1 (by simpa using h2)
    · by_cases hm : (n : Int) + t.length ≤ most
      · rw [run_append, run_enc ht (.inl hm)]
        exact back_over T most (n + t.length) x (fun y hy => h y (List.mem_cons_of_mem _ hy)) (by omega) (by omega)
      · obtain ⟨q1, q2⟩ := hex_size ht
        have e : enc t = hexN t.length ++ [13, 10] ++ t ++ [13, 10] := by unfold enc; rw [if_neg h0]
        rw [e]
        have := run_over (x := t ++ [13, 10] ++ (T.flatMap enc ++ x)) (hex_plain t.length) (by omega) q1 h0 (show most < (n : Int) + t.length by omega)
        simpa using this
theorem over_say (T : List (List UInt8)) (x : List UInt8) (h : ∀ t ∈ T, t.length < 4294967296) (hne : 0 < T.flatten.length) : (ans (begin_ ((T.flatten.length : Int) - 1)) (T.flatMap enc ++ x)).2.2.2 = 101 := by
  have := back_over T ((T.flatten.length : Int) - 1) 0 x h (by omega) (by omega)
  unfold ans
  rw [show begin_ ((T.flatten.length : Int) - 1) = at_ ((T.flatten.length : Int) - 1) 0 from rfl, this]
end Go.Proofs.YtblpooddamkfdaaGreatDoor.DChunkText

/- Layer 10: the document's way through all bytes, line by line, and the reading byte by byte. No program is named. -/
namespace Go.Proofs.YtblpooddamkfdaaGreatDoor.ChunkRead
open Bytes LexPure LexNum HeadPure DChunkPure DChunkText
set_option maxRecDepth 20000
theorem line_wait (over : Int) : ∀ (D : List UInt8) (m : M), lineP m → scan (bound m.ph) over m.line.length D = .wait → (run m D).1.ph = m.ph ∧ (run m D).2.1 = [] ∧ (run m D).1.size = m.size
  | [], m, _, _ => ⟨rfl, rfl, rfl⟩
  | c :: D, m, h, hs => by
    obtain ⟨h1, h2⟩ := line_step h.1 c
    rw [scan_cons] at hs
    rw [run_cons h2, h1]
    by_cases c1 : c = 10
    · rw [if_pos c1] at hs; cases hs
    · rw [if_neg c1] at hs
      by_cases c2 : c = 13
      · rw [if_pos c2] at hs
        have e : lineStep m c = { m with cr := true } := by
          unfold lineStep
          rw [if_neg (by rw [h.2]; decide), if_pos c2]
        cases D with
        | nil =>
          rw [e]
          exact ⟨rfl, rfl, rfl⟩
        | cons d D =>
          simp only at hs
          split at hs <;> cases hs
      · rw [if_neg c2] at hs
        by_cases c3 : bound m.ph ≤ m.line.length
        · rw [if_pos c3] at hs; cases hs
        · rw [if_neg c3] at hs
          have e : lineStep m c = { m with line := m.line ++ [c] } := by
            unfold lineStep
            rw [if_neg (by rw [h.2]; decide), if_neg c2, if_neg]
            rintro (x | x)
            · exact c1 x
            · exact c3 x
          rw [e]
          obtain ⟨i1, i2, i3⟩ := line_wait over D { m with line := m.line ++ [c] } ⟨h.1, h.2⟩ (by
            show scan (bound m.ph) over (m.line ++ [c]).length D = _
            rw [List.length_append, List.length_singleton]
            exact hs)
          exact ⟨i1, by rw [i2]; rfl, i3⟩
theorem fail_run (m : M) (e : Int) (D : List UInt8) : run (fail m e) D = (fail m e, [], 0) := run_stop rfl D
theorem line_bad (over e : Int) : ∀ (D : List UInt8) (m : M), lineP m → scan (bound m.ph) over m.line.length D = .bad e → (run m D).1.ph = .bad 100
  | [], m, _, hs => by cases hs
  | c :: D, m, h, hs => by
    obtain ⟨h1, h2⟩ := line_step h.1 c
    rw [scan_cons] at hs
    rw [run_cons h2, h1]
    by_cases c1 : c = 10
    · have e : lineStep m c = fail m 100 := by
        unfold lineStep
        rw [if_neg (by rw [h.2]; decide), if_neg (by rw [c1]; decide), if_pos (.inl c1)]
      rw [e, fail_run]
      rfl
    · rw [if_neg c1] at hs
      by_cases c2 : c = 13
      · rw [if_pos c2] at hs
        have e : lineStep m c = { m with cr := true } := by
          unfold lineStep
          rw [if_neg (by rw [h.2]; decide), if_pos c2]
        rw [e]
        cases D with
        | nil => cases hs
        | cons d D =>
          simp only at hs
          by_cases c3 : d = 10
          · rw [if_pos c3] at hs; cases hs
          · obtain ⟨q1, q2⟩ := line_step (m := { m with cr := true }) h.1 d
            have e2 : lineStep { m with cr := true } d = fail m 100 := by
              unfold lineStep
              rw [if_pos rfl, if_neg c3]
              rfl
            simp only
            rw [run_cons q2, q1, e2, fail_run]
            rfl
      · rw [if_neg c2] at hs
        by_cases c3 : bound m.ph ≤ m.line.length
        · have e : lineStep m c = fail m 100 := by
            unfold lineStep
            rw [if_neg (by rw [h.2]; decide), if_neg c2, if_pos (.inr c3)]
          rw [e, fail_run]
          rfl
        · rw [if_neg c3] at hs
          have e : lineStep m c = { m with line := m.line ++ [c] } := by
            unfold lineStep
            rw [if_neg (by rw [h.2]; decide), if_neg c2, if_neg]
            rintro (x | x)
            · exact c1 x
            · exact c3 x
          rw [e]
          exact line_bad over _ D { m with line := m.line ++ [c] } ⟨h.1, h.2⟩ (by
            show scan (bound m.ph) over (m.line ++ [c]).length D = _
            rw [List.length_append, List.length_singleton]
            exact hs)
theorem line_whole {over : Int} {D : List UInt8} {m : M} {k : Nat} (h : lineP m) (h0 : m.line = []) (hs : scan (bound m.ph) over 0 D = .whole k) :
    run m D = ((run (endLine { m with line := D.take k }) (D.drop (k + 2))).1, (run (endLine { m with line := D.take k }) (D.drop (k + 2))).2.1, k + 2 + (run (endLine { m with line := D.take k }) (D.drop (k + 2))).2.2) ∧ k + 2 ≤ D.length := by
  obtain ⟨l, q, rfl, hk, hp, hm⟩ := scan_whole _ _ _ _ _ hs
  rw [Nat.zero_add] at hk hm
  subst hk
  have e1 : (l ++ 13 :: 10 :: q).take l.length = l := List.take_left
  have e2 : (l ++ 13 :: 10 :: q).drop (l.length + 2) = q := by
    rw [show l ++ 13 :: 10 :: q = (l ++ [13, 10]) ++ q by simp, List.drop_left' (by simp)]
  have e3 : l ++ 13 :: 10 :: q = (l ++ [13, 10]) ++ q := by simp
  refine ⟨?_, by simp⟩
  rw [e1, e2]
  conv => lhs; rw [e3]
  rw [run_append, run_whole h (fun c hc => ⟨(hp c hc).2, (hp c hc).1⟩) h0 (by rcases hm with hm | hm <;> omega)]
  simp
/-- what is told of the trailers: the place behind them, -1, -2 -/
def trailP (a : Nat) (r : M × List UInt8 × Nat) : Int :=
  match r.1.ph with
  | .done => ((a + r.2.2 : Nat) : Int)
  | .bad _ => -2
  | _ => -1
def atTrail (most : Int) (n j : Nat) : M := ⟨most, n, .trail j, [], false⟩
/-- one line of the trailers -/
theorem trail_next (over most : Int) (n j a : Nat) (D : List UInt8) : trailP a (run (atTrail most n j) D) = match scan 512 over 0 D with
    | .wait => -1
    | .bad _ => -2
    | .whole k => if k = 0 then ((a + 2 : Nat) : Int) else if (field8 (D.take k)).2 ≠ 0 ∨ j = 32 then -2 else trailP (a + (k + 2)) (run (atTrail most n (j + 1)) (D.drop (k + 2))) := by
  have hp : lineP (atTrail most n j) := ⟨.inr (.inr ⟨j, rfl⟩), rfl⟩
  cases hs : scan 512 over 0 D with
  | wait =>
    obtain ⟨h1, _, _⟩ := line_wait over D (atTrail most n j) hp hs
    unfold trailP
    rw [h1]
    rfl
  | bad e =>
    have h1 := line_bad over e D (atTrail most n j) hp hs
    unfold trailP
    rw [h1]
  | whole k =>
    obtain ⟨h1, h2⟩ := line_whole (m := atTrail most n j) hp rfl hs
    rw [h1]
    dsimp only
    by_cases hk : k = 0
    · subst hk
      have e : endLine { atTrail most n j with line := D.take 0 } = ⟨most, n, .done, [], false⟩ := by
        unfold endLine atTrail goOn
        rfl
      rw [e, run_stop rfl, if_pos rfl]
      rfl
    · rw [if_neg hk]
      have hne : D.take k ≠ [] := by
        intro h
        have := congrArg List.length h
        rw [List.length_take, List.length_nil] at this
        omega
      by_cases hb : (field8 (D.take k)).2 ≠ 0 ∨ j = 32
      · have e : endLine { atTrail most n j with line := D.take k } = ⟨most, n, .bad 100, [], false⟩ := by
          unfold endLine atTrail fail
          simp only
          rw [if_neg hne, if_pos hb]
        rw [e, run_stop rfl, if_pos hb]
        rfl
      · have e : endLine { atTrail most n j with line := D.take k } = atTrail most n (j + 1) := by
          unfold endLine atTrail goOn
          simp only
          rw [if_neg hne, if_neg hb]
        rw [e, if_neg hb]
        unfold trailP
        simp only
        split <;> first | rfl | omega
/-- what the document's Read answers -/
def readP (r : List UInt8 × Nat × Bool × Int) : List UInt8 × Int × Int := (r.1, if r.2.2.1 then (r.2.1 : Int) else -1, r.2.2.2)
/-- the answer, behind B bytes of the body and a bytes -/
def ansR (B : List UInt8) (a : Nat) (r : M × List UInt8 × Nat) : List UInt8 × Int × Int :=
  match r.1.ph with
  | .bad e => ([], -1, e)
  | .done => (B ++ r.2.1, ((a + r.2.2 : Nat) : Int), 0)
  | _ => (B ++ r.2.1, -1, 0)
theorem readP_ansR (m : M) (l : List UInt8) : readP (ans m l) = ansR [] 0 (run m l) := by
  unfold readP ans ansR
  split <;> simp_all
/-- one chunk -/
theorem chunk_next (most : Int) (n a : Nat) (B D : List UInt8) : ansR B a (run (at_ most n) D) = match scan 64 0 0 D with
    | .wait => (B, -1, 0)
    | .bad _ => ([], -1, 100)
    | .whole k => if sizeL (D.take k) < 0 then ([], -1, 100) else if sizeL (D.take k) = 0 then
        (if trailP (a + (k + 2)) (run (atTrail most n 0) (D.drop (k + 2))) = -2 then ([], -1, 100) else (B, trailP (a + (k + 2)) (run (atTrail most n 0) (D.drop (k + 2))), 0))
      else if most - n < sizeL (D.take k) then ([], -1, 101)
      else ansR B (a + (k + 2)) (run ⟨most, n, .data (sizeL (D.take k)).toNat, [], false⟩ (D.drop (k + 2))) := by
  cases hs : scan 64 0 0 D with
  | wait =>
    obtain ⟨h1, h2, _⟩ := line_wait 0 D (at_ most n) (at_line most n) hs
    unfold ansR
    rw [h1, h2]
    simp [at_]
  | bad e =>
    have h1 := line_bad 0 e D (at_ most n) (at_line most n) hs
    unfold ansR
    rw [h1]
  | whole k =>
    obtain ⟨h1, h2⟩ := line_whole (m := at_ most n) (at_line most n) rfl hs
    rw [h1]
    simp only
    generalize D.take k = l
    generalize D.drop (k + 2) = q
    have e : endLine { at_ most n with line := l } = if sizeL l < 0 then ⟨most, n, .bad 100, [], false⟩ else if sizeL l = 0 then atTrail most n 0 else if most - n < sizeL l then ⟨most, n, .bad 101, [], false⟩ else ⟨most, n, .data (sizeL l).toNat, [], false⟩ := by
      unfold endLine at_ goOn fail atTrail
      rfl
    by_cases c1 : sizeL l < 0
    · rw [if_pos c1] at e ⊢
      rw [e, run_stop rfl]
      rfl
    rw [if_neg c1] at e ⊢
    by_cases c2 : sizeL l = 0
    · rw [if_pos c2] at e ⊢
      rw [e]
      have hout : ∀ (D : List UInt8) (m : M), (∃ j, m.ph = .trail j) ∨ stop m = true → (run m D).2.1 = [] ∧ ∀ e, (run m D).1.ph = .bad e → e = 100 ∨ m.ph = .bad e := by
        intro D
        induction D with
        | nil => exact fun m _ => ⟨rfl, fun e he => .inr he⟩
        | cons c D ih =>
          intro m hm
          rcases hm with ⟨j, hj⟩ | hm
          · obtain ⟨s1, s2⟩ := line_step (m := m) (.inr (.inr ⟨j, hj⟩)) c
            rw [run_cons s2, s1]
            have hnext : ((∃ j, (lineStep m c).ph = .trail j) ∨ stop (lineStep m c) = true) ∧ ∀ e, (lineStep m c).ph = .bad e → e = 100 := by
              unfold lineStep
              split
              · split
                · unfold endLine
                  rw [hj]
                  simp only
                  split
                  · exact ⟨.inr rfl, fun e he => by cases he⟩
                  · split
                    · exact ⟨.inr rfl, fun e he => by cases he; rfl⟩
                    · exact ⟨.inl ⟨_, rfl⟩, fun e he => by cases he⟩
                · exact ⟨.inr rfl, fun e he => by cases he; rfl⟩
              · split
                · exact ⟨.inl ⟨j, hj⟩, fun e he => by have he2 : m.ph = .bad e := he; rw [hj] at he2; cases he2⟩
                · split
                  · exact ⟨.inr rfl, fun e he => by cases he; rfl⟩
                  · exact ⟨.inl ⟨j, hj⟩, fun e he => by have he2 : m.ph = .bad e := he; rw [hj] at he2; cases he2⟩
            obtain ⟨i1, i2⟩ := ih _ hnext.1
            refine ⟨by simpa using i1, fun e he => ?_⟩
            rcases i2 e he with h | h
            · exact .inl h
            · exact .inl (hnext.2 e h)
          · rw [run_stop hm]
            exact ⟨rfl, fun e he => .inr he⟩
      obtain ⟨o1, o2⟩ := hout q (atTrail most n 0) (.inl ⟨0, rfl⟩)
      unfold ansR trailP
      simp only
      generalize hr : run (atTrail most n 0) q = r at *
      obtain ⟨m2, o, u⟩ := r
      simp only at o1 o2 ⊢
      subst o1
      cases hph : m2.ph with
      | bad e =>
        rw [hph] at o2
        rcases o2 e rfl with h | h
        · subst h
          simp
        · cases h
      | done =>
        simp only
        rw [if_neg (by omega), List.append_nil]
        congr 2
        omega
      | size => simp
      | after => simp
      | data x => simp
      | trail x => simp
    rw [if_neg c2] at e ⊢
    by_cases c3 : most - n < sizeL l
    · rw [if_pos c3] at e ⊢
      rw [e, run_stop rfl]
      rfl
    rw [if_neg c3] at e ⊢
    rw [e]
    unfold ansR
    simp only
    split <;> first | rfl | (congr 2; omega)
theorem run_data_part : ∀ (l : List UInt8) (m : M) (k : Nat), m.ph = .data k → l.length < k → run m l = (⟨m.most, m.size + l.length, .data (k - l.length), m.line, m.cr⟩, l, l.length)
  | [], m, k, hp, _ => by
    show (m, [], 0) = ((⟨m.most, m.size, .data k, m.line, m.cr⟩ : M), [], 0)
    rw [← hp]
  | c :: l, m, k, hp, hl => by
    rw [List.length_cons] at hl
    have hs : stop m = false := by unfold stop; rw [hp]
    rw [run_cons hs]
    have h1 : bstep m c = (⟨m.most, m.size + 1, .data (k - 1), m.line, m.cr⟩, [c]) := by
      unfold bstep
      rw [hp]
      show ((⟨m.most, m.size + 1, if k ≤ 1 then Ph.after else Ph.data (k - 1), m.line, m.cr⟩ : M), [c]) = _
      rw [if_neg (by omega)]
    rw [h1]
    have ih := run_data_part l ⟨m.most, m.size + 1, .data (k - 1), m.line, m.cr⟩ (k - 1) rfl (by omega)
    rw [ih]
    simp only [List.length_cons]
    have e1 : m.size + 1 + l.length = m.size + (l.length + 1) := by omega
    have e2 : k - 1 - l.length = k - (l.length + 1) := by omega
    rw [e1, e2]
    rfl
/-- the bytes of a chunk, and its end -/
theorem data_next (most : Int) (n a k : Nat) (hk : 0 < k) (B D : List UInt8) : ansR B a (run ⟨most, n, .data k, [], false⟩ D) =
    if D.length ≤ k then (B ++ D, -1, 0) else match scan 0 0 0 (D.drop k) with
      | .wait => (B ++ D.take k, -1, 0)
      | .bad _ => ([], -1, 100)
      | .whole j => ansR (B ++ D.take k) (a + k + (j + 2)) (run (at_ most (n + k)) ((D.drop k).drop (j + 2))) := by
  by_cases h : D.length ≤ k
  · rw [if_pos h]
    rcases Nat.lt_or_eq_of_le h with h | h
    · rw [run_data_part D _ k rfl h]
      rfl
    · subst h
      rw [run_data D _ rfl (fun e => by rw [e] at hk; cases hk)]
      rfl
  · rw [if_neg h]
    have hlt : (D.take k).length = k := by rw [List.length_take]; omega
    have e : D = D.take k ++ D.drop k := (List.take_append_drop k D).symm
    have h1 : run ⟨most, n, .data k, [], false⟩ (D.take k) = (⟨most, n + k, .after, [], false⟩, D.take k, k) := by
      have := run_data (D.take k) ⟨most, n, .data k, [], false⟩ (by rw [hlt]) (fun e => by rw [e] at hlt; simp at hlt; omega)
      rw [this, hlt]
    conv => lhs; rw [e]
    rw [run_append, h1]
    simp only
    have hp : lineP ⟨most, n + k, .after, [], false⟩ := ⟨.inr (.inl rfl), rfl⟩
    cases hs : scan 0 0 0 (D.drop k) with
    | wait =>
      obtain ⟨q1, q2, _⟩ := line_wait 0 (D.drop k) ⟨most, n + k, .after, [], false⟩ hp hs
      unfold ansR
      simp only
      rw [q1, q2, List.append_nil]
    | bad e =>
      have q1 := line_bad 0 e (D.drop k) ⟨most, n + k, .after, [], false⟩ hp hs
      unfold ansR
      simp only
      rw [q1]
    | whole j =>
      obtain ⟨q1, q2⟩ := line_whole (m := ⟨most, n + k, .after, [], false⟩) hp rfl hs
      rw [q1]
      have e2 : endLine ⟨most, n + k, .after, (D.drop k).take j, false⟩ = at_ most (n + k) := rfl
      simp only
      rw [e2]
      unfold ansR
      simp only
      split
      · rfl
      · rw [List.append_assoc]
        congr 2
        omega
      · rw [List.append_assoc]
end Go.Proofs.YtblpooddamkfdaaGreatDoor.ChunkRead

/- Layer 10, the document's own line. -/
namespace Go.Proofs.YtblpooddamkfdaaGreatDoor.R10Line
open Go.ChangeShapes Go.WideShapes Go.ChangeAt Go.RowKit LexPure Bytes Ret HeadPure
set_option maxRecDepth 20000
/-- a line as the document tells it: its text, the place behind it (-1, -2) -/
def lineA (a : Nat) (D : List UInt8) : Line → List UInt8 × Int
  | .whole k => (D.take k, ((a + k + 2 : Nat) : Int))
  | .bad _ => ([], -2)
  | .wait => ([], -1)
theorem ret_line {a b : ByteArray} {c d : Int} (h : a = b) (k : c = d) : Ending.returned (.tuple #[.string a, .int .i64 c]) = .returned (.tuple #[.string b, .int .i64 d]) := by rw [h, k]
theorem mark_end (b : UInt8) : (b = 10 ∧ ((b.toNat : Int) == 10) = true ∧ ((b.toNat : Int) != 10) = false) ∨ (b = 13 ∧ b ≠ 10 ∧ ((b.toNat : Int) == 10) = false ∧ ((b.toNat : Int) != 10) = true ∧ ((b.toNat : Int) == 13) = true) ∨ (b ≠ 10 ∧ b ≠ 13 ∧ ((b.toNat : Int) == 10) = false ∧ ((b.toNat : Int) != 10) = true ∧ ((b.toNat : Int) == 13) = false) := by
  have := all_bytes (p := fun b => decide ((b = 10 ∧ ((b.toNat : Int) == 10) = true ∧ ((b.toNat : Int) != 10) = false) ∨ (b = 13 ∧ b ≠ 10 ∧ ((b.toNat : Int) == 10) = false ∧ ((b.toNat : Int) != 10) = true ∧ ((b.toNat : Int) == 13) = true) ∨ (b ≠ 10 ∧ b ≠ 13 ∧ ((b.toNat : Int) == 10) = false ∧ ((b.toNat : Int) != 10) = true ∧ ((b.toNat : Int) == 13) = false))) (by decide +kernel) b
  exact of_decide_eq_true this
set_option maxHeartbeats 1600000 in
theorem r10line_any (s : ByteArray) (hs : s.size ≤ 140737488351232) (a most : Nat) (ha : a ≤ s.size) (w : World) :
    Calls Tryz.prog 57 #[.string s, .int .i64 (a : Int), .int .i64 (most : Int)] w fun e w' => e = .returned (.tuple #[.string (ofL (lineA a ((toL s).drop a) (scan most 0 0 ((toL s).drop a))).1), .int .i64 (lineA a ((toL s).drop a) (scan most 0 0 ((toL s).drop a))).2]) ∧ w = w' := by
  obtain ⟨X, hX⟩ : ∃ X, X = lineA a ((toL s).drop a) (scan most 0 0 ((toL s).drop a)) := ⟨_, rfl⟩
  rw [← hX]
  replace hX := Lib.hid hX
  go_enter Tryz.func57, Tryz.ntmps57
  go_wp2_with fail
  go_loop [8] (fun i => ∃ k : Nat, a ≤ k ∧ k ≤ s.size ∧ i = .int .i64 k ∧ Hid (scan most 0 0 ((toL s).drop a) = scan most 0 (k - a) ((toL s).drop k))) (fun i => s.size - (intOf i).toNat)
  case atStart => exact ⟨a, Nat.le_refl _, ha, rfl, Lib.hid (by rw [Nat.sub_self])⟩
  case round =>
    obtain ⟨k, hak, hk, rfl, hq⟩ := hrel
    by_cases hlt : k < s.size
    · have hki : (k : Int) < (s.size : Int) := by omega
      have HE : Hid (scan most 0 0 ((toL s).drop a) = scan most 0 (k - a) (s[k] :: (toL s).drop (k + 1))) := Lib.hid (by rw [hq.out, toL_drop s k hlt])
      clear hq
      rcases mark_end s[k] with ⟨c0, c1, c2⟩ | ⟨c0, c9, c1, c2, c3⟩ | ⟨c0, c9, c1, c2, c3⟩
      · have HV : Hid (X = ([], -2)) := Lib.hid (by rw [hX.out, HE.out, scan_cons, if_pos c0]; rfl)
        clear HE c0 c2 hX
        go_wp2_with fail
        go_ret2
        exact ⟨ret_line (by rw [HV.out]; rfl) (by rw [HV.out]), rfl⟩
      · by_cases hn : k + 1 < s.size
        · have hni : (k : Int) + 1 < (s.size : Int) := by omega
          have hng : ((k : Int) + 1 == (s.size : Int)) = false := beq_eq_false_iff_ne.2 (by omega)
          have HD : Hid (scan most 0 0 ((toL s).drop a) = if s[k + 1] = 10 then .whole (k - a) else .bad 80) := Lib.hid (by
            rw [HE.out, scan_cons, if_neg c9, if_pos c0, toL_drop s (k + 1) hn])
          rcases mark_end s[k + 1] with ⟨d0, d1, d2⟩ | ⟨_, d0, d1, d2, _⟩ | ⟨d0, _, d1, d2, _⟩
          · have HV : Hid (ofL X.1 = s.extract a k ∧ X.2 = (k : Int) + 2) := Lib.hid (by
              rw [hX.out, HD.out, if_pos d0]
              refine ⟨toL_inj ?_, ?_⟩
              · rw [toL_ofL, toL_extract, List.drop_take]
                rfl
              · show ((a + (k - a) + 2 : Nat) : Int) = _
                omega)
            have hka : (a : Int) ≤ (k : Int) := by omega
            clear HE HD c0 c9 c2 d0 d1 hX
            go_wp2_with fail
            go_ret2
            exact ⟨ret_line HV.out.1.symm HV.out.2.symm, rfl⟩
          · have HV : Hid (X = ([], -2)) := Lib.hid (by rw [hX.out, HD.out, if_neg d0]; rfl)
            clear HE HD c0 c9 c2 d0 d1 hX
            go_wp2_with fail
            go_ret2
            exact ⟨ret_line (by rw [HV.out]; rfl) (by rw [HV.out]), rfl⟩
          · have HV : Hid (X = ([], -2)) := Lib.hid (by rw [hX.out, HD.out, if_neg d0]; rfl)
            clear HE HD c0 c9 c2 d0 d1 hX
            go_wp2_with fail
            go_ret2
            exact ⟨ret_line (by rw [HV.out]; rfl) (by rw [HV.out]), rfl⟩
        · have hng : ((k : Int) + 1 == (s.size : Int)) = true := by rw [beq_iff_eq]; omega
          have HV : Hid (X = ([], -1)) := Lib.hid (by
            rw [hX.out, HE.out, scan_cons, if_neg c9, if_pos c0, show (toL s).drop (k + 1) = [] from List.drop_eq_nil_of_le (by rw [toL_length]; omega)]
            rfl)
          clear HE c0 c9 c2 hX
          go_wp2_with fail
          go_ret2
          exact ⟨ret_line (by rw [HV.out]; rfl) (by rw [HV.out]), rfl⟩
      · by_cases hm : most ≤ k - a
        · have hmi : (most : Int) ≤ (k : Int) - (a : Int) := by omega
          have HV : Hid (X = ([], -2)) := Lib.hid (by rw [hX.out, HE.out, scan_cons, if_neg c0, if_neg c9, if_pos hm]; rfl)
          clear HE c0 c9 c2 hX
          go_wp2_with fail
          go_ret2
          exact ⟨ret_line (by rw [HV.out]; rfl) (by rw [HV.out]), rfl⟩
        · have hmi : ¬ (most : Int) ≤ (k : Int) - (a : Int) := by omega
          have HV : Hid (scan most 0 0 ((toL s).drop a) = scan most 0 (k + 1 - a) ((toL s).drop (k + 1))) := Lib.hid (by
            rw [HE.out, scan_cons, if_neg c0, if_neg c9, if_neg hm, show k - a + 1 = k + 1 - a by omega])
          clear HE c0 c9 c2
          go_wp2_with fail
          go_round
          case rel => exact ⟨k + 1, by omega, by omega, by go_num, HV⟩
          case measure => simp [intOf]; omega
    · have hki : ¬ (k : Int) < (s.size : Int) := by omega
      have HV : Hid (X = ([], -1)) := Lib.hid (by rw [hX.out, hq.out, show (toL s).drop k = [] from List.drop_eq_nil_of_le (by rw [toL_length]; omega)]; rfl)
      clear hq hX
      go_wp2_with fail
      go_ret2
      exact ⟨ret_line (by rw [HV.out]; rfl) (by rw [HV.out]), rfl⟩
end Go.Proofs.YtblpooddamkfdaaGreatDoor.R10Line

/- Layer 10, the document's own trailers. -/
namespace Go.Proofs.YtblpooddamkfdaaGreatDoor.R10Trail
open Go.ChangeShapes Go.WideShapes Go.ChangeAt Go.RowKit LexPure Bytes Ret HeadPure HBox DChunkPure ChunkRead R10Line R8Field Mem
set_option maxRecDepth 20000
theorem ret_int {a b : Int} (h : a = b) : Ending.returned (.int .i64 a) = .returned (.int .i64 b) := by rw [h]
theorem field_err (l : List UInt8) : (field8 l).2 = 0 ∨ (field8 l).2 = 70 := by
  unfold field8
  split
  · exact .inl rfl
  · exact .inr rfl
set_option maxHeartbeats 1600000 in
theorem r10trail_any (s : ByteArray) (hs : s.size ≤ 140737488351232) (a : Nat) (ha : a ≤ s.size) (w : World) :
    Calls Tryz.prog 59 #[.string s, .int .i64 (a : Int)] w fun e w' => e = .returned (.int .i64 (trailP a (run (atTrail 0 0 0) ((toL s).drop a)))) ∧ Below w.heap.size w w' := by
  obtain ⟨X, hX⟩ : ∃ X, X = trailP a (run (atTrail 0 0 0) ((toL s).drop a)) := ⟨_, rfl⟩
  rw [← hX]
  have HX : Hid (X = trailP a (run (atTrail 0 0 0) ((toL s).drop a)) ∧ Below w.heap.size w w) := Lib.hid ⟨hX, Below.refl _ _⟩
  clear hX
  go_enter Tryz.func59, Tryz.ntmps59
  go_wp2_with fail
  go_loopw [1, 5] (fun at_ n wr => ∃ (j b : Nat), j ≤ 32 ∧ b ≤ s.size ∧ at_ = .int .i64 b ∧ n = .int .i64 j ∧ Hid (X = trailP b (run (atTrail 0 0 j) ((toL s).drop b)) ∧ Below w.heap.size w wr)) (fun _ n _ => 33 - (intOf n).toNat)
  case atStart => exact ⟨0, a, Nat.zero_le _, ha, rfl, rfl, HX⟩
  case round =>
    obtain ⟨j, b, hj, hb, rfl, rfl, HI⟩ := hrel
    clear HX
    have hji : (j : Int) ≤ 33 := by omega
    obtain ⟨h1, hbw⟩ := HI.out
    rw [trail_next 0] at h1
    have HL := Lib.hid (fun w => r10line_any s hs b 512 hb w)
    have hD : ((toL s).drop b).length = s.size - b := by rw [List.length_drop, toL_length]
    cases hsc : scan 512 0 0 ((toL s).drop b) with
    | wait =>
      rw [hsc] at h1 HL
      have HV : Hid (X = -1) := Lib.hid h1
      unfold lineA at HL
      dsimp only at HL
      clear h1 HI hsc hD
      go_wp2_with fail
      refine (HL.out _).mono ?_
      rintro e w' ⟨rfl, rfl⟩
      go_wp2_with fail
      go_ret
      exact ⟨ret_int HV.out.symm, hbw⟩
    | bad er =>
      rw [hsc] at h1 HL
      have HV : Hid (X = -2) := Lib.hid h1
      unfold lineA at HL
      dsimp only at HL
      clear h1 HI hsc hD
      go_wp2_with fail
      refine (HL.out _).mono ?_
      rintro e w' ⟨rfl, rfl⟩
      go_wp2_with fail
      go_ret
      exact ⟨ret_int HV.out.symm, hbw⟩
    | whole k =>
      rw [hsc] at h1 HL
      unfold lineA at HL
      dsimp only at h1 HL
      obtain ⟨l, q, he, hk, hp, hm⟩ := scan_whole _ _ _ _ _ hsc
      rw [Nat.zero_add] at hk
      have hlen : k + 2 ≤ s.size - b := by
        rw [← hD, he, hk]
        simp
      have hlk : ((toL s).drop b).take k = l := by rw [he, hk]; exact List.take_left
      have hdd : ((toL s).drop b).drop (k + 2) = (toL s).drop (b + (k + 2)) := by rw [List.drop_drop]
      rw [hlk] at h1 HL
      rw [hdd] at h1
      have hpos : (0 : Int) ≤ ((b + k + 2 : Nat) : Int) := by omega
      have hng : ¬ ((b + k + 2 : Nat) : Int) < 0 := by omega
      by_cases h0 : k = 0
      · have hl : l = [] := List.length_eq_zero_iff.1 (by omega)
        rw [if_pos h0] at h1
        have HV : Hid (X = ((b + k + 2 : Nat) : Int)) := Lib.hid (by rw [h1, h0])
        rw [hl, show ofL [] = ⟨#[]⟩ from rfl] at HL
        clear h1 HI hsc hD he hlk hdd hp hm
        generalize b + k + 2 = nx at *
        go_wp2_with fail
        refine (HL.out _).mono ?_
        rintro e w' ⟨rfl, rfl⟩
        go_wp2_with fail
        go_ret
        exact ⟨ret_int HV.out.symm, hbw⟩
      · rw [if_neg h0] at h1
        obtain ⟨L, hL⟩ : ∃ L, L = ofL l := ⟨_, rfl⟩
        have tL : toL L = l := by rw [hL, toL_ofL]
        have e1 : ¬ (L.toList = []) := by
          rw [ByteArray.toList_eq, show L.data.toList = l from tL]
          intro h
          rw [h] at hk
          exact h0 hk
        have e2 : L.toList.isEmpty = false := by
          cases hx : L.toList with
          | nil => exact absurd hx e1
          | cons => rfl
        have e3 : (L.toList == []) = false := beq_eq_false_iff_ne.2 e1
        have HF := Lib.hid (fun w => r8field_any L (by rw [hL, ofL_size]; omega) w)
        rw [tL] at HF
        rw [← hL] at HL
        have hfe := field_err l
        generalize field8 l = yy at *
        obtain ⟨⟨f1, f2⟩, er⟩ := yy
        unfold frv fv at HF
        dsimp only at h1 HF hfe
        have hnx : b + (k + 2) = b + k + 2 := by omega
        rw [hnx] at h1
        have hnb : b + k + 2 ≤ s.size := by omega
        clear HI hsc hD he hlk hdd hp hm hL tL hlen hk hnx
        generalize b + k + 2 = nx at *
        rcases (show (er = 0 ∧ (j : Int) = 32 ∧ X = -2) ∨ (er = 0 ∧ ((j : Int) == 32) = false ∧ j + 1 ≤ 32 ∧ X = trailP nx (run (atTrail 0 0 (j + 1)) ((toL s).drop nx))) ∨ (er = 70 ∧ X = -2) by
          rcases hfe with h | h
          · by_cases h32 : j = 32
            · exact .inl ⟨h, by omega, by rw [h1, if_pos (.inr h32)]⟩
            · exact .inr (.inl ⟨h, beq_eq_false_iff_ne.2 (by omega), by omega, by rw [h1, if_neg (by rintro (x | x); exact x h; exact h32 x)]⟩)
          · exact .inr (.inr ⟨h, by rw [h1, if_pos (.inl (by rw [h]; decide))]⟩)) with ⟨rfl, q1, hV⟩ | ⟨rfl, q1, q2, hV⟩ | ⟨rfl, hV⟩
        · replace hV := Lib.hid hV
          clear h1 hfe
          go_wp2_with fail
          refine (HL.out _).mono ?_
          rintro e w2 ⟨rfl, rfl⟩
          clear HL
          go_wp2_with fail
          refine (HF.out _).mono ?_
          rintro e w3 ⟨rfl, hb3⟩
          have HB := Lib.hid (below_chain hbw hb3)
          clear HF hb3 hbw
          go_wp2_with fail
          go_ret
          exact ⟨ret_int hV.out.symm, HB.out.alloc HB.out.size _⟩
        · replace hV := Lib.hid hV
          clear h1 hfe
          go_wp2_with fail
          refine (HL.out _).mono ?_
          rintro e w2 ⟨rfl, rfl⟩
          clear HL
          go_wp2_with fail
          refine (HF.out _).mono ?_
          rintro e w3 ⟨rfl, hb3⟩
          have HJ : Hid (X = trailP nx (run (atTrail 0 0 (j + 1)) ((toL s).drop nx)) ∧ Below w.heap.size w (w3.alloc (.cells #[.string (ofL f1), .string (ofL f2)] 36))) := Lib.hid ⟨hV.out, (below_chain hbw hb3).alloc (below_chain hbw hb3).size _⟩
          clear HF hb3 hbw hV
          go_wp2_with fail
          go_roundw
          case rel => exact ⟨j + 1, nx, q2, hnb, rfl, by go_num, HJ⟩
          case measure => simp [intOf]; omega
        · replace hV := Lib.hid hV
          clear h1 hfe
          go_wp2_with fail
          refine (HL.out _).mono ?_
          rintro e w2 ⟨rfl, rfl⟩
          clear HL
          go_wp2_with fail
          refine (HF.out _).mono ?_
          rintro e w3 ⟨rfl, hb3⟩
          have HB := Lib.hid (below_chain hbw hb3)
          clear HF hb3 hbw
          go_wp2_with fail
          go_ret
          exact ⟨ret_int hV.out.symm, HB.out.alloc HB.out.size _⟩
end Go.Proofs.YtblpooddamkfdaaGreatDoor.R10Trail

/- Layer 10, the document's own Size. -/
namespace Go.Proofs.YtblpooddamkfdaaGreatDoor.R10Size
open Go.ChangeShapes Go.WideShapes Go.ChangeAt Go.RowKit LexPure Bytes Ret LexNum DChunkPure RHex
set_option maxRecDepth 20000
theorem cut_at (p : UInt8 → Bool) : ∀ (l : List UInt8) (k : Nat), (l.take k).all p = true → (k ≤ l.length) → (k = l.length ∨ ∃ c, l[k]? = some c ∧ p c = false) → l.takeWhile p = l.take k ∧ l.dropWhile p = l.drop k
  | [], k, _, hk, _ => by
    have : k = 0 := by simpa using hk
    subst this
    exact ⟨rfl, rfl⟩
  | c :: l, 0, _, _, h => by
    rcases h with h | ⟨d, h1, h2⟩
    · cases h
    · have : c = d := by simpa using h1
      subst this
      rw [List.takeWhile_cons_of_neg (by rw [h2]; decide), List.dropWhile_cons_of_neg (by rw [h2]; decide)]
      exact ⟨rfl, rfl⟩
  | c :: l, k + 1, ha, hk, h => by
    rw [List.take_succ_cons, List.all_cons, Bool.and_eq_true] at ha
    have ih := cut_at p l k ha.2 (by simpa using hk) (by
      rcases h with h | ⟨d, h1, h2⟩
      · left; simpa using h
      · exact .inr ⟨d, by simpa using h1, h2⟩)
    rw [List.takeWhile_cons_of_pos ha.1, List.dropWhile_cons_of_pos ha.1, ih.1, ih.2]
    exact ⟨rfl, rfl⟩
theorem mark_59 (b : UInt8) : (b = 59 ∧ ((b.toNat : Int) != 59) = false) ∨ (b ≠ 59 ∧ ((b.toNat : Int) != 59) = true) := by
  have := all_bytes (p := fun b => decide ((b = 59 ∧ ((b.toNat : Int) != 59) = false) ∨ (b ≠ 59 ∧ ((b.toNat : Int) != 59) = true))) (by decide +kernel) b
  exact of_decide_eq_true this
theorem ext_at (c : UInt8) : (extB c = true ∧ ((c.toNat : Int) = 9 ∨ (¬ (c.toNat : Int) = 9 ∧ ¬ (c.toNat : Int) < 32 ∧ ¬ 126 < (c.toNat : Int)))) ∨ (extB c = false ∧ ¬ (c.toNat : Int) = 9 ∧ ((c.toNat : Int) < 32 ∨ (¬ (c.toNat : Int) < 32 ∧ 126 < (c.toNat : Int)))) := by
  have := all_bytes (p := fun c => decide ((extB c = true ∧ ((c.toNat : Int) = 9 ∨ (¬ (c.toNat : Int) = 9 ∧ ¬ (c.toNat : Int) < 32 ∧ ¬ 126 < (c.toNat : Int)))) ∨ (extB c = false ∧ ¬ (c.toNat : Int) = 9 ∧ ((c.toNat : Int) < 32 ∨ (¬ (c.toNat : Int) < 32 ∧ 126 < (c.toNat : Int)))))) (by decide +kernel) c
  exact of_decide_eq_true this
theorem ret_int {a b : Int} (h : a = b) : Ending.returned (.int .i64 a) = .returned (.int .i64 b) := by rw [h]
set_option maxHeartbeats 4800000 in
theorem r10size_any (s : ByteArray) (hs : s.size ≤ 140737488351232) (w : World) :
    Calls Tryz.prog 58 #[.string s] w fun e w' => e = .returned (.int .i64 (sizeL (toL s))) ∧ w = w' := by
  obtain ⟨X, hX⟩ : ∃ X, X = sizeL (toL s) := ⟨_, rfl⟩
  rw [← hX]
  unfold sizeL at hX
  replace hX := Lib.hid hX
  go_enter Tryz.func58, Tryz.ntmps58
  go_wp2_with fail
  go_loop [3] (fun i => ∃ k : Nat, k ≤ s.size ∧ i = .int .i64 k ∧ Hid (((toL s).take k).all (fun c => c != 59) = true)) (fun i => s.size - (intOf i).toNat)
  case atStart => exact ⟨0, Nat.zero_le _, rfl, Lib.hid rfl⟩
  case round =>
    obtain ⟨k, hk, rfl, ha⟩ := hrel
    have hgo : (k < s.size ∧ (∀ h : k < s.size, s[k] ≠ 59 ∧ ((s[k].toNat : Int) != 59) = true)) ∨ (k < s.size ∧ (∀ h : k < s.size, s[k] = 59 ∧ ((s[k].toNat : Int) != 59) = false)) ∨ k = s.size := by
      by_cases h : k < s.size
      · rcases mark_59 s[k] with ⟨h1, h2⟩ | ⟨h1, h2⟩
        · exact .inr (.inl ⟨h, fun _ => ⟨h1, h2⟩⟩)
        · exact .inl ⟨h, fun _ => ⟨h1, h2⟩⟩
      · exact .inr (.inr (by omega))
    rcases hgo with ⟨hlt, hc⟩ | hend
    · obtain ⟨c1, c2⟩ := hc hlt
      have hki : (k : Int) < (s.size : Int) := by omega
      have HJ : Hid (((toL s).take (k + 1)).all (fun c => c != 59) = true) := Lib.hid (by rw [toL_take_succ s k hlt, List.all_append, ha.out]; simpa using c1)
      clear hc c1 ha
      go_wp2_with fail
      go_round
      case rel => exact ⟨k + 1, by omega, by go_num, HJ⟩
      case measure => simp [intOf]; omega
    · have hcut : (toL s).takeWhile (fun c => c != 59) = (toL s).take k ∧ (toL s).dropWhile (fun c => c != 59) = (toL s).drop k := cut_at _ (toL s) k ha.out (by rw [toL_length]; exact hk) (by
        rcases hend with ⟨hlt, hc⟩ | h
        · right
          refine ⟨s[k], ?_, by rw [(hc hlt).1]; decide⟩
          have := toL_get s k hlt
          exact this
        · left
          rw [toL_length]
          exact h)
      have hX2 : Hid (X = if numOk 16 8 ((toL s).take k) = true ∧ ((toL s).drop k).all extB = true then numR 16 8 ((toL s).take k) else -1) := Lib.hid (by rw [hX.out, hcut.1, hcut.2])
      obtain ⟨E, hE⟩ : ∃ E, E = s.extract 0 k := ⟨_, rfl⟩
      have tE : toL E = (toL s).take k := by rw [hE, toL_extract, List.drop_zero]
      have sE : E.size ≤ maxLen := by rw [hE, ByteArray.size_extract]; unfold maxLen; omega
      have HH := Lib.hid (fun w => rhex_any E sE 8 w)
      rw [show min (8 : Int) 15 = 8 from rfl, tE] at HH
      rw [hE] at HH
      have hkle : (k : Int) ≤ (s.size : Int) := by omega
      have hfin : (∃ hlt : k < s.size, ((s[k].toNat : Int) != 59) = false) ∨ k = s.size := by
        rcases hend with ⟨hlt, hc⟩ | h
        · exact .inl ⟨hlt, (hc hlt).2⟩
        · exact .inr h
      generalize numR 16 8 ((toL s).take k) = n at *
      generalize numOk 16 8 ((toL s).take k) = ok at *
      clear hend hcut hX ha sE tE hE
      rcases hfin with ⟨hlt, hc⟩ | hkk
      · have hki : (k : Int) < (s.size : Int) := by omega
        cases ok
        · have HV : Hid (X = -1) := Lib.hid (by rw [hX2.out, if_neg]; rintro ⟨h, _⟩; cases h)
          clear hX2
          go_wp2_with fail
          refine (HH.out _).mono ?_
          rintro e w' ⟨rfl, rfl⟩
          go_wp2_with fail
          go_ret
          exact ⟨ret_int HV.out.symm, rfl⟩
        · have hX3 : Hid (X = if ((toL s).drop k).all extB = true then n else -1) := Lib.hid (by rw [hX2.out]; simp)
          clear hX2
          go_wp2_with fail
          refine (HH.out _).mono ?_
          rintro e w' ⟨rfl, rfl⟩
          clear HH hc
          go_wp2_with fail
          go_loop [6] (fun i => ∃ j : Nat, k ≤ j ∧ j ≤ s.size ∧ i = .int .i64 j ∧ Hid ((((toL s).drop k).take (j - k)).all extB = true)) (fun i => s.size - (intOf i).toNat)
          case atStart => exact ⟨k, Nat.le_refl _, hk, rfl, Lib.hid (by rw [Nat.sub_self]; rfl)⟩
          case round =>
            obtain ⟨j, hkj, hj, rfl, ha⟩ := hrel
            by_cases hl2 : j < s.size
            · have hji : (j : Int) < (s.size : Int) := by omega
              have hget : ((toL s).drop k)[j - k]? = some s[j] := by
                rw [List.getElem?_drop, show k + (j - k) = j by omega]
                exact toL_get s j hl2
              rcases ext_at s[j] with ⟨e1, e2⟩ | ⟨e1, e2, e3⟩
              · have HJ : Hid ((((toL s).drop k).take (j + 1 - k)).all extB = true) := Lib.hid (by
                  rw [show j + 1 - k = (j - k) + 1 by omega, List.take_add_one, hget, List.all_append, ha.out]
                  simp [e1])
                clear hget e1 ha
                rcases e2 with e2 | ⟨e2, e3, e4⟩
                all_goals
                  go_wp2_with fail
                  go_round
                  case rel => exact ⟨j + 1, by omega, by omega, by go_num, HJ⟩
                  case measure => simp [intOf]; omega
              · have HV : Hid (X = -1) := Lib.hid (by
                  rw [hX3.out, if_neg]
                  intro h
                  have := List.all_eq_true.1 h s[j] (List.mem_of_getElem? hget)
                  rw [e1] at this
                  cases this)
                clear hget e1 ha hX3
                rcases e3 with e3 | ⟨e3, e4⟩
                all_goals
                  go_wp2_with fail
                  go_ret
                  exact ⟨ret_int HV.out.symm, rfl⟩
            · have hji : ¬ (j : Int) < (s.size : Int) := by omega
              have HV : Hid (X = n) := Lib.hid (by
                have h := ha.out
                rw [List.take_of_length_le (by rw [List.length_drop, toL_length]; omega)] at h
                rw [hX3.out, if_pos h])
              clear ha hX3
              go_wp2_with fail
              go_ret
              exact ⟨ret_int HV.out.symm, rfl⟩
      · have hki : ¬ (k : Int) < (s.size : Int) := by omega
        clear hkk
        cases ok
        · have HV : Hid (X = -1) := Lib.hid (by rw [hX2.out, if_neg]; rintro ⟨h, _⟩; cases h)
          clear hX2
          go_wp2_with fail
          refine (HH.out _).mono ?_
          rintro e w' ⟨rfl, rfl⟩
          go_wp2_with fail
          go_ret
          exact ⟨ret_int HV.out.symm, rfl⟩
        · have hX3 : Hid (X = if ((toL s).drop k).all extB = true then n else -1) := Lib.hid (by rw [hX2.out]; simp)
          clear hX2
          go_wp2_with fail
          refine (HH.out _).mono ?_
          rintro e w' ⟨rfl, rfl⟩
          clear HH
          go_wp2_with fail
          go_loop [6] (fun i => ∃ j : Nat, k ≤ j ∧ j ≤ s.size ∧ i = .int .i64 j ∧ Hid ((((toL s).drop k).take (j - k)).all extB = true)) (fun i => s.size - (intOf i).toNat)
          case atStart => exact ⟨k, Nat.le_refl _, hk, rfl, Lib.hid (by rw [Nat.sub_self]; rfl)⟩
          case round =>
            obtain ⟨j, hkj, hj, rfl, ha⟩ := hrel
            by_cases hl2 : j < s.size
            · exfalso
              omega
            · have hji : ¬ (j : Int) < (s.size : Int) := by omega
              have HV : Hid (X = n) := Lib.hid (by
                have h := ha.out
                rw [List.take_of_length_le (by rw [List.length_drop, toL_length]; omega)] at h
                rw [hX3.out, if_pos h])
              clear ha hX3
              go_wp2_with fail
              go_ret
              exact ⟨ret_int HV.out.symm, rfl⟩
end Go.Proofs.YtblpooddamkfdaaGreatDoor.R10Size

/- Layer 10, the document's own Encode. -/
namespace Go.Proofs.YtblpooddamkfdaaGreatDoor.R10Enc
open Go.ChangeShapes Go.WideShapes Go.ChangeAt Go.RowKit LexPure Bytes Ret Rows1 ChunkHex Mem
set_option maxRecDepth 20000
theorem infoB : (Tryz.prog.info? 5).map (fun i => (i.zero, i.size, i.bytes)) = some (some (.int .u8 0), 1, 1) := by kernel_rfl
/-- the digits so far -/
def outN (q : Nat) : List UInt8 := if q = 0 then [] else hexN q
/-- the place of the next digit -/
def Pow (D : Nat) : Prop := D = 0 ∨ D = 1 ∨ D = 16 ∨ D = 256 ∨ D = 4096 ∨ D = 65536 ∨ D = 1048576 ∨ D = 16777216 ∨ D = 268435456
theorem pow_le {D : Nat} (h : Pow D) : D ≤ 268435456 := by rcases h with rfl | rfl | rfl | rfl | rfl | rfl | rfl | rfl | rfl <;> decide
def quot (N D : Nat) : Nat := if D = 0 then N else N / (16 * D)
theorem quot_next {N D : Nat} (h : Pow D) (h0 : D ≠ 0) : quot N (D / 16) = N / D ∧ quot N D = N / D / 16 ∧ Pow (D / 16) := by
  have h1 : quot N D = N / D / 16 := by
    unfold quot
    rw [if_neg h0, Nat.mul_comm, Nat.div_div_eq_div_mul]
  refine ⟨?_, h1, ?_⟩
  · rcases h with rfl | rfl | rfl | rfl | rfl | rfl | rfl | rfl | rfl
    · exact absurd rfl h0
    · simp [quot]
    all_goals rfl
  · rcases h with rfl | rfl | rfl | rfl | rfl | rfl | rfl | rfl | rfl
    · exact absurd rfl h0
    all_goals (unfold Pow; decide)
theorem outN_next (q : Nat) (h : q ≠ 0) : outN q = outN (q / 16) ++ [hexB (q % 16)] := by
  unfold outN
  rw [if_neg h]
  by_cases h2 : q < 16
  · rw [hexN_small h2, if_pos (by omega), show q % 16 = q by omega]
    rfl
  · rw [hexN_more h2, if_neg (by omega)]
def EInv (w : World) (l : List UInt8) (v : Value) (wr : World) : Prop := wr.ownsRow w.heap.size 5 1 v l.length (bvs l) ∧ Below w.heap.size w wr
theorem hexB_val (n : Nat) (h : n < 16) : (n ≤ 9 ∧ ((hexB n).toNat : Int) = 48 + n) ∨ (9 < n ∧ ((hexB n).toNat : Int) = 97 + n - 10) := by
  have : ∀ n : Fin 16, (n.1 ≤ 9 ∧ ((hexB n.1).toNat : Int) = 48 + n.1) ∨ (9 < n.1 ∧ ((hexB n.1).toNat : Int) = 97 + n.1 - 10) := by decide +kernel
  exact this ⟨n, h⟩
theorem EInv.byte {w wr w3 : World} {v v' : Value} {l : List UInt8} (c : UInt8) (h : EInv w l v wr) (o : Obj) (hown : w3.ownsRow w.heap.size 5 1 v' (l.length + 1) (bvs l ++ [.int .u8 (c.toNat : Int)])) (hg : (wr.alloc o).grownBy w3 v.ownBlock) : EInv w (l ++ [c]) v' w3 := by
  obtain ⟨hrow, hbw⟩ := h
  refine ⟨?_, Below.grown (hbw.alloc hbw.size _) hg (by have := hbw.size; simp; omega) (fun j hj => (hrow.lt _ hj).1)⟩
  rw [bvs_append, List.length_append, List.length_singleton]
  exact hown
theorem strCells_bvs (s : ByteArray) : Lib.strCells s = bvs (toL s) := by
  unfold Lib.strCells bvs toL
  rfl
theorem EInv.text {w wr w3 : World} {v v' : Value} {l : List UInt8} (s : ByteArray) (h : EInv w l v wr) (hown : w3.ownsRow w.heap.size 5 1 v' (l.length + s.size) (bvs l ++ Lib.strCells s)) (hg : wr.grownBy w3 v.ownBlock) : EInv w (l ++ toL s) v' w3 := by
  obtain ⟨hrow, hbw⟩ := h
  refine ⟨?_, Below.grown hbw hg hbw.size (fun j hj => (hrow.lt _ hj).1)⟩
  rw [bvs_append, List.length_append, toL_length, ← strCells_bvs]
  exact hown
theorem bvs_of {l : List UInt8} {w : World} {b : Nat} {v : Value} (h : w.ownsRow b 5 1 v l.length (bvs l)) : ∃ p cap, v = .slice p l.length cap := by
  obtain ⟨p, cap, hv, _, _⟩ := row_cells h
  exact ⟨p, cap, hv⟩
end Go.Proofs.YtblpooddamkfdaaGreatDoor.R10Enc

/- Layer 10, the document's own Read. -/
namespace Go.Proofs.YtblpooddamkfdaaGreatDoor.R10Read
open Go.ChangeShapes Go.WideShapes Go.ChangeAt Go.RowKit LexPure Bytes Ret Rows1 LexNum HeadPure DChunkPure DChunkText ChunkRead R10Line R10Trail R10Size R10Enc KeptRow Mem
set_option maxRecDepth 20000
theorem sizeL_lt (l : List UInt8) : sizeL l < 4294967296 := by
  unfold sizeL
  split
  · rename_i h
    unfold numR
    rw [if_pos h.1]
    have h1 := h.1
    unfold numOk at h1
    simp only [Bool.and_eq_true, decide_eq_true_eq] at h1
    have h2 := numV_lt 16 _ h1.2
    have h3 : 16 ^ (l.takeWhile (fun c => c != 59)).length ≤ 16 ^ 8 := Nat.pow_le_pow_right (by decide) (by omega)
    omega
  · omega
theorem ret_read {a b : ByteArray} {c d e f : Int} (h : a = b) (k : c = d) (m : e = f) : Ending.returned (.tuple #[.string a, .int .i64 c, .int .i64 e]) = .returned (.tuple #[.string b, .int .i64 d, .int .i64 f]) := by rw [h, k, m]
/-- what is told of the trailers hangs on no body -/
theorem trail_any (most : Int) (n : Nat) : ∀ (N : Nat) (j a : Nat) (D : List UInt8), D.length ≤ N → trailP a (run (atTrail most n j) D) = trailP a (run (atTrail 0 0 j) D)
  | 0, j, a, D, h => by
    have : D = [] := List.length_eq_zero_iff.1 (by omega)
    subst this
    rfl
  | N + 1, j, a, D, h => by
    rw [trail_next 0, trail_next 0 0 0]
    cases hs : scan 512 0 0 D with
    | wait => rfl
    | bad e => rfl
    | whole k =>
      dsimp only
      by_cases h0 : k = 0
      · rw [if_pos h0, if_pos h0]
      · rw [if_neg h0, if_neg h0, trail_any most n N (j + 1) _ (D.drop (k + 2)) (by rw [List.length_drop]; omega)]
/-- what is read so far -/
structure RInv (w : World) (most : Int) (X : List UInt8 × Int × Int) (D : List UInt8) (b : Nat) (B : List UInt8) (v : Value) (wr : World) : Prop where
  all_ : X = ansR B b (run (at_ most B.length) D)
  row : EInv w B v wr
  le : B.length ≤ b
  room : (B.length : Int) ≤ most ∨ B.length = 0
set_option maxHeartbeats 6400000 in
theorem r10read_any (s : ByteArray) (hs : s.size ≤ 140737488351232) (most : Int) (hmost : -9223372036854775808 ≤ most ∧ most ≤ 9223372036854775807) (w : World) :
    Calls Tryz.prog 28 #[.string s, .int .i64 most] w fun e w' => e = .returned (.tuple #[.string (ofL (readP (ans (begin_ most) (toL s))).1), .int .i64 (readP (ans (begin_ most) (toL s))).2.1, .int .i64 (readP (ans (begin_ most) (toL s))).2.2]) ∧ Below w.heap.size w w' := by
  obtain ⟨i0, hi, hz0, hz1, hz2⟩ := info_parts infoB
  rw [readP_ansR]
  obtain ⟨X, hX⟩ : ∃ X, X = ansR [] 0 (run (begin_ most) (toL s)) := ⟨_, rfl⟩
  rw [← hX]
  have HX : Hid (RInv w most X ((toL s).drop 0) 0 [] (.slice none 0 0) w) := Lib.hid ⟨hX, ⟨World.ownsRow_nil _ _ _ _, Below.refl _ _⟩, Nat.zero_le _, .inr rfl⟩
  clear hX
  go_enter Tryz.func28, Tryz.ntmps28
  go_wp2_with fail
  go_loopw [7, 8] (fun v at_ wr => ∃ (b : Nat) (B : List UInt8), b ≤ s.size ∧ at_ = .int .i64 b ∧ Hid (RInv w most X ((toL s).drop b) b B v wr)) (fun _ at_ _ => s.size - (intOf at_).toNat)
  case atStart => exact ⟨0, [], Nat.zero_le _, rfl, HX⟩
  case round =>
    obtain ⟨b, B, hb, rfl, HI⟩ := hrel
    clear HX
    obtain ⟨hall, hE, hBb, hroom⟩ := HI.out
    obtain ⟨hrow0, hbw0⟩ := id hE
    have hE0 := Lib.hid hE
    have HC := own_string (P := Tryz.prog) hrow0 76 9 Tryz.underlying76 Tryz.underlying5 Tryz.underlying9
    have HL := Lib.hid (fun w => r10line_any s hs b 64 hb w)
    have hD : ((toL s).drop b).length = s.size - b := by rw [List.length_drop, toL_length]
    rw [chunk_next] at hall
    cases hsc : scan 64 0 0 ((toL s).drop b) with
    | wait =>
      rw [hsc] at hall HL
      have HV : Hid (X = (B, -1, 0)) := Lib.hid hall
      unfold lineA at HL
      dsimp only at HL
      have HB := Lib.hid hbw0
      clear hall HI hsc hD hE hroom hBb hrow0 hbw0
      go_wp2_with fail
      refine (HL.out _).mono ?_
      rintro e w' ⟨rfl, rfl⟩
      clear HL
      go_wp2_with fail
      go_ret3
      exact ⟨ret_read (by rw [HV.out]) (by rw [HV.out]) (by rw [HV.out]), HB.out⟩
    | bad er =>
      rw [hsc] at hall HL
      have HV : Hid (X = ([], -1, 100)) := Lib.hid hall
      unfold lineA at HL
      dsimp only at HL
      have HB := Lib.hid hbw0
      clear hall HI hsc hD hE hroom hBb hrow0 hbw0 HC
      go_wp2_with fail
      refine (HL.out _).mono ?_
      rintro e w' ⟨rfl, rfl⟩
      clear HL
      go_wp2_with fail
      go_ret3
      exact ⟨ret_read (by rw [HV.out]; rfl) (by rw [HV.out]) (by rw [HV.out]), HB.out⟩
    | whole k =>
      rw [hsc] at hall HL
      unfold lineA at HL
      dsimp only at hall HL
      obtain ⟨l, q, he, hk, hp, hm⟩ := scan_whole _ _ _ _ _ hsc
      rw [Nat.zero_add] at hk
      have hlen : k + 2 ≤ s.size - b := by
        rw [← hD, he, hk]
        simp
      have hlk : ((toL s).drop b).take k = l := by rw [he, hk]; exact List.take_left
      have hdd : ((toL s).drop b).drop (k + 2) = (toL s).drop (b + k + 2) := by rw [List.drop_drop]; rfl
      rw [hlk] at hall HL
      rw [hdd] at hall
      have hnb : b + k + 2 ≤ s.size := by omega
      have hbx : b ≤ b + k + 2 := by omega
      have hbs : b < b + k + 2 := by omega
      have hng : (((b + k + 2 : Nat) : Int) == -1) = false := beq_eq_false_iff_ne.2 (by omega)
      have hng2 : (((b + k + 2 : Nat) : Int) == -2) = false := beq_eq_false_iff_ne.2 (by omega)
      have HS := Lib.hid (fun w => r10size_any (ofL l) (by rw [ofL_size]; omega) w)
      rw [toL_ofL] at HS
      have hlt := sizeL_lt l
      have HT := Lib.hid (fun w => r10trail_any s hs (b + k + 2) hnb w)
      rw [show b + (k + 2) = b + k + 2 by omega] at hall
      rw [trail_any most B.length _ 0 (b + k + 2) _ (Nat.le_refl _)] at hall
      generalize trailP (b + k + 2) (run (atTrail 0 0 0) ((toL s).drop (b + k + 2))) = tp at *
      generalize hN : sizeL l = N at *
      generalize ofL l = L at *
      clear HI hsc hD he hlk hdd hp hm hlen hk hN
      generalize b + k + 2 = nx at *
      by_cases n1 : N < 0
      · rw [if_pos n1] at hall
        have HV : Hid (X = ([], -1, 100)) := Lib.hid hall
        have HB := Lib.hid hbw0
        clear hall hE hroom hBb hrow0 hbw0 HC HT
        go_wp2_with fail
        refine (HL.out _).mono ?_
        rintro e w2 ⟨rfl, rfl⟩
        clear HL
        go_wp2_with fail
        refine (HS.out _).mono ?_
        rintro e w3 ⟨rfl, rfl⟩
        clear HS
        go_wp2_with fail
        go_ret3
        exact ⟨ret_read (by rw [HV.out]; rfl) (by rw [HV.out]) (by rw [HV.out]), HB.out⟩
      rw [if_neg n1] at hall
      by_cases n2 : N = 0
      · rw [if_pos n2] at hall
        subst n2
        by_cases t2 : tp = -2
        · rw [if_pos t2] at hall
          have HV : Hid (X = ([], -1, 100)) := Lib.hid hall
          subst t2
          have HB := Lib.hid hbw0
          clear hall hE hroom hBb hrow0 hbw0 HC
          go_wp2_with fail
          refine (HL.out _).mono ?_
          rintro e w2 ⟨rfl, rfl⟩
          clear HL
          go_wp2_with fail
          refine (HS.out _).mono ?_
          rintro e w3 ⟨rfl, rfl⟩
          clear HS
          go_wp2_with fail
          refine (HT.out _).mono ?_
          rintro e w4 ⟨rfl, hb4⟩
          have HB4 := Lib.hid (below_chain HB.out hb4)
          clear HT hb4
          go_wp2_with fail
          go_ret3
          exact ⟨ret_read (by rw [HV.out]; rfl) (by rw [HV.out]) (by rw [HV.out]), HB4.out⟩
        · rw [if_neg t2] at hall
          have HV : Hid (X = (B, tp, 0)) := Lib.hid hall
          have t3 : (tp == -2) = false := beq_eq_false_iff_ne.2 t2
          have HRow := Lib.hid hrow0
          have HB := Lib.hid hbw0
          clear hall hE hroom hBb hrow0 hbw0 HC t2
          go_wp2_with fail
          refine (HL.out _).mono ?_
          rintro e w2 ⟨rfl, rfl⟩
          clear HL
          go_wp2_with fail
          refine (HS.out _).mono ?_
          rintro e w3 ⟨rfl, rfl⟩
          clear HS
          go_wp2_with fail
          refine (HT.out _).mono ?_
          rintro e w4 ⟨rfl, hb4⟩
          have HB4 := Lib.hid (below_chain HB.out hb4)
          have HC := own_string (P := Tryz.prog) (row_below HRow.out hb4) 76 9 Tryz.underlying76 Tryz.underlying5 Tryz.underlying9
          clear HT hb4 HRow
          go_wp2_with fail
          go_ret3
          exact ⟨ret_read (by rw [HV.out]) (by rw [HV.out]) (by rw [HV.out]), HB4.out⟩
      rw [if_neg n2] at hall
      obtain ⟨p, cap, rfl⟩ := bvs_of hrow0
      have m1 : -9223372036854775808 ≤ most - (B.length : Int) := by omega
      have m2 : most - (B.length : Int) ≤ 9223372036854775807 := by omega
      obtain ⟨n, rfl⟩ : ∃ n : Nat, N = n := ⟨N.toNat, by omega⟩
      have n1i : ¬ (n : Int) < 0 := by omega
      have nsum : (nx : Int) + (n : Int) ≤ 9223372036854775807 := by omega
      clear hlt
      have n2i : ((n : Int) == 0) = false := beq_eq_false_iff_ne.2 n2
      by_cases n3 : most - (B.length : Int) < (n : Int)
      · rw [if_pos n3] at hall
        have HV : Hid (X = ([], -1, 101)) := Lib.hid hall
        have HB := Lib.hid hbw0
        clear hall hE hroom hBb hrow0 hbw0 HC HT
        go_wp2_with fail
        refine (HL.out _).mono ?_
        rintro e w2 ⟨rfl, rfl⟩
        clear HL
        go_wp2_with fail
        refine (HS.out _).mono ?_
        rintro e w3 ⟨rfl, rfl⟩
        clear HS
        go_wp2_with fail
        go_ret3
        exact ⟨ret_read (by rw [HV.out]; rfl) (by rw [HV.out]) (by rw [HV.out]), HB.out⟩
      rw [if_neg n3, data_next _ _ _ _ (by omega)] at hall
      have hlD : ((toL s).drop nx).length = s.size - nx := by rw [List.length_drop, toL_length]
      rw [hlD, Int.toNat_natCast] at hall
      have HRow := Lib.hid hrow0
      have HB := Lib.hid hbw0
      have nxi : (nx : Int) ≤ (s.size : Int) := by omega
      by_cases n4 : s.size ≤ nx + n
      · rw [if_pos (by omega)] at hall
        have HV : Hid (X = (B ++ (toL s).drop nx, -1, 0)) := Lib.hid hall
        have n4i : (s.size : Int) ≤ (nx : Int) + (n : Int) := by omega
        obtain ⟨E, hE2⟩ : ∃ E, E = s.extract nx s.size := ⟨_, rfl⟩
        have tE : toL E = (toL s).drop nx := by rw [hE2, toL_extract, toL_take_all s (Nat.le_refl _)]
        have sE : B.length + (s.extract nx s.size).size ≤ s.size := by rw [ByteArray.size_extract]; omega
        clear hall hE hroom hrow0 hbw0 HC HT hlD m1 m2
        go_wp2_with fail
        refine (HL.out _).mono ?_
        rintro e w2 ⟨rfl, rfl⟩
        clear HL
        go_wp2_with fail
        refine (HS.out _).mono ?_
        rintro e w3 ⟨rfl, rfl⟩
        clear HS
        go_wp2_with (at_builtin; refine Lib.wpList_append_own_string _ rfl _ _ 76 9 rfl w.heap.size 5 i0 Tryz.underlying76 Tryz.underlying9 hi hz0 hz1 hz2 _ _ _ rfl HRow.out (s.extract nx s.size) rfl (by unfold maxLen; omega) (by omega) HB.out.size ?_; intro v1 wA hown hgrow hnil)
        have hE1 := hE0.out.text _ hown hgrow
        rw [← hE2, tE] at hE1
        have HC1 := own_string (P := Tryz.prog) hE1.1 76 9 Tryz.underlying76 Tryz.underlying5 Tryz.underlying9
        have HB1 := Lib.hid hE1.2
        obtain ⟨Y, hY⟩ : ∃ Y, Y = ofL (B ++ (toL s).drop nx) := ⟨_, rfl⟩
        rw [← hY] at HC1
        replace hY := Lib.hid hY
        clear hown hgrow hnil hE1 hE0 HRow HB hE2 tE sE n4 n4i n3 n2 hng hng2
        rw [HC1]
        go_wp2_with fail
        go_ret3
        exact ⟨ret_read (by rw [HV.out]; exact hY.out) (by rw [HV.out]) (by rw [HV.out]), HB1.out⟩
      · rw [if_neg (by omega)] at hall
        have n4i : ¬ (s.size : Int) ≤ (nx : Int) + (n : Int) := by omega
        have hdn : ((toL s).drop nx).drop n = (toL s).drop (nx + n) := by rw [List.drop_drop]
        rw [hdn] at hall
        obtain ⟨E, hE2⟩ : ∃ E, E = s.extract nx (nx + n) := ⟨_, rfl⟩
        have tE : toL E = ((toL s).drop nx).take n := by rw [hE2, toL_extract, List.drop_take, Nat.add_sub_cancel_left]
        have sE : E.size = n := by rw [hE2, ByteArray.size_extract]; omega
        have tEl : (((toL s).drop nx).take n).length = n := by rw [← tE, toL_length]; exact sE
        have sE2 : B.length + (s.extract nx (nx + n)).size ≤ s.size := by rw [← hE2, sE]; omega
        have HL2 := Lib.hid (fun w => r10line_any s hs (nx + n) 0 (by omega) w)
        have hll : ((toL s).drop (nx + n)).length = s.size - (nx + n) := by rw [List.length_drop, toL_length]
        have n5 : (nx : Int) ≤ (nx : Int) + (n : Int) := by omega
        have n6 : (nx : Int) + (n : Int) ≤ (s.size : Int) := by omega
        rw [show ((nx + n : Nat) : Int) = (nx : Int) + (n : Int) from rfl] at HL2
        cases hs2 : scan 0 0 0 ((toL s).drop (nx + n)) with
        | wait =>
          rw [hs2] at hall HL2
          have HV : Hid (X = (B ++ ((toL s).drop nx).take n, -1, 0)) := Lib.hid hall
          unfold lineA at HL2
          dsimp only at HL2
          clear hall hE hroom hrow0 hbw0 HC HT hlD hs2 hll sE tEl hdn m1 m2
          go_wp2_with fail
          refine (HL.out _).mono ?_
          rintro e w2 ⟨rfl, rfl⟩
          clear HL
          go_wp2_with fail
          refine (HS.out _).mono ?_
          rintro e w3 ⟨rfl, rfl⟩
          clear HS
          go_wp2_with (at_builtin; refine Lib.wpList_append_own_string _ rfl _ _ 76 9 rfl w.heap.size 5 i0 Tryz.underlying76 Tryz.underlying9 hi hz0 hz1 hz2 _ _ _ rfl HRow.out (s.extract nx (nx + n)) rfl (by unfold maxLen; omega) (by omega) HB.out.size ?_; intro v1 wA hown hgrow hnil)
          have hE1 := hE0.out.text _ hown hgrow
          rw [← hE2, tE] at hE1
          have HC1 := own_string (P := Tryz.prog) hE1.1 76 9 Tryz.underlying76 Tryz.underlying5 Tryz.underlying9
          have HB1 := Lib.hid hE1.2
          clear hown hgrow hnil hE1 hE0 HRow HB
          go_wp2_with fail
          refine (HL2.out _).mono ?_
          rintro e w5 ⟨rfl, rfl⟩
          clear HL2
          go_wp2_with fail
          go_ret3
          exact ⟨ret_read (by rw [HV.out]) (by rw [HV.out]) (by rw [HV.out]), HB1.out⟩
        | bad er =>
          rw [hs2] at hall HL2
          have HV : Hid (X = ([], -1, 100)) := Lib.hid hall
          unfold lineA at HL2
          dsimp only at HL2
          clear hall hE hroom hrow0 hbw0 HC HT hlD hs2 hll sE tEl hdn m1 m2
          go_wp2_with fail
          refine (HL.out _).mono ?_
          rintro e w2 ⟨rfl, rfl⟩
          clear HL
          go_wp2_with fail
          refine (HS.out _).mono ?_
          rintro e w3 ⟨rfl, rfl⟩
          clear HS
          go_wp2_with (at_builtin; refine Lib.wpList_append_own_string _ rfl _ _ 76 9 rfl w.heap.size 5 i0 Tryz.underlying76 Tryz.underlying9 hi hz0 hz1 hz2 _ _ _ rfl HRow.out (s.extract nx (nx + n)) rfl (by unfold maxLen; omega) (by omega) HB.out.size ?_; intro v1 wA hown hgrow hnil)
          have hE1 := hE0.out.text _ hown hgrow
          have HB1 := Lib.hid hE1.2
          clear hown hgrow hnil hE1 hE0 HRow HB
          go_wp2_with fail
          refine (HL2.out _).mono ?_
          rintro e w5 ⟨rfl, rfl⟩
          clear HL2
          go_wp2_with fail
          go_ret3
          exact ⟨ret_read (by rw [HV.out]; rfl) (by rw [HV.out]) (by rw [HV.out]), HB1.out⟩
        | whole j =>
          rw [hs2] at hall HL2
          unfold lineA at HL2
          dsimp only at HL2 hall
          obtain ⟨l2, q2, he2, hk2, _, _⟩ := scan_whole _ _ _ _ _ hs2
          rw [Nat.zero_add] at hk2
          have hj : nx + n + j + 2 ≤ s.size := by
            have h1 := congrArg List.length he2
            rw [hll, List.length_append, List.length_cons, List.length_cons] at h1
            omega
          have hd2 : ((toL s).drop (nx + n)).drop (j + 2) = (toL s).drop (nx + n + j + 2) := by rw [List.drop_drop]; rfl
          rw [hd2, show nx + n + (j + 2) = nx + n + j + 2 by omega] at hall
          have hgo : b < nx + n + j + 2 := by omega
          have hng3 : (((nx + n + j + 2 : Nat) : Int) == -1) = false := beq_eq_false_iff_ne.2 (by omega)
          have hng4 : (((nx + n + j + 2 : Nat) : Int) == -2) = false := beq_eq_false_iff_ne.2 (by omega)
          have HR : ∀ v wr, EInv w (B ++ ((toL s).drop nx).take n) v wr → Hid (RInv w most X ((toL s).drop (nx + n + j + 2)) (nx + n + j + 2) (B ++ ((toL s).drop nx).take n) v wr) := fun v wr h => Lib.hid ⟨by rw [hall, List.length_append, tEl], h, by rw [List.length_append, tEl]; omega, by rw [List.length_append, tEl]; left; omega⟩
          replace HR := Lib.hid HR
          clear hall hE hroom hrow0 hbw0 HC HT hlD hs2 hll sE tEl hdn he2 hk2 hd2 m1 m2
          generalize ofL (((toL s).drop (nx + n)).take j) = L2 at *
          generalize nx + n + j + 2 = nz at *
          go_wp2_with fail
          refine (HL.out _).mono ?_
          rintro e w2 ⟨rfl, rfl⟩
          clear HL
          go_wp2_with fail
          refine (HS.out _).mono ?_
          rintro e w3 ⟨rfl, rfl⟩
          clear HS
          go_wp2_with (at_builtin; refine Lib.wpList_append_own_string _ rfl _ _ 76 9 rfl w.heap.size 5 i0 Tryz.underlying76 Tryz.underlying9 hi hz0 hz1 hz2 _ _ _ rfl HRow.out (s.extract nx (nx + n)) rfl (by unfold maxLen; omega) (by omega) HB.out.size ?_; intro v1 wA hown hgrow hnil)
          have hE1 := hE0.out.text _ hown hgrow
          rw [← hE2, tE] at hE1
          have HJ := HR.out _ _ hE1
          clear hown hgrow hnil hE1 hE0 HRow HB HR
          go_wp2_with fail
          refine (HL2.out _).mono ?_
          rintro e w5 ⟨rfl, rfl⟩
          clear HL2
          go_wp2_with fail
          go_roundw
          case rel => exact ⟨nz, _, hj, rfl, HJ⟩
          case measure => simp [intOf]; omega
end Go.Proofs.YtblpooddamkfdaaGreatDoor.R10Read
