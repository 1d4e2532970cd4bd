/- The grammar's small pieces over bytes: what each call of layer 4 answers. No program is named. -/
import Derived.Test.YtlgohmghjffiaaaDoorBytes
namespace Go.Proofs.YtlgohmghjffiaaaDoor.LexPure
open Bytes

/-- a byte of a token -/
def MarkP (c : Int) : Prop := (48 ≤ c ∧ c ≤ 57) ∨ (65 ≤ c ∧ c ≤ 90) ∨ (97 ≤ c ∧ c ≤ 122) ∨ c = 33 ∨ c = 35 ∨ c = 36 ∨ c = 37 ∨ c = 38 ∨ c = 39 ∨ c = 42 ∨ c = 43 ∨ c = 45 ∨ c = 46 ∨ c = 94 ∨ c = 95 ∨ c = 96 ∨ c = 124 ∨ c = 126
instance (c : Int) : Decidable (MarkP c) := by unfold MarkP; infer_instance
def markB (c : UInt8) : Bool := decide (MarkP (c.toNat : Int))
def blankB (c : UInt8) : Bool := c == 32 || c == 9
def plainB (c : UInt8) : Bool := decide (32 ≤ c.toNat) && c != 127 || c == 9
def small (c : UInt8) : UInt8 := if decide (65 ≤ c.toNat) && decide (c.toNat ≤ 90) then c + 32 else c
def token (s : List UInt8) : Bool := s.all markB && !s.isEmpty
def trim (s : List UInt8) : List UInt8 := ((s.dropWhile blankB).reverse.dropWhile blankB).reverse
def value (s : List UInt8) : Bool := s.all plainB && (s.isEmpty || (!blankB (s.headD 0) && !blankB (s.getLastD 0)))
def lower (s : List UInt8) : List UInt8 := s.map small
def alike (s t : List UInt8) : Bool := lower s == lower t
/-- the pieces between commas -/
def pieces : List UInt8 → List (List UInt8)
  | [] => [[]]
  | c :: s => if c == 44 then [] :: pieces s else match pieces s with
    | [] => [[c]]
    | p :: ps => (c :: p) :: ps
def elements (s : List UInt8) : List (List UInt8) := ((pieces s).map trim).filter (fun e => !e.isEmpty)
/-- a digit's worth (99: none) -/
def dig (c : UInt8) : Nat := if 48 ≤ c.toNat ∧ c.toNat ≤ 57 then c.toNat - 48 else if 65 ≤ c.toNat ∧ c.toNat ≤ 70 then c.toNat - 55 else if 97 ≤ c.toNat ∧ c.toNat ≤ 102 then c.toNat - 87 else 99
def numV (base : Nat) (s : List UInt8) : Nat := s.foldl (fun n c => base * n + dig c) 0
def numOk (base : Nat) (digits : Int) (s : List UInt8) : Bool := !s.isEmpty && decide ((s.length : Int) ≤ digits) && s.all (fun c => decide (dig c < base))
def numR (base : Nat) (digits : Int) (s : List UInt8) : Int := if numOk base digits s then (numV base s : Int) else 0

/-! ### bytes -/
theorem blank_eq (b : UInt8) : decide ((b.toNat : Int) = 32 ∨ (b.toNat : Int) = 9) = blankB b := by
  have := all_bytes (p := fun b => decide ((b.toNat : Int) = 32 ∨ (b.toNat : Int) = 9) == blankB b) (by decide +kernel) b
  simpa using this
theorem small_small (b : UInt8) : small (small b) = small b := by
  have := all_bytes (p := fun b => small (small b) == small b) (by decide +kernel) b
  simpa using this
theorem small_mark (b : UInt8) : markB (small b) = markB b := by
  have := all_bytes (p := fun b => markB (small b) == markB b) (by decide +kernel) b
  simpa using this
theorem small_plain (b : UInt8) : plainB (small b) = plainB b := by
  have := all_bytes (p := fun b => plainB (small b) == plainB b) (by decide +kernel) b
  simpa using this
theorem small_blank (b : UInt8) : blankB (small b) = blankB b := by
  have := all_bytes (p := fun b => blankB (small b) == blankB b) (by decide +kernel) b
  simpa using this
theorem small_comma (b : UInt8) : (small b == 44) = (b == 44) := by
  have := all_bytes (p := fun b => (small b == 44) == (b == 44)) (by decide +kernel) b
  simpa using this

/-! ### small letters -/
theorem lower_lower (s : List UInt8) : lower (lower s) = lower s := by
  simp [lower, Function.comp_def, small_small]
theorem lower_length (s : List UInt8) : (lower s).length = s.length := by simp [lower]
theorem alike_self (s : List UInt8) : alike s s = true := by simp [alike]
theorem alike_lower (s : List UInt8) : alike s (lower s) = true := by simp [alike, lower_lower]
theorem alike_lower' (s : List UInt8) : alike (lower s) s = true := by simp [alike, lower_lower]
theorem alike_comm (s t : List UInt8) : alike s t = alike t s := by
  unfold alike
  rw [Bool.eq_iff_iff, beq_iff_eq, beq_iff_eq]
  exact eq_comm
theorem alike_lower_left (s t : List UInt8) : alike (lower s) t = alike s t := by simp [alike, lower_lower]
theorem token_lower (s : List UInt8) : token (lower s) = token s := by
  unfold token lower
  simp [List.all_map, Function.comp_def, small_mark]
theorem headD_map (s : List UInt8) : blankB ((s.map small).headD 0) = blankB (s.headD 0) := by
  cases s with
  | nil => rfl
  | cons c s => exact small_blank c
theorem getLastD_map (s : List UInt8) : blankB ((s.map small).getLastD 0) = blankB (s.getLastD 0) := by
  rw [List.getLastD_eq_getLast?, List.getLastD_eq_getLast?, List.getLast?_map]
  cases s.getLast? with
  | none => rfl
  | some c => exact small_blank c
theorem value_lower (s : List UInt8) : value (lower s) = value s := by
  unfold value lower
  rw [headD_map, getLastD_map]
  simp [List.all_map, Function.comp_def, small_plain]

/-! ### blanks at both ends -/
theorem dropWhile_idem (s : List UInt8) : (s.dropWhile blankB).dropWhile blankB = s.dropWhile blankB := by
  induction s with
  | nil => rfl
  | cons c s ih =>
    by_cases h : blankB c = true
    · simp [h, ih]
    · simp [h]
/-- what stays has no blank at its beginning -/
theorem dropWhile_head {s : List UInt8} {c : UInt8} {r : List UInt8} (h : s.dropWhile blankB = c :: r) : blankB c = false := by
  induction s with
  | nil => cases h
  | cons d s ih =>
    by_cases hd : blankB d = true
    · rw [List.dropWhile_cons, if_pos hd] at h
      exact ih h
    · rw [List.dropWhile_cons, if_neg hd] at h
      injection h with h1 h2
      subst h1
      simpa using hd
theorem dropWhile_id {s : List UInt8} (h : ∀ c r, s = c :: r → blankB c = false) : s.dropWhile blankB = s := by
  cases s with
  | nil => rfl
  | cons c r => rw [List.dropWhile_cons, if_neg (by rw [h c r rfl]; decide)]
/-- cutting at the end leaves the beginning -/
theorem rev_head {s : List UInt8} (h : ∀ c r, s = c :: r → blankB c = false) : ∀ c r, (s.reverse.dropWhile blankB).reverse = c :: r → blankB c = false := by
  intro c r he
  have hp : (s.reverse.dropWhile blankB).reverse <+: s := by
    have := List.dropWhile_suffix (l := s.reverse) blankB
    rw [← List.reverse_reverse s]
    exact List.reverse_prefix.2 (by simpa using this)
  rw [he] at hp
  obtain ⟨t, ht⟩ := hp
  exact h c (r ++ t) (by rw [← ht]; rfl)
theorem trim_head {s : List UInt8} : ∀ c r, trim s = c :: r → blankB c = false := rev_head (fun _ _ => dropWhile_head)
theorem trim_last {s : List UInt8} : ∀ c r, (trim s).reverse = c :: r → blankB c = false := by
  intro c r h
  unfold trim at h
  rw [List.reverse_reverse] at h
  exact dropWhile_head h
theorem trim_id {s : List UInt8} (h1 : ∀ c r, s = c :: r → blankB c = false) (h2 : ∀ c r, s.reverse = c :: r → blankB c = false) : trim s = s := by
  unfold trim
  rw [dropWhile_id h1, dropWhile_id h2, List.reverse_reverse]
theorem trim_trim (s : List UInt8) : trim (trim s) = trim s := trim_id trim_head trim_last
theorem trim_length (s : List UInt8) : (trim s).length ≤ s.length := by
  unfold trim
  rw [List.length_reverse]
  have h1 := (List.dropWhile_suffix (l := (s.dropWhile blankB).reverse) blankB).length_le
  have h2 := (List.dropWhile_suffix (l := s) blankB).length_le
  rw [List.length_reverse] at h1
  omega
end Go.Proofs.YtlgohmghjffiaaaDoor.LexPure
