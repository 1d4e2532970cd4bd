/- Layer 7: fields, as lists of names and values. No program is named. -/
import Derived.Test.YtlgohmghjffiaaaDoorLexPure
namespace Go.Proofs.YtlgohmghjffiaaaDoor.FieldsPure
open LexPure Bytes
/-- a field: its name and its value -/
abbrev HField := List UInt8 × List UInt8
def hit (n : List UInt8) (f : HField) : Bool := alike f.1 n
/-- the value of the first field of a name, and how many there are -/
def getV (l : List HField) (n : List UInt8) : List UInt8 := ((l.find? (hit n)).map (·.2)).getD []
def getN (l : List HField) (n : List UInt8) : Nat := l.countP (hit n)
def elems (l : List HField) (n : List UInt8) : List (List UInt8) := (l.filter (hit n)).flatMap (fun f => elements f.2)
def hasE (l : List HField) (n e : List UInt8) : Bool := (elems l n).any (fun x => alike x e)
def remove (l : List HField) (n : List UInt8) : List HField := l.filter (fun f => !hit n f)
def setF (l : List HField) (n v : List UInt8) : List HField := remove l n ++ [(n, v)]
def right (f : HField) : Bool := token f.1 && value f.2 && decide (f.1.length + f.2.length ≤ 512)
def check (l : List HField) : Int := if l.all right then (if l.length ≤ 32 then 0 else 71) else 70
def CONNECTION : List UInt8 := [99, 111, 110, 110, 101, 99, 116, 105, 111, 110]
/-- the seven names -/
def fixed : List (List UInt8) := [CONNECTION, [107, 101, 101, 112, 45, 97, 108, 105, 118, 101], [112, 114, 111, 120, 121, 45, 99, 111, 110, 110, 101, 99, 116, 105, 111, 110], [116, 101], [116, 114, 97, 105, 108, 101, 114], [116, 114, 97, 110, 115, 102, 101, 114, 45, 101, 110, 99, 111, 100, 105, 110, 103], [117, 112, 103, 114, 97, 100, 101]]
def one (l : List HField) (n : List UInt8) : Bool := fixed.any (fun x => alike x n) || hasE l CONNECTION n
def strip (l : List HField) : List HField := l.filter (fun f => !one l f.1)

/-! ### alike -/
theorem alike_iff (s t : List UInt8) : alike s t = true ↔ lower s = lower t := by unfold alike; exact beq_iff_eq
theorem alike_congr {s t : List UInt8} (h : alike s t = true) (u : List UInt8) : alike u s = alike u t := by
  rw [alike_iff] at h
  unfold alike
  rw [h]
theorem hit_congr {n m : List UInt8} (h : alike n m = true) (f : HField) : hit n f = hit m f := alike_congr h f.1
theorem hit_other {n m : List UInt8} (h : alike n m = false) {f : HField} (hf : hit n f = true) : hit m f = false := by
  unfold hit at *
  cases hm : alike f.1 m with
  | false => rfl
  | true =>
    rw [alike_iff] at hf hm
    have : alike n m = true := by rw [alike_iff, ← hf, hm]
    rw [this] at h
    cases h

/-! ### Get behind Remove and Set -/
theorem get_remove (l : List HField) (n : List UInt8) : getN (remove l n) n = 0 := by
  unfold getN remove
  rw [List.countP_eq_zero]
  intro f hf
  have := (List.mem_filter.1 hf).2
  simpa using this
theorem getN_append (a b : List HField) (n : List UInt8) : getN (a ++ b) n = getN a n + getN b n := by
  unfold getN
  exact List.countP_append
theorem getV_none {l : List HField} {n : List UInt8} (h : getN l n = 0) : getV l n = [] ∧ l.find? (hit n) = none := by
  unfold getN at h
  rw [List.countP_eq_zero] at h
  have hf : l.find? (hit n) = none := by
    rw [List.find?_eq_none]
    exact h
  exact ⟨by unfold getV; rw [hf]; rfl, hf⟩
theorem getV_append (a b : List HField) (n : List UInt8) (h : getN a n = 0) : getV (a ++ b) n = getV b n := by
  have := (getV_none h).2
  unfold getV
  rw [List.find?_append, this]
  rfl
theorem get_set (l : List HField) (n v : List UInt8) : getN (setF l n v) n = 1 ∧ getV (setF l n v) n = v := by
  have h0 := get_remove l n
  have hh : hit n (n, v) = true := alike_self n
  unfold setF
  constructor
  · rw [getN_append, h0]
    unfold getN
    simp [hh]
  · rw [getV_append _ _ _ h0]
    unfold getV
    simp [hh]
theorem get_other_remove (l : List HField) (n m : List UInt8) (h : alike n m = false) : getN (remove l n) m = getN l m ∧ getV (remove l n) m = getV l m := by
  unfold getN getV remove
  induction l with
  | nil => exact ⟨rfl, rfl⟩
  | cons f l ih =>
    by_cases hf : hit n f = true
    · have hm := hit_other h hf
      rw [List.filter_cons_of_neg (by rw [hf]; decide), List.countP_cons_of_neg (by rw [hm]; decide), List.find?_cons_of_neg (by rw [hm]; decide)]
      exact ih
    · have hf' : hit n f = false := by simpa using hf
      rw [List.filter_cons_of_pos (by rw [hf']; decide)]
      cases hm : hit m f
      · rw [List.countP_cons_of_neg (by rw [hm]; decide), List.countP_cons_of_neg (by rw [hm]; decide), List.find?_cons_of_neg (by rw [hm]; decide), List.find?_cons_of_neg (by rw [hm]; decide)]
        exact ih
      · rw [List.countP_cons_of_pos hm, List.countP_cons_of_pos hm, List.find?_cons_of_pos hm, List.find?_cons_of_pos hm]
        exact ⟨by rw [ih.1], rfl⟩
theorem get_other_set (l : List HField) (n v m : List UInt8) (h : alike n m = false) : getN (setF l n v) m = getN l m ∧ getV (setF l n v) m = getV l m := by
  obtain ⟨h1, h2⟩ := get_other_remove l n m h
  have hh : hit m (n, v) = false := h
  have hz : getN [(n, v)] m = 0 := by unfold getN; simp [hh]
  unfold setF
  constructor
  · rw [getN_append, hz, h1]; rfl
  · rw [← h2]
    unfold getV
    rw [List.find?_append, (getV_none hz).2]
    simp

/-! ### Strip -/
theorem one_congr {n m : List UInt8} (h : alike n m = true) (l : List HField) : one l n = one l m := by
  unfold one hasE
  congr 1
  · congr 1; funext x; exact alike_congr h x
  · congr 1; funext x; exact alike_congr h x
theorem strip_none (l : List HField) (n : List UInt8) (h : one l n = true) : getN (strip l) n = 0 := by
  unfold getN strip
  rw [List.countP_eq_zero]
  intro f hf
  have h2 := (List.mem_filter.1 hf).2
  intro h3
  unfold hit at h3
  rw [one_congr h3 l, h] at h2
  cases h2
theorem one_fixed (l : List HField) {n : List UInt8} (h : n ∈ fixed) : one l n = true := by
  unfold one
  rw [Bool.or_eq_true]
  left
  rw [List.any_eq_true]
  exact ⟨n, h, alike_self n⟩
theorem elems_congr {n m : List UInt8} (h : alike n m = true) (l : List HField) : elems l n = elems l m := by
  unfold elems
  congr 1
  congr 1
  funext f
  exact hit_congr h f
theorem one_named (l : List HField) {n : List UInt8} (h : n ∈ elems l CONNECTION) : one l n = true := by
  unfold one hasE
  rw [Bool.or_eq_true]
  right
  rw [List.any_eq_true]
  exact ⟨n, h, alike_self n⟩
/-- behind Strip no Connection field is left, so nothing is named -/
theorem elems_strip (l : List HField) : elems (strip l) CONNECTION = [] := by
  have h := strip_none l CONNECTION (one_fixed l (by decide))
  unfold getN at h
  rw [List.countP_eq_zero] at h
  unfold elems
  have : (strip l).filter (hit CONNECTION) = [] := by
    rw [List.filter_eq_nil_iff]
    exact h
  rw [this]
  rfl
theorem one_strip (l : List HField) (n : List UInt8) : one (strip l) n = fixed.any (fun x => alike x n) := by
  unfold one hasE
  rw [elems_strip]
  simp
theorem strip_strip (l : List HField) : strip (strip l) = strip l := by
  have key : ∀ f ∈ strip l, (!one (strip l) f.1) = true := fun f hf => by
    have h2 := (List.mem_filter.1 hf).2
    rw [one_strip]
    unfold one at h2
    rw [Bool.not_eq_true', Bool.or_eq_false_iff] at h2
    rw [h2.1]
    rfl
  show (strip l).filter _ = strip l
  exact List.filter_eq_self.2 key
/-- the order stays: a list that is held against the longer one, from left to right, is met whole -/
theorem strip_sub (l : List HField) : (strip l).Sublist l := List.filter_sublist
theorem greedy_step {s l : List HField} {k i : Nat} {f : HField} (hi : l[i]? = some f) (h : (s.drop k).Sublist (l.drop i)) :
    (s[k]? = some f → (s.drop (k + 1)).Sublist (l.drop (i + 1))) ∧ (s[k]? ≠ some f → (s.drop k).Sublist (l.drop (i + 1))) := by
  obtain ⟨hl, he⟩ := List.getElem?_eq_some_iff.1 hi
  rw [List.drop_eq_getElem_cons hl, he] at h
  by_cases hk : k < s.length
  · have hs : s[k]? = some s[k] := List.getElem?_eq_getElem hk
    rw [List.drop_eq_getElem_cons hk] at h ⊢
    rw [hs]
    generalize s[k] = x at *
    constructor
    · intro e
      cases h with
      | cons _ h => exact (List.sublist_cons_self _ _).trans h
      | cons_cons _ h => exact h
    · intro e
      cases h with
      | cons _ h => exact h
      | cons_cons _ h => exact absurd rfl e
  · have hs : s[k]? = none := List.getElem?_eq_none (by omega)
    rw [hs, List.drop_of_length_le (by omega : s.length ≤ k)]
    exact ⟨fun e => (by cases e), fun _ => List.nil_sublist _⟩
theorem greedy_end {s l : List HField} {k : Nat} (h : (s.drop k).Sublist (l.drop l.length)) : s.length ≤ k := by
  rw [List.drop_length] at h
  have := List.sublist_nil.1 h
  exact List.drop_eq_nil_iff.1 this
/-! ### the bounds -/
theorem token_n (k : Nat) (h : 1 ≤ k) : token (List.replicate k 110) = true := by
  unfold token
  rw [Bool.and_eq_true]
  constructor
  · rw [List.all_eq_true]
    intro c hc
    rw [List.eq_of_mem_replicate hc]
    decide
  · cases k with
    | zero => omega
    | succ k => rfl
theorem value_v (k : Nat) : value (List.replicate k 118) = true := by
  unfold value
  rw [Bool.and_eq_true]
  constructor
  · rw [List.all_eq_true]
    intro c hc
    rw [List.eq_of_mem_replicate hc]
    decide
  · cases k with
    | zero => rfl
    | succ k =>
      have h1 : (List.replicate (k + 1) (118 : UInt8)).headD 0 = 118 := rfl
      have h2 : (List.replicate (k + 1) (118 : UInt8)).getLastD 0 = 118 := by
        rw [List.getLastD_eq_getLast?, List.getLast?_replicate]
        rfl
      rw [h1, h2]
      rfl
theorem check_one (f : HField) : check [f] = if right f then 0 else 70 := by
  unfold check
  simp only [List.all_cons, List.all_nil, Bool.and_true]
  split
  · rfl
  · rfl
theorem right_a : right ([97], []) = true := by decide
theorem check_many (k : Nat) : check (List.replicate k ([97], [])) = if k ≤ 32 then 0 else 71 := by
  unfold check
  have : (List.replicate k (([97], []) : HField)).all right = true := by
    rw [List.all_eq_true]
    intro f hf
    rw [List.eq_of_mem_replicate hf]
    exact right_a
  rw [this, List.length_replicate]
  rfl
theorem check_past (l : List HField) {f : HField} (h : right f = false) : check (l ++ [f]) = 70 := by
  unfold check
  rw [List.all_append, List.all_cons, h]
  simp
end Go.Proofs.YtlgohmghjffiaaaDoor.FieldsPure
