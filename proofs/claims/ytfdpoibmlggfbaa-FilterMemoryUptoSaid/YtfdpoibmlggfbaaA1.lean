/- Texts of this seat, one behind another: Bytes, LexPure, FieldsPure, HeadPure, HeadWrit, HeadLines, LexNum, FramePure, LexList, DecN, EmitPure, PathPure, CutAt, HostPure, RHostPure, ConfPure, ConfBack, BucketPure, FilterPure, FiltState, FiltKeep, LawKit, LawBase, BulkOf, RowsArg, Ret, Rows1, Texts, ConfMem, Mem, Flds, FArg, KeptRow, FRow. -/
import Derived.ProofKit
import Derived.Laws.Strings
import Derived.Lib.IndexMore
import Derived.Below
import Derived.ChangeSame
import Derived.WideKeyArgs
import Derived.OpenShut
import Derived.Carry
import Derived.SizedLaws
import Derived.Test.YtfdpoibmlggfbaaRows
import Derived.WalkKit
import Derived.ChangeMaps5
import Derived.Deep.Slices
import Derived.Deep.Fields
import Derived.Deep.Draws
import Derived.Laws.AppendOwn
import Derived.Laws.IdiomStrings
import Derived.Lib.BufferRead
import Derived.Lib.Hide
import Derived.Outline
import Derived.LoopTactic
import Derived.Laws.OwnMore
import Derived.Laws.Rows
import Derived.Deep.SlicePairs
import Derived.OwnWalk
import Derived.Maps.AppendAt
import Derived.Deep.AppendLies

/- Texts as lists of bytes, and facts on all bytes by reckoning. No program is named. -/
namespace Go.Proofs.Ytfdpoibmlggfbaa.Bytes

/-- a text's bytes, and the text of bytes -/
abbrev toL (s : ByteArray) : List UInt8 := s.data.toList
def ofL (l : List UInt8) : ByteArray := ⟨l.toArray⟩
theorem toL_ofL (l : List UInt8) : toL (ofL l) = l := by simp [toL, ofL]
theorem ofL_toL (s : ByteArray) : ofL (toL s) = s := by cases s; simp [toL, ofL]
theorem ofL_inj {l m : List UInt8} (h : ofL l = ofL m) : l = m := by
  have := congrArg toL h
  rwa [toL_ofL, toL_ofL] at this
theorem toL_inj {s t : ByteArray} (h : toL s = toL t) : s = t := by
  rw [← ofL_toL s, ← ofL_toL t, h]
theorem toL_length (s : ByteArray) : (toL s).length = s.size := by simp [toL]
theorem ofL_size (l : List UInt8) : (ofL l).size = l.length := by simp [ofL, ByteArray.size]
theorem toL_get (s : ByteArray) (k : Nat) (h : k < s.size) : (toL s)[k]? = some s[k] := by
  rw [List.getElem?_eq_getElem (by rw [toL_length]; exact h)]
  simp [toL, ByteArray.getElem_eq_getElem_data]
theorem toL_take_succ (s : ByteArray) (k : Nat) (h : k < s.size) : (toL s).take (k + 1) = (toL s).take k ++ [s[k]] := by
  rw [List.take_add_one, toL_get s k h]
  rfl
theorem toL_drop (s : ByteArray) (k : Nat) (h : k < s.size) : (toL s).drop k = s[k] :: (toL s).drop (k + 1) := by
  rw [List.drop_eq_getElem_cons (by rw [toL_length]; exact h)]
  have := toL_get s k h
  rw [List.getElem?_eq_getElem (by rw [toL_length]; exact h)] at this
  rw [Option.some.inj this]
theorem toL_take_all (s : ByteArray) {k : Nat} (h : s.size ≤ k) : (toL s).take k = toL s := List.take_of_length_le (by rw [toL_length]; exact h)
theorem toL_extract (s : ByteArray) (a b : Nat) : toL (s.extract a b) = ((toL s).take b).drop a := by
  simp [toL, ByteArray.data_extract, Array.toList_extract, List.drop_take]
theorem toL_append (s t : ByteArray) : toL (s ++ t) = toL s ++ toL t := by simp [toL, ByteArray.data_append]
/-- texts held against each other, in the walk's form -/
theorem same_text (s t : ByteArray) : (s.toList == t.toList) = (toL s == toL t) := by rw [ByteArray.toList_eq, ByteArray.toList_eq]
theorem same_ofL (l m : List UInt8) : ((ofL l).toList == (ofL m).toList) = (l == m) := by rw [same_text, toL_ofL, toL_ofL]
/-- a fact on all bytes, by reckoning -/
theorem all_bytes {p : UInt8 → Bool} (h : (List.range 256).all (fun n => p (UInt8.ofNat n)) = true) (b : UInt8) : p b = true := by
  have := List.all_eq_true.1 h b.toNat (List.mem_range.2 b.toNat_lt)
  simpa using this
end Go.Proofs.Ytfdpoibmlggfbaa.Bytes

/- The grammar's small pieces over bytes: what each call of layer 4 answers. No program is named. -/
namespace Go.Proofs.Ytfdpoibmlggfbaa.LexPure
open Bytes

/-- a byte of a token -/
def MarkP (c : Int) : Prop := (48 ≤ c ∧ c ≤ 57) ∨ (65 ≤ c ∧ c ≤ 90) ∨ (97 ≤ c ∧ c ≤ 122) ∨ c = 33 ∨ c = 35 ∨ c = 36 ∨ c = 37 ∨ c = 38 ∨ c = 39 ∨ c = 42 ∨ c = 43 ∨ c = 45 ∨ c = 46 ∨ c = 94 ∨ c = 95 ∨ c = 96 ∨ c = 124 ∨ c = 126
instance (c : Int) : Decidable (MarkP c) := by unfold MarkP; infer_instance
def markB (c : UInt8) : Bool := decide (MarkP (c.toNat : Int))
def blankB (c : UInt8) : Bool := c == 32 || c == 9
def plainB (c : UInt8) : Bool := decide (32 ≤ c.toNat) && c != 127 || c == 9
def small (c : UInt8) : UInt8 := if decide (65 ≤ c.toNat) && decide (c.toNat ≤ 90) then c + 32 else c
def token (s : List UInt8) : Bool := s.all markB && !s.isEmpty
def trim (s : List UInt8) : List UInt8 := ((s.dropWhile blankB).reverse.dropWhile blankB).reverse
def value (s : List UInt8) : Bool := s.all plainB && (s.isEmpty || (!blankB (s.headD 0) && !blankB (s.getLastD 0)))
def lower (s : List UInt8) : List UInt8 := s.map small
def alike (s t : List UInt8) : Bool := lower s == lower t
/-- the pieces between commas -/
def pieces : List UInt8 → List (List UInt8)
  | [] => [[]]
  | c :: s => if c == 44 then [] :: pieces s else match pieces s with
    | [] => [[c]]
    | p :: ps => (c :: p) :: ps
def elements (s : List UInt8) : List (List UInt8) := ((pieces s).map trim).filter (fun e => !e.isEmpty)
/-- a digit's worth (99: none) -/
def dig (c : UInt8) : Nat := if 48 ≤ c.toNat ∧ c.toNat ≤ 57 then c.toNat - 48 else if 65 ≤ c.toNat ∧ c.toNat ≤ 70 then c.toNat - 55 else if 97 ≤ c.toNat ∧ c.toNat ≤ 102 then c.toNat - 87 else 99
def numV (base : Nat) (s : List UInt8) : Nat := s.foldl (fun n c => base * n + dig c) 0
def numOk (base : Nat) (digits : Int) (s : List UInt8) : Bool := !s.isEmpty && decide ((s.length : Int) ≤ digits) && s.all (fun c => decide (dig c < base))
def numR (base : Nat) (digits : Int) (s : List UInt8) : Int := if numOk base digits s then (numV base s : Int) else 0

/-! ### bytes -/
theorem blank_eq (b : UInt8) : decide ((b.toNat : Int) = 32 ∨ (b.toNat : Int) = 9) = blankB b := by
  have := all_bytes (p := fun b => decide ((b.toNat : Int) = 32 ∨ (b.toNat : Int) = 9) == blankB b) (by decide +kernel) b
  simpa using this
theorem small_small (b : UInt8) : small (small b) = small b := by
  have := all_bytes (p := fun b => small (small b) == small b) (by decide +kernel) b
  simpa using this
theorem small_mark (b : UInt8) : markB (small b) = markB b := by
  have := all_bytes (p := fun b => markB (small b) == markB b) (by decide +kernel) b
  simpa using this
theorem small_plain (b : UInt8) : plainB (small b) = plainB b := by
  have := all_bytes (p := fun b => plainB (small b) == plainB b) (by decide +kernel) b
  simpa using this
theorem small_blank (b : UInt8) : blankB (small b) = blankB b := by
  have := all_bytes (p := fun b => blankB (small b) == blankB b) (by decide +kernel) b
  simpa using this
theorem small_comma (b : UInt8) : (small b == 44) = (b == 44) := by
  have := all_bytes (p := fun b => (small b == 44) == (b == 44)) (by decide +kernel) b
  simpa using this

/-! ### small letters -/
theorem lower_lower (s : List UInt8) : lower (lower s) = lower s := by
  simp [lower, Function.comp_def, small_small]
theorem lower_length (s : List UInt8) : (lower s).length = s.length := by simp [lower]
theorem alike_self (s : List UInt8) : alike s s = true := by simp [alike]
theorem alike_lower (s : List UInt8) : alike s (lower s) = true := by simp [alike, lower_lower]
theorem alike_lower' (s : List UInt8) : alike (lower s) s = true := by simp [alike, lower_lower]
theorem alike_comm (s t : List UInt8) : alike s t = alike t s := by
  unfold alike
  rw [Bool.eq_iff_iff, beq_iff_eq, beq_iff_eq]
  exact eq_comm
theorem alike_lower_left (s t : List UInt8) : alike (lower s) t = alike s t := by simp [alike, lower_lower]
theorem token_lower (s : List UInt8) : token (lower s) = token s := by
  unfold token lower
  simp [List.all_map, Function.comp_def, small_mark]
theorem headD_map (s : List UInt8) : blankB ((s.map small).headD 0) = blankB (s.headD 0) := by
  cases s with
  | nil => rfl
  | cons c s => exact small_blank c
theorem getLastD_map (s : List UInt8) : blankB ((s.map small).getLastD 0) = blankB (s.getLastD 0) := by
  rw [List.getLastD_eq_getLast?, List.getLastD_eq_getLast?, List.getLast?_map]
  cases s.getLast? with
  | none => rfl
  | some c => exact small_blank c
theorem value_lower (s : List UInt8) : value (lower s) = value s := by
  unfold value lower
  rw [headD_map, getLastD_map]
  simp [List.all_map, Function.comp_def, small_plain]

/-! ### blanks at both ends -/
theorem dropWhile_idem (s : List UInt8) : (s.dropWhile blankB).dropWhile blankB = s.dropWhile blankB := by
  induction s with
  | nil => rfl
  | cons c s ih =>
    by_cases h : blankB c = true
    · simp [h, ih]
    · simp [h]
/-- what stays has no blank at its beginning -/
theorem dropWhile_head {s : List UInt8} {c : UInt8} {r : List UInt8} (h : s.dropWhile blankB = c :: r) : blankB c = false := by
  induction s with
  | nil => cases h
  | cons d s ih =>
    by_cases hd : blankB d = true
    · rw [List.dropWhile_cons, if_pos hd] at h
      exact ih h
    · rw [List.dropWhile_cons, if_neg hd] at h
      injection h with h1 h2
      subst h1
      simpa using hd
theorem dropWhile_id {s : List UInt8} (h : ∀ c r, s = c :: r → blankB c = false) : s.dropWhile blankB = s := by
  cases s with
  | nil => rfl
  | cons c r => rw [List.dropWhile_cons, if_neg (by rw [h c r rfl]; decide)]
/-- cutting at the end leaves the beginning -/
theorem rev_head {s : List UInt8} (h : ∀ c r, s = c :: r → blankB c = false) : ∀ c r, (s.reverse.dropWhile blankB).reverse = c :: r → blankB c = false := by
  intro c r he
  have hp : (s.reverse.dropWhile blankB).reverse <+: s := by
    have := List.dropWhile_suffix (l := s.reverse) blankB
    rw [← List.reverse_reverse s]
    exact List.reverse_prefix.2 (by simpa using this)
  rw [he] at hp
  obtain ⟨t, ht⟩ := hp
  exact h c (r ++ t) (by rw [← ht]; rfl)
theorem trim_head {s : List UInt8} : ∀ c r, trim s = c :: r → blankB c = false := rev_head (fun _ _ => dropWhile_head)
theorem trim_last {s : List UInt8} : ∀ c r, (trim s).reverse = c :: r → blankB c = false := by
  intro c r h
  unfold trim at h
  rw [List.reverse_reverse] at h
  exact dropWhile_head h
theorem trim_id {s : List UInt8} (h1 : ∀ c r, s = c :: r → blankB c = false) (h2 : ∀ c r, s.reverse = c :: r → blankB c = false) : trim s = s := by
  unfold trim
  rw [dropWhile_id h1, dropWhile_id h2, List.reverse_reverse]
theorem trim_trim (s : List UInt8) : trim (trim s) = trim s := trim_id trim_head trim_last
theorem trim_length (s : List UInt8) : (trim s).length ≤ s.length := by
  unfold trim
  rw [List.length_reverse]
  have h1 := (List.dropWhile_suffix (l := (s.dropWhile blankB).reverse) blankB).length_le
  have h2 := (List.dropWhile_suffix (l := s) blankB).length_le
  rw [List.length_reverse] at h1
  omega
end Go.Proofs.Ytfdpoibmlggfbaa.LexPure

/- Layer 7: fields, as lists of names and values. No program is named. -/
namespace Go.Proofs.Ytfdpoibmlggfbaa.FieldsPure
open LexPure Bytes
/-- a field: its name and its value -/
abbrev HField := List UInt8 × List UInt8
def hit (n : List UInt8) (f : HField) : Bool := alike f.1 n
/-- the value of the first field of a name, and how many there are -/
def getV (l : List HField) (n : List UInt8) : List UInt8 := ((l.find? (hit n)).map (·.2)).getD []
def getN (l : List HField) (n : List UInt8) : Nat := l.countP (hit n)
def elems (l : List HField) (n : List UInt8) : List (List UInt8) := (l.filter (hit n)).flatMap (fun f => elements f.2)
def hasE (l : List HField) (n e : List UInt8) : Bool := (elems l n).any (fun x => alike x e)
def remove (l : List HField) (n : List UInt8) : List HField := l.filter (fun f => !hit n f)
def setF (l : List HField) (n v : List UInt8) : List HField := remove l n ++ [(n, v)]
def right (f : HField) : Bool := token f.1 && value f.2 && decide (f.1.length + f.2.length ≤ 512)
def check (l : List HField) : Int := if l.all right then (if l.length ≤ 32 then 0 else 71) else 70
def CONNECTION : List UInt8 := [99, 111, 110, 110, 101, 99, 116, 105, 111, 110]
/-- the seven names -/
def fixed : List (List UInt8) := [CONNECTION, [107, 101, 101, 112, 45, 97, 108, 105, 118, 101], [112, 114, 111, 120, 121, 45, 99, 111, 110, 110, 101, 99, 116, 105, 111, 110], [116, 101], [116, 114, 97, 105, 108, 101, 114], [116, 114, 97, 110, 115, 102, 101, 114, 45, 101, 110, 99, 111, 100, 105, 110, 103], [117, 112, 103, 114, 97, 100, 101]]
def one (l : List HField) (n : List UInt8) : Bool := fixed.any (fun x => alike x n) || hasE l CONNECTION n
def strip (l : List HField) : List HField := l.filter (fun f => !one l f.1)

/-! ### alike -/
theorem alike_iff (s t : List UInt8) : alike s t = true ↔ lower s = lower t := by unfold alike; exact beq_iff_eq
theorem alike_congr {s t : List UInt8} (h : alike s t = true) (u : List UInt8) : alike u s = alike u t := by
  rw [alike_iff] at h
  unfold alike
  rw [h]
theorem hit_congr {n m : List UInt8} (h : alike n m = true) (f : HField) : hit n f = hit m f := alike_congr h f.1
theorem hit_other {n m : List UInt8} (h : alike n m = false) {f : HField} (hf : hit n f = true) : hit m f = false := by
  unfold hit at *
  cases hm : alike f.1 m with
  | false => rfl
  | true =>
    rw [alike_iff] at hf hm
    have : alike n m = true := by rw [alike_iff, ← hf, hm]
    rw [this] at h
    cases h

/-! ### Get behind Remove and Set -/
theorem get_remove (l : List HField) (n : List UInt8) : getN (remove l n) n = 0 := by
  unfold getN remove
  rw [List.countP_eq_zero]
  intro f hf
  have := (List.mem_filter.1 hf).2
  simpa using this
theorem getN_append (a b : List HField) (n : List UInt8) : getN (a ++ b) n = getN a n + getN b n := by
  unfold getN
  exact List.countP_append
theorem getV_none {l : List HField} {n : List UInt8} (h : getN l n = 0) : getV l n = [] ∧ l.find? (hit n) = none := by
  unfold getN at h
  rw [List.countP_eq_zero] at h
  have hf : l.find? (hit n) = none := by
    rw [List.find?_eq_none]
    exact h
  exact ⟨by unfold getV; rw [hf]; rfl, hf⟩
theorem getV_append (a b : List HField) (n : List UInt8) (h : getN a n = 0) : getV (a ++ b) n = getV b n := by
  have := (getV_none h).2
  unfold getV
  rw [List.find?_append, this]
  rfl
theorem get_set (l : List HField) (n v : List UInt8) : getN (setF l n v) n = 1 ∧ getV (setF l n v) n = v := by
  have h0 := get_remove l n
  have hh : hit n (n, v) = true := alike_self n
  unfold setF
  constructor
  · rw [getN_append, h0]
    unfold getN
    simp [hh]
  · rw [getV_append _ _ _ h0]
    unfold getV
    simp [hh]
theorem get_other_remove (l : List HField) (n m : List UInt8) (h : alike n m = false) : getN (remove l n) m = getN l m ∧ getV (remove l n) m = getV l m := by
  unfold getN getV remove
  induction l with
  | nil => exact ⟨rfl, rfl⟩
  | cons f l ih =>
    by_cases hf : hit n f = true
    · have hm := hit_other h hf
      rw [List.filter_cons_of_neg (by rw [hf]; decide), List.countP_cons_of_neg (by rw [hm]; decide), List.find?_cons_of_neg (by rw [hm]; decide)]
      exact ih
    · have hf' : hit n f = false := by simpa using hf
      rw [List.filter_cons_of_pos (by rw [hf']; decide)]
      cases hm : hit m f
      · rw [List.countP_cons_of_neg (by rw [hm]; decide), List.countP_cons_of_neg (by rw [hm]; decide), List.find?_cons_of_neg (by rw [hm]; decide), List.find?_cons_of_neg (by rw [hm]; decide)]
        exact ih
      · rw [List.countP_cons_of_pos hm, List.countP_cons_of_pos hm, List.find?_cons_of_pos hm, List.find?_cons_of_pos hm]
        exact ⟨by rw [ih.1], rfl⟩
theorem get_other_set (l : List HField) (n v m : List UInt8) (h : alike n m = false) : getN (setF l n v) m = getN l m ∧ getV (setF l n v) m = getV l m := by
  obtain ⟨h1, h2⟩ := get_other_remove l n m h
  have hh : hit m (n, v) = false := h
  have hz : getN [(n, v)] m = 0 := by unfold getN; simp [hh]
  unfold setF
  constructor
  · rw [getN_append, hz, h1]; rfl
  · rw [← h2]
    unfold getV
    rw [List.find?_append, (getV_none hz).2]
    simp

/-! ### Strip -/
theorem one_congr {n m : List UInt8} (h : alike n m = true) (l : List HField) : one l n = one l m := by
  unfold one hasE
  congr 1
  · congr 1; funext x; exact alike_congr h x
  · congr 1; funext x; exact alike_congr h x
theorem strip_none (l : List HField) (n : List UInt8) (h : one l n = true) : getN (strip l) n = 0 := by
  unfold getN strip
  rw [List.countP_eq_zero]
  intro f hf
  have h2 := (List.mem_filter.1 hf).2
  intro h3
  unfold hit at h3
  rw [one_congr h3 l, h] at h2
  cases h2
theorem one_fixed (l : List HField) {n : List UInt8} (h : n ∈ fixed) : one l n = true := by
  unfold one
  rw [Bool.or_eq_true]
  left
  rw [List.any_eq_true]
  exact ⟨n, h, alike_self n⟩
theorem elems_congr {n m : List UInt8} (h : alike n m = true) (l : List HField) : elems l n = elems l m := by
  unfold elems
  congr 1
  congr 1
  funext f
  exact hit_congr h f
theorem one_named (l : List HField) {n : List UInt8} (h : n ∈ elems l CONNECTION) : one l n = true := by
  unfold one hasE
  rw [Bool.or_eq_true]
  right
  rw [List.any_eq_true]
  exact ⟨n, h, alike_self n⟩
/-- behind Strip no Connection field is left, so nothing is named -/
theorem elems_strip (l : List HField) : elems (strip l) CONNECTION = [] := by
  have h := strip_none l CONNECTION (one_fixed l (by decide))
  unfold getN at h
  rw [List.countP_eq_zero] at h
  unfold elems
  have : (strip l).filter (hit CONNECTION) = [] := by
    rw [List.filter_eq_nil_iff]
    exact h
  rw [this]
  rfl
theorem one_strip (l : List HField) (n : List UInt8) : one (strip l) n = fixed.any (fun x => alike x n) := by
  unfold one hasE
  rw [elems_strip]
  simp
theorem strip_strip (l : List HField) : strip (strip l) = strip l := by
  have key : ∀ f ∈ strip l, (!one (strip l) f.1) = true := fun f hf => by
    have h2 := (List.mem_filter.1 hf).2
    rw [one_strip]
    unfold one at h2
    rw [Bool.not_eq_true', Bool.or_eq_false_iff] at h2
    rw [h2.1]
    rfl
  show (strip l).filter _ = strip l
  exact List.filter_eq_self.2 key
/-- the order stays: a list that is held against the longer one, from left to right, is met whole -/
theorem strip_sub (l : List HField) : (strip l).Sublist l := List.filter_sublist
theorem greedy_step {s l : List HField} {k i : Nat} {f : HField} (hi : l[i]? = some f) (h : (s.drop k).Sublist (l.drop i)) :
    (s[k]? = some f → (s.drop (k + 1)).Sublist (l.drop (i + 1))) ∧ (s[k]? ≠ some f → (s.drop k).Sublist (l.drop (i + 1))) := by
  obtain ⟨hl, he⟩ := List.getElem?_eq_some_iff.1 hi
  rw [List.drop_eq_getElem_cons hl, he] at h
  by_cases hk : k < s.length
  · have hs : s[k]? = some s[k] := List.getElem?_eq_getElem hk
    rw [List.drop_eq_getElem_cons hk] at h ⊢
    rw [hs]
    generalize s[k] = x at *
    constructor
    · intro e
      cases h with
      | cons _ h => exact (List.sublist_cons_self _ _).trans h
      | cons_cons _ h => exact h
    · intro e
      cases h with
      | cons _ h => exact h
      | cons_cons _ h => exact absurd rfl e
  · have hs : s[k]? = none := List.getElem?_eq_none (by omega)
    rw [hs, List.drop_of_length_le (by omega : s.length ≤ k)]
    exact ⟨fun e => (by cases e), fun _ => List.nil_sublist _⟩
theorem greedy_end {s l : List HField} {k : Nat} (h : (s.drop k).Sublist (l.drop l.length)) : s.length ≤ k := by
  rw [List.drop_length] at h
  have := List.sublist_nil.1 h
  exact List.drop_eq_nil_iff.1 this
/-! ### the bounds -/
theorem token_n (k : Nat) (h : 1 ≤ k) : token (List.replicate k 110) = true := by
  unfold token
  rw [Bool.and_eq_true]
  constructor
  · rw [List.all_eq_true]
    intro c hc
    rw [List.eq_of_mem_replicate hc]
    decide
  · cases k with
    | zero => omega
    | succ k => rfl
theorem value_v (k : Nat) : value (List.replicate k 118) = true := by
  unfold value
  rw [Bool.and_eq_true]
  constructor
  · rw [List.all_eq_true]
    intro c hc
    rw [List.eq_of_mem_replicate hc]
    decide
  · cases k with
    | zero => rfl
    | succ k =>
      have h1 : (List.replicate (k + 1) (118 : UInt8)).headD 0 = 118 := rfl
      have h2 : (List.replicate (k + 1) (118 : UInt8)).getLastD 0 = 118 := by
        rw [List.getLastD_eq_getLast?, List.getLast?_replicate]
        rfl
      rw [h1, h2]
      rfl
theorem check_one (f : HField) : check [f] = if right f then 0 else 70 := by
  unfold check
  simp only [List.all_cons, List.all_nil, Bool.and_true]
  split
  · rfl
  · rfl
theorem right_a : right ([97], []) = true := by decide
theorem check_many (k : Nat) : check (List.replicate k ([97], [])) = if k ≤ 32 then 0 else 71 := by
  unfold check
  have : (List.replicate k (([97], []) : HField)).all right = true := by
    rw [List.all_eq_true]
    intro f hf
    rw [List.eq_of_mem_replicate hf]
    exact right_a
  rw [this, List.length_replicate]
  rfl
theorem check_past (l : List HField) {f : HField} (h : right f = false) : check (l ++ [f]) = 70 := by
  unfold check
  rw [List.all_append, List.all_cons, h]
  simp
end Go.Proofs.Ytfdpoibmlggfbaa.FieldsPure

/- Layer 8: heads, as lists of bytes. No program is named. -/
namespace Go.Proofs.Ytfdpoibmlggfbaa.HeadPure
open LexPure Bytes FieldsPure
structure H8 where
  method : List UInt8
  target : List UInt8
  status : Int
  reason : List UInt8
  minor : Int
  fields : List HField
def zero8 : H8 := ⟨[], [], 0, [], 0, []⟩
def digitB (c : UInt8) : Bool := decide (48 ≤ c.toNat) && decide (c.toNat ≤ 57)
/-- the minor digit and the error of a version -/
def version8 (s : List UInt8) : Int × Int :=
  match s with
  | [h, t, t2, p, sl, a, d, b] => if h = 72 ∧ t = 84 ∧ t2 = 84 ∧ p = 80 ∧ sl = 47 ∧ d = 46 ∧ digitB a = true ∧ digitB b = true then (if a = 49 then ((b.toNat : Int) - 48, 0) else (0, 81)) else (0, 80)
  | _ => (0, 80)
def upB (s : List UInt8) : List UInt8 := s.takeWhile (fun c => c != 32)
def seenB (c : UInt8) : Bool := decide (32 < c.toNat) && decide (c.toNat < 127)
/-- a start line -/
def start8 (l : List UInt8) : H8 × Int :=
  if (upB l).length < l.length ∧ (upB l).length ≤ 16 ∧ token (upB l) = true then
    (let r := l.drop ((upB l).length + 1)
     if (upB r).length < r.length ∧ 0 < (upB r).length ∧ (upB r).all seenB = true then
       (let v := version8 (r.drop ((upB r).length + 1))
        if v.2 = 0 then (⟨upB l, upB r, 0, [], v.1, []⟩, 0) else (zero8, v.2))
     else (zero8, 80))
  else (zero8, 80)
/-- a status line -/
def status8 (l : List UInt8) : H8 × Int :=
  if 12 ≤ l.length ∧ l[8]? = some 32 ∧ numOk 10 3 ((l.drop 9).take 3) = true ∧ 100 ≤ numR 10 3 ((l.drop 9).take 3) ∧ numR 10 3 ((l.drop 9).take 3) < 600 ∧ (l.length = 12 ∨ l[12]? = some 32) ∧ (l.drop 13).all plainB = true then
    (let v := version8 (l.take 8)
     if v.2 = 0 then (⟨[], [], numR 10 3 ((l.drop 9).take 3), l.drop 13, v.1, []⟩, 0) else (zero8, v.2))
  else (zero8, 80)
def nameB (s : List UInt8) : List UInt8 := s.takeWhile (fun c => c != 58)
/-- a field's line -/
def field8 (l : List UInt8) : HField × Int :=
  if (nameB l).length < l.length ∧ token (nameB l) = true ∧ value (trim (l.drop ((nameB l).length + 1))) = true then ((nameB l, trim (l.drop ((nameB l).length + 1))), 0) else (([], []), 70)
/-- what stands at the place -/
inductive Line where
  | whole (k : Nat)
  | bad (e : Int)
  | wait
def scan (most : Nat) (over : Int) : Nat → List UInt8 → Line
  | _, [] => .wait
  | i, c :: s => if c = 10 then .bad 80 else if c = 13 then (match s with
      | [] => .wait
      | d :: _ => if d = 10 then .whole i else .bad 80)
    else if most ≤ i then .bad over else scan most over (i + 1) s
/-- what a reading comes to -/
inductive Res where
  | wait
  | bad (e : Int)
  | done (h : H8) (n : Nat)
def skip8 : List UInt8 → Nat
  | c :: d :: s => if c = 13 ∧ d = 10 then skip8 s + 2 else 0
  | _ => 0
/-- the fields' lines from place a on, m more fields to come at most -/
def fields8 (h : H8) : Nat → List HField → Nat → List UInt8 → Res
  | m, acc, a, s => match scan 512 83 0 s with
    | .wait => .wait
    | .bad e => .bad e
    | .whole k => if k = 0 then .done { h with fields := acc } (a + 2) else
      match m with
      | 0 => .bad 83
      | m + 1 => if (field8 (s.take k)).2 = 0 then fields8 h m (acc ++ [(field8 (s.take k)).1]) (a + k + 2) (s.drop (k + 2)) else .bad 70
/-- from the start line or status line on, at place a -/
def from8 (response : Bool) (a : Nat) (s : List UInt8) : Res :=
  match scan 1100 82 0 s with
  | .wait => .wait
  | .bad e => .bad e
  | .whole k =>
    (let x := if response then status8 (s.take k) else start8 (s.take k)
     if x.2 = 0 then fields8 x.1 32 [] (a + k + 2) (s.drop (k + 2)) else .bad x.2)
def skipOf (response : Bool) (s : List UInt8) : Nat := if response then 0 else skip8 s
def read8 (response : Bool) (s : List UInt8) : Res := from8 response (skipOf response s) (s.drop (skipOf response s))
def resH : Res → H8
  | .done h _ => h
  | _ => zero8
def resN : Res → Nat
  | .done _ n => n
  | _ => 0
def resE : Res → Int
  | .bad e => e
  | _ => 0

/-! ### a line -/
theorem scan_cons (most : Nat) (over : Int) (i : Nat) (c : UInt8) (s : List UInt8) : scan most over i (c :: s) = if c = 10 then .bad 80 else if c = 13 then (match s with
      | [] => .wait
      | d :: _ => if d = 10 then .whole i else .bad 80)
    else if most ≤ i then .bad over else scan most over (i + 1) s := by cases s <;> rfl
theorem scan_append (most : Nat) (over : Int) (t : List UInt8) : ∀ (s : List UInt8) (i : Nat), scan most over i s ≠ .wait → scan most over i (s ++ t) = scan most over i s
  | [], i, h => absurd rfl h
  | c :: s, i, h => by
    rw [scan_cons] at h
    rw [List.cons_append, scan_cons, scan_cons]
    by_cases h1 : c = 10
    · rw [if_pos h1, if_pos h1]
    · rw [if_neg h1] at h
      rw [if_neg h1, if_neg h1]
      by_cases h2 : c = 13
      · rw [if_pos h2] at h
        rw [if_pos h2, if_pos h2]
        cases s with
        | nil => exact absurd rfl h
        | cons d s => rfl
      · rw [if_neg h2] at h
        rw [if_neg h2, if_neg h2]
        by_cases h3 : most ≤ i
        · rw [if_pos h3, if_pos h3]
        · rw [if_neg h3] at h
          rw [if_neg h3, if_neg h3]
          exact scan_append most over t s (i + 1) h
/-- a whole line: no 10 and no 13 in it, then 13 and 10 -/
theorem scan_whole (most : Nat) (over : Int) : ∀ (s : List UInt8) (i k : Nat), scan most over i s = .whole k → ∃ l q, s = l ++ 13 :: 10 :: q ∧ k = i + l.length ∧ (∀ c ∈ l, c ≠ 10 ∧ c ≠ 13) ∧ (l.length = 0 ∨ i + l.length ≤ most)
  | [], i, k, h => by simp [scan] at h
  | c :: s, i, k, h => by
    rw [scan_cons] at h
    by_cases h1 : c = 10
    · rw [if_pos h1] at h; cases h
    · rw [if_neg h1] at h
      by_cases h2 : c = 13
      · rw [if_pos h2] at h
        cases s with
        | nil => cases h
        | cons d s =>
          simp only at h
          by_cases h4 : d = 10
          · rw [if_pos h4] at h
            injection h with h
            exact ⟨[], s, (by rw [h2, h4]; rfl), h.symm, (fun c hc => by cases hc), Or.inl rfl⟩
          · rw [if_neg h4] at h; cases h
      · rw [if_neg h2] at h
        by_cases h3 : most ≤ i
        · rw [if_pos h3] at h; cases h
        · rw [if_neg h3] at h
          obtain ⟨l, q, e1, e2, e3, e4⟩ := scan_whole most over s (i + 1) k h
          refine ⟨c :: l, q, by rw [e1]; rfl, by rw [List.length_cons]; omega, fun x hx => ?_, .inr ?_⟩
          · rcases List.mem_cons.1 hx with rfl | hx
            · exact ⟨h1, h2⟩
            · exact e3 x hx
          · rw [List.length_cons]
            rcases e4 with e4 | e4 <;> omega
theorem scan_line (most : Nat) (over : Int) (q : List UInt8) : ∀ (l : List UInt8) (i : Nat), (∀ c ∈ l, c ≠ 10 ∧ c ≠ 13) → (l.length = 0 ∨ i + l.length ≤ most) → scan most over i (l ++ 13 :: 10 :: q) = .whole (i + l.length)
  | [], i, _, _ => by rw [List.nil_append, scan_cons]; simp
  | c :: l, i, h, hm => by
    have hc := h c List.mem_cons_self
    rw [List.length_cons] at hm
    rw [List.cons_append, scan_cons, if_neg hc.1, if_neg hc.2, if_neg (by omega), scan_line most over q l (i + 1) (fun x hx => h x (List.mem_cons_of_mem _ hx)) (by omega), List.length_cons]
    congr 1
    omega
theorem scan_bad (most : Nat) (over : Int) (ho : over ≠ 0) : ∀ (s : List UInt8) (i : Nat) (e : Int), scan most over i s = .bad e → e ≠ 0
  | [], i, e, h => by simp [scan] at h
  | c :: s, i, e, h => by
    rw [scan_cons] at h
    split at h
    · injection h with h; omega
    · split at h
      · split at h
        · cases h
        · split at h
          · cases h
          · injection h with h; omega
      · split at h
        · injection h with h; omega
        · exact scan_bad most over ho s (i + 1) e h
theorem whole_take {most : Nat} {over : Int} {s : List UInt8} {k : Nat} (h : scan most over 0 s = .whole k) : k + 2 ≤ s.length ∧ (∀ t, (s ++ t).take k = s.take k ∧ (s ++ t).drop (k + 2) = s.drop (k + 2) ++ t) := by
  obtain ⟨l, q, rfl, hk, _⟩ := scan_whole most over s 0 k h
  rw [Nat.zero_add] at hk
  have hl : k + 2 ≤ (l ++ 13 :: 10 :: q).length := by simp; omega
  refine ⟨hl, fun t => ⟨?_, ?_⟩⟩
  · rw [List.take_append_of_le_length (by omega)]
  · rw [List.drop_append_of_le_length hl]

/-! ### what has been told stays so -/
theorem fields_append (h : H8) (t : List UInt8) : ∀ (m : Nat) (acc : List HField) (a : Nat) (s : List UInt8), fields8 h m acc a s ≠ .wait → fields8 h m acc a (s ++ t) = fields8 h m acc a s := by
  intro m
  induction m with
  | zero =>
    intro acc a s hw
    unfold fields8 at hw ⊢
    cases hs : scan 512 83 0 s with
    | wait => rw [hs] at hw; exact absurd rfl hw
    | bad e => rw [scan_append 512 83 t s 0 (by rw [hs]; intro hh; cases hh), hs]
    | whole k => rw [scan_append 512 83 t s 0 (by rw [hs]; intro hh; cases hh), hs]
  | succ m ih =>
    intro acc a s hw
    unfold fields8 at hw ⊢
    cases hs : scan 512 83 0 s with
    | wait => rw [hs] at hw; exact absurd rfl hw
    | bad e => rw [scan_append 512 83 t s 0 (by rw [hs]; intro hh; cases hh), hs]
    | whole k =>
      rw [scan_append 512 83 t s 0 (by rw [hs]; intro hh; cases hh), hs]
      rw [hs] at hw
      obtain ⟨_, h2⟩ := whole_take hs
      obtain ⟨h3, h4⟩ := h2 t
      simp only [h3, h4] at hw ⊢
      by_cases hk : k = 0
      · rw [if_pos hk, if_pos hk]
      · rw [if_neg hk] at hw
        rw [if_neg hk, if_neg hk]
        by_cases hf : (field8 (s.take k)).2 = 0
        · rw [if_pos hf] at hw
          rw [if_pos hf, if_pos hf]
          exact ih _ _ _ hw
        · rw [if_neg hf, if_neg hf]
theorem from_append (r : Bool) (t : List UInt8) (a : Nat) (s : List UInt8) (hw : from8 r a s ≠ .wait) : from8 r a (s ++ t) = from8 r a s := by
  unfold from8 at hw ⊢
  cases hs : scan 1100 82 0 s with
  | wait => rw [hs] at hw; exact absurd rfl hw
  | bad e => rw [scan_append 1100 82 t s 0 (by rw [hs]; intro hh; cases hh), hs]
  | whole k =>
    rw [scan_append 1100 82 t s 0 (by rw [hs]; intro hh; cases hh), hs]
    rw [hs] at hw
    obtain ⟨_, h2⟩ := whole_take hs
    obtain ⟨h3, h4⟩ := h2 t
    simp only [h3, h4] at hw ⊢
    by_cases hx : (if r = true then status8 (s.take k) else start8 (s.take k)).2 = 0
    · rw [if_pos hx] at hw
      rw [if_pos hx, if_pos hx]
      exact fields_append _ t _ _ _ _ hw
    · rw [if_neg hx, if_neg hx]
theorem skip_append (t : List UInt8) : ∀ s : List UInt8, s.drop (skip8 s) ≠ [] → s.drop (skip8 s) ≠ [13] → skip8 (s ++ t) = skip8 s
  | [], h, _ => absurd rfl h
  | [c], _, h2 => by
    have hc : c ≠ 13 := fun e => h2 (by rw [e]; rfl)
    cases t with
    | nil => rfl
    | cons d t =>
      show skip8 (c :: d :: t) = 0
      rw [skip8, if_neg (fun h => hc h.1)]
  | c :: d :: s, h1, h2 => by
    rw [List.cons_append, List.cons_append, skip8, skip8]
    rw [skip8] at h1 h2
    by_cases hc : c = 13 ∧ d = 10
    · rw [if_pos hc] at h1 h2
      rw [if_pos hc, if_pos hc]
      rw [skip_append t s h1 h2]
    · rw [if_neg hc, if_neg hc]
theorem skip_le : ∀ s : List UInt8, skip8 s ≤ s.length
  | [] => Nat.le_refl _
  | [_] => Nat.zero_le _
  | c :: d :: s => by
    rw [skip8]
    split
    · have := skip_le s
      simp
      omega
    · exact Nat.zero_le _
theorem skipOf_le (r : Bool) (s : List UInt8) : skipOf r s ≤ s.length := by
  unfold skipOf
  split
  · exact Nat.zero_le _
  · exact skip_le s
theorem from_some (r : Bool) (a : Nat) (s : List UInt8) (h : from8 r a s ≠ .wait) : s ≠ [] ∧ s ≠ [13] := by
  constructor
  · rintro rfl
    exact h rfl
  · rintro rfl
    exact h rfl
/-- P8.1, P8.2: what has been told stays so -/
theorem read_append (r : Bool) (s t : List UInt8) (h : read8 r s ≠ .wait) : read8 r (s ++ t) = read8 r s := by
  unfold read8 at h ⊢
  obtain ⟨h1, h2⟩ := from_some _ _ _ h
  have hk : skipOf r (s ++ t) = skipOf r s := by
    unfold skipOf at h1 h2 ⊢
    cases r
    · exact skip_append t s h1 h2
    · rfl
  rw [hk, List.drop_append_of_le_length (skipOf_le r s)]
  exact from_append r t _ _ h

/-! ### the bytes that a head has -/
/-- no 10 without a 13 ahead of it, no 13 without a 10 behind it -/
def Clean (p : List UInt8) : Prop := ∀ (i : Nat) (c : UInt8), p[i]? = some c → (c = 10 → ∃ j, i = j + 1 ∧ p[j]? = some 13) ∧ (c = 13 → p[i + 1]? = some 10)
theorem clean_nil : Clean [] := fun i c h => by simp at h
theorem clean_append {p q : List UInt8} (hp : Clean p) (hq : Clean q) : Clean (p ++ q) := fun i c h => by
  by_cases hi : i < p.length
  · rw [List.getElem?_append_left hi] at h
    obtain ⟨h1, h2⟩ := hp i c h
    refine ⟨fun e => ?_, fun e => ?_⟩
    · obtain ⟨j, hj, h3⟩ := h1 e
      exact ⟨j, hj, by rw [List.getElem?_append_left (by omega)]; exact h3⟩
    · have h3 := h2 e
      have h4 := (List.getElem?_eq_some_iff.1 h3).1
      rw [List.getElem?_append_left h4]
      exact h3
  · rw [List.getElem?_append_right (by omega)] at h
    obtain ⟨h1, h2⟩ := hq _ c h
    refine ⟨fun e => ?_, fun e => ?_⟩
    · obtain ⟨j, hj, h3⟩ := h1 e
      exact ⟨p.length + j, by omega, by rw [List.getElem?_append_right (by omega), Nat.add_sub_cancel_left]; exact h3⟩
    · have h3 := h2 e
      rw [List.getElem?_append_right (by omega)]
      rw [show i + 1 - p.length = i - p.length + 1 by omega]
      exact h3
theorem clean_bare {l : List UInt8} (h : ∀ c ∈ l, c ≠ 10 ∧ c ≠ 13) : Clean l := fun i c hc => by
  have hm := List.mem_of_getElem? hc
  exact ⟨fun e => absurd e (h c hm).1, fun e => absurd e (h c hm).2⟩
theorem clean_end : Clean [13, 10] := fun i c h => by
  match i, h with
  | 0, h =>
    have e : (13 : UInt8) = c := by simpa using h
    subst e
    exact ⟨fun e => absurd e (by decide), fun _ => rfl⟩
  | 1, h =>
    have e : (10 : UInt8) = c := by simpa using h
    subst e
    exact ⟨fun _ => ⟨0, rfl, rfl⟩, fun e => absurd e (by decide)⟩
  | i + 2, h => simp at h
theorem clean_line {l : List UInt8} (h : ∀ c ∈ l, c ≠ 10 ∧ c ≠ 13) : Clean (l ++ [13, 10]) := clean_append (clean_bare h) clean_end
theorem fields_done (h : H8) : ∀ (m : Nat) (acc : List HField) (a : Nat) (s : List UInt8) (h' : H8) (n : Nat), fields8 h m acc a s = .done h' n →
    ∃ p q, s = p ++ q ∧ n = a + p.length ∧ 0 < p.length ∧ Clean p ∧ ∀ q', fields8 h m acc a (p ++ q') = .done h' n := by
  intro m
  induction m with
  | zero =>
    intro acc a s h' n hd
    unfold fields8 at hd
    cases hs : scan 512 83 0 s with
    | wait => rw [hs] at hd; cases hd
    | bad e => rw [hs] at hd; cases hd
    | whole k =>
      rw [hs] at hd
      simp only at hd
      obtain ⟨l, q, rfl, hk, hl, hm⟩ := scan_whole 512 83 s 0 k hs
      by_cases h0 : k = 0
      · rw [if_pos h0] at hd
        have hl0 : l = [] := List.eq_nil_of_length_eq_zero (by omega)
        subst hl0
        refine ⟨[13, 10], q, rfl, ?_, by decide, clean_end, fun q' => ?_⟩
        · injection hd with _ e
          rw [← e]
          rfl
        · unfold fields8
          rw [show [13, 10] ++ q' = ([] : List UInt8) ++ 13 :: 10 :: q' from rfl, scan_line 512 83 q' [] 0 (fun c hc => by cases hc) (.inl rfl)]
          exact hd
      · rw [if_neg h0] at hd
        cases hd
  | succ m ih =>
    intro acc a s h' n hd
    unfold fields8 at hd
    cases hs : scan 512 83 0 s with
    | wait => rw [hs] at hd; cases hd
    | bad e => rw [hs] at hd; cases hd
    | whole k =>
      rw [hs] at hd
      simp only at hd
      obtain ⟨l, q, rfl, hk, hl, hm⟩ := scan_whole 512 83 s 0 k hs
      rw [Nat.zero_add] at hk
      by_cases h0 : k = 0
      · rw [if_pos h0] at hd
        have hl0 : l = [] := List.eq_nil_of_length_eq_zero (by omega)
        subst hl0
        refine ⟨[13, 10], q, rfl, ?_, by decide, clean_end, fun q' => ?_⟩
        · injection hd with _ e
          rw [← e]
          rfl
        · unfold fields8
          rw [show [13, 10] ++ q' = ([] : List UInt8) ++ 13 :: 10 :: q' from rfl, scan_line 512 83 q' [] 0 (fun c hc => by cases hc) (.inl rfl)]
          exact hd
      · rw [if_neg h0] at hd
        have e1 : (l ++ 13 :: 10 :: q).take k = l := by rw [hk]; exact List.take_left
        have e2 : (l ++ 13 :: 10 :: q).drop (k + 2) = q := by
          rw [hk, ← List.drop_drop, List.drop_left]
          rfl
        rw [e1, e2] at hd
        by_cases hf : (field8 l).2 = 0
        · rw [if_pos hf] at hd
          obtain ⟨p, q2, rfl, hn, hp, hcl, hall⟩ := ih _ _ _ _ _ hd
          refine ⟨l ++ [13, 10] ++ p, q2, by simp, by simp; omega, by simp; omega, clean_append (clean_line hl) hcl, fun q' => ?_⟩
          unfold fields8
          rw [show l ++ [13, 10] ++ p ++ q' = l ++ 13 :: 10 :: (p ++ q') by simp, scan_line 512 83 (p ++ q') l 0 hl hm]
          simp only [Nat.zero_add]
          rw [← hk, if_neg h0]
          have e3 : (l ++ 13 :: 10 :: (p ++ q')).take k = l := by rw [hk]; exact List.take_left
          have e4 : (l ++ 13 :: 10 :: (p ++ q')).drop (k + 2) = p ++ q' := by
            rw [hk, ← List.drop_drop, List.drop_left]
            rfl
          rw [e3, e4, if_pos hf]
          exact hall q'
        · rw [if_neg hf] at hd
          cases hd
theorem start_nil : (start8 []).2 ≠ 0 := by decide
theorem status_nil : (status8 []).2 ≠ 0 := by decide
theorem from_done (r : Bool) (a : Nat) (s : List UInt8) (h' : H8) (n : Nat) (hd : from8 r a s = .done h' n) :
    ∃ p q, s = p ++ q ∧ n = a + p.length ∧ 2 < p.length ∧ Clean p ∧ ∀ q', from8 r a (p ++ q') = .done h' n := by
  unfold from8 at hd
  cases hs : scan 1100 82 0 s with
  | wait => rw [hs] at hd; cases hd
  | bad e => rw [hs] at hd; cases hd
  | whole k =>
    rw [hs] at hd
    simp only at hd
    obtain ⟨l, q, rfl, hk, hl, hm⟩ := scan_whole 1100 82 s 0 k hs
    rw [Nat.zero_add] at hk
    have e1 : (l ++ 13 :: 10 :: q).take k = l := by rw [hk]; exact List.take_left
    have e2 : (l ++ 13 :: 10 :: q).drop (k + 2) = q := by
      rw [hk, ← List.drop_drop, List.drop_left]
      rfl
    rw [e1, e2] at hd
    by_cases hx : (if r = true then status8 l else start8 l).2 = 0
    · rw [if_pos hx] at hd
      have hl0 : 0 < l.length := by
        cases l with
        | nil =>
          cases r
          · exact absurd hx start_nil
          · exact absurd hx status_nil
        | cons => simp
      obtain ⟨p, q2, rfl, hn, hp, hcl, hall⟩ := fields_done _ _ _ _ _ _ _ hd
      refine ⟨l ++ [13, 10] ++ p, q2, by simp, by simp; omega, by simp; omega, clean_append (clean_line hl) hcl, fun q' => ?_⟩
      unfold from8
      rw [show l ++ [13, 10] ++ p ++ q' = l ++ 13 :: 10 :: (p ++ q') by simp, scan_line 1100 82 (p ++ q') l 0 hl hm]
      simp only [Nat.zero_add]
      have e3 : (l ++ 13 :: 10 :: (p ++ q')).take l.length = l := List.take_left
      have e4 : (l ++ 13 :: 10 :: (p ++ q')).drop (l.length + 2) = p ++ q' := by
        rw [← List.drop_drop, List.drop_left]
        rfl
      rw [e3, e4, if_pos hx, ← hk]
      exact hall q'
    · rw [if_neg hx] at hd
      cases hd
theorem skip_split : ∀ s : List UInt8, ∃ u, s = u ++ s.drop (skip8 s) ∧ u.length = skip8 s ∧ Clean u ∧ skip8 (s.drop (skip8 s)) = 0 ∧ ∀ x, skip8 (u ++ x) = u.length + skip8 x
  | [] => ⟨[], rfl, rfl, clean_nil, rfl, fun x => by simp⟩
  | [c] => ⟨[], rfl, rfl, clean_nil, rfl, fun x => by simp⟩
  | c :: d :: s => by
    by_cases hc : c = 13 ∧ d = 10
    · obtain ⟨u, h1, h2, h3, h4, h5⟩ := skip_split s
      have hk : skip8 (c :: d :: s) = skip8 s + 2 := by rw [skip8, if_pos hc]
      obtain ⟨rfl, rfl⟩ := hc
      refine ⟨13 :: 10 :: u, ?_, ?_, clean_append (p := [13, 10]) clean_end h3, ?_, fun x => ?_⟩
      · rw [hk, List.drop_succ_cons, List.drop_succ_cons, List.cons_append, List.cons_append, ← h1]
      · rw [hk, List.length_cons, List.length_cons, h2]
      · rw [hk, List.drop_succ_cons, List.drop_succ_cons]
        exact h4
      · rw [List.cons_append, List.cons_append, skip8, if_pos ⟨rfl, rfl⟩, h5, List.length_cons, List.length_cons]
        omega
    · have hk : skip8 (c :: d :: s) = 0 := by rw [skip8, if_neg hc]
      exact ⟨[], by rw [hk]; rfl, by rw [hk]; rfl, clean_nil, by rw [hk]; exact hk, fun x => by simp⟩
theorem skip_two {p : List UInt8} (h2 : 2 ≤ p.length) (q q' : List UInt8) (h : skip8 (p ++ q) = 0) : skip8 (p ++ q') = 0 := by
  match p, h2 with
  | c :: d :: p, _ =>
    rw [List.cons_append, List.cons_append, skip8] at h ⊢
    by_cases hc : c = 13 ∧ d = 10
    · rw [if_pos hc] at h; omega
    · rw [if_neg hc]
/-- a head that is taken: its bytes alone make it, and they are clean -/
theorem read_done (r : Bool) (s : List UInt8) (h' : H8) (n : Nat) (hd : read8 r s = .done h' n) :
    ∃ p q, s = p ++ q ∧ n = p.length ∧ 0 < n ∧ Clean p ∧ ∀ q', read8 r (p ++ q') = .done h' n := by
  unfold read8 skipOf at hd
  cases r with
  | true =>
    simp only [if_true, List.drop_zero] at hd
    obtain ⟨p, q, rfl, hn, hp, hc, hall⟩ := from_done _ _ _ _ _ hd
    exact ⟨p, q, rfl, by omega, by omega, hc, fun q' => by unfold read8 skipOf; simpa using hall q'⟩
  | false =>
    simp only [Bool.false_eq_true, if_false] at hd
    obtain ⟨u, h1, h2, h3, h4, h5⟩ := skip_split s
    obtain ⟨p, q, e, hn, hp, hc, hall⟩ := from_done _ _ _ _ _ hd
    rw [e] at h1 h4
    refine ⟨u ++ p, q, by rw [List.append_assoc]; exact h1, by rw [List.length_append]; omega, by omega, clean_append h3 hc, fun q' => ?_⟩
    unfold read8 skipOf
    simp only [Bool.false_eq_true, if_false]
    have e1 : skip8 (u ++ p ++ q') = u.length := by rw [List.append_assoc, h5, skip_two (by omega) q q' h4, Nat.add_zero]
    rw [e1, List.append_assoc, List.drop_left, h2]
    exact hall q'
/-- cut short anywhere it isn't whole -/
theorem read_cut (r : Bool) (s : List UInt8) (h' : H8) (n cut : Nat) (hd : read8 r s = .done h' n) (hc : cut < n) : read8 r (s.take cut) = .wait := by
  cases hw : read8 r (s.take cut) with
  | wait => rfl
  | bad e =>
    have := read_append r (s.take cut) (s.drop cut) (by rw [hw]; intro h; cases h)
    rw [List.take_append_drop, hd, hw] at this
    cases this
  | done h2 n2 =>
    have := read_append r (s.take cut) (s.drop cut) (by rw [hw]; intro h; cases h)
    rw [List.take_append_drop, hd, hw] at this
    injection this with _ e
    obtain ⟨p, q, e1, e2, _⟩ := read_done r _ _ _ hw
    have e3 := congrArg List.length e1
    rw [List.length_take, List.length_append] at e3
    omega
theorem read_front (r : Bool) (s : List UInt8) (h' : H8) (n : Nat) (hd : read8 r s = .done h' n) : n ≤ s.length ∧ 0 < n ∧ read8 r (s.take n) = .done h' n ∧ Clean (s.take n) := by
  obtain ⟨p, q, rfl, hn, h0, hc, hall⟩ := read_done r s h' n hd
  have ht : (p ++ q).take n = p := by rw [hn]; exact List.take_left
  exact ⟨by rw [List.length_append]; omega, h0, by rw [ht]; have := hall []; rwa [List.append_nil] at this, by rw [ht]; exact hc⟩

/-! ### empty lines ahead -/
def shift (d : Nat) : Res → Res
  | .done h n => .done h (n + d)
  | x => x
theorem fields_shift (h : H8) (d : Nat) : ∀ (m : Nat) (acc : List HField) (a : Nat) (s : List UInt8), fields8 h m acc (a + d) s = shift d (fields8 h m acc a s) := by
  intro m
  induction m with
  | zero =>
    intro acc a s
    unfold fields8
    cases scan 512 83 0 s with
    | wait => rfl
    | bad e => rfl
    | whole k =>
      simp only
      split
      · unfold shift; simp only; congr 1; omega
      · rfl
  | succ m ih =>
    intro acc a s
    unfold fields8
    cases scan 512 83 0 s with
    | wait => rfl
    | bad e => rfl
    | whole k =>
      simp only
      split
      · unfold shift; simp only; congr 1; omega
      · split
        · rw [show a + d + k + 2 = a + k + 2 + d by omega]
          exact ih _ _ _
        · rfl
theorem from_shift (r : Bool) (d a : Nat) (s : List UInt8) : from8 r (a + d) s = shift d (from8 r a s) := by
  unfold from8
  cases scan 1100 82 0 s with
  | wait => rfl
  | bad e => rfl
  | whole k =>
    simp only
    by_cases hx : (if r = true then status8 (s.take k) else start8 (s.take k)).2 = 0
    · rw [if_pos hx, if_pos hx, show a + d + k + 2 = a + k + 2 + d by omega]
      exact fields_shift _ _ _ _ _ _
    · rw [if_neg hx, if_neg hx]
      rfl
def emptiesOf (k : Nat) : List UInt8 := (List.replicate k [13, 10]).flatten
theorem ahead_succ (k : Nat) : emptiesOf (k + 1) = 13 :: 10 :: emptiesOf k := by simp [emptiesOf, List.replicate_succ]
theorem ahead_snoc (k : Nat) : emptiesOf (k + 1) = emptiesOf k ++ [13, 10] := by simp [emptiesOf, List.replicate_succ', List.flatten_append]
theorem read_ahead (k : Nat) (s : List UInt8) : read8 false (emptiesOf k ++ s) = shift (2 * k) (read8 false s) := by
  have hk : ∀ k, skip8 (emptiesOf k ++ s) = 2 * k + skip8 s ∧ (emptiesOf k ++ s).drop (2 * k + skip8 s) = s.drop (skip8 s) := by
    intro k
    induction k with
    | zero => simp [emptiesOf]
    | succ k ih =>
      rw [ahead_succ, List.cons_append, List.cons_append, skip8, if_pos ⟨rfl, rfl⟩, ih.1]
      refine ⟨by omega, ?_⟩
      rw [show 2 * (k + 1) + skip8 s = 2 * k + skip8 s + 1 + 1 by omega, List.drop_succ_cons, List.drop_succ_cons]
      exact ih.2
  unfold read8 skipOf
  simp only [Bool.false_eq_true, if_false]
  rw [(hk k).1, (hk k).2, Nat.add_comm]
  exact from_shift _ _ _ _
end Go.Proofs.Ytfdpoibmlggfbaa.HeadPure

/- Layer 8: a head that is written line by line is read back as it is. No program is named. -/
namespace Go.Proofs.Ytfdpoibmlggfbaa.HeadWrit
open LexPure Bytes FieldsPure HeadPure
theorem drop_blanks {b v : List UInt8} (hb : b.all blankB = true) (hv : ∀ c r, v = c :: r → blankB c = false) : (b ++ v).dropWhile blankB = v := by
  induction b with
  | nil => exact dropWhile_id hv
  | cons c b ih =>
    rw [List.all_cons, Bool.and_eq_true] at hb
    rw [List.cons_append, List.dropWhile_cons_of_pos hb.1]
    exact ih hb.2
theorem value_ends {v : List UInt8} (h : value v = true) : (∀ c r, v = c :: r → blankB c = false) ∧ (∀ c r, v.reverse = c :: r → blankB c = false) := by
  unfold value at h
  rw [Bool.and_eq_true, Bool.or_eq_true, Bool.and_eq_true] at h
  constructor
  · intro c r e
    subst e
    rcases h.2 with h2 | h2
    · cases h2
    · simpa using h2.1
  · intro c r e
    have e2 : v = r.reverse ++ [c] := by
      have := congrArg List.reverse e
      rwa [List.reverse_reverse, List.reverse_cons] at this
    rcases h.2 with h2 | h2
    · rw [e2] at h2; simp at h2
    · have := h2.2
      rw [e2] at this
      simpa using this
theorem trim_wrap {b v : List UInt8} (hb : b.all blankB = true) (hv : value v = true) : trim (b ++ v ++ b) = v := by
  obtain ⟨h1, h2⟩ := value_ends hv
  have hb2 : b.reverse.all blankB = true := by rw [List.all_reverse]; exact hb
  unfold trim
  cases v with
  | nil =>
    have e : (b ++ [] ++ b).dropWhile blankB = [] := by
      rw [List.append_nil]
      have := drop_blanks (b := b ++ b) (v := []) (by rw [List.all_append, hb]; rfl) (fun c r e => by cases e)
      rwa [List.append_nil] at this
    rw [e]
    rfl
  | cons c v =>
    have e : (b ++ (c :: v) ++ b).dropWhile blankB = (c :: v) ++ b := by
      rw [List.append_assoc]
      exact drop_blanks hb (fun d r e => by
        rw [List.cons_append] at e
        injection e with e _
        rw [← e]
        exact h1 c v rfl)
    rw [e, List.reverse_append, drop_blanks hb2 h2, List.reverse_reverse]
/-- a field's line, with blanks about the value -/
def wline (b : List UInt8) (f : HField) : List UInt8 := f.1 ++ 58 :: (b ++ f.2 ++ b)
theorem mark_not (c : UInt8) : (markB c = true → c ≠ 58 ∧ c ≠ 10 ∧ c ≠ 13 ∧ c ≠ 32) ∧ (plainB c = true → c ≠ 10 ∧ c ≠ 13) ∧ (blankB c = true → c ≠ 10 ∧ c ≠ 13) ∧ (seenB c = true → c ≠ 10 ∧ c ≠ 13 ∧ c ≠ 32) := by
  have := all_bytes (p := fun c => decide ((markB c = true → c ≠ 58 ∧ c ≠ 10 ∧ c ≠ 13 ∧ c ≠ 32) ∧ (plainB c = true → c ≠ 10 ∧ c ≠ 13) ∧ (blankB c = true → c ≠ 10 ∧ c ≠ 13) ∧ (seenB c = true → c ≠ 10 ∧ c ≠ 13 ∧ c ≠ 32))) (by decide +kernel) c
  exact of_decide_eq_true this
theorem take_until {p : UInt8 → Bool} {l x : List UInt8} {d : UInt8} (hl : ∀ c ∈ l, p c = true) (hd : p d = false) : (l ++ d :: x).takeWhile p = l := by
  rw [List.takeWhile_append_of_pos hl, List.takeWhile_cons_of_neg (by rw [hd]; decide), List.append_nil]
theorem field_line {b : List UInt8} {f : HField} (hb : b.all blankB = true) (ht : token f.1 = true) (hv : value f.2 = true) : field8 (wline b f) = (f, 0) := by
  have hm : ∀ c ∈ f.1, markB c = true := by
    unfold token at ht
    rw [Bool.and_eq_true] at ht
    exact List.all_eq_true.1 ht.1
  have e1 : nameB (wline b f) = f.1 := take_until (fun c hc => by
    have := ((mark_not c).1 (hm c hc)).1
    simpa using this) (by decide)
  have e2 : (wline b f).drop (f.1.length + 1) = b ++ f.2 ++ b := by
    unfold wline
    rw [← List.drop_drop, List.drop_left]
    rfl
  unfold field8
  rw [e1, e2, trim_wrap hb hv, if_pos ⟨by unfold wline; simp, ht, hv⟩]
theorem line_bare {b : List UInt8} {f : HField} (hb : b.all blankB = true) (ht : token f.1 = true) (hv : value f.2 = true) : ∀ c ∈ wline b f, c ≠ 10 ∧ c ≠ 13 := by
  intro c hc
  have hm : ∀ c ∈ f.1, markB c = true := by
    unfold token at ht
    rw [Bool.and_eq_true] at ht
    exact List.all_eq_true.1 ht.1
  have hp : ∀ c ∈ f.2, plainB c = true := by
    unfold value at hv
    rw [Bool.and_eq_true] at hv
    exact List.all_eq_true.1 hv.1
  have hbb : ∀ c ∈ b, blankB c = true := List.all_eq_true.1 hb
  unfold wline at hc
  simp only [List.mem_append, List.mem_cons] at hc
  rcases hc with h | rfl | (h | h) | h
  · exact ⟨((mark_not c).1 (hm c h)).2.1, ((mark_not c).1 (hm c h)).2.2.1⟩
  · decide
  · exact (mark_not c).2.2.1 (hbb c h)
  · exact (mark_not c).2.1 (hp c h)
  · exact (mark_not c).2.2.1 (hbb c h)
def wlines (b : List UInt8) (l : List HField) : List UInt8 := l.flatMap (fun f => wline b f ++ [13, 10])
theorem wlines_snoc (b : List UInt8) (l : List HField) (f : HField) : wlines b (l ++ [f]) = wlines b l ++ (wline b f ++ [13, 10]) := by simp [wlines]
theorem fields_written (h : H8) {b : List UInt8} (hb : b.all blankB = true) (hbl : b.length ≤ 10) : ∀ (l : List HField) (m : Nat) (acc : List HField) (a : Nat), l.length ≤ m → (∀ f ∈ l, token f.1 = true ∧ value f.2 = true ∧ f.1.length + f.2.length ≤ 490) →
    fields8 h m acc a (wlines b l ++ [13, 10]) = .done { h with fields := acc ++ l } (a + (wlines b l).length + 2)
  | [], m, acc, a, _, _ => by
    unfold fields8
    rw [show wlines b [] ++ [13, 10] = [] ++ 13 :: 10 :: [] from rfl, scan_line 512 83 [] [] 0 (fun c hc => by cases hc) (.inl rfl)]
    simp [wlines]
  | f :: l, m, acc, a, hm, hf => by
    obtain ⟨ht, hv, hn⟩ := hf f List.mem_cons_self
    match m, hm with
    | m + 1, hm =>
      unfold fields8
      have e : wlines b (f :: l) ++ [13, 10] = wline b f ++ 13 :: 10 :: (wlines b l ++ [13, 10]) := by simp [wlines]
      have hlen : (wline b f).length ≤ 512 ∧ 0 < (wline b f).length := by unfold wline; simp; omega
      rw [e, scan_line 512 83 _ (wline b f) 0 (line_bare hb ht hv) (.inr (by omega))]
      simp only [Nat.zero_add]
      rw [if_neg (by omega)]
      have e3 : (wline b f ++ 13 :: 10 :: (wlines b l ++ [13, 10])).take (wline b f).length = wline b f := List.take_left
      have e4 : (wline b f ++ 13 :: 10 :: (wlines b l ++ [13, 10])).drop ((wline b f).length + 2) = wlines b l ++ [13, 10] := by
        rw [← List.drop_drop, List.drop_left]
        rfl
      rw [e3, e4, field_line hb ht hv, if_pos rfl, fields_written h hb hbl l m _ _ (by simpa using hm) (fun g hg => hf g (List.mem_cons_of_mem _ hg))]
      rw [List.append_assoc]
      congr 1
      have : (wlines b (f :: l)).length = (wline b f).length + 2 + (wlines b l).length := by simp [wlines]; omega
      omega
def HTTP11 : List UInt8 := [32, 72, 84, 84, 80, 47, 49, 46, 49]
/-- a head, as it is written -/
def wrote (m t b : List UInt8) (l : List HField) : List UInt8 := m ++ 32 :: t ++ HTTP11 ++ [13, 10] ++ wlines b l
theorem token_marks {m : List UInt8} (h : token m = true) : (∀ c ∈ m, markB c = true) ∧ 0 < m.length := by
  unfold token at h
  rw [Bool.and_eq_true] at h
  refine ⟨List.all_eq_true.1 h.1, ?_⟩
  cases m with
  | nil => simp at h
  | cons => simp
theorem read_written {m t b : List UInt8} {l : List HField} (hm : token m = true) (hml : m.length ≤ 16) (ht : t.all seenB = true) (ht0 : 0 < t.length) (htl : t.length ≤ 1024) (hb : b.all blankB = true) (hbl : b.length ≤ 10)
    (hl : l.length ≤ 32) (hf : ∀ f ∈ l, token f.1 = true ∧ value f.2 = true ∧ f.1.length + f.2.length ≤ 490) :
    read8 false (wrote m t b l ++ [13, 10]) = .done ⟨m, t, 0, [], 1, l⟩ ((wrote m t b l).length + 2) := by
  obtain ⟨hmm, hm0⟩ := token_marks hm
  have hts : ∀ c ∈ t, seenB c = true := List.all_eq_true.1 ht
  have e0 : wrote m t b l ++ [13, 10] = (m ++ 32 :: (t ++ HTTP11)) ++ 13 :: 10 :: (wlines b l ++ [13, 10]) := by unfold wrote; simp
  have hsk : skip8 (wrote m t b l ++ [13, 10]) = 0 := by
    rw [e0]
    cases m with
    | nil => simp at hm0
    | cons c m =>
      have hc := ((mark_not c).1 (hmm c List.mem_cons_self)).2.2.1
      cases hx : m ++ 32 :: (t ++ HTTP11) ++ 13 :: 10 :: (wlines b l ++ [13, 10]) with
      | nil => simp at hx
      | cons d x =>
        rw [List.cons_append, List.cons_append, hx, skip8, if_neg (fun h => hc h.1)]
  have hbare : ∀ c ∈ m ++ 32 :: (t ++ HTTP11), c ≠ 10 ∧ c ≠ 13 := by
    intro c hc
    simp only [List.mem_append, List.mem_cons] at hc
    rcases hc with h | rfl | h | h
    · exact ⟨((mark_not c).1 (hmm c h)).2.1, ((mark_not c).1 (hmm c h)).2.2.1⟩
    · decide
    · exact ⟨((mark_not c).2.2.2 (hts c h)).1, ((mark_not c).2.2.2 (hts c h)).2.1⟩
    · unfold HTTP11 at h
      simp only [List.mem_cons, List.not_mem_nil, or_false] at h
      rcases h with rfl | rfl | rfl | rfl | rfl | rfl | rfl | rfl | rfl <;> decide
  have hlen : (m ++ 32 :: (t ++ HTTP11)).length = m.length + t.length + 10 := by simp [HTTP11]; omega
  have hst : start8 (m ++ 32 :: (t ++ HTTP11)) = (⟨m, t, 0, [], 1, []⟩, 0) := by
    have u1 : upB (m ++ 32 :: (t ++ HTTP11)) = m := take_until (fun c hc => by
      have := ((mark_not c).1 (hmm c hc)).2.2.2
      simpa using this) (by decide)
    have d1 : (m ++ 32 :: (t ++ HTTP11)).drop (m.length + 1) = t ++ HTTP11 := by
      rw [← List.drop_drop, List.drop_left]
      rfl
    have u2 : upB (t ++ HTTP11) = t := take_until (x := [72, 84, 84, 80, 47, 49, 46, 49]) (fun c hc => by
      have := ((mark_not c).2.2.2 (hts c hc)).2.2
      simpa using this) (by decide)
    have d2 : (t ++ HTTP11).drop (t.length + 1) = [72, 84, 84, 80, 47, 49, 46, 49] := by
      rw [← List.drop_drop, List.drop_left]
      rfl
    unfold start8
    rw [u1, d1, if_pos ⟨by simp, hml, hm⟩]
    simp only [u2, d2]
    rw [if_pos ⟨by simp [HTTP11], ht0, ht⟩]
    rfl
  unfold read8 skipOf
  simp only [Bool.false_eq_true, if_false]
  rw [hsk, List.drop_zero, e0]
  unfold from8
  rw [scan_line 1100 82 _ _ 0 hbare (.inr (by omega))]
  simp only [Nat.zero_add, Bool.false_eq_true, if_false]
  have e3 : ((m ++ 32 :: (t ++ HTTP11)) ++ 13 :: 10 :: (wlines b l ++ [13, 10])).take (m ++ 32 :: (t ++ HTTP11)).length = m ++ 32 :: (t ++ HTTP11) := List.take_left
  have e4 : ((m ++ 32 :: (t ++ HTTP11)) ++ 13 :: 10 :: (wlines b l ++ [13, 10])).drop ((m ++ 32 :: (t ++ HTTP11)).length + 2) = wlines b l ++ [13, 10] := by
    rw [← List.drop_drop, List.drop_left]
    rfl
  rw [e3, e4, hst, if_pos rfl, fields_written _ hb hbl l 32 [] _ hl hf]
  have hw : (wrote m t b l).length = (m ++ 32 :: (t ++ HTTP11)).length + 2 + (wlines b l).length := by unfold wrote; simp; omega
  rw [List.nil_append]
  congr 1
  omega
end Go.Proofs.Ytfdpoibmlggfbaa.HeadWrit

/- Layer 8: a head read line by line: what each line brings. No program is named. -/
namespace Go.Proofs.Ytfdpoibmlggfbaa.HeadLines
open LexPure Bytes FieldsPure HeadPure HeadWrit
set_option maxRecDepth 20000
def bare (l : List UInt8) : Prop := ∀ c ∈ l, c ≠ 10 ∧ c ≠ 13
/-- a start line of version 1.1 -/
def startL (m t : List UInt8) : List UInt8 := m ++ 32 :: (t ++ HTTP11)
theorem start_bare {m t : List UInt8} (hm : token m = true) (ht : t.all seenB = true) : bare (startL m t) := by
  obtain ⟨hmm, _⟩ := token_marks hm
  have hts : ∀ c ∈ t, seenB c = true := List.all_eq_true.1 ht
  intro c hc
  unfold startL at hc
  simp only [List.mem_append, List.mem_cons] at hc
  rcases hc with h | rfl | h | h
  · exact ⟨((mark_not c).1 (hmm c h)).2.1, ((mark_not c).1 (hmm c h)).2.2.1⟩
  · decide
  · exact ⟨((mark_not c).2.2.2 (hts c h)).1, ((mark_not c).2.2.2 (hts c h)).2.1⟩
  · unfold HTTP11 at h
    simp only [List.mem_cons, List.not_mem_nil, or_false] at h
    rcases h with rfl | rfl | rfl | rfl | rfl | rfl | rfl | rfl | rfl <;> decide
theorem start_say {m t : List UInt8} (hm : token m = true) (hml : m.length ≤ 16) (ht : t.all seenB = true) (ht0 : 0 < t.length) : start8 (startL m t) = (⟨m, t, 0, [], 1, []⟩, 0) := by
  obtain ⟨hmm, _⟩ := token_marks hm
  have hts : ∀ c ∈ t, seenB c = true := List.all_eq_true.1 ht
  unfold startL
  have u1 : upB (m ++ 32 :: (t ++ HTTP11)) = m := take_until (fun c hc => by
    have := ((mark_not c).1 (hmm c hc)).2.2.2
    simpa using this) (by decide)
  have d1 : (m ++ 32 :: (t ++ HTTP11)).drop (m.length + 1) = t ++ HTTP11 := by
    rw [← List.drop_drop, List.drop_left]
    rfl
  have u2 : upB (t ++ HTTP11) = t := take_until (x := [72, 84, 84, 80, 47, 49, 46, 49]) (fun c hc => by
    have := ((mark_not c).2.2.2 (hts c hc)).2.2
    simpa using this) (by decide)
  have d2 : (t ++ HTTP11).drop (t.length + 1) = [72, 84, 84, 80, 47, 49, 46, 49] := by
    rw [← List.drop_drop, List.drop_left]
    rfl
  unfold start8
  rw [u1, d1, if_pos ⟨by simp, hml, hm⟩]
  simp only [u2, d2]
  rw [if_pos ⟨by simp [HTTP11], ht0, ht⟩]
  rfl
/-- the start line -/
theorem read_start {m t : List UInt8} (hm : token m = true) (hml : m.length ≤ 16) (ht : t.all seenB = true) (ht0 : 0 < t.length) (htl : t.length ≤ 1024) (s : List UInt8) :
    read8 false (startL m t ++ 13 :: 10 :: s) = fields8 ⟨m, t, 0, [], 1, []⟩ 32 [] ((startL m t).length + 2) s := by
  obtain ⟨hmm, hm0⟩ := token_marks hm
  have hsk : skip8 (startL m t ++ 13 :: 10 :: s) = 0 := by
    unfold startL
    cases m with
    | nil => simp at hm0
    | cons c m =>
      have hc := ((mark_not c).1 (hmm c List.mem_cons_self)).2.2.1
      cases hx : m ++ 32 :: (t ++ HTTP11) ++ 13 :: 10 :: s with
      | nil => simp at hx
      | cons d x =>
        rw [List.cons_append, List.cons_append, hx, skip8, if_neg (fun h => hc h.1)]
  have hlen : (startL m t).length = m.length + t.length + 10 := by simp [startL, HTTP11]; omega
  unfold read8 skipOf
  simp only [Bool.false_eq_true, if_false]
  rw [hsk, List.drop_zero]
  unfold from8
  rw [scan_line 1100 82 _ _ 0 (start_bare hm ht) (.inr (by omega))]
  simp only [Nat.zero_add, Bool.false_eq_true, if_false]
  have e3 : (startL m t ++ 13 :: 10 :: s).take (startL m t).length = startL m t := List.take_left
  have e4 : (startL m t ++ 13 :: 10 :: s).drop ((startL m t).length + 2) = s := by
    rw [← List.drop_drop, List.drop_left]
    rfl
  rw [e3, e4, start_say hm hml ht ht0, if_pos rfl]
/-- a field's line -/
theorem fields_line (h : H8) (m : Nat) (acc : List HField) (a : Nat) {L : List UInt8} (hb : bare L) (h0 : 0 < L.length) (hl : L.length ≤ 512) (s : List UInt8) :
    fields8 h (m + 1) acc a (L ++ 13 :: 10 :: s) = if (field8 L).2 = 0 then fields8 h m (acc ++ [(field8 L).1]) (a + L.length + 2) s else .bad 70 := by
  conv => lhs; unfold fields8
  rw [scan_line 512 83 _ L 0 hb (.inr (by omega))]
  simp only [Nat.zero_add]
  rw [if_neg (by omega)]
  have e3 : (L ++ 13 :: 10 :: s).take L.length = L := List.take_left
  have e4 : (L ++ 13 :: 10 :: s).drop (L.length + 2) = s := by
    rw [← List.drop_drop, List.drop_left]
    rfl
  rw [e3, e4]
/-- the empty line -/
theorem fields_end (h : H8) (m : Nat) (acc : List HField) (a : Nat) (s : List UInt8) : fields8 h m acc a (13 :: 10 :: s) = .done { h with fields := acc } (a + 2) := by
  unfold fields8
  rw [show (13 : UInt8) :: 10 :: s = [] ++ 13 :: 10 :: s from rfl, scan_line 512 83 _ [] 0 (fun c hc => by cases hc) (.inl rfl)]
  simp
theorem scan_ten (most : Nat) (over : Int) (q : List UInt8) : ∀ (l : List UInt8) (i : Nat), bare l → i + l.length ≤ most → scan most over i (l ++ 10 :: q) = .bad 80
  | [], i, _, _ => by
    show scan most over i (10 :: q) = .bad 80
    rw [scan_cons, if_pos rfl]
  | c :: l, i, hb, hl => by
    obtain ⟨h1, h2⟩ := hb c List.mem_cons_self
    rw [List.length_cons] at hl
    rw [List.cons_append, scan_cons, if_neg h1, if_neg h2, if_neg (by omega)]
    exact scan_ten most over q l (i + 1) (fun x hx => hb x (List.mem_cons_of_mem _ hx)) (by omega)
/-- a line that ends with a 10 alone -/
theorem fields_ten (h : H8) (m : Nat) (acc : List HField) (a : Nat) {L : List UInt8} (hb : bare L) (hl : L.length ≤ 512) (s : List UInt8) : fields8 h m acc a (L ++ 10 :: s) = .bad 80 := by
  unfold fields8
  rw [scan_ten 512 83 s L 0 hb (by omega)]
/-- a field with blanks ahead of its value -/
theorem field_ahead {b n v : List UInt8} (hb : b.all blankB = true) (ht : token n = true) (hv : value v = true) : field8 (n ++ 58 :: (b ++ v)) = ((n, v), 0) := by
  have hm : ∀ c ∈ n, markB c = true := by
    unfold token at ht
    rw [Bool.and_eq_true] at ht
    exact List.all_eq_true.1 ht.1
  have e1 : nameB (n ++ 58 :: (b ++ v)) = n := take_until (fun c hc => by
    have := ((mark_not c).1 (hm c hc)).1
    simpa using this) (by decide)
  have e2 : (n ++ 58 :: (b ++ v)).drop (n.length + 1) = b ++ v := by
    rw [← List.drop_drop, List.drop_left]
    rfl
  have e3 : trim (b ++ v) = v := by
    obtain ⟨h1, h2⟩ := value_ends hv
    unfold trim
    rw [drop_blanks hb h1]
    cases hr : v.reverse with
    | nil =>
      have : v = [] := by simpa using hr
      rw [this]
      rfl
    | cons c r =>
      rw [List.dropWhile_cons_of_neg (by rw [h2 c r hr]; decide), ← hr, List.reverse_reverse]
  unfold field8
  rw [e1, e2, e3, if_pos ⟨by simp, ht, hv⟩]
theorem field_ahead_bare {b n v : List UInt8} (hb : b.all blankB = true) (ht : token n = true) (hv : value v = true) : bare (n ++ 58 :: (b ++ v)) := by
  have := line_bare (b := b) (f := (n, v)) hb ht hv
  intro c hc
  refine this c ?_
  unfold wline
  simp only [List.mem_append, List.mem_cons] at hc ⊢
  rcases hc with h | h | h | h
  · exact .inl h
  · exact .inr (.inl h)
  · exact .inr (.inr (.inl (.inl h)))
  · exact .inr (.inr (.inl (.inr h)))
end Go.Proofs.Ytfdpoibmlggfbaa.HeadLines

/- Numbers read from digits. No program is named. -/
namespace Go.Proofs.Ytfdpoibmlggfbaa.LexNum
open LexPure Bytes
theorem numV_snoc (base : Nat) (l : List UInt8) (c : UInt8) : numV base (l ++ [c]) = base * numV base l + dig c := by
  simp [numV, List.foldl_append]
theorem numV_lt (base : Nat) (l : List UInt8) (h : l.all (fun c => decide (dig c < base)) = true) : numV base l < base ^ l.length := by
  have key : ∀ r : List UInt8, r.reverse.all (fun c => decide (dig c < base)) = true → numV base r.reverse < base ^ r.length := by
    intro r
    induction r with
    | nil => intro _; simp [numV]
    | cons c r ih =>
      intro h
      rw [List.reverse_cons, List.all_append, Bool.and_eq_true] at h
      have h1 := ih h.1
      have h2 : dig c < base := by simpa using h.2
      rw [List.reverse_cons, numV_snoc, List.length_cons, Nat.pow_succ]
      have h3 : base * (numV base r.reverse + 1) ≤ base * base ^ r.length := Nat.mul_le_mul_left _ h1
      rw [Nat.mul_add, Nat.mul_one, Nat.mul_comm base (base ^ r.length)] at h3
      omega
  have := key l.reverse (by rw [List.reverse_reverse]; exact h)
  rwa [List.reverse_reverse, List.length_reverse] at this
/-- the base and how many digits may be read in it -/
def Fit (base : Nat) (digits : Int) : Prop := (base = 10 ∧ digits ≤ 18) ∨ (base = 16 ∧ digits ≤ 15)
theorem Fit.bound {base : Nat} {digits : Int} (h : Fit base digits) {l : List UInt8} (hl : (l.length : Int) < digits) (ha : l.all (fun c => decide (dig c < base)) = true) : base * numV base l ≤ 1152921504606846976 ∧ base ≤ 16 := by
  have hv := numV_lt base l ha
  rcases h with ⟨rfl, hd⟩ | ⟨rfl, hd⟩
  · have : 10 ^ l.length ≤ 10 ^ 17 := Nat.pow_le_pow_right (by decide) (by omega)
    omega
  · have : 16 ^ l.length ≤ 16 ^ 14 := Nat.pow_le_pow_right (by decide) (by omega)
    omega
/-- where a byte lies among the digits -/
theorem dig_at (b : UInt8) : ((b.toNat : Int) < 48 ∧ dig b = 99) ∨ (48 ≤ (b.toNat : Int) ∧ (b.toNat : Int) ≤ 57 ∧ (dig b : Int) = (b.toNat : Int) - 48) ∨ (57 < (b.toNat : Int) ∧ (b.toNat : Int) < 65 ∧ dig b = 99) ∨
    (65 ≤ (b.toNat : Int) ∧ (b.toNat : Int) ≤ 70 ∧ (dig b : Int) = (b.toNat : Int) - 55) ∨ (70 < (b.toNat : Int) ∧ (b.toNat : Int) < 97 ∧ dig b = 99) ∨ (97 ≤ (b.toNat : Int) ∧ (b.toNat : Int) ≤ 102 ∧ (dig b : Int) = (b.toNat : Int) - 87) ∨ (102 < (b.toNat : Int) ∧ dig b = 99) := by
  have := all_bytes (p := fun b => decide (((b.toNat : Int) < 48 ∧ dig b = 99) ∨ (48 ≤ (b.toNat : Int) ∧ (b.toNat : Int) ≤ 57 ∧ (dig b : Int) = (b.toNat : Int) - 48) ∨ (57 < (b.toNat : Int) ∧ (b.toNat : Int) < 65 ∧ dig b = 99) ∨
    (65 ≤ (b.toNat : Int) ∧ (b.toNat : Int) ≤ 70 ∧ (dig b : Int) = (b.toNat : Int) - 55) ∨ (70 < (b.toNat : Int) ∧ (b.toNat : Int) < 97 ∧ dig b = 99) ∨ (97 ≤ (b.toNat : Int) ∧ (b.toNat : Int) ≤ 102 ∧ (dig b : Int) = (b.toNat : Int) - 87) ∨ (102 < (b.toNat : Int) ∧ dig b = 99))) (by decide +kernel) b
  exact of_decide_eq_true this
theorem dig_le (b : UInt8) : dig b ≤ 99 := by
  have := dig_at b
  omega
end Go.Proofs.Ytfdpoibmlggfbaa.LexNum

/- Layer 9: how a body is framed, over lists of fields. No program is named. -/
namespace Go.Proofs.Ytfdpoibmlggfbaa.FramePure
open Bytes LexPure LexNum FieldsPure
set_option maxRecDepth 20000
def CLEN : List UInt8 := [99, 111, 110, 116, 101, 110, 116, 45, 108, 101, 110, 103, 116, 104]
def TENC : List UInt8 := [116, 114, 97, 110, 115, 102, 101, 114, 45, 101, 110, 99, 111, 100, 105, 110, 103]
def CHUNKED : List UInt8 := [99, 104, 117, 110, 107, 101, 100]
def CLOSE : List UInt8 := [99, 108, 111, 115, 101]
def KEEPA : List UInt8 := [107, 101, 101, 112, 45, 97, 108, 105, 118, 101]
/-- the lengths: the pieces between commas of the values of the length's fields, empty ones too -/
def lens (G : List HField) : List (List UInt8) := (G.filter (hit CLEN)).flatMap (fun f => (pieces f.2).map trim)
/-- one more length: what is told so far (-1: none yet), and the new one; none: they aren't right -/
def lenStep (n : Int) (p : List UInt8) : Option Int := if numOk 10 15 p = true ∧ (n < 0 ∨ numR 10 15 p = n) then some (numR 10 15 p) else none
def lenFrom : Int → List (List UInt8) → Int
  | n, [] => n
  | n, p :: l => match lenStep n p with
    | none => -1
    | some m => lenFrom m l
def lenN (G : List HField) : Int := lenFrom (-1) (lens G)
theorem numR_pos (base : Nat) (d : Int) (p : List UInt8) : 0 ≤ numR base d p := by
  unfold numR
  split
  · omega
  · exact Int.le_refl 0
/-- where a number is told, each length is right and is that number -/
theorem len_all : ∀ (l : List (List UInt8)) (n : Int), 0 ≤ lenFrom n l → (∀ p ∈ l, numOk 10 15 p = true ∧ numR 10 15 p = lenFrom n l) ∧ (0 ≤ n → lenFrom n l = n)
  | [], n, _ => ⟨fun p hp => (by cases hp), fun _ => rfl⟩
  | p :: l, n, h => by
    unfold lenFrom at h ⊢
    unfold lenStep at h ⊢
    by_cases hc : numOk 10 15 p = true ∧ (n < 0 ∨ numR 10 15 p = n)
    · rw [if_pos hc] at h ⊢
      simp only at h ⊢
      obtain ⟨h1, h2⟩ := len_all l _ h
      have h3 := h2 (numR_pos 10 15 p)
      refine ⟨fun q hq => ?_, fun hn => ?_⟩
      · rcases List.mem_cons.1 hq with rfl | hq
        · exact ⟨hc.1, h3.symm⟩
        · exact h1 q hq
      · rw [h3]
        rcases hc.2 with h | h
        · omega
        · exact h
    · rw [if_neg hc] at h
      simp at h
theorem len_least : ∀ (l : List (List UInt8)) (n : Int), -1 ≤ n → -1 ≤ lenFrom n l
  | [], n, h => h
  | p :: l, n, h => by
    unfold lenFrom lenStep
    by_cases hc : numOk 10 15 p = true ∧ (n < 0 ∨ numR 10 15 p = n)
    · rw [if_pos hc]
      exact len_least l _ (by have := numR_pos 10 15 p; omega)
    · rw [if_neg hc]
      exact Int.le_refl _
/-- 1: just chunked; 2: others, then chunked once; 3: anything else -/
def codeN (l : List (List UInt8)) : Nat :=
  match l.reverse with
  | [] => 3
  | x :: r => if lower x = CHUNKED ∧ r.all (fun y => !(lower y == CHUNKED)) = true then (if r = [] then 1 else 2) else 3
def request9 (minor : Int) (G : List HField) (most : Int) : Int × Int × Int :=
  if 0 < getN G TENC then
    (if minor = 0 ∨ 0 < getN G CLEN ∨ codeN (elems G TENC) = 3 then (0, 0, 90)
     else if codeN (elems G TENC) = 2 then (0, 0, 91) else (3, 0, 0))
  else if getN G CLEN = 0 then (1, 0, 0)
  else if lenN G < 0 then (0, 0, 90)
  else if most < lenN G then (0, 0, 101) else (2, lenN G, 0)
def response9 (method : List UInt8) (status minor : Int) (G : List HField) : Int × Int × Int :=
  if status = 101 then (5, 0, 0)
  else if (100 ≤ status ∧ status < 200) ∨ status = 204 ∨ status = 304 then (1, 0, 0)
  else if method = [67, 79, 78, 78, 69, 67, 84] ∧ 200 ≤ status ∧ status < 300 then (5, 0, 0)
  else if method = [72, 69, 65, 68] then (1, 0, 0)
  else if 0 < getN G TENC then
    (if minor = 0 ∨ 0 < getN G CLEN then (0, 0, 90) else if codeN (elems G TENC) = 1 then (3, 0, 0) else (0, 0, 91))
  else if getN G CLEN = 0 then (4, 0, 0)
  else if lenN G < 0 then (0, 0, 90) else (2, lenN G, 0)
def keep9 (minor : Int) (G : List HField) : Bool := !hasE G CONNECTION CLOSE && (minor != 0 || hasE G CONNECTION KEEPA)
theorem code_one (l : List (List UInt8)) : codeN l = 1 ↔ ∃ x, l = [x] ∧ lower x = CHUNKED := by
  unfold codeN
  constructor
  · intro h
    cases hr : l.reverse with
    | nil => rw [hr] at h; simp at h
    | cons x r =>
      rw [hr] at h
      simp only at h
      split at h
      · rename_i hc
        split at h
        · rename_i h0
          subst h0
          exact ⟨x, by rw [← List.reverse_reverse l, hr]; rfl, hc.1⟩
        · cases h
      · cases h
  · rintro ⟨x, rfl, hx⟩
    simp [hx]
theorem code_three (l : List (List UInt8)) : codeN l = 1 ∨ codeN l = 2 ∨ codeN l = 3 := by
  unfold codeN
  split
  · exact .inr (.inr rfl)
  · split
    · split
      · exact .inl rfl
      · exact .inr (.inl rfl)
    · exact .inr (.inr rfl)
theorem elements_sub {v p : List UInt8} (h : p ∈ elements v) : p ∈ (pieces v).map trim := by
  unfold elements at h
  exact (List.mem_filter.1 h).1
theorem lens_cons (f : HField) (G : List HField) : lens (f :: G) = if hit CLEN f then (pieces f.2).map trim ++ lens G else lens G := by
  unfold lens
  rw [List.filter_cons]
  split
  · rw [List.flatMap_cons]
  · rfl
theorem lens_mem {G : List HField} {f : HField} {p : List UInt8} (hf : f ∈ G) (hh : hit CLEN f = true) (hp : p ∈ (pieces f.2).map trim) : p ∈ lens G :=
  List.mem_flatMap.2 ⟨f, List.mem_filter.2 ⟨hf, hh⟩, hp⟩
/-! ### small letters -/
def lowF (f : HField) : HField := (lower f.1, lower f.2)
theorem hit_low (n : List UInt8) (f : HField) : hit n (lowF f) = hit n f := by unfold hit lowF; exact alike_lower_left _ _
theorem getN_low (G : List HField) (n : List UInt8) : getN (G.map lowF) n = getN G n := by
  unfold getN
  rw [List.countP_map]
  congr 1
  funext f
  exact hit_low n f
theorem filter_low (G : List HField) (n : List UInt8) : (G.map lowF).filter (hit n) = (G.filter (hit n)).map lowF := by
  rw [List.filter_map]
  congr 2
  funext f
  exact hit_low n f
theorem pieces_low : ∀ s : List UInt8, pieces (lower s) = (pieces s).map lower
  | [] => rfl
  | c :: s => by
    unfold lower
    rw [List.map_cons]
    have ih := pieces_low s
    unfold lower at ih
    unfold pieces
    rw [small_comma, ih]
    by_cases h : (c == 44) = true
    · rw [if_pos h, if_pos h]
      rfl
    · rw [if_neg h, if_neg h]
      cases pieces s with
      | nil => rfl
      | cons p ps => rfl
theorem drop_low (s : List UInt8) : (s.map small).dropWhile blankB = (s.dropWhile blankB).map small := by
  induction s with
  | nil => rfl
  | cons c s ih =>
    rw [List.map_cons, List.dropWhile_cons, List.dropWhile_cons, small_blank]
    split
    · exact ih
    · rfl
theorem trim_low (s : List UInt8) : trim (lower s) = lower (trim s) := by
  unfold trim lower
  rw [drop_low, ← List.map_reverse, drop_low, ← List.map_reverse]
theorem elements_low (s : List UInt8) : elements (lower s) = (elements s).map lower := by
  unfold elements
  rw [pieces_low, List.map_map, List.filter_map, List.filter_map, List.map_map]
  have e : trim ∘ lower = lower ∘ trim := by funext x; exact trim_low x
  have e2 : ((fun e : List UInt8 => !e.isEmpty) ∘ trim ∘ lower) = ((fun e : List UInt8 => !e.isEmpty) ∘ trim) := by
    rw [e]
    funext x
    show (!(lower (trim x)).isEmpty) = !(trim x).isEmpty
    unfold lower
    rw [List.isEmpty_map]
  rw [e2, e]
theorem elems_low (G : List HField) (n : List UInt8) : elems (G.map lowF) n = (elems G n).map lower := by
  unfold elems
  rw [filter_low, List.flatMap_map, List.map_flatMap]
  congr 1
  funext f
  exact elements_low f.2
theorem dig_small (c : UInt8) : decide (dig (small c) < 10) = decide (dig c < 10) ∧ (dig c < 10 → dig (small c) = dig c) := by
  have := all_bytes (p := fun c => decide (decide (dig (small c) < 10) = decide (dig c < 10) ∧ (dig c < 10 → dig (small c) = dig c))) (by decide +kernel) c
  exact of_decide_eq_true this
theorem ok_low (d : Int) (p : List UInt8) : numOk 10 d (lower p) = numOk 10 d p := by
  unfold numOk lower
  rw [List.all_map, List.length_map]
  congr 1
  · cases p <;> rfl
  · congr 1
    funext c
    exact (dig_small c).1
theorem fold_low : ∀ (p : List UInt8) (n : Nat), p.all (fun c => decide (dig c < 10)) = true → (p.map small).foldl (fun n c => 10 * n + dig c) n = p.foldl (fun n c => 10 * n + dig c) n
  | [], n, _ => rfl
  | c :: p, n, h => by
    rw [List.all_cons, Bool.and_eq_true] at h
    rw [List.map_cons, List.foldl_cons, List.foldl_cons, (dig_small c).2 (of_decide_eq_true h.1)]
    exact fold_low p _ h.2
theorem num_low (d : Int) (p : List UInt8) : numR 10 d (lower p) = numR 10 d p := by
  unfold numR
  rw [ok_low]
  by_cases h : numOk 10 d p = true
  · rw [if_pos h, if_pos h]
    unfold numOk at h
    simp only [Bool.and_eq_true] at h
    unfold numV lower
    rw [fold_low p 0 h.2]
  · rw [if_neg h, if_neg h]
theorem lenFrom_low : ∀ (l : List (List UInt8)) (n : Int), lenFrom n (l.map lower) = lenFrom n l
  | [], n => rfl
  | p :: l, n => by
    rw [List.map_cons]
    unfold lenFrom lenStep
    rw [ok_low, num_low]
    by_cases hc : numOk 10 15 p = true ∧ (n < 0 ∨ numR 10 15 p = n)
    · rw [if_pos hc]
      exact lenFrom_low l _
    · rw [if_neg hc]
theorem lens_low (G : List HField) : lens (G.map lowF) = (lens G).map lower := by
  unfold lens
  rw [filter_low, List.flatMap_map, List.map_flatMap]
  congr 1
  funext f
  show (pieces (lower f.2)).map trim = ((pieces f.2).map trim).map lower
  rw [pieces_low, List.map_map, List.map_map]
  congr 1
  funext x
  exact trim_low x
theorem len_low (G : List HField) : lenN (G.map lowF) = lenN G := by
  unfold lenN
  rw [lens_low, lenFrom_low]
theorem code_low (l : List (List UInt8)) : codeN (l.map lower) = codeN l := by
  unfold codeN
  rw [← List.map_reverse]
  cases l.reverse with
  | nil => rfl
  | cons x r =>
    simp only [List.map_cons, lower_lower, List.all_map, Function.comp_def]
    cases r <;> rfl
theorem has_low (G : List HField) (n e : List UInt8) : hasE (G.map lowF) n e = hasE G n e := by
  unfold hasE
  rw [elems_low, List.any_map]
  congr 1
  funext x
  exact alike_lower_left _ _
theorem request_low (minor : Int) (G : List HField) (most : Int) : request9 minor (G.map lowF) most = request9 minor G most := by
  unfold request9
  rw [getN_low, getN_low, elems_low, code_low, len_low]
theorem response_low (m : List UInt8) (status minor : Int) (G : List HField) : response9 m status minor (G.map lowF) = response9 m status minor G := by
  unfold response9
  rw [getN_low, getN_low, elems_low, code_low, len_low]
theorem keep_low (minor : Int) (G : List HField) : keep9 minor (G.map lowF) = keep9 minor G := by
  unfold keep9
  rw [has_low, has_low]
end Go.Proofs.Ytfdpoibmlggfbaa.FramePure

/- A text's elements. No program is named. -/
namespace Go.Proofs.Ytfdpoibmlggfbaa.LexList
open LexPure Bytes
def noComma (p : List UInt8) : Bool := p.all (fun c => c != 44)
theorem pieces_ne (s : List UInt8) : pieces s ≠ [] := by
  cases s with
  | nil => simp [pieces]
  | cons c s =>
    unfold pieces
    split
    · simp
    · split <;> simp
theorem pieces_plain : ∀ {p : List UInt8}, noComma p = true → pieces p = [p]
  | [], _ => rfl
  | c :: p, h => by
    unfold noComma at h
    rw [List.all_cons, Bool.and_eq_true] at h
    unfold pieces
    rw [if_neg (by simpa using h.1), pieces_plain (p := p) h.2]
theorem pieces_cut : ∀ {p : List UInt8} {r : List UInt8}, noComma p = true → pieces (p ++ 44 :: r) = p :: pieces r
  | [], r, _ => by
    show pieces (44 :: r) = _
    unfold pieces
    rw [if_pos (by decide)]
    cases r <;> rfl
  | c :: p, r, h => by
    unfold noComma at h
    rw [List.all_cons, Bool.and_eq_true] at h
    show pieces (c :: (p ++ 44 :: r)) = _
    rw [pieces, if_neg (by simpa using h.1), pieces_cut (p := p) (r := r) h.2]
/-- one piece's element -/
def one (p : List UInt8) : List (List UInt8) := if (trim p).isEmpty then [] else [trim p]
theorem elements_plain {p : List UInt8} (h : noComma p = true) : elements p = one p := by
  unfold elements one
  rw [pieces_plain h]
  cases ht : (trim p).isEmpty <;> simp [ht]
theorem elements_cut {p r : List UInt8} (h : noComma p = true) : elements (p ++ 44 :: r) = one p ++ elements r := by
  unfold elements one
  rw [pieces_cut h]
  cases ht : (trim p).isEmpty <;> simp [ht]
theorem one_length (p : List UInt8) : (one p).length ≤ 1 := by
  unfold one
  split <;> simp
theorem noComma_snoc {p : List UInt8} {c : UInt8} (h : noComma p = true) (hc : (c == 44) = false) : noComma (p ++ [c]) = true := by
  unfold noComma at *
  rw [List.all_append, h]
  simp only [List.all_cons, List.all_nil, Bool.and_true, Bool.true_and]
  simpa [bne] using hc
/-- elements are trimmed and not empty -/
theorem elements_mem {s e : List UInt8} (h : e ∈ elements s) : e.isEmpty = false ∧ trim e = e := by
  unfold elements at h
  rw [List.mem_filter, List.mem_map] at h
  obtain ⟨⟨p, _, rfl⟩, h2⟩ := h
  exact ⟨by simpa using h2, trim_trim p⟩
theorem trim_noComma {p : List UInt8} (h : noComma p = true) : noComma (trim p) = true := by
  unfold noComma at *
  rw [List.all_eq_true] at *
  intro c hc
  refine h c ?_
  unfold trim at hc
  rw [List.mem_reverse] at hc
  have h1 := (List.dropWhile_suffix (l := (p.dropWhile blankB).reverse) blankB).subset hc
  rw [List.mem_reverse] at h1
  exact (List.dropWhile_suffix (l := p) blankB).subset h1
theorem pieces_noComma : ∀ {s p : List UInt8}, p ∈ pieces s → noComma p = true
  | [], p, h => by
    simp only [pieces, List.mem_singleton] at h
    subst h
    rfl
  | c :: s, p, h => by
    rw [pieces] at h
    by_cases hc : (c == 44) = true
    · rw [if_pos hc, List.mem_cons] at h
      rcases h with rfl | h
      · rfl
      · exact pieces_noComma h
    · rw [if_neg hc] at h
      have hc' : (c == 44) = false := by simpa using hc
      split at h
      · rename_i hp
        exact absurd hp (pieces_ne s)
      · rename_i q qs hp
        rw [List.mem_cons] at h
        rcases h with rfl | h
        · have := pieces_noComma (s := s) (p := q) (by rw [hp]; simp)
          unfold noComma at *
          rw [List.all_cons, this]
          simp [bne, hc']
        · exact pieces_noComma (s := s) (p := p) (by rw [hp]; simp [h])
theorem elements_noComma {s e : List UInt8} (h : e ∈ elements s) : noComma e = true := by
  unfold elements at h
  rw [List.mem_filter, List.mem_map] at h
  obtain ⟨⟨p, hp, rfl⟩, _⟩ := h
  exact trim_noComma (pieces_noComma hp)
end Go.Proofs.Ytfdpoibmlggfbaa.LexList

/- A number's digits. No program is named. -/
namespace Go.Proofs.Ytfdpoibmlggfbaa.DecN
open Bytes LexPure LexList LexNum FieldsPure HeadPure FramePure
set_option maxRecDepth 20000
def decB (n : Nat) : UInt8 := UInt8.ofNat (48 + n)
def decN (n : Nat) : List UInt8 := if _h : n < 10 then [decB n] else decN (n / 10) ++ [decB (n % 10)]
termination_by n
decreasing_by omega
theorem decN_small {n : Nat} (h : n < 10) : decN n = [decB n] := by
  conv => lhs; unfold decN
  rw [dif_pos h]
theorem decN_more {n : Nat} (h : ¬ n < 10) : decN n = decN (n / 10) ++ [decB (n % 10)] := by
  conv => lhs; unfold decN
  rw [dif_neg h]
theorem decB_say : ∀ n, n < 10 → dig (decB n) = n ∧ (48 ≤ (decB n).toNat ∧ (decB n).toNat ≤ 57) := by
  have : ∀ n : Fin 10, dig (decB n.1) = n.1 ∧ (48 ≤ (decB n.1).toNat ∧ (decB n.1).toNat ≤ 57) := by decide +kernel
  intro n hn
  exact this ⟨n, hn⟩
theorem decN_ne (n : Nat) : decN n ≠ [] := by
  by_cases h : n < 10
  · rw [decN_small h]; simp
  · rw [decN_more h]; simp
theorem decN_val (n : Nat) : numV 10 (decN n) = n := by
  induction n using Nat.strongRecOn with
  | ind n ih =>
    by_cases h : n < 10
    · rw [decN_small h]
      have := (decB_say n h).1
      simp [numV, this]
    · rw [decN_more h, numV_snoc, ih (n / 10) (by omega), (decB_say (n % 10) (by omega)).1]
      omega
theorem decN_all (n : Nat) : ∀ c ∈ decN n, dig c < 10 ∧ 48 ≤ c.toNat ∧ c.toNat ≤ 57 := by
  induction n using Nat.strongRecOn with
  | ind n ih =>
    intro c hc
    by_cases h : n < 10
    · rw [decN_small h, List.mem_singleton] at hc
      subst hc
      obtain ⟨h1, h2⟩ := decB_say n h
      exact ⟨by omega, h2⟩
    · rw [decN_more h, List.mem_append, List.mem_singleton] at hc
      rcases hc with hc | rfl
      · exact ih (n / 10) (by omega) c hc
      · obtain ⟨h1, h2⟩ := decB_say (n % 10) (by omega)
        exact ⟨by omega, h2⟩
theorem decN_len (k : Nat) : ∀ n, n < 10 ^ (k + 1) → (decN n).length ≤ k + 1 := by
  induction k with
  | zero =>
    intro n h
    rw [decN_small (by omega)]
    exact Nat.le_refl _
  | succ k ih =>
    intro n h
    by_cases h2 : n < 10
    · rw [decN_small h2]
      simp
    · rw [decN_more h2, List.length_append, List.length_singleton]
      have := ih (n / 10) (by rw [Nat.pow_succ] at h; omega)
      omega
theorem dec_byte (c : UInt8) (h : 48 ≤ c.toNat ∧ c.toNat ≤ 57) : plainB c = true ∧ blankB c = false ∧ (c != 44) = true := by
  have := all_bytes (p := fun c => !(decide (48 ≤ c.toNat) && decide (c.toNat ≤ 57)) || (plainB c && !blankB c && (c != 44))) (by decide +kernel) c
  simp only [h.1, h.2, decide_true, Bool.and_true, Bool.not_true, Bool.false_or, Bool.and_eq_true, Bool.not_eq_true'] at this
  obtain ⟨⟨h1, h2⟩, h3⟩ := this
  exact ⟨h1, h2, h3⟩
theorem dec_trim (n : Nat) : trim (decN n) = decN n := trim_id
  (fun c r e => (dec_byte c (decN_all n c (by rw [e]; exact List.mem_cons_self)).2).2.1)
  (fun c r e => (dec_byte c (decN_all n c (by rw [← List.mem_reverse, e]; exact List.mem_cons_self)).2).2.1)
theorem dec_value (n : Nat) : value (decN n) = true := by
  unfold value
  have hp : (decN n).all plainB = true := List.all_eq_true.2 (fun c hc => (dec_byte c (decN_all n c hc).2).1)
  rw [hp, Bool.true_and]
  cases h : decN n with
  | nil => exact absurd h (decN_ne n)
  | cons c r =>
    have h1 := (dec_byte c (decN_all n c (by rw [h]; exact List.mem_cons_self)).2).2.1
    have hl : (c :: r).getLastD 0 ∈ c :: r := by
      rw [List.getLastD_eq_getLast?, List.getLast?_eq_some_getLast (List.cons_ne_nil c r)]
      exact List.getLast_mem _
    have h2 := (dec_byte _ (decN_all n ((c :: r).getLastD 0) (by rw [h]; exact hl)).2).2.1
    rw [List.headD_cons, h1, h2]
    rfl
theorem dec_pieces (n : Nat) : pieces (decN n) = [decN n] := pieces_plain (List.all_eq_true.2 (fun c hc => (dec_byte c (decN_all n c hc).2).2.2))
theorem dec_num {n : Nat} (h : n < 1000000000000000) : numOk 10 15 (decN n) = true ∧ numR 10 15 (decN n) = n := by
  have hok : numOk 10 15 (decN n) = true := by
    unfold numOk
    have h1 : (decN n).isEmpty = false := by
      cases q : decN n with
      | nil => exact absurd q (decN_ne n)
      | cons => rfl
    have h2 := decN_len 14 n h
    have h3 : (decN n).all (fun c => decide (dig c < 10)) = true := List.all_eq_true.2 (fun c hc => decide_eq_true (decN_all n c hc).1)
    rw [h1, h3, decide_eq_true (by omega)]
    rfl
  refine ⟨hok, ?_⟩
  unfold numR
  rw [if_pos hok, decN_val]
theorem decN_three {n : Nat} (h1 : 100 ≤ n) (h2 : n < 1000) : decN n = [decB (n / 100), decB (n / 10 % 10), decB (n % 10)] := by
  rw [decN_more (by omega), decN_more (by omega), decN_small (by omega), Nat.div_div_eq_div_mul]
  rfl
end Go.Proofs.Ytfdpoibmlggfbaa.DecN

/- Layer 13: what is written of a request and of a head, and that a head written so is read again, line by line. No program is named. -/
namespace Go.Proofs.Ytfdpoibmlggfbaa.EmitPure
open Bytes LexPure FieldsPure HeadPure HeadWrit HeadLines DecN
set_option maxRecDepth 20000
/-! ### what is written -/
/-- a whole number's digits -/
def decZ (n : Int) : List UInt8 := if n < 0 then 45 :: decN n.natAbs else decN n.natAbs
/-- the phrases -/
def phrases : List (Int × List UInt8) := [(101, [83, 119, 105, 116, 99, 104, 105, 110, 103, 32, 80, 114, 111, 116, 111, 99, 111, 108, 115]),
  (200, [79, 75]),
  (204, [78, 111, 32, 67, 111, 110, 116, 101, 110, 116]),
  (301, [77, 111, 118, 101, 100, 32, 80, 101, 114, 109, 97, 110, 101, 110, 116, 108, 121]),
  (302, [70, 111, 117, 110, 100]),
  (307, [84, 101, 109, 112, 111, 114, 97, 114, 121, 32, 82, 101, 100, 105, 114, 101, 99, 116]),
  (308, [80, 101, 114, 109, 97, 110, 101, 110, 116, 32, 82, 101, 100, 105, 114, 101, 99, 116]),
  (400, [66, 97, 100, 32, 82, 101, 113, 117, 101, 115, 116]),
  (401, [85, 110, 97, 117, 116, 104, 111, 114, 105, 122, 101, 100]),
  (403, [70, 111, 114, 98, 105, 100, 100, 101, 110]),
  (404, [78, 111, 116, 32, 70, 111, 117, 110, 100]),
  (408, [82, 101, 113, 117, 101, 115, 116, 32, 84, 105, 109, 101, 111, 117, 116]),
  (413, [67, 111, 110, 116, 101, 110, 116, 32, 84, 111, 111, 32, 76, 97, 114, 103, 101]),
  (414, [85, 82, 73, 32, 84, 111, 111, 32, 76, 111, 110, 103]),
  (417, [69, 120, 112, 101, 99, 116, 97, 116, 105, 111, 110, 32, 70, 97, 105, 108, 101, 100]),
  (429, [84, 111, 111, 32, 77, 97, 110, 121, 32, 82, 101, 113, 117, 101, 115, 116, 115]),
  (431, [82, 101, 113, 117, 101, 115, 116, 32, 72, 101, 97, 100, 101, 114, 32, 70, 105, 101, 108, 100, 115, 32, 84, 111, 111, 32, 76, 97, 114, 103, 101]),
  (500, [73, 110, 116, 101, 114, 110, 97, 108, 32, 83, 101, 114, 118, 101, 114, 32, 69, 114, 114, 111, 114]),
  (501, [78, 111, 116, 32, 73, 109, 112, 108, 101, 109, 101, 110, 116, 101, 100]),
  (502, [66, 97, 100, 32, 71, 97, 116, 101, 119, 97, 121]),
  (503, [83, 101, 114, 118, 105, 99, 101, 32, 85, 110, 97, 118, 97, 105, 108, 97, 98, 108, 101]),
  (504, [71, 97, 116, 101, 119, 97, 121, 32, 84, 105, 109, 101, 111, 117, 116]),
  (505, [72, 84, 84, 80, 32, 86, 101, 114, 115, 105, 111, 110, 32, 78, 111, 116, 32, 83, 117, 112, 112, 111, 114, 116, 101, 100])]
def reasonL (s : Int) : List UInt8 := ((phrases.find? (fun p => p.1 == s)).map (·.2)).getD [83, 116, 97, 116, 117, 115]
def HOSTN : List UInt8 := [72, 111, 115, 116]
def EXPN : List UInt8 := [101, 120, 112, 101, 99, 116]
def XFFN : List UInt8 := [88, 45, 70, 111, 114, 119, 97, 114, 100, 101, 100, 45, 70, 111, 114]
def VIAN : List UInt8 := [86, 105, 97]
def CLN : List UInt8 := [67, 111, 110, 116, 101, 110, 116, 45, 76, 101, 110, 103, 116, 104]
def TEN : List UInt8 := [84, 114, 97, 110, 115, 102, 101, 114, 45, 69, 110, 99, 111, 100, 105, 110, 103]
def CONN : List UInt8 := [67, 111, 110, 110, 101, 99, 116, 105, 111, 110]
def UPN : List UInt8 := [85, 112, 103, 114, 97, 100, 101]
def BARB : List UInt8 := [49, 46, 49, 32, 98, 97, 114, 98, 105, 99, 97, 110]
def UPV : List UInt8 := [117, 112, 103, 114, 97, 100, 101]
def CLOSEV : List UInt8 := [99, 108, 111, 115, 101]
def CHV : List UInt8 := [99, 104, 117, 110, 107, 101, 100]
/-- a field's line with its end -/
def lineE (f : HField) : List UInt8 := f.1 ++ 58 :: 32 :: (f.2 ++ [13, 10])
/-- is a name left out -/
def skipE (req : Bool) (n : List UInt8) : Bool := alike n CLN || alike n VIAN || (req && (alike n HOSTN || alike n EXPN || alike n XFFN))
/-- what is told on -/
def onE (req : Bool) (l : List HField) : List HField := (strip l).filter (fun f => !skipE req f.1)
/-- joined with s -/
def joinV (l : List HField) (n s : List UInt8) : List UInt8 := (l.filter (hit n)).flatMap (fun f => f.2 ++ [44, 32]) ++ s
structure AskP where
  method : List UInt8
  target : List UInt8
  host : List UInt8
  port : Int
  fields : List HField
  body : List UInt8
  sized : Bool
  from_ : List UInt8
  up : List UInt8
structure ReplyP where
  status : Int
  reason : List UInt8
  fields : List HField
  framing : Int
  length : Int
  keep : Bool
  up : List UInt8
def hostE (a : AskP) : List UInt8 := a.host ++ (if 0 < a.port then 58 :: decZ a.port else [])
def askF (a : AskP) : List HField :=
  (HOSTN, hostE a) :: (onE true a.fields ++ ((XFFN, joinV a.fields XFFN a.from_) :: (VIAN, joinV a.fields VIAN BARB) ::
    ((if a.sized then [(CLN, decZ a.body.length)] else []) ++ (if a.up = [] then [] else [(CONN, UPV), (UPN, a.up)]))))
def requestE (a : AskP) : List UInt8 := startL a.method a.target ++ 13 :: 10 :: ((askF a).flatMap lineE ++ 13 :: 10 :: a.body)
def replyF (r : ReplyP) : List HField :=
  onE false r.fields ++ ((VIAN, joinV r.fields VIAN BARB) ::
    ((if r.framing = 2 then [(CLN, decZ r.length)] else []) ++ ((if r.framing = 3 then [(TEN, CHV)] else []) ++
      (if r.up = [] then (if r.keep then [] else [(CONN, CLOSEV)]) else [(CONN, UPV), (UPN, r.up)]))))
def statusL (n : Int) (x : List UInt8) : List UInt8 := [72, 84, 84, 80, 47, 49, 46, 49, 32] ++ (decZ n ++ 32 :: x)
def headE (r : ReplyP) : List UInt8 := statusL r.status (if r.reason = [] then reasonL r.status else r.reason) ++ 13 :: 10 :: ((replyF r).flatMap lineE ++ [13, 10])
def localE (status : Int) (l : List HField) (body : List UInt8) (keep bodiless : Bool) : List UInt8 :=
  headE ⟨status, [], l, 2, body.length, keep, []⟩ ++ (if bodiless then [] else body)
/-! ### what is read of it -/
theorem trim_blank (x : List UInt8) : trim (32 :: x) = trim x := by
  unfold trim
  rw [List.dropWhile_cons_of_pos (by decide)]
theorem field_back {n x : List UInt8} (ht : token n = true) (hv : value (trim x) = true) : field8 (n ++ 58 :: 32 :: x) = ((n, trim x), 0) := by
  have hm : ∀ c ∈ n, markB c = true := by
    unfold token at ht
    rw [Bool.and_eq_true] at ht
    exact List.all_eq_true.1 ht.1
  have e1 : nameB (n ++ 58 :: 32 :: x) = n := take_until (fun c hc => by
    have := ((mark_not c).1 (hm c hc)).1
    simpa using this) (by decide)
  have e2 : (n ++ 58 :: 32 :: x).drop (n.length + 1) = 32 :: x := by
    rw [← List.drop_drop, List.drop_left]
    rfl
  unfold field8
  rw [e1, e2, trim_blank, if_pos ⟨by simp, ht, hv⟩]
/-- a field that can be written and read -/
structure Fair (f : HField) : Prop where
  name : token f.1 = true
  value : LexPure.value (trim f.2) = true
  bare : bare f.2
  len : f.1.length + f.2.length ≤ 510
theorem Fair.line {f : HField} (h : Fair f) : HeadLines.bare (f.1 ++ 58 :: 32 :: f.2) := by
  intro c hc
  obtain ⟨hmm, _⟩ := token_marks h.name
  simp only [List.mem_append, List.mem_cons] at hc
  rcases hc with q | rfl | rfl | q
  · exact ⟨((mark_not c).1 (hmm c q)).2.1, ((mark_not c).1 (hmm c q)).2.2.1⟩
  · decide
  · decide
  · exact h.bare c q
/-- as it is read -/
def told (f : HField) : HField := (f.1, trim f.2)
theorem lines_back (h : H8) (s : List UInt8) : ∀ (G : List HField) (m : Nat) (acc : List HField) (a : Nat), G.length ≤ m → (∀ f ∈ G, Fair f) →
    fields8 h m acc a (G.flatMap lineE ++ 13 :: 10 :: s) = .done { h with fields := acc ++ G.map told } (a + (G.flatMap lineE).length + 2)
  | [], m, acc, a, _, _ => by
    rw [List.flatMap_nil, List.nil_append, fields_end]
    simp
  | f :: G, m, acc, a, hm, hG => by
    rw [List.length_cons] at hm
    obtain ⟨k, rfl⟩ : ∃ k, m = k + 1 := ⟨m - 1, by omega⟩
    have hf := hG f List.mem_cons_self
    have e : (f :: G).flatMap lineE ++ 13 :: 10 :: s = (f.1 ++ 58 :: 32 :: f.2) ++ 13 :: 10 :: (G.flatMap lineE ++ 13 :: 10 :: s) := by
      rw [List.flatMap_cons, lineE]
      simp
    have el : ((f :: G).flatMap lineE).length = (f.1 ++ 58 :: 32 :: f.2).length + 2 + (G.flatMap lineE).length := by
      rw [List.flatMap_cons, lineE]
      simp only [List.length_append, List.length_cons, List.length_nil]
      omega
    have hl := hf.len
    rw [e, fields_line h k acc a hf.line (by simp; omega) (by simp; omega), field_back hf.name hf.value, if_pos rfl,
      lines_back h s G k _ _ (by omega) (fun g hg => hG g (List.mem_cons_of_mem _ hg)), el]
    congr 1
    · simp [told]
    · omega
/-- a request's head that is written is read -/
theorem request_back {m t : List UInt8} (hm : token m = true) (hml : m.length ≤ 16) (ht : t.all seenB = true) (ht0 : 0 < t.length) (htl : t.length ≤ 1024) {G : List HField} (hG : G.length ≤ 32) (hf : ∀ f ∈ G, Fair f) (s : List UInt8) :
    read8 false (startL m t ++ 13 :: 10 :: (G.flatMap lineE ++ 13 :: 10 :: s)) = .done ⟨m, t, 0, [], 1, G.map told⟩ ((startL m t).length + 2 + (G.flatMap lineE).length + 2) := by
  rw [read_start hm hml ht ht0 htl, lines_back _ s G 32 [] _ hG hf, List.nil_append]
/-- a status line -/
theorem status_back {n : Nat} (h1 : 100 ≤ n) (h2 : n < 600) {x : List UInt8} (hx : x.all plainB = true) : status8 (statusL n x) = (⟨[], [], n, x, 1, []⟩, 0) := by
  have hd : decZ n = [decB (n / 100), decB (n / 10 % 10), decB (n % 10)] := by
    unfold decZ
    rw [if_neg (by omega), Int.natAbs_natCast, decN_three h1 (by omega)]
  have e : statusL n x = [72, 84, 84, 80, 47, 49, 46, 49, 32, decB (n / 100), decB (n / 10 % 10), decB (n % 10), 32] ++ x := by
    unfold statusL
    rw [hd]
    rfl
  have hnum := dec_num (n := n) (by omega)
  have hr : numOk 10 3 [decB (n / 100), decB (n / 10 % 10), decB (n % 10)] = true ∧ numR 10 3 [decB (n / 100), decB (n / 10 % 10), decB (n % 10)] = n := by
    rw [← decN_three h1 (by omega)]
    have hv := decN_val n
    have hl : (decN n).length = 3 := by rw [decN_three h1 (by omega)]; rfl
    have hok : numOk 10 3 (decN n) = true := by
      have := hnum.1
      unfold numOk at this ⊢
      rw [Bool.and_eq_true] at this ⊢
      refine ⟨?_, this.2⟩
      simp [hl, decN_ne]
    refine ⟨hok, ?_⟩
    unfold numR
    rw [if_pos hok, hv]
  rw [e]
  unfold status8
  simp only [List.cons_append, List.nil_append, List.length_cons, List.drop_succ_cons, List.drop_zero, List.take_succ_cons, List.take_zero, List.getElem?_cons_succ, List.getElem?_cons_zero]
  rw [hr.1, hr.2]
  rw [if_pos ⟨by omega, by simp, by simp, by omega, by omega, by simp, hx⟩]
  rfl
end Go.Proofs.Ytfdpoibmlggfbaa.EmitPure

/- Paths: escapes, pieces, the normal form. No program is named. -/
namespace Go.Proofs.Ytfdpoibmlggfbaa.PathPure
open LexPure Bytes

/-- a plain byte -/
def plainP (n : Nat) : Bool := n == 45 || n == 46 || n == 95 || n == 126 || (decide (48 ≤ n) && decide (n ≤ 57)) || (decide (65 ≤ n) && decide (n ≤ 90)) || (decide (97 ≤ n) && decide (n ≤ 122))
/-- a byte that a path may have, but for the sign of an escape -/
def okc (c : UInt8) : Bool := decide (33 ≤ c.toNat) && decide (c.toNat ≤ 126) && c != 63 && c != 35
/-- a large digit -/
def hx (n : Nat) : UInt8 := UInt8.ofNat (if n < 10 then 48 + n else 55 + n)
/-- how a byte that was escaped is written -/
def wr (n : Nat) : List UInt8 := if plainP n then [UInt8.ofNat n] else [37, hx (n / 16), hx (n % 16)]
def two (a b : UInt8) : Nat := 16 * dig a + dig b
def isHex (c : UInt8) : Bool := decide (dig c < 16)
/-- plain escapes undone, the others in large digits -/
def esc : List UInt8 → Option (List UInt8)
  | [] => some []
  | c :: s => if okc c then
      if c == 37 then match s with
        | a :: b :: r => if isHex a && isHex b then (esc r).map (wr (two a b) ++ ·) else none
        | _ => none
      else (esc s).map (c :: ·)
    else none
def escapes : List UInt8 → Option (List UInt8)
  | [] => none
  | c :: s => if c == 47 then esc (c :: s) else none
/-- the pieces between slashes -/
def cuts : List UInt8 → List (List UInt8)
  | [] => [[]]
  | c :: s => if c == 47 then [] :: cuts s else match cuts s with
    | [] => [[c]]
    | p :: ps => (c :: p) :: ps
def isDot (p : List UInt8) : Bool := p.isEmpty || p == [46]
def isUp (p : List UInt8) : Bool := p == [46, 46]
/-- the pieces that are kept -/
def keeps : List (List UInt8) → List (List UInt8) → Option (List (List UInt8))
  | kept, [] => some kept
  | kept, p :: ps => if isDot p then keeps kept ps else if isUp p then (if kept.isEmpty then none else keeps kept.dropLast ps) else keeps (kept ++ [p]) ps
def join (kept : List (List UInt8)) : List UInt8 := kept.flatMap (fun p => 47 :: p)
def endsOpen (ps : List (List UInt8)) : Bool := isDot (ps.getLastD []) || isUp (ps.getLastD [])
def finish (kept : List (List UInt8)) (ps : List (List UInt8)) : List UInt8 := if kept.isEmpty || endsOpen ps then join kept ++ [47] else join kept
def normal (s : List UInt8) : Option (List UInt8) :=
  match escapes s with
  | none => none
  | some t => match keeps [] (cuts t.tail) with
    | none => none
    | some kept => some (finish kept (cuts t.tail))
/-- escapes undone -/
def dec : List UInt8 → Option (List UInt8)
  | [] => some []
  | c :: s => if c == 37 then match s with
      | a :: b :: r => if isHex a && isHex b then (dec r).map (UInt8.ofNat (two a b) :: ·) else none
      | _ => none
    else (dec s).map (c :: ·)
def under (p q : List UInt8) : Bool := p.take q.length == q && (p.length == q.length || p[q.length]? == some 47 || q.getLast? == some 47)

theorem esc_cons (c : UInt8) (s : List UInt8) : esc (c :: s) = if okc c then
      if c == 37 then (match s with
        | a :: b :: r => if isHex a && isHex b then (esc r).map (wr (two a b) ++ ·) else none
        | _ => none)
      else (esc s).map (c :: ·)
    else none := by rw [esc.eq_def]
theorem dec_cons (c : UInt8) (s : List UInt8) : dec (c :: s) = if c == 37 then (match s with
      | a :: b :: r => if isHex a && isHex b then (dec r).map (UInt8.ofNat (two a b) :: ·) else none
      | _ => none)
    else (dec s).map (c :: ·) := by rw [dec.eq_def]
theorem cuts_cons (c : UInt8) (s : List UInt8) : cuts (c :: s) = if c == 47 then [] :: cuts s else (match cuts s with
    | [] => [[c]]
    | p :: ps => (c :: p) :: ps) := by rw [cuts.eq_def]
/-! ### what is escaped once -/
/-- a text in which every byte that need not be escaped isn't -/
inductive Enc : List UInt8 → Prop
  | nil : Enc []
  | one (c : UInt8) (r : List UInt8) : okc c = true → (c == 37) = false → Enc r → Enc (c :: r)
  | tri (n : Nat) (r : List UInt8) : n < 256 → plainP n = false → Enc r → Enc (37 :: hx (n / 16) :: hx (n % 16) :: r)
theorem all_below {p : Nat → Bool} (h : (List.range 256).all p = true) {n : Nat} (hn : n < 256) : p n = true := List.all_eq_true.1 h n (List.mem_range.2 hn)
theorem two_lt {a b : UInt8} (ha : isHex a = true) (hb : isHex b = true) : two a b < 256 := by
  unfold isHex at ha hb
  simp only [decide_eq_true_eq] at ha hb
  unfold two
  omega
theorem hx_dig {n : Nat} (h : n < 256) : isHex (hx (n / 16)) = true ∧ isHex (hx (n % 16)) = true ∧ two (hx (n / 16)) (hx (n % 16)) = n := by
  have := all_below (p := fun n => isHex (hx (n / 16)) && isHex (hx (n % 16)) && two (hx (n / 16)) (hx (n % 16)) == n) (by decide +kernel) h
  simpa [and_assoc] using this
theorem hx_okc {n : Nat} (h : n < 256) : okc (hx (n / 16)) = true ∧ okc (hx (n % 16)) = true ∧ (hx (n / 16) == 37) = false ∧ (hx (n % 16) == 37) = false ∧ (hx (n / 16) == 47) = false ∧ (hx (n % 16) == 47) = false := by
  have := all_below (p := fun n => okc (hx (n / 16)) && okc (hx (n % 16)) && !(hx (n / 16) == 37) && !(hx (n % 16) == 37) && !(hx (n / 16) == 47) && !(hx (n % 16) == 47)) (by decide +kernel) h
  simp only [Bool.and_eq_true, Bool.not_eq_true'] at this
  exact ⟨this.1.1.1.1.1, this.1.1.1.1.2, this.1.1.1.2, this.1.1.2, this.1.2, this.2⟩
theorem plain_okc {n : Nat} (h : n < 256) (hp : plainP n = true) : okc (UInt8.ofNat n) = true ∧ (UInt8.ofNat n == 37) = false ∧ (UInt8.ofNat n == 47) = false := by
  have := all_below (p := fun n => !plainP n || (okc (UInt8.ofNat n) && !(UInt8.ofNat n == 37) && !(UInt8.ofNat n == 47))) (by decide +kernel) h
  rw [hp] at this
  simp only [Bool.not_true, Bool.false_or, Bool.and_eq_true, Bool.not_eq_true'] at this
  exact ⟨this.1.1, this.1.2, this.2⟩
theorem enc_wr {n : Nat} (h : n < 256) {r : List UInt8} (hr : Enc r) : Enc (wr n ++ r) := by
  unfold wr
  by_cases hp : plainP n = true
  · rw [if_pos hp]
    have := plain_okc h hp
    exact Enc.one _ _ this.1 this.2.1 hr
  · rw [if_neg hp]
    exact Enc.tri n r h (by simpa using hp) hr
/-- what comes out of escapes is escaped once -/
theorem esc_enc : ∀ (n : Nat) {s t : List UInt8}, s.length ≤ n → esc s = some t → Enc t
  | _, [], t, _, h => by
    simp only [esc, Option.some.injEq] at h
    subst h
    exact Enc.nil
  | 0, c :: s, t, hn, _ => by simp at hn
  | n + 1, c :: s, t, hn, h => by
    rw [esc_cons] at h
    split at h
    · rename_i hc
      split at h
      · split at h
        · rename_i a b r
          split at h
          · rename_i hab
            rw [Bool.and_eq_true] at hab
            obtain ⟨u, hu, rfl⟩ := Option.map_eq_some_iff.1 h
            exact enc_wr (two_lt hab.1 hab.2) (esc_enc n (by simp at hn; omega) hu)
          · cases h
        · cases h
      · rename_i h37
        obtain ⟨u, hu, rfl⟩ := Option.map_eq_some_iff.1 h
        exact Enc.one _ _ hc (by simpa using h37) (esc_enc n (by simp at hn; omega) hu)
    · cases h
theorem enc_esc {t : List UInt8} (h : Enc t) : esc t = some t := by
  induction h with
  | nil => rfl
  | one c r hc h37 _ ih => rw [esc_cons, if_pos hc, if_neg (by simp [h37]), ih]; rfl
  | tri n r hn hp _ ih =>
    have hd := hx_dig hn
    have h37 : okc 37 = true := by decide
    rw [esc_cons, if_pos h37, if_pos (by decide)]
    simp only [hd.1, hd.2.1, Bool.and_self, if_true, hd.2.2, ih]
    unfold wr
    rw [hp]
    rfl
theorem esc_append : ∀ (n : Nat) {s t : List UInt8} (r : List UInt8), s.length ≤ n → esc s = some t → esc (s ++ r) = (esc r).map (t ++ ·)
  | _, [], t, r, _, h => by
    simp only [esc, Option.some.injEq] at h
    subst h
    simp
  | 0, c :: s, t, r, hn, _ => by simp at hn
  | n + 1, c :: s, t, r, hn, h => by
    rw [esc_cons] at h
    split at h
    · rename_i hc
      split at h
      · rename_i h37
        split at h
        · rename_i a b q
          split at h
          · rename_i hab
            obtain ⟨u, hu, rfl⟩ := Option.map_eq_some_iff.1 h
            have ih := esc_append n r (s := q) (by simp at hn; omega) hu
            show esc (c :: a :: b :: (q ++ r)) = _
            rw [esc_cons, if_pos hc, if_pos h37]
            simp only [hab, if_true, ih, Option.map_map]
            congr 1
            funext x
            simp
          · cases h
        · cases h
      · rename_i h37
        obtain ⟨u, hu, rfl⟩ := Option.map_eq_some_iff.1 h
        have ih := esc_append n r (s := s) (by simp at hn; omega) hu
        show esc (c :: (s ++ r)) = _
        rw [esc_cons, if_pos hc, if_neg h37, ih, Option.map_map]
        congr 1
    · cases h
theorem enc_append {s t : List UInt8} (hs : Enc s) (ht : Enc t) : Enc (s ++ t) := by
  induction hs with
  | nil => exact ht
  | one c r hc h37 _ ih => exact Enc.one c _ hc h37 ih
  | tri n r hn hp _ ih => exact Enc.tri n _ hn hp ih

/-! ### pieces -/
theorem cuts_ne (s : List UInt8) : cuts s ≠ [] := by
  cases s with
  | nil => simp [cuts]
  | cons c s =>
    rw [cuts_cons]
    split
    · simp
    · split <;> simp
def noSlash (p : List UInt8) : Bool := p.all (fun c => c != 47)
theorem cuts_plain : ∀ {p : List UInt8}, noSlash p = true → cuts p = [p]
  | [], _ => rfl
  | c :: p, h => by
    unfold noSlash at h
    rw [List.all_cons, Bool.and_eq_true] at h
    rw [cuts_cons, if_neg (by simpa using h.1), cuts_plain (p := p) h.2]
theorem cuts_cut : ∀ {p : List UInt8} {r : List UInt8}, noSlash p = true → cuts (p ++ 47 :: r) = p :: cuts r
  | [], r, _ => by
    show cuts (47 :: r) = _
    rw [cuts_cons, if_pos (by decide)]
  | c :: p, r, h => by
    unfold noSlash at h
    rw [List.all_cons, Bool.and_eq_true] at h
    show cuts (c :: (p ++ 47 :: r)) = _
    rw [cuts_cons, if_neg (by simpa using h.1), cuts_cut (p := p) (r := r) h.2]
/-- what stands ahead doesn't hang on what stands behind a slash -/
theorem cuts_append : ∀ (s r : List UInt8), cuts (s ++ 47 :: r) = cuts s ++ cuts r
  | [], r => by
    show cuts (47 :: r) = _
    rw [cuts_cons, if_pos (by decide)]
    rfl
  | c :: s, r => by
    have ih := cuts_append s r
    show cuts (c :: (s ++ 47 :: r)) = cuts (c :: s) ++ cuts r
    rw [cuts_cons, cuts_cons]
    split
    · rw [ih]; rfl
    · rw [ih]
      cases h : cuts s with
      | nil => exact absurd h (cuts_ne s)
      | cons p ps => rfl
theorem cuts_noSlash : ∀ {s p : List UInt8}, p ∈ cuts s → noSlash p = true
  | [], p, h => by
    simp only [cuts, List.mem_singleton] at h
    subst h
    rfl
  | c :: s, p, h => by
    rw [cuts_cons] at h
    by_cases hc : (c == 47) = true
    · rw [if_pos hc, List.mem_cons] at h
      rcases h with rfl | h
      · rfl
      · exact cuts_noSlash h
    · rw [if_neg hc] at h
      have hc' : (c == 47) = false := by simpa using hc
      split at h
      · rename_i hp
        exact absurd hp (cuts_ne s)
      · rename_i q qs hp
        rw [List.mem_cons] at h
        rcases h with rfl | h
        · have := cuts_noSlash (s := s) (p := q) (by rw [hp]; simp)
          unfold noSlash at *
          rw [List.all_cons, this]
          simp [bne, hc']
        · exact cuts_noSlash (s := s) (p := p) (by rw [hp]; simp [h])
theorem cuts_enc {t : List UInt8} (h : Enc t) : ∀ p ∈ cuts t, Enc p := by
  induction h with
  | nil =>
    intro p hp
    simp only [cuts, List.mem_singleton] at hp
    subst hp
    exact Enc.nil
  | one c r hc h37 _ ih =>
    intro p hp
    rw [cuts_cons] at hp
    split at hp
    · rw [List.mem_cons] at hp
      rcases hp with rfl | hp
      · exact Enc.nil
      · exact ih p hp
    · split at hp
      · rename_i hq
        exact absurd hq (cuts_ne r)
      · rename_i q qs hq
        rw [List.mem_cons] at hp
        rcases hp with rfl | hp
        · exact Enc.one c q hc h37 (ih q (by rw [hq]; simp))
        · exact ih p (by rw [hq]; simp [hp])
  | tri n r hn hp _ ih =>
    intro p hm
    have hk := hx_okc hn
    obtain ⟨q, qs, hq⟩ : ∃ q qs, cuts r = q :: qs := by
      cases h : cuts r with
      | nil => exact absurd h (cuts_ne r)
      | cons q qs => exact ⟨q, qs, rfl⟩
    have e : cuts (37 :: hx (n / 16) :: hx (n % 16) :: r) = (37 :: hx (n / 16) :: hx (n % 16) :: q) :: qs := by
      rw [cuts_cons, if_neg (by decide), cuts_cons, if_neg (by simp [hk.2.2.2.2.1]), cuts_cons, if_neg (by simp [hk.2.2.2.2.2]), hq]
    rw [e, List.mem_cons] at hm
    rcases hm with rfl | hm
    · exact Enc.tri n q hn hp (ih q (by rw [hq]; simp))
    · exact ih p (by rw [hq]; simp [hm])
end Go.Proofs.Ytfdpoibmlggfbaa.PathPure

/- A text cut at its first byte of a kind: ahead of it, behind it. No program is named. -/
namespace Go.Proofs.Ytfdpoibmlggfbaa.CutAt
open Bytes
def aheadOf (x : UInt8) (s : List UInt8) : List UInt8 := s.takeWhile (fun c => c != x)
def behind (x : UInt8) (s : List UInt8) : List UInt8 := (s.dropWhile (fun c => c != x)).tail
def hasB (x : UInt8) (s : List UInt8) : Bool := s.any (fun c => c == x)
theorem index_tail (x : UInt8) (c : UInt8) (l : List UInt8) (h : (c == x) = false) : Go.Lib.index (c :: l) [x] = if Go.Lib.index l [x] == -1 then -1 else Go.Lib.index l [x] + 1 := by
  have hp : ([x] : List UInt8).isPrefixOf (c :: l) = false := by
    have : ¬ x = c := fun e => by rw [← e, beq_self_eq_true] at h; cases h
    simp [List.isPrefixOf, this]
  rw [Go.Lib.index, hp]
  rfl
theorem cut_say (x : UInt8) (s : List UInt8) : (Go.Lib.cut s [x]).1 = aheadOf x s ∧ (Go.Lib.cut s [x]).2.1 = behind x s ∧ (Go.Lib.cut s [x]).2.2 = hasB x s := by
  unfold aheadOf behind hasB Go.Lib.cut
  induction s with
  | nil =>
    have : Go.Lib.index [] [x] = -1 := by simp [Go.Lib.index]
    rw [this]
    exact ⟨rfl, rfl, rfl⟩
  | cons c l ih =>
    by_cases hc : c = x
    · subst hc
      have hix : Go.Lib.index (c :: l) [c] = 0 := by rw [Go.Lib.index]; simp [List.isPrefixOf]
      rw [hix]
      simp
    · have hq : (c == x) = false := by simpa using hc
      have hn : (c != x) = true := by simp [hc]
      rw [index_tail x c l hq, List.takeWhile_cons, hn, List.dropWhile_cons, hn, List.any_cons, hq]
      have hge := Go.Lib.index_ge l [x]
      by_cases hm : Go.Lib.index l [x] = -1
      · rw [hm] at ih ⊢
        simp at ih ⊢
        exact ⟨ih.1, ih.2⟩
      · obtain ⟨i, hi⟩ : ∃ i : Nat, Go.Lib.index l [x] = i := ⟨(Go.Lib.index l [x]).toNat, by omega⟩
        rw [hi] at ih ⊢
        have h1 : ((i : Int) == -1) = false := beq_eq_false_iff_ne.2 (by omega)
        have h3 : ((i : Int) + 1).toNat = i + 1 := by omega
        have h4 : (0 : Int) ≤ (i : Int) + 1 := by omega
        have h5 : (0 : Int) ≤ (i : Int) := by omega
        simp only [h1, h3, h4, h5, if_true, Bool.false_eq_true, if_false, Bool.false_or] at ih ⊢
        rw [show i + 1 + ([x] : List UInt8).length = (i + [x].length) + 1 from rfl, List.take_succ_cons, List.drop_succ_cons]
        exact ⟨by rw [← ih.1]; simp, ih.2.1, ih.2.2⟩
end Go.Proofs.Ytfdpoibmlggfbaa.CutAt

/- Layer 6: a host, an authority, over lists of bytes. No program is named. -/
namespace Go.Proofs.Ytfdpoibmlggfbaa.HostPure
open LexPure Bytes LexNum CutAt
def alnum (c : UInt8) : Bool := (decide (48 ≤ c.toNat) && decide (c.toNat ≤ 57)) || (decide (65 ≤ c.toNat) && decide (c.toNat ≤ 90)) || (decide (97 ≤ c.toNat) && decide (c.toNat ≤ 122))
def hostC (c : UInt8) : Bool := alnum c || c == 45 || c == 46
/-- two dots side by side -/
def dotted : List UInt8 → Bool
  | a :: b :: s => (a == 46 && b == 46) || dotted (b :: s)
  | _ => false
def host (s : List UInt8) : Bool := !s.isEmpty && decide (s.length ≤ 64) && !dotted s && s.all hostC && alnum (s.headD 0) && alnum (s.getLastD 0)
def portOk (d : List UInt8) : Bool := numOk 10 5 d && decide (1 ≤ numR 10 5 d) && decide (numR 10 5 d ≤ 65535)
def authO (s : List UInt8) : Option (List UInt8 × Int) :=
  if host (aheadOf 58 s) then
    if hasB 58 s then (if portOk (behind 58 s) then some (lower (aheadOf 58 s), numR 10 5 (behind 58 s)) else none)
    else some (lower (aheadOf 58 s), 0)
  else none
def authH (s : List UInt8) : List UInt8 := match authO s with | some (h, _) => h | none => []
def authP (s : List UInt8) : Int := match authO s with | some (_, p) => p | none => 0
def authE (s : List UInt8) : Int := if (authO s).isSome then 0 else 61

/-! ### bytes -/
theorem small_alnum (b : UInt8) : alnum (small b) = alnum b := by
  have := all_bytes (p := fun b => alnum (small b) == alnum b) (by decide +kernel) b
  simpa using this
theorem small_hostC (b : UInt8) : hostC (small b) = hostC b := by
  have := all_bytes (p := fun b => hostC (small b) == hostC b) (by decide +kernel) b
  simpa using this
theorem small_46 (b : UInt8) : (small b == 46) = (b == 46) := by
  have := all_bytes (p := fun b => (small b == 46) == (b == 46)) (by decide +kernel) b
  simpa using this
theorem small_58 (b : UInt8) : (small b == 58) = (b == 58) := by
  have := all_bytes (p := fun b => (small b == 58) == (b == 58)) (by decide +kernel) b
  simpa using this
theorem small_58n (b : UInt8) : (small b != 58) = (b != 58) := by unfold bne; rw [small_58]
theorem small_dig (b : UInt8) : dig (small b) = dig b := by
  have := all_bytes (p := fun b => dig (small b) == dig b) (by decide +kernel) b
  simpa using this
theorem hostC_58 (b : UInt8) (h : hostC b = true) : (b != 58) = true := by
  have := all_bytes (p := fun b => !hostC b || (b != 58)) (by decide +kernel) b
  rw [h] at this
  simpa using this

/-! ### small letters -/
theorem dotted_lower : ∀ s : List UInt8, dotted (lower s) = dotted s
  | [] => rfl
  | [_] => rfl
  | a :: b :: s => by
    have ih := dotted_lower (b :: s)
    unfold lower at ih ⊢
    rw [List.map_cons] at ih
    rw [List.map_cons, List.map_cons, dotted, dotted, ih, small_46, small_46]
theorem headD_lower (s : List UInt8) : alnum ((lower s).headD 0) = alnum (s.headD 0) := by
  cases s with
  | nil => rfl
  | cons c s => exact small_alnum c
theorem getLastD_lower (s : List UInt8) : alnum ((lower s).getLastD 0) = alnum (s.getLastD 0) := by
  unfold lower
  rw [List.getLastD_eq_getLast?, List.getLastD_eq_getLast?, List.getLast?_map]
  cases s.getLast? with
  | none => rfl
  | some c => exact small_alnum c
theorem host_lower (s : List UInt8) : host (lower s) = host s := by
  unfold host
  rw [dotted_lower, headD_lower, getLastD_lower, lower_length]
  have h1 : (lower s).isEmpty = s.isEmpty := by cases s <;> rfl
  have h2 : (lower s).all hostC = s.all hostC := by
    unfold lower
    rw [List.all_map]
    congr 1
    funext c
    exact small_hostC c
  rw [h1, h2]
theorem ahead_lower (s : List UInt8) : aheadOf 58 (lower s) = lower (aheadOf 58 s) := by
  unfold aheadOf lower
  rw [List.takeWhile_map]
  congr 2
  funext c
  exact small_58n c
theorem behind_lower (s : List UInt8) : behind 58 (lower s) = lower (behind 58 s) := by
  unfold behind lower
  rw [List.dropWhile_map, List.map_tail]
  congr 3
  funext c
  exact small_58n c
theorem has_lower (s : List UInt8) : hasB 58 (lower s) = hasB 58 s := by
  unfold hasB lower
  rw [List.any_map]
  congr 1
  funext c
  exact small_58 c
theorem numV_lower (b : Nat) (s : List UInt8) : numV b (lower s) = numV b s := by
  unfold numV lower
  rw [List.foldl_map]
  congr 1
  funext n c
  rw [small_dig]
theorem numOk_lower (b : Nat) (d : Int) (s : List UInt8) : numOk b d (lower s) = numOk b d s := by
  unfold numOk
  rw [lower_length]
  have h1 : (lower s).isEmpty = s.isEmpty := by cases s <;> rfl
  have h2 : (lower s).all (fun c => decide (dig c < b)) = s.all (fun c => decide (dig c < b)) := by
    unfold lower
    rw [List.all_map]
    congr 1
    funext c
    simp only [Function.comp_apply, small_dig]
  rw [h1, h2]
theorem numR_lower (b : Nat) (d : Int) (s : List UInt8) : numR b d (lower s) = numR b d s := by
  unfold numR
  rw [numOk_lower, numV_lower]
theorem portOk_lower (s : List UInt8) : portOk (lower s) = portOk s := by
  unfold portOk
  rw [numOk_lower, numR_lower]
/-- the case of letters doesn't matter -/
theorem authO_lower (s : List UInt8) : authO (lower s) = authO s := by
  unfold authO
  rw [ahead_lower, has_lower, behind_lower, host_lower, portOk_lower, numR_lower, lower_lower]

/-! ### what is told is an authority that means itself -/
theorem ahead_all {s : List UInt8} (h : s.all (fun c => c != 58) = true) (r : List UInt8) : aheadOf 58 (s ++ 58 :: r) = s ∧ behind 58 (s ++ 58 :: r) = r ∧ hasB 58 (s ++ 58 :: r) = true := by
  have h' : ∀ a ∈ s, (a != 58) = true := List.all_eq_true.1 h
  refine ⟨?_, ?_, ?_⟩
  · unfold aheadOf
    rw [List.takeWhile_append_of_pos h', List.takeWhile_cons]
    simp
  · unfold behind
    rw [List.dropWhile_append_of_pos h', List.dropWhile_cons]
    simp
  · unfold hasB
    simp
theorem ahead_self {s : List UInt8} (h : s.all (fun c => c != 58) = true) : aheadOf 58 s = s ∧ hasB 58 s = false := by
  have h' : ∀ a ∈ s, (a != 58) = true := List.all_eq_true.1 h
  refine ⟨?_, ?_⟩
  · have := List.takeWhile_append_of_pos (l₂ := []) h'
    rw [List.append_nil] at this
    unfold aheadOf
    rw [this]
    simp
  · unfold hasB
    rw [List.any_eq_false]
    intro a ha
    simpa using h' a ha
theorem host_no58 {s : List UInt8} (h : host s = true) : s.all (fun c => c != 58) = true := by
  unfold host at h
  simp only [Bool.and_eq_true] at h
  rw [List.all_eq_true]
  exact fun c hc => hostC_58 c (List.all_eq_true.1 h.1.1.2 c hc)
theorem authO_some {s h : List UInt8} {p : Int} (e : authO s = some (h, p)) : host h = true ∧ lower h = h ∧ 0 ≤ p ∧ p ≤ 65535 := by
  unfold authO at e
  split at e
  · rename_i hh
    split at e
    · split at e
      · rename_i hp
        unfold portOk at hp
        simp only [Bool.and_eq_true, decide_eq_true_eq] at hp
        injection e with e
        injection e with e1 e2
        subst e1; subst e2
        exact ⟨by rw [host_lower]; exact hh, lower_lower _, by omega, hp.2⟩
      · cases e
    · injection e with e
      injection e with e1 e2
      subst e1; subst e2
      exact ⟨by rw [host_lower]; exact hh, lower_lower _, by decide, by decide⟩
  · cases e
theorem authO_host {h : List UInt8} (hh : host h = true) (hl : lower h = h) : authO h = some (h, 0) := by
  obtain ⟨h1, h2⟩ := ahead_self (host_no58 hh)
  unfold authO
  rw [h1, h2, hh, hl]
  rfl
theorem authO_port {h : List UInt8} (hh : host h = true) (hl : lower h = h) : authO (h ++ [58, 48, 48, 48, 56, 48]) = some (h, 80) := by
  obtain ⟨h1, h2, h3⟩ := ahead_all (host_no58 hh) [48, 48, 48, 56, 48]
  unfold authO
  rw [h1, h2, h3, hh, hl]
  rfl
theorem auth_none {s : List UInt8} (h : authO s = none) : authH s = [] ∧ authP s = 0 ∧ authE s = 61 := by
  unfold authH authP authE; rw [h]; exact ⟨rfl, rfl, rfl⟩
theorem auth_some {s h : List UInt8} {p : Int} (e : authO s = some (h, p)) : authH s = h ∧ authP s = p ∧ authE s = 0 := by
  unfold authH authP authE; rw [e]; exact ⟨rfl, rfl, rfl⟩
theorem host_len {s : List UInt8} (h : host s = true) : s.length ≤ 64 := by
  unfold host at h
  simp only [Bool.and_eq_true, decide_eq_true_eq] at h
  exact h.1.1.1.1.2
theorem host_ne {s : List UInt8} (h : host s = true) : s ≠ [] := by
  intro e
  subst e
  cases h
end Go.Proofs.Ytfdpoibmlggfbaa.HostPure

/- Layer 6: a host of small letters, byte by byte. No program is named. -/
namespace Go.Proofs.Ytfdpoibmlggfbaa.RHostPure
open LexPure Bytes HostPure
def ral (c : UInt8) : Bool := (decide (97 ≤ c.toNat) && decide (c.toNat ≤ 122)) || (decide (48 ≤ c.toNat) && decide (c.toNat ≤ 57))
def rhost (s : List UInt8) : Bool := !s.isEmpty && decide (s.length ≤ 64) && !dotted s && s.all (fun c => ral c || c == 45 || c == 46) && ral (s.headD 0) && ral (s.getLastD 0)
theorem ral_small (b : UInt8) : ral (small b) = alnum (small b) := by
  have := all_bytes (p := fun b => ral (small b) == alnum (small b)) (by decide +kernel) b
  simpa using this
theorem rhost_lower (s : List UInt8) : rhost (lower s) = host (lower s) := by
  unfold rhost host
  have h1 : (lower s).all (fun c => ral c || c == 45 || c == 46) = (lower s).all hostC := by
    unfold lower
    rw [List.all_map, List.all_map]
    congr 1
    funext c
    simp only [Function.comp_apply, hostC, ral_small]
  have h2 : ral ((lower s).headD 0) = alnum ((lower s).headD 0) := by
    cases s with
    | nil => rfl
    | cons c s => exact ral_small c
  have h3 : ral ((lower s).getLastD 0) = alnum ((lower s).getLastD 0) := by
    unfold lower
    rw [List.getLastD_eq_getLast?, List.getLast?_map]
    cases s.getLast? with
    | none => rfl
    | some c => exact ral_small c
  rw [h1, h2, h3]
/-- what is asked of the byte at j -/
def Good (s : List UInt8) (j : Nat) : Prop := ∃ c, s[j]? = some c ∧ (ral c = true ∨ (j ≠ 0 ∧ j + 1 ≠ s.length ∧ (c = 45 ∨ (c = 46 ∧ s[j - 1]? ≠ some 46))))
theorem dotted_at : ∀ (s : List UInt8) (i : Nat), s[i]? = some 46 → s[i + 1]? = some 46 → dotted s = true
  | [], _, h, _ => by simp at h
  | [_], i, _, h => by simp at h
  | a :: b :: s, 0, h1, h2 => by
    simp at h1 h2
    subst h1; subst h2
    rfl
  | a :: b :: s, i + 1, h1, h2 => by
    have := dotted_at (b :: s) i (by simpa using h1) (by simpa using h2)
    rw [dotted, this, Bool.or_true]
theorem dotted_ex : ∀ (s : List UInt8), dotted s = true → ∃ i : Nat, s[i]? = some 46 ∧ s[i + 1]? = some 46
  | [], h => by cases h
  | [_], h => by cases h
  | a :: b :: s, h => by
    rw [dotted, Bool.or_eq_true] at h
    rcases h with h | h
    · rw [Bool.and_eq_true, beq_iff_eq, beq_iff_eq] at h
      obtain ⟨rfl, rfl⟩ := h
      exact ⟨0, rfl, rfl⟩
    · obtain ⟨i, h1, h2⟩ := dotted_ex (b :: s) h
      exact ⟨i + 1, by simpa using h1, by simpa using h2⟩
theorem rhost_iff (s : List UInt8) : rhost s = true ↔ 1 ≤ s.length ∧ s.length ≤ 64 ∧ ∀ j, j < s.length → Good s j := by
  unfold rhost
  constructor
  · intro h
    simp only [Bool.and_eq_true, decide_eq_true_eq] at h
    obtain ⟨⟨⟨⟨⟨h1, h2⟩, h3⟩, h4⟩, h5⟩, h6⟩ := h
    have hne : 1 ≤ s.length := by
      cases s with
      | nil => cases h1
      | cons => simp
    refine ⟨hne, h2, fun j hj => ?_⟩
    have hg : s[j]? = some s[j] := List.getElem?_eq_getElem hj
    refine ⟨s[j], hg, ?_⟩
    by_cases hr : ral s[j] = true
    · exact .inl hr
    · right
      have h7 := List.all_eq_true.1 h4 s[j] (List.getElem_mem hj)
      refine ⟨fun e => hr ?_, fun e => hr ?_, ?_⟩
      · subst e
        rw [List.headD_eq_head?_getD, List.head?_eq_getElem?, hg] at h5
        exact h5
      · rw [List.getLastD_eq_getLast?, List.getLast?_eq_getElem?, show s.length - 1 = j by omega, hg] at h6
        exact h6
      · simp only [Bool.or_eq_true, beq_iff_eq] at h7
        rcases h7 with (h7 | h7) | h7
        · exact absurd h7 hr
        · exact .inl h7
        · refine .inr ⟨h7, fun e => ?_⟩
          cases j with
          | zero =>
            apply hr
            rw [List.headD_eq_head?_getD, List.head?_eq_getElem?, hg] at h5
            exact h5
          | succ i =>
            have := dotted_at s i (by simpa using e) (by rw [hg, h7])
            rw [this] at h3
            cases h3
  · rintro ⟨h1, h2, h3⟩
    have hne : s.isEmpty = false := by
      cases s with
      | nil => simp at h1
      | cons => rfl
    have hd : dotted s = false := by
      cases h : dotted s with
      | false => rfl
      | true =>
        obtain ⟨i, e1, e2⟩ := dotted_ex s h
        have hi := (List.getElem?_eq_some_iff.1 e2).1
        obtain ⟨c, hc, h4⟩ := h3 (i + 1) hi
        rw [e2] at hc
        obtain rfl := Option.some.inj hc
        rcases h4 with h4 | ⟨_, _, h4 | ⟨_, h4⟩⟩
        · exact absurd h4 (by decide)
        · exact absurd h4 (by decide)
        · exact absurd e1 h4
    have ha : s.all (fun c => ral c || c == 45 || c == 46) = true := by
      rw [List.all_eq_true]
      intro c hc
      obtain ⟨j, hj, rfl⟩ := List.mem_iff_getElem.1 hc
      obtain ⟨c, h4, h5⟩ := h3 j hj
      rw [List.getElem?_eq_getElem hj] at h4
      rw [Option.some.inj h4]
      rcases h5 with h5 | ⟨_, _, rfl | ⟨rfl, _⟩⟩
      · rw [h5]; rfl
      · decide
      · decide
    have hh : ral (s.headD 0) = true := by
      obtain ⟨c, h4, h5⟩ := h3 0 (by omega)
      rw [List.headD_eq_head?_getD, List.head?_eq_getElem?, h4]
      rcases h5 with h5 | ⟨h5, _⟩
      · exact h5
      · exact absurd rfl h5
    have hl : ral (s.getLastD 0) = true := by
      obtain ⟨c, h4, h5⟩ := h3 (s.length - 1) (by omega)
      rw [List.getLastD_eq_getLast?, List.getLast?_eq_getElem?, h4]
      rcases h5 with h5 | ⟨_, h5, _⟩
      · exact h5
      · exact absurd (by omega) h5
    rw [hne, hd, ha, hh, hl, decide_eq_true h2]
    rfl
theorem rhost_not {s : List UInt8} {j : Nat} (hj : j < s.length) (h : ¬ Good s j) : rhost s = false := by
  cases hr : rhost s with
  | false => rfl
  | true => exact absurd ((rhost_iff s).1 hr |>.2.2 j hj) h
end Go.Proofs.Ytfdpoibmlggfbaa.RHostPure

/- Layer 14: configs: what is right of them, words and numbers, a config's text and what is read of it. No program is named. -/
namespace Go.Proofs.Ytfdpoibmlggfbaa.ConfPure
open Bytes LexPure LexNum DecN HostPure PathPure RHostPure EmitPure
set_option maxRecDepth 20000
abbrev L := List UInt8
structure Filt where
  kind : Int
  name : L
  value : L
  n : Int
  m : Int
  k : Int
deriving DecidableEq
structure Clus where
  name : L
  policy : Int
  hosts : List L
  conns : Int
  pending : Int
  try_ : Int
  fails : Int
  eject : Int
  panic : Int
deriving DecidableEq
structure Rout where
  pre : Bool
  path : L
  method : L
  field : L
  value : L
  action : Int
  cluster : L
  status : Int
  text : L
  rewrite : L
  retries : Int
  timeout : Int
  upgrade : Bool
deriving DecidableEq
structure Vhos where
  domain : L
  routes : List Rout
deriving DecidableEq
structure Conf where
  conns : Int
  body : Int
  idle : Int
  grace : Int
  budget : Int
  seed : Int
  filters : List Filt
  clusters : List Clus
  vhosts : List Vhos
deriving DecidableEq
def zeroC : Conf := ⟨0, 0, 0, 0, 0, 0, [], [], []⟩
/-! ### what is right -/
def inB (n a b : Int) : Bool := decide (a ≤ n) && decide (n ≤ b)
def tokenB (s : L) (most : Nat) : Bool := token s && decide (s.length ≤ most)
def textB (s : L) : Bool := LexPure.value s && decide (s.length ≤ 256)
def owns : List L := [[104, 111, 115, 116], [99, 111, 110, 116, 101, 110, 116, 45, 108, 101, 110, 103, 116, 104], [101, 120, 112, 101, 99, 116], [120, 45, 102, 111, 114, 119, 97, 114, 100, 101, 100, 45, 102, 111, 114], [118, 105, 97], [99, 111, 110, 110, 101, 99, 116, 105, 111, 110],
  [107, 101, 101, 112, 45, 97, 108, 105, 118, 101], [112, 114, 111, 120, 121, 45, 99, 111, 110, 110, 101, 99, 116, 105, 111, 110], [116, 101], [116, 114, 97, 105, 108, 101, 114], [116, 114, 97, 110, 115, 102, 101, 114, 45, 101, 110, 99, 111, 100, 105, 110, 103], [117, 112, 103, 114, 97, 100, 101]]
def nameB (s : L) : Bool := !(owns.contains (lower s)) && tokenB s 32
def normalB (s : L) : Bool := PathPure.normal s == some s
def TOK : Int := 1073741824
def TICK : Int := 1048576
def filtB (f : Filt) : Bool :=
  if f.kind = 1 ∨ f.kind = 8 then f.n == 0 && f.m == 0 && f.k == 0 && nameB f.name && textB f.value
  else if f.kind = 2 then f.value == [] && f.n == 0 && f.m == 0 && f.k == 0 && nameB f.name
  else if f.kind = 3 then f.name == [] && f.value == [] && inB f.n 1 TOK && inB f.m 1 TOK && inB f.k 1 TOK
  else if f.kind = 4 then f.n == 0 && f.m == 0 && f.k == 0 && nameB f.name && textB f.value && f.value != []
  else if f.kind = 5 then f.name == [] && f.n == 0 && f.m == 0 && f.k == 0 && textB f.value && f.value != []
  else if f.kind = 6 then f.name == [] && f.value == [] && f.m == 0 && f.k == 0 && inB f.n 0 65536
  else if f.kind = 7 then f.name == [] && f.value == [] && f.k == 0 && inB f.n 0 100 && inB f.m 400 599
  else false
def hostB (s : L) : Bool := match authO s with
  | some (h, p) => decide (0 < p) && s == h ++ 58 :: decZ p
  | none => false
/-- every host right, none twice -/
def hostsB : List L → List L → Bool
  | _, [] => true
  | ahead, h :: hs => hostB h && !(ahead.contains h) && hostsB (ahead ++ [h]) hs
def clusB (c : Clus) : Bool :=
  inB c.policy 1 4 && inB c.hosts.length 1 16 && inB c.conns 1 64 && inB c.pending 0 256 && inB c.try_ 1 TICK && inB c.eject 1 TICK && inB c.fails 1 1000 && inB c.panic 0 100 && hostsB [] c.hosts
def STAR : L := [42]
def domainB (s : L) : Bool :=
  if s = STAR then true
  else if 2 < s.length ∧ s.take 2 = [42, 46] then rhost (s.drop 2) else rhost s
def CONNECT : L := [67, 79, 78, 78, 69, 67, 84]
def forwB (r : Rout) (cs : List Clus) : Bool :=
  cs.any (fun c => c.name == r.cluster) && r.status == 0 && r.text == [] && inB r.retries 0 5 && inB r.timeout 1 TICK &&
    (if r.method = CONNECT then r.rewrite == [] && r.retries == 0 && !r.upgrade else r.rewrite == [] || normalB r.rewrite)
def routB (r : Rout) (cs : List Clus) : Bool :=
  (normalB r.path || (r.path == [] && r.method == CONNECT)) && (r.method == [] || tokenB r.method 16) &&
  textB r.value && (r.field != [] || r.value == []) && (r.field == [] || tokenB r.field 32) &&
  (if r.action = 1 then forwB r cs
   else r.cluster == [] && r.rewrite == [] && r.retries == 0 && r.timeout == 0 && !r.upgrade && textB r.text &&
    (if r.action = 2 then r.text != [] && (r.status == 301 || r.status == 302 || r.status == 307 || r.status == 308)
     else !(r.method == CONNECT && decide (r.status < 300)) && r.action == 3 && inB r.status 200 599 && r.status != 204 && r.status != 304))
def boundsB (c : Conf) : Bool :=
  inB c.conns 1 256 && inB c.body 0 65536 && inB c.idle 1 TICK && inB c.grace 1 TICK && inB c.budget 0 256 && inB c.seed 0 1099511627776 &&
    decide (c.filters.length ≤ 32) && decide (c.clusters.length ≤ 32) && decide (c.vhosts.length ≤ 32)
/-- the clusters, one by one -/
def clusE : List Clus → List Clus → Int
  | _, [] => 0
  | ahead, c :: cs => if ahead.any (fun x => x.name == c.name) || !tokenB c.name 32 then 142 else if !clusB c then 143 else clusE (ahead ++ [c]) cs
def vhosE (cs : List Clus) : List Vhos → List Vhos → Int
  | _, [] => 0
  | ahead, v :: vs => if ahead.any (fun x => x.domain == v.domain) || !domainB v.domain then 142 else if !inB v.routes.length 1 32 || !v.routes.all (fun r => routB r cs) then 144 else vhosE cs (ahead ++ [v]) vs
def check14 (c : Conf) : Int :=
  if !boundsB c then 141
  else if !c.filters.all filtB then 145
  else if clusE [] c.clusters ≠ 0 then clusE [] c.clusters
  else vhosE c.clusters [] c.vhosts
/-! ### words and numbers -/
def wordC (c : UInt8) : L := if 32 < c.toNat ∧ c.toNat < 127 ∧ c ≠ 37 then [c] else [37, hx (c.toNat / 16), hx (c.toNat % 16)]
def word (s : L) : L := if s = [] then [45] else if s = [45] then [37, 50, 68] else s.flatMap wordC
def digU (c : UInt8) : Nat := if 48 ≤ c.toNat ∧ c.toNat ≤ 57 then c.toNat - 48 else if 65 ≤ c.toNat ∧ c.toNat ≤ 70 then c.toNat - 55 else 99
def rawU : L → Option L
  | [] => some []
  | c :: s => if c = 37 then (match s with
      | a :: b :: r => if digU a < 16 ∧ digU b < 16 then (rawU r).map (UInt8.ofNat (16 * digU a + digU b) :: ·) else none
      | _ => none)
    else (rawU s).map (c :: ·)
def unword (w : L) : Option L := if w = [45] then some [] else match rawU w with
  | none => none
  | some s => if w ≠ [] ∧ word s = w then some s else none
theorem wordC_raw (c : UInt8) (s : L) : rawU (wordC c ++ s) = (rawU s).map (c :: ·) := by
  unfold wordC
  by_cases h : 32 < c.toNat ∧ c.toNat < 127 ∧ c ≠ 37
  · rw [if_pos h, List.singleton_append]
    conv => lhs; unfold rawU
    rw [if_neg h.2.2]
  · rw [if_neg h]
    have hb := all_bytes (p := fun c => decide (digU (hx (c.toNat / 16)) < 16) && decide (digU (hx (c.toNat % 16)) < 16) && (UInt8.ofNat (16 * digU (hx (c.toNat / 16)) + digU (hx (c.toNat % 16))) == c)) (by decide +kernel) c
    simp only [Bool.and_eq_true, decide_eq_true_eq, beq_iff_eq] at hb
    show rawU (37 :: hx (c.toNat / 16) :: hx (c.toNat % 16) :: s) = _
    conv => lhs; unfold rawU
    rw [if_pos rfl]
    simp only
    rw [if_pos hb.1, hb.2]
theorem words_raw (s : L) : rawU (s.flatMap wordC) = some s := by
  induction s with
  | nil => rfl
  | cons c s ih => rw [List.flatMap_cons, wordC_raw, ih]; rfl
theorem wordC_ne (c : UInt8) : wordC c ≠ [] := by unfold wordC; split <;> simp
theorem word_raw (s : L) (h : s ≠ []) : rawU (word s) = some s := by
  unfold word
  rw [if_neg h]
  by_cases h2 : s = [45]
  · rw [if_pos h2, h2]; decide
  · rw [if_neg h2]; exact words_raw s
theorem word_ne (s : L) : word s ≠ [] := by
  unfold word
  split
  · simp
  split
  · simp
  · rename_i h _
    cases s with
    | nil => exact absurd rfl h
    | cons c s =>
      rw [List.flatMap_cons]
      intro e
      exact wordC_ne c (List.append_eq_nil_iff.1 e).1
theorem word_dash {s : L} (h : s ≠ []) : word s ≠ [45] := by
  intro e
  have := word_raw s h
  rw [e, show rawU [45] = some [45] from by decide] at this
  injection this with e2
  unfold word at e
  rw [if_neg h, if_pos e2.symm] at e
  exact absurd e (by decide)
theorem unword_word (s : L) : unword (word s) = some s := by
  unfold unword
  by_cases h : s = []
  · subst h; rfl
  · rw [if_neg (word_dash h), word_raw s h]
    simp only
    rw [if_pos ⟨word_ne s, trivial⟩]
/-- what stands in a word -/
def midB (c : UInt8) : Bool := decide (32 < c.toNat) && decide (c.toNat < 127)
theorem word_mid (s : L) : ∀ c ∈ word s, midB c = true := by
  unfold word
  split
  · decide
  split
  · decide
  · intro c hc
    rw [List.mem_flatMap] at hc
    obtain ⟨d, _, hd⟩ := hc
    have hb := all_bytes (p := fun d => (wordC d).all midB) (by decide +kernel) d
    exact List.all_eq_true.1 hb c hd
/-- a word that is itself -/
theorem word_self {s : L} (h : ∀ c ∈ s, 32 < c.toNat ∧ c.toNat < 127 ∧ c ≠ 37) (h0 : s ≠ []) (h1 : s ≠ [45]) : word s = s := by
  unfold word
  rw [if_neg h0, if_neg h1]
  clear h0 h1
  induction s with
  | nil => rfl
  | cons c s ih =>
    rw [List.flatMap_cons, ih (fun d hd => h d (List.mem_cons_of_mem _ hd))]
    unfold wordC
    rw [if_pos (h c List.mem_cons_self)]
    rfl
def dec15 (w : L) : Option Int := if numOk 10 15 w = true ∧ ¬ (1 < w.length ∧ w.headD 0 = 48) then some (numV 10 w) else none
theorem decN_head (n : Nat) : 0 < n → (decN n).headD 0 ≠ 48 := by
  induction n using Nat.strongRecOn with
  | ind n ih =>
    intro h0
    by_cases h : n < 10
    · rw [decN_small h]
      have : ∀ k, k < 10 → 0 < k → ([decB k] : L).headD 0 ≠ 48 := by decide
      exact this n h h0
    · rw [decN_more h]
      have h1 := ih (n / 10) (by omega) (by omega)
      cases hx : decN (n / 10) with
      | nil => exact absurd hx (decN_ne _)
      | cons c s =>
        rw [hx] at h1
        exact h1
theorem dec15_dec {n : Nat} (h : n < 1000000000000000) : dec15 (decN n) = some (n : Int) := by
  obtain ⟨h1, h2⟩ := dec_num h
  unfold dec15
  have h3 : ¬ (1 < (decN n).length ∧ (decN n).headD 0 = 48) := by
    rintro ⟨a, b⟩
    rcases Nat.eq_zero_or_pos n with h0 | h0
    · subst h0
      rw [decN_small (by decide)] at a
      exact absurd a (by decide)
    · exact decN_head n h0 b
  rw [if_pos ⟨h1, h3⟩, decN_val]
theorem dec15_decZ {n : Int} (h0 : 0 ≤ n) (h : n < 1000000000000000) : dec15 (decZ n) = some n := by
  obtain ⟨k, rfl⟩ := Int.eq_ofNat_of_zero_le h0
  unfold decZ
  rw [if_neg (by omega), Int.natAbs_natCast]
  exact dec15_dec (by omega)
theorem decZ_mid {n : Int} (h0 : 0 ≤ n) : ∀ c ∈ decZ n, midB c = true := by
  intro c hc
  unfold decZ at hc
  rw [if_neg (by omega)] at hc
  have := decN_all _ c hc
  unfold midB
  rw [Bool.and_eq_true, decide_eq_true_eq, decide_eq_true_eq]
  omega
/-! ### lines and words of lines -/
def cutB (b : UInt8) : L → List L
  | [] => [[]]
  | c :: s => if c = b then [] :: cutB b s else match cutB b s with
    | [] => [[c]]
    | p :: ps => (c :: p) :: ps
theorem cutB_ne (b : UInt8) (s : L) : cutB b s ≠ [] := by
  cases s with
  | nil => simp [cutB]
  | cons c s =>
    rw [cutB]
    split
    · simp
    · split <;> simp
theorem cutB_self {b : UInt8} : ∀ {p : L}, (∀ c ∈ p, c ≠ b) → cutB b p = [p]
  | [], _ => rfl
  | c :: p, h => by
    rw [cutB, if_neg (h c List.mem_cons_self), cutB_self (fun d hd => h d (List.mem_cons_of_mem _ hd))]
theorem cutB_append {b : UInt8} : ∀ {p : L}, (∀ c ∈ p, c ≠ b) → ∀ s, cutB b (p ++ b :: s) = p :: cutB b s
  | [], _, s => by rw [List.nil_append, cutB, if_pos rfl]
  | c :: p, h, s => by
    rw [List.cons_append, cutB, if_neg (h c List.mem_cons_self), cutB_append (fun d hd => h d (List.mem_cons_of_mem _ hd))]
/-- blanks and words -/
theorem cut_words {h : L} (hh : ∀ c ∈ h, c ≠ 32) (ws : List L) (hw : ∀ w ∈ ws, ∀ c ∈ w, c ≠ 32) : cutB 32 (h ++ ws.flatMap (fun w => 32 :: w)) = h :: ws := by
  induction ws generalizing h with
  | nil => rw [List.flatMap_nil, List.append_nil]; exact cutB_self hh
  | cons w ws ih =>
    rw [List.flatMap_cons, show h ++ (32 :: w ++ ws.flatMap (fun w => 32 :: w)) = h ++ 32 :: (w ++ ws.flatMap (fun w => 32 :: w)) by simp, cutB_append hh, ih (hw w List.mem_cons_self) (fun x hx => hw x (List.mem_cons_of_mem _ hx))]
/-! ### what is written -/
def flagL (b : Bool) : L := if b then [49] else [48]
def LISTEN : L := [108, 105, 115, 116, 101, 110]
def FILTER : L := [102, 105, 108, 116, 101, 114]
def CLUSTER : L := [99, 108, 117, 115, 116, 101, 114]
def VHOST : L := [118, 104, 111, 115, 116]
def ROUTE : L := [114, 111, 117, 116, 101]
/-- a line of words, without its end -/
def lineW (h : L) (ws : List L) : L := h ++ ws.flatMap (fun w => 32 :: w)
def listenW (c : Conf) : List L := [decZ c.conns, decZ c.body, decZ c.idle, decZ c.grace, decZ c.budget, decZ c.seed]
def filtW (f : Filt) : List L := [decZ f.kind, word f.name, word f.value, decZ f.n, decZ f.m, decZ f.k]
def clusW (c : Clus) : List L := [word c.name, decZ c.policy, decZ c.conns, decZ c.pending, decZ c.try_, decZ c.fails, decZ c.eject, decZ c.panic] ++ c.hosts
def routW (r : Rout) : List L := [flagL r.pre, word r.path, word r.method, word r.field, word r.value, decZ r.action, word r.cluster, decZ r.status, word r.text, word r.rewrite, decZ r.retries, decZ r.timeout, flagL r.upgrade]
def vhosLs (v : Vhos) : List L := lineW VHOST [word v.domain] :: v.routes.map (fun r => lineW ROUTE (routW r))
def linesC (c : Conf) : List L := lineW LISTEN (listenW c) :: (c.filters.map (fun f => lineW FILTER (filtW f)) ++ (c.clusters.map (fun x => lineW CLUSTER (clusW x)) ++ c.vhosts.flatMap vhosLs))
def print14 (c : Conf) : L := (linesC c).flatMap (fun l => l ++ [10])
/-! ### what is read -/
/-- words by a form: 119 a word, 110 a number, 98 a flag -/
def readF : List L → List UInt8 → List Int → List L → Option (List Int × List L)
  | [], [], ns, ws => some (ns, ws)
  | w :: l, f :: fs, ns, ws => if f = 119 then (match unword w with
      | none => none
      | some s => readF l fs ns (ws ++ [s]))
    else (match dec15 w with
      | none => none
      | some n => if f = 98 ∧ 1 < n then none else readF l fs (ns ++ [n]) ws)
  | _, _, _, _ => none
def hostsP : List L → Option (List L)
  | [] => some []
  | w :: ws => match unword w with
    | none => none
    | some h => (hostsP ws).map (h :: ·)
def FF : List UInt8 := [110, 119, 119, 110, 110, 110]
def FC : List UInt8 := [119, 110, 110, 110, 110, 110, 110, 110]
def FR : List UInt8 := [98, 119, 119, 119, 119, 110, 119, 110, 119, 119, 110, 110, 98]
def FL6 : List UInt8 := [110, 110, 110, 110, 110, 110]
def addR (vs : List Vhos) (r : Rout) : Option (List Vhos) := match vs.getLast? with
  | none => none
  | some v => some (vs.dropLast ++ [⟨v.domain, v.routes ++ [r]⟩])
def lineP (c : Conf) (l : L) : Option Conf :=
  let w := cutB 32 l
  let h := w.headD []
  let t := w.tail
  if h = FILTER then (match readF t FF [] [] with
    | none => none
    | some (n, s) => some { c with filters := c.filters ++ [⟨n.getD 0 0, s.getD 0 [], s.getD 1 [], n.getD 1 0, n.getD 2 0, n.getD 3 0⟩] })
  else if h = CLUSTER then (if w.length < 9 then none else match readF (t.take 8) FC [] [], hostsP (t.drop 8) with
    | some (n, s), some hs => some { c with clusters := c.clusters ++ [⟨s.getD 0 [], n.getD 0 0, hs, n.getD 1 0, n.getD 2 0, n.getD 3 0, n.getD 4 0, n.getD 5 0, n.getD 6 0⟩] }
    | _, _ => none)
  else if h = VHOST then (match readF t [119] [] [] with
    | none => none
    | some (_, s) => some { c with vhosts := c.vhosts ++ [⟨s.getD 0 [], []⟩] })
  else if h = ROUTE then (match readF t FR [] [] with
    | none => none
    | some (n, s) => (addR c.vhosts ⟨n.getD 0 0 == 1, s.getD 0 [], s.getD 1 [], s.getD 2 [], s.getD 3 [], n.getD 1 0, s.getD 4 [], n.getD 2 0, s.getD 5 [], s.getD 6 [], n.getD 3 0, n.getD 4 0, n.getD 5 0 == 1⟩).map (fun vs => { c with vhosts := vs }))
  else none
def firstP (l : L) : Option Conf :=
  let w := cutB 32 l
  match readF w.tail FL6 [] [] with
  | none => none
  | some (n, _) => if w.headD [] = LISTEN then some ⟨n.getD 0 0, n.getD 1 0, n.getD 2 0, n.getD 3 0, n.getD 4 0, n.getD 5 0, [], [], []⟩ else none
def stepP (i : Nat) (c : Conf) (l : L) : Option Conf := if i = 0 then firstP l else lineP c l
/-- the lines one behind the other: where they fail, or the config -/
def goP (i : Nat) (c : Conf) : List L → Nat ⊕ Conf
  | [] => .inr c
  | [l] => if 0 < i ∧ l = [] then .inr c else .inl i
  | l :: m :: ls => match stepP i c l with
    | none => .inl i
    | some c' => goP (i + 1) c' (m :: ls)
def parse14 (s : L) : Conf × Int × Int := match goP 0 zeroC (cutB 10 s) with
  | .inl i => (zeroC, (i : Int), 140)
  | .inr c => if check14 c ≠ 0 then (zeroC, 0, check14 c) else (c, 0, 0)
end Go.Proofs.Ytfdpoibmlggfbaa.ConfPure

/- Layer 14: a right config, written and read, is the same; a line of no form is told by its number. No program is named. -/
namespace Go.Proofs.Ytfdpoibmlggfbaa.ConfBack
open Bytes LexPure LexNum DecN HostPure PathPure RHostPure EmitPure ConfPure
set_option maxRecDepth 20000
/-! ### the numbers of a right config can be read -/
def Small (n : Int) : Prop := 0 ≤ n ∧ n < 1000000000000000
theorem in_small {n a b : Int} (h : inB n a b = true) (h0 : 0 ≤ a) (h1 : b < 1000000000000000) : Small n := by
  unfold inB at h
  rw [Bool.and_eq_true, decide_eq_true_eq, decide_eq_true_eq] at h
  exact ⟨by omega, by omega⟩
theorem small_read {n : Int} (h : Small n) : dec15 (decZ n) = some n := dec15_decZ h.1 h.2
theorem small_mid {n : Int} (h : Small n) : ∀ c ∈ decZ n, midB c = true := decZ_mid h.1
structure FiltS (f : Filt) : Prop where
  kind : Small f.kind
  n : Small f.n
  m : Small f.m
  k : Small f.k
theorem filt_small {f : Filt} (h : filtB f = true) : FiltS f := by
  unfold filtB at h
  have z : Small 0 := ⟨by decide, by decide⟩
  have tk : TOK < 1000000000000000 := by decide
  split at h
  · rename_i hk
    simp only [Bool.and_eq_true, beq_iff_eq] at h
    obtain ⟨⟨⟨⟨h1, h2⟩, h3⟩, _⟩, _⟩ := h
    refine ⟨⟨by omega, by omega⟩, ?_, ?_, ?_⟩
    · rw [h1]; exact z
    · rw [h2]; exact z
    · rw [h3]; exact z
  split at h
  · rename_i hk
    simp only [Bool.and_eq_true, beq_iff_eq] at h
    obtain ⟨⟨⟨⟨_, h1⟩, h2⟩, h3⟩, _⟩ := h
    refine ⟨⟨by omega, by omega⟩, ?_, ?_, ?_⟩
    · rw [h1]; exact z
    · rw [h2]; exact z
    · rw [h3]; exact z
  split at h
  · rename_i hk
    simp only [Bool.and_eq_true, beq_iff_eq] at h
    obtain ⟨⟨⟨⟨_, _⟩, h1⟩, h2⟩, h3⟩ := h
    exact ⟨⟨by omega, by omega⟩, in_small h1 (by decide) tk, in_small h2 (by decide) tk, in_small h3 (by decide) tk⟩
  split at h
  · rename_i hk
    simp only [Bool.and_eq_true, beq_iff_eq] at h
    obtain ⟨⟨⟨⟨⟨h1, h2⟩, h3⟩, _⟩, _⟩, _⟩ := h
    refine ⟨⟨by omega, by omega⟩, ?_, ?_, ?_⟩
    · rw [h1]; exact z
    · rw [h2]; exact z
    · rw [h3]; exact z
  split at h
  · rename_i hk
    simp only [Bool.and_eq_true, beq_iff_eq] at h
    obtain ⟨⟨⟨⟨⟨_, h1⟩, h2⟩, h3⟩, _⟩, _⟩ := h
    refine ⟨⟨by omega, by omega⟩, ?_, ?_, ?_⟩
    · rw [h1]; exact z
    · rw [h2]; exact z
    · rw [h3]; exact z
  split at h
  · rename_i hk
    simp only [Bool.and_eq_true, beq_iff_eq] at h
    obtain ⟨⟨⟨⟨_, _⟩, h2⟩, h3⟩, h1⟩ := h
    refine ⟨⟨by omega, by omega⟩, in_small h1 (by decide) (by decide), ?_, ?_⟩
    · rw [h2]; exact z
    · rw [h3]; exact z
  split at h
  · rename_i hk
    simp only [Bool.and_eq_true, beq_iff_eq] at h
    obtain ⟨⟨⟨⟨_, _⟩, h3⟩, h1⟩, h2⟩ := h
    refine ⟨⟨by omega, by omega⟩, in_small h1 (by decide) (by decide), in_small h2 (by decide) (by decide), ?_⟩
    · rw [h3]; exact z
  · cases h
structure ClusS (c : Clus) : Prop where
  policy : Small c.policy
  conns : Small c.conns
  pending : Small c.pending
  try_ : Small c.try_
  fails : Small c.fails
  eject : Small c.eject
  panic : Small c.panic
  hosts : hostsB [] c.hosts = true
theorem clus_small {c : Clus} (h : clusB c = true) : ClusS c := by
  unfold clusB at h
  have tk : TICK < 1000000000000000 := by decide
  simp only [Bool.and_eq_true] at h
  obtain ⟨⟨⟨⟨⟨⟨⟨⟨h1, h2⟩, h3⟩, h4⟩, h5⟩, h6⟩, h7⟩, h8⟩, h9⟩ := h
  exact ⟨in_small h1 (by decide) (by decide), in_small h3 (by decide) (by decide), in_small h4 (by decide) (by decide), in_small h5 (by decide) tk, in_small h7 (by decide) (by decide), in_small h6 (by decide) tk, in_small h8 (by decide) (by decide), h9⟩
structure RoutS (r : Rout) : Prop where
  action : Small r.action
  status : Small r.status
  retries : Small r.retries
  timeout : Small r.timeout
theorem rout_small {r : Rout} {cs : List Clus} (h : routB r cs = true) : RoutS r := by
  unfold routB at h
  have z : Small 0 := ⟨by decide, by decide⟩
  have tk : TICK < 1000000000000000 := by decide
  rw [Bool.and_eq_true] at h
  obtain ⟨_, h⟩ := h
  split at h
  · rename_i ha
    unfold forwB at h
    simp only [Bool.and_eq_true, beq_iff_eq] at h
    obtain ⟨⟨⟨⟨⟨_, h1⟩, _⟩, h2⟩, h3⟩, _⟩ := h
    refine ⟨⟨by omega, by omega⟩, ?_, in_small h2 (by decide) (by decide), in_small h3 (by decide) tk⟩
    rw [h1]; exact z
  · simp only [Bool.and_eq_true, beq_iff_eq] at h
    obtain ⟨⟨⟨⟨⟨⟨_, _⟩, h1⟩, h2⟩, _⟩, _⟩, h⟩ := h
    split at h
    · rename_i ha
      simp only [Bool.and_eq_true, Bool.or_eq_true, beq_iff_eq] at h
      obtain ⟨_, h⟩ := h
      refine ⟨⟨by omega, by omega⟩, ⟨by omega, by omega⟩, ?_, ?_⟩
      · rw [h1]; exact z
      · rw [h2]; exact z
    · simp only [Bool.and_eq_true, beq_iff_eq] at h
      obtain ⟨⟨⟨⟨_, h3⟩, h4⟩, _⟩, _⟩ := h
      refine ⟨⟨by omega, by omega⟩, in_small h4 (by decide) (by decide), ?_, ?_⟩
      · rw [h1]; exact z
      · rw [h2]; exact z
/-! ### hosts are words -/
theorem hostC_mid (c : UInt8) (h : hostC c = true) : 32 < c.toNat ∧ c.toNat < 127 ∧ c ≠ 37 := by
  have := all_bytes (p := fun c => !hostC c || (decide (32 < c.toNat) && decide (c.toNat < 127) && c != 37)) (by decide +kernel) c
  simp only [h, Bool.not_true, Bool.false_or, Bool.and_eq_true, decide_eq_true_eq, bne_iff_ne] at this
  exact ⟨this.1.1, this.1.2, this.2⟩
theorem host_word {s : L} (h : hostB s = true) : word s = s := by
  unfold hostB at h
  cases ha : authO s with
  | none => rw [ha] at h; cases h
  | some x =>
    obtain ⟨hn, p⟩ := x
    rw [ha] at h
    simp only [Bool.and_eq_true, decide_eq_true_eq, beq_iff_eq] at h
    obtain ⟨hp, rfl⟩ := h
    obtain ⟨a1, _, _, _⟩ := authO_some ha
    have hne := host_ne a1
    have hcs : ∀ c ∈ hn, hostC c = true := by
      unfold host at a1
      simp only [Bool.and_eq_true] at a1
      exact List.all_eq_true.1 a1.1.1.2
    refine word_self ?_ (by simp) ?_
    · intro c hc
      rcases List.mem_append.1 hc with q | q
      · exact hostC_mid c (hcs c q)
      rcases List.mem_cons.1 q with rfl | q
      · decide
      · unfold decZ at q
        rw [if_neg (by omega)] at q
        have hd := decN_all _ c q
        refine ⟨by omega, by omega, fun e => ?_⟩
        rw [e] at hd
        exact absurd hd.2.1 (by decide)
    · intro e
      cases hn with
      | nil => exact hne rfl
      | cons c hn =>
        have := congrArg List.length e
        simp at this
theorem hosts_word : ∀ {hs ahead : List L}, hostsB ahead hs = true → ∀ h ∈ hs, hostB h = true
  | [], _, _, h, hm => by cases hm
  | x :: hs, ahead, hb, h, hm => by
    unfold hostsB at hb
    simp only [Bool.and_eq_true] at hb
    rcases List.mem_cons.1 hm with rfl | q
    · exact hb.1.1
    · exact hosts_word hb.2 h q
theorem hosts_read : ∀ {hs : List L}, (∀ h ∈ hs, hostB h = true) → hostsP hs = some hs
  | [], _ => rfl
  | h :: hs, hb => by
    unfold hostsP
    have e : unword h = some h := by
      conv => lhs; rw [← host_word (hb h List.mem_cons_self)]
      exact unword_word h
    rw [e, hosts_read (fun x hx => hb x (List.mem_cons_of_mem _ hx))]
    rfl
theorem host_mid {s : L} (h : hostB s = true) : ∀ c ∈ s, midB c = true := by
  rw [← host_word h]
  exact word_mid s
/-! ### reading by a form -/
theorem read_w (s : L) (l : List L) (fs : List UInt8) (ns : List Int) (ws : List L) : readF (word s :: l) (119 :: fs) ns ws = readF l fs ns (ws ++ [s]) := by
  conv => lhs; unfold readF
  rw [if_pos rfl, unword_word]
theorem read_n {n : Int} (h : Small n) (l : List L) (fs : List UInt8) (ns : List Int) (ws : List L) : readF (decZ n :: l) (110 :: fs) ns ws = readF l fs (ns ++ [n]) ws := by
  conv => lhs; unfold readF
  rw [if_neg (by decide), small_read h]
  simp only
  rw [if_neg (fun x => absurd x.1 (by decide))]
theorem flag_read (b : Bool) : dec15 (flagL b) = some (if b then 1 else 0) := by cases b <;> decide
theorem read_b (b : Bool) (l : List L) (fs : List UInt8) (ns : List Int) (ws : List L) : readF (flagL b :: l) (98 :: fs) ns ws = readF l fs (ns ++ [if b then 1 else 0]) ws := by
  conv => lhs; unfold readF
  rw [if_neg (by decide), flag_read]
  simp only
  rw [if_neg (by cases b <;> decide)]
theorem read_filt {f : Filt} (h : FiltS f) : readF (filtW f) FF [] [] = some ([f.kind, f.n, f.m, f.k], [f.name, f.value]) := by
  unfold filtW FF
  rw [read_n h.kind, read_w, read_w, read_n h.n, read_n h.m, read_n h.k]
  rfl
theorem read_clus {c : Clus} (h : ClusS c) : readF [word c.name, decZ c.policy, decZ c.conns, decZ c.pending, decZ c.try_, decZ c.fails, decZ c.eject, decZ c.panic] FC [] [] = some ([c.policy, c.conns, c.pending, c.try_, c.fails, c.eject, c.panic], [c.name]) := by
  unfold FC
  rw [read_w, read_n h.policy, read_n h.conns, read_n h.pending, read_n h.try_, read_n h.fails, read_n h.eject, read_n h.panic]
  rfl
theorem read_rout {r : Rout} (h : RoutS r) : readF (routW r) FR [] [] = some ([if r.pre then 1 else 0, r.action, r.status, r.retries, r.timeout, if r.upgrade then 1 else 0], [r.path, r.method, r.field, r.value, r.cluster, r.text, r.rewrite]) := by
  unfold routW FR
  rw [read_b, read_w, read_w, read_w, read_w, read_n h.action, read_w, read_n h.status, read_w, read_w, read_n h.retries, read_n h.timeout, read_b]
  rfl
/-! ### lines -/
def noB (b : UInt8) (l : L) : Prop := ∀ c ∈ l, c ≠ b
theorem mid_no {b c : UInt8} (hb : b = 32 ∨ b = 10) (h : midB c = true) : c ≠ b := by
  unfold midB at h
  rw [Bool.and_eq_true, decide_eq_true_eq] at h
  rintro rfl
  rcases hb with rfl | rfl
  · exact absurd h.1 (by decide)
  · exact absurd h.1 (by decide)
theorem flag_mid (b : Bool) : ∀ c ∈ flagL b, midB c = true := by cases b <;> decide
def Mids (ws : List L) : Prop := ∀ w ∈ ws, ∀ c ∈ w, midB c = true
theorem mids_cons {w : L} {ws : List L} (h : ∀ c ∈ w, midB c = true) (hs : Mids ws) : Mids (w :: ws) := fun x hx => by
  rcases List.mem_cons.1 hx with rfl | q
  · exact h
  · exact hs x q
theorem mids_nil : Mids [] := fun _ h => by cases h
theorem filt_mids {f : Filt} (h : FiltS f) : Mids (filtW f) :=
  mids_cons (small_mid h.kind) (mids_cons (word_mid _) (mids_cons (word_mid _) (mids_cons (small_mid h.n) (mids_cons (small_mid h.m) (mids_cons (small_mid h.k) mids_nil)))))
theorem clus_mids {c : Clus} (h : ClusS c) : Mids (clusW c) := by
  intro w hw
  unfold clusW at hw
  rcases List.mem_append.1 hw with q | q
  · exact (mids_cons (word_mid _) (mids_cons (small_mid h.policy) (mids_cons (small_mid h.conns) (mids_cons (small_mid h.pending) (mids_cons (small_mid h.try_) (mids_cons (small_mid h.fails) (mids_cons (small_mid h.eject) (mids_cons (small_mid h.panic) mids_nil)))))))) w q
  · exact host_mid (hosts_word h.hosts w q)
theorem rout_mids {r : Rout} (h : RoutS r) : Mids (routW r) :=
  mids_cons (flag_mid _) (mids_cons (word_mid _) (mids_cons (word_mid _) (mids_cons (word_mid _) (mids_cons (word_mid _) (mids_cons (small_mid h.action) (mids_cons (word_mid _) (mids_cons (small_mid h.status) (mids_cons (word_mid _) (mids_cons (word_mid _) (mids_cons (small_mid h.retries) (mids_cons (small_mid h.timeout) (mids_cons (flag_mid _) mids_nil))))))))))))
theorem line_cut {h : L} {ws : List L} (hh : noB 32 h) (hw : Mids ws) : cutB 32 (lineW h ws) = h :: ws :=
  cut_words hh ws (fun w hx c hc => mid_no (.inl rfl) (hw w hx c hc))
theorem line_no10 {h : L} {ws : List L} (hh : noB 10 h) (hw : Mids ws) : noB 10 (lineW h ws) := by
  intro c hc
  unfold lineW at hc
  rcases List.mem_append.1 hc with q | q
  · exact hh c q
  · rw [List.mem_flatMap] at q
    obtain ⟨w, hm, q⟩ := q
    rcases List.mem_cons.1 q with rfl | q
    · decide
    · exact mid_no (.inr rfl) (hw w hm c q)
theorem no10_names : noB 10 LISTEN ∧ noB 10 FILTER ∧ noB 10 CLUSTER ∧ noB 10 VHOST ∧ noB 10 ROUTE ∧ noB 32 LISTEN ∧ noB 32 FILTER ∧ noB 32 CLUSTER ∧ noB 32 VHOST ∧ noB 32 ROUTE := by
  unfold noB; decide
theorem line_filt {f : Filt} (h : FiltS f) (c : Conf) : lineP c (lineW FILTER (filtW f)) = some { c with filters := c.filters ++ [f] } := by
  unfold lineP
  rw [line_cut no10_names.2.2.2.2.2.2.1 (filt_mids h)]
  simp only [List.headD_cons, List.tail_cons]
  rw [if_pos trivial, read_filt h]
  rfl
theorem line_clus {x : Clus} (h : ClusS x) (c : Conf) : lineP c (lineW CLUSTER (clusW x)) = some { c with clusters := c.clusters ++ [x] } := by
  unfold lineP
  rw [line_cut no10_names.2.2.2.2.2.2.2.1 (clus_mids h)]
  simp only [List.headD_cons, List.tail_cons]
  rw [if_neg (by decide), if_pos trivial, if_neg (by unfold clusW; simp)]
  have e1 : (clusW x).take 8 = [word x.name, decZ x.policy, decZ x.conns, decZ x.pending, decZ x.try_, decZ x.fails, decZ x.eject, decZ x.panic] := rfl
  have e2 : (clusW x).drop 8 = x.hosts := rfl
  rw [e1, e2, read_clus h, hosts_read (hosts_word h.hosts)]
  rfl
theorem line_vhos (d : L) (c : Conf) : lineP c (lineW VHOST [word d]) = some { c with vhosts := c.vhosts ++ [⟨d, []⟩] } := by
  unfold lineP
  rw [line_cut no10_names.2.2.2.2.2.2.2.2.1 (mids_cons (word_mid _) mids_nil)]
  simp only [List.headD_cons, List.tail_cons]
  rw [if_neg (by decide), if_neg (by decide), if_pos trivial, read_w]
  rfl
theorem line_rout {r : Rout} (h : RoutS r) (c : Conf) (vs : List Vhos) (v : Vhos) (hv : c.vhosts = vs ++ [v]) : lineP c (lineW ROUTE (routW r)) = some { c with vhosts := vs ++ [⟨v.domain, v.routes ++ [r]⟩] } := by
  unfold lineP
  rw [line_cut no10_names.2.2.2.2.2.2.2.2.2 (rout_mids h)]
  simp only [List.headD_cons, List.tail_cons]
  rw [if_neg (by decide), if_neg (by decide), if_neg (by decide), if_pos trivial, read_rout h, hv]
  have e1 : ((if r.pre then 1 else 0 : Int) == 1) = r.pre := by cases r.pre <;> rfl
  have e2 : ((if r.upgrade then 1 else 0 : Int) == 1) = r.upgrade := by cases r.upgrade <;> rfl
  simp only [List.getD_cons_zero, List.getD_cons_succ, addR, List.getLast?_concat, Option.map, e1, e2, List.dropLast_concat]
/-! ### all lines -/
/-- the lines, one behind the other, all of their form -/
def allP (c : Conf) : List L → Option Conf
  | [] => some c
  | l :: ls => match lineP c l with
    | none => none
    | some c' => allP c' ls
theorem all_append (c : Conf) (a b : List L) : allP c (a ++ b) = match allP c a with | none => none | some c' => allP c' b := by
  induction a generalizing c with
  | nil => rfl
  | cons l a ih =>
    rw [List.cons_append, allP, allP]
    cases lineP c l with
    | none => rfl
    | some c' => exact ih c'
theorem all_filts : ∀ (fs : List Filt), (∀ f ∈ fs, FiltS f) → ∀ c : Conf, allP c (fs.map (fun f => lineW FILTER (filtW f))) = some { c with filters := c.filters ++ fs }
  | [], _, c => by simp [allP]
  | f :: fs, h, c => by
    rw [List.map_cons]
    unfold allP
    rw [line_filt (h f List.mem_cons_self) c]
    simp only
    rw [all_filts fs (fun x hx => h x (List.mem_cons_of_mem _ hx))]
    simp
theorem all_cluss : ∀ (xs : List Clus), (∀ x ∈ xs, ClusS x) → ∀ c : Conf, allP c (xs.map (fun x => lineW CLUSTER (clusW x))) = some { c with clusters := c.clusters ++ xs }
  | [], _, c => by simp [allP]
  | x :: xs, h, c => by
    rw [List.map_cons]
    unfold allP
    rw [line_clus (h x List.mem_cons_self) c]
    simp only
    rw [all_cluss xs (fun y hy => h y (List.mem_cons_of_mem _ hy))]
    simp
theorem all_routs : ∀ (rs : List Rout), (∀ r ∈ rs, RoutS r) → ∀ (c : Conf) (vs : List Vhos) (v : Vhos), c.vhosts = vs ++ [v] → allP c (rs.map (fun r => lineW ROUTE (routW r))) = some { c with vhosts := vs ++ [⟨v.domain, v.routes ++ rs⟩] }
  | [], _, c, vs, v, hv => by
    simp only [List.map_nil, allP, List.append_nil]
    rw [← hv]
  | r :: rs, h, c, vs, v, hv => by
    rw [List.map_cons]
    unfold allP
    rw [line_rout (h r List.mem_cons_self) c vs v hv]
    simp only
    rw [all_routs rs (fun y hy => h y (List.mem_cons_of_mem _ hy)) _ vs ⟨v.domain, v.routes ++ [r]⟩ rfl]
    simp
theorem all_vhoss : ∀ (ws : List Vhos), (∀ v ∈ ws, ∀ r ∈ v.routes, RoutS r) → ∀ c : Conf, allP c (ws.flatMap vhosLs) = some { c with vhosts := c.vhosts ++ ws }
  | [], _, c => by simp [allP]
  | v :: ws, h, c => by
    rw [List.flatMap_cons, all_append]
    have e : allP c (vhosLs v) = some { c with vhosts := c.vhosts ++ [v] } := by
      unfold vhosLs allP
      rw [line_vhos]
      simp only
      rw [all_routs v.routes (h v List.mem_cons_self) _ c.vhosts ⟨v.domain, []⟩ rfl]
      simp
    rw [e]
    simp only
    rw [all_vhoss ws (fun x hx => h x (List.mem_cons_of_mem _ hx))]
    simp
/-- what a right config's numbers are -/
structure ConfS (c : Conf) : Prop where
  conns : Small c.conns
  body : Small c.body
  idle : Small c.idle
  grace : Small c.grace
  budget : Small c.budget
  seed : Small c.seed
  filters : ∀ f ∈ c.filters, FiltS f
  clusters : ∀ x ∈ c.clusters, ClusS x
  vhosts : ∀ v ∈ c.vhosts, ∀ r ∈ v.routes, RoutS r
theorem clusE_all : ∀ {cs ahead : List Clus}, clusE ahead cs = 0 → ∀ x ∈ cs, clusB x = true ∧ tokenB x.name 32 = true
  | [], _, _, x, hx => by cases hx
  | c :: cs, ahead, h, x, hx => by
    unfold clusE at h
    split at h
    · cases h
    split at h
    · cases h
    rename_i h1 h2
    simp only [Bool.or_eq_true, Bool.not_eq_true', not_or, Bool.not_eq_false] at h1 h2
    rcases List.mem_cons.1 hx with rfl | q
    · exact ⟨h2, h1.2⟩
    · exact clusE_all h x q
theorem vhosE_all {cs : List Clus} : ∀ {vs ahead : List Vhos}, vhosE cs ahead vs = 0 → ∀ v ∈ vs, domainB v.domain = true ∧ inB v.routes.length 1 32 = true ∧ ∀ r ∈ v.routes, routB r cs = true
  | [], _, _, x, hx => by cases hx
  | v :: vs, ahead, h, x, hx => by
    unfold vhosE at h
    split at h
    · cases h
    split at h
    · cases h
    rename_i h1 h2
    simp only [Bool.or_eq_true, Bool.not_eq_true', not_or, Bool.not_eq_false] at h1 h2
    rcases List.mem_cons.1 hx with rfl | q
    · exact ⟨h1.2, h2.1, fun r hr => List.all_eq_true.1 h2.2 r hr⟩
    · exact vhosE_all h x q
/-- what a right config is -/
structure Right (c : Conf) : Prop where
  bounds : boundsB c = true
  filters : ∀ f ∈ c.filters, filtB f = true
  clusters : ∀ x ∈ c.clusters, clusB x = true ∧ tokenB x.name 32 = true
  vhosts : ∀ v ∈ c.vhosts, domainB v.domain = true ∧ inB v.routes.length 1 32 = true ∧ ∀ r ∈ v.routes, routB r c.clusters = true
theorem right_of {c : Conf} (h : check14 c = 0) : Right c := by
  unfold check14 at h
  split at h
  · cases h
  rename_i h1
  split at h
  · cases h
  rename_i h2
  split at h
  · rename_i h3; exact absurd h h3
  rename_i h3
  simp only [Bool.not_eq_true', Bool.not_eq_false] at h1 h2
  exact ⟨h1, List.all_eq_true.1 h2, clusE_all (Decidable.not_not.1 h3), vhosE_all h⟩
theorem conf_small {c : Conf} (h : Right c) : ConfS c := by
  have hb := h.bounds
  unfold boundsB at hb
  have tk : TICK < 1000000000000000 := by decide
  simp only [Bool.and_eq_true] at hb
  obtain ⟨⟨⟨⟨⟨⟨⟨⟨h1, h2⟩, h3⟩, h4⟩, h5⟩, h6⟩, _⟩, _⟩, _⟩ := hb
  exact ⟨in_small h1 (by decide) (by decide), in_small h2 (by decide) (by decide), in_small h3 (by decide) tk, in_small h4 (by decide) tk, in_small h5 (by decide) (by decide), in_small h6 (by decide) (by decide),
    fun f hf => filt_small (h.filters f hf), fun x hx => clus_small (h.clusters x hx).1, fun v hv r hr => rout_small ((h.vhosts v hv).2.2 r hr)⟩
theorem listen_mids {c : Conf} (h : ConfS c) : Mids (listenW c) :=
  mids_cons (small_mid h.conns) (mids_cons (small_mid h.body) (mids_cons (small_mid h.idle) (mids_cons (small_mid h.grace) (mids_cons (small_mid h.budget) (mids_cons (small_mid h.seed) mids_nil)))))
theorem first_read {c : Conf} (h : ConfS c) : firstP (lineW LISTEN (listenW c)) = some ⟨c.conns, c.body, c.idle, c.grace, c.budget, c.seed, [], [], []⟩ := by
  unfold firstP
  rw [line_cut no10_names.2.2.2.2.2.1 (listen_mids h)]
  simp only [List.headD_cons, List.tail_cons]
  unfold listenW FL6
  rw [read_n h.conns, read_n h.body, read_n h.idle, read_n h.grace, read_n h.budget, read_n h.seed]
  simp only [readF, if_true]
  rfl
/-- the lines behind the first -/
def restC (c : Conf) : List L := c.filters.map (fun f => lineW FILTER (filtW f)) ++ (c.clusters.map (fun x => lineW CLUSTER (clusW x)) ++ c.vhosts.flatMap vhosLs)
theorem rest_read {c : Conf} (h : ConfS c) : allP ⟨c.conns, c.body, c.idle, c.grace, c.budget, c.seed, [], [], []⟩ (restC c) = some c := by
  unfold restC
  rw [all_append, all_filts _ h.filters]
  simp only
  rw [all_append, all_cluss _ h.clusters]
  simp only
  rw [all_vhoss _ h.vhosts]
  simp
theorem lines_no10 {c : Conf} (h : ConfS c) : ∀ l ∈ linesC c, noB 10 l := by
  intro l hl
  unfold linesC at hl
  rcases List.mem_cons.1 hl with rfl | q
  · exact line_no10 no10_names.1 (listen_mids h)
  rcases List.mem_append.1 q with q | q
  · obtain ⟨f, hf, rfl⟩ := List.mem_map.1 q
    exact line_no10 no10_names.2.1 (filt_mids (h.filters f hf))
  rcases List.mem_append.1 q with q | q
  · obtain ⟨x, hx, rfl⟩ := List.mem_map.1 q
    exact line_no10 no10_names.2.2.1 (clus_mids (h.clusters x hx))
  · obtain ⟨v, hv, q⟩ := List.mem_flatMap.1 q
    unfold vhosLs at q
    rcases List.mem_cons.1 q with rfl | q
    · exact line_no10 no10_names.2.2.2.1 (mids_cons (word_mid _) mids_nil)
    · obtain ⟨r, hr, rfl⟩ := List.mem_map.1 q
      exact line_no10 no10_names.2.2.2.2.1 (rout_mids (h.vhosts v hv r hr))
/-- lines with their ends, cut again -/
theorem cut_lines : ∀ (ls : List L), (∀ l ∈ ls, noB 10 l) → ∀ s : L, cutB 10 (ls.flatMap (fun l => l ++ [10]) ++ s) = ls ++ cutB 10 s
  | [], _, s => rfl
  | l :: ls, h, s => by
    rw [List.flatMap_cons, show l ++ [10] ++ ls.flatMap (fun l => l ++ [10]) ++ s = l ++ 10 :: (ls.flatMap (fun l => l ++ [10]) ++ s) by simp, cutB_append (h l List.mem_cons_self), cut_lines ls (fun x hx => h x (List.mem_cons_of_mem _ hx)), List.cons_append]
/-- lines that are of their form are passed -/
theorem go_all : ∀ (ls : List L) (i : Nat) (c c' : Conf), 0 < i → allP c ls = some c' → ∀ (m : L) (r : List L), goP i c (ls ++ m :: r) = goP (i + ls.length) c' (m :: r)
  | [], i, c, c', hi, h, m, r => by
    unfold allP at h
    injection h with e
    rw [e]
    rfl
  | l :: ls, i, c, c', hi, h, m, r => by
    unfold allP at h
    cases hl : lineP c l with
    | none => rw [hl] at h; cases h
    | some c2 =>
      rw [hl] at h
      simp only at h
      have e : ∃ x xs, ls ++ m :: r = x :: xs := by
        cases ls with
        | nil => exact ⟨m, r, rfl⟩
        | cons x xs => exact ⟨x, xs ++ m :: r, rfl⟩
      obtain ⟨x, xs, hx⟩ := e
      rw [List.cons_append, hx]
      conv => lhs; unfold goP
      unfold stepP
      rw [if_neg (by omega), hl]
      simp only
      rw [← hx, go_all ls (i + 1) c2 c' (by omega) h m r, List.length_cons]
      congr 1
      omega
theorem go_first {l : L} {c c' : Conf} (h : firstP l = some c') (m : L) (r : List L) : goP 0 c (l :: m :: r) = goP 1 c' (m :: r) := by
  conv => lhs; unfold goP
  unfold stepP
  rw [if_pos rfl, h]
theorem go_lines {c : Conf} (h : ConfS c) (m : L) (r : List L) : goP 0 zeroC (linesC c ++ m :: r) = goP (linesC c).length c (m :: r) := by
  have e : linesC c = lineW LISTEN (listenW c) :: restC c := rfl
  rw [e, List.cons_append]
  have hx : ∃ x xs, restC c ++ m :: r = x :: xs := by
    cases restC c with
    | nil => exact ⟨m, r, rfl⟩
    | cons x xs => exact ⟨x, xs ++ m :: r, rfl⟩
  obtain ⟨x, xs, hx⟩ := hx
  rw [hx, go_first (first_read h), ← hx, go_all (restC c) 1 _ c (by decide) (rest_read h), List.length_cons]
  congr 1
  omega
/-- a right config, written and read, is the same -/
theorem back14 {c : Conf} (h : check14 c = 0) : parse14 (print14 c) = (c, 0, 0) := by
  have hs := conf_small (right_of h)
  unfold parse14 print14
  have e := cut_lines (linesC c) (lines_no10 hs) []
  rw [List.append_nil] at e
  rw [e, show cutB 10 [] = [[]] from rfl, go_lines hs]
  have hl : 0 < (linesC c).length := by unfold linesC; simp
  have e2 : goP (linesC c).length c [[]] = .inr c := by
    unfold goP
    rw [if_pos ⟨hl, rfl⟩]
  rw [e2]
  simp only
  rw [h, if_neg (by decide)]
/-- what is no text of a config -/
theorem empty14 : parse14 [] = (zeroC, 0, 140) := by decide
end Go.Proofs.Ytfdpoibmlggfbaa.ConfBack

/- A bucket as numbers: what passing time does to it. No program is named. -/
namespace Go.Proofs.Ytfdpoibmlggfbaa.BucketPure

structure B where
  most : Int
  fill : Int
  every : Int
  tokens : Int
  filled : Int
  told : Int

/-- within its bounds, and fillings reckoned as far as they go -/
structure Ok (b : B) : Prop where
  m1 : 1 ≤ b.most
  m2 : b.most ≤ 1073741824
  f1 : 1 ≤ b.fill
  f2 : b.fill ≤ 1073741824
  e1 : 1 ≤ b.every
  e2 : b.every ≤ 1073741824
  t1 : 0 ≤ b.tokens
  t2 : b.tokens ≤ b.most
  l1 : 0 ≤ b.filled
  l2 : b.filled ≤ b.told
  n2 : b.told ≤ 1099511627776

/-- how many fillings come -/
def fillings (b : B) (now : Int) : Int := (now - b.filled) / b.every
/-- how many fillings it takes until there are n -/
def missing (b : B) (n : Int) : Int := (n - b.tokens + b.fill - 1) / b.fill
/-- the bucket behind k fillings, at a time -/
def after (b : B) (k now : Int) : B := { b with tokens := min b.most (b.tokens + k * b.fill), filled := b.filled + k * b.every, told := now }
def pass (b : B) (now : Int) : B := after b (fillings b now) now

theorem quo_iff (a e k : Int) (he : 1 ≤ e) : a / e = k ↔ k * e ≤ a ∧ a < k * e + e := by
  constructor
  · rintro rfl
    have h1 := Int.mul_ediv_add_emod a e
    have h2 := Int.emod_nonneg a (show e ≠ 0 by omega)
    have h3 := Int.emod_lt_of_pos a (show 0 < e by omega)
    rw [Int.mul_comm] at h1
    omega
  · rintro ⟨h1, h2⟩
    have h3 : k ≤ a / e := (Int.le_ediv_iff_mul_le (by omega)).2 h1
    have h4 : a / e < k + 1 := (Int.ediv_lt_iff_lt_mul (by omega)).2 (by rw [Int.add_mul]; omega)
    omega

theorem fillings_spec {b : B} (h : 1 ≤ b.every) (now : Int) : fillings b now * b.every ≤ now - b.filled ∧ now - b.filled < fillings b now * b.every + b.every :=
  (quo_iff _ _ _ h).1 rfl
theorem fillings_nonneg {b : B} (h : 1 ≤ b.every) {now : Int} (hn : b.filled ≤ now) : 0 ≤ fillings b now :=
  Int.ediv_nonneg (by omega) (by omega)
theorem fillings_le {b : B} {now : Int} (hn : b.filled ≤ now) : fillings b now ≤ now - b.filled :=
  Int.ediv_le_self _ (by omega)
theorem missing_spec {b : B} (h : 1 ≤ b.fill) (n : Int) : (missing b n - 1) * b.fill < n - b.tokens ∧ n - b.tokens ≤ missing b n * b.fill := by
  have := (quo_iff (n - b.tokens + b.fill - 1) b.fill (missing b n) h).1 rfl
  rw [Int.sub_mul]
  omega
theorem missing_iff {b : B} (h : 1 ≤ b.fill) (n k : Int) : missing b n ≤ k ↔ n ≤ b.tokens + k * b.fill := by
  have hs := missing_spec h n
  constructor
  · intro hk
    have := Int.mul_le_mul_of_nonneg_right hk (show 0 ≤ b.fill by omega)
    omega
  · intro hk
    rcases Int.lt_or_le k (missing b n) with hl | hl
    · have := Int.mul_le_mul_of_nonneg_right (show k ≤ missing b n - 1 by omega) (show 0 ≤ b.fill by omega)
      omega
    · exact hl
theorem missing_bd {b : B} (h : 1 ≤ b.fill) {n : Int} (hn : b.tokens ≤ n) : 0 ≤ missing b n ∧ missing b n ≤ n - b.tokens := by
  refine ⟨Int.ediv_nonneg (by omega) (by omega), (missing_iff h n _).2 ?_⟩
  have := Int.mul_le_mul_of_nonneg_left h (show 0 ≤ n - b.tokens by omega)
  omega

theorem after_ok {b : B} (h : Ok b) {k now : Int} (hk : 0 ≤ k) (hl : b.filled + k * b.every ≤ now) (hn : now ≤ 1099511627776) : Ok (after b k now) := by
  have h1 : 0 ≤ k * b.fill := Int.mul_nonneg hk (by have := h.f1; omega)
  have h2 : 0 ≤ k * b.every := Int.mul_nonneg hk (by have := h.e1; omega)
  have := h.t1
  have := h.m1
  have := h.l1
  exact ⟨h.m1, h.m2, h.f1, h.f2, h.e1, h.e2, by simp only [after]; omega, by simp only [after]; omega, by simp only [after]; omega, hl, hn⟩
theorem pass_ok {b : B} (h : Ok b) {now : Int} (h1 : b.told ≤ now) (h2 : now ≤ 1099511627776) : Ok (pass b now) := by
  have hs := fillings_spec h.e1 now
  have := h.l2
  exact after_ok h (fillings_nonneg h.e1 (by omega)) (by omega) h2
/-- some fillings ahead change nothing -/
theorem pass_after {b : B} (h : Ok b) {k t now : Int} (hl : b.filled + k * b.every ≤ now) : pass (after b k t) now = pass b now := by
  have he := h.e1
  have hf := h.f1
  have hs := fillings_spec he now
  have e : fillings (after b k t) now = fillings b now - k := by
    refine (quo_iff _ _ _ he).2 ?_
    simp only [after, Int.sub_mul]
    omega
  have hk2 : k ≤ fillings b now := (Int.le_ediv_iff_mul_le (by omega)).2 (by omega)
  have hm : 0 ≤ (fillings b now - k) * b.fill := Int.mul_nonneg (by omega) (by omega)
  unfold pass
  rw [e]
  simp only [after, Int.sub_mul] at hm ⊢
  congr 1 <;> omega
theorem pass_pass {b : B} (h : Ok b) {t now : Int} (h2 : t ≤ now) : pass (pass b t) now = pass b now := by
  have hs := fillings_spec h.e1 t
  exact pass_after h (by omega)
theorem pass_told {b : B} {now : Int} : (pass b now).told = now := rfl
/-- no filling is left -/
theorem pass_done {b : B} (h : Ok b) {now : Int} : fillings (pass b now) now = 0 := by
  have hs := fillings_spec h.e1 now
  refine (quo_iff _ _ _ h.e1).2 ?_
  simp only [pass, after]
  omega
theorem pass_same {b : B} (h : Ok b) (h1 : b.told - b.filled < b.every) : pass b b.told = b := by
  have h2 := h.l2
  have h3 := h.t2
  have e : fillings b b.told = 0 := (quo_iff _ _ _ h.e1).2 (by omega)
  unfold pass
  rw [e]
  cases b
  simp only [after] at *
  congr 1 <;> omega

/-- the full bucket -/
def full (m f e now : Int) : B := ⟨m, f, e, m, now, now⟩
def fits (n : Int) : Bool := decide (1 ≤ n ∧ n ≤ 1073741824)
theorem full_ok {m f e now : Int} (hm : fits m = true) (hf : fits f = true) (he : fits e = true) (h0 : 0 ≤ now) (h1 : now ≤ 1099511627776) : Ok (full m f e now) := by
  have := of_decide_eq_true hm
  have := of_decide_eq_true hf
  have := of_decide_eq_true he
  exact ⟨by simp only [full]; omega, by simp only [full]; omega, by simp only [full]; omega, by simp only [full]; omega, by simp only [full]; omega, by simp only [full]; omega, by simp only [full]; omega, Int.le_refl _, h0, Int.le_refl _, h1⟩

/-- n tokens fewer, if there are so many -/
def can (b : B) (n : Int) : Bool := decide (1 ≤ n ∧ n ≤ b.tokens)
def less (b : B) (n : Int) : B := if can b n then { b with tokens := b.tokens - n } else b
theorem less_ok {b : B} (h : Ok b) (n : Int) : Ok (less b n) := by
  unfold less
  split
  · rename_i hc
    have := of_decide_eq_true hc
    have := h.t2
    exact ⟨h.m1, h.m2, h.f1, h.f2, h.e1, h.e2, by simp only; omega, by simp only; omega, h.l1, h.l2, h.n2⟩
  · exact h
/-- how long until there are n -/
def wait (b : B) (n : Int) : Int := if n ≤ b.tokens then 0 else if b.most < n then -1 else b.filled + missing b n * b.every - b.told
end Go.Proofs.Ytfdpoibmlggfbaa.BucketPure

/- Layer 16: a chain of filters over lists. No program is named. -/
namespace Go.Proofs.Ytfdpoibmlggfbaa.FilterPure
open Bytes LexPure PathPure ConfPure ConfBack FieldsPure BucketPure
set_option maxRecDepth 20000
set_option linter.unusedVariables false
structure Verd where
  stop : Bool
  status : Int
  fields : List HField
  body : L
  pass : List HField
def none16 : Verd := ⟨false, 0, [], [], []⟩
def say16 (st : Int) (fs : List HField) (body : L) : Verd := ⟨true, st, fs, body, []⟩
def SLOW : L := [115, 108, 111, 119, 32, 100, 111, 119, 110]
def NOENTRY : L := [110, 111, 32, 101, 110, 116, 114, 121]
def TOOMUCH : L := [116, 111, 111, 32, 109, 117, 99, 104]
def FAULT : L := [102, 97, 117, 108, 116]
def WWW : L := [87, 87, 87, 45, 65, 117, 116, 104, 101, 110, 116, 105, 99, 97, 116, 101]
def TOKENW : L := [84, 111, 107, 101, 110]
def ORIGIN : L := [111, 114, 105, 103, 105, 110]
def ACRM : L := [97, 99, 99, 101, 115, 115, 45, 99, 111, 110, 116, 114, 111, 108, 45, 114, 101, 113, 117, 101, 115, 116, 45, 109, 101, 116, 104, 111, 100]
def OPTIONS : L := [79, 80, 84, 73, 79, 78, 83]
def ACAO : L := [65, 99, 99, 101, 115, 115, 45, 67, 111, 110, 116, 114, 111, 108, 45, 65, 108, 108, 111, 119, 45, 79, 114, 105, 103, 105, 110]
def ACAM : L := [65, 99, 99, 101, 115, 115, 45, 67, 111, 110, 116, 114, 111, 108, 45, 65, 108, 108, 111, 119, 45, 77, 101, 116, 104, 111, 100, 115]
/-- a preflight -/
def pre16 (method : L) (G : List HField) : Bool := method == OPTIONS && (decide (0 < getN G ORIGIN) && decide (0 < getN G ACRM))
/-- what a filter says; dv: what the dice draws at a state -/
def one16 (dv : Int → Int) (f : Filt) (b : B) (d now : Int) (method : L) (G : List HField) (size : Int) : Verd :=
  if f.kind = 3 then (if can (BucketPure.pass b now) 1 then none16 else say16 429 [] SLOW)
  else if f.kind = 4 then (if getN G f.name = 1 ∧ getV G f.name = f.value then none16 else say16 401 [(WWW, TOKENW)] NOENTRY)
  else if f.kind = 5 then (if pre16 method G then say16 200 [(ACAO, f.value), (ACAM, getV G ACRM)] [] else none16)
  else if f.kind = 6 then (if f.n < size then say16 413 [] TOOMUCH else none16)
  else if f.kind = 7 then (if dv d < f.n then say16 f.m [] FAULT else none16)
  else none16
/-- the fields behind a filter that doesn't reply -/
def fld16 (f : Filt) (G : List HField) : List HField := if f.kind = 1 then setF G f.name f.value else if f.kind = 2 ∨ f.kind = 4 then remove G f.name else G
def bkt16 (f : Filt) (b : B) (now : Int) : B := if f.kind = 3 then less (BucketPure.pass b now) 1 else b
def dce16 (dn : Int → Int) (f : Filt) (d : Int) : Int := if f.kind = 7 then dn d else d
def run16 (dv dn : Int → Int) (now : Int) (method : L) (size : Int) : List Filt → List B → Int → List HField → Verd × List B × Int
  | [], bs, d, G => (⟨false, 0, [], [], G⟩, bs, d)
  | _ :: _, [], d, G => (⟨false, 0, [], [], G⟩, [], d)
  | f :: fs, b :: bs, d, G =>
    if (one16 dv f b d now method G size).stop then (one16 dv f b d now method G size, bkt16 f b now :: bs, dce16 dn f d)
    else ((run16 dv dn now method size fs bs (dce16 dn f d) (fld16 f G)).1, bkt16 f b now :: (run16 dv dn now method size fs bs (dce16 dn f d) (fld16 f G)).2.1, (run16 dv dn now method size fs bs (dce16 dn f d) (fld16 f G)).2.2)
/-- a filter on the way back -/
def back16 (f : Filt) (G : List HField) : List HField := if f.kind = 8 then setF G f.name f.value else if f.kind = 5 then setF G ACAO f.value else G
def resp16 : List Filt → List HField → List HField
  | [], G => G
  | f :: fs, G => back16 f (resp16 fs G)
section
variable {dv dn : Int → Int} {now : Int} {method : L} {size : Int}
theorem run_stop {f : Filt} {fs : List Filt} {b : B} {bs : List B} {d : Int} {G : List HField} (h : (one16 dv f b d now method G size).stop = true) : run16 dv dn now method size (f :: fs) (b :: bs) d G = (one16 dv f b d now method G size, bkt16 f b now :: bs, dce16 dn f d) := by
  conv => lhs; unfold run16
  rw [if_pos h]
theorem run_go {f : Filt} {fs : List Filt} {b : B} {bs : List B} {d : Int} {G : List HField} (h : (one16 dv f b d now method G size).stop = false) : run16 dv dn now method size (f :: fs) (b :: bs) d G = ((run16 dv dn now method size fs bs (dce16 dn f d) (fld16 f G)).1, bkt16 f b now :: (run16 dv dn now method size fs bs (dce16 dn f d) (fld16 f G)).2.1, (run16 dv dn now method size fs bs (dce16 dn f d) (fld16 f G)).2.2) := by
  conv => lhs; unfold run16
  rw [if_neg (by rw [h]; simp)]
/-- what a filter says when it doesn't reply -/
theorem one_none {f : Filt} {b : B} {d : Int} {G : List HField} (h : (one16 dv f b d now method G size).stop = false) : one16 dv f b d now method G size = none16 := by
  unfold one16 at h ⊢
  by_cases e3 : f.kind = 3
  · rw [if_pos e3] at h ⊢
    split at h
    · rename_i q; rw [if_pos q]
    · cases h
  rw [if_neg e3] at h ⊢
  by_cases e4 : f.kind = 4
  · rw [if_pos e4] at h ⊢
    split at h
    · rename_i q; rw [if_pos q]
    · cases h
  rw [if_neg e4] at h ⊢
  by_cases e5 : f.kind = 5
  · rw [if_pos e5] at h ⊢
    split at h
    · cases h
    · rename_i q; rw [if_neg q]
  rw [if_neg e5] at h ⊢
  by_cases e6 : f.kind = 6
  · rw [if_pos e6] at h ⊢
    split at h
    · cases h
    · rename_i q; rw [if_neg q]
  rw [if_neg e6] at h ⊢
  by_cases e7 : f.kind = 7
  · rw [if_pos e7] at h ⊢
    split at h
    · cases h
    · rename_i q; rw [if_neg q]
  rw [if_neg e7]
theorem one_gone {f : Filt} {b : B} {d : Int} {G : List HField} (hd : ∀ s, 0 ≤ dv s ∧ dv s < 100) (h : (one16 dv f b d now method G size).stop = false) : (f.kind = 6 → size ≤ f.n) ∧ (f.kind = 7 → f.n ≠ 100) ∧ (f.kind = 4 → getN G f.name = 1 ∧ getV G f.name = f.value) := by
  unfold one16 at h
  refine ⟨fun e => ?_, fun e => ?_, fun e => ?_⟩
  · rw [e] at h
    simp only [show ((6 : Int) = 3) = False by simp, show ((6 : Int) = 4) = False by simp, show ((6 : Int) = 5) = False by simp, if_false, if_true] at h
    split at h
    · cases h
    · omega
  · rw [e] at h
    simp only [show ((7 : Int) = 3) = False by simp, show ((7 : Int) = 4) = False by simp, show ((7 : Int) = 5) = False by simp, show ((7 : Int) = 6) = False by simp, if_false, if_true] at h
    split at h
    · cases h
    · have := hd d; omega
  · rw [e] at h
    simp only [show ((4 : Int) = 3) = False by simp, if_false, if_true] at h
    split at h
    · assumption
    · cases h
theorem one_stop {f : Filt} {b : B} {d : Int} {G : List HField} (hf : filtB f = true) (h : (one16 dv f b d now method G size).stop = true) : (one16 dv f b d now method G size).pass = [] ∧ (((one16 dv f b d now method G size).status = 200 ∧ method = OPTIONS) ∨ (400 ≤ (one16 dv f b d now method G size).status ∧ (one16 dv f b d now method G size).status ≤ 599)) := by
  have h7 : f.kind = 7 → 400 ≤ f.m ∧ f.m ≤ 599 := fun e => by
    unfold filtB at hf
    rw [e] at hf
    simp [inB] at hf
    omega
  unfold one16 at h ⊢
  by_cases e3 : f.kind = 3
  · rw [if_pos e3] at h ⊢
    split at h
    · cases h
    · rename_i q; rw [if_neg q]; exact ⟨rfl, .inr ⟨by decide, by decide⟩⟩
  rw [if_neg e3] at h ⊢
  by_cases e4 : f.kind = 4
  · rw [if_pos e4] at h ⊢
    split at h
    · cases h
    · rename_i q; rw [if_neg q]; exact ⟨rfl, .inr ⟨by decide, by decide⟩⟩
  rw [if_neg e4] at h ⊢
  by_cases e5 : f.kind = 5
  · rw [if_pos e5] at h ⊢
    split at h
    · rename_i q; rw [if_pos q]
      refine ⟨rfl, .inl ⟨rfl, ?_⟩⟩
      unfold pre16 at q
      simp only [Bool.and_eq_true, beq_iff_eq] at q
      exact q.1
    · cases h
  rw [if_neg e5] at h ⊢
  by_cases e6 : f.kind = 6
  · rw [if_pos e6] at h ⊢
    split at h
    · rename_i q; rw [if_pos q]; exact ⟨rfl, .inr ⟨by decide, by decide⟩⟩
    · cases h
  rw [if_neg e6] at h ⊢
  by_cases e7 : f.kind = 7
  · rw [if_pos e7] at h ⊢
    split at h
    · rename_i q; rw [if_pos q]; exact ⟨rfl, .inr (h7 e7)⟩
    · cases h
  rw [if_neg e7] at h
  cases h
theorem remove_le (G : List HField) (n m : L) : getN (remove G m) n ≤ getN G n := by
  unfold getN remove
  exact List.Sublist.countP_le List.filter_sublist
/-- a name that is gone stays so behind filters that set nothing -/
theorem run_gone : ∀ (fs : List Filt) (bs : List B) (d : Int) (G : List HField) (n : L), (∀ f ∈ fs, f.kind ≠ 1) → getN G n = 0 → (run16 dv dn now method size fs bs d G).1.stop = false → getN (run16 dv dn now method size fs bs d G).1.pass n = 0
  | [], bs, d, G, n, _, h0, _ => h0
  | _ :: _, [], d, G, n, _, h0, _ => h0
  | f :: fs, b :: bs, d, G, n, hk, h0, hs => by
    cases h : (one16 dv f b d now method G size).stop with
    | true => rw [run_stop h] at hs; rw [h] at hs; cases hs
    | false =>
      rw [run_go h] at hs ⊢
      refine run_gone fs bs _ _ n (fun g hg => hk g (List.mem_cons_of_mem _ hg)) ?_ hs
      unfold fld16
      rw [if_neg (hk f List.mem_cons_self)]
      split
      · have := remove_le G n f.name; omega
      · exact h0
/-- FilterGuards, of a request that goes on -/
theorem guards_pass (hd : ∀ s, 0 ≤ dv s ∧ dv s < 100) : ∀ (fs : List Filt) (bs : List B) (d : Int) (G : List HField), bs.length = fs.length → (run16 dv dn now method size fs bs d G).1.stop = false →
    ((run16 dv dn now method size fs bs d G).1.status = 0 ∧ (run16 dv dn now method size fs bs d G).1.body = [] ∧ (run16 dv dn now method size fs bs d G).1.fields = []) ∧
    ∀ i (hi : i < fs.length), (fs[i].kind = 6 → size ≤ fs[i].n) ∧ (fs[i].kind = 7 → fs[i].n ≠ 100) ∧ ((fs[i].kind = 2 ∨ fs[i].kind = 4) → (∀ g ∈ fs.drop (i + 1), g.kind ≠ 1) → getN (run16 dv dn now method size fs bs d G).1.pass fs[i].name = 0)
  | [], bs, d, G, _, _ => ⟨⟨rfl, rfl, rfl⟩, fun i hi => by simp at hi⟩
  | _ :: _, [], d, G, hl, _ => by simp at hl
  | f :: fs, b :: bs, d, G, hl, hs => by
    cases h : (one16 dv f b d now method G size).stop with
    | true => rw [run_stop h] at hs; rw [h] at hs; cases hs
    | false =>
      rw [run_go h] at hs ⊢
      obtain ⟨h1, h2⟩ := guards_pass hd fs bs _ _ (by simpa using hl) hs
      refine ⟨h1, fun i hi => ?_⟩
      cases i with
      | zero =>
        obtain ⟨a1, a2, a3⟩ := one_gone hd h
        refine ⟨a1, a2, fun hk hg => ?_⟩
        replace hk : f.kind = 2 ∨ f.kind = 4 := hk
        refine run_gone fs bs _ _ f.name hg ?_ hs
        have h1 : f.kind ≠ 1 := fun e => by
          rcases hk with q | q
          · exact absurd (e.symm.trans q) (by decide)
          · exact absurd (e.symm.trans q) (by decide)
        unfold fld16
        rw [if_neg h1, if_pos hk]
        exact get_remove G f.name
      | succ i => exact h2 i (by simpa using hi)
/-- FilterGuards, of a reply -/
theorem guards_stop : ∀ (fs : List Filt) (bs : List B) (d : Int) (G : List HField), (∀ f ∈ fs, filtB f = true) → (run16 dv dn now method size fs bs d G).1.stop = true →
    (run16 dv dn now method size fs bs d G).1.pass = [] ∧ (((run16 dv dn now method size fs bs d G).1.status = 200 ∧ method = OPTIONS) ∨ (400 ≤ (run16 dv dn now method size fs bs d G).1.status ∧ (run16 dv dn now method size fs bs d G).1.status ≤ 599))
  | [], bs, d, G, _, hs => by cases hs
  | _ :: _, [], d, G, _, hs => by cases hs
  | f :: fs, b :: bs, d, G, hr, hs => by
    cases h : (one16 dv f b d now method G size).stop with
    | true => rw [run_stop h]; exact one_stop (hr f List.mem_cons_self) h
    | false =>
      rw [run_go h] at hs ⊢
      exact guards_stop fs bs _ _ (fun g hg => hr g (List.mem_cons_of_mem _ hg)) hs
/-- two halves of a chain -/
theorem run_append : ∀ (l m : List Filt) (bs cs : List B) (d : Int) (G : List HField), bs.length = l.length →
    run16 dv dn now method size (l ++ m) (bs ++ cs) d G = if (run16 dv dn now method size l bs d G).1.stop then ((run16 dv dn now method size l bs d G).1, (run16 dv dn now method size l bs d G).2.1 ++ cs, (run16 dv dn now method size l bs d G).2.2)
      else ((run16 dv dn now method size m cs (run16 dv dn now method size l bs d G).2.2 (run16 dv dn now method size l bs d G).1.pass).1, (run16 dv dn now method size l bs d G).2.1 ++ (run16 dv dn now method size m cs (run16 dv dn now method size l bs d G).2.2 (run16 dv dn now method size l bs d G).1.pass).2.1, (run16 dv dn now method size m cs (run16 dv dn now method size l bs d G).2.2 (run16 dv dn now method size l bs d G).1.pass).2.2)
  | [], m, bs, cs, d, G, hl => by
    obtain rfl : bs = [] := List.length_eq_zero_iff.1 hl
    rfl
  | _ :: _, m, [], cs, d, G, hl => by simp at hl
  | f :: l, m, b :: bs, cs, d, G, hl => by
    rw [List.cons_append, List.cons_append]
    cases h : (one16 dv f b d now method G size).stop with
    | true => rw [run_stop h, run_stop h, if_pos h]; rfl
    | false =>
      rw [run_go h, run_go h, run_append l m bs cs _ _ (by simpa using hl)]
      by_cases hs : (run16 dv dn now method size l bs (dce16 dn f d) (fld16 f G)).1.stop = true
      · rw [if_pos hs, if_pos hs]; rfl
      · rw [if_neg hs, if_neg hs]; rfl
/-- without faults the dice doesn't matter -/
theorem run_dice : ∀ (fs : List Filt) (bs : List B) (d d' : Int) (G : List HField), (∀ f ∈ fs, f.kind ≠ 7) → (run16 dv dn now method size fs bs d G).1 = (run16 dv dn now method size fs bs d' G).1
  | [], bs, d, d', G, _ => by cases bs <;> rfl
  | _ :: _, [], d, d', G, _ => rfl
  | f :: fs, b :: bs, d, d', G, hk => by
    have e : one16 dv f b d now method G size = one16 dv f b d' now method G size := by
      unfold one16
      simp only [if_neg (hk f List.mem_cons_self)]
    cases h : (one16 dv f b d now method G size).stop with
    | true => rw [run_stop h, run_stop (e ▸ h), e]
    | false =>
      rw [run_go h, run_go (e ▸ h)]
      exact run_dice fs bs _ _ _ (fun g hg => hk g (List.mem_cons_of_mem _ hg))
/-- without limits and faults nothing is left behind -/
theorem run_still : ∀ (fs : List Filt) (bs : List B) (d : Int) (G : List HField), (∀ f ∈ fs, f.kind ≠ 3 ∧ f.kind ≠ 7) → (run16 dv dn now method size fs bs d G).2 = (bs, d)
  | [], bs, d, G, _ => by cases bs <;> rfl
  | _ :: _, [], d, G, _ => rfl
  | f :: fs, b :: bs, d, G, hk => by
    obtain ⟨k3, k7⟩ := hk f List.mem_cons_self
    have e1 : bkt16 f b now = b := if_neg k3
    have e2 : dce16 dn f d = d := if_neg k7
    cases h : (one16 dv f b d now method G size).stop with
    | true => rw [run_stop h, e1, e2]
    | false =>
      rw [run_go h, e1, e2]
      have := run_still fs bs d (fld16 f G) (fun g hg => hk g (List.mem_cons_of_mem _ hg))
      rw [this]
end
/-! ### the way back -/
/-- the name that a filter sets on the way back -/
def name16 (f : Filt) : Option L := if f.kind = 8 then some f.name else if f.kind = 5 then some ACAO else none
theorem back_some {f : Filt} {n : L} (h : name16 f = some n) (G : List HField) : back16 f G = setF G n f.value := by
  unfold name16 at h
  unfold back16
  by_cases h8 : f.kind = 8
  · rw [if_pos h8] at h ⊢; injection h with h; rw [h]
  · rw [if_neg h8] at h ⊢
    by_cases h5 : f.kind = 5
    · rw [if_pos h5] at h ⊢; injection h with h; rw [h]
    · rw [if_neg h5] at h; cases h
theorem back_none {f : Filt} (h : name16 f = none) (G : List HField) : back16 f G = G := by
  unfold name16 at h
  unfold back16
  by_cases h8 : f.kind = 8
  · rw [if_pos h8] at h; cases h
  · rw [if_neg h8] at h ⊢
    by_cases h5 : f.kind = 5
    · rw [if_pos h5] at h; cases h
    · rw [if_neg h5]
/-- filters ahead that set other names leave a name as it is -/
theorem resp_keep (fs : List Filt) (G : List HField) (n : L) (h : ∀ f ∈ fs, ∀ m, name16 f = some m → alike m n = false) : getN (resp16 fs G) n = getN G n ∧ getV (resp16 fs G) n = getV G n := by
  induction fs with
  | nil => exact ⟨rfl, rfl⟩
  | cons f fs ih =>
    obtain ⟨h1, h2⟩ := ih (fun g hg => h g (List.mem_cons_of_mem _ hg))
    show getN (back16 f (resp16 fs G)) n = _ ∧ getV (back16 f (resp16 fs G)) n = _
    cases hn : name16 f with
    | none => rw [back_none hn]; exact ⟨h1, h2⟩
    | some m =>
      rw [back_some hn]
      obtain ⟨k1, k2⟩ := get_other_set (resp16 fs G) m f.value n (h f List.mem_cons_self m hn)
      exact ⟨k1.trans h1, k2.trans h2⟩
theorem resp_append (a b : List Filt) (G : List HField) : resp16 (a ++ b) G = resp16 a (resp16 b G) := by
  induction a with
  | nil => rfl
  | cons f a ih => show back16 f (resp16 (a ++ b) G) = _; rw [ih]; rfl
/-- FilterReverse: the first filter of a chain that sets a name has the last word -/
theorem resp_first (a b : List Filt) (f : Filt) (G : List HField) (n : L) (hn : name16 f = some n) (h : ∀ g ∈ a, ∀ m, name16 g = some m → alike m n = false) : getN (resp16 (a ++ f :: b) G) n = 1 ∧ getV (resp16 (a ++ f :: b) G) n = f.value := by
  rw [resp_append]
  obtain ⟨h1, h2⟩ := resp_keep a (resp16 (f :: b) G) n h
  rw [h1, h2]
  show getN (back16 f (resp16 b G)) n = 1 ∧ getV (back16 f (resp16 b G)) n = f.value
  rw [back_some hn]
  exact get_set _ _ _
theorem resp_none (fs : List Filt) (G : List HField) (h : ∀ f ∈ fs, name16 f = none) : resp16 fs G = G := by
  induction fs with
  | nil => rfl
  | cons f fs ih =>
    show back16 f (resp16 fs G) = G
    rw [back_none (h f List.mem_cons_self), ih (fun g hg => h g (List.mem_cons_of_mem _ hg))]
end Go.Proofs.Ytfdpoibmlggfbaa.FilterPure

/- Layer 16: what a chain holds, and what a request makes of it. No program is named. -/
namespace Go.Proofs.Ytfdpoibmlggfbaa.FiltState
open Bytes LexPure PathPure ConfPure ConfBack FieldsPure BucketPure FilterPure
set_option maxRecDepth 20000
set_option linter.unusedVariables false
/-- the filters, a bucket for each (only those of limits count), the dice, the last time -/
structure Cn where
  fs : List Filt
  bs : List B
  d : Int
  seen : Int
def zB : B := ⟨1, 1, 1, 0, 0, 0⟩
def bk16 (f : Filt) : B := if f.kind = 3 then full f.n f.m f.k 0 else zB
def start16 (fs : List Filt) (d : Int) : Cn := ⟨fs, fs.map bk16, d, 0⟩
def refused (s : Cn) (now : Int) : Prop := now < s.seen ∨ 1099511627776 < now
instance (s : Cn) (now : Int) : Decidable (refused s now) := by unfold refused; infer_instance
/-- what a request is told, and the chain behind it -/
def req16 (dv dn : Int → Int) (s : Cn) (now : Int) (method : L) (size : Int) (G : List HField) : Verd × Int := if refused s now then (none16, 20) else ((run16 dv dn now method size s.fs s.bs s.d G).1, 0)
def nxt16 (dv dn : Int → Int) (s : Cn) (now : Int) (method : L) (size : Int) (G : List HField) : Cn := if refused s now then s else ⟨s.fs, (run16 dv dn now method size s.fs s.bs s.d G).2.1, (run16 dv dn now method size s.fs s.bs s.d G).2.2, now⟩
structure Good16 (s : Cn) : Prop where
  len : s.bs.length = s.fs.length
  right : ∀ f ∈ s.fs, filtB f = true
  bk : ∀ b ∈ s.bs, Ok b ∧ b.told ≤ s.seen
  lo : 0 ≤ s.seen
  hi : s.seen ≤ 1099511627776
theorem zB_ok : Ok zB := ⟨by decide, by decide, by decide, by decide, by decide, by decide, by decide, by decide, by decide, by decide, by decide⟩
theorem limit_fits {f : Filt} (hf : filtB f = true) (h : f.kind = 3) : fits f.n = true ∧ fits f.m = true ∧ fits f.k = true := by
  unfold filtB at hf
  rw [if_neg (by omega), if_neg (by omega), if_pos h] at hf
  simp only [Bool.and_eq_true, inB, TOK, decide_eq_true_eq] at hf
  obtain ⟨⟨⟨_, h1⟩, h2⟩, h3⟩ := hf
  exact ⟨decide_eq_true ⟨h1.1, of_decide_eq_true h1.2⟩, decide_eq_true ⟨h2.1, of_decide_eq_true h2.2⟩, decide_eq_true ⟨h3.1, of_decide_eq_true h3.2⟩⟩
theorem bk_ok {f : Filt} (hf : filtB f = true) : Ok (bk16 f) ∧ (bk16 f).told ≤ 0 := by
  unfold bk16
  by_cases h : f.kind = 3
  · rw [if_pos h]
    obtain ⟨h1, h2, h3⟩ := limit_fits hf h
    exact ⟨full_ok h1 h2 h3 (by decide) (by decide), Int.le_refl _⟩
  · rw [if_neg h]
    exact ⟨zB_ok, Int.le_refl _⟩
theorem good_start {fs : List Filt} (h : ∀ f ∈ fs, filtB f = true) (d : Int) : Good16 (start16 fs d) := by
  refine ⟨by simp [start16], h, fun b hb => ?_, Int.le_refl _, show (0 : Int) ≤ 1099511627776 by decide⟩
  obtain ⟨f, hf, rfl⟩ := List.mem_map.1 hb
  exact bk_ok (h f hf)
theorem run_len {dv dn : Int → Int} {now : Int} {method : L} {size : Int} : ∀ (fs : List Filt) (bs : List B) (d : Int) (G : List HField), bs.length = fs.length → (run16 dv dn now method size fs bs d G).2.1.length = fs.length
  | [], bs, d, G, h => by cases bs with | nil => rfl | cons => simp at h
  | _ :: _, [], d, G, h => by simp at h
  | f :: fs, b :: bs, d, G, h => by
    cases hs : (one16 dv f b d now method G size).stop with
    | true => rw [run_stop hs]; simpa using h
    | false =>
      rw [run_go hs]
      have := run_len (dv := dv) (dn := dn) (now := now) (method := method) (size := size) fs bs (dce16 dn f d) (fld16 f G) (by simpa using h)
      simp [this]
theorem run_bk {dv dn : Int → Int} {now : Int} {method : L} {size : Int} (hn : now ≤ 1099511627776) : ∀ (fs : List Filt) (bs : List B) (d : Int) (G : List HField), (∀ b ∈ bs, Ok b ∧ b.told ≤ now) → ∀ b ∈ (run16 dv dn now method size fs bs d G).2.1, Ok b ∧ b.told ≤ now
  | [], bs, d, G, h => by cases bs <;> exact h
  | _ :: _, [], d, G, h => h
  | f :: fs, b :: bs, d, G, h => by
    have hb := h b List.mem_cons_self
    have h0 : Ok (bkt16 f b now) ∧ (bkt16 f b now).told ≤ now := by
      unfold bkt16
      split
      · refine ⟨less_ok (pass_ok hb.1 hb.2 hn) 1, ?_⟩
        unfold less
        split <;> exact Int.le_refl _
      · exact hb
    cases hs : (one16 dv f b d now method G size).stop with
    | true =>
      rw [run_stop hs]
      intro x hx
      rcases List.mem_cons.1 hx with rfl | hx
      · exact h0
      · exact h x (List.mem_cons_of_mem _ hx)
    | false =>
      rw [run_go hs]
      intro x hx
      rcases List.mem_cons.1 hx with rfl | hx
      · exact h0
      · exact run_bk hn fs bs _ _ (fun y hy => h y (List.mem_cons_of_mem _ hy)) x hx
theorem good_next {dv dn : Int → Int} {s : Cn} (h : Good16 s) (now : Int) (method : L) (size : Int) (G : List HField) : Good16 (nxt16 dv dn s now method size G) := by
  unfold nxt16
  split
  · exact h
  · rename_i hr
    have h1 : s.seen ≤ now ∧ now ≤ 1099511627776 := by unfold refused at hr; omega
    exact ⟨run_len _ _ _ _ h.len, h.right, run_bk h1.2 _ _ _ _ (fun b hb => ⟨(h.bk b hb).1, by have := (h.bk b hb).2; omega⟩), by have := h.lo; show (0 : Int) ≤ now; omega, h1.2⟩
end Go.Proofs.Ytfdpoibmlggfbaa.FiltState

/- Layer 16: the lists that a request is told stay short. No program is named. -/
namespace Go.Proofs.Ytfdpoibmlggfbaa.FiltKeep
open Bytes LexPure PathPure ConfPure ConfBack FieldsPure BucketPure FilterPure FiltState
set_option maxRecDepth 20000
set_option linter.unusedVariables false
/-- every name and value has so many bytes at most -/
def FewM (G : List HField) : Prop := ∀ f ∈ G, f.1.length ≤ 1048576 ∧ f.2.length ≤ 1048576
theorem few_set {G : List HField} (h : FewM G) {n v : L} (hn : n.length ≤ 1048576) (hv : v.length ≤ 1048576) : FewM (setF G n v) := by
  intro f hf
  unfold setF at hf
  rcases List.mem_append.1 hf with q | q
  · unfold remove at q
    exact h f (List.mem_filter.1 q).1
  · obtain rfl := List.mem_singleton.1 q
    exact ⟨hn, hv⟩
theorem few_remove {G : List HField} (h : FewM G) (n : L) : FewM (remove G n) := fun f hf => by
  unfold remove at hf
  exact h f (List.mem_filter.1 hf).1
theorem len_set (G : List HField) (n v : L) : (setF G n v).length ≤ G.length + 1 := by
  unfold setF remove
  rw [List.length_append]
  have := List.length_filter_le (fun f => !hit n f) G
  simp
  omega
theorem len_remove (G : List HField) (n : L) : (remove G n).length ≤ G.length := by unfold remove; exact List.length_filter_le _ _
theorem right_len {f : Filt} (h : filtB f = true) : f.name.length ≤ 1048576 ∧ f.value.length ≤ 1048576 := by
  unfold filtB at h
  by_cases h1 : f.kind = 1 ∨ f.kind = 8
  · rw [if_pos h1] at h
    simp only [Bool.and_eq_true, nameB, tokenB, textB, decide_eq_true_eq] at h
    obtain ⟨⟨⟨⟨_, _⟩, _⟩, h2⟩, h3⟩ := h
    exact ⟨by omega, by omega⟩
  rw [if_neg h1] at h
  by_cases h2 : f.kind = 2
  · rw [if_pos h2] at h
    simp only [Bool.and_eq_true, nameB, tokenB, decide_eq_true_eq, beq_iff_eq] at h
    obtain ⟨⟨⟨⟨e, _⟩, _⟩, _⟩, h3⟩ := h
    exact ⟨by omega, by rw [e]; decide⟩
  rw [if_neg h2] at h
  by_cases h3 : f.kind = 3
  · rw [if_pos h3] at h
    simp only [Bool.and_eq_true, beq_iff_eq] at h
    obtain ⟨⟨⟨⟨e, e2⟩, _⟩, _⟩, _⟩ := h
    exact ⟨by rw [e]; decide, by rw [e2]; decide⟩
  rw [if_neg h3] at h
  by_cases h4 : f.kind = 4
  · rw [if_pos h4] at h
    simp only [Bool.and_eq_true, nameB, tokenB, textB, decide_eq_true_eq] at h
    obtain ⟨⟨⟨⟨⟨_, _⟩, _⟩, h5⟩, h6⟩, _⟩ := h
    exact ⟨by omega, by omega⟩
  rw [if_neg h4] at h
  by_cases h5 : f.kind = 5
  · rw [if_pos h5] at h
    simp only [Bool.and_eq_true, beq_iff_eq, textB, decide_eq_true_eq] at h
    obtain ⟨⟨⟨⟨⟨e, _⟩, _⟩, _⟩, h6⟩, _⟩ := h
    exact ⟨by rw [e]; decide, by omega⟩
  rw [if_neg h5] at h
  by_cases h6 : f.kind = 6
  · rw [if_pos h6] at h
    simp only [Bool.and_eq_true, beq_iff_eq] at h
    obtain ⟨⟨⟨⟨e, e2⟩, _⟩, _⟩, _⟩ := h
    exact ⟨by rw [e]; decide, by rw [e2]; decide⟩
  rw [if_neg h6] at h
  by_cases h7 : f.kind = 7
  · rw [if_pos h7] at h
    simp only [Bool.and_eq_true, beq_iff_eq] at h
    obtain ⟨⟨⟨⟨e, e2⟩, _⟩, _⟩, _⟩ := h
    exact ⟨by rw [e]; decide, by rw [e2]; decide⟩
  · rw [if_neg h7] at h
    cases h
theorem fld_keep {f : Filt} (hf : filtB f = true) {G : List HField} (h : FewM G) : FewM (fld16 f G) ∧ (fld16 f G).length ≤ G.length + 1 := by
  obtain ⟨h1, h2⟩ := right_len hf
  unfold fld16
  split
  · exact ⟨few_set h h1 h2, len_set _ _ _⟩
  split
  · exact ⟨few_remove h _, by have := len_remove G f.name; omega⟩
  · exact ⟨h, by omega⟩
theorem getV_len {G : List HField} (h : FewM G) (n : L) : (getV G n).length ≤ 1048576 := by
  unfold getV
  cases hf : G.find? (hit n) with
  | none => exact Nat.zero_le _
  | some x => exact (h x (List.mem_of_find?_eq_some hf)).2
theorem one_keep {dv : Int → Int} {f : Filt} (hf : filtB f = true) {b : B} {d now : Int} {method : L} {G : List HField} {size : Int} (h : FewM G) : FewM (one16 dv f b d now method G size).fields ∧ (one16 dv f b d now method G size).fields.length ≤ 2 ∧ (one16 dv f b d now method G size).pass = [] := by
  have e0 : FewM ([] : List HField) := fun f hf => by cases hf
  unfold one16
  split
  · split <;> exact ⟨e0, Nat.zero_le _, rfl⟩
  split
  · split
    · exact ⟨e0, Nat.zero_le _, rfl⟩
    · exact ⟨fun x hx => by obtain rfl := List.mem_singleton.1 hx; exact ⟨by decide, by decide⟩, by decide, rfl⟩
  split
  · split
    · refine ⟨fun x hx => ?_, Nat.le_refl 2, rfl⟩
      simp only [say16, List.mem_cons, List.not_mem_nil, or_false] at hx
      rcases hx with rfl | rfl
      · exact ⟨show ACAO.length ≤ 1048576 by decide, (right_len hf).2⟩
      · exact ⟨show ACAM.length ≤ 1048576 by decide, getV_len h _⟩
    · exact ⟨e0, Nat.zero_le _, rfl⟩
  split
  · split <;> exact ⟨e0, Nat.zero_le _, rfl⟩
  split
  · split <;> exact ⟨e0, Nat.zero_le _, rfl⟩
  · exact ⟨e0, Nat.zero_le _, rfl⟩
theorem run_keep {dv dn : Int → Int} {now : Int} {method : L} {size : Int} : ∀ (fs : List Filt) (bs : List B) (d : Int) (G : List HField), (∀ f ∈ fs, filtB f = true) → FewM G →
    FewM (run16 dv dn now method size fs bs d G).1.fields ∧ (run16 dv dn now method size fs bs d G).1.fields.length ≤ 2 ∧ FewM (run16 dv dn now method size fs bs d G).1.pass ∧ (run16 dv dn now method size fs bs d G).1.pass.length ≤ G.length + fs.length
  | [], bs, d, G, _, h => by
    have e0 : FewM ([] : List HField) := fun f hf => by cases hf
    cases bs <;> exact ⟨e0, Nat.zero_le _, h, Nat.le_add_right _ _⟩
  | _ :: _, [], d, G, _, h => ⟨(fun f hf => by cases hf), Nat.zero_le _, h, by show G.length ≤ _; omega⟩
  | f :: fs, b :: bs, d, G, hr, h => by
    obtain ⟨k1, k2⟩ := fld_keep (hr f List.mem_cons_self) h
    cases hs : (one16 dv f b d now method G size).stop with
    | true =>
      rw [run_stop hs]
      obtain ⟨a1, a2, a3⟩ := one_keep (dv := dv) (b := b) (d := d) (now := now) (method := method) (size := size) (hr f List.mem_cons_self) h
      exact ⟨a1, a2, by rw [a3]; exact fun f hf => (by cases hf), by rw [a3]; exact Nat.zero_le _⟩
    | false =>
      rw [run_go hs]
      obtain ⟨a1, a2, a3, a4⟩ := run_keep (dv := dv) (dn := dn) (now := now) (method := method) (size := size) fs bs (dce16 dn f d) (fld16 f G) (fun g hg => hr g (List.mem_cons_of_mem _ hg)) k1
      exact ⟨a1, a2, a3, by have e : (f :: fs).length = fs.length + 1 := rfl; show (run16 dv dn now method size fs bs (dce16 dn f d) (fld16 f G)).1.pass.length ≤ _; omega⟩
end Go.Proofs.Ytfdpoibmlggfbaa.FiltKeep

/- The row's last step for any law that changes nothing of what was there: the arguments read as they did, the result is true. No program is named. -/
namespace Go.Proofs.Ytfdpoibmlggfbaa.LawKit
open Go.ChangeShapes Go.WideShapes Go.ChangeAt Go.RowKit
variable {H : Type} {enc : TypeId × Value → H} {P : Program}

theorem trodAll_stays (hl : laidOutB P = true) {W W' : World} {sp : Nat → Bool} : ∀ {ts : List TypeId} {vs : List Value} {ds : List (DataW H)} {ps : List MemPlace},
    (∀ t ∈ ts, P.readableRec t = true ∧ t < P.types.size) → DataW.TrodAll enc P W 0 (fun _ => true) true ts vs ds ps → (∀ p ∈ ps, W.sameAt W' p) → (∀ p ∈ ps, sp p.block = true) →
    DataW.TrodAll enc P W' 0 sp true ts vs ds ps
  | [], [], [], _, _, h, _, _ => h
  | t :: ts, v :: vs, d :: ds, ps, ht, h, hs, hsp => by
    obtain ⟨p, q, h1, h2, rfl⟩ := h
    obtain ⟨hr, hrow⟩ := ht t (List.mem_cons_self ..)
    exact ⟨p, q, WideElems.Trod_stays hl hr hrow h1 (fun x hx => hs x (List.mem_append_left _ hx)) (fun x hx => hsp x (List.mem_append_left _ hx)),
      trodAll_stays hl (fun t ht' => ht t (List.mem_cons_of_mem _ ht')) h2 (fun x hx => hs x (List.mem_append_right _ hx)) (fun x hx => hsp x (List.mem_append_right _ hx)), rfl⟩
  | [], _ :: _, _, _, _, h, _, _ => h.elim
  | [], [], _ :: _, _, _, h, _, _ => h.elim
  | _ :: _, [], _, _, _, h, _, _ => h.elim
  | _ :: _, _ :: _, [], _, _, h, _, _ => h.elim

/-- a law without package variables: true, and nothing that was there has turned -/
theorem law_post {f : Func} {s : ChangeSpec} {W W' : World} {args : Array Value} {ds gs : List (DataW H)} {before : List MemPlace} {bt : TypeId}
    (hl : laidOutB P = true) (ht : f.params.toList.all (fun t => P.readableRec t && decide (t < P.types.size)) = true)
    (hW : DataW.Whole enc P f.params.toList s.vars false W args.toList ds gs before) (hvars : s.vars = [])
    (hfn : s.fn H (ds ++ gs) = { results := [.lit (.bool true)], args := ds }) (hres : f.resultTypes = #[bt]) (hbt : P.underlying bt = some .bool)
    (hb : Below W.heap.size W W') : s.post enc P f false true false false W args (.bool true) W' := by
  have hW' := hW
  obtain ⟨p, q, hA, hV, rfl, hfz, hnd⟩ := hW
  rw [hvars] at hV
  have hlt : ∀ x ∈ p ++ q, x.block < W.heap.size := fun x hx => by simpa using hW'.lt x hx
  obtain ⟨rfl, rfl⟩ : gs = [] ∧ q = [] := by
    cases gs with
    | nil => exact ⟨rfl, hV⟩
    | cons => exact hV.elim
  have hall : ∀ sp : Nat → Bool, (∀ x ∈ p ++ [], sp x.block = true) → DataW.TrodAll enc P W' 0 sp true f.params.toList args.toList ds p := fun sp hsp =>
    trodAll_stays hl (fun t htt => by
      have := List.all_eq_true.1 ht t htt
      simpa using this) hA (fun x hx => hb.same (hlt x (List.mem_append_left _ hx))) (fun x hx => hsp x (List.mem_append_left _ hx))
  have hold : ∀ x ∈ p ++ [], (fun b => decide (b < W.heap.size)) x.block = true := fun x hx => by simpa using hlt x hx
  have hT : ∀ (b : Nat) (sp : Nat → Bool) (hd : Bool), DataW.TrodAll enc P W' b sp hd f.resultTypes.toList ((Value.bool true).resultList f.resultTypes.size) [.lit (.bool true)] [] := fun b sp hd => by
    rw [hres]
    exact trodAll_cons_mk (shut_bool hbt _) trodAll_mk0
  refine ⟨ds, [], p ++ [], [], p, [], hW', ?_, ?_, ?_, World.keptBut_mono (fun x hx => ⟨hx, ?_⟩) (hb.frame (· ∈ p ++ [])), fun h => by cases h⟩
  · rw [hfn]; exact hT _ _ _
  · rw [hfn]; exact hall _ hold
  · rw [hfn, hvars]; rfl
  · exact Or.inr (Or.inl (by simpa using hx))
/-- what is reached through one argument weighs no more than the form lets -/
theorem weights_get {q : Nat → Bool} : ∀ (ts : List TypeId) (ds : List (DataW H)) (i : Nat) (t : TypeId) (d : DataW H), (DataW.weightsEach P ts ds).all q = true → ts[i]? = some t → ds[i]? = some d → (d.weights P t).all q = true
  | [], _, _, _, _, _, h, _ => by simp at h
  | _ :: _, [], _, _, _, _, _, h => by simp at h
  | t' :: ts, d' :: ds, 0, t, d, hq, ht, hd => by
    simp only [List.getElem?_cons_zero, Option.some.injEq] at ht hd
    subst ht; subst hd
    simp only [DataW.weightsEach, List.all_append, Bool.and_eq_true] at hq
    exact hq.1
  | t' :: ts, d' :: ds, i + 1, t, d, hq, ht, hd => by
    simp only [List.getElem?_cons_succ] at ht hd
    simp only [DataW.weightsEach, List.all_append, Bool.and_eq_true] at hq
    exact weights_get ts ds i t d hq.2 ht hd
theorem weight_string {t : TypeId} {s : ByteArray} (h : ((DataW.lit (H := H) (.string s.data.toList)).weights P t).all (fun x => decide (x ≤ reachBytes)) = true) : s.size ≤ 140737488351232 := by
  simp only [DataW.weights, List.all_cons, List.all_nil, Bool.and_true, reachBytes] at h
  have := of_decide_eq_true h
  simpa using this
end Go.Proofs.Ytfdpoibmlggfbaa.LawKit

/- Two closed facts on the loaded program, laid once for all laws of the seat. -/
namespace Go.Proofs.Ytfdpoibmlggfbaa.LawBase
theorem own : ownKnob Try.prog.godebug = none := by kernel_rfl
theorem laidOut : laidOutB Try.prog = true := by kernel_rfl
end Go.Proofs.Ytfdpoibmlggfbaa.LawBase

/- The bulk and the weights of a list of readings. -/
namespace Go.Proofs.Ytfdpoibmlggfbaa.BulkOf
open Go.ChangeShapes Go.WideShapes Go.RowKit Go.Deep
theorem plain_cell {w : World} {a : Addr} {v : Value} (h : w.cell? a = some v) : a = ⟨a.block, a.off, none⟩ := by
  obtain ⟨b, o, e⟩ := a
  cases e with
  | none => rfl
  | some e =>
    have := World.cell?_spot h
    cases this
theorem add_plain (b o i : Nat) : (⟨b, o, none⟩ : Addr).add i = ⟨b, o + i, none⟩ := by unfold Addr.add; split <;> simp_all
theorem bulk_pos {H : Type} (d : DataW H) : 1 ≤ Rows.uptoBulk d := by
  cases d with
  | lit l => cases l <;> simp [Rows.uptoBulk]
  | _ => simp [Rows.uptoBulk]
theorem bulkAll_len {H : Type} : ∀ l : List (DataW H), l.length ≤ Rows.uptoBulkAll l
  | [] => by simp [Rows.uptoBulkAll]
  | d :: r => by
    have h1 := bulk_pos d
    have h2 := bulkAll_len r
    rw [Rows.uptoBulkAll, List.length_cons]
    omega
theorem bulkAll_mem {H : Type} : ∀ (l : List (DataW H)) (d : DataW H), d ∈ l → Rows.uptoBulk d ≤ Rows.uptoBulkAll l
  | [], _, h => by cases h
  | x :: r, d, h => by
    rw [Rows.uptoBulkAll]
    rcases List.mem_cons.1 h with rfl | h
    · omega
    · have := bulkAll_mem r d h
      omega
theorem weightsAll_mem {H : Type} {P : Program} {e : TypeId} (q : Nat → Bool) : ∀ l : List (DataW H), (DataW.weightsAll P e l).all q = true → ∀ d ∈ l, (d.weights P e).all q = true
  | [], _, d, hd => by cases hd
  | x :: l, h, d, hd => by
    simp only [DataW.weightsAll, List.all_append, Bool.and_eq_true] at h
    rcases List.mem_cons.1 hd with rfl | hd
    · exact h.1
    · exact weightsAll_mem q l h.2 d hd
end Go.Proofs.Ytfdpoibmlggfbaa.BulkOf

/- An argument that is a list of structs of one-cell fields: its rows, whatever the fields are. No program is named but by a letter. -/
namespace Go.Proofs.Ytfdpoibmlggfbaa.RowsArg
open Go.ChangeShapes Go.WideShapes Go.ChangeAt Go.RowKit Go.Deep BulkOf
set_option maxRecDepth 20000
section
variable {H : Type} {enc : TypeId × Value → H} {P : Program} {w : World}
/-- a list's value is nil, or it has an address -/
def Nice (v : Value) (n : Nat) : Prop := v = .slice none 0 0 ∨ ∃ a cap, v = .slice (some a) n cap
/-- a list of n rows of k cells -/
def RowsAt (w : World) (v : Value) (n k : Nat) (V : Nat → Nat → Value) : Prop :=
  ∃ p cap, v = .slice p n cap ∧ n ≤ 9223372036854775807 ∧ (0 < n → ∃ g o, p = some ⟨g, o, none⟩ ∧ g < w.heap.size ∧ ∀ i, i < n → ∀ j, j < k → w.cell? ⟨g, o + i * k + j, none⟩ = some (V i j))
theorem RowsAt.below {w w' : World} {v : Value} {n k : Nat} {V : Nat → Nat → Value} (h : RowsAt w v n k V) (hb : Below w.heap.size w w') : RowsAt w' v n k V := by
  obtain ⟨p, cap, hv, hn, hc⟩ := h
  refine ⟨p, cap, hv, hn, fun h0 => ?_⟩
  obtain ⟨g, o, hp, hlt, hcell⟩ := hc h0
  exact ⟨g, o, hp, Nat.lt_of_lt_of_le hlt hb.size, fun i hi j hj => (hb.cell (p := ⟨g, o + i * k + j, none⟩) hlt).trans (hcell i hi j hj)⟩
theorem RowsAt.drewN {w : World} {v : Value} {n k : Nat} {V : Nat → Nat → Value} (h : RowsAt w v n k V) (m : Nat) : RowsAt (w.drewN m) v n k V := h
theorem RowsAt.congr {w : World} {v : Value} {n k : Nat} {V U : Nat → Nat → Value} (h : RowsAt w v n k V) (hVU : ∀ i, i < n → ∀ j, j < k → V i j = U i j) : RowsAt w v n k U := by
  obtain ⟨p, cap, hv, hn, hc⟩ := h
  refine ⟨p, cap, hv, hn, fun h0 => ?_⟩
  obtain ⟨g, o, hp, hlt, hcell⟩ := hc h0
  exact ⟨g, o, hp, hlt, fun i hi j hj => by rw [← hVU i hi j hj]; exact hcell i hi j hj⟩
theorem open_slice_fields {t e : TypeId} {fs : Array Field} {fuel : Nat} {cs : List Value} {x : DataW H × List MemPlace} (ht : P.underlying t = some (.slice e)) (he : P.underlying e = some (.struct fs))
    (hone : oneCellFields P fs = true) (hC : P.cellsOf e = fs.size) (h : DataW.trod enc P w 0 (fun _ => true) true fuel t cs = some x) :
    (cs = [.slice none 0 0] ∧ x = (.nil, [])) ∨
    ∃ (a : Addr) (len cap : Nat) (D : Nat → DataW H) (sp : List (DataW H)), cs = [.slice (some a) len cap] ∧ len ≤ cap ∧ cap ≤ maxLen ∧ x.1 = .slice ((List.range len).map D) sp ∧
      ∀ i, i < len → ∃ (ys : List (DataW H × List MemPlace)) (n : Nat), D i = .agg (ys.map (·.1)) ∧ ys.length = fs.size ∧
        ∀ (j : Nat) (f : Field), fs[j]? = some f → ∃ (v : Value) (y : DataW H × List MemPlace), w.cell? (a.add (i * fs.size + j)) = some v ∧ ys[j]? = some y ∧ DataW.trod enc P w 0 (fun _ => true) true n f.type [v] = some y := by
  rcases open_slice ht h with h0 | ⟨a, len, cap, m, n, D, Pl, hcs, hb, hl, hm, hmm, hx, hi⟩
  · exact .inl h0
  · refine .inr ⟨a, len, cap, D, _, hcs, hl, hm, by rw [hx], fun i him => ?_⟩
    obtain ⟨cs', hc, ht'⟩ := hi i (by rw [hmm, if_pos rfl]; omega)
    rw [hC] at hc
    obtain ⟨ys, n', hn', hy, hlen, hyl, hf⟩ := DataW.trod_struct he ht'
    obtain ⟨_, hcl, hat⟩ := World.cells?_some hc
    simp only [Prod.mk.injEq] at hy
    refine ⟨ys, n', hy.1, hyl, fun j f hj => ?_⟩
    obtain ⟨ho, hk⟩ := hone_of hone j f hj
    have hjl : j < fs.size := (Array.getElem?_eq_some_iff.1 hj).1
    have hcell := hat j hjl
    have hv : cs'[j]? = some (cs'[j]'(by omega)) := List.getElem?_eq_getElem (by omega)
    have h1 := hf j f hj
    rw [ho, hk] at h1
    have hone' : (cs'.drop j).take 1 = [cs'[j]'(by omega)] := by
      rw [List.drop_eq_getElem_cons (by omega)]
      rfl
    rw [hone'] at h1
    have hys : ys[j]? = some (ys[j]'(by omega)) := List.getElem?_eq_getElem (by omega)
    refine ⟨_, _, ?_, hys, h1.trans hys⟩
    rw [← Go.Deep.add_add, hcell, hv]
/-- the rows of such an argument, each cell with its reading -/
theorem rows_core {t e : TypeId} {fs : Array Field} {fuel k : Nat} {v : Value} {d : DataW H} {p : List MemPlace} (ht : P.underlying t = some (.slice e)) (he : P.underlying e = some (.struct fs))
    (hone : oneCellFields P fs = true) (hC : P.cellsOf e = fs.size) (hk : fs.size = k) (hk0 : 0 < k) (h : DataW.trod enc P w 0 (fun _ => true) true fuel t [v] = some (d, p)) :
    ∃ (n : Nat) (V : Nat → Nat → Value) (Y : Nat → Nat → DataW H × List MemPlace) (N : Nat → Nat), RowsAt w v n k V ∧ Nice v n ∧
      (∀ i, i < n → ∀ (j : Nat) (f : Field), fs[j]? = some f → DataW.trod enc P w 0 (fun _ => true) true (N i) f.type [V i j] = some (Y i j)) ∧
      ((d = .nil ∧ n = 0) ∨ ∃ sp, d = .slice ((List.range n).map fun i => .agg ((List.range k).map fun j => (Y i j).1)) sp) := by
  rcases open_slice_fields ht he hone hC h with ⟨hc, hx⟩ | ⟨a, len, cap, D, sp, hc, hlc, hcm, hx, hi⟩
  · obtain rfl : v = .slice none 0 0 := by simpa using hc
    injection hx with hd _
    exact ⟨0, fun _ _ => .int .i64 0, fun _ _ => (.nil, []), fun _ => 0, ⟨none, 0, rfl, Nat.zero_le _, fun h => absurd h (by omega)⟩, .inl rfl, fun i hi => absurd hi (by omega), .inl ⟨hd, rfl⟩⟩
  · obtain rfl : v = .slice (some a) len cap := by simpa using hc
    have hx' : d = .slice ((List.range len).map D) sp := hx
    have hq : ∀ i, ∃ (ys : List (DataW H × List MemPlace)) (n : Nat), i < len → (D i = .agg (ys.map (·.1)) ∧ ys.length = fs.size ∧
        ∀ (j : Nat) (f : Field), fs[j]? = some f → ∃ (v : Value) (y : DataW H × List MemPlace), w.cell? (a.add (i * fs.size + j)) = some v ∧ ys[j]? = some y ∧ DataW.trod enc P w 0 (fun _ => true) true n f.type [v] = some y) := fun i => by
      by_cases h : i < len
      · obtain ⟨ys, n, hh⟩ := hi i h
        exact ⟨ys, n, fun _ => hh⟩
      · exact ⟨[], 0, fun h2 => absurd h2 h⟩
    obtain ⟨ys, hq⟩ := Classical.axiomOfChoice hq
    obtain ⟨N, hq⟩ := Classical.axiomOfChoice hq
    have hcell : ∀ i, i < len → ∀ j, j < k → ∃ u, w.cell? (a.add (i * k + j)) = some u := fun i hil j hjk => by
      obtain ⟨_, _, hf⟩ := hq i hil
      obtain ⟨u, y, hu, _, _⟩ := hf j (fs[j]'(by omega)) (Array.getElem?_eq_getElem (by omega))
      rw [hk] at hu
      exact ⟨u, hu⟩
    let V : Nat → Nat → Value := fun i j => (w.cell? (a.add (i * k + j))).getD (.int .i64 0)
    have hV : ∀ i, i < len → ∀ j, j < k → w.cell? (a.add (i * k + j)) = some (V i j) := fun i hil j hjk => by
      obtain ⟨u, hu⟩ := hcell i hil j hjk
      simp only [V, hu, Option.getD_some]
    refine ⟨len, V, fun i j => (ys i).getD j (.nil, []), N, ⟨some a, cap, rfl, by unfold maxLen at hcm; omega, fun h0 => ?_⟩, .inr ⟨a, cap, rfl⟩, fun i hil j f hj => ?_, .inr ⟨sp, ?_⟩⟩
    · have c0 := hV 0 h0 0 hk0
      have ha := plain_cell c0
      have hae : a = ⟨a.block, a.off, none⟩ := by
        obtain ⟨b, o, e⟩ := a
        cases e with
        | none => rfl
        | some e => simp [Addr.add] at ha
      have hblk := World.block_lt_of_cell? _ _ c0
      obtain ⟨b, o, e⟩ := a
      injection hae with _ _ e3
      subst e3
      refine ⟨b, o, rfl, by simpa [Addr.add] using hblk, fun i hil j hjk => ?_⟩
      have := hV i hil j hjk
      rw [BulkOf.add_plain, ← Nat.add_assoc] at this
      exact this
    · obtain ⟨_, hyl, hf⟩ := hq i hil
      obtain ⟨u, y, hu, hy, hrd⟩ := hf j f hj
      have hjk : j < k := by rw [← hk]; exact (Array.getElem?_eq_some_iff.1 hj).1
      rw [hk] at hu
      have := hV i hil j hjk
      rw [hu] at this
      injection this with e1
      rw [← e1, hrd]
      simp [List.getD, hy]
    · rw [hx']
      congr 1
      refine List.map_congr_left fun i hil => ?_
      obtain ⟨hD, hyl, _⟩ := hq i (List.mem_range.1 hil)
      rw [hD]
      congr 1
      refine List.ext_getElem (by simp [hyl, hk]) fun j h1 h2 => ?_
      simp only [List.getElem_map, List.getElem_range]
      rw [List.length_map] at h1
      simp [List.getD, List.getElem?_eq_getElem h1]
end
end Go.Proofs.Ytfdpoibmlggfbaa.RowsArg

/- Results that are equal. No program is named. -/
namespace Go.Proofs.Ytfdpoibmlggfbaa.Ret
theorem ret_bool {a b : Bool} (h : a = b) : Ending.returned (.bool a) = .returned (.bool b) := by rw [h]
theorem ret_string {a b : ByteArray} (h : a = b) : Ending.returned (.string a) = .returned (.string b) := by rw [h]
theorem ret_num {a b : Int} {p q : Bool} (h : a = b) (k : p = q) : Ending.returned (.tuple #[.int .i64 a, .bool p]) = .returned (.tuple #[.int .i64 b, .bool q]) := by rw [h, k]
end Go.Proofs.Ytfdpoibmlggfbaa.Ret

/- Rows of bytes and of texts that a call owns. No program is named. -/
namespace Go.Proofs.Ytfdpoibmlggfbaa.Rows1
open Bytes Go.RowKit

def bv (c : UInt8) : Value := .int .u8 (c.toNat : Int)
def bvs (l : List UInt8) : List Value := l.map bv
theorem bvs_length (l : List UInt8) : (bvs l).length = l.length := by simp [bvs]
theorem bvs_append (l m : List UInt8) : bvs (l ++ m) = bvs l ++ bvs m := by simp [bvs]
/-- how a row's value looks -/
theorem row_form {w : World} {base n size : Nat} {e : TypeId} {v : Value} {xs : List Value} (h : w.ownsRow base e size v n xs) : ∃ p cap, v = .slice p n cap ∧ (0 < n → ∃ g, p = some ⟨g, 0, none⟩ ∧ v.ownBlock = some g) := by
  rcases h.2 with ⟨hv, hn⟩ | ⟨g, cap, cur, hv, _⟩
  · exact ⟨none, 0, by rw [hv, hn], fun h0 => by omega⟩
  · exact ⟨_, cap, hv, fun _ => ⟨g, rfl, by rw [hv]; rfl⟩⟩
/-- a row of one-cell elements: how it looks, and its cells -/
theorem row_cells {w : World} {base n : Nat} {e : TypeId} {v : Value} {xs : List Value} (h : w.ownsRow base e 1 v n xs) : ∃ p cap, v = .slice p n cap ∧ n ≤ cap ∧ (0 < n → ∃ g, p = some ⟨g, 0, none⟩ ∧ base ≤ g ∧ g < w.heap.size ∧ v.ownBlock = some g ∧ ∀ j, j < n → w.cell? ⟨g, j, none⟩ = xs[j]?) := by
  rcases h.2 with ⟨hv, hn⟩ | ⟨g, cap, cur, hv, hb, hg, hcap, rest⟩
  · exact ⟨none, 0, by rw [hv, hn], by omega, fun h0 => by omega⟩
  · refine ⟨_, cap, hv, hcap, fun _ => ⟨g, rfl, hb, (Array.getElem?_eq_some_iff.1 hg).1, by rw [hv]; rfl, fun j hj => ?_⟩⟩
    have hl : j < xs.length := by have := h.1; omega
    have := h.cells (g := g) (by rw [hv]; rfl) j xs[j] (List.getElem?_eq_getElem hl)
    rw [List.getElem?_eq_getElem hl]
    have e : (⟨g, 0, none⟩ : Addr).add j = ⟨g, j, none⟩ := by unfold Addr.add; split <;> simp_all
    rwa [e] at this
/-- the beginning of a row -/
theorem row_cut {w : World} {base n m cap : Nat} {e : TypeId} {p : Option Addr} {xs : List Value} (h : w.ownsRow base e 1 (.slice p n cap) n xs) (hm : m ≤ n) : w.ownsRow base e 1 (.slice p m cap) m (xs.take m) := by
  refine ⟨by have := h.1; rw [List.length_take]; omega, ?_⟩
  rcases h.2 with ⟨hv, hn⟩ | ⟨g, c, cur, hv, hb, hg, hcap, hmx, hsz, ht⟩
  · injection hv with h1 h2 h3
    exact .inl ⟨by rw [h1, h3, show m = 0 by omega], by omega⟩
  · injection hv with h1 h2 h3
    subst h3
    exact .inr ⟨g, _, cur, by rw [h1], hb, hg, by omega, hmx, hsz, by rw [← ht, List.take_take]; congr 1; omega⟩
/-- 'string(b)' of a row of the call's own -/
theorem own_string {P : Program} {w : World} {base n : Nat} {e : TypeId} {v : Value} {l : List UInt8} (h : w.ownsRow base e 1 v n (bvs l)) (src dst : TypeId) (hs : P.underlying src = some (.slice e)) (he : P.underlying e = some (.int .u8)) (hd : P.underlying dst = some .string) :
    (Go.convert src dst v).run P w = .ok (.string (ofL l)) w := by
  have hl : l.length = n := by have := h.1; rw [bvs_length] at this; omega
  rcases h.2 with ⟨rfl, hn⟩ | ⟨g, cap, cur, rfl, hb, hg, rest⟩
  · have : l = [] := List.length_eq_zero_iff.1 (by omega)
    subst this
    exact Lib.run_convert_nil_bytes w src dst e 0 hs he hd
  · subst hl
    refine run_convert_bytes_back w src dst e ⟨g, 0, none⟩ cap l hs he hd (fun j hj => ?_)
    exact h.cells rfl j _ (by simp [bvs, bv, List.getElem?_eq_getElem hj])
end Go.Proofs.Ytfdpoibmlggfbaa.Rows1

/- Lists of texts: how they lie in memory. -/
namespace Go.Proofs.Ytfdpoibmlggfbaa.Texts
open Go.ChangeShapes Go.WideShapes Go.ChangeAt Go.RowKit LexPure Bytes Ret Rows1
theorem infoS : (Try.prog.info? 9).map (fun i => (i.zero, i.size, i.bytes)) = some (some (.string ByteArray.empty), 1, 16) := by kernel_rfl
def strs (G : List (List UInt8)) : List Value := G.map (fun e => .string (ofL e))
theorem strs_append (G H : List (List UInt8)) : strs (G ++ H) = strs G ++ strs H := by simp [strs]
/-- a list of texts: how it looks and its cells -/
def Texts (w : World) (v : Value) (G : List (List UInt8)) : Prop := ∃ p cap, v = .slice p G.length cap ∧ G.length ≤ 9223372036854775807 ∧ (0 < G.length → ∃ g o, p = some ⟨g, o, none⟩ ∧ g < w.heap.size ∧ ∀ j (hj : j < G.length), w.cell? ⟨g, o + j, none⟩ = some (.string (ofL G[j])))
theorem texts_of {w : World} {base : Nat} {v : Value} {G : List (List UInt8)} (h : w.ownsRow base 9 1 v G.length (Texts.strs G)) : Texts w v G := by
  obtain ⟨p, cap, hv, hle, hc⟩ := row_cells h
  have hcap : cap ≤ maxLen := by
    rcases h.2 with ⟨h1, _⟩ | ⟨_, c2, _, h1, _, _, _, h2, _⟩
    · rw [hv] at h1; injection h1 with _ _ h1; rw [h1]; exact Nat.zero_le _
    · rw [hv] at h1; injection h1 with _ _ h1; rw [h1]; exact h2
  unfold maxLen at hcap
  refine ⟨p, cap, hv, by omega, fun h0 => ?_⟩
  obtain ⟨g, hp, _, hlt, _, hcell⟩ := hc h0
  exact ⟨g, 0, hp, hlt, fun j hj => by rw [Nat.zero_add, hcell j hj]; simp [Texts.strs, List.getElem?_eq_getElem hj]⟩
theorem Texts.below {w w' : World} {v : Value} {G : List (List UInt8)} (h : Texts w v G) (hb : Below w.heap.size w w') : Texts w' v G := by
  obtain ⟨p, cap, hv, hn, hc⟩ := h
  refine ⟨p, cap, hv, hn, fun h0 => ?_⟩
  obtain ⟨g, o, hp, hlt, hcell⟩ := hc h0
  exact ⟨g, o, hp, Nat.lt_of_lt_of_le hlt hb.size, fun j hj => (hb.cell (p := ⟨g, o + j, none⟩) hlt).trans (hcell j hj)⟩
theorem Texts.drewN {w : World} {v : Value} {G : List (List UInt8)} (h : Texts w v G) (m : Nat) : Texts (w.drewN m) v G := h
theorem take_ext {G H : List (List UInt8)} {k : Nat} (hk : k < G.length) (hk2 : k < H.length) (h : G.take k = H.take k) (he : G[k] = H[k]) : G.take (k + 1) = H.take (k + 1) := by
  rw [List.take_add_one, List.take_add_one, h, List.getElem?_eq_getElem hk, List.getElem?_eq_getElem hk2, he]
end Go.Proofs.Ytfdpoibmlggfbaa.Texts

/- Layer 14: configs in memory. No program is named. -/
namespace Go.Proofs.Ytfdpoibmlggfbaa.ConfMem
open Go.ChangeShapes Go.WideShapes Go.ChangeAt Go.RowKit LexPure Bytes Ret Rows1 Texts ConfPure RowsArg BulkOf
set_option maxRecDepth 20000
def filtV (x : Filt) : List Value := [.int .i64 x.kind, .string (ofL x.name), .string (ofL x.value), .int .i64 x.n, .int .i64 x.m, .int .i64 x.k]
def zFilt : Filt := ⟨0, [], [], 0, 0, 0⟩
def Filts (w : World) (v : Value) (G : List Filt) : Prop := RowsAt w v G.length 6 (fun i j => (filtV (G.getD i zFilt)).getD j undef)
theorem Filts.below {w w' : World} {v : Value} {G : List Filt} (h : Filts w v G) (hb : Below w.heap.size w w') : Filts w' v G := RowsAt.below h hb
/-- its value and, where there is one, the cells of the i-th -/
theorem Filts.parts {w : World} {v : Value} {G : List Filt} (h : Filts w v G) : ∃ p cap, v = .slice p G.length cap ∧ G.length ≤ 9223372036854775807 ∧ (0 < G.length → ∃ g o, p = some ⟨g, o, none⟩ ∧ g < w.heap.size ∧ ∀ i (hi : i < G.length),
    w.cell? ⟨g, o + i * 6, none⟩ = some (.int .i64 G[i].kind) ∧ w.cell? ⟨g, o + i * 6 + 1, none⟩ = some (.string (ofL G[i].name)) ∧ w.cell? ⟨g, o + i * 6 + 2, none⟩ = some (.string (ofL G[i].value)) ∧ w.cell? ⟨g, o + i * 6 + 3, none⟩ = some (.int .i64 G[i].n) ∧ w.cell? ⟨g, o + i * 6 + 4, none⟩ = some (.int .i64 G[i].m) ∧ w.cell? ⟨g, o + i * 6 + 5, none⟩ = some (.int .i64 G[i].k)) := by
  obtain ⟨p, cap, hv, hn, hc⟩ := h
  refine ⟨p, cap, hv, hn, fun h0 => ?_⟩
  obtain ⟨g, o, hp, hlt, hcell⟩ := hc h0
  refine ⟨g, o, hp, hlt, fun i hi => ?_⟩
  have e : G.getD i zFilt = G[i] := by simp [List.getD, List.getElem?_eq_getElem hi]
  have c := hcell i hi
  dsimp only at c
  rw [e] at c
  exact ⟨c 0 (by decide), c 1 (by decide), c 2 (by decide), c 3 (by decide), c 4 (by decide), c 5 (by decide)⟩
/-- what a list's value says of its room -/
def CapOk (v : Value) : Prop := ∀ p n cap, v = .slice p n cap → n ≤ cap
def clusV (x : Clus) (h : Value) : List Value := [.string (ofL x.name), .int .i64 x.policy, h, .int .i64 x.conns, .int .i64 x.pending, .int .i64 x.try_, .int .i64 x.fails, .int .i64 x.eject, .int .i64 x.panic]
def zClus : Clus := ⟨[], 0, [], 0, 0, 0, 0, 0, 0⟩
def Cluss (w : World) (v : Value) (G : List Clus) : Prop := ∃ hv : Nat → Value, RowsAt w v G.length 9 (fun i j => (clusV (G.getD i zClus) (hv i)).getD j undef) ∧ ∀ i, i < G.length → Texts w (hv i) (G.getD i zClus).hosts ∧ CapOk (hv i)
theorem Cluss.below {w w' : World} {v : Value} {G : List Clus} (h : Cluss w v G) (hb : Below w.heap.size w w') : Cluss w' v G := by
  obtain ⟨hv, h1, h2⟩ := h
  exact ⟨hv, h1.below hb, fun i hi => ⟨Texts.below (h2 i hi).1 hb, (h2 i hi).2⟩⟩
theorem Cluss.parts {w : World} {v : Value} {G : List Clus} (h : Cluss w v G) : ∃ p cap, v = .slice p G.length cap ∧ G.length ≤ 9223372036854775807 ∧ (0 < G.length → ∃ g o, p = some ⟨g, o, none⟩ ∧ g < w.heap.size ∧ ∀ i (hi : i < G.length), ∃ h, Texts w h G[i].hosts ∧
    w.cell? ⟨g, o + i * 9, none⟩ = some (.string (ofL G[i].name)) ∧ w.cell? ⟨g, o + i * 9 + 1, none⟩ = some (.int .i64 G[i].policy) ∧ w.cell? ⟨g, o + i * 9 + 2, none⟩ = some (h) ∧ w.cell? ⟨g, o + i * 9 + 3, none⟩ = some (.int .i64 G[i].conns) ∧ w.cell? ⟨g, o + i * 9 + 4, none⟩ = some (.int .i64 G[i].pending) ∧ w.cell? ⟨g, o + i * 9 + 5, none⟩ = some (.int .i64 G[i].try_) ∧ w.cell? ⟨g, o + i * 9 + 6, none⟩ = some (.int .i64 G[i].fails) ∧ w.cell? ⟨g, o + i * 9 + 7, none⟩ = some (.int .i64 G[i].eject) ∧ w.cell? ⟨g, o + i * 9 + 8, none⟩ = some (.int .i64 G[i].panic)) := by
  obtain ⟨hv, ⟨p, cap, hv', hn, hc⟩, h2⟩ := h
  refine ⟨p, cap, hv', hn, fun h0 => ?_⟩
  obtain ⟨g, o, hp, hlt, hcell⟩ := hc h0
  refine ⟨g, o, hp, hlt, fun i hi => ?_⟩
  have e : G.getD i zClus = G[i] := by simp [List.getD, List.getElem?_eq_getElem hi]
  have c := hcell i hi
  have d := (h2 i hi).1
  dsimp only at c
  rw [e] at c d
  exact ⟨hv i, d, c 0 (by decide), c 1 (by decide), c 2 (by decide), c 3 (by decide), c 4 (by decide), c 5 (by decide), c 6 (by decide), c 7 (by decide), c 8 (by decide)⟩
def routV (x : Rout) : List Value := [.bool x.pre, .string (ofL x.path), .string (ofL x.method), .string (ofL x.field), .string (ofL x.value), .int .i64 x.action, .string (ofL x.cluster), .int .i64 x.status, .string (ofL x.text), .string (ofL x.rewrite), .int .i64 x.retries, .int .i64 x.timeout, .bool x.upgrade]
def zRout : Rout := ⟨false, [], [], [], [], 0, [], 0, [], [], 0, 0, false⟩
def Routs (w : World) (v : Value) (G : List Rout) : Prop := RowsAt w v G.length 13 (fun i j => (routV (G.getD i zRout)).getD j undef)
theorem Routs.below {w w' : World} {v : Value} {G : List Rout} (h : Routs w v G) (hb : Below w.heap.size w w') : Routs w' v G := RowsAt.below h hb
/-- its value and, where there is one, the cells of the i-th -/
theorem Routs.parts {w : World} {v : Value} {G : List Rout} (h : Routs w v G) : ∃ p cap, v = .slice p G.length cap ∧ G.length ≤ 9223372036854775807 ∧ (0 < G.length → ∃ g o, p = some ⟨g, o, none⟩ ∧ g < w.heap.size ∧ ∀ i (hi : i < G.length),
    w.cell? ⟨g, o + i * 13, none⟩ = some (.bool G[i].pre) ∧ w.cell? ⟨g, o + i * 13 + 1, none⟩ = some (.string (ofL G[i].path)) ∧ w.cell? ⟨g, o + i * 13 + 2, none⟩ = some (.string (ofL G[i].method)) ∧ w.cell? ⟨g, o + i * 13 + 3, none⟩ = some (.string (ofL G[i].field)) ∧ w.cell? ⟨g, o + i * 13 + 4, none⟩ = some (.string (ofL G[i].value)) ∧ w.cell? ⟨g, o + i * 13 + 5, none⟩ = some (.int .i64 G[i].action) ∧ w.cell? ⟨g, o + i * 13 + 6, none⟩ = some (.string (ofL G[i].cluster)) ∧ w.cell? ⟨g, o + i * 13 + 7, none⟩ = some (.int .i64 G[i].status) ∧ w.cell? ⟨g, o + i * 13 + 8, none⟩ = some (.string (ofL G[i].text)) ∧ w.cell? ⟨g, o + i * 13 + 9, none⟩ = some (.string (ofL G[i].rewrite)) ∧ w.cell? ⟨g, o + i * 13 + 10, none⟩ = some (.int .i64 G[i].retries) ∧ w.cell? ⟨g, o + i * 13 + 11, none⟩ = some (.int .i64 G[i].timeout) ∧ w.cell? ⟨g, o + i * 13 + 12, none⟩ = some (.bool G[i].upgrade)) := by
  obtain ⟨p, cap, hv, hn, hc⟩ := h
  refine ⟨p, cap, hv, hn, fun h0 => ?_⟩
  obtain ⟨g, o, hp, hlt, hcell⟩ := hc h0
  refine ⟨g, o, hp, hlt, fun i hi => ?_⟩
  have e : G.getD i zRout = G[i] := by simp [List.getD, List.getElem?_eq_getElem hi]
  have c := hcell i hi
  dsimp only at c
  rw [e] at c
  exact ⟨c 0 (by decide), c 1 (by decide), c 2 (by decide), c 3 (by decide), c 4 (by decide), c 5 (by decide), c 6 (by decide), c 7 (by decide), c 8 (by decide), c 9 (by decide), c 10 (by decide), c 11 (by decide), c 12 (by decide)⟩
def vhosV (x : Vhos) (h : Value) : List Value := [.string (ofL x.domain), h]
def zVhos : Vhos := ⟨[], []⟩
def Vhoss (w : World) (v : Value) (G : List Vhos) : Prop := ∃ hv : Nat → Value, RowsAt w v G.length 2 (fun i j => (vhosV (G.getD i zVhos) (hv i)).getD j undef) ∧ ∀ i, i < G.length → Routs w (hv i) (G.getD i zVhos).routes
theorem Vhoss.below {w w' : World} {v : Value} {G : List Vhos} (h : Vhoss w v G) (hb : Below w.heap.size w w') : Vhoss w' v G := by
  obtain ⟨hv, h1, h2⟩ := h
  exact ⟨hv, h1.below hb, fun i hi => Routs.below (h2 i hi) hb⟩
theorem Vhoss.parts {w : World} {v : Value} {G : List Vhos} (h : Vhoss w v G) : ∃ p cap, v = .slice p G.length cap ∧ G.length ≤ 9223372036854775807 ∧ (0 < G.length → ∃ g o, p = some ⟨g, o, none⟩ ∧ g < w.heap.size ∧ ∀ i (hi : i < G.length), ∃ h, Routs w h G[i].routes ∧
    w.cell? ⟨g, o + i * 2, none⟩ = some (.string (ofL G[i].domain)) ∧ w.cell? ⟨g, o + i * 2 + 1, none⟩ = some (h)) := by
  obtain ⟨hv, ⟨p, cap, hv', hn, hc⟩, h2⟩ := h
  refine ⟨p, cap, hv', hn, fun h0 => ?_⟩
  obtain ⟨g, o, hp, hlt, hcell⟩ := hc h0
  refine ⟨g, o, hp, hlt, fun i hi => ?_⟩
  have e : G.getD i zVhos = G[i] := by simp [List.getD, List.getElem?_eq_getElem hi]
  have c := hcell i hi
  have d := h2 i hi
  dsimp only at c
  rw [e] at c d
  exact ⟨hv i, d, c 0 (by decide), c 1 (by decide)⟩
/-- a config's cells; its three lists -/
def confV (c : Conf) (vf vc vv : Value) : Array Value := #[.int .i64 c.conns, .int .i64 c.body, .int .i64 c.idle, .int .i64 c.grace, .int .i64 c.budget, .int .i64 c.seed, vf, vc, vv]
structure CF (w : World) (vf vc vv : Value) (c : Conf) : Prop where
  filters : Filts w vf c.filters
  clusters : Cluss w vc c.clusters
  vhosts : Vhoss w vv c.vhosts
  capc : CapOk vc
  capv : CapOk vv
theorem CF.below {w w' : World} {vf vc vv : Value} {c : Conf} (h : CF w vf vc vv c) (hb : Below w.heap.size w w') : CF w' vf vc vv c := ⟨h.filters.below hb, h.clusters.below hb, h.vhosts.below hb, h.capc, h.capv⟩
structure FitFilt (x : Filt) : Prop where
  kind : -9223372036854775808 ≤ x.kind ∧ x.kind ≤ 9223372036854775807
  name : x.name.length ≤ 1048576
  value : x.value.length ≤ 1048576
  n : -9223372036854775808 ≤ x.n ∧ x.n ≤ 9223372036854775807
  m : -9223372036854775808 ≤ x.m ∧ x.m ≤ 9223372036854775807
  k : -9223372036854775808 ≤ x.k ∧ x.k ≤ 9223372036854775807
structure FitClus (x : Clus) : Prop where
  name : x.name.length ≤ 1048576
  policy : -9223372036854775808 ≤ x.policy ∧ x.policy ≤ 9223372036854775807
  hosts : x.hosts.length ≤ 1048576 ∧ ∀ t ∈ x.hosts, t.length ≤ 1048576
  conns : -9223372036854775808 ≤ x.conns ∧ x.conns ≤ 9223372036854775807
  pending : -9223372036854775808 ≤ x.pending ∧ x.pending ≤ 9223372036854775807
  try_ : -9223372036854775808 ≤ x.try_ ∧ x.try_ ≤ 9223372036854775807
  fails : -9223372036854775808 ≤ x.fails ∧ x.fails ≤ 9223372036854775807
  eject : -9223372036854775808 ≤ x.eject ∧ x.eject ≤ 9223372036854775807
  panic : -9223372036854775808 ≤ x.panic ∧ x.panic ≤ 9223372036854775807
structure FitRout (x : Rout) : Prop where
  path : x.path.length ≤ 1048576
  method : x.method.length ≤ 1048576
  field : x.field.length ≤ 1048576
  value : x.value.length ≤ 1048576
  action : -9223372036854775808 ≤ x.action ∧ x.action ≤ 9223372036854775807
  cluster : x.cluster.length ≤ 1048576
  status : -9223372036854775808 ≤ x.status ∧ x.status ≤ 9223372036854775807
  text : x.text.length ≤ 1048576
  rewrite : x.rewrite.length ≤ 1048576
  retries : -9223372036854775808 ≤ x.retries ∧ x.retries ≤ 9223372036854775807
  timeout : -9223372036854775808 ≤ x.timeout ∧ x.timeout ≤ 9223372036854775807
structure FitVhos (x : Vhos) : Prop where
  domain : x.domain.length ≤ 1048576
  routes : x.routes.length ≤ 1048576 ∧ ∀ r ∈ x.routes, FitRout r
structure FitConf (c : Conf) : Prop where
  conns : -9223372036854775808 ≤ c.conns ∧ c.conns ≤ 9223372036854775807
  body : -9223372036854775808 ≤ c.body ∧ c.body ≤ 9223372036854775807
  idle : -9223372036854775808 ≤ c.idle ∧ c.idle ≤ 9223372036854775807
  grace : -9223372036854775808 ≤ c.grace ∧ c.grace ≤ 9223372036854775807
  budget : -9223372036854775808 ≤ c.budget ∧ c.budget ≤ 9223372036854775807
  seed : -9223372036854775808 ≤ c.seed ∧ c.seed ≤ 9223372036854775807
  filters : c.filters.length ≤ 1048576 ∧ ∀ x ∈ c.filters, FitFilt x
  clusters : c.clusters.length ≤ 1048576 ∧ ∀ x ∈ c.clusters, FitClus x
  vhosts : c.vhosts.length ≤ 1048576 ∧ ∀ x ∈ c.vhosts, FitVhos x
end Go.Proofs.Ytfdpoibmlggfbaa.ConfMem

/- Words for memory, of my own: a block that holds just these cells; a world in which only one block, and what is new, has turned. No program is named. -/
namespace Go.Proofs.Ytfdpoibmlggfbaa.Mem
open Go.RowKit

/-- block g holds just the cells cs, of element type t; none of them is frozen -/
structure Has (w : World) (g : Nat) (t : TypeId) (cs : Array Value) : Prop where
  at_ : w.heap[g]? = some (.cells cs t (0, 0))

section
variable {w w' : World} {g : Nat} {t : TypeId} {cs : Array Value}
theorem Has.lt (h : Has w g t cs) : g < w.heap.size := by
  have := h.at_
  rcases Nat.lt_or_ge g w.heap.size with hl | hl
  · exact hl
  · rw [Array.getElem?_eq_none hl] at this; cases this
theorem Has.cell (h : Has w g t cs) (i : Nat) : w.cell? ⟨g, i, none⟩ = cs[i]? := cell_of_row w g i cs t (0, 0) h.at_
theorem Has.free (h : Has w g t cs) (i : Nat) : w.frozen? ⟨g, i, none⟩ = false := by
  have := h.at_
  simp [World.frozen?, this]
theorem Has.new (w : World) (t : TypeId) (cs : Array Value) : Has (w.alloc (.cells cs t)) w.heap.size t cs := ⟨heap_alloc_new w _⟩
theorem Has.alloc (h : Has w g t cs) (o : Obj) : Has (w.alloc o) g t cs := ⟨(Below.heap_alloc w o g h.lt).trans h.at_⟩
theorem Has.drew (h : Has w g t cs) : Has w.drew g t cs := ⟨h.at_⟩
theorem Has.drewN (h : Has w g t cs) (n : Nat) : Has (w.drewN n) g t cs := ⟨h.at_⟩
theorem Has.set_ (h : Has w g t cs) (i : Nat) (u : Value) : Has (w.setCell ⟨g, i, none⟩ u) g t (cs.setIfInBounds i u) := by
  have := h.at_
  exact ⟨by simp [World.setCell, Array.getElem?_modify, this]⟩
theorem Has.far (h : Has w g t cs) {p : Addr} (hp : g ≠ p.block) (u : Value) : Has (w.setCell p u) g t cs := ⟨(Below.heap_setCell w p u g hp).trans h.at_⟩
theorem Has.below {B : Nat} (h : Has w g t cs) (hb : Below B w w') (hg : g < B) : Has w' g t cs := ⟨(hb.block g hg).trans h.at_⟩
theorem Has.grown {row : Option Nat} (h : Has w g t cs) (hb : w.grownBy w' row) (hg : some g ≠ row) : Has w' g t cs := ⟨(hb.block g h.lt hg).trans h.at_⟩
theorem Has.ne_ {g' : Nat} {t' : TypeId} {cs' : Array Value} (h : Has w g t cs) (h' : Has w g' t' cs') (hne : t ≠ t') : g ≠ g' := by
  rintro rfl
  have h1 := h.at_
  rw [h'.at_] at h1
  injection h1 with h1
  injection h1 with _ h2
  exact hne h2.symm
end

/-! ### only block g, and what is new -/
section
variable {a w w' : World} {g : Nat} {row : Option Nat}
theorem own_drew (h : a.grownBy w row) : a.grownBy w.drew row := ⟨h.os, h.tape, h.output, h.size, h.block⟩
theorem own_drewN (h : a.grownBy w row) (n : Nat) : a.grownBy (w.drewN n) row := ⟨h.os, h.tape, h.output, h.size, h.block⟩
theorem own_alloc (h : a.grownBy w row) (o : Obj) : a.grownBy (w.alloc o) row :=
  ⟨h.os, h.tape, h.output, Nat.le_trans h.size (by simp), fun i hi hne => (Below.heap_alloc w o i (Nat.lt_of_lt_of_le hi h.size)).trans (h.block i hi hne)⟩
theorem own_set (h : a.grownBy w (some g)) (i : Nat) (u : Value) : a.grownBy (w.setCell ⟨g, i, none⟩ u) (some g) :=
  ⟨h.os, h.tape, h.output, by simpa [World.setCell] using h.size, fun j hj hne => (Below.heap_setCell w _ u j (fun e => hne (by rw [e]))).trans (h.block j hj hne)⟩
theorem own_set_new (h : a.grownBy w row) {p : Addr} (hp : a.heap.size ≤ p.block) (u : Value) : a.grownBy (w.setCell p u) row :=
  ⟨h.os, h.tape, h.output, by simpa [World.setCell] using h.size, fun j hj hne => (Below.heap_setCell w _ u j (fun e => by omega)).trans (h.block j hj hne)⟩
theorem own_of_below (h : Below a.heap.size a w) (row : Option Nat) : a.grownBy w row := ⟨h.os, h.tape, h.output, h.size, fun i hi _ => h.block i hi⟩
theorem own_trans (h : a.grownBy w row) (k : w.grownBy w' row) : a.grownBy w' row :=
  ⟨k.os.trans h.os, k.tape.trans h.tape, k.output.trans h.output, Nat.le_trans h.size k.size, fun i hi hne => (k.block i (Nat.lt_of_lt_of_le hi h.size) hne).trans (h.block i hi hne)⟩
/-- a cell of another block reads as it did -/
theorem own_cell {b i : Nat} (h : a.grownBy w (some g)) (hb : b < a.heap.size) (hne : b ≠ g) : w.cell? ⟨b, i, none⟩ = a.cell? ⟨b, i, none⟩ :=
  World.cell?_of_block (w := a) (h.block b hb (fun e => hne (Option.some.inj e)))
/-- what lies from B on may turn -/
theorem below_own {B : Nat} (h : Below B a w) (k : w.grownBy w' (some g)) (hB : B ≤ w.heap.size) (hg : B ≤ g) : Below B a w' :=
  h.grown k hB (fun j hj => by injection hj with hj; omega)
/-- one call behind another -/
theorem below_chain {a b c : World} (h : Below a.heap.size a b) (k : Below b.heap.size b c) : Below a.heap.size a c :=
  ⟨k.os.trans h.os, k.tape.trans h.tape, k.output.trans h.output, Nat.le_trans h.size k.size, fun i hi => (k.block i (Nat.lt_of_lt_of_le hi h.size)).trans (h.block i hi)⟩
end
end Go.Proofs.Ytfdpoibmlggfbaa.Mem

/- Layer 7: lists of fields, how they lie in memory. -/
namespace Go.Proofs.Ytfdpoibmlggfbaa.Flds
open Go.ChangeShapes Go.WideShapes Go.ChangeAt Go.RowKit LexPure Bytes Ret Rows1 FieldsPure Mem
set_option maxRecDepth 20000
def encF (f : HField) : List Value := [.string (ofL f.1), .string (ofL f.2)]
def encFs (l : List HField) : List Value := l.flatMap encF
theorem encFs_append (a b : List HField) : encFs (a ++ b) = encFs a ++ encFs b := by simp [encFs]
theorem encFs_at : ∀ (l : List HField) (j : Nat) (f : HField), l[j]? = some f → (encFs l)[j * 2]? = some (.string (ofL f.1)) ∧ (encFs l)[j * 2 + 1]? = some (.string (ofL f.2))
  | [], j, f, h => by simp at h
  | x :: l, 0, f, h => by
    have e : x = f := by simpa using h
    subst e
    simp [encFs, encF]
  | x :: l, j + 1, f, h => by
    have ih := encFs_at l j f (by simpa using h)
    have e1 : (j + 1) * 2 = j * 2 + 2 := by omega
    rw [e1]
    simpa [encFs, encF] using ih
/-- every name and value has so many bytes at most -/
def Few (G : List HField) : Prop := ∀ (j : Nat) (h : j < G.length), G[j].1.length ≤ 1048576 ∧ G[j].2.length ≤ 1048576
/-- every name and value lies within reach -/
def Far (G : List HField) : Prop := ∀ (j : Nat) (h : j < G.length), G[j].1.length ≤ 140737488351232 ∧ G[j].2.length ≤ 140737488351232
theorem Few.far {G : List HField} (h : Few G) : Far G := fun j hj => by have := h j hj; omega
theorem infoF : (Try.prog.info? 54).map (fun i => (i.zero, i.size, i.bytes)) = some (some (.agg #[.string ByteArray.empty, .string ByteArray.empty]), 2, 32) := by kernel_rfl
/-- a list of fields: how it looks and its cells -/
def FL (w : World) (v : Value) (G : List HField) : Prop := ∃ p cap, v = .slice p G.length cap ∧ G.length ≤ 4398046511104 ∧ (0 < G.length → ∃ g o, p = some ⟨g, o, none⟩ ∧ g < w.heap.size ∧ ∀ j (hj : j < G.length), w.cell? ⟨g, o + j * 2, none⟩ = some (.string (ofL G[j].1)) ∧ w.cell? ⟨g, o + j * 2 + 1, none⟩ = some (.string (ofL G[j].2)))
theorem FL.below {w w' : World} {v : Value} {G : List HField} (h : FL w v G) (hb : Below w.heap.size w w') : FL w' v G := by
  obtain ⟨p, cap, hv, hn, hc⟩ := h
  refine ⟨p, cap, hv, hn, fun h0 => ?_⟩
  obtain ⟨g, o, hp, hlt, hcell⟩ := hc h0
  exact ⟨g, o, hp, Nat.lt_of_lt_of_le hlt hb.size, fun j hj => ⟨(hb.cell (p := ⟨g, o + j * 2, none⟩) hlt).trans (hcell j hj).1, (hb.cell (p := ⟨g, o + j * 2 + 1, none⟩) hlt).trans (hcell j hj).2⟩⟩
theorem FL.drewN {w : World} {v : Value} {G : List HField} (h : FL w v G) (m : Nat) : FL (w.drewN m) v G := h
/-- a row of a call's own is a list of fields -/
theorem fl_of {w : World} {base : Nat} {v : Value} {G : List HField} (h : w.ownsRow base 54 2 v G.length (encFs G)) (hle : G.length ≤ 4398046511104) : FL w v G := by
  rcases h.2 with ⟨hv, hn⟩ | ⟨g, cap, cur, hv, hb, hg, hcap, rest⟩
  · exact ⟨none, 0, by rw [hv, hn], hle, fun h0 => by omega⟩
  · refine ⟨_, cap, hv, hle, fun _ => ⟨g, 0, rfl, (Array.getElem?_eq_some_iff.1 hg).1, fun j hj => ?_⟩⟩
    have hc := h.cells (g := g) (by rw [hv]; rfl)
    obtain ⟨h1, h2⟩ := encFs_at G j G[j] (List.getElem?_eq_getElem hj)
    have a1 := hc _ _ h1
    have a2 := hc _ _ h2
    have e : ∀ i : Nat, (⟨g, 0, none⟩ : Addr).add i = ⟨g, i, none⟩ := fun i => by unfold Addr.add; split <;> simp_all
    rw [e] at a1 a2
    rw [Nat.zero_add]
    exact ⟨a1, a2⟩
end Go.Proofs.Ytfdpoibmlggfbaa.Flds

/- An argument that is a list of fields, of bulk at most 1048576. -/
namespace Go.Proofs.Ytfdpoibmlggfbaa.FArg
open Go.ChangeShapes Go.WideShapes Go.ChangeAt Go.RowKit Go.Deep LexPure Bytes Ret Rows1 FieldsPure Flds
set_option maxRecDepth 20000
theorem plain_cell {w : World} {a : Addr} {v : Value} (h : w.cell? a = some v) : a = ⟨a.block, a.off, none⟩ := by
  obtain ⟨b, o, e⟩ := a
  cases e with
  | none => rfl
  | some e =>
    have := World.cell?_spot h
    cases this
theorem add_plain (b o i : Nat) : (⟨b, o, none⟩ : Addr).add i = ⟨b, o + i, none⟩ := by unfold Addr.add; split <;> simp_all
theorem bulk_pos {H : Type} (d : DataW H) : 1 ≤ Rows.uptoBulk d := by
  cases d with
  | lit l => cases l <;> simp [Rows.uptoBulk]
  | _ => simp [Rows.uptoBulk]
theorem bulkAll_len {H : Type} : ∀ l : List (DataW H), l.length ≤ Rows.uptoBulkAll l
  | [] => by simp [Rows.uptoBulkAll]
  | d :: r => by
    have h1 := bulk_pos d
    have h2 := bulkAll_len r
    rw [Rows.uptoBulkAll, List.length_cons]
    omega
theorem bulkAll_mem {H : Type} : ∀ (l : List (DataW H)) (d : DataW H), d ∈ l → Rows.uptoBulk d ≤ Rows.uptoBulkAll l
  | [], _, h => by cases h
  | x :: r, d, h => by
    rw [Rows.uptoBulkAll]
    rcases List.mem_cons.1 h with rfl | h
    · omega
    · have := bulkAll_mem r d h
      omega
/-- a list's value is nil, or it has an address -/
def Nice (v : Value) (n : Nat) : Prop := v = .slice none 0 0 ∨ ∃ a cap, v = .slice (some a) n cap
theorem fields_core {H : Type} {enc : TypeId × Value → H} {W : World} {v : Value} {d : DataW H} {p : List MemPlace} {fuel : Nat}
    (hf : DataW.trod enc Try.prog W 0 (fun _ => true) true fuel 32 [v] = some (d, p)) (hb : Rows.uptoBulk d ≤ 1048576) :
    ∃ G, FL W v G ∧ Few G ∧ G.length ≤ 1048576 ∧ Nice v G.length := by
  have he : Try.prog.underlying 54 = some (.struct #[(Try.prog.fieldsOf 54)[0]!, (Try.prog.fieldsOf 54)[1]!]) := by kernel_rfl
  rcases open_slice_pairs Try.underlying32 he (by kernel_rfl) (by kernel_rfl) (by kernel_rfl) (by kernel_rfl) (by kernel_rfl) hf with ⟨hc, hx⟩ | ⟨a, len, cap, m, n, V0, V1, D0, D1, P0, P1, hc, _, hlc, hcm, hm, hx, hi⟩
  · obtain rfl : v = .slice none 0 0 := by simpa using hc
    exact ⟨[], ⟨none, 0, rfl, Nat.zero_le _, fun h => absurd h (by simp)⟩, fun j hj => absurd hj (by simp), Nat.zero_le _, .inl rfl⟩
  · obtain rfl : v = .slice (some a) len cap := by simpa using hc
    injection hx with hd hp
    have hlm : len ≤ m := by rw [hm, if_pos rfl]; exact hlc
    have hS : ∀ i, i < m → ∃ s t : ByteArray, V0 i = .string s ∧ V1 i = .string t ∧ D0 i = .lit (.string s.data.toList) ∧ D1 i = .lit (.string t.data.toList) := fun i him => by
      obtain ⟨_, _, t0, t1⟩ := hi i him
      have u0 : Try.prog.underlying (Try.prog.fieldsOf 54)[0]!.type = some .string := by kernel_rfl
      have u1 : Try.prog.underlying (Try.prog.fieldsOf 54)[1]!.type = some .string := by kernel_rfl
      obtain ⟨s, hs, hs2, _⟩ := DataW.trod_string u0 t0
      obtain ⟨t, ht, ht2, _⟩ := DataW.trod_string u1 t1
      exact ⟨s, t, by simpa using hs, by simpa using ht, by simpa using congrArg Prod.fst hs2, by simpa using congrArg Prod.fst ht2⟩
    rw [hd, Rows.uptoBulk] at hb
    have hlen := bulkAll_len ((List.range len).map fun i => DataW.agg [D0 i, D1 i])
    rw [List.length_map, List.length_range] at hlen
    have hget : ∀ i : Nat, i < len → ∃ f : HField, V0 i = .string (ofL f.1) ∧ V1 i = .string (ofL f.2) ∧ f.1.length ≤ 1048576 ∧ f.2.length ≤ 1048576 := fun i hil => by
      obtain ⟨s, t, hs, ht, hs2, ht2⟩ := hS i (by omega)
      have hb2 := bulkAll_mem ((List.range len).map fun i => DataW.agg [D0 i, D1 i]) (.agg [D0 i, D1 i]) (List.mem_map.2 ⟨i, by simpa using hil, rfl⟩)
      rw [hs2, ht2] at hb2
      simp only [Rows.uptoBulk, Rows.uptoBulkAll] at hb2
      exact ⟨(toL s, toL t), by rw [hs, ofL_toL], by rw [ht, ofL_toL], by show s.data.toList.length ≤ _; omega, by show t.data.toList.length ≤ _; omega⟩
    let f : Nat → HField := fun i => if h : i < len then (hget i h).choose else ([], [])
    have hfs : ∀ i (h : i < len), V0 i = .string (ofL (f i).1) ∧ V1 i = .string (ofL (f i).2) ∧ (f i).1.length ≤ 1048576 ∧ (f i).2.length ≤ 1048576 := fun i h => by
      have := (hget i h).choose_spec
      simp only [f, dif_pos h]
      exact this
    refine ⟨(List.range len).map f, ⟨some a, cap, by simp, by simp; omega, fun h0 => ?_⟩, fun j hj => ?_, by simp; omega, .inr ⟨a, cap, by simp⟩⟩
    · rw [List.length_map, List.length_range] at h0
      obtain ⟨c0, _⟩ := hi 0 (by omega)
      have ha := plain_cell c0
      have hae : a = ⟨a.block, a.off, none⟩ := by
        obtain ⟨b, o, e⟩ := a
        cases e with
        | none => rfl
        | some e => simp [Addr.add] at ha
      have hblk := World.block_lt_of_cell? _ _ c0
      obtain ⟨b, o, e⟩ := a
      injection hae with _ _ e3
      subst e3
      refine ⟨b, o, rfl, by simpa [Addr.add] using hblk, fun j hj => ?_⟩
      rw [List.length_map, List.length_range] at hj
      obtain ⟨c1, c2, _⟩ := hi j (by omega)
      obtain ⟨v0, v1, _, _⟩ := hfs j hj
      rw [v0] at c1
      rw [v1] at c2
      simp only [List.getElem_map, List.getElem_range]
      rw [add_plain] at c1 c2
      exact ⟨c1, by rw [Nat.add_assoc]; exact c2⟩
    · rw [List.length_map, List.length_range] at hj
      simp only [List.getElem_map, List.getElem_range]
      exact (hfs j hj).2.2
theorem fields_arg {H : Type} {enc : TypeId × Value → H} {W : World} {base : Nat} {v : Value} {d : DataW H} {p : List MemPlace} (hv : Value.okWide Try.prog W .any base 32 v)
    (h : DataW.Trod enc Try.prog W 0 (fun _ => true) true 32 v d p) (hb : Rows.uptoBulk d ≤ 1048576) :
    ∃ G, FL W v G ∧ Few G ∧ G.length ≤ 1048576 ∧ Nice v G.length := by
  obtain ⟨a0, len, cap, rfl⟩ := okWide_slice Try.underlying32 hv
  obtain ⟨fuel, hf⟩ := h
  exact fields_core (by simpa [Value.cells] using hf) hb
/-- the same where each string and each slice takes what memory holds: the first form -/
theorem fields_arg_wide {H : Type} {enc : TypeId × Value → H} {W : World} {base : Nat} {v : Value} {d : DataW H} {p : List MemPlace} (hv : Value.okWide Try.prog W .any base 32 v)
    (h : DataW.Trod enc Try.prog W 0 (fun _ => true) true 32 v d p) (hb : (d.weights Try.prog 32).all (· ≤ reachBytes) = true) :
    ∃ G, FL W v G ∧ (∀ (j : Nat) (h : j < G.length), G[j].1.length ≤ 9223372036854775807 ∧ G[j].2.length ≤ 9223372036854775807) ∧ G.length ≤ 4398046510976 ∧ Nice v G.length := by
  obtain ⟨a0, len, cap, rfl⟩ := okWide_slice Try.underlying32 hv
  obtain ⟨fuel, hf⟩ := h
  have he : Try.prog.underlying 54 = some (.struct #[(Try.prog.fieldsOf 54)[0]!, (Try.prog.fieldsOf 54)[1]!]) := by kernel_rfl
  rcases open_slice_pairs Try.underlying32 he (by kernel_rfl) (by kernel_rfl) (by kernel_rfl) (by kernel_rfl) (by kernel_rfl) hf with ⟨hc, hx⟩ | ⟨a, len', cap', m, n, V0, V1, D0, D1, P0, P1, hc, _, hlc, hcm, hm, hx, hi⟩
  · have hc' : Value.slice a0 len cap = .slice none 0 0 := by simpa [Value.cells] using hc
    injection hc' with e1 e2 e3
    subst e1 e2 e3
    exact ⟨[], ⟨none, 0, rfl, Nat.zero_le _, fun h => absurd h (by simp)⟩, fun j hj => absurd hj (by simp), Nat.zero_le _, .inl rfl⟩
  · have hc' : Value.slice a0 len cap = .slice (some a) len' cap' := by simpa [Value.cells] using hc
    injection hc' with e1 e2 e3
    subst e1 e2 e3
    injection hx with hd hp
    have hlm : len ≤ m := by rw [hm, if_pos rfl]; exact hlc
    have hS : ∀ i, i < m → ∃ f : HField, V0 i = .string (ofL f.1) ∧ V1 i = .string (ofL f.2) ∧ f.1.length ≤ 9223372036854775807 ∧ f.2.length ≤ 9223372036854775807 := fun i him => by
      obtain ⟨_, _, t0, t1⟩ := hi i him
      have u0 : Try.prog.underlying (Try.prog.fieldsOf 54)[0]!.type = some .string := by kernel_rfl
      have u1 : Try.prog.underlying (Try.prog.fieldsOf 54)[1]!.type = some .string := by kernel_rfl
      obtain ⟨s, hs, _, ls⟩ := DataW.trod_string u0 t0
      obtain ⟨t, ht, _, lt⟩ := DataW.trod_string u1 t1
      unfold maxLen at ls lt
      exact ⟨(toL s, toL t), by rw [ofL_toL]; simpa using hs, by rw [ofL_toL]; simpa using ht, by rw [toL_length]; exact ls, by rw [toL_length]; exact lt⟩
    have hlen : len * 32 ≤ 140737488351232 := by
      rw [hd] at hb
      simp only [DataW.weights, Try.underlying32, List.all_cons, Bool.and_eq_true] at hb
      have h1 := of_decide_eq_true hb.1
      rw [show Try.prog.bytesOf 54 = 32 by kernel_rfl, List.length_map, List.length_range] at h1
      unfold reachBytes at h1
      omega
    let f : Nat → HField := fun i => if h : i < m then (hS i h).choose else ([], [])
    have hfs : ∀ i (h : i < m), V0 i = .string (ofL (f i).1) ∧ V1 i = .string (ofL (f i).2) ∧ (f i).1.length ≤ 9223372036854775807 ∧ (f i).2.length ≤ 9223372036854775807 := fun i h => by
      have := (hS i h).choose_spec
      simp only [f, dif_pos h]
      exact this
    refine ⟨(List.range len).map f, ⟨some a, cap, by simp, by simp; omega, fun h0 => ?_⟩, fun j hj => ?_, by simp; omega, .inr ⟨a, cap, by simp⟩⟩
    · rw [List.length_map, List.length_range] at h0
      obtain ⟨c0, _⟩ := hi 0 (by omega)
      have ha := plain_cell c0
      have hae : a = ⟨a.block, a.off, none⟩ := by
        obtain ⟨b, o, e⟩ := a
        cases e with
        | none => rfl
        | some e => simp [Addr.add] at ha
      have hblk := World.block_lt_of_cell? _ _ c0
      obtain ⟨b, o, e⟩ := a
      injection hae with _ _ e3
      subst e3
      refine ⟨b, o, rfl, by simpa [Addr.add] using hblk, fun j hj => ?_⟩
      rw [List.length_map, List.length_range] at hj
      obtain ⟨c1, c2, _⟩ := hi j (by omega)
      obtain ⟨v0, v1, _, _⟩ := hfs j (by omega)
      rw [v0] at c1
      rw [v1] at c2
      simp only [List.getElem_map, List.getElem_range]
      rw [add_plain] at c1 c2
      exact ⟨c1, by rw [Nat.add_assoc]; exact c2⟩
    · rw [List.length_map, List.length_range] at hj
      simp only [List.getElem_map, List.getElem_range]
      exact (hfs j (by omega)).2.2
theorem weightsAll_mem {H : Type} {P : Program} {e : TypeId} (q : Nat → Bool) : ∀ l : List (DataW H), (DataW.weightsAll P e l).all q = true → ∀ d ∈ l, (d.weights P e).all q = true
  | [], _, d, hd => by cases hd
  | x :: l, h, d, hd => by
    simp only [DataW.weightsAll, List.all_append, Bool.and_eq_true] at h
    rcases List.mem_cons.1 hd with rfl | hd
    · exact h.1
    · exact weightsAll_mem q l h.2 d hd
theorem fields_core_reach {H : Type} {enc : TypeId × Value → H} {W : World} {v : Value} {d : DataW H} {p : List MemPlace} {fuel : Nat}
    (hf : DataW.trod enc Try.prog W 0 (fun _ => true) true fuel 32 [v] = some (d, p)) (hb : (d.weights Try.prog 32).all (· ≤ reachBytes) = true) :
    ∃ G, FL W v G ∧ Far G ∧ G.length ≤ 4398046510976 ∧ Nice v G.length := by
  have he : Try.prog.underlying 54 = some (.struct #[(Try.prog.fieldsOf 54)[0]!, (Try.prog.fieldsOf 54)[1]!]) := by kernel_rfl
  rcases open_slice_pairs Try.underlying32 he (by kernel_rfl) (by kernel_rfl) (by kernel_rfl) (by kernel_rfl) (by kernel_rfl) hf with ⟨hc, hx⟩ | ⟨a, len, cap, m, n, V0, V1, D0, D1, P0, P1, hc, _, hlc, hcm, hm, hx, hi⟩
  · obtain rfl : v = .slice none 0 0 := by simpa using hc
    exact ⟨[], ⟨none, 0, rfl, Nat.zero_le _, fun h => absurd h (by simp)⟩, fun j hj => absurd hj (by simp), Nat.zero_le _, .inl rfl⟩
  · obtain rfl : v = .slice (some a) len cap := by simpa using hc
    injection hx with hd hp
    have hlm : len ≤ m := by rw [hm, if_pos rfl]; exact hlc
    have hall : ∀ i, i < len → ((DataW.agg [D0 i, D1 i]).weights Try.prog 54).all (· ≤ reachBytes) = true := fun i hil => by
      rw [hd] at hb
      simp only [DataW.weights, Try.underlying32, List.all_cons, Bool.and_eq_true, List.all_append] at hb
      exact weightsAll_mem _ _ hb.2.1 _ (List.mem_map.2 ⟨i, List.mem_range.2 hil, rfl⟩)
    have hS : ∀ i, i < m → ∃ f : HField, V0 i = .string (ofL f.1) ∧ V1 i = .string (ofL f.2) ∧ (i < len → f.1.length ≤ 140737488351232 ∧ f.2.length ≤ 140737488351232) := fun i him => by
      obtain ⟨_, _, t0, t1⟩ := hi i him
      have u0 : Try.prog.underlying (Try.prog.fieldsOf 54)[0]!.type = some .string := by kernel_rfl
      have u1 : Try.prog.underlying (Try.prog.fieldsOf 54)[1]!.type = some .string := by kernel_rfl
      obtain ⟨s, hs, hs2, _⟩ := DataW.trod_string u0 t0
      obtain ⟨t, ht, ht2, _⟩ := DataW.trod_string u1 t1
      have e0 : D0 i = .lit (.string s.data.toList) := by simpa using congrArg Prod.fst hs2
      have e1 : D1 i = .lit (.string t.data.toList) := by simpa using congrArg Prod.fst ht2
      refine ⟨(toL s, toL t), by rw [ofL_toL]; simpa using hs, by rw [ofL_toL]; simpa using ht, fun hil => ?_⟩
      have h := hall i hil
      rw [e0, e1] at h
      simp only [DataW.weights, he, List.map_cons, List.map_nil, DataW.weightsEach, List.all_append, List.all_cons, List.all_nil, Bool.and_true, Bool.and_eq_true] at h
      have h1 := of_decide_eq_true h.1
      have h2 := of_decide_eq_true h.2
      unfold reachBytes at h1 h2
      exact ⟨h1, h2⟩
    have hlen : len * 32 ≤ 140737488351232 := by
      rw [hd] at hb
      simp only [DataW.weights, Try.underlying32, List.all_cons, Bool.and_eq_true] at hb
      have h1 := of_decide_eq_true hb.1
      rw [show Try.prog.bytesOf 54 = 32 by kernel_rfl, List.length_map, List.length_range] at h1
      unfold reachBytes at h1
      omega
    let f : Nat → HField := fun i => if h : i < m then (hS i h).choose else ([], [])
    have hfs : ∀ i (h : i < m), V0 i = .string (ofL (f i).1) ∧ V1 i = .string (ofL (f i).2) ∧ (i < len → (f i).1.length ≤ 140737488351232 ∧ (f i).2.length ≤ 140737488351232) := fun i h => by
      have := (hS i h).choose_spec
      simp only [f, dif_pos h]
      exact this
    refine ⟨(List.range len).map f, ⟨some a, cap, by simp, by simp; omega, fun h0 => ?_⟩, fun j hj => ?_, by simp; omega, .inr ⟨a, cap, by simp⟩⟩
    · rw [List.length_map, List.length_range] at h0
      obtain ⟨c0, _⟩ := hi 0 (by omega)
      have ha := plain_cell c0
      have hae : a = ⟨a.block, a.off, none⟩ := by
        obtain ⟨b, o, e⟩ := a
        cases e with
        | none => rfl
        | some e => simp [Addr.add] at ha
      have hblk := World.block_lt_of_cell? _ _ c0
      obtain ⟨b, o, e⟩ := a
      injection hae with _ _ e3
      subst e3
      refine ⟨b, o, rfl, by simpa [Addr.add] using hblk, fun j hj => ?_⟩
      rw [List.length_map, List.length_range] at hj
      obtain ⟨c1, c2, _⟩ := hi j (by omega)
      obtain ⟨v0, v1, _⟩ := hfs j (by omega)
      rw [v0] at c1
      rw [v1] at c2
      simp only [List.getElem_map, List.getElem_range]
      rw [add_plain] at c1 c2
      exact ⟨c1, by rw [Nat.add_assoc]; exact c2⟩
    · rw [List.length_map, List.length_range] at hj
      simp only [List.getElem_map, List.getElem_range]
      exact (hfs j (by omega)).2.2 (by omega)
theorem fields_arg_reach {H : Type} {enc : TypeId × Value → H} {W : World} {base : Nat} {v : Value} {d : DataW H} {p : List MemPlace} (hv : Value.okWide Try.prog W .any base 32 v)
    (h : DataW.Trod enc Try.prog W 0 (fun _ => true) true 32 v d p) (hb : (d.weights Try.prog 32).all (· ≤ reachBytes) = true) :
    ∃ G, FL W v G ∧ Far G ∧ G.length ≤ 4398046510976 ∧ Nice v G.length := by
  obtain ⟨a0, len, cap, rfl⟩ := okWide_slice Try.underlying32 hv
  obtain ⟨fuel, hf⟩ := h
  exact fields_core_reach (by simpa [Value.cells] using hf) hb
end Go.Proofs.Ytfdpoibmlggfbaa.FArg

/- Layer 7: a row of fields that a call gathers. -/
namespace Go.Proofs.Ytfdpoibmlggfbaa.KeptRow
open Go.ChangeShapes Go.WideShapes Go.ChangeAt Go.RowKit LexPure Bytes Ret Rows1 FieldsPure Flds Mem
set_option maxRecDepth 20000
/-- what is kept of the first k -/
structure Kept (w : World) (X : List HField) (v : Value) (wr : World) : Prop where
  row : wr.ownsRow w.heap.size 54 2 v X.length (encFs X)
  below : Below w.heap.size w wr
theorem Kept.start (w : World) : Kept w [] (.slice none 0 0) w := ⟨World.ownsRow_nil _ _ _ _, Below.refl _ _⟩
theorem row_below {w w' : World} {base n size : Nat} {e : TypeId} {v : Value} {xs : List Value} (h : w.ownsRow base e size v n xs) (hb : Below w.heap.size w w') : w'.ownsRow base e size v n xs := by
  refine ⟨h.1, ?_⟩
  rcases h.2 with h0 | ⟨g, cap, cur, hv, h1, hg, rest⟩
  · exact .inl h0
  · exact .inr ⟨g, cap, cur, hv, h1, (hb.block g (Array.getElem?_eq_some_iff.1 hg).1).trans hg, rest⟩
theorem row_mono {w : World} {base base' n size : Nat} {e : TypeId} {v : Value} {xs : List Value} (h : w.ownsRow base e size v n xs) (hb : base' ≤ base) : w.ownsRow base' e size v n xs := by
  refine ⟨h.1, ?_⟩
  rcases h.2 with h0 | ⟨g, cap, cur, h1, h2, h3⟩
  · exact .inl h0
  · exact .inr ⟨g, cap, cur, h1, Nat.le_trans hb h2, h3⟩
theorem Kept.call {w w1 w2 : World} {X : List HField} {v : Value} (h : Kept w X v w1) (hb : Below w1.heap.size w1 w2) : Kept w X v w2 :=
  ⟨row_below h.row hb, below_chain h.below hb⟩
theorem Kept.alloc {w w1 : World} {X : List HField} {v : Value} (h : Kept w X v w1) (o : Obj) : Kept w X v (w1.alloc o) := h.call ((Below.refl _ _).alloc (Nat.le_refl _) o)
theorem Kept.lt {w w1 : World} {X : List HField} {v : Value} (h : Kept w X v w1) : ∀ j, v.ownBlock = some j → w.heap.size ≤ j := fun j hj => (h.row.lt j hj).1
theorem fl_none (w : World) : FL w (.slice none 0 0) [] := ⟨none, 0, rfl, Nat.zero_le _, fun h => absurd h (by decide)⟩
/-- a row of a call's own, of 32 fields at most -/
def RowF (W : World) (base : Nat) (v : Value) (l : List HField) : Prop := W.ownsRow base 54 2 v l.length (encFs l) ∧ l.length ≤ 32
theorem row_none (W : World) (base : Nat) : RowF W base (.slice none 0 0) [] := ⟨World.ownsRow_nil _ _ _ _, by decide⟩
end Go.Proofs.Ytfdpoibmlggfbaa.KeptRow

/- A list of fields appended to a row of one's own. -/
namespace Go.Proofs.Ytfdpoibmlggfbaa.FRow
open Go.ChangeShapes Go.WideShapes Go.ChangeAt Go.RowKit LexPure Bytes Ret Rows1 FieldsPure Flds KeptRow Mem
set_option maxRecDepth 20000
/-- a list's value is nil, or it has an address -/
abbrev Nice := FArg.Nice
theorem encFs_len (G : List HField) : (encFs G).length = G.length * 2 := by
  induction G with
  | nil => rfl
  | cons f G ih =>
    rw [show f :: G = [f] ++ G from rfl, encFs_append, List.length_append, ih]
    simp [encFs, encF]
    omega
theorem encFs_cells (G : List HField) : ∀ u ∈ encFs G, u.oneCell' = true := by
  intro u hu
  unfold encFs at hu
  obtain ⟨f, _, hf⟩ := List.mem_flatMap.1 hu
  unfold encF at hf
  simp only [List.mem_cons, List.not_mem_nil, or_false] at hf
  rcases hf with rfl | rfl <;> rfl
theorem encFs_get (G : List HField) (j : Nat) (u : Value) (h : (encFs G)[j]? = some u) : ∃ i, ∃ hi : i < G.length, (j = i * 2 ∧ u = .string (ofL G[i].1)) ∨ (j = i * 2 + 1 ∧ u = .string (ofL G[i].2)) := by
  have hj : j < G.length * 2 := by rw [← encFs_len]; exact (List.getElem?_eq_some_iff.1 h).1
  have hi : j / 2 < G.length := by omega
  obtain ⟨h1, h2⟩ := encFs_at G (j / 2) G[j / 2] (List.getElem?_eq_getElem hi)
  refine ⟨j / 2, hi, ?_⟩
  rcases Nat.mod_two_eq_zero_or_one j with e | e
  · have ej : j = j / 2 * 2 := by omega
    rw [← ej] at h1
    rw [h1] at h
    exact .inl ⟨ej, (Option.some.inj h).symm⟩
  · have ej : j = j / 2 * 2 + 1 := by omega
    rw [← ej] at h2
    rw [h2] at h
    exact .inr ⟨ej, (Option.some.inj h).symm⟩
set_option maxHeartbeats 800000 in
theorem run_append_list {w : World} (ty base : Nat) (v : Value) (n : Nat) (xs : List Value) (hown : w.ownsRow base 54 2 v n xs) (y : Value) (G : List HField) (hF : FL w y G) (hy : Nice y G.length)
    (h63 : n + G.length ≤ 4398046511104) (hbase : base ≤ w.heap.size) :
    ∃ v' w', (Builtin.append_ #[32, 32] ty #[v, y]).run Try.prog w = .ok v' w' ∧ w'.ownsRow base 54 2 v' (n + G.length) (xs ++ encFs G) ∧ w.grownBy w' v.ownBlock := by
  obtain ⟨i0, hi, hz0, hz1, hz2⟩ := info_parts infoF
  rcases hy with rfl | ⟨a, cap, rfl⟩
  · obtain ⟨p', c', hv, _, _⟩ := hF
    have hlen : G.length = 0 := by injection hv with _ h _; exact h.symm
    have hG : G = [] := List.eq_nil_of_length_eq_zero hlen
    subst hG
    exact ⟨v, w, run_append_owned_none (P := Try.prog) (w := w) base 32 ty 54 i0 2 Try.underlying32 hi v n xs hown, by simpa [encFs] using hown, World.grownBy.refl w _⟩
  · obtain ⟨p', c', hv, hle, hc⟩ := hF
    injection hv with e1 _ e3
    subst e1 e3
    obtain ⟨v', w', hr, h2, h3, _, _⟩ := run_append_own_at (P := Try.prog) w base 32 ty 54 i0 _ 2 32 Try.underlying32 hi hz0 hz1 hz2 rfl (by omega) v n xs hown a G.length cap (encFs G) (encFs_len G)
      (fun j u h => by
        obtain ⟨i, hi, hh⟩ := encFs_get G j u h
        obtain ⟨g', o', e, _, hcell⟩ := hc (by omega)
        injection e with e
        subst e
        rw [FArg.add_plain]
        rcases hh with ⟨rfl, rfl⟩ | ⟨rfl, rfl⟩
        · exact (hcell i hi).1
        · exact (hcell i hi).2) (encFs_cells G) (by unfold maxLen; omega) (by omega) hbase
    exact ⟨v', w', hr, h2, h3⟩
theorem wpList_append_list {w : World} {ops : Array Oper} {rest : List Oper} {o : Oper} {a : Act} {Q : Exit → Act → World → Prop} (hgd : o.guard = none) (s x : Operand)
    (ho : o.op = .call { callee := .builtin .append, args := #[s, x], argTypes := #[32, 32] }) (base : Nat) (v : Value) (n : Nat) (xs : List Value) (hs : a.eval s = v) (hown : w.ownsRow base 54 2 v n xs)
    (y : Value) (G : List HField) (hx : a.eval x = y) (hF : FL w y G) (hy : Nice y G.length) (h63 : n + G.length ≤ 4398046511104) (hbase : base ≤ w.heap.size)
    (h : ∀ v' w', w'.ownsRow base 54 2 v' (n + G.length) (xs ++ encFs G) → w.grownBy w' v.ownBlock → wpList Try.prog ops Q rest (a.put o.dst v') w') :
    wpList Try.prog ops Q (o :: rest) a w := by
  refine wpList_plain hgd fun K hK => ?_
  obtain ⟨v', w', hrun, r1, r2⟩ := run_append_list o.type base v n xs hown y G hF hy h63 hbase
  unfold Oper.wp execOp
  simp only [ho, resolve, invoke, builtin, Sem.run_bind, Sem.run_pure, Result.andThen_ok, List.map_toArray, List.map_cons, List.map_nil, hs, hx, hrun]
  exact hK _ _ (h v' w' r1 r2)
/-- an empty list that is no nil -/
theorem owns_none (w : World) (t : TypeId) (base : Nat) (hb : base ≤ w.heap.size) : (w.alloc (.cells #[] t)).ownsRow base t 2 (.slice (some ⟨w.heap.size, 0, none⟩) 0 0) 0 [] :=
  ⟨rfl, .inr ⟨w.heap.size, 0, #[], rfl, hb, heap_alloc_new w _, Nat.le_refl _, Nat.zero_le _, rfl, rfl⟩⟩
/-- behind 'append([]api.Field{}, l...)' -/
theorem copied {w1 w4 : World} {v4 : Value} {G : List HField} (h : w4.ownsRow w1.heap.size 54 2 v4 (0 + G.length) ([] ++ encFs G))
    (hg : (w1.alloc (.cells #[] 54)).grownBy w4 (Value.slice (some ⟨w1.heap.size, 0, none⟩) 0 0).ownBlock) :
    w4.ownsRow w1.heap.size 54 2 v4 G.length (encFs G) ∧ Below w1.heap.size w1 w4 := by
  rw [Nat.zero_add, List.nil_append] at h
  exact ⟨h, ((Below.refl _ w1).alloc (Nat.le_refl _) _).grown hg (by simp) (fun j e => by cases e; exact Nat.le_refl _)⟩
theorem fl_new (w : World) (G : List HField) (cells : List Value) (cap : Nat) (hc : cells = encFs G) (hle : G.length ≤ 4398046511104) :
    FL (w.alloc (.cells cells.toArray 54)) (.slice (some ⟨w.heap.size, 0, none⟩) G.length cap) G := by
  refine ⟨_, cap, rfl, hle, fun _ => ⟨w.heap.size, 0, rfl, by simp, fun j hj => ?_⟩⟩
  have h := (Has.new w 54 cells.toArray).cell
  obtain ⟨h1, h2⟩ := encFs_at G j G[j] (List.getElem?_eq_getElem hj)
  rw [Nat.zero_add, h, h]
  subst hc
  constructor
  · simpa using h1
  · simpa using h2
end Go.Proofs.Ytfdpoibmlggfbaa.FRow
