/- Texts of this seat, one behind another: Bytes, LexPure, FieldsPure, HeadPure, LawKit, LawBase, Ret, PNext, CutAt, LexNum, HeadCut, POfValue, LexList, LexSplit, LexLays, Rows1, Texts, PLibT, PToken, PText, CutLays, PCutLib, Mem, Flds. -/
import Derived.ProofKit
import Derived.Laws.Strings
import Derived.Below
import Derived.ChangeSame
import Derived.WideKeyArgs
import Derived.OpenShut
import Derived.Carry
import Derived.SizedLaws
import Derived.Test.YtclecgopmegjeaaDoorRows
import Derived.WalkKit
import Derived.ChangeMaps5
import Derived.Lib.Hide
import Derived.Outline
import Derived.LoopTactic
import Derived.Handy
import Derived.Laws.DeepStrings4
import Derived.Lib.IndexMore
import Derived.Lib.SlTrimSet
import Derived.Lib.SplitLaws
import Derived.Lib.Bytealg
import Derived.Shelf.Strings.SlTrimAscii
import Derived.Shelf.Strings.Split
import Derived.Shelf.Small.Strs
import Derived.Test.YtclecgopmegjeaaDoorProg
import Derived.Laws.AppendOwn
import Derived.Laws.IdiomStrings
import Derived.Lib.BufferRead
import Derived.Deep.Draws
import Derived.Shelf.Vars
import Derived.Shelf.Strings.Search2
import Derived.Shelf.Strings.Cut
import Derived.Lib.IndexBytes
import Derived.RegionTactic
import Derived.ChangeAlike
import Derived.BigRegion
import Derived.Laws.OwnMore
import Derived.Laws.Rows

/- Texts as lists of bytes, and facts on all bytes by reckoning. No program is named. -/
namespace Go.Proofs.YtclecgopmegjeaaDoor.Bytes

/-- a text's bytes, and the text of bytes -/
abbrev toL (s : ByteArray) : List UInt8 := s.data.toList
def ofL (l : List UInt8) : ByteArray := ⟨l.toArray⟩
theorem toL_ofL (l : List UInt8) : toL (ofL l) = l := by simp [toL, ofL]
theorem ofL_toL (s : ByteArray) : ofL (toL s) = s := by cases s; simp [toL, ofL]
theorem ofL_inj {l m : List UInt8} (h : ofL l = ofL m) : l = m := by
  have := congrArg toL h
  rwa [toL_ofL, toL_ofL] at this
theorem toL_inj {s t : ByteArray} (h : toL s = toL t) : s = t := by
  rw [← ofL_toL s, ← ofL_toL t, h]
theorem toL_length (s : ByteArray) : (toL s).length = s.size := by simp [toL]
theorem ofL_size (l : List UInt8) : (ofL l).size = l.length := by simp [ofL, ByteArray.size]
theorem toL_get (s : ByteArray) (k : Nat) (h : k < s.size) : (toL s)[k]? = some s[k] := by
  rw [List.getElem?_eq_getElem (by rw [toL_length]; exact h)]
  simp [toL, ByteArray.getElem_eq_getElem_data]
theorem toL_take_succ (s : ByteArray) (k : Nat) (h : k < s.size) : (toL s).take (k + 1) = (toL s).take k ++ [s[k]] := by
  rw [List.take_add_one, toL_get s k h]
  rfl
theorem toL_drop (s : ByteArray) (k : Nat) (h : k < s.size) : (toL s).drop k = s[k] :: (toL s).drop (k + 1) := by
  rw [List.drop_eq_getElem_cons (by rw [toL_length]; exact h)]
  have := toL_get s k h
  rw [List.getElem?_eq_getElem (by rw [toL_length]; exact h)] at this
  rw [Option.some.inj this]
theorem toL_take_all (s : ByteArray) {k : Nat} (h : s.size ≤ k) : (toL s).take k = toL s := List.take_of_length_le (by rw [toL_length]; exact h)
theorem toL_extract (s : ByteArray) (a b : Nat) : toL (s.extract a b) = ((toL s).take b).drop a := by
  simp [toL, ByteArray.data_extract, Array.toList_extract, List.drop_take]
theorem toL_append (s t : ByteArray) : toL (s ++ t) = toL s ++ toL t := by simp [toL, ByteArray.data_append]
/-- texts held against each other, in the walk's form -/
theorem same_text (s t : ByteArray) : (s.toList == t.toList) = (toL s == toL t) := by rw [ByteArray.toList_eq, ByteArray.toList_eq]
theorem same_ofL (l m : List UInt8) : ((ofL l).toList == (ofL m).toList) = (l == m) := by rw [same_text, toL_ofL, toL_ofL]
/-- a fact on all bytes, by reckoning -/
theorem all_bytes {p : UInt8 → Bool} (h : (List.range 256).all (fun n => p (UInt8.ofNat n)) = true) (b : UInt8) : p b = true := by
  have := List.all_eq_true.1 h b.toNat (List.mem_range.2 b.toNat_lt)
  simpa using this
end Go.Proofs.YtclecgopmegjeaaDoor.Bytes

/- The grammar's small pieces over bytes: what each call of layer 4 answers. No program is named. -/
namespace Go.Proofs.YtclecgopmegjeaaDoor.LexPure
open Bytes

/-- a byte of a token -/
def MarkP (c : Int) : Prop := (48 ≤ c ∧ c ≤ 57) ∨ (65 ≤ c ∧ c ≤ 90) ∨ (97 ≤ c ∧ c ≤ 122) ∨ c = 33 ∨ c = 35 ∨ c = 36 ∨ c = 37 ∨ c = 38 ∨ c = 39 ∨ c = 42 ∨ c = 43 ∨ c = 45 ∨ c = 46 ∨ c = 94 ∨ c = 95 ∨ c = 96 ∨ c = 124 ∨ c = 126
instance (c : Int) : Decidable (MarkP c) := by unfold MarkP; infer_instance
def markB (c : UInt8) : Bool := decide (MarkP (c.toNat : Int))
def blankB (c : UInt8) : Bool := c == 32 || c == 9
def plainB (c : UInt8) : Bool := decide (32 ≤ c.toNat) && c != 127 || c == 9
def small (c : UInt8) : UInt8 := if decide (65 ≤ c.toNat) && decide (c.toNat ≤ 90) then c + 32 else c
def token (s : List UInt8) : Bool := s.all markB && !s.isEmpty
def trim (s : List UInt8) : List UInt8 := ((s.dropWhile blankB).reverse.dropWhile blankB).reverse
def value (s : List UInt8) : Bool := s.all plainB && (s.isEmpty || (!blankB (s.headD 0) && !blankB (s.getLastD 0)))
def lower (s : List UInt8) : List UInt8 := s.map small
def alike (s t : List UInt8) : Bool := lower s == lower t
/-- the pieces between commas -/
def pieces : List UInt8 → List (List UInt8)
  | [] => [[]]
  | c :: s => if c == 44 then [] :: pieces s else match pieces s with
    | [] => [[c]]
    | p :: ps => (c :: p) :: ps
def elements (s : List UInt8) : List (List UInt8) := ((pieces s).map trim).filter (fun e => !e.isEmpty)
/-- a digit's worth (99: none) -/
def dig (c : UInt8) : Nat := if 48 ≤ c.toNat ∧ c.toNat ≤ 57 then c.toNat - 48 else if 65 ≤ c.toNat ∧ c.toNat ≤ 70 then c.toNat - 55 else if 97 ≤ c.toNat ∧ c.toNat ≤ 102 then c.toNat - 87 else 99
def numV (base : Nat) (s : List UInt8) : Nat := s.foldl (fun n c => base * n + dig c) 0
def numOk (base : Nat) (digits : Int) (s : List UInt8) : Bool := !s.isEmpty && decide ((s.length : Int) ≤ digits) && s.all (fun c => decide (dig c < base))
def numR (base : Nat) (digits : Int) (s : List UInt8) : Int := if numOk base digits s then (numV base s : Int) else 0

/-! ### bytes -/
theorem blank_eq (b : UInt8) : decide ((b.toNat : Int) = 32 ∨ (b.toNat : Int) = 9) = blankB b := by
  have := all_bytes (p := fun b => decide ((b.toNat : Int) = 32 ∨ (b.toNat : Int) = 9) == blankB b) (by decide +kernel) b
  simpa using this
theorem small_small (b : UInt8) : small (small b) = small b := by
  have := all_bytes (p := fun b => small (small b) == small b) (by decide +kernel) b
  simpa using this
theorem small_mark (b : UInt8) : markB (small b) = markB b := by
  have := all_bytes (p := fun b => markB (small b) == markB b) (by decide +kernel) b
  simpa using this
theorem small_plain (b : UInt8) : plainB (small b) = plainB b := by
  have := all_bytes (p := fun b => plainB (small b) == plainB b) (by decide +kernel) b
  simpa using this
theorem small_blank (b : UInt8) : blankB (small b) = blankB b := by
  have := all_bytes (p := fun b => blankB (small b) == blankB b) (by decide +kernel) b
  simpa using this
theorem small_comma (b : UInt8) : (small b == 44) = (b == 44) := by
  have := all_bytes (p := fun b => (small b == 44) == (b == 44)) (by decide +kernel) b
  simpa using this

/-! ### small letters -/
theorem lower_lower (s : List UInt8) : lower (lower s) = lower s := by
  simp [lower, Function.comp_def, small_small]
theorem lower_length (s : List UInt8) : (lower s).length = s.length := by simp [lower]
theorem alike_self (s : List UInt8) : alike s s = true := by simp [alike]
theorem alike_lower (s : List UInt8) : alike s (lower s) = true := by simp [alike, lower_lower]
theorem alike_lower' (s : List UInt8) : alike (lower s) s = true := by simp [alike, lower_lower]
theorem alike_comm (s t : List UInt8) : alike s t = alike t s := by
  unfold alike
  rw [Bool.eq_iff_iff, beq_iff_eq, beq_iff_eq]
  exact eq_comm
theorem alike_lower_left (s t : List UInt8) : alike (lower s) t = alike s t := by simp [alike, lower_lower]
theorem token_lower (s : List UInt8) : token (lower s) = token s := by
  unfold token lower
  simp [List.all_map, Function.comp_def, small_mark]
theorem headD_map (s : List UInt8) : blankB ((s.map small).headD 0) = blankB (s.headD 0) := by
  cases s with
  | nil => rfl
  | cons c s => exact small_blank c
theorem getLastD_map (s : List UInt8) : blankB ((s.map small).getLastD 0) = blankB (s.getLastD 0) := by
  rw [List.getLastD_eq_getLast?, List.getLastD_eq_getLast?, List.getLast?_map]
  cases s.getLast? with
  | none => rfl
  | some c => exact small_blank c
theorem value_lower (s : List UInt8) : value (lower s) = value s := by
  unfold value lower
  rw [headD_map, getLastD_map]
  simp [List.all_map, Function.comp_def, small_plain]

/-! ### blanks at both ends -/
theorem dropWhile_idem (s : List UInt8) : (s.dropWhile blankB).dropWhile blankB = s.dropWhile blankB := by
  induction s with
  | nil => rfl
  | cons c s ih =>
    by_cases h : blankB c = true
    · simp [h, ih]
    · simp [h]
/-- what stays has no blank at its beginning -/
theorem dropWhile_head {s : List UInt8} {c : UInt8} {r : List UInt8} (h : s.dropWhile blankB = c :: r) : blankB c = false := by
  induction s with
  | nil => cases h
  | cons d s ih =>
    by_cases hd : blankB d = true
    · rw [List.dropWhile_cons, if_pos hd] at h
      exact ih h
    · rw [List.dropWhile_cons, if_neg hd] at h
      injection h with h1 h2
      subst h1
      simpa using hd
theorem dropWhile_id {s : List UInt8} (h : ∀ c r, s = c :: r → blankB c = false) : s.dropWhile blankB = s := by
  cases s with
  | nil => rfl
  | cons c r => rw [List.dropWhile_cons, if_neg (by rw [h c r rfl]; decide)]
/-- cutting at the end leaves the beginning -/
theorem rev_head {s : List UInt8} (h : ∀ c r, s = c :: r → blankB c = false) : ∀ c r, (s.reverse.dropWhile blankB).reverse = c :: r → blankB c = false := by
  intro c r he
  have hp : (s.reverse.dropWhile blankB).reverse <+: s := by
    have := List.dropWhile_suffix (l := s.reverse) blankB
    rw [← List.reverse_reverse s]
    exact List.reverse_prefix.2 (by simpa using this)
  rw [he] at hp
  obtain ⟨t, ht⟩ := hp
  exact h c (r ++ t) (by rw [← ht]; rfl)
theorem trim_head {s : List UInt8} : ∀ c r, trim s = c :: r → blankB c = false := rev_head (fun _ _ => dropWhile_head)
theorem trim_last {s : List UInt8} : ∀ c r, (trim s).reverse = c :: r → blankB c = false := by
  intro c r h
  unfold trim at h
  rw [List.reverse_reverse] at h
  exact dropWhile_head h
theorem trim_id {s : List UInt8} (h1 : ∀ c r, s = c :: r → blankB c = false) (h2 : ∀ c r, s.reverse = c :: r → blankB c = false) : trim s = s := by
  unfold trim
  rw [dropWhile_id h1, dropWhile_id h2, List.reverse_reverse]
theorem trim_trim (s : List UInt8) : trim (trim s) = trim s := trim_id trim_head trim_last
theorem trim_length (s : List UInt8) : (trim s).length ≤ s.length := by
  unfold trim
  rw [List.length_reverse]
  have h1 := (List.dropWhile_suffix (l := (s.dropWhile blankB).reverse) blankB).length_le
  have h2 := (List.dropWhile_suffix (l := s) blankB).length_le
  rw [List.length_reverse] at h1
  omega
end Go.Proofs.YtclecgopmegjeaaDoor.LexPure

/- Layer 7: fields, as lists of names and values. No program is named. -/
namespace Go.Proofs.YtclecgopmegjeaaDoor.FieldsPure
open LexPure Bytes
/-- a field: its name and its value -/
abbrev HField := List UInt8 × List UInt8
def hit (n : List UInt8) (f : HField) : Bool := alike f.1 n
/-- the value of the first field of a name, and how many there are -/
def getV (l : List HField) (n : List UInt8) : List UInt8 := ((l.find? (hit n)).map (·.2)).getD []
def getN (l : List HField) (n : List UInt8) : Nat := l.countP (hit n)
def elems (l : List HField) (n : List UInt8) : List (List UInt8) := (l.filter (hit n)).flatMap (fun f => elements f.2)
def hasE (l : List HField) (n e : List UInt8) : Bool := (elems l n).any (fun x => alike x e)
def remove (l : List HField) (n : List UInt8) : List HField := l.filter (fun f => !hit n f)
def setF (l : List HField) (n v : List UInt8) : List HField := remove l n ++ [(n, v)]
def right (f : HField) : Bool := token f.1 && value f.2 && decide (f.1.length + f.2.length ≤ 512)
def check (l : List HField) : Int := if l.all right then (if l.length ≤ 32 then 0 else 71) else 70
def CONNECTION : List UInt8 := [99, 111, 110, 110, 101, 99, 116, 105, 111, 110]
/-- the seven names -/
def fixed : List (List UInt8) := [CONNECTION, [107, 101, 101, 112, 45, 97, 108, 105, 118, 101], [112, 114, 111, 120, 121, 45, 99, 111, 110, 110, 101, 99, 116, 105, 111, 110], [116, 101], [116, 114, 97, 105, 108, 101, 114], [116, 114, 97, 110, 115, 102, 101, 114, 45, 101, 110, 99, 111, 100, 105, 110, 103], [117, 112, 103, 114, 97, 100, 101]]
def one (l : List HField) (n : List UInt8) : Bool := fixed.any (fun x => alike x n) || hasE l CONNECTION n
def strip (l : List HField) : List HField := l.filter (fun f => !one l f.1)

/-! ### alike -/
theorem alike_iff (s t : List UInt8) : alike s t = true ↔ lower s = lower t := by unfold alike; exact beq_iff_eq
theorem alike_congr {s t : List UInt8} (h : alike s t = true) (u : List UInt8) : alike u s = alike u t := by
  rw [alike_iff] at h
  unfold alike
  rw [h]
theorem hit_congr {n m : List UInt8} (h : alike n m = true) (f : HField) : hit n f = hit m f := alike_congr h f.1
theorem hit_other {n m : List UInt8} (h : alike n m = false) {f : HField} (hf : hit n f = true) : hit m f = false := by
  unfold hit at *
  cases hm : alike f.1 m with
  | false => rfl
  | true =>
    rw [alike_iff] at hf hm
    have : alike n m = true := by rw [alike_iff, ← hf, hm]
    rw [this] at h
    cases h

/-! ### Get behind Remove and Set -/
theorem get_remove (l : List HField) (n : List UInt8) : getN (remove l n) n = 0 := by
  unfold getN remove
  rw [List.countP_eq_zero]
  intro f hf
  have := (List.mem_filter.1 hf).2
  simpa using this
theorem getN_append (a b : List HField) (n : List UInt8) : getN (a ++ b) n = getN a n + getN b n := by
  unfold getN
  exact List.countP_append
theorem getV_none {l : List HField} {n : List UInt8} (h : getN l n = 0) : getV l n = [] ∧ l.find? (hit n) = none := by
  unfold getN at h
  rw [List.countP_eq_zero] at h
  have hf : l.find? (hit n) = none := by
    rw [List.find?_eq_none]
    exact h
  exact ⟨by unfold getV; rw [hf]; rfl, hf⟩
theorem getV_append (a b : List HField) (n : List UInt8) (h : getN a n = 0) : getV (a ++ b) n = getV b n := by
  have := (getV_none h).2
  unfold getV
  rw [List.find?_append, this]
  rfl
theorem get_set (l : List HField) (n v : List UInt8) : getN (setF l n v) n = 1 ∧ getV (setF l n v) n = v := by
  have h0 := get_remove l n
  have hh : hit n (n, v) = true := alike_self n
  unfold setF
  constructor
  · rw [getN_append, h0]
    unfold getN
    simp [hh]
  · rw [getV_append _ _ _ h0]
    unfold getV
    simp [hh]
theorem get_other_remove (l : List HField) (n m : List UInt8) (h : alike n m = false) : getN (remove l n) m = getN l m ∧ getV (remove l n) m = getV l m := by
  unfold getN getV remove
  induction l with
  | nil => exact ⟨rfl, rfl⟩
  | cons f l ih =>
    by_cases hf : hit n f = true
    · have hm := hit_other h hf
      rw [List.filter_cons_of_neg (by rw [hf]; decide), List.countP_cons_of_neg (by rw [hm]; decide), List.find?_cons_of_neg (by rw [hm]; decide)]
      exact ih
    · have hf' : hit n f = false := by simpa using hf
      rw [List.filter_cons_of_pos (by rw [hf']; decide)]
      cases hm : hit m f
      · rw [List.countP_cons_of_neg (by rw [hm]; decide), List.countP_cons_of_neg (by rw [hm]; decide), List.find?_cons_of_neg (by rw [hm]; decide), List.find?_cons_of_neg (by rw [hm]; decide)]
        exact ih
      · rw [List.countP_cons_of_pos hm, List.countP_cons_of_pos hm, List.find?_cons_of_pos hm, List.find?_cons_of_pos hm]
        exact ⟨by rw [ih.1], rfl⟩
theorem get_other_set (l : List HField) (n v m : List UInt8) (h : alike n m = false) : getN (setF l n v) m = getN l m ∧ getV (setF l n v) m = getV l m := by
  obtain ⟨h1, h2⟩ := get_other_remove l n m h
  have hh : hit m (n, v) = false := h
  have hz : getN [(n, v)] m = 0 := by unfold getN; simp [hh]
  unfold setF
  constructor
  · rw [getN_append, hz, h1]; rfl
  · rw [← h2]
    unfold getV
    rw [List.find?_append, (getV_none hz).2]
    simp

/-! ### Strip -/
theorem one_congr {n m : List UInt8} (h : alike n m = true) (l : List HField) : one l n = one l m := by
  unfold one hasE
  congr 1
  · congr 1; funext x; exact alike_congr h x
  · congr 1; funext x; exact alike_congr h x
theorem strip_none (l : List HField) (n : List UInt8) (h : one l n = true) : getN (strip l) n = 0 := by
  unfold getN strip
  rw [List.countP_eq_zero]
  intro f hf
  have h2 := (List.mem_filter.1 hf).2
  intro h3
  unfold hit at h3
  rw [one_congr h3 l, h] at h2
  cases h2
theorem one_fixed (l : List HField) {n : List UInt8} (h : n ∈ fixed) : one l n = true := by
  unfold one
  rw [Bool.or_eq_true]
  left
  rw [List.any_eq_true]
  exact ⟨n, h, alike_self n⟩
theorem elems_congr {n m : List UInt8} (h : alike n m = true) (l : List HField) : elems l n = elems l m := by
  unfold elems
  congr 1
  congr 1
  funext f
  exact hit_congr h f
theorem one_named (l : List HField) {n : List UInt8} (h : n ∈ elems l CONNECTION) : one l n = true := by
  unfold one hasE
  rw [Bool.or_eq_true]
  right
  rw [List.any_eq_true]
  exact ⟨n, h, alike_self n⟩
/-- behind Strip no Connection field is left, so nothing is named -/
theorem elems_strip (l : List HField) : elems (strip l) CONNECTION = [] := by
  have h := strip_none l CONNECTION (one_fixed l (by decide))
  unfold getN at h
  rw [List.countP_eq_zero] at h
  unfold elems
  have : (strip l).filter (hit CONNECTION) = [] := by
    rw [List.filter_eq_nil_iff]
    exact h
  rw [this]
  rfl
theorem one_strip (l : List HField) (n : List UInt8) : one (strip l) n = fixed.any (fun x => alike x n) := by
  unfold one hasE
  rw [elems_strip]
  simp
theorem strip_strip (l : List HField) : strip (strip l) = strip l := by
  have key : ∀ f ∈ strip l, (!one (strip l) f.1) = true := fun f hf => by
    have h2 := (List.mem_filter.1 hf).2
    rw [one_strip]
    unfold one at h2
    rw [Bool.not_eq_true', Bool.or_eq_false_iff] at h2
    rw [h2.1]
    rfl
  show (strip l).filter _ = strip l
  exact List.filter_eq_self.2 key
/-- the order stays: a list that is held against the longer one, from left to right, is met whole -/
theorem strip_sub (l : List HField) : (strip l).Sublist l := List.filter_sublist
theorem greedy_step {s l : List HField} {k i : Nat} {f : HField} (hi : l[i]? = some f) (h : (s.drop k).Sublist (l.drop i)) :
    (s[k]? = some f → (s.drop (k + 1)).Sublist (l.drop (i + 1))) ∧ (s[k]? ≠ some f → (s.drop k).Sublist (l.drop (i + 1))) := by
  obtain ⟨hl, he⟩ := List.getElem?_eq_some_iff.1 hi
  rw [List.drop_eq_getElem_cons hl, he] at h
  by_cases hk : k < s.length
  · have hs : s[k]? = some s[k] := List.getElem?_eq_getElem hk
    rw [List.drop_eq_getElem_cons hk] at h ⊢
    rw [hs]
    generalize s[k] = x at *
    constructor
    · intro e
      cases h with
      | cons _ h => exact (List.sublist_cons_self _ _).trans h
      | cons_cons _ h => exact h
    · intro e
      cases h with
      | cons _ h => exact h
      | cons_cons _ h => exact absurd rfl e
  · have hs : s[k]? = none := List.getElem?_eq_none (by omega)
    rw [hs, List.drop_of_length_le (by omega : s.length ≤ k)]
    exact ⟨fun e => (by cases e), fun _ => List.nil_sublist _⟩
theorem greedy_end {s l : List HField} {k : Nat} (h : (s.drop k).Sublist (l.drop l.length)) : s.length ≤ k := by
  rw [List.drop_length] at h
  have := List.sublist_nil.1 h
  exact List.drop_eq_nil_iff.1 this
/-! ### the bounds -/
theorem token_n (k : Nat) (h : 1 ≤ k) : token (List.replicate k 110) = true := by
  unfold token
  rw [Bool.and_eq_true]
  constructor
  · rw [List.all_eq_true]
    intro c hc
    rw [List.eq_of_mem_replicate hc]
    decide
  · cases k with
    | zero => omega
    | succ k => rfl
theorem value_v (k : Nat) : value (List.replicate k 118) = true := by
  unfold value
  rw [Bool.and_eq_true]
  constructor
  · rw [List.all_eq_true]
    intro c hc
    rw [List.eq_of_mem_replicate hc]
    decide
  · cases k with
    | zero => rfl
    | succ k =>
      have h1 : (List.replicate (k + 1) (118 : UInt8)).headD 0 = 118 := rfl
      have h2 : (List.replicate (k + 1) (118 : UInt8)).getLastD 0 = 118 := by
        rw [List.getLastD_eq_getLast?, List.getLast?_replicate]
        rfl
      rw [h1, h2]
      rfl
theorem check_one (f : HField) : check [f] = if right f then 0 else 70 := by
  unfold check
  simp only [List.all_cons, List.all_nil, Bool.and_true]
  split
  · rfl
  · rfl
theorem right_a : right ([97], []) = true := by decide
theorem check_many (k : Nat) : check (List.replicate k ([97], [])) = if k ≤ 32 then 0 else 71 := by
  unfold check
  have : (List.replicate k (([97], []) : HField)).all right = true := by
    rw [List.all_eq_true]
    intro f hf
    rw [List.eq_of_mem_replicate hf]
    exact right_a
  rw [this, List.length_replicate]
  rfl
theorem check_past (l : List HField) {f : HField} (h : right f = false) : check (l ++ [f]) = 70 := by
  unfold check
  rw [List.all_append, List.all_cons, h]
  simp
end Go.Proofs.YtclecgopmegjeaaDoor.FieldsPure

/- Layer 8: heads, as lists of bytes. No program is named. -/
namespace Go.Proofs.YtclecgopmegjeaaDoor.HeadPure
open LexPure Bytes FieldsPure
structure H8 where
  method : List UInt8
  target : List UInt8
  status : Int
  reason : List UInt8
  minor : Int
  fields : List HField
def zero8 : H8 := ⟨[], [], 0, [], 0, []⟩
def digitB (c : UInt8) : Bool := decide (48 ≤ c.toNat) && decide (c.toNat ≤ 57)
/-- the minor digit and the error of a version -/
def version8 (s : List UInt8) : Int × Int :=
  match s with
  | [h, t, t2, p, sl, a, d, b] => if h = 72 ∧ t = 84 ∧ t2 = 84 ∧ p = 80 ∧ sl = 47 ∧ d = 46 ∧ digitB a = true ∧ digitB b = true then (if a = 49 then ((b.toNat : Int) - 48, 0) else (0, 81)) else (0, 80)
  | _ => (0, 80)
def upB (s : List UInt8) : List UInt8 := s.takeWhile (fun c => c != 32)
def seenB (c : UInt8) : Bool := decide (32 < c.toNat) && decide (c.toNat < 127)
/-- a start line -/
def start8 (l : List UInt8) : H8 × Int :=
  if (upB l).length < l.length ∧ (upB l).length ≤ 16 ∧ token (upB l) = true then
    (let r := l.drop ((upB l).length + 1)
     if (upB r).length < r.length ∧ 0 < (upB r).length ∧ (upB r).all seenB = true then
       (let v := version8 (r.drop ((upB r).length + 1))
        if v.2 = 0 then (⟨upB l, upB r, 0, [], v.1, []⟩, 0) else (zero8, v.2))
     else (zero8, 80))
  else (zero8, 80)
/-- a status line -/
def status8 (l : List UInt8) : H8 × Int :=
  if 12 ≤ l.length ∧ l[8]? = some 32 ∧ numOk 10 3 ((l.drop 9).take 3) = true ∧ 100 ≤ numR 10 3 ((l.drop 9).take 3) ∧ numR 10 3 ((l.drop 9).take 3) < 600 ∧ (l.length = 12 ∨ l[12]? = some 32) ∧ (l.drop 13).all plainB = true then
    (let v := version8 (l.take 8)
     if v.2 = 0 then (⟨[], [], numR 10 3 ((l.drop 9).take 3), l.drop 13, v.1, []⟩, 0) else (zero8, v.2))
  else (zero8, 80)
def nameB (s : List UInt8) : List UInt8 := s.takeWhile (fun c => c != 58)
/-- a field's line -/
def field8 (l : List UInt8) : HField × Int :=
  if (nameB l).length < l.length ∧ token (nameB l) = true ∧ value (trim (l.drop ((nameB l).length + 1))) = true then ((nameB l, trim (l.drop ((nameB l).length + 1))), 0) else (([], []), 70)
/-- what stands at the place -/
inductive Line where
  | whole (k : Nat)
  | bad (e : Int)
  | wait
def scan (most : Nat) (over : Int) : Nat → List UInt8 → Line
  | _, [] => .wait
  | i, c :: s => if c = 10 then .bad 80 else if c = 13 then (match s with
      | [] => .wait
      | d :: _ => if d = 10 then .whole i else .bad 80)
    else if most ≤ i then .bad over else scan most over (i + 1) s
/-- what a reading comes to -/
inductive Res where
  | wait
  | bad (e : Int)
  | done (h : H8) (n : Nat)
def skip8 : List UInt8 → Nat
  | c :: d :: s => if c = 13 ∧ d = 10 then skip8 s + 2 else 0
  | _ => 0
/-- the fields' lines from place a on, m more fields to come at most -/
def fields8 (h : H8) : Nat → List HField → Nat → List UInt8 → Res
  | m, acc, a, s => match scan 512 83 0 s with
    | .wait => .wait
    | .bad e => .bad e
    | .whole k => if k = 0 then .done { h with fields := acc } (a + 2) else
      match m with
      | 0 => .bad 83
      | m + 1 => if (field8 (s.take k)).2 = 0 then fields8 h m (acc ++ [(field8 (s.take k)).1]) (a + k + 2) (s.drop (k + 2)) else .bad 70
/-- from the start line or status line on, at place a -/
def from8 (response : Bool) (a : Nat) (s : List UInt8) : Res :=
  match scan 1100 82 0 s with
  | .wait => .wait
  | .bad e => .bad e
  | .whole k =>
    (let x := if response then status8 (s.take k) else start8 (s.take k)
     if x.2 = 0 then fields8 x.1 32 [] (a + k + 2) (s.drop (k + 2)) else .bad x.2)
def skipOf (response : Bool) (s : List UInt8) : Nat := if response then 0 else skip8 s
def read8 (response : Bool) (s : List UInt8) : Res := from8 response (skipOf response s) (s.drop (skipOf response s))
def resH : Res → H8
  | .done h _ => h
  | _ => zero8
def resN : Res → Nat
  | .done _ n => n
  | _ => 0
def resE : Res → Int
  | .bad e => e
  | _ => 0

/-! ### a line -/
theorem scan_cons (most : Nat) (over : Int) (i : Nat) (c : UInt8) (s : List UInt8) : scan most over i (c :: s) = if c = 10 then .bad 80 else if c = 13 then (match s with
      | [] => .wait
      | d :: _ => if d = 10 then .whole i else .bad 80)
    else if most ≤ i then .bad over else scan most over (i + 1) s := by cases s <;> rfl
theorem scan_append (most : Nat) (over : Int) (t : List UInt8) : ∀ (s : List UInt8) (i : Nat), scan most over i s ≠ .wait → scan most over i (s ++ t) = scan most over i s
  | [], i, h => absurd rfl h
  | c :: s, i, h => by
    rw [scan_cons] at h
    rw [List.cons_append, scan_cons, scan_cons]
    by_cases h1 : c = 10
    · rw [if_pos h1, if_pos h1]
    · rw [if_neg h1] at h
      rw [if_neg h1, if_neg h1]
      by_cases h2 : c = 13
      · rw [if_pos h2] at h
        rw [if_pos h2, if_pos h2]
        cases s with
        | nil => exact absurd rfl h
        | cons d s => rfl
      · rw [if_neg h2] at h
        rw [if_neg h2, if_neg h2]
        by_cases h3 : most ≤ i
        · rw [if_pos h3, if_pos h3]
        · rw [if_neg h3] at h
          rw [if_neg h3, if_neg h3]
          exact scan_append most over t s (i + 1) h
/-- a whole line: no 10 and no 13 in it, then 13 and 10 -/
theorem scan_whole (most : Nat) (over : Int) : ∀ (s : List UInt8) (i k : Nat), scan most over i s = .whole k → ∃ l q, s = l ++ 13 :: 10 :: q ∧ k = i + l.length ∧ (∀ c ∈ l, c ≠ 10 ∧ c ≠ 13) ∧ (l.length = 0 ∨ i + l.length ≤ most)
  | [], i, k, h => by simp [scan] at h
  | c :: s, i, k, h => by
    rw [scan_cons] at h
    by_cases h1 : c = 10
    · rw [if_pos h1] at h; cases h
    · rw [if_neg h1] at h
      by_cases h2 : c = 13
      · rw [if_pos h2] at h
        cases s with
        | nil => cases h
        | cons d s =>
          simp only at h
          by_cases h4 : d = 10
          · rw [if_pos h4] at h
            injection h with h
            exact ⟨[], s, (by rw [h2, h4]; rfl), h.symm, (fun c hc => by cases hc), Or.inl rfl⟩
          · rw [if_neg h4] at h; cases h
      · rw [if_neg h2] at h
        by_cases h3 : most ≤ i
        · rw [if_pos h3] at h; cases h
        · rw [if_neg h3] at h
          obtain ⟨l, q, e1, e2, e3, e4⟩ := scan_whole most over s (i + 1) k h
          refine ⟨c :: l, q, by rw [e1]; rfl, by rw [List.length_cons]; omega, fun x hx => ?_, .inr ?_⟩
          · rcases List.mem_cons.1 hx with rfl | hx
            · exact ⟨h1, h2⟩
            · exact e3 x hx
          · rw [List.length_cons]
            rcases e4 with e4 | e4 <;> omega
theorem scan_line (most : Nat) (over : Int) (q : List UInt8) : ∀ (l : List UInt8) (i : Nat), (∀ c ∈ l, c ≠ 10 ∧ c ≠ 13) → (l.length = 0 ∨ i + l.length ≤ most) → scan most over i (l ++ 13 :: 10 :: q) = .whole (i + l.length)
  | [], i, _, _ => by rw [List.nil_append, scan_cons]; simp
  | c :: l, i, h, hm => by
    have hc := h c List.mem_cons_self
    rw [List.length_cons] at hm
    rw [List.cons_append, scan_cons, if_neg hc.1, if_neg hc.2, if_neg (by omega), scan_line most over q l (i + 1) (fun x hx => h x (List.mem_cons_of_mem _ hx)) (by omega), List.length_cons]
    congr 1
    omega
theorem scan_bad (most : Nat) (over : Int) (ho : over ≠ 0) : ∀ (s : List UInt8) (i : Nat) (e : Int), scan most over i s = .bad e → e ≠ 0
  | [], i, e, h => by simp [scan] at h
  | c :: s, i, e, h => by
    rw [scan_cons] at h
    split at h
    · injection h with h; omega
    · split at h
      · split at h
        · cases h
        · split at h
          · cases h
          · injection h with h; omega
      · split at h
        · injection h with h; omega
        · exact scan_bad most over ho s (i + 1) e h
theorem whole_take {most : Nat} {over : Int} {s : List UInt8} {k : Nat} (h : scan most over 0 s = .whole k) : k + 2 ≤ s.length ∧ (∀ t, (s ++ t).take k = s.take k ∧ (s ++ t).drop (k + 2) = s.drop (k + 2) ++ t) := by
  obtain ⟨l, q, rfl, hk, _⟩ := scan_whole most over s 0 k h
  rw [Nat.zero_add] at hk
  have hl : k + 2 ≤ (l ++ 13 :: 10 :: q).length := by simp; omega
  refine ⟨hl, fun t => ⟨?_, ?_⟩⟩
  · rw [List.take_append_of_le_length (by omega)]
  · rw [List.drop_append_of_le_length hl]

/-! ### what has been told stays so -/
theorem fields_append (h : H8) (t : List UInt8) : ∀ (m : Nat) (acc : List HField) (a : Nat) (s : List UInt8), fields8 h m acc a s ≠ .wait → fields8 h m acc a (s ++ t) = fields8 h m acc a s := by
  intro m
  induction m with
  | zero =>
    intro acc a s hw
    unfold fields8 at hw ⊢
    cases hs : scan 512 83 0 s with
    | wait => rw [hs] at hw; exact absurd rfl hw
    | bad e => rw [scan_append 512 83 t s 0 (by rw [hs]; intro hh; cases hh), hs]
    | whole k => rw [scan_append 512 83 t s 0 (by rw [hs]; intro hh; cases hh), hs]
  | succ m ih =>
    intro acc a s hw
    unfold fields8 at hw ⊢
    cases hs : scan 512 83 0 s with
    | wait => rw [hs] at hw; exact absurd rfl hw
    | bad e => rw [scan_append 512 83 t s 0 (by rw [hs]; intro hh; cases hh), hs]
    | whole k =>
      rw [scan_append 512 83 t s 0 (by rw [hs]; intro hh; cases hh), hs]
      rw [hs] at hw
      obtain ⟨_, h2⟩ := whole_take hs
      obtain ⟨h3, h4⟩ := h2 t
      simp only [h3, h4] at hw ⊢
      by_cases hk : k = 0
      · rw [if_pos hk, if_pos hk]
      · rw [if_neg hk] at hw
        rw [if_neg hk, if_neg hk]
        by_cases hf : (field8 (s.take k)).2 = 0
        · rw [if_pos hf] at hw
          rw [if_pos hf, if_pos hf]
          exact ih _ _ _ hw
        · rw [if_neg hf, if_neg hf]
theorem from_append (r : Bool) (t : List UInt8) (a : Nat) (s : List UInt8) (hw : from8 r a s ≠ .wait) : from8 r a (s ++ t) = from8 r a s := by
  unfold from8 at hw ⊢
  cases hs : scan 1100 82 0 s with
  | wait => rw [hs] at hw; exact absurd rfl hw
  | bad e => rw [scan_append 1100 82 t s 0 (by rw [hs]; intro hh; cases hh), hs]
  | whole k =>
    rw [scan_append 1100 82 t s 0 (by rw [hs]; intro hh; cases hh), hs]
    rw [hs] at hw
    obtain ⟨_, h2⟩ := whole_take hs
    obtain ⟨h3, h4⟩ := h2 t
    simp only [h3, h4] at hw ⊢
    by_cases hx : (if r = true then status8 (s.take k) else start8 (s.take k)).2 = 0
    · rw [if_pos hx] at hw
      rw [if_pos hx, if_pos hx]
      exact fields_append _ t _ _ _ _ hw
    · rw [if_neg hx, if_neg hx]
theorem skip_append (t : List UInt8) : ∀ s : List UInt8, s.drop (skip8 s) ≠ [] → s.drop (skip8 s) ≠ [13] → skip8 (s ++ t) = skip8 s
  | [], h, _ => absurd rfl h
  | [c], _, h2 => by
    have hc : c ≠ 13 := fun e => h2 (by rw [e]; rfl)
    cases t with
    | nil => rfl
    | cons d t =>
      show skip8 (c :: d :: t) = 0
      rw [skip8, if_neg (fun h => hc h.1)]
  | c :: d :: s, h1, h2 => by
    rw [List.cons_append, List.cons_append, skip8, skip8]
    rw [skip8] at h1 h2
    by_cases hc : c = 13 ∧ d = 10
    · rw [if_pos hc] at h1 h2
      rw [if_pos hc, if_pos hc]
      rw [skip_append t s h1 h2]
    · rw [if_neg hc, if_neg hc]
theorem skip_le : ∀ s : List UInt8, skip8 s ≤ s.length
  | [] => Nat.le_refl _
  | [_] => Nat.zero_le _
  | c :: d :: s => by
    rw [skip8]
    split
    · have := skip_le s
      simp
      omega
    · exact Nat.zero_le _
theorem skipOf_le (r : Bool) (s : List UInt8) : skipOf r s ≤ s.length := by
  unfold skipOf
  split
  · exact Nat.zero_le _
  · exact skip_le s
theorem from_some (r : Bool) (a : Nat) (s : List UInt8) (h : from8 r a s ≠ .wait) : s ≠ [] ∧ s ≠ [13] := by
  constructor
  · rintro rfl
    exact h rfl
  · rintro rfl
    exact h rfl
/-- P8.1, P8.2: what has been told stays so -/
theorem read_append (r : Bool) (s t : List UInt8) (h : read8 r s ≠ .wait) : read8 r (s ++ t) = read8 r s := by
  unfold read8 at h ⊢
  obtain ⟨h1, h2⟩ := from_some _ _ _ h
  have hk : skipOf r (s ++ t) = skipOf r s := by
    unfold skipOf at h1 h2 ⊢
    cases r
    · exact skip_append t s h1 h2
    · rfl
  rw [hk, List.drop_append_of_le_length (skipOf_le r s)]
  exact from_append r t _ _ h

/-! ### the bytes that a head has -/
/-- no 10 without a 13 ahead of it, no 13 without a 10 behind it -/
def Clean (p : List UInt8) : Prop := ∀ (i : Nat) (c : UInt8), p[i]? = some c → (c = 10 → ∃ j, i = j + 1 ∧ p[j]? = some 13) ∧ (c = 13 → p[i + 1]? = some 10)
theorem clean_nil : Clean [] := fun i c h => by simp at h
theorem clean_append {p q : List UInt8} (hp : Clean p) (hq : Clean q) : Clean (p ++ q) := fun i c h => by
  by_cases hi : i < p.length
  · rw [List.getElem?_append_left hi] at h
    obtain ⟨h1, h2⟩ := hp i c h
    refine ⟨fun e => ?_, fun e => ?_⟩
    · obtain ⟨j, hj, h3⟩ := h1 e
      exact ⟨j, hj, by rw [List.getElem?_append_left (by omega)]; exact h3⟩
    · have h3 := h2 e
      have h4 := (List.getElem?_eq_some_iff.1 h3).1
      rw [List.getElem?_append_left h4]
      exact h3
  · rw [List.getElem?_append_right (by omega)] at h
    obtain ⟨h1, h2⟩ := hq _ c h
    refine ⟨fun e => ?_, fun e => ?_⟩
    · obtain ⟨j, hj, h3⟩ := h1 e
      exact ⟨p.length + j, by omega, by rw [List.getElem?_append_right (by omega), Nat.add_sub_cancel_left]; exact h3⟩
    · have h3 := h2 e
      rw [List.getElem?_append_right (by omega)]
      rw [show i + 1 - p.length = i - p.length + 1 by omega]
      exact h3
theorem clean_bare {l : List UInt8} (h : ∀ c ∈ l, c ≠ 10 ∧ c ≠ 13) : Clean l := fun i c hc => by
  have hm := List.mem_of_getElem? hc
  exact ⟨fun e => absurd e (h c hm).1, fun e => absurd e (h c hm).2⟩
theorem clean_end : Clean [13, 10] := fun i c h => by
  match i, h with
  | 0, h =>
    have e : (13 : UInt8) = c := by simpa using h
    subst e
    exact ⟨fun e => absurd e (by decide), fun _ => rfl⟩
  | 1, h =>
    have e : (10 : UInt8) = c := by simpa using h
    subst e
    exact ⟨fun _ => ⟨0, rfl, rfl⟩, fun e => absurd e (by decide)⟩
  | i + 2, h => simp at h
theorem clean_line {l : List UInt8} (h : ∀ c ∈ l, c ≠ 10 ∧ c ≠ 13) : Clean (l ++ [13, 10]) := clean_append (clean_bare h) clean_end
theorem fields_done (h : H8) : ∀ (m : Nat) (acc : List HField) (a : Nat) (s : List UInt8) (h' : H8) (n : Nat), fields8 h m acc a s = .done h' n →
    ∃ p q, s = p ++ q ∧ n = a + p.length ∧ 0 < p.length ∧ Clean p ∧ ∀ q', fields8 h m acc a (p ++ q') = .done h' n := by
  intro m
  induction m with
  | zero =>
    intro acc a s h' n hd
    unfold fields8 at hd
    cases hs : scan 512 83 0 s with
    | wait => rw [hs] at hd; cases hd
    | bad e => rw [hs] at hd; cases hd
    | whole k =>
      rw [hs] at hd
      simp only at hd
      obtain ⟨l, q, rfl, hk, hl, hm⟩ := scan_whole 512 83 s 0 k hs
      by_cases h0 : k = 0
      · rw [if_pos h0] at hd
        have hl0 : l = [] := List.eq_nil_of_length_eq_zero (by omega)
        subst hl0
        refine ⟨[13, 10], q, rfl, ?_, by decide, clean_end, fun q' => ?_⟩
        · injection hd with _ e
          rw [← e]
          rfl
        · unfold fields8
          rw [show [13, 10] ++ q' = ([] : List UInt8) ++ 13 :: 10 :: q' from rfl, scan_line 512 83 q' [] 0 (fun c hc => by cases hc) (.inl rfl)]
          exact hd
      · rw [if_neg h0] at hd
        cases hd
  | succ m ih =>
    intro acc a s h' n hd
    unfold fields8 at hd
    cases hs : scan 512 83 0 s with
    | wait => rw [hs] at hd; cases hd
    | bad e => rw [hs] at hd; cases hd
    | whole k =>
      rw [hs] at hd
      simp only at hd
      obtain ⟨l, q, rfl, hk, hl, hm⟩ := scan_whole 512 83 s 0 k hs
      rw [Nat.zero_add] at hk
      by_cases h0 : k = 0
      · rw [if_pos h0] at hd
        have hl0 : l = [] := List.eq_nil_of_length_eq_zero (by omega)
        subst hl0
        refine ⟨[13, 10], q, rfl, ?_, by decide, clean_end, fun q' => ?_⟩
        · injection hd with _ e
          rw [← e]
          rfl
        · unfold fields8
          rw [show [13, 10] ++ q' = ([] : List UInt8) ++ 13 :: 10 :: q' from rfl, scan_line 512 83 q' [] 0 (fun c hc => by cases hc) (.inl rfl)]
          exact hd
      · rw [if_neg h0] at hd
        have e1 : (l ++ 13 :: 10 :: q).take k = l := by rw [hk]; exact List.take_left
        have e2 : (l ++ 13 :: 10 :: q).drop (k + 2) = q := by
          rw [hk, ← List.drop_drop, List.drop_left]
          rfl
        rw [e1, e2] at hd
        by_cases hf : (field8 l).2 = 0
        · rw [if_pos hf] at hd
          obtain ⟨p, q2, rfl, hn, hp, hcl, hall⟩ := ih _ _ _ _ _ hd
          refine ⟨l ++ [13, 10] ++ p, q2, by simp, by simp; omega, by simp; omega, clean_append (clean_line hl) hcl, fun q' => ?_⟩
          unfold fields8
          rw [show l ++ [13, 10] ++ p ++ q' = l ++ 13 :: 10 :: (p ++ q') by simp, scan_line 512 83 (p ++ q') l 0 hl hm]
          simp only [Nat.zero_add]
          rw [← hk, if_neg h0]
          have e3 : (l ++ 13 :: 10 :: (p ++ q')).take k = l := by rw [hk]; exact List.take_left
          have e4 : (l ++ 13 :: 10 :: (p ++ q')).drop (k + 2) = p ++ q' := by
            rw [hk, ← List.drop_drop, List.drop_left]
            rfl
          rw [e3, e4, if_pos hf]
          exact hall q'
        · rw [if_neg hf] at hd
          cases hd
theorem start_nil : (start8 []).2 ≠ 0 := by decide
theorem status_nil : (status8 []).2 ≠ 0 := by decide
theorem from_done (r : Bool) (a : Nat) (s : List UInt8) (h' : H8) (n : Nat) (hd : from8 r a s = .done h' n) :
    ∃ p q, s = p ++ q ∧ n = a + p.length ∧ 2 < p.length ∧ Clean p ∧ ∀ q', from8 r a (p ++ q') = .done h' n := by
  unfold from8 at hd
  cases hs : scan 1100 82 0 s with
  | wait => rw [hs] at hd; cases hd
  | bad e => rw [hs] at hd; cases hd
  | whole k =>
    rw [hs] at hd
    simp only at hd
    obtain ⟨l, q, rfl, hk, hl, hm⟩ := scan_whole 1100 82 s 0 k hs
    rw [Nat.zero_add] at hk
    have e1 : (l ++ 13 :: 10 :: q).take k = l := by rw [hk]; exact List.take_left
    have e2 : (l ++ 13 :: 10 :: q).drop (k + 2) = q := by
      rw [hk, ← List.drop_drop, List.drop_left]
      rfl
    rw [e1, e2] at hd
    by_cases hx : (if r = true then status8 l else start8 l).2 = 0
    · rw [if_pos hx] at hd
      have hl0 : 0 < l.length := by
        cases l with
        | nil =>
          cases r
          · exact absurd hx start_nil
          · exact absurd hx status_nil
        | cons => simp
      obtain ⟨p, q2, rfl, hn, hp, hcl, hall⟩ := fields_done _ _ _ _ _ _ _ hd
      refine ⟨l ++ [13, 10] ++ p, q2, by simp, by simp; omega, by simp; omega, clean_append (clean_line hl) hcl, fun q' => ?_⟩
      unfold from8
      rw [show l ++ [13, 10] ++ p ++ q' = l ++ 13 :: 10 :: (p ++ q') by simp, scan_line 1100 82 (p ++ q') l 0 hl hm]
      simp only [Nat.zero_add]
      have e3 : (l ++ 13 :: 10 :: (p ++ q')).take l.length = l := List.take_left
      have e4 : (l ++ 13 :: 10 :: (p ++ q')).drop (l.length + 2) = p ++ q' := by
        rw [← List.drop_drop, List.drop_left]
        rfl
      rw [e3, e4, if_pos hx, ← hk]
      exact hall q'
    · rw [if_neg hx] at hd
      cases hd
theorem skip_split : ∀ s : List UInt8, ∃ u, s = u ++ s.drop (skip8 s) ∧ u.length = skip8 s ∧ Clean u ∧ skip8 (s.drop (skip8 s)) = 0 ∧ ∀ x, skip8 (u ++ x) = u.length + skip8 x
  | [] => ⟨[], rfl, rfl, clean_nil, rfl, fun x => by simp⟩
  | [c] => ⟨[], rfl, rfl, clean_nil, rfl, fun x => by simp⟩
  | c :: d :: s => by
    by_cases hc : c = 13 ∧ d = 10
    · obtain ⟨u, h1, h2, h3, h4, h5⟩ := skip_split s
      have hk : skip8 (c :: d :: s) = skip8 s + 2 := by rw [skip8, if_pos hc]
      obtain ⟨rfl, rfl⟩ := hc
      refine ⟨13 :: 10 :: u, ?_, ?_, clean_append (p := [13, 10]) clean_end h3, ?_, fun x => ?_⟩
      · rw [hk, List.drop_succ_cons, List.drop_succ_cons, List.cons_append, List.cons_append, ← h1]
      · rw [hk, List.length_cons, List.length_cons, h2]
      · rw [hk, List.drop_succ_cons, List.drop_succ_cons]
        exact h4
      · rw [List.cons_append, List.cons_append, skip8, if_pos ⟨rfl, rfl⟩, h5, List.length_cons, List.length_cons]
        omega
    · have hk : skip8 (c :: d :: s) = 0 := by rw [skip8, if_neg hc]
      exact ⟨[], by rw [hk]; rfl, by rw [hk]; rfl, clean_nil, by rw [hk]; exact hk, fun x => by simp⟩
theorem skip_two {p : List UInt8} (h2 : 2 ≤ p.length) (q q' : List UInt8) (h : skip8 (p ++ q) = 0) : skip8 (p ++ q') = 0 := by
  match p, h2 with
  | c :: d :: p, _ =>
    rw [List.cons_append, List.cons_append, skip8] at h ⊢
    by_cases hc : c = 13 ∧ d = 10
    · rw [if_pos hc] at h; omega
    · rw [if_neg hc]
/-- a head that is taken: its bytes alone make it, and they are clean -/
theorem read_done (r : Bool) (s : List UInt8) (h' : H8) (n : Nat) (hd : read8 r s = .done h' n) :
    ∃ p q, s = p ++ q ∧ n = p.length ∧ 0 < n ∧ Clean p ∧ ∀ q', read8 r (p ++ q') = .done h' n := by
  unfold read8 skipOf at hd
  cases r with
  | true =>
    simp only [if_true, List.drop_zero] at hd
    obtain ⟨p, q, rfl, hn, hp, hc, hall⟩ := from_done _ _ _ _ _ hd
    exact ⟨p, q, rfl, by omega, by omega, hc, fun q' => by unfold read8 skipOf; simpa using hall q'⟩
  | false =>
    simp only [Bool.false_eq_true, if_false] at hd
    obtain ⟨u, h1, h2, h3, h4, h5⟩ := skip_split s
    obtain ⟨p, q, e, hn, hp, hc, hall⟩ := from_done _ _ _ _ _ hd
    rw [e] at h1 h4
    refine ⟨u ++ p, q, by rw [List.append_assoc]; exact h1, by rw [List.length_append]; omega, by omega, clean_append h3 hc, fun q' => ?_⟩
    unfold read8 skipOf
    simp only [Bool.false_eq_true, if_false]
    have e1 : skip8 (u ++ p ++ q') = u.length := by rw [List.append_assoc, h5, skip_two (by omega) q q' h4, Nat.add_zero]
    rw [e1, List.append_assoc, List.drop_left, h2]
    exact hall q'
/-- cut short anywhere it isn't whole -/
theorem read_cut (r : Bool) (s : List UInt8) (h' : H8) (n cut : Nat) (hd : read8 r s = .done h' n) (hc : cut < n) : read8 r (s.take cut) = .wait := by
  cases hw : read8 r (s.take cut) with
  | wait => rfl
  | bad e =>
    have := read_append r (s.take cut) (s.drop cut) (by rw [hw]; intro h; cases h)
    rw [List.take_append_drop, hd, hw] at this
    cases this
  | done h2 n2 =>
    have := read_append r (s.take cut) (s.drop cut) (by rw [hw]; intro h; cases h)
    rw [List.take_append_drop, hd, hw] at this
    injection this with _ e
    obtain ⟨p, q, e1, e2, _⟩ := read_done r _ _ _ hw
    have e3 := congrArg List.length e1
    rw [List.length_take, List.length_append] at e3
    omega
theorem read_front (r : Bool) (s : List UInt8) (h' : H8) (n : Nat) (hd : read8 r s = .done h' n) : n ≤ s.length ∧ 0 < n ∧ read8 r (s.take n) = .done h' n ∧ Clean (s.take n) := by
  obtain ⟨p, q, rfl, hn, h0, hc, hall⟩ := read_done r s h' n hd
  have ht : (p ++ q).take n = p := by rw [hn]; exact List.take_left
  exact ⟨by rw [List.length_append]; omega, h0, by rw [ht]; have := hall []; rwa [List.append_nil] at this, by rw [ht]; exact hc⟩

/-! ### empty lines ahead -/
def shift (d : Nat) : Res → Res
  | .done h n => .done h (n + d)
  | x => x
theorem fields_shift (h : H8) (d : Nat) : ∀ (m : Nat) (acc : List HField) (a : Nat) (s : List UInt8), fields8 h m acc (a + d) s = shift d (fields8 h m acc a s) := by
  intro m
  induction m with
  | zero =>
    intro acc a s
    unfold fields8
    cases scan 512 83 0 s with
    | wait => rfl
    | bad e => rfl
    | whole k =>
      simp only
      split
      · unfold shift; simp only; congr 1; omega
      · rfl
  | succ m ih =>
    intro acc a s
    unfold fields8
    cases scan 512 83 0 s with
    | wait => rfl
    | bad e => rfl
    | whole k =>
      simp only
      split
      · unfold shift; simp only; congr 1; omega
      · split
        · rw [show a + d + k + 2 = a + k + 2 + d by omega]
          exact ih _ _ _
        · rfl
theorem from_shift (r : Bool) (d a : Nat) (s : List UInt8) : from8 r (a + d) s = shift d (from8 r a s) := by
  unfold from8
  cases scan 1100 82 0 s with
  | wait => rfl
  | bad e => rfl
  | whole k =>
    simp only
    by_cases hx : (if r = true then status8 (s.take k) else start8 (s.take k)).2 = 0
    · rw [if_pos hx, if_pos hx, show a + d + k + 2 = a + k + 2 + d by omega]
      exact fields_shift _ _ _ _ _ _
    · rw [if_neg hx, if_neg hx]
      rfl
def emptiesOf (k : Nat) : List UInt8 := (List.replicate k [13, 10]).flatten
theorem ahead_succ (k : Nat) : emptiesOf (k + 1) = 13 :: 10 :: emptiesOf k := by simp [emptiesOf, List.replicate_succ]
theorem ahead_snoc (k : Nat) : emptiesOf (k + 1) = emptiesOf k ++ [13, 10] := by simp [emptiesOf, List.replicate_succ', List.flatten_append]
theorem read_ahead (k : Nat) (s : List UInt8) : read8 false (emptiesOf k ++ s) = shift (2 * k) (read8 false s) := by
  have hk : ∀ k, skip8 (emptiesOf k ++ s) = 2 * k + skip8 s ∧ (emptiesOf k ++ s).drop (2 * k + skip8 s) = s.drop (skip8 s) := by
    intro k
    induction k with
    | zero => simp [emptiesOf]
    | succ k ih =>
      rw [ahead_succ, List.cons_append, List.cons_append, skip8, if_pos ⟨rfl, rfl⟩, ih.1]
      refine ⟨by omega, ?_⟩
      rw [show 2 * (k + 1) + skip8 s = 2 * k + skip8 s + 1 + 1 by omega, List.drop_succ_cons, List.drop_succ_cons]
      exact ih.2
  unfold read8 skipOf
  simp only [Bool.false_eq_true, if_false]
  rw [(hk k).1, (hk k).2, Nat.add_comm]
  exact from_shift _ _ _ _
end Go.Proofs.YtclecgopmegjeaaDoor.HeadPure

/- The row's last step for any law that changes nothing of what was there: the arguments read as they did, the result is true. No program is named. -/
namespace Go.Proofs.YtclecgopmegjeaaDoor.LawKit
open Go.ChangeShapes Go.WideShapes Go.ChangeAt Go.RowKit
variable {H : Type} {enc : TypeId × Value → H} {P : Program}

theorem trodAll_stays (hl : laidOutB P = true) {W W' : World} {sp : Nat → Bool} : ∀ {ts : List TypeId} {vs : List Value} {ds : List (DataW H)} {ps : List MemPlace},
    (∀ t ∈ ts, P.readableRec t = true ∧ t < P.types.size) → DataW.TrodAll enc P W 0 (fun _ => true) true ts vs ds ps → (∀ p ∈ ps, W.sameAt W' p) → (∀ p ∈ ps, sp p.block = true) →
    DataW.TrodAll enc P W' 0 sp true ts vs ds ps
  | [], [], [], _, _, h, _, _ => h
  | t :: ts, v :: vs, d :: ds, ps, ht, h, hs, hsp => by
    obtain ⟨p, q, h1, h2, rfl⟩ := h
    obtain ⟨hr, hrow⟩ := ht t (List.mem_cons_self ..)
    exact ⟨p, q, WideElems.Trod_stays hl hr hrow h1 (fun x hx => hs x (List.mem_append_left _ hx)) (fun x hx => hsp x (List.mem_append_left _ hx)),
      trodAll_stays hl (fun t ht' => ht t (List.mem_cons_of_mem _ ht')) h2 (fun x hx => hs x (List.mem_append_right _ hx)) (fun x hx => hsp x (List.mem_append_right _ hx)), rfl⟩
  | [], _ :: _, _, _, _, h, _, _ => h.elim
  | [], [], _ :: _, _, _, h, _, _ => h.elim
  | _ :: _, [], _, _, _, h, _, _ => h.elim
  | _ :: _, _ :: _, [], _, _, h, _, _ => h.elim

/-- a law without package variables: true, and nothing that was there has turned -/
theorem law_post {f : Func} {s : ChangeSpec} {W W' : World} {args : Array Value} {ds gs : List (DataW H)} {before : List MemPlace} {bt : TypeId}
    (hl : laidOutB P = true) (ht : f.params.toList.all (fun t => P.readableRec t && decide (t < P.types.size)) = true)
    (hW : DataW.Whole enc P f.params.toList s.vars false W args.toList ds gs before) (hvars : s.vars = [])
    (hfn : s.fn H (ds ++ gs) = { results := [.lit (.bool true)], args := ds }) (hres : f.resultTypes = #[bt]) (hbt : P.underlying bt = some .bool)
    (hb : Below W.heap.size W W') : s.post enc P f false true false false W args (.bool true) W' := by
  have hW' := hW
  obtain ⟨p, q, hA, hV, rfl, hfz, hnd⟩ := hW
  rw [hvars] at hV
  have hlt : ∀ x ∈ p ++ q, x.block < W.heap.size := fun x hx => by simpa using hW'.lt x hx
  obtain ⟨rfl, rfl⟩ : gs = [] ∧ q = [] := by
    cases gs with
    | nil => exact ⟨rfl, hV⟩
    | cons => exact hV.elim
  have hall : ∀ sp : Nat → Bool, (∀ x ∈ p ++ [], sp x.block = true) → DataW.TrodAll enc P W' 0 sp true f.params.toList args.toList ds p := fun sp hsp =>
    trodAll_stays hl (fun t htt => by
      have := List.all_eq_true.1 ht t htt
      simpa using this) hA (fun x hx => hb.same (hlt x (List.mem_append_left _ hx))) (fun x hx => hsp x (List.mem_append_left _ hx))
  have hold : ∀ x ∈ p ++ [], (fun b => decide (b < W.heap.size)) x.block = true := fun x hx => by simpa using hlt x hx
  have hT : ∀ (b : Nat) (sp : Nat → Bool) (hd : Bool), DataW.TrodAll enc P W' b sp hd f.resultTypes.toList ((Value.bool true).resultList f.resultTypes.size) [.lit (.bool true)] [] := fun b sp hd => by
    rw [hres]
    exact trodAll_cons_mk (shut_bool hbt _) trodAll_mk0
  refine ⟨ds, [], p ++ [], [], p, [], hW', ?_, ?_, ?_, World.keptBut_mono (fun x hx => ⟨hx, ?_⟩) (hb.frame (· ∈ p ++ [])), fun h => by cases h⟩
  · rw [hfn]; exact hT _ _ _
  · rw [hfn]; exact hall _ hold
  · rw [hfn, hvars]; rfl
  · exact Or.inr (Or.inl (by simpa using hx))
/-- what is reached through one argument weighs no more than the form lets -/
theorem weights_get {q : Nat → Bool} : ∀ (ts : List TypeId) (ds : List (DataW H)) (i : Nat) (t : TypeId) (d : DataW H), (DataW.weightsEach P ts ds).all q = true → ts[i]? = some t → ds[i]? = some d → (d.weights P t).all q = true
  | [], _, _, _, _, _, h, _ => by simp at h
  | _ :: _, [], _, _, _, _, _, h => by simp at h
  | t' :: ts, d' :: ds, 0, t, d, hq, ht, hd => by
    simp only [List.getElem?_cons_zero, Option.some.injEq] at ht hd
    subst ht; subst hd
    simp only [DataW.weightsEach, List.all_append, Bool.and_eq_true] at hq
    exact hq.1
  | t' :: ts, d' :: ds, i + 1, t, d, hq, ht, hd => by
    simp only [List.getElem?_cons_succ] at ht hd
    simp only [DataW.weightsEach, List.all_append, Bool.and_eq_true] at hq
    exact weights_get ts ds i t d hq.2 ht hd
theorem weight_string {t : TypeId} {s : ByteArray} (h : ((DataW.lit (H := H) (.string s.data.toList)).weights P t).all (fun x => decide (x ≤ reachBytes)) = true) : s.size ≤ 140737488351232 := by
  simp only [DataW.weights, List.all_cons, List.all_nil, Bool.and_true, reachBytes] at h
  have := of_decide_eq_true h
  simpa using this
end Go.Proofs.YtclecgopmegjeaaDoor.LawKit

/- Two closed facts on the loaded program, laid once for all laws of the seat. -/
namespace Go.Proofs.YtclecgopmegjeaaDoor.LawBase
theorem own : ownKnob Tryd.prog.godebug = none := by kernel_rfl
theorem laidOut : laidOutB Tryd.prog = true := by kernel_rfl
end Go.Proofs.YtclecgopmegjeaaDoor.LawBase

/- Results that are equal. No program is named. -/
namespace Go.Proofs.YtclecgopmegjeaaDoor.Ret
theorem ret_bool {a b : Bool} (h : a = b) : Ending.returned (.bool a) = .returned (.bool b) := by rw [h]
theorem ret_string {a b : ByteArray} (h : a = b) : Ending.returned (.string a) = .returned (.string b) := by rw [h]
theorem ret_num {a b : Int} {p q : Bool} (h : a = b) (k : p = q) : Ending.returned (.tuple #[.int .i64 a, .bool p]) = .returned (.tuple #[.int .i64 b, .bool q]) := by rw [h, k]
end Go.Proofs.YtclecgopmegjeaaDoor.Ret

/- Layer 8 of the program: nextLine. -/
namespace Go.Proofs.YtclecgopmegjeaaDoor.PNext
open Go.ChangeShapes Go.WideShapes Go.ChangeAt Go.RowKit LexPure Bytes Ret HeadPure
set_option maxRecDepth 20000
/-- a line as the program tells it: its bytes, whether it is whole, the error -/
def lineT (s : List UInt8) : Line → List UInt8
  | .whole k => s.take k
  | _ => []
def lineB : Line → Bool
  | .whole _ => true
  | _ => false
def lineE : Line → Int
  | .bad e => e
  | _ => 0
theorem ret_line {a b : ByteArray} (h : a = b) {p q : Bool} (k : p = q) {x y : Int} (l : x = y) : Ending.returned (.tuple #[.string a, .bool p, .int .i64 x]) = .returned (.tuple #[.string b, .bool q, .int .i64 y]) := by rw [h, k, l]
theorem mark_line (b : UInt8) : (b = 10 ∧ ((b.toNat : Int) == 10) = true ∧ ((b.toNat : Int) == 13) = false) ∨ (b = 13 ∧ b ≠ 10 ∧ ((b.toNat : Int) == 10) = false ∧ ((b.toNat : Int) == 13) = true) ∨ (b ≠ 10 ∧ b ≠ 13 ∧ ((b.toNat : Int) == 10) = false ∧ ((b.toNat : Int) == 13) = false) := by
  have := all_bytes (p := fun b => decide ((b = 10 ∧ ((b.toNat : Int) == 10) = true ∧ ((b.toNat : Int) == 13) = false) ∨ (b = 13 ∧ b ≠ 10 ∧ ((b.toNat : Int) == 10) = false ∧ ((b.toNat : Int) == 13) = true) ∨ (b ≠ 10 ∧ b ≠ 13 ∧ ((b.toNat : Int) == 10) = false ∧ ((b.toNat : Int) == 13) = false))) (by decide +kernel) b
  exact of_decide_eq_true this
set_option maxHeartbeats 1600000 in
theorem pnext_any (s : ByteArray) (hs : s.size ≤ 4611686018427387904) (most : Nat) (over : Int) (w : World) :
    Calls Tryd.prog 37 #[.string s, .int .i64 (most : Int), .int .i64 over] w fun e w' => e = .returned (.tuple #[.string (ofL (lineT (toL s) (scan most over 0 (toL s)))), .bool (lineB (scan most over 0 (toL s))), .int .i64 (lineE (scan most over 0 (toL s)))]) ∧ w' = w := by
  go_enter Tryd.func37, Tryd.ntmps37
  go_wp2_with fail
  go_loop [12] (fun i => ∃ k : Nat, k ≤ s.size ∧ i = .int .i64 k ∧ Hid (scan most over 0 (toL s) = scan most over k ((toL s).drop k))) (fun i => s.size - (intOf i).toNat)
  case atStart => exact ⟨0, Nat.zero_le _, rfl, Lib.hid rfl⟩
  case round =>
    obtain ⟨k, hk, rfl, hq⟩ := hrel
    by_cases hlt : k < s.size
    · have hki : (k : Int) < (s.size : Int) := by omega
      have HE : Hid (scan most over 0 (toL s) = scan most over k (s[k] :: (toL s).drop (k + 1))) := Lib.hid (by rw [hq.out, toL_drop s k hlt])
      clear hq
      rcases mark_line s[k] with ⟨c0, c1, c2⟩ | ⟨c0, c9, c1, c2⟩ | ⟨c0, c9, c1, c2⟩
      · have HV : Hid (scan most over 0 (toL s) = .bad 80) := Lib.hid (by rw [HE.out, scan_cons, if_pos c0])
        clear HE c0 c2
        go_wp2_with fail
        go_ret3
        rw [HV.out]
        exact ⟨rfl, rfl⟩
      · by_cases hn : k + 1 < s.size
        · have hni : (k : Int) + 1 < (s.size : Int) := by omega
          have hng : ((k : Int) + 1 == (s.size : Int)) = false := beq_eq_false_iff_ne.2 (by omega)
          have HD : Hid (scan most over 0 (toL s) = if s[k + 1] = 10 then .whole k else .bad 80) := Lib.hid (by
            rw [HE.out, scan_cons, if_neg c9, if_pos c0, toL_drop s (k + 1) hn])
          rcases mark_line s[k + 1] with ⟨d0, d1, d2⟩ | ⟨_, d0, d1, d2⟩ | ⟨d0, _, d1, d2⟩
          · have HV : Hid (scan most over 0 (toL s) = .whole k) := Lib.hid (by rw [HD.out, if_pos d0])
            have HT : Hid (s.extract 0 k = ofL ((toL s).take k)) := Lib.hid (toL_inj (by rw [toL_extract, toL_ofL, List.drop_zero]))
            clear HE HD c0 c9 d0 d2
            go_wp2_with fail
            go_ret3
            rw [HV.out]
            exact ⟨ret_line HT.out rfl rfl, rfl⟩
          · have HV : Hid (scan most over 0 (toL s) = .bad 80) := Lib.hid (by rw [HD.out, if_neg d0])
            clear HE HD c0 c9 d0 d2
            go_wp2_with fail
            go_ret3
            rw [HV.out]
            exact ⟨rfl, rfl⟩
          · have HV : Hid (scan most over 0 (toL s) = .bad 80) := Lib.hid (by rw [HD.out, if_neg d0])
            clear HE HD c0 c9 d0 d2
            go_wp2_with fail
            go_ret3
            rw [HV.out]
            exact ⟨rfl, rfl⟩
        · have hng : ((k : Int) + 1 == (s.size : Int)) = true := by rw [beq_iff_eq]; omega
          have HV : Hid (scan most over 0 (toL s) = .wait) := Lib.hid (by
            rw [HE.out, scan_cons, if_neg c9, if_pos c0, List.drop_eq_nil_of_le (by rw [toL_length]; omega)])
          clear HE c0 c9 hn
          go_wp2_with fail
          go_ret3
          rw [HV.out]
          exact ⟨rfl, rfl⟩
      · by_cases hm : most ≤ k
        · have hmi : (most : Int) ≤ (k : Int) := by omega
          have HV : Hid (scan most over 0 (toL s) = .bad over) := Lib.hid (by rw [HE.out, scan_cons, if_neg c0, if_neg c9, if_pos hm])
          clear HE c0 c9
          go_wp2_with fail
          go_ret3
          rw [HV.out]
          exact ⟨rfl, rfl⟩
        · have hmi : ¬ (most : Int) ≤ (k : Int) := by omega
          have HV : Hid (scan most over 0 (toL s) = scan most over (k + 1) ((toL s).drop (k + 1))) := Lib.hid (by
            rw [HE.out, scan_cons, if_neg c0, if_neg c9, if_neg hm])
          clear HE c0 c9
          go_wp2_with fail
          go_round
          case rel => exact ⟨k + 1, by omega, by go_num, HV⟩
          case measure => simp [intOf]; omega
    · have hki : ¬ (k : Int) < (s.size : Int) := by omega
      have HV : Hid (scan most over 0 (toL s) = .wait) := Lib.hid (by rw [hq.out, List.drop_eq_nil_of_le (by rw [toL_length]; omega)]; rfl)
      clear hq
      go_wp2_with fail
      go_ret3
      rw [HV.out]
      exact ⟨rfl, rfl⟩
end Go.Proofs.YtclecgopmegjeaaDoor.PNext

/- A text cut at its first byte of a kind: ahead of it, behind it. No program is named. -/
namespace Go.Proofs.YtclecgopmegjeaaDoor.CutAt
open Bytes
def aheadOf (x : UInt8) (s : List UInt8) : List UInt8 := s.takeWhile (fun c => c != x)
def behind (x : UInt8) (s : List UInt8) : List UInt8 := (s.dropWhile (fun c => c != x)).tail
def hasB (x : UInt8) (s : List UInt8) : Bool := s.any (fun c => c == x)
theorem index_tail (x : UInt8) (c : UInt8) (l : List UInt8) (h : (c == x) = false) : Go.Lib.index (c :: l) [x] = if Go.Lib.index l [x] == -1 then -1 else Go.Lib.index l [x] + 1 := by
  have hp : ([x] : List UInt8).isPrefixOf (c :: l) = false := by
    have : ¬ x = c := fun e => by rw [← e, beq_self_eq_true] at h; cases h
    simp [List.isPrefixOf, this]
  rw [Go.Lib.index, hp]
  rfl
theorem cut_say (x : UInt8) (s : List UInt8) : (Go.Lib.cut s [x]).1 = aheadOf x s ∧ (Go.Lib.cut s [x]).2.1 = behind x s ∧ (Go.Lib.cut s [x]).2.2 = hasB x s := by
  unfold aheadOf behind hasB Go.Lib.cut
  induction s with
  | nil =>
    have : Go.Lib.index [] [x] = -1 := by simp [Go.Lib.index]
    rw [this]
    exact ⟨rfl, rfl, rfl⟩
  | cons c l ih =>
    by_cases hc : c = x
    · subst hc
      have hix : Go.Lib.index (c :: l) [c] = 0 := by rw [Go.Lib.index]; simp [List.isPrefixOf]
      rw [hix]
      simp
    · have hq : (c == x) = false := by simpa using hc
      have hn : (c != x) = true := by simp [hc]
      rw [index_tail x c l hq, List.takeWhile_cons, hn, List.dropWhile_cons, hn, List.any_cons, hq]
      have hge := Go.Lib.index_ge l [x]
      by_cases hm : Go.Lib.index l [x] = -1
      · rw [hm] at ih ⊢
        simp at ih ⊢
        exact ⟨ih.1, ih.2⟩
      · obtain ⟨i, hi⟩ : ∃ i : Nat, Go.Lib.index l [x] = i := ⟨(Go.Lib.index l [x]).toNat, by omega⟩
        rw [hi] at ih ⊢
        have h1 : ((i : Int) == -1) = false := beq_eq_false_iff_ne.2 (by omega)
        have h3 : ((i : Int) + 1).toNat = i + 1 := by omega
        have h4 : (0 : Int) ≤ (i : Int) + 1 := by omega
        have h5 : (0 : Int) ≤ (i : Int) := by omega
        simp only [h1, h3, h4, h5, if_true, Bool.false_eq_true, if_false, Bool.false_or] at ih ⊢
        rw [show i + 1 + ([x] : List UInt8).length = (i + [x].length) + 1 from rfl, List.take_succ_cons, List.drop_succ_cons]
        exact ⟨by rw [← ih.1]; simp, ih.2.1, ih.2.2⟩
end Go.Proofs.YtclecgopmegjeaaDoor.CutAt

/- Numbers read from digits. No program is named. -/
namespace Go.Proofs.YtclecgopmegjeaaDoor.LexNum
open LexPure Bytes
theorem numV_snoc (base : Nat) (l : List UInt8) (c : UInt8) : numV base (l ++ [c]) = base * numV base l + dig c := by
  simp [numV, List.foldl_append]
theorem numV_lt (base : Nat) (l : List UInt8) (h : l.all (fun c => decide (dig c < base)) = true) : numV base l < base ^ l.length := by
  have key : ∀ r : List UInt8, r.reverse.all (fun c => decide (dig c < base)) = true → numV base r.reverse < base ^ r.length := by
    intro r
    induction r with
    | nil => intro _; simp [numV]
    | cons c r ih =>
      intro h
      rw [List.reverse_cons, List.all_append, Bool.and_eq_true] at h
      have h1 := ih h.1
      have h2 : dig c < base := by simpa using h.2
      rw [List.reverse_cons, numV_snoc, List.length_cons, Nat.pow_succ]
      have h3 : base * (numV base r.reverse + 1) ≤ base * base ^ r.length := Nat.mul_le_mul_left _ h1
      rw [Nat.mul_add, Nat.mul_one, Nat.mul_comm base (base ^ r.length)] at h3
      omega
  have := key l.reverse (by rw [List.reverse_reverse]; exact h)
  rwa [List.reverse_reverse, List.length_reverse] at this
/-- the base and how many digits may be read in it -/
def Fit (base : Nat) (digits : Int) : Prop := (base = 10 ∧ digits ≤ 18) ∨ (base = 16 ∧ digits ≤ 15)
theorem Fit.bound {base : Nat} {digits : Int} (h : Fit base digits) {l : List UInt8} (hl : (l.length : Int) < digits) (ha : l.all (fun c => decide (dig c < base)) = true) : base * numV base l ≤ 1152921504606846976 ∧ base ≤ 16 := by
  have hv := numV_lt base l ha
  rcases h with ⟨rfl, hd⟩ | ⟨rfl, hd⟩
  · have : 10 ^ l.length ≤ 10 ^ 17 := Nat.pow_le_pow_right (by decide) (by omega)
    omega
  · have : 16 ^ l.length ≤ 16 ^ 14 := Nat.pow_le_pow_right (by decide) (by omega)
    omega
/-- where a byte lies among the digits -/
theorem dig_at (b : UInt8) : ((b.toNat : Int) < 48 ∧ dig b = 99) ∨ (48 ≤ (b.toNat : Int) ∧ (b.toNat : Int) ≤ 57 ∧ (dig b : Int) = (b.toNat : Int) - 48) ∨ (57 < (b.toNat : Int) ∧ (b.toNat : Int) < 65 ∧ dig b = 99) ∨
    (65 ≤ (b.toNat : Int) ∧ (b.toNat : Int) ≤ 70 ∧ (dig b : Int) = (b.toNat : Int) - 55) ∨ (70 < (b.toNat : Int) ∧ (b.toNat : Int) < 97 ∧ dig b = 99) ∨ (97 ≤ (b.toNat : Int) ∧ (b.toNat : Int) ≤ 102 ∧ (dig b : Int) = (b.toNat : Int) - 87) ∨ (102 < (b.toNat : Int) ∧ dig b = 99) := by
  have := all_bytes (p := fun b => decide (((b.toNat : Int) < 48 ∧ dig b = 99) ∨ (48 ≤ (b.toNat : Int) ∧ (b.toNat : Int) ≤ 57 ∧ (dig b : Int) = (b.toNat : Int) - 48) ∨ (57 < (b.toNat : Int) ∧ (b.toNat : Int) < 65 ∧ dig b = 99) ∨
    (65 ≤ (b.toNat : Int) ∧ (b.toNat : Int) ≤ 70 ∧ (dig b : Int) = (b.toNat : Int) - 55) ∨ (70 < (b.toNat : Int) ∧ (b.toNat : Int) < 97 ∧ dig b = 99) ∨ (97 ≤ (b.toNat : Int) ∧ (b.toNat : Int) ≤ 102 ∧ (dig b : Int) = (b.toNat : Int) - 87) ∨ (102 < (b.toNat : Int) ∧ dig b = 99))) (by decide +kernel) b
  exact of_decide_eq_true this
theorem dig_le (b : UInt8) : dig b ≤ 99 := by
  have := dig_at b
  omega
end Go.Proofs.YtclecgopmegjeaaDoor.LexNum

/- Layer 8, lines cut at blanks, at a dot, at a colon: another way to the same answers. No program is named. -/
namespace Go.Proofs.YtclecgopmegjeaaDoor.HeadCut
open Bytes LexPure LexNum FieldsPure HeadPure CutAt
set_option maxRecDepth 20000
theorem cut_drop (x : UInt8) : ∀ s : List UInt8, behind x s = s.drop ((aheadOf x s).length + 1)
  | [] => rfl
  | c :: s => by
    unfold behind aheadOf
    rw [List.dropWhile_cons, List.takeWhile_cons]
    split
    · rw [List.length_cons, List.drop_succ_cons]
      exact cut_drop x s
    · rfl
theorem ahead_take (x : UInt8) : ∀ s : List UInt8, aheadOf x s = s.take (aheadOf x s).length
  | [] => rfl
  | c :: s => by
    unfold aheadOf
    rw [List.takeWhile_cons]
    split
    · rw [List.length_cons, List.take_succ_cons]
      exact congrArg _ (ahead_take x s)
    · rfl
theorem cut_at {x : UInt8} {b : List UInt8} : ∀ {a : List UInt8}, (∀ c ∈ a, c ≠ x) → aheadOf x (a ++ x :: b) = a ∧ behind x (a ++ x :: b) = b ∧ hasB x (a ++ x :: b) = true
  | [], _ => by simp [aheadOf, behind, hasB]
  | c :: a, h => by
    have hc : (c != x) = true := bne_iff_ne.2 (h c (List.mem_cons_self))
    obtain ⟨h1, h2, h3⟩ := cut_at (b := b) (a := a) (fun d hd => h d (List.mem_cons_of_mem _ hd))
    unfold aheadOf behind hasB at *
    rw [List.cons_append, List.takeWhile_cons, if_pos hc, List.dropWhile_cons, if_pos hc, List.any_cons, h1, h2, h3, Bool.or_true]
    exact ⟨rfl, rfl, rfl⟩
theorem cut_none {x : UInt8} : ∀ {a : List UInt8}, (∀ c ∈ a, c ≠ x) → aheadOf x a = a ∧ behind x a = [] ∧ hasB x a = false
  | [], _ => ⟨rfl, rfl, rfl⟩
  | c :: a, h => by
    have hc : (c != x) = true := bne_iff_ne.2 (h c (List.mem_cons_self))
    have hq : (c == x) = false := beq_eq_false_iff_ne.2 (h c (List.mem_cons_self))
    obtain ⟨h1, h2, h3⟩ := cut_none (a := a) (fun d hd => h d (List.mem_cons_of_mem _ hd))
    unfold aheadOf behind hasB at *
    rw [List.takeWhile_cons, if_pos hc, List.dropWhile_cons, if_pos hc, List.any_cons, h1, h2, h3, hq]
    exact ⟨rfl, rfl, rfl⟩
theorem cut_or (x : UInt8) : ∀ s : List UInt8, (∃ a b, s = a ++ x :: b ∧ ∀ c ∈ a, c ≠ x) ∨ (∀ c ∈ s, c ≠ x)
  | [] => .inr (fun c h => by cases h)
  | c :: s => by
    by_cases hc : c = x
    · exact .inl ⟨[], s, by rw [hc]; rfl, fun d h => by cases h⟩
    · rcases cut_or x s with ⟨a, b, h, h2⟩ | h
      · exact .inl ⟨c :: a, b, by rw [h]; rfl, fun d hd => by rcases List.mem_cons.1 hd with rfl | hd; exact hc; exact h2 d hd⟩
      · exact .inr (fun d hd => by rcases List.mem_cons.1 hd with rfl | hd; exact hc; exact h d hd)
theorem dig_digit (c : UInt8) : decide (dig c < 10) = digitB c ∧ (digitB c = true → (dig c : Int) = (c.toNat : Int) - 48 ∧ c ≠ 32) := by
  have := all_bytes (p := fun c => decide (decide (dig c < 10) = digitB c ∧ (digitB c = true → (dig c : Int) = (c.toNat : Int) - 48 ∧ c ≠ 32))) (by decide +kernel) c
  exact of_decide_eq_true this
/-! ### the version -/
theorem one_digit (f : List UInt8) : numOk 10 1 f = true ↔ ∃ a, f = [a] ∧ digitB a = true := by
  unfold numOk
  cases f with
  | nil => simp
  | cons a f =>
    cases f with
    | nil => simp [(dig_digit a).1.symm]
    | cons b f => simp; omega
theorem one_worth {a : UInt8} (h : digitB a = true) : numR 10 1 [a] = (a.toNat : Int) - 48 := by
  unfold numR
  rw [(one_digit [a]).2 ⟨a, rfl, h⟩, ← ((dig_digit a).2 h).1]
  simp [numV]
def HTTPS : List UInt8 := [72, 84, 84, 80, 47]
def verR (s : List UInt8) : List UInt8 := if HTTPS.isPrefixOf s = true then s.drop 5 else s
def verP (s : List UInt8) : Int × Int :=
  if HTTPS.isPrefixOf s = true ∧ numOk 10 1 (aheadOf 46 (verR s)) = true ∧ numOk 10 1 (behind 46 (verR s)) = true then (if numR 10 1 (aheadOf 46 (verR s)) = 1 then (numR 10 1 (behind 46 (verR s)), 0) else (0, 81)) else (0, 80)
theorem version_prog (s : List UInt8) : version8 s = verP s := by
  by_cases h : HTTPS.isPrefixOf s = true ∧ numOk 10 1 (aheadOf 46 (verR s)) = true ∧ numOk 10 1 (behind 46 (verR s)) = true
  · have hv : verR s = s.drop 5 := by unfold verR; rw [if_pos h.1]
    unfold verP
    rw [if_pos h]
    rw [hv] at h ⊢
    obtain ⟨h1, h2, h3⟩ := h
    obtain ⟨a, e2, d2⟩ := (one_digit _).1 h2
    obtain ⟨b, e3, d3⟩ := (one_digit _).1 h3
    obtain ⟨t, ht⟩ := List.isPrefixOf_iff_prefix.1 h1
    have hs : s = HTTPS ++ [a, 46, b] := by
      rw [← ht] at e2 e3 ⊢
      have hd : (HTTPS ++ t).drop 5 = t := rfl
      rw [hd] at e2 e3
      rcases cut_or 46 t with ⟨x, y, hxy, hx⟩ | hx
      · have := cut_at (b := y) hx
        rw [← hxy] at this
        rw [hxy, ← this.1, ← this.2.1, e2, e3]
        rfl
      · rw [(cut_none hx).2.1] at e3
        cases e3
    rw [e2, e3, one_worth d2, one_worth d3, hs]
    show (if _ then _ else _) = _
    rw [if_pos ⟨rfl, rfl, rfl, rfl, rfl, rfl, d2, d3⟩]
    by_cases h1 : a = 49
    · subst h1
      rw [if_pos rfl, if_pos (by decide)]
    · rw [if_neg h1, if_neg]
      intro h
      exact h1 (UInt8.toNat_inj.1 (by show a.toNat = 49; omega))
  · unfold verP
    rw [if_neg h]
    unfold version8
    split
    · rename_i c1 c2 c3 c4 c5 a c6 b
      rw [if_neg]
      rintro ⟨rfl, rfl, rfl, rfl, rfl, rfl, d2, d3⟩
      refine h ⟨rfl, ?_⟩
      have hv : verR [72, 84, 84, 80, 47, a, 46, b] = [a] ++ 46 :: [b] := by
        unfold verR
        rw [if_pos (show HTTPS.isPrefixOf [72, 84, 84, 80, 47, a, 46, b] = true from rfl)]
        rfl
      have ha : ∀ c ∈ [a], c ≠ 46 := by
        intro c hc
        rw [List.mem_singleton] at hc
        subst hc
        intro e
        subst e
        exact absurd d2 (by decide)
      obtain ⟨e1, e2, _⟩ := cut_at (b := [b]) ha
      rw [hv, e1, e2]
      exact ⟨(one_digit _).2 ⟨a, rfl, d2⟩, (one_digit _).2 ⟨b, rfl, d3⟩⟩
    · rfl
/-- a version of its form has eight bytes and no blank -/
theorem version_form {s : List UInt8} (h : (version8 s).2 ≠ 80) : s.length = 8 ∧ ∀ c ∈ s, c ≠ 32 := by
  unfold version8 at h
  split at h
  · rename_i c1 c2 c3 c4 c5 a c6 b
    by_cases hc : c1 = 72 ∧ c2 = 84 ∧ c3 = 84 ∧ c4 = 80 ∧ c5 = 47 ∧ c6 = 46 ∧ digitB a = true ∧ digitB b = true
    · obtain ⟨rfl, rfl, rfl, rfl, rfl, rfl, d2, d3⟩ := hc
      refine ⟨rfl, ?_⟩
      have ha := ((dig_digit a).2 d2).2
      have hb := ((dig_digit b).2 d3).2
      intro c hc
      simp only [List.mem_cons, List.not_mem_nil, or_false] at hc
      rcases hc with rfl | rfl | rfl | rfl | rfl | rfl | rfl | rfl <;> first | exact ha | exact hb | decide
    · rw [if_neg hc] at h
      exact absurd rfl h
  · exact absurd rfl h
theorem version_nil : version8 [] = (0, 80) := rfl
/-! ### the start line -/
def startP (l : List UInt8) : H8 × Int :=
  if (aheadOf 32 l).length ≤ 16 ∧ token (aheadOf 32 l) = true ∧ (aheadOf 32 (behind 32 l)).all seenB = true ∧ aheadOf 32 (behind 32 l) ≠ [] then
    (if (version8 (behind 32 (behind 32 l))).2 = 0 then (⟨aheadOf 32 l, aheadOf 32 (behind 32 l), 0, [], (version8 (behind 32 (behind 32 l))).1, []⟩, 0) else (zero8, (version8 (behind 32 (behind 32 l))).2))
  else (zero8, 80)
theorem start_prog (l : List UInt8) : start8 l = startP l := by
  unfold start8 startP
  rw [show upB l = aheadOf 32 l from rfl, ← cut_drop]
  generalize hr : behind 32 l = r
  simp only
  rw [show upB r = aheadOf 32 r from rfl, ← cut_drop]
  have hlr : (aheadOf 32 l).length < l.length ∨ r = [] := by
    rw [← hr, cut_drop]
    rcases Nat.lt_or_ge (aheadOf 32 l).length l.length with h | h
    · exact .inl h
    · exact .inr (List.drop_eq_nil_of_le (by omega))
  have hlv : (aheadOf 32 r).length < r.length ∨ version8 (behind 32 r) = (0, 80) := by
    rcases Nat.lt_or_ge (aheadOf 32 r).length r.length with h | h
    · exact .inl h
    · exact .inr (by rw [cut_drop, List.drop_eq_nil_of_le (by omega)]; rfl)
  have hpos : 0 < (aheadOf 32 r).length ↔ aheadOf 32 r ≠ [] := List.length_pos_iff
  by_cases h1 : (aheadOf 32 l).length ≤ 16 ∧ token (aheadOf 32 l) = true ∧ (aheadOf 32 r).all seenB = true ∧ aheadOf 32 r ≠ []
  · rw [if_pos h1]
    obtain ⟨a1, a2, a3, a4⟩ := h1
    have hl : (aheadOf 32 l).length < l.length := by
      rcases hlr with h | h
      · exact h
      · rw [h] at a4; exact absurd rfl a4
    rw [if_pos (show (aheadOf 32 l).length < l.length ∧ (aheadOf 32 l).length ≤ 16 ∧ token (aheadOf 32 l) = true from ⟨hl, a1, a2⟩)]
    rcases hlv with h | h
    · rw [if_pos (show (aheadOf 32 r).length < r.length ∧ 0 < (aheadOf 32 r).length ∧ (aheadOf 32 r).all seenB = true from ⟨h, hpos.2 a4, a3⟩)]
    · rw [h]
      simp
  · rw [if_neg h1]
    by_cases h2 : (aheadOf 32 l).length < l.length ∧ (aheadOf 32 l).length ≤ 16 ∧ token (aheadOf 32 l) = true
    · rw [if_pos h2, if_neg]
      rintro ⟨_, b2, b3⟩
      exact h1 ⟨h2.2.1, h2.2.2, b3, hpos.1 b2⟩
    · rw [if_neg h2]
/-! ### the status line -/
theorem plain_blank (c : UInt8) (h : blankB c = true) : plainB c = true := by
  have := all_bytes (p := fun c => !blankB c || plainB c) (by decide +kernel) c
  rw [h] at this
  simpa using this
theorem drop_plain (s : List UInt8) : (s.dropWhile blankB).all plainB = s.all plainB := by
  induction s with
  | nil => rfl
  | cons c s ih =>
    rw [List.dropWhile_cons]
    split
    · rename_i h
      rw [ih, List.all_cons, plain_blank c h, Bool.true_and]
    · rfl
theorem trim_plain (s : List UInt8) : (trim s).all plainB = s.all plainB := by
  unfold trim
  rw [List.all_reverse, drop_plain, List.all_reverse, drop_plain]
theorem value_trim' (s : List UInt8) : value (trim s) = s.all plainB := by
  unfold value
  rw [trim_plain]
  cases h : s.all plainB with
  | false => rfl
  | true =>
    rw [Bool.true_and]
    cases ht : trim s with
    | nil => rfl
    | cons c r =>
      have h1 : blankB c = false := trim_head c r ht
      have h2 : blankB ((c :: r).getLastD 0) = false := by
        rw [List.getLastD_eq_getLast?, ← List.head?_reverse]
        cases hr : (c :: r).reverse with
        | nil => simp at hr
        | cons d t =>
          exact trim_last d t (by rw [ht]; exact hr)
      rw [List.headD_cons, h1, h2]
      rfl
def statusP (l : List UInt8) : H8 × Int :=
  if numOk 10 3 (aheadOf 32 (behind 32 l)) = true ∧ 100 ≤ numR 10 3 (aheadOf 32 (behind 32 l)) ∧ numR 10 3 (aheadOf 32 (behind 32 l)) ≤ 599 ∧ (behind 32 (behind 32 l)).all plainB = true then
    (if (version8 (aheadOf 32 l)).2 = 0 then (⟨[], [], numR 10 3 (aheadOf 32 (behind 32 l)), behind 32 (behind 32 l), (version8 (aheadOf 32 l)).1, []⟩, 0) else (zero8, (version8 (aheadOf 32 l)).2))
  else (zero8, 80)
theorem three_digits {d : List UInt8} (h : numOk 10 3 d = true) (h1 : 100 ≤ numR 10 3 d) : d.length = 3 := by
  unfold numR at h1
  rw [if_pos h] at h1
  unfold numOk at h
  simp only [Bool.and_eq_true, decide_eq_true_eq] at h
  obtain ⟨⟨h2, h3⟩, h4⟩ := h
  have hlt := numV_lt 10 d h4
  rcases (show d.length = 0 ∨ d.length = 1 ∨ d.length = 2 ∨ d.length = 3 by omega) with e | e | e | e
  · rw [e] at hlt; omega
  · rw [e] at hlt; omega
  · rw [e] at hlt; omega
  · exact e
theorem ok_bare {d : List UInt8} (h : numOk 10 3 d = true) : ∀ c ∈ d, c ≠ 32 := by
  unfold numOk at h
  simp only [Bool.and_eq_true] at h
  intro c hc
  have := List.all_eq_true.1 h.2 c hc
  rw [(dig_digit c).1] at this
  exact ((dig_digit c).2 this).2
theorem status_prog (l : List UInt8) : status8 l = statusP l := by
  by_cases hC : 12 ≤ l.length ∧ l[8]? = some 32 ∧ numOk 10 3 ((l.drop 9).take 3) = true ∧ 100 ≤ numR 10 3 ((l.drop 9).take 3) ∧ numR 10 3 ((l.drop 9).take 3) < 600 ∧ (l.length = 12 ∨ l[12]? = some 32) ∧ (l.drop 13).all plainB = true
  · have e8 : status8 l = if (version8 (l.take 8)).2 = 0 then (⟨[], [], numR 10 3 ((l.drop 9).take 3), l.drop 13, (version8 (l.take 8)).1, []⟩, 0) else (zero8, (version8 (l.take 8)).2) := by
      unfold status8
      rw [if_pos hC]
    rw [e8]
    obtain ⟨c1, c2, c3, c4, c5, c6, c7⟩ := hC
    have hl8 : l = l.take 8 ++ 32 :: l.drop 9 := by
      have h8 : 8 < l.length := by omega
      rw [List.getElem?_eq_getElem h8] at c2
      injection c2 with c2
      rw [← c2, ← List.drop_eq_getElem_cons h8, List.take_append_drop]
    by_cases hv : (version8 (l.take 8)).2 = 80
    · -- the version isn't of its form
      rw [hv, if_neg (by decide)]
      unfold statusP
      by_cases hp : numOk 10 3 (aheadOf 32 (behind 32 l)) = true ∧ 100 ≤ numR 10 3 (aheadOf 32 (behind 32 l)) ∧ numR 10 3 (aheadOf 32 (behind 32 l)) ≤ 599 ∧ (behind 32 (behind 32 l)).all plainB = true
      · rw [if_pos hp]
        have hv2 : (version8 (aheadOf 32 l)).2 = 80 := by
          rcases Decidable.em ((version8 (aheadOf 32 l)).2 = 80) with h | h
          · exact h
          · exfalso
            obtain ⟨f1, f2⟩ := version_form h
            have : aheadOf 32 l = l.take 8 := by rw [ahead_take, f1]
            rw [this] at h
            exact h hv
        rw [hv2, if_neg (by decide)]
      · rw [if_neg hp]
    · obtain ⟨_, f2⟩ := version_form hv
      obtain ⟨g1, g2, _⟩ := cut_at (b := l.drop 9) f2
      rw [← hl8] at g1 g2
      have h9 : l.drop 9 = (l.drop 9).take 3 ++ l.drop 12 := by
        conv => lhs; rw [← List.take_append_drop 3 (l.drop 9), List.drop_drop]
      have hb := ok_bare c3
      have hd : aheadOf 32 (l.drop 9) = (l.drop 9).take 3 ∧ behind 32 (l.drop 9) = l.drop 13 := by
        rcases c6 with h | h
        · have e12 : l.drop 12 = [] := List.drop_eq_nil_of_le (by omega)
          have e13 : l.drop 13 = [] := List.drop_eq_nil_of_le (by omega)
          have := cut_none hb
          rw [e12, List.append_nil] at h9
          rw [← h9] at this
          rw [e13, ← h9]
          exact ⟨this.1, this.2.1⟩
        · have h12 : 12 < l.length := by
            rcases Nat.lt_or_ge 12 l.length with h2 | h2
            · exact h2
            · rw [List.getElem?_eq_none h2] at h; cases h
          have e12 : l.drop 12 = 32 :: l.drop 13 := by
            rw [List.getElem?_eq_getElem h12] at h
            injection h with h
            rw [← h, ← List.drop_eq_getElem_cons h12]
          have := cut_at (b := l.drop 13) hb
          rw [← e12, ← h9] at this
          exact ⟨this.1, this.2.1⟩
      unfold statusP
      rw [g2, hd.1, hd.2, g1, if_pos (show numOk 10 3 ((l.drop 9).take 3) = true ∧ 100 ≤ numR 10 3 ((l.drop 9).take 3) ∧ numR 10 3 ((l.drop 9).take 3) ≤ 599 ∧ (l.drop 13).all plainB = true from ⟨c3, c4, by omega, c7⟩)]
  · have e8 : status8 l = (zero8, 80) := by
      unfold status8
      rw [if_neg hC]
    rw [e8]
    unfold statusP
    by_cases hp : numOk 10 3 (aheadOf 32 (behind 32 l)) = true ∧ 100 ≤ numR 10 3 (aheadOf 32 (behind 32 l)) ∧ numR 10 3 (aheadOf 32 (behind 32 l)) ≤ 599 ∧ (behind 32 (behind 32 l)).all plainB = true
    · rw [if_pos hp]
      rcases Decidable.em ((version8 (aheadOf 32 l)).2 = 80) with h | h
      · rw [h, if_neg (by decide)]
      · exfalso
        obtain ⟨f1, f2⟩ := version_form h
        obtain ⟨p1, p2, p3, p4⟩ := hp
        have h3 := three_digits p1 p2
        rcases cut_or 32 l with ⟨a, b, hab, ha⟩ | ha
        · obtain ⟨g1, g2, _⟩ := cut_at (b := b) ha
          rw [← hab] at g1 g2
          rw [g1] at f1
          have hb : b = l.drop 9 := by rw [hab, List.drop_append, f1, List.drop_eq_nil_of_le (by omega)]; rfl
          have hl8 : l[8]? = some 32 := by rw [hab, List.getElem?_append_right (by omega), f1]; rfl
          rw [g2] at p1 p2 p3 p4 h3
          have hbl : l.length = 9 + b.length := by rw [hab, List.length_append, List.length_cons]; omega
          rcases cut_or 32 b with ⟨x, y, hxy, hx⟩ | hx
          · obtain ⟨k1, k2, _⟩ := cut_at (b := y) hx
            rw [← hxy] at k1 k2
            rw [k1] at p1 p2 p3 h3
            rw [k2] at p4
            have e1 : (l.drop 9).take 3 = x := by rw [← hb, hxy, ← h3, List.take_left']; rfl
            have e2 : l.drop 13 = y := by
              rw [show l.drop 13 = (l.drop 9).drop 4 by rw [List.drop_drop], ← hb, hxy, List.drop_append, h3, List.drop_eq_nil_of_le (by omega)]
              rfl
            have e3 : l[12]? = some 32 := by
              rw [show l[12]? = (l.drop 9)[3]? by rw [List.getElem?_drop], ← hb, hxy, List.getElem?_append_right (by omega), h3]
              rfl
            refine hC ⟨?_, hl8, by rw [e1]; exact p1, by rw [e1]; exact p2, by rw [e1]; omega, .inr e3, by rw [e2]; exact p4⟩
            rw [hbl, hxy, List.length_append]
            omega
          · obtain ⟨k1, k2, _⟩ := cut_none hx
            rw [k1] at p1 p2 p3 h3
            have e1 : (l.drop 9).take 3 = b := by rw [← hb, List.take_of_length_le (by omega)]
            have e2 : l.drop 13 = [] := List.drop_eq_nil_of_le (by omega)
            exact hC ⟨by omega, hl8, by rw [e1]; exact p1, by rw [e1]; exact p2, by rw [e1]; omega, .inl (by omega), by rw [e2]; rfl⟩
        · rw [(cut_none ha).2.1] at h3
          cases h3
    · rw [if_neg hp]
/-! ### a field's line -/
def fieldP (l : List UInt8) : HField × Int :=
  if hasB 58 l = true ∧ token (aheadOf 58 l) = true ∧ value (trim (behind 58 l)) = true then ((aheadOf 58 l, trim (behind 58 l)), 0) else (([], []), 70)
theorem field_prog (l : List UInt8) : field8 l = fieldP l := by
  unfold field8 fieldP
  rw [show nameB l = aheadOf 58 l from rfl, ← cut_drop]
  have : (aheadOf 58 l).length < l.length ↔ hasB 58 l = true := by
    rcases cut_or 58 l with ⟨a, b, hab, ha⟩ | ha
    · obtain ⟨g1, _, g3⟩ := cut_at (b := b) ha
      rw [← hab] at g1 g3
      rw [g1, g3, hab, List.length_append, List.length_cons]
      constructor
      · intro; rfl
      · intro; omega
    · obtain ⟨g1, _, g3⟩ := cut_none ha
      rw [g1, g3]
      constructor
      · intro h; omega
      · intro h; cases h
  simp only [this]
end Go.Proofs.YtclecgopmegjeaaDoor.HeadCut

/- Layer 4 of the program: what its function of one byte of a value answers (ofValue). -/
namespace Go.Proofs.YtclecgopmegjeaaDoor.POfValue
open Go.ChangeShapes Go.WideShapes Go.ChangeAt Go.RowKit LexPure Bytes Ret LexNum
set_option maxRecDepth 20000
theorem plain_cases (b : UInt8) : plainB b = decide ((b.toNat : Int) = 9 ∨ (32 ≤ (b.toNat : Int) ∧ ¬ (b.toNat : Int) = 127)) := by
  have := all_bytes (p := fun b => plainB b == decide ((b.toNat : Int) = 9 ∨ (32 ≤ (b.toNat : Int) ∧ ¬ (b.toNat : Int) = 127))) (by decide +kernel) b
  simpa using this
theorem pofvalue_any (b : UInt8) (w : World) :
    Calls Tryd.prog 50 #[.int .u8 (b.toNat : Int)] w fun e w' => e = .returned (.bool (plainB b)) ∧ w = w' := by
  rw [plain_cases]
  generalize (b.toNat : Int) = c
  go_enter Tryd.func50, Tryd.ntmps50
  go_wp2_with fail
  all_goals
    go_ret
    refine ⟨ret_bool ?_, rfl⟩
    try simp only [beq_eq_false_iff_ne, beq_iff_eq, ne_eq] at *
    first
      | exact Eq.symm (decide_eq_true (by omega))
      | exact Eq.symm (decide_eq_false (by omega))
      | (by_cases e1 : c = 9 <;> by_cases e2 : c = 127 <;> by_cases e3 : 32 ≤ c <;> first | (exfalso; omega) | simp [e1, e2, e3] | (subst e1; decide) | (subst e2; decide))
end Go.Proofs.YtclecgopmegjeaaDoor.POfValue

/- A text's elements. No program is named. -/
namespace Go.Proofs.YtclecgopmegjeaaDoor.LexList
open LexPure Bytes
def noComma (p : List UInt8) : Bool := p.all (fun c => c != 44)
theorem pieces_ne (s : List UInt8) : pieces s ≠ [] := by
  cases s with
  | nil => simp [pieces]
  | cons c s =>
    unfold pieces
    split
    · simp
    · split <;> simp
theorem pieces_plain : ∀ {p : List UInt8}, noComma p = true → pieces p = [p]
  | [], _ => rfl
  | c :: p, h => by
    unfold noComma at h
    rw [List.all_cons, Bool.and_eq_true] at h
    unfold pieces
    rw [if_neg (by simpa using h.1), pieces_plain (p := p) h.2]
theorem pieces_cut : ∀ {p : List UInt8} {r : List UInt8}, noComma p = true → pieces (p ++ 44 :: r) = p :: pieces r
  | [], r, _ => by
    show pieces (44 :: r) = _
    unfold pieces
    rw [if_pos (by decide)]
    cases r <;> rfl
  | c :: p, r, h => by
    unfold noComma at h
    rw [List.all_cons, Bool.and_eq_true] at h
    show pieces (c :: (p ++ 44 :: r)) = _
    rw [pieces, if_neg (by simpa using h.1), pieces_cut (p := p) (r := r) h.2]
/-- one piece's element -/
def one (p : List UInt8) : List (List UInt8) := if (trim p).isEmpty then [] else [trim p]
theorem elements_plain {p : List UInt8} (h : noComma p = true) : elements p = one p := by
  unfold elements one
  rw [pieces_plain h]
  cases ht : (trim p).isEmpty <;> simp [ht]
theorem elements_cut {p r : List UInt8} (h : noComma p = true) : elements (p ++ 44 :: r) = one p ++ elements r := by
  unfold elements one
  rw [pieces_cut h]
  cases ht : (trim p).isEmpty <;> simp [ht]
theorem one_length (p : List UInt8) : (one p).length ≤ 1 := by
  unfold one
  split <;> simp
theorem noComma_snoc {p : List UInt8} {c : UInt8} (h : noComma p = true) (hc : (c == 44) = false) : noComma (p ++ [c]) = true := by
  unfold noComma at *
  rw [List.all_append, h]
  simp only [List.all_cons, List.all_nil, Bool.and_true, Bool.true_and]
  simpa [bne] using hc
/-- elements are trimmed and not empty -/
theorem elements_mem {s e : List UInt8} (h : e ∈ elements s) : e.isEmpty = false ∧ trim e = e := by
  unfold elements at h
  rw [List.mem_filter, List.mem_map] at h
  obtain ⟨⟨p, _, rfl⟩, h2⟩ := h
  exact ⟨by simpa using h2, trim_trim p⟩
theorem trim_noComma {p : List UInt8} (h : noComma p = true) : noComma (trim p) = true := by
  unfold noComma at *
  rw [List.all_eq_true] at *
  intro c hc
  refine h c ?_
  unfold trim at hc
  rw [List.mem_reverse] at hc
  have h1 := (List.dropWhile_suffix (l := (p.dropWhile blankB).reverse) blankB).subset hc
  rw [List.mem_reverse] at h1
  exact (List.dropWhile_suffix (l := p) blankB).subset h1
theorem pieces_noComma : ∀ {s p : List UInt8}, p ∈ pieces s → noComma p = true
  | [], p, h => by
    simp only [pieces, List.mem_singleton] at h
    subst h
    rfl
  | c :: s, p, h => by
    rw [pieces] at h
    by_cases hc : (c == 44) = true
    · rw [if_pos hc, List.mem_cons] at h
      rcases h with rfl | h
      · rfl
      · exact pieces_noComma h
    · rw [if_neg hc] at h
      have hc' : (c == 44) = false := by simpa using hc
      split at h
      · rename_i hp
        exact absurd hp (pieces_ne s)
      · rename_i q qs hp
        rw [List.mem_cons] at h
        rcases h with rfl | h
        · have := pieces_noComma (s := s) (p := q) (by rw [hp]; simp)
          unfold noComma at *
          rw [List.all_cons, this]
          simp [bne, hc']
        · exact pieces_noComma (s := s) (p := p) (by rw [hp]; simp [h])
theorem elements_noComma {s e : List UInt8} (h : e ∈ elements s) : noComma e = true := by
  unfold elements at h
  rw [List.mem_filter, List.mem_map] at h
  obtain ⟨⟨p, hp, rfl⟩, _⟩ := h
  exact trim_noComma (pieces_noComma hp)
end Go.Proofs.YtclecgopmegjeaaDoor.LexList

/- The shelf's words for strings.Trim, strings.Split and strings.IndexByte, and the grammar's: they say one thing. No program is named. -/
namespace Go.Proofs.YtclecgopmegjeaaDoor.LexSplit
open LexPure Bytes LexList
/-! ### Trim -/
def rdrop (s : List UInt8) : List UInt8 := (s.reverse.dropWhile blankB).reverse
theorem rdrop_cons (c : UInt8) (r : List UInt8) : rdrop (c :: r) = if (rdrop r).isEmpty then (if blankB c then [] else [c]) else c :: rdrop r := by
  unfold rdrop
  rw [List.reverse_cons, List.dropWhile_append]
  cases h : (r.reverse.dropWhile blankB).isEmpty with
  | true =>
    have h2 : r.reverse.dropWhile blankB = [] := List.isEmpty_iff.1 h
    rw [h2]
    cases hb : blankB c <;> simp [hb]
  | false =>
    have h2 : ((r.reverse.dropWhile blankB).reverse).isEmpty = false := by
      cases hx : r.reverse.dropWhile blankB with
      | nil => rw [hx] at h; cases h
      | cons a t => simp
    rw [h2]
    simp
theorem drop_rdrop : ∀ s : List UInt8, (rdrop s).dropWhile blankB = rdrop (s.dropWhile blankB)
  | [] => rfl
  | c :: r => by
    cases hb : blankB c with
    | true =>
      rw [List.dropWhile_cons, if_pos hb, rdrop_cons, ← drop_rdrop r]
      cases h : (rdrop r).isEmpty with
      | true => rw [List.isEmpty_iff.1 h]; simp [hb]
      | false => simp [hb]
    | false =>
      rw [List.dropWhile_cons, hb]
      simp only [Bool.false_eq_true, if_false]
      rw [rdrop_cons]
      cases h : (rdrop r).isEmpty <;> simp [hb]
theorem blank_set (b : UInt8) : ([32, 9] : List UInt8).contains b = blankB b := by
  have := all_bytes (p := fun b => ([32, 9] : List UInt8).contains b == blankB b) (by decide +kernel) b
  simpa using this
theorem trim_shelf (s : List UInt8) : Go.Lib.trimS s [32, 9] = trim s := by
  have e : (fun b => ([32, 9] : List UInt8).contains b) = blankB := funext blank_set
  unfold Go.Lib.trimS Go.Lib.trimLeftS Go.Lib.trimRightS
  rw [e]
  exact drop_rdrop s
/-! ### Split -/
theorem index_cons (c : UInt8) (l : List UInt8) (h : (c == 44) = false) : Go.Lib.index (c :: l) [44] = if Go.Lib.index l [44] == -1 then -1 else Go.Lib.index l [44] + 1 := by
  have hp : ([44] : List UInt8).isPrefixOf (c :: l) = false := by
    have : ¬ (44 : UInt8) = c := fun e => by rw [← e] at h; cases h
    simp [List.isPrefixOf, this]
  rw [Go.Lib.index, hp]
  rfl
theorem split_pieces : ∀ s : List UInt8, Go.Lib.splitK [44] 0 (s.count 44) s = pieces s
  | [] => rfl
  | c :: l => by
    by_cases hc : c = 44
    · subst hc
      have hix : Go.Lib.index (44 :: l) [44] = 0 := by rw [Go.Lib.index]; simp [List.isPrefixOf]
      rw [List.count_cons_self, Go.Lib.splitK, hix, if_neg (by decide), pieces, if_pos (by decide), ← split_pieces l]
      rfl
    · have hq : (c == 44) = false := by simpa using hc
      have ih := split_pieces l
      rw [List.count_cons_of_ne (by simpa using hc), pieces, if_neg (by simp [hq]), ← ih]
      cases hk : l.count 44 with
      | zero => rfl
      | succ k =>
        unfold Go.Lib.splitK
        rw [index_cons c l hq]
        by_cases hm : Go.Lib.index l [44] = -1
        · rw [hm]; rfl
        · have hge := Go.Lib.index_ge l [44]
          obtain ⟨i, hi⟩ : ∃ i : Nat, Go.Lib.index l [44] = i := ⟨(Go.Lib.index l [44]).toNat, by omega⟩
          rw [hi]
          have h1 : ((i : Int) == -1) = false := beq_eq_false_iff_ne.2 (by omega)
          have h2 : (((i : Int) + 1) == -1) = false := beq_eq_false_iff_ne.2 (by omega)
          have h3 : ((i : Int) + 1).toNat = i + 1 := by omega
          have h4 : ((i : Int)).toNat = i := by omega
          simp [h1, h2, h3, h4]
/-- the marks of a token -/
def marksA : ByteArray := ⟨#[33, 35, 36, 37, 38, 39, 42, 43, 45, 46, 94, 95, 124, 126, 96]⟩
def markI (b : UInt8) : Int := Go.Lib.indexByte marksA.data.toList b
theorem mark_cases (b : UInt8) : markB b = (decide (48 ≤ (b.toNat : Int) ∧ (b.toNat : Int) ≤ 57) || decide (65 ≤ (b.toNat : Int) ∧ (b.toNat : Int) ≤ 90) || decide (97 ≤ (b.toNat : Int) ∧ (b.toNat : Int) ≤ 122) || decide (0 ≤ markI b)) := by
  have := all_bytes (p := fun b => markB b == (decide (48 ≤ (b.toNat : Int) ∧ (b.toNat : Int) ≤ 57) || decide (65 ≤ (b.toNat : Int) ∧ (b.toNat : Int) ≤ 90) || decide (97 ≤ (b.toNat : Int) ∧ (b.toNat : Int) ≤ 122) || decide (0 ≤ markI b))) (by decide +kernel) b
  simpa using this
end Go.Proofs.YtclecgopmegjeaaDoor.LexSplit

/-
  DERIVED: THE SHELF's CONTRACTS AT THIS DUMP, IN PLAIN WORDS (tools/lay-plain.mjs out of 'YtclecgopmegjeaaDoorLexLaysT.lean', which tools/lay-shelf.mjs wrote): THE SAME DECLARATIONS UNDER THE SAME NAMES: 'import', 'namespace', 'open', 'def', 'theorem' AND NOTHING ELSE: no command of the shelf's: FOR A HAND-IN. Each laying: the table of numbers ('.._ren') and one theorem, a field a fact of the dump's own or the kernel's comparison; each contract: ONE APPLICATION.
-/
namespace Go.Proofs
open Go.Shelf
def Tryd.lays137_ren : Go.Shelf.Ren := ⟨fun | 137 => 62 | 217 => 65 | 266 => 73 | n => n, fun | 9 => 9 | 5 => 5 | 3 => 3 | n => n, fun | n => n⟩
theorem Tryd.lays137 : Go.Proofs.Lays.n137 Tryd.prog Tryd.lays137_ren := {
  mixed := by kernel_rfl
  f137 := Tryd.func62.trans (congrArg some (by kernel_rfl))
  f217 := Tryd.func65.trans (congrArg some (by kernel_rfl))
  f266 := Tryd.func73.trans (congrArg some (by kernel_rfl))
  t3 := Tryd.underlying3
  a3 := Tryd.isAgg3
  z3 := Tryd.sizeOf3
  v3 := Tryd.zeroValue3
  t5 := Tryd.underlying5
  a5 := Tryd.isAgg5
  z5 := Tryd.sizeOf5
  v5 := Tryd.zeroValue5
  t9 := Tryd.underlying9
  a9 := Tryd.isAgg9
  z9 := Tryd.sizeOf9
  v9 := Tryd.zeroValue9 }
def Tryd.lays160_ren : Go.Shelf.Ren := ⟨fun | 160 => 48 | 232 => 56 | 231 => 55 | 227 => 57 | 234 => 59 | 233 => 58 | 236 => 61 | 235 => 60 | 228 => 69 | 271 => 72 | 151 => 71 | 197 => 70 | 120 => 77 | 152 => 76 | 260 => 75 | 137 => 62 | 119 => 78 | 224 => 67 | 225 => 66 | 217 => 65 | 266 => 73 | n => n, fun | 9 => 9 | 4 => 4 | 3 => 3 | 5 => 5 | 117 => 76 | 116 => 75 | 0 => 0 | 124 => 79 | 21 => 21 | 105 => 84 | 46 => 83 | 119 => 91 | 139 => 94 | 138 => 93 | n => n, fun | 3 => 1 | 4 => 2 | n => n⟩
theorem Tryd.lays160 : Go.Proofs.Lays.n160 Tryd.prog Tryd.lays160_ren := {
  mixed := by kernel_rfl
  f119 := Tryd.func78.trans (congrArg some (by kernel_rfl))
  f120 := Tryd.func77.trans (congrArg some (by kernel_rfl))
  f137 := Tryd.func62.trans (congrArg some (by kernel_rfl))
  f151 := Tryd.func71.trans (congrArg some (by kernel_rfl))
  f152 := Tryd.func76.trans (congrArg some (by kernel_rfl))
  f160 := Tryd.func48.trans (congrArg some (by kernel_rfl))
  f197 := Tryd.func70.trans (congrArg some (by kernel_rfl))
  f217 := Tryd.func65.trans (congrArg some (by kernel_rfl))
  f224 := Tryd.func67.trans (congrArg some (by kernel_rfl))
  f225 := Tryd.func66.trans (congrArg some (by kernel_rfl))
  f227 := Tryd.func57.trans (congrArg some (by kernel_rfl))
  f228 := Tryd.func69.trans (congrArg some (by kernel_rfl))
  f231 := Tryd.func55.trans (congrArg some (by kernel_rfl))
  f232 := Tryd.func56.trans (congrArg some (by kernel_rfl))
  f233 := Tryd.func58.trans (congrArg some (by kernel_rfl))
  f234 := Tryd.func59.trans (congrArg some (by kernel_rfl))
  f235 := Tryd.func60.trans (congrArg some (by kernel_rfl))
  f236 := Tryd.func61.trans (congrArg some (by kernel_rfl))
  f260 := Tryd.func75.trans (congrArg some (by kernel_rfl))
  f266 := Tryd.func73.trans (congrArg some (by kernel_rfl))
  f271 := Tryd.func72.trans (congrArg some (by kernel_rfl))
  t0 := Tryd.underlying0
  a0 := Tryd.isAgg0
  z0 := Tryd.sizeOf0
  v0 := Tryd.zeroValue0
  t3 := Tryd.underlying3
  a3 := Tryd.isAgg3
  z3 := Tryd.sizeOf3
  v3 := Tryd.zeroValue3
  t4 := Tryd.underlying4
  a4 := Tryd.isAgg4
  z4 := Tryd.sizeOf4
  v4 := Tryd.zeroValue4
  t5 := Tryd.underlying5
  a5 := Tryd.isAgg5
  z5 := Tryd.sizeOf5
  v5 := Tryd.zeroValue5
  t9 := Tryd.underlying9
  a9 := Tryd.isAgg9
  z9 := Tryd.sizeOf9
  v9 := Tryd.zeroValue9
  t21 := Tryd.underlying21
  a21 := Tryd.isAgg21
  z21 := Tryd.sizeOf21
  v21 := Tryd.zeroValue21
  t46 := Tryd.underlying83
  a46 := Tryd.isAgg83
  z46 := Tryd.sizeOf83
  v46 := Tryd.zeroValue83
  t105 := Tryd.underlying84
  a105 := Tryd.isAgg84
  z105 := Tryd.sizeOf84
  v105 := Tryd.zeroValue84
  t116 := Tryd.underlying75
  a116 := Tryd.isAgg75
  z116 := Tryd.sizeOf75
  t117 := Tryd.underlying76
  a117 := Tryd.isAgg76
  z117 := Tryd.sizeOf76
  v117 := Tryd.zeroValue76
  t119 := Tryd.underlying91
  a119 := Tryd.isAgg91
  z119 := Tryd.sizeOf91
  t124 := Tryd.underlying79
  a124 := Tryd.isAgg79
  z124 := Tryd.sizeOf79
  v124 := Tryd.zeroValue79
  t138 := Tryd.underlying93
  a138 := Tryd.isAgg93
  z138 := Tryd.sizeOf93
  v138 := Tryd.zeroValue93
  t139 := Tryd.underlying94
  a139 := Tryd.isAgg94
  z139 := Tryd.sizeOf94
  v139 := Tryd.zeroValue94
  g3 := by kernel_rfl
  g4 := by kernel_rfl }
end Go.Proofs

/- Rows of bytes and of texts that a call owns. No program is named. -/
namespace Go.Proofs.YtclecgopmegjeaaDoor.Rows1
open Bytes Go.RowKit

def bv (c : UInt8) : Value := .int .u8 (c.toNat : Int)
def bvs (l : List UInt8) : List Value := l.map bv
theorem bvs_length (l : List UInt8) : (bvs l).length = l.length := by simp [bvs]
theorem bvs_append (l m : List UInt8) : bvs (l ++ m) = bvs l ++ bvs m := by simp [bvs]
/-- how a row's value looks -/
theorem row_form {w : World} {base n size : Nat} {e : TypeId} {v : Value} {xs : List Value} (h : w.ownsRow base e size v n xs) : ∃ p cap, v = .slice p n cap ∧ (0 < n → ∃ g, p = some ⟨g, 0, none⟩ ∧ v.ownBlock = some g) := by
  rcases h.2 with ⟨hv, hn⟩ | ⟨g, cap, cur, hv, _⟩
  · exact ⟨none, 0, by rw [hv, hn], fun h0 => by omega⟩
  · exact ⟨_, cap, hv, fun _ => ⟨g, rfl, by rw [hv]; rfl⟩⟩
/-- a row of one-cell elements: how it looks, and its cells -/
theorem row_cells {w : World} {base n : Nat} {e : TypeId} {v : Value} {xs : List Value} (h : w.ownsRow base e 1 v n xs) : ∃ p cap, v = .slice p n cap ∧ n ≤ cap ∧ (0 < n → ∃ g, p = some ⟨g, 0, none⟩ ∧ base ≤ g ∧ g < w.heap.size ∧ v.ownBlock = some g ∧ ∀ j, j < n → w.cell? ⟨g, j, none⟩ = xs[j]?) := by
  rcases h.2 with ⟨hv, hn⟩ | ⟨g, cap, cur, hv, hb, hg, hcap, rest⟩
  · exact ⟨none, 0, by rw [hv, hn], by omega, fun h0 => by omega⟩
  · refine ⟨_, cap, hv, hcap, fun _ => ⟨g, rfl, hb, (Array.getElem?_eq_some_iff.1 hg).1, by rw [hv]; rfl, fun j hj => ?_⟩⟩
    have hl : j < xs.length := by have := h.1; omega
    have := h.cells (g := g) (by rw [hv]; rfl) j xs[j] (List.getElem?_eq_getElem hl)
    rw [List.getElem?_eq_getElem hl]
    have e : (⟨g, 0, none⟩ : Addr).add j = ⟨g, j, none⟩ := by unfold Addr.add; split <;> simp_all
    rwa [e] at this
/-- the beginning of a row -/
theorem row_cut {w : World} {base n m cap : Nat} {e : TypeId} {p : Option Addr} {xs : List Value} (h : w.ownsRow base e 1 (.slice p n cap) n xs) (hm : m ≤ n) : w.ownsRow base e 1 (.slice p m cap) m (xs.take m) := by
  refine ⟨by have := h.1; rw [List.length_take]; omega, ?_⟩
  rcases h.2 with ⟨hv, hn⟩ | ⟨g, c, cur, hv, hb, hg, hcap, hmx, hsz, ht⟩
  · injection hv with h1 h2 h3
    exact .inl ⟨by rw [h1, h3, show m = 0 by omega], by omega⟩
  · injection hv with h1 h2 h3
    subst h3
    exact .inr ⟨g, _, cur, by rw [h1], hb, hg, by omega, hmx, hsz, by rw [← ht, List.take_take]; congr 1; omega⟩
/-- 'string(b)' of a row of the call's own -/
theorem own_string {P : Program} {w : World} {base n : Nat} {e : TypeId} {v : Value} {l : List UInt8} (h : w.ownsRow base e 1 v n (bvs l)) (src dst : TypeId) (hs : P.underlying src = some (.slice e)) (he : P.underlying e = some (.int .u8)) (hd : P.underlying dst = some .string) :
    (Go.convert src dst v).run P w = .ok (.string (ofL l)) w := by
  have hl : l.length = n := by have := h.1; rw [bvs_length] at this; omega
  rcases h.2 with ⟨rfl, hn⟩ | ⟨g, cap, cur, rfl, hb, hg, rest⟩
  · have : l = [] := List.length_eq_zero_iff.1 (by omega)
    subst this
    exact Lib.run_convert_nil_bytes w src dst e 0 hs he hd
  · subst hl
    refine run_convert_bytes_back w src dst e ⟨g, 0, none⟩ cap l hs he hd (fun j hj => ?_)
    exact h.cells rfl j _ (by simp [bvs, bv, List.getElem?_eq_getElem hj])
end Go.Proofs.YtclecgopmegjeaaDoor.Rows1

/- Lists of texts: how they lie in memory. -/
namespace Go.Proofs.YtclecgopmegjeaaDoor.Texts
open Go.ChangeShapes Go.WideShapes Go.ChangeAt Go.RowKit LexPure Bytes Ret Rows1
theorem infoS : (Tryd.prog.info? 9).map (fun i => (i.zero, i.size, i.bytes)) = some (some (.string ByteArray.empty), 1, 16) := by kernel_rfl
def strs (G : List (List UInt8)) : List Value := G.map (fun e => .string (ofL e))
theorem strs_append (G H : List (List UInt8)) : strs (G ++ H) = strs G ++ strs H := by simp [strs]
/-- a list of texts: how it looks and its cells -/
def Texts (w : World) (v : Value) (G : List (List UInt8)) : Prop := ∃ p cap, v = .slice p G.length cap ∧ G.length ≤ 9223372036854775807 ∧ (0 < G.length → ∃ g o, p = some ⟨g, o, none⟩ ∧ g < w.heap.size ∧ ∀ j (hj : j < G.length), w.cell? ⟨g, o + j, none⟩ = some (.string (ofL G[j])))
theorem texts_of {w : World} {base : Nat} {v : Value} {G : List (List UInt8)} (h : w.ownsRow base 9 1 v G.length (Texts.strs G)) : Texts w v G := by
  obtain ⟨p, cap, hv, hle, hc⟩ := row_cells h
  have hcap : cap ≤ maxLen := by
    rcases h.2 with ⟨h1, _⟩ | ⟨_, c2, _, h1, _, _, _, h2, _⟩
    · rw [hv] at h1; injection h1 with _ _ h1; rw [h1]; exact Nat.zero_le _
    · rw [hv] at h1; injection h1 with _ _ h1; rw [h1]; exact h2
  unfold maxLen at hcap
  refine ⟨p, cap, hv, by omega, fun h0 => ?_⟩
  obtain ⟨g, hp, _, hlt, _, hcell⟩ := hc h0
  exact ⟨g, 0, hp, hlt, fun j hj => by rw [Nat.zero_add, hcell j hj]; simp [Texts.strs, List.getElem?_eq_getElem hj]⟩
theorem Texts.below {w w' : World} {v : Value} {G : List (List UInt8)} (h : Texts w v G) (hb : Below w.heap.size w w') : Texts w' v G := by
  obtain ⟨p, cap, hv, hn, hc⟩ := h
  refine ⟨p, cap, hv, hn, fun h0 => ?_⟩
  obtain ⟨g, o, hp, hlt, hcell⟩ := hc h0
  exact ⟨g, o, hp, Nat.lt_of_lt_of_le hlt hb.size, fun j hj => (hb.cell (p := ⟨g, o + j, none⟩) hlt).trans (hcell j hj)⟩
theorem Texts.drewN {w : World} {v : Value} {G : List (List UInt8)} (h : Texts w v G) (m : Nat) : Texts (w.drewN m) v G := h
theorem take_ext {G H : List (List UInt8)} {k : Nat} (hk : k < G.length) (hk2 : k < H.length) (h : G.take k = H.take k) (he : G[k] = H[k]) : G.take (k + 1) = H.take (k + 1) := by
  rw [List.take_add_one, List.take_add_one, h, List.getElem?_eq_getElem hk, List.getElem?_eq_getElem hk2, he]
end Go.Proofs.YtclecgopmegjeaaDoor.Texts

/- Layer 4 of the program: what the library's calls answer it (strings.Trim at blanks, strings.IndexByte at the marks), off the shelf's contracts. -/
namespace Go.Proofs.YtclecgopmegjeaaDoor.PLibT
open Go.ChangeShapes Go.WideShapes Go.ChangeAt Go.RowKit LexPure Bytes Ret LexSplit Texts Rows1
theorem lib_trim (s : ByteArray) (hs : s.size ≤ maxLen) (w : World) :
    Calls Tryd.prog 48 #[.string s, .string ⟨#[32, 9]⟩] w fun e w' => e = .returned (.string (ofL (trim (toL s)))) ∧ Below w.heap.size w w' := by
  have h := Any.strings_Trim_laid Tryd.lays160 (by kernel_rfl) s ⟨#[32, 9]⟩ w (by unfold maxLen at hs; omega) (by decide) (ascii_of_all (by decide))
  rw [show (⟨#[32, 9]⟩ : ByteArray).data.toList = [32, 9] from rfl, trim_shelf] at h
  exact h
theorem lib_mark (b : UInt8) (w : World) :
    Calls Tryd.prog 62 #[.string marksA, .int .u8 (b.toNat : Int)] w fun e w' => e = .returned (.int .i64 (markI b)) ∧ w' = w := by
  have h := Any.strings_IndexByte Tryd.lays137 marksA (b.toNat : Int) w
  rw [show ((b.toNat : Int)).toNat.toUInt8 = b from by simp] at h
  exact h
end Go.Proofs.YtclecgopmegjeaaDoor.PLibT

/- Layer 4 of the program: Token. -/
namespace Go.Proofs.YtclecgopmegjeaaDoor.PToken
open Go.ChangeShapes Go.WideShapes Go.ChangeAt Go.RowKit LexPure Bytes Ret LexSplit PLibT POfValue
set_option maxRecDepth 20000
theorem toList_eq' (s : ByteArray) : s.toList = toL s := ByteArray.toList_eq s
theorem poftoken_any (b : UInt8) (w : World) :
    Calls Tryd.prog 49 #[.int .u8 (b.toNat : Int)] w fun e w' => e = .returned (.bool (markB b)) ∧ w = w' := by
  have HM := Lib.hid (lib_mark b w)
  rw [mark_cases]
  unfold marksA at HM
  generalize markI b = i at *
  generalize (b.toNat : Int) = c at *
  go_enter Tryd.func49, Tryd.ntmps49
  go_wp2_with (refine HM.out.mono ?_; rintro e w' ⟨rfl, rfl⟩)
  all_goals
    go_ret
    refine ⟨ret_bool ?_, rfl⟩
  all_goals first
    | rfl
    | exact Eq.symm (decide_eq_true (by omega))
    | exact Eq.symm (by rw [decide_eq_true (show 48 ≤ c ∧ c ≤ 57 by omega)]; rfl)
    | exact Eq.symm (by rw [decide_eq_true (show 65 ≤ c ∧ c ≤ 90 by omega), Bool.or_true]; rfl)
    | exact Eq.symm (by rw [decide_eq_true (show 97 ≤ c ∧ c ≤ 122 by omega), Bool.or_true]; rfl)
    | (rw [decide_eq_false (show ¬ (48 ≤ c ∧ c ≤ 57) by omega), decide_eq_false (show ¬ (65 ≤ c ∧ c ≤ 90) by omega), decide_eq_false (show ¬ (97 ≤ c ∧ c ≤ 122) by omega)]; first | (simp; done) | (simp; intro h; omega))
theorem ptoken_any (s : ByteArray) (hs : s.size ≤ maxLen) (w : World) :
    Calls Tryd.prog 33 #[.string s] w fun e w' => e = .returned (.bool (token (toL s))) ∧ w = w' := by
  unfold maxLen at hs
  go_enter Tryd.func33, Tryd.ntmps33
  go_wp2_with fail
  go_loop [6] (fun i => ∃ k : Nat, k ≤ s.size ∧ i = .int .i64 k ∧ Hid (((toL s).take k).all markB = true)) (fun i => s.size - (intOf i).toNat)
  case atStart => exact ⟨0, Nat.zero_le _, rfl, Lib.hid rfl⟩
  case round =>
    obtain ⟨k, hk, rfl, ha⟩ := hrel
    by_cases hlt : k < s.size
    · have hki : (k : Int) < (s.size : Int) := by omega
      have HT := Lib.hid (toL_take_succ s k hlt)
      have HG := Lib.hid (toL_get s k hlt)
      have HC := Lib.hid (fun w => poftoken_any s[k] w)
      by_cases hm : markB s[k] = true
      · have HA : Hid (((toL s).take (k + 1)).all markB = true) := Lib.hid (by rw [HT.out, List.all_append, ha.out]; simp [hm])
        rw [hm] at HC
        clear hm HT HG
        go_wp2_with (refine (HC.out _).mono ?_; rintro e w' ⟨rfl, rfl⟩)
        go_round
        case rel => exact ⟨k + 1, by omega, by go_num, HA⟩
        case measure => simp [intOf]; omega
      · have hmf : markB s[k] = false := by simpa using hm
        have HV : Hid (token (toL s) = false) := Lib.hid (by
          unfold token
          rw [Bool.and_eq_false_iff]
          left
          rw [List.all_eq_false]
          exact ⟨s[k], List.mem_of_getElem? HG.out, hm⟩)
        rw [hmf] at HC
        clear hm HT HG hmf
        go_wp2_with (refine (HC.out _).mono ?_; rintro e w' ⟨rfl, rfl⟩)
        go_ret
        exact ⟨by rw [HV.out]; rfl, rfl⟩
    · have hall : (toL s).take k = toL s := toL_take_all s (by omega)
      have HA : Hid ((toL s).all markB = true) := Lib.hid (by rw [← hall]; exact ha.out)
      clear ha hall
      by_cases h0 : s.size = 0
      · have h1 : s.toList = [] := by
          rw [ByteArray.toList_eq]
          exact List.length_eq_zero_iff.1 (by rw [← h0]; exact toL_length s)
        have h2 : s.toList.isEmpty = true := by rw [h1]; rfl
        have HV : Hid (token (toL s) = false) := Lib.hid (by
          unfold token
          rw [show toL s = [] from List.length_eq_zero_iff.1 (by rw [← h0]; exact toL_length s)]
          rfl)
        go_wp2_with fail
        go_ret
        exact ⟨by rw [HV.out]; rfl, rfl⟩
      · have h1 : ¬ s.toList = [] := fun h => by
          rw [ByteArray.toList_eq] at h
          have h2 := toL_length s
          rw [show toL s = [] from h] at h2
          simp at h2
          omega
        have h2 : s.toList.isEmpty = false := by
          cases h : s.toList with
          | nil => exact absurd h h1
          | cons => rfl
        have HV : Hid (token (toL s) = true) := Lib.hid (by
          unfold token
          rw [HA.out, ← toList_eq', h2]
          rfl)
        go_wp2_with fail
        go_ret
        exact ⟨by rw [HV.out]; rfl, rfl⟩
end Go.Proofs.YtclecgopmegjeaaDoor.PToken

/- Layer 4 of the program: Trim, Value. -/
namespace Go.Proofs.YtclecgopmegjeaaDoor.PText
open Go.ChangeShapes Go.WideShapes Go.ChangeAt Go.RowKit LexPure Bytes Ret LexSplit PLibT POfValue
set_option maxRecDepth 20000
theorem ptrim_any (s : ByteArray) (hs : s.size ≤ maxLen) (w : World) :
    Calls Tryd.prog 32 #[.string s] w fun e w' => e = .returned (.string (ofL (trim (toL s)))) ∧ Below w.heap.size w w' := by
  have H := Lib.hid (lib_trim s hs w)
  clear hs
  go_enter Tryd.func32, Tryd.ntmps32
  go_wp2_with fail
  refine H.out.mono ?_
  rintro e w1 ⟨rfl, hb1⟩
  go_wp2_with fail
  go_ret
  exact ⟨rfl, hb1⟩
/-- a value, as the program asks it -/
theorem value_trim (s : List UInt8) : value s = (s.all plainB && decide (trim s = s)) := by
  unfold value
  cases h : s.all plainB with
  | false => rfl
  | true =>
    rw [Bool.true_and, Bool.true_and]
    cases hs : s with
    | nil => rfl
    | cons c r =>
      have h2 : (c :: r).getLastD 0 = ((c :: r).reverse).headD 0 := by
        rw [List.headD_eq_head?_getD, List.head?_reverse, List.getLastD_eq_getLast?]
      rw [h2]
      rw [Bool.eq_iff_iff]
      simp only [List.isEmpty_cons, Bool.false_or, Bool.and_eq_true, Bool.not_eq_true', List.headD_cons, decide_eq_true_eq]
      constructor
      · rintro ⟨h1, h3⟩
        refine trim_id (fun a t e => ?_) (fun a t e => ?_)
        · injection e with e1 e2
          rw [← e1]; exact h1
        · rw [e] at h3; exact h3
      · intro e
        refine ⟨trim_head (s := c :: r) c r e, ?_⟩
        cases hr : (c :: r).reverse with
        | nil => simp at hr
        | cons a t => exact trim_last (s := c :: r) a t (by rw [e]; exact hr)
theorem pvalue_any (s : ByteArray) (hs : s.size ≤ maxLen) (w : World) :
    Calls Tryd.prog 34 #[.string s] w fun e w' => e = .returned (.bool (value (toL s))) ∧ Below w.heap.size w w' := by
  have HT := Lib.hid (fun w => ptrim_any s hs w)
  unfold maxLen at hs
  go_enter Tryd.func34, Tryd.ntmps34
  go_wp2_with fail
  go_loop [6] (fun i => ∃ k : Nat, k ≤ s.size ∧ i = .int .i64 k ∧ Hid (((toL s).take k).all plainB = true)) (fun i => s.size - (intOf i).toNat)
  case atStart => exact ⟨0, Nat.zero_le _, rfl, Lib.hid rfl⟩
  case round =>
    obtain ⟨k, hk, rfl, ha⟩ := hrel
    by_cases hlt : k < s.size
    · have hki : (k : Int) < (s.size : Int) := by omega
      have HS := Lib.hid (toL_take_succ s k hlt)
      have HG := Lib.hid (toL_get s k hlt)
      have HC := Lib.hid (fun w => pofvalue_any s[k] w)
      clear HT
      by_cases hm : plainB s[k] = true
      · have HA : Hid (((toL s).take (k + 1)).all plainB = true) := Lib.hid (by rw [HS.out, List.all_append, ha.out]; simp [hm])
        rw [hm] at HC
        clear hm HS HG
        go_wp2_with (refine (HC.out _).mono ?_; rintro e w' ⟨rfl, rfl⟩)
        go_round
        case rel => exact ⟨k + 1, by omega, by go_num, HA⟩
        case measure => simp [intOf]; omega
      · have hmf : plainB s[k] = false := by simpa using hm
        have HV : Hid (value (toL s) = false) := Lib.hid (by
          unfold value
          rw [Bool.and_eq_false_iff]
          left
          rw [List.all_eq_false]
          exact ⟨s[k], List.mem_of_getElem? HG.out, hm⟩)
        rw [hmf] at HC
        clear hm HS HG hmf
        go_wp2_with (refine (HC.out _).mono ?_; rintro e w' ⟨rfl, rfl⟩)
        go_ret
        exact ⟨by rw [HV.out]; rfl, Below.refl _ _⟩
    · have hall : (toL s).take k = toL s := toL_take_all s (by omega)
      have HQ : Hid (value (toL s) = ((ofL (trim (toL s))).toList == s.toList)) := Lib.hid (by
        rw [value_trim, ← hall, ha.out, hall, Bool.true_and, ByteArray.toList_eq, ByteArray.toList_eq, show (ofL (trim (toL s))).data.toList = trim (toL s) from toL_ofL _]
        by_cases h : trim (toL s) = toL s
        · rw [decide_eq_true h, h]; exact (beq_self_eq_true _).symm
        · rw [decide_eq_false h]; exact (beq_eq_false_iff_ne.2 h).symm)
      clear ha hall
      go_wp2_with fail
      refine (HT.out _).mono ?_
      rintro e w1 ⟨rfl, hb1⟩
      go_wp2_with fail
      go_ret
      exact ⟨by rw [HQ.out]; rfl, hb1⟩
end Go.Proofs.YtclecgopmegjeaaDoor.PText

/-
  DERIVED: THE SHELF's CONTRACTS AT THIS DUMP, IN PLAIN WORDS (tools/lay-plain.mjs out of 'YtclecgopmegjeaaDoorCutLaysT.lean', which tools/lay-shelf.mjs wrote): THE SAME DECLARATIONS UNDER THE SAME NAMES: 'import', 'namespace', 'open', 'def', 'theorem' AND NOTHING ELSE: no command of the shelf's: FOR A HAND-IN. Each laying: the table of numbers ('.._ren') and one theorem, a field a fact of the dump's own or the kernel's comparison; each contract: ONE APPLICATION.
-/
namespace Go.Proofs
open Go.Shelf
def Tryd.lays219_ren : Go.Shelf.Ren := ⟨fun | 219 => 54 | 217 => 65 | 225 => 66 | 224 => 67 | 267 => 68 | 266 => 73 | 314 => 74 | n => n, fun | 9 => 9 | 3 => 3 | 4 => 4 | 5 => 5 | 46 => 83 | 146 => 88 | 51 => 87 | n => n, fun | 1 => 0 | n => n⟩
theorem Tryd.lays219 : Go.Proofs.Lays.n219 Tryd.prog Tryd.lays219_ren := {
  mixed := by kernel_rfl
  f217 := Tryd.func65.trans (congrArg some (by kernel_rfl))
  f219 := Tryd.func54.trans (congrArg some (by kernel_rfl))
  f224 := Tryd.func67.trans (congrArg some (by kernel_rfl))
  f225 := Tryd.func66.trans (congrArg some (by kernel_rfl))
  f266 := Tryd.func73.trans (congrArg some (by kernel_rfl))
  f267 := Tryd.func68.trans (congrArg some (by kernel_rfl))
  f314 := Tryd.func74.trans (congrArg some (by kernel_rfl))
  t3 := Tryd.underlying3
  a3 := Tryd.isAgg3
  z3 := Tryd.sizeOf3
  v3 := Tryd.zeroValue3
  t4 := Tryd.underlying4
  a4 := Tryd.isAgg4
  z4 := Tryd.sizeOf4
  v4 := Tryd.zeroValue4
  t5 := Tryd.underlying5
  a5 := Tryd.isAgg5
  z5 := Tryd.sizeOf5
  v5 := Tryd.zeroValue5
  t9 := Tryd.underlying9
  a9 := Tryd.isAgg9
  z9 := Tryd.sizeOf9
  v9 := Tryd.zeroValue9
  t46 := Tryd.underlying83
  a46 := Tryd.isAgg83
  z46 := Tryd.sizeOf83
  v46 := Tryd.zeroValue83
  t51 := Tryd.underlying87
  a51 := Tryd.isAgg87
  z51 := Tryd.sizeOf87
  v51 := Tryd.zeroValue87
  t146 := Tryd.underlying88
  a146 := Tryd.isAgg88
  z146 := Tryd.sizeOf88
  v146 := Tryd.zeroValue88
  g1 := by kernel_rfl }
end Go.Proofs

/- strings.Cut at a piece of one byte, at whatever size. -/
namespace Go.Proofs.YtclecgopmegjeaaDoor.PCutLib
open Go.ChangeShapes Go.WideShapes Go.ChangeAt Go.RowKit Bytes Ret CutAt
set_option maxRecDepth 20000
theorem lib_at (x : UInt8) (s : ByteArray) (w : World) :
    Calls Tryd.prog 54 #[.string s, .string ⟨#[x]⟩] w fun e w' => e = .returned (.int .i64 (Lib.index (toL s) [x])) ∧ w' = w := by
  have h := Any.stringslite_Index_one Tryd.lays219 s x w
  rw [← Lib.index_one] at h
  exact h
theorem ret_cut {a b c d : ByteArray} {p q : Bool} (h : a = c) (k : b = d) (l : p = q) : Ending.returned (.tuple #[.string a, .string b, .bool p]) = .returned (.tuple #[.string c, .string d, .bool q]) := by rw [h, k, l]
theorem lite_cut (x : UInt8) (s : ByteArray) (hs : s.size ≤ 140737488351232) (w : World) :
    Calls Tryd.prog 47 #[.string s, .string ⟨#[x]⟩] w fun e w' => e = .returned (.tuple #[.string (ofL (aheadOf x (toL s))), .string (ofL (behind x (toL s))), .bool (hasB x (toL s))]) ∧ Below w.heap.size w w' := by
  have HI := Lib.hid (fun w => lib_at x s w)
  obtain ⟨h1, h2, h3⟩ := cut_say x (toL s)
  unfold Lib.cut at h1 h2 h3
  have hge := Lib.index_ge (toL s) [x]
  have hle := Lib.index_le (toL s) [x]
  by_cases hm : Lib.index (toL s) [x] = -1
  · rw [hm] at h1 h2 h3 HI
    have HA : Hid (s = ofL (aheadOf x (toL s))) := Lib.hid (by rw [← h1]; exact (ofL_toL s).symm)
    have HB : Hid ((⟨#[]⟩ : ByteArray) = ofL (behind x (toL s))) := Lib.hid (by rw [← h2]; rfl)
    have HQ : Hid (false = hasB x (toL s)) := Lib.hid (by rw [← h3]; rfl)
    clear h1 h2 h3 hge hle hm
    go_enter Tryd.func47, Tryd.ntmps47
    go_wp2_with fail
    refine (HI.out _).mono ?_
    rintro e w' ⟨rfl, rfl⟩
    go_wp2_with fail
    go_ret3
    exact ⟨ret_cut HA.out HB.out HQ.out, Below.refl _ _⟩
  · obtain ⟨i, hi⟩ : ∃ i : Nat, Lib.index (toL s) [x] = i := ⟨(Lib.index (toL s) [x]).toNat, by omega⟩
    rw [hi] at h1 h2 h3 HI
    have hp : (0 : Int) ≤ (i : Int) := by omega
    simp only [hp, if_true, Int.toNat_natCast, List.length_singleton] at h1 h2 h3
    have hlt : i < s.size := by
      rcases Nat.lt_or_ge i (toL s).length with h | h
      · rwa [toL_length] at h
      · exfalso
        have e1 : aheadOf x (toL s) = toL s := by rw [← h1, List.take_of_length_le h]
        have e2 : hasB x (toL s) = true := h3.symm
        unfold aheadOf at e1
        unfold hasB at e2
        rw [List.any_eq_true] at e2
        obtain ⟨c, hc, hq⟩ := e2
        have hall : (toL s).all (fun c => c != x) = true := by
          rw [← e1]
          exact List.all_takeWhile
        have := List.all_eq_true.1 hall c hc
        simp only [bne_iff_ne, ne_eq, beq_iff_eq] at this hq
        exact this hq
    have HA : Hid (s.extract 0 i = ofL (aheadOf x (toL s))) := Lib.hid (toL_inj (by rw [toL_extract, toL_ofL, ← h1, List.drop_zero]))
    have HB : Hid (s.extract (i + 1) s.size = ofL (behind x (toL s))) := Lib.hid (toL_inj (by rw [toL_extract, toL_ofL, ← h2, List.take_of_length_le (by rw [toL_length]; exact Nat.le_refl _)]))
    have HQ : Hid (true = hasB x (toL s)) := Lib.hid h3
    have c1 : (i : Int) ≤ (s.size : Int) := by omega
    have c2 : (i : Int) + 1 ≤ (s.size : Int) := by omega
    have c3 : (0 : Int) ≤ (i : Int) + 1 := by omega
    have c4 : (s.size : Int) ≤ 140737488351232 := by omega
    clear h1 h2 h3 hge hle hm hi hlt
    go_enter Tryd.func47, Tryd.ntmps47
    go_wp2_with fail
    refine (HI.out _).mono ?_
    rintro e w' ⟨rfl, rfl⟩
    go_wp2_with fail
    go_region
    go_wp2_with fail
    go_ret3
    exact ⟨ret_cut HA.out HB.out HQ.out, ⟨rfl, rfl, rfl, Nat.le_refl _, fun _ _ => rfl⟩⟩
theorem full_cut (x : UInt8) (s : ByteArray) (hs : s.size ≤ 140737488351232) (w : World) :
    Calls Tryd.prog 31 #[.string s, .string ⟨#[x]⟩] w fun e w' => e = .returned (.tuple #[.string (ofL (aheadOf x (toL s))), .string (ofL (behind x (toL s))), .bool (hasB x (toL s))]) ∧ Below w.heap.size w w' := by
  have H := Lib.hid (lite_cut x s hs)
  clear hs
  go_enter Tryd.func31, Tryd.ntmps31
  go_wp2_with fail
  refine (H.out _).mono ?_
  rintro e w' ⟨rfl, hb⟩
  go_wp2_with fail
  go_ret3
  exact ⟨rfl, hb⟩
end Go.Proofs.YtclecgopmegjeaaDoor.PCutLib

/- Words for memory, of my own: a block that holds just these cells; a world in which only one block, and what is new, has turned. No program is named. -/
namespace Go.Proofs.YtclecgopmegjeaaDoor.Mem
open Go.RowKit

/-- block g holds just the cells cs, of element type t; none of them is frozen -/
structure Has (w : World) (g : Nat) (t : TypeId) (cs : Array Value) : Prop where
  at_ : w.heap[g]? = some (.cells cs t (0, 0))

section
variable {w w' : World} {g : Nat} {t : TypeId} {cs : Array Value}
theorem Has.lt (h : Has w g t cs) : g < w.heap.size := by
  have := h.at_
  rcases Nat.lt_or_ge g w.heap.size with hl | hl
  · exact hl
  · rw [Array.getElem?_eq_none hl] at this; cases this
theorem Has.cell (h : Has w g t cs) (i : Nat) : w.cell? ⟨g, i, none⟩ = cs[i]? := cell_of_row w g i cs t (0, 0) h.at_
theorem Has.free (h : Has w g t cs) (i : Nat) : w.frozen? ⟨g, i, none⟩ = false := by
  have := h.at_
  simp [World.frozen?, this]
theorem Has.new (w : World) (t : TypeId) (cs : Array Value) : Has (w.alloc (.cells cs t)) w.heap.size t cs := ⟨heap_alloc_new w _⟩
theorem Has.alloc (h : Has w g t cs) (o : Obj) : Has (w.alloc o) g t cs := ⟨(Below.heap_alloc w o g h.lt).trans h.at_⟩
theorem Has.drew (h : Has w g t cs) : Has w.drew g t cs := ⟨h.at_⟩
theorem Has.drewN (h : Has w g t cs) (n : Nat) : Has (w.drewN n) g t cs := ⟨h.at_⟩
theorem Has.set_ (h : Has w g t cs) (i : Nat) (u : Value) : Has (w.setCell ⟨g, i, none⟩ u) g t (cs.setIfInBounds i u) := by
  have := h.at_
  exact ⟨by simp [World.setCell, Array.getElem?_modify, this]⟩
theorem Has.far (h : Has w g t cs) {p : Addr} (hp : g ≠ p.block) (u : Value) : Has (w.setCell p u) g t cs := ⟨(Below.heap_setCell w p u g hp).trans h.at_⟩
theorem Has.below {B : Nat} (h : Has w g t cs) (hb : Below B w w') (hg : g < B) : Has w' g t cs := ⟨(hb.block g hg).trans h.at_⟩
theorem Has.grown {row : Option Nat} (h : Has w g t cs) (hb : w.grownBy w' row) (hg : some g ≠ row) : Has w' g t cs := ⟨(hb.block g h.lt hg).trans h.at_⟩
theorem Has.ne_ {g' : Nat} {t' : TypeId} {cs' : Array Value} (h : Has w g t cs) (h' : Has w g' t' cs') (hne : t ≠ t') : g ≠ g' := by
  rintro rfl
  have h1 := h.at_
  rw [h'.at_] at h1
  injection h1 with h1
  injection h1 with _ h2
  exact hne h2.symm
end

/-! ### only block g, and what is new -/
section
variable {a w w' : World} {g : Nat} {row : Option Nat}
theorem own_drew (h : a.grownBy w row) : a.grownBy w.drew row := ⟨h.os, h.tape, h.output, h.size, h.block⟩
theorem own_drewN (h : a.grownBy w row) (n : Nat) : a.grownBy (w.drewN n) row := ⟨h.os, h.tape, h.output, h.size, h.block⟩
theorem own_alloc (h : a.grownBy w row) (o : Obj) : a.grownBy (w.alloc o) row :=
  ⟨h.os, h.tape, h.output, Nat.le_trans h.size (by simp), fun i hi hne => (Below.heap_alloc w o i (Nat.lt_of_lt_of_le hi h.size)).trans (h.block i hi hne)⟩
theorem own_set (h : a.grownBy w (some g)) (i : Nat) (u : Value) : a.grownBy (w.setCell ⟨g, i, none⟩ u) (some g) :=
  ⟨h.os, h.tape, h.output, by simpa [World.setCell] using h.size, fun j hj hne => (Below.heap_setCell w _ u j (fun e => hne (by rw [e]))).trans (h.block j hj hne)⟩
theorem own_set_new (h : a.grownBy w row) {p : Addr} (hp : a.heap.size ≤ p.block) (u : Value) : a.grownBy (w.setCell p u) row :=
  ⟨h.os, h.tape, h.output, by simpa [World.setCell] using h.size, fun j hj hne => (Below.heap_setCell w _ u j (fun e => by omega)).trans (h.block j hj hne)⟩
theorem own_of_below (h : Below a.heap.size a w) (row : Option Nat) : a.grownBy w row := ⟨h.os, h.tape, h.output, h.size, fun i hi _ => h.block i hi⟩
theorem own_trans (h : a.grownBy w row) (k : w.grownBy w' row) : a.grownBy w' row :=
  ⟨k.os.trans h.os, k.tape.trans h.tape, k.output.trans h.output, Nat.le_trans h.size k.size, fun i hi hne => (k.block i (Nat.lt_of_lt_of_le hi h.size) hne).trans (h.block i hi hne)⟩
/-- a cell of another block reads as it did -/
theorem own_cell {b i : Nat} (h : a.grownBy w (some g)) (hb : b < a.heap.size) (hne : b ≠ g) : w.cell? ⟨b, i, none⟩ = a.cell? ⟨b, i, none⟩ :=
  World.cell?_of_block (w := a) (h.block b hb (fun e => hne (Option.some.inj e)))
/-- what lies from B on may turn -/
theorem below_own {B : Nat} (h : Below B a w) (k : w.grownBy w' (some g)) (hB : B ≤ w.heap.size) (hg : B ≤ g) : Below B a w' :=
  h.grown k hB (fun j hj => by injection hj with hj; omega)
/-- one call behind another -/
theorem below_chain {a b c : World} (h : Below a.heap.size a b) (k : Below b.heap.size b c) : Below a.heap.size a c :=
  ⟨k.os.trans h.os, k.tape.trans h.tape, k.output.trans h.output, Nat.le_trans h.size k.size, fun i hi => (k.block i (Nat.lt_of_lt_of_le hi h.size)).trans (h.block i hi)⟩
end
end Go.Proofs.YtclecgopmegjeaaDoor.Mem

/- Layer 7: lists of fields, how they lie in memory. -/
namespace Go.Proofs.YtclecgopmegjeaaDoor.Flds
open Go.ChangeShapes Go.WideShapes Go.ChangeAt Go.RowKit LexPure Bytes Ret Rows1 FieldsPure Mem
set_option maxRecDepth 20000
def encF (f : HField) : List Value := [.string (ofL f.1), .string (ofL f.2)]
def encFs (l : List HField) : List Value := l.flatMap encF
theorem encFs_append (a b : List HField) : encFs (a ++ b) = encFs a ++ encFs b := by simp [encFs]
theorem encFs_at : ∀ (l : List HField) (j : Nat) (f : HField), l[j]? = some f → (encFs l)[j * 2]? = some (.string (ofL f.1)) ∧ (encFs l)[j * 2 + 1]? = some (.string (ofL f.2))
  | [], j, f, h => by simp at h
  | x :: l, 0, f, h => by
    have e : x = f := by simpa using h
    subst e
    simp [encFs, encF]
  | x :: l, j + 1, f, h => by
    have ih := encFs_at l j f (by simpa using h)
    have e1 : (j + 1) * 2 = j * 2 + 2 := by omega
    rw [e1]
    simpa [encFs, encF] using ih
/-- every name and value has so many bytes at most -/
def Few (G : List HField) : Prop := ∀ (j : Nat) (h : j < G.length), G[j].1.length ≤ 1048576 ∧ G[j].2.length ≤ 1048576
/-- every name and value lies within reach -/
def Far (G : List HField) : Prop := ∀ (j : Nat) (h : j < G.length), G[j].1.length ≤ 140737488351232 ∧ G[j].2.length ≤ 140737488351232
theorem Few.far {G : List HField} (h : Few G) : Far G := fun j hj => by have := h j hj; omega
theorem infoF : (Tryd.prog.info? 37).map (fun i => (i.zero, i.size, i.bytes)) = some (some (.agg #[.string ByteArray.empty, .string ByteArray.empty]), 2, 32) := by kernel_rfl
/-- a list of fields: how it looks and its cells -/
def FL (w : World) (v : Value) (G : List HField) : Prop := ∃ p cap, v = .slice p G.length cap ∧ G.length ≤ 4398046511104 ∧ (0 < G.length → ∃ g o, p = some ⟨g, o, none⟩ ∧ g < w.heap.size ∧ ∀ j (hj : j < G.length), w.cell? ⟨g, o + j * 2, none⟩ = some (.string (ofL G[j].1)) ∧ w.cell? ⟨g, o + j * 2 + 1, none⟩ = some (.string (ofL G[j].2)))
theorem FL.below {w w' : World} {v : Value} {G : List HField} (h : FL w v G) (hb : Below w.heap.size w w') : FL w' v G := by
  obtain ⟨p, cap, hv, hn, hc⟩ := h
  refine ⟨p, cap, hv, hn, fun h0 => ?_⟩
  obtain ⟨g, o, hp, hlt, hcell⟩ := hc h0
  exact ⟨g, o, hp, Nat.lt_of_lt_of_le hlt hb.size, fun j hj => ⟨(hb.cell (p := ⟨g, o + j * 2, none⟩) hlt).trans (hcell j hj).1, (hb.cell (p := ⟨g, o + j * 2 + 1, none⟩) hlt).trans (hcell j hj).2⟩⟩
theorem FL.drewN {w : World} {v : Value} {G : List HField} (h : FL w v G) (m : Nat) : FL (w.drewN m) v G := h
/-- a row of a call's own is a list of fields -/
theorem fl_of {w : World} {base : Nat} {v : Value} {G : List HField} (h : w.ownsRow base 37 2 v G.length (encFs G)) (hle : G.length ≤ 4398046511104) : FL w v G := by
  rcases h.2 with ⟨hv, hn⟩ | ⟨g, cap, cur, hv, hb, hg, hcap, rest⟩
  · exact ⟨none, 0, by rw [hv, hn], hle, fun h0 => by omega⟩
  · refine ⟨_, cap, hv, hle, fun _ => ⟨g, 0, rfl, (Array.getElem?_eq_some_iff.1 hg).1, fun j hj => ?_⟩⟩
    have hc := h.cells (g := g) (by rw [hv]; rfl)
    obtain ⟨h1, h2⟩ := encFs_at G j G[j] (List.getElem?_eq_getElem hj)
    have a1 := hc _ _ h1
    have a2 := hc _ _ h2
    have e : ∀ i : Nat, (⟨g, 0, none⟩ : Addr).add i = ⟨g, i, none⟩ := fun i => by unfold Addr.add; split <;> simp_all
    rw [e] at a1 a2
    rw [Nat.zero_add]
    exact ⟨a1, a2⟩
end Go.Proofs.YtclecgopmegjeaaDoor.Flds
