/- Texts of this seat, one behind another: Bytes, LexPure, PathPure, CutsSplit, PathLays, LawKit, LawBase, Ret, Mem, PUnder, LexNum, RNumber, RHex. -/
import Derived.ProofKit
import Derived.Laws.Strings
import Derived.Lib.SplitLaws
import Derived.Lib.Bytealg
import Derived.Shelf.Strings.Prefix
import Derived.Shelf.Strings.Split
import Derived.Shelf.Small.Strs
import Derived.Test.YtaiipdjibllodaaDoorProg
import Derived.Below
import Derived.ChangeSame
import Derived.WideKeyArgs
import Derived.OpenShut
import Derived.Carry
import Derived.SizedLaws
import Derived.Test.YtaiipdjibllodaaDoorRows
import Derived.WalkKit
import Derived.ChangeMaps5
import Derived.Laws.OwnMore
import Derived.Laws.Rows
import Derived.Deep.Draws
import Derived.Lib.Hide
import Derived.Shelf.Vars
import Derived.Handy
import Derived.OwnWalk
import Derived.Outline
import Derived.LoopTactic

/- Texts as lists of bytes, and facts on all bytes by reckoning. No program is named. -/
namespace Go.Proofs.YtaiipdjibllodaaDoor.Bytes

/-- a text's bytes, and the text of bytes -/
abbrev toL (s : ByteArray) : List UInt8 := s.data.toList
def ofL (l : List UInt8) : ByteArray := ⟨l.toArray⟩
theorem toL_ofL (l : List UInt8) : toL (ofL l) = l := by simp [toL, ofL]
theorem ofL_toL (s : ByteArray) : ofL (toL s) = s := by cases s; simp [toL, ofL]
theorem ofL_inj {l m : List UInt8} (h : ofL l = ofL m) : l = m := by
  have := congrArg toL h
  rwa [toL_ofL, toL_ofL] at this
theorem toL_inj {s t : ByteArray} (h : toL s = toL t) : s = t := by
  rw [← ofL_toL s, ← ofL_toL t, h]
theorem toL_length (s : ByteArray) : (toL s).length = s.size := by simp [toL]
theorem ofL_size (l : List UInt8) : (ofL l).size = l.length := by simp [ofL, ByteArray.size]
theorem toL_get (s : ByteArray) (k : Nat) (h : k < s.size) : (toL s)[k]? = some s[k] := by
  rw [List.getElem?_eq_getElem (by rw [toL_length]; exact h)]
  simp [toL, ByteArray.getElem_eq_getElem_data]
theorem toL_take_succ (s : ByteArray) (k : Nat) (h : k < s.size) : (toL s).take (k + 1) = (toL s).take k ++ [s[k]] := by
  rw [List.take_add_one, toL_get s k h]
  rfl
theorem toL_drop (s : ByteArray) (k : Nat) (h : k < s.size) : (toL s).drop k = s[k] :: (toL s).drop (k + 1) := by
  rw [List.drop_eq_getElem_cons (by rw [toL_length]; exact h)]
  have := toL_get s k h
  rw [List.getElem?_eq_getElem (by rw [toL_length]; exact h)] at this
  rw [Option.some.inj this]
theorem toL_take_all (s : ByteArray) {k : Nat} (h : s.size ≤ k) : (toL s).take k = toL s := List.take_of_length_le (by rw [toL_length]; exact h)
theorem toL_extract (s : ByteArray) (a b : Nat) : toL (s.extract a b) = ((toL s).take b).drop a := by
  simp [toL, ByteArray.data_extract, Array.toList_extract, List.drop_take]
theorem toL_append (s t : ByteArray) : toL (s ++ t) = toL s ++ toL t := by simp [toL, ByteArray.data_append]
/-- texts held against each other, in the walk's form -/
theorem same_text (s t : ByteArray) : (s.toList == t.toList) = (toL s == toL t) := by rw [ByteArray.toList_eq, ByteArray.toList_eq]
theorem same_ofL (l m : List UInt8) : ((ofL l).toList == (ofL m).toList) = (l == m) := by rw [same_text, toL_ofL, toL_ofL]
/-- a fact on all bytes, by reckoning -/
theorem all_bytes {p : UInt8 → Bool} (h : (List.range 256).all (fun n => p (UInt8.ofNat n)) = true) (b : UInt8) : p b = true := by
  have := List.all_eq_true.1 h b.toNat (List.mem_range.2 b.toNat_lt)
  simpa using this
end Go.Proofs.YtaiipdjibllodaaDoor.Bytes

/- The grammar's small pieces over bytes: what each call of layer 4 answers. No program is named. -/
namespace Go.Proofs.YtaiipdjibllodaaDoor.LexPure
open Bytes

/-- a byte of a token -/
def MarkP (c : Int) : Prop := (48 ≤ c ∧ c ≤ 57) ∨ (65 ≤ c ∧ c ≤ 90) ∨ (97 ≤ c ∧ c ≤ 122) ∨ c = 33 ∨ c = 35 ∨ c = 36 ∨ c = 37 ∨ c = 38 ∨ c = 39 ∨ c = 42 ∨ c = 43 ∨ c = 45 ∨ c = 46 ∨ c = 94 ∨ c = 95 ∨ c = 96 ∨ c = 124 ∨ c = 126
instance (c : Int) : Decidable (MarkP c) := by unfold MarkP; infer_instance
def markB (c : UInt8) : Bool := decide (MarkP (c.toNat : Int))
def blankB (c : UInt8) : Bool := c == 32 || c == 9
def plainB (c : UInt8) : Bool := decide (32 ≤ c.toNat) && c != 127 || c == 9
def small (c : UInt8) : UInt8 := if decide (65 ≤ c.toNat) && decide (c.toNat ≤ 90) then c + 32 else c
def token (s : List UInt8) : Bool := s.all markB && !s.isEmpty
def trim (s : List UInt8) : List UInt8 := ((s.dropWhile blankB).reverse.dropWhile blankB).reverse
def value (s : List UInt8) : Bool := s.all plainB && (s.isEmpty || (!blankB (s.headD 0) && !blankB (s.getLastD 0)))
def lower (s : List UInt8) : List UInt8 := s.map small
def alike (s t : List UInt8) : Bool := lower s == lower t
/-- the pieces between commas -/
def pieces : List UInt8 → List (List UInt8)
  | [] => [[]]
  | c :: s => if c == 44 then [] :: pieces s else match pieces s with
    | [] => [[c]]
    | p :: ps => (c :: p) :: ps
def elements (s : List UInt8) : List (List UInt8) := ((pieces s).map trim).filter (fun e => !e.isEmpty)
/-- a digit's worth (99: none) -/
def dig (c : UInt8) : Nat := if 48 ≤ c.toNat ∧ c.toNat ≤ 57 then c.toNat - 48 else if 65 ≤ c.toNat ∧ c.toNat ≤ 70 then c.toNat - 55 else if 97 ≤ c.toNat ∧ c.toNat ≤ 102 then c.toNat - 87 else 99
def numV (base : Nat) (s : List UInt8) : Nat := s.foldl (fun n c => base * n + dig c) 0
def numOk (base : Nat) (digits : Int) (s : List UInt8) : Bool := !s.isEmpty && decide ((s.length : Int) ≤ digits) && s.all (fun c => decide (dig c < base))
def numR (base : Nat) (digits : Int) (s : List UInt8) : Int := if numOk base digits s then (numV base s : Int) else 0

/-! ### bytes -/
theorem blank_eq (b : UInt8) : decide ((b.toNat : Int) = 32 ∨ (b.toNat : Int) = 9) = blankB b := by
  have := all_bytes (p := fun b => decide ((b.toNat : Int) = 32 ∨ (b.toNat : Int) = 9) == blankB b) (by decide +kernel) b
  simpa using this
theorem small_small (b : UInt8) : small (small b) = small b := by
  have := all_bytes (p := fun b => small (small b) == small b) (by decide +kernel) b
  simpa using this
theorem small_mark (b : UInt8) : markB (small b) = markB b := by
  have := all_bytes (p := fun b => markB (small b) == markB b) (by decide +kernel) b
  simpa using this
theorem small_plain (b : UInt8) : plainB (small b) = plainB b := by
  have := all_bytes (p := fun b => plainB (small b) == plainB b) (by decide +kernel) b
  simpa using this
theorem small_blank (b : UInt8) : blankB (small b) = blankB b := by
  have := all_bytes (p := fun b => blankB (small b) == blankB b) (by decide +kernel) b
  simpa using this
theorem small_comma (b : UInt8) : (small b == 44) = (b == 44) := by
  have := all_bytes (p := fun b => (small b == 44) == (b == 44)) (by decide +kernel) b
  simpa using this

/-! ### small letters -/
theorem lower_lower (s : List UInt8) : lower (lower s) = lower s := by
  simp [lower, Function.comp_def, small_small]
theorem lower_length (s : List UInt8) : (lower s).length = s.length := by simp [lower]
theorem alike_self (s : List UInt8) : alike s s = true := by simp [alike]
theorem alike_lower (s : List UInt8) : alike s (lower s) = true := by simp [alike, lower_lower]
theorem alike_lower' (s : List UInt8) : alike (lower s) s = true := by simp [alike, lower_lower]
theorem alike_comm (s t : List UInt8) : alike s t = alike t s := by
  unfold alike
  rw [Bool.eq_iff_iff, beq_iff_eq, beq_iff_eq]
  exact eq_comm
theorem alike_lower_left (s t : List UInt8) : alike (lower s) t = alike s t := by simp [alike, lower_lower]
theorem token_lower (s : List UInt8) : token (lower s) = token s := by
  unfold token lower
  simp [List.all_map, Function.comp_def, small_mark]
theorem headD_map (s : List UInt8) : blankB ((s.map small).headD 0) = blankB (s.headD 0) := by
  cases s with
  | nil => rfl
  | cons c s => exact small_blank c
theorem getLastD_map (s : List UInt8) : blankB ((s.map small).getLastD 0) = blankB (s.getLastD 0) := by
  rw [List.getLastD_eq_getLast?, List.getLastD_eq_getLast?, List.getLast?_map]
  cases s.getLast? with
  | none => rfl
  | some c => exact small_blank c
theorem value_lower (s : List UInt8) : value (lower s) = value s := by
  unfold value lower
  rw [headD_map, getLastD_map]
  simp [List.all_map, Function.comp_def, small_plain]

/-! ### blanks at both ends -/
theorem dropWhile_idem (s : List UInt8) : (s.dropWhile blankB).dropWhile blankB = s.dropWhile blankB := by
  induction s with
  | nil => rfl
  | cons c s ih =>
    by_cases h : blankB c = true
    · simp [h, ih]
    · simp [h]
/-- what stays has no blank at its beginning -/
theorem dropWhile_head {s : List UInt8} {c : UInt8} {r : List UInt8} (h : s.dropWhile blankB = c :: r) : blankB c = false := by
  induction s with
  | nil => cases h
  | cons d s ih =>
    by_cases hd : blankB d = true
    · rw [List.dropWhile_cons, if_pos hd] at h
      exact ih h
    · rw [List.dropWhile_cons, if_neg hd] at h
      injection h with h1 h2
      subst h1
      simpa using hd
theorem dropWhile_id {s : List UInt8} (h : ∀ c r, s = c :: r → blankB c = false) : s.dropWhile blankB = s := by
  cases s with
  | nil => rfl
  | cons c r => rw [List.dropWhile_cons, if_neg (by rw [h c r rfl]; decide)]
/-- cutting at the end leaves the beginning -/
theorem rev_head {s : List UInt8} (h : ∀ c r, s = c :: r → blankB c = false) : ∀ c r, (s.reverse.dropWhile blankB).reverse = c :: r → blankB c = false := by
  intro c r he
  have hp : (s.reverse.dropWhile blankB).reverse <+: s := by
    have := List.dropWhile_suffix (l := s.reverse) blankB
    rw [← List.reverse_reverse s]
    exact List.reverse_prefix.2 (by simpa using this)
  rw [he] at hp
  obtain ⟨t, ht⟩ := hp
  exact h c (r ++ t) (by rw [← ht]; rfl)
theorem trim_head {s : List UInt8} : ∀ c r, trim s = c :: r → blankB c = false := rev_head (fun _ _ => dropWhile_head)
theorem trim_last {s : List UInt8} : ∀ c r, (trim s).reverse = c :: r → blankB c = false := by
  intro c r h
  unfold trim at h
  rw [List.reverse_reverse] at h
  exact dropWhile_head h
theorem trim_id {s : List UInt8} (h1 : ∀ c r, s = c :: r → blankB c = false) (h2 : ∀ c r, s.reverse = c :: r → blankB c = false) : trim s = s := by
  unfold trim
  rw [dropWhile_id h1, dropWhile_id h2, List.reverse_reverse]
theorem trim_trim (s : List UInt8) : trim (trim s) = trim s := trim_id trim_head trim_last
theorem trim_length (s : List UInt8) : (trim s).length ≤ s.length := by
  unfold trim
  rw [List.length_reverse]
  have h1 := (List.dropWhile_suffix (l := (s.dropWhile blankB).reverse) blankB).length_le
  have h2 := (List.dropWhile_suffix (l := s) blankB).length_le
  rw [List.length_reverse] at h1
  omega
end Go.Proofs.YtaiipdjibllodaaDoor.LexPure

/- Paths: escapes, pieces, the normal form. No program is named. -/
namespace Go.Proofs.YtaiipdjibllodaaDoor.PathPure
open LexPure Bytes

/-- a plain byte -/
def plainP (n : Nat) : Bool := n == 45 || n == 46 || n == 95 || n == 126 || (decide (48 ≤ n) && decide (n ≤ 57)) || (decide (65 ≤ n) && decide (n ≤ 90)) || (decide (97 ≤ n) && decide (n ≤ 122))
/-- a byte that a path may have, but for the sign of an escape -/
def okc (c : UInt8) : Bool := decide (33 ≤ c.toNat) && decide (c.toNat ≤ 126) && c != 63 && c != 35
/-- a large digit -/
def hx (n : Nat) : UInt8 := UInt8.ofNat (if n < 10 then 48 + n else 55 + n)
/-- how a byte that was escaped is written -/
def wr (n : Nat) : List UInt8 := if plainP n then [UInt8.ofNat n] else [37, hx (n / 16), hx (n % 16)]
def two (a b : UInt8) : Nat := 16 * dig a + dig b
def isHex (c : UInt8) : Bool := decide (dig c < 16)
/-- plain escapes undone, the others in large digits -/
def esc : List UInt8 → Option (List UInt8)
  | [] => some []
  | c :: s => if okc c then
      if c == 37 then match s with
        | a :: b :: r => if isHex a && isHex b then (esc r).map (wr (two a b) ++ ·) else none
        | _ => none
      else (esc s).map (c :: ·)
    else none
def escapes : List UInt8 → Option (List UInt8)
  | [] => none
  | c :: s => if c == 47 then esc (c :: s) else none
/-- the pieces between slashes -/
def cuts : List UInt8 → List (List UInt8)
  | [] => [[]]
  | c :: s => if c == 47 then [] :: cuts s else match cuts s with
    | [] => [[c]]
    | p :: ps => (c :: p) :: ps
def isDot (p : List UInt8) : Bool := p.isEmpty || p == [46]
def isUp (p : List UInt8) : Bool := p == [46, 46]
/-- the pieces that are kept -/
def keeps : List (List UInt8) → List (List UInt8) → Option (List (List UInt8))
  | kept, [] => some kept
  | kept, p :: ps => if isDot p then keeps kept ps else if isUp p then (if kept.isEmpty then none else keeps kept.dropLast ps) else keeps (kept ++ [p]) ps
def join (kept : List (List UInt8)) : List UInt8 := kept.flatMap (fun p => 47 :: p)
def endsOpen (ps : List (List UInt8)) : Bool := isDot (ps.getLastD []) || isUp (ps.getLastD [])
def finish (kept : List (List UInt8)) (ps : List (List UInt8)) : List UInt8 := if kept.isEmpty || endsOpen ps then join kept ++ [47] else join kept
def normal (s : List UInt8) : Option (List UInt8) :=
  match escapes s with
  | none => none
  | some t => match keeps [] (cuts t.tail) with
    | none => none
    | some kept => some (finish kept (cuts t.tail))
/-- escapes undone -/
def dec : List UInt8 → Option (List UInt8)
  | [] => some []
  | c :: s => if c == 37 then match s with
      | a :: b :: r => if isHex a && isHex b then (dec r).map (UInt8.ofNat (two a b) :: ·) else none
      | _ => none
    else (dec s).map (c :: ·)
def under (p q : List UInt8) : Bool := p.take q.length == q && (p.length == q.length || p[q.length]? == some 47 || q.getLast? == some 47)

theorem esc_cons (c : UInt8) (s : List UInt8) : esc (c :: s) = if okc c then
      if c == 37 then (match s with
        | a :: b :: r => if isHex a && isHex b then (esc r).map (wr (two a b) ++ ·) else none
        | _ => none)
      else (esc s).map (c :: ·)
    else none := by rw [esc.eq_def]
theorem dec_cons (c : UInt8) (s : List UInt8) : dec (c :: s) = if c == 37 then (match s with
      | a :: b :: r => if isHex a && isHex b then (dec r).map (UInt8.ofNat (two a b) :: ·) else none
      | _ => none)
    else (dec s).map (c :: ·) := by rw [dec.eq_def]
theorem cuts_cons (c : UInt8) (s : List UInt8) : cuts (c :: s) = if c == 47 then [] :: cuts s else (match cuts s with
    | [] => [[c]]
    | p :: ps => (c :: p) :: ps) := by rw [cuts.eq_def]
/-! ### what is escaped once -/
/-- a text in which every byte that need not be escaped isn't -/
inductive Enc : List UInt8 → Prop
  | nil : Enc []
  | one (c : UInt8) (r : List UInt8) : okc c = true → (c == 37) = false → Enc r → Enc (c :: r)
  | tri (n : Nat) (r : List UInt8) : n < 256 → plainP n = false → Enc r → Enc (37 :: hx (n / 16) :: hx (n % 16) :: r)
theorem all_below {p : Nat → Bool} (h : (List.range 256).all p = true) {n : Nat} (hn : n < 256) : p n = true := List.all_eq_true.1 h n (List.mem_range.2 hn)
theorem two_lt {a b : UInt8} (ha : isHex a = true) (hb : isHex b = true) : two a b < 256 := by
  unfold isHex at ha hb
  simp only [decide_eq_true_eq] at ha hb
  unfold two
  omega
theorem hx_dig {n : Nat} (h : n < 256) : isHex (hx (n / 16)) = true ∧ isHex (hx (n % 16)) = true ∧ two (hx (n / 16)) (hx (n % 16)) = n := by
  have := all_below (p := fun n => isHex (hx (n / 16)) && isHex (hx (n % 16)) && two (hx (n / 16)) (hx (n % 16)) == n) (by decide +kernel) h
  simpa [and_assoc] using this
theorem hx_okc {n : Nat} (h : n < 256) : okc (hx (n / 16)) = true ∧ okc (hx (n % 16)) = true ∧ (hx (n / 16) == 37) = false ∧ (hx (n % 16) == 37) = false ∧ (hx (n / 16) == 47) = false ∧ (hx (n % 16) == 47) = false := by
  have := all_below (p := fun n => okc (hx (n / 16)) && okc (hx (n % 16)) && !(hx (n / 16) == 37) && !(hx (n % 16) == 37) && !(hx (n / 16) == 47) && !(hx (n % 16) == 47)) (by decide +kernel) h
  simp only [Bool.and_eq_true, Bool.not_eq_true'] at this
  exact ⟨this.1.1.1.1.1, this.1.1.1.1.2, this.1.1.1.2, this.1.1.2, this.1.2, this.2⟩
theorem plain_okc {n : Nat} (h : n < 256) (hp : plainP n = true) : okc (UInt8.ofNat n) = true ∧ (UInt8.ofNat n == 37) = false ∧ (UInt8.ofNat n == 47) = false := by
  have := all_below (p := fun n => !plainP n || (okc (UInt8.ofNat n) && !(UInt8.ofNat n == 37) && !(UInt8.ofNat n == 47))) (by decide +kernel) h
  rw [hp] at this
  simp only [Bool.not_true, Bool.false_or, Bool.and_eq_true, Bool.not_eq_true'] at this
  exact ⟨this.1.1, this.1.2, this.2⟩
theorem enc_wr {n : Nat} (h : n < 256) {r : List UInt8} (hr : Enc r) : Enc (wr n ++ r) := by
  unfold wr
  by_cases hp : plainP n = true
  · rw [if_pos hp]
    have := plain_okc h hp
    exact Enc.one _ _ this.1 this.2.1 hr
  · rw [if_neg hp]
    exact Enc.tri n r h (by simpa using hp) hr
/-- what comes out of escapes is escaped once -/
theorem esc_enc : ∀ (n : Nat) {s t : List UInt8}, s.length ≤ n → esc s = some t → Enc t
  | _, [], t, _, h => by
    simp only [esc, Option.some.injEq] at h
    subst h
    exact Enc.nil
  | 0, c :: s, t, hn, _ => by simp at hn
  | n + 1, c :: s, t, hn, h => by
    rw [esc_cons] at h
    split at h
    · rename_i hc
      split at h
      · split at h
        · rename_i a b r
          split at h
          · rename_i hab
            rw [Bool.and_eq_true] at hab
            obtain ⟨u, hu, rfl⟩ := Option.map_eq_some_iff.1 h
            exact enc_wr (two_lt hab.1 hab.2) (esc_enc n (by simp at hn; omega) hu)
          · cases h
        · cases h
      · rename_i h37
        obtain ⟨u, hu, rfl⟩ := Option.map_eq_some_iff.1 h
        exact Enc.one _ _ hc (by simpa using h37) (esc_enc n (by simp at hn; omega) hu)
    · cases h
theorem enc_esc {t : List UInt8} (h : Enc t) : esc t = some t := by
  induction h with
  | nil => rfl
  | one c r hc h37 _ ih => rw [esc_cons, if_pos hc, if_neg (by simp [h37]), ih]; rfl
  | tri n r hn hp _ ih =>
    have hd := hx_dig hn
    have h37 : okc 37 = true := by decide
    rw [esc_cons, if_pos h37, if_pos (by decide)]
    simp only [hd.1, hd.2.1, Bool.and_self, if_true, hd.2.2, ih]
    unfold wr
    rw [hp]
    rfl
theorem esc_append : ∀ (n : Nat) {s t : List UInt8} (r : List UInt8), s.length ≤ n → esc s = some t → esc (s ++ r) = (esc r).map (t ++ ·)
  | _, [], t, r, _, h => by
    simp only [esc, Option.some.injEq] at h
    subst h
    simp
  | 0, c :: s, t, r, hn, _ => by simp at hn
  | n + 1, c :: s, t, r, hn, h => by
    rw [esc_cons] at h
    split at h
    · rename_i hc
      split at h
      · rename_i h37
        split at h
        · rename_i a b q
          split at h
          · rename_i hab
            obtain ⟨u, hu, rfl⟩ := Option.map_eq_some_iff.1 h
            have ih := esc_append n r (s := q) (by simp at hn; omega) hu
            show esc (c :: a :: b :: (q ++ r)) = _
            rw [esc_cons, if_pos hc, if_pos h37]
            simp only [hab, if_true, ih, Option.map_map]
            congr 1
            funext x
            simp
          · cases h
        · cases h
      · rename_i h37
        obtain ⟨u, hu, rfl⟩ := Option.map_eq_some_iff.1 h
        have ih := esc_append n r (s := s) (by simp at hn; omega) hu
        show esc (c :: (s ++ r)) = _
        rw [esc_cons, if_pos hc, if_neg h37, ih, Option.map_map]
        congr 1
    · cases h
theorem enc_append {s t : List UInt8} (hs : Enc s) (ht : Enc t) : Enc (s ++ t) := by
  induction hs with
  | nil => exact ht
  | one c r hc h37 _ ih => exact Enc.one c _ hc h37 ih
  | tri n r hn hp _ ih => exact Enc.tri n _ hn hp ih

/-! ### pieces -/
theorem cuts_ne (s : List UInt8) : cuts s ≠ [] := by
  cases s with
  | nil => simp [cuts]
  | cons c s =>
    rw [cuts_cons]
    split
    · simp
    · split <;> simp
def noSlash (p : List UInt8) : Bool := p.all (fun c => c != 47)
theorem cuts_plain : ∀ {p : List UInt8}, noSlash p = true → cuts p = [p]
  | [], _ => rfl
  | c :: p, h => by
    unfold noSlash at h
    rw [List.all_cons, Bool.and_eq_true] at h
    rw [cuts_cons, if_neg (by simpa using h.1), cuts_plain (p := p) h.2]
theorem cuts_cut : ∀ {p : List UInt8} {r : List UInt8}, noSlash p = true → cuts (p ++ 47 :: r) = p :: cuts r
  | [], r, _ => by
    show cuts (47 :: r) = _
    rw [cuts_cons, if_pos (by decide)]
  | c :: p, r, h => by
    unfold noSlash at h
    rw [List.all_cons, Bool.and_eq_true] at h
    show cuts (c :: (p ++ 47 :: r)) = _
    rw [cuts_cons, if_neg (by simpa using h.1), cuts_cut (p := p) (r := r) h.2]
/-- what stands ahead doesn't hang on what stands behind a slash -/
theorem cuts_append : ∀ (s r : List UInt8), cuts (s ++ 47 :: r) = cuts s ++ cuts r
  | [], r => by
    show cuts (47 :: r) = _
    rw [cuts_cons, if_pos (by decide)]
    rfl
  | c :: s, r => by
    have ih := cuts_append s r
    show cuts (c :: (s ++ 47 :: r)) = cuts (c :: s) ++ cuts r
    rw [cuts_cons, cuts_cons]
    split
    · rw [ih]; rfl
    · rw [ih]
      cases h : cuts s with
      | nil => exact absurd h (cuts_ne s)
      | cons p ps => rfl
theorem cuts_noSlash : ∀ {s p : List UInt8}, p ∈ cuts s → noSlash p = true
  | [], p, h => by
    simp only [cuts, List.mem_singleton] at h
    subst h
    rfl
  | c :: s, p, h => by
    rw [cuts_cons] at h
    by_cases hc : (c == 47) = true
    · rw [if_pos hc, List.mem_cons] at h
      rcases h with rfl | h
      · rfl
      · exact cuts_noSlash h
    · rw [if_neg hc] at h
      have hc' : (c == 47) = false := by simpa using hc
      split at h
      · rename_i hp
        exact absurd hp (cuts_ne s)
      · rename_i q qs hp
        rw [List.mem_cons] at h
        rcases h with rfl | h
        · have := cuts_noSlash (s := s) (p := q) (by rw [hp]; simp)
          unfold noSlash at *
          rw [List.all_cons, this]
          simp [bne, hc']
        · exact cuts_noSlash (s := s) (p := p) (by rw [hp]; simp [h])
theorem cuts_enc {t : List UInt8} (h : Enc t) : ∀ p ∈ cuts t, Enc p := by
  induction h with
  | nil =>
    intro p hp
    simp only [cuts, List.mem_singleton] at hp
    subst hp
    exact Enc.nil
  | one c r hc h37 _ ih =>
    intro p hp
    rw [cuts_cons] at hp
    split at hp
    · rw [List.mem_cons] at hp
      rcases hp with rfl | hp
      · exact Enc.nil
      · exact ih p hp
    · split at hp
      · rename_i hq
        exact absurd hq (cuts_ne r)
      · rename_i q qs hq
        rw [List.mem_cons] at hp
        rcases hp with rfl | hp
        · exact Enc.one c q hc h37 (ih q (by rw [hq]; simp))
        · exact ih p (by rw [hq]; simp [hp])
  | tri n r hn hp _ ih =>
    intro p hm
    have hk := hx_okc hn
    obtain ⟨q, qs, hq⟩ : ∃ q qs, cuts r = q :: qs := by
      cases h : cuts r with
      | nil => exact absurd h (cuts_ne r)
      | cons q qs => exact ⟨q, qs, rfl⟩
    have e : cuts (37 :: hx (n / 16) :: hx (n % 16) :: r) = (37 :: hx (n / 16) :: hx (n % 16) :: q) :: qs := by
      rw [cuts_cons, if_neg (by decide), cuts_cons, if_neg (by simp [hk.2.2.2.2.1]), cuts_cons, if_neg (by simp [hk.2.2.2.2.2]), hq]
    rw [e, List.mem_cons] at hm
    rcases hm with rfl | hm
    · exact Enc.tri n q hn hp (ih q (by rw [hq]; simp))
    · exact ih p (by rw [hq]; simp [hm])
end Go.Proofs.YtaiipdjibllodaaDoor.PathPure

/- The shelf's words for strings.Split at a slash, and the grammar's: they say one thing. No program is named. -/

namespace Go.Proofs.YtaiipdjibllodaaDoor.CutsSplit
open LexPure Bytes PathPure
/-! ### Split -/
theorem index_cons (c : UInt8) (l : List UInt8) (h : (c == 47) = false) : Go.Lib.index (c :: l) [47] = if Go.Lib.index l [47] == -1 then -1 else Go.Lib.index l [47] + 1 := by
  have hp : ([47] : List UInt8).isPrefixOf (c :: l) = false := by
    have : ¬ (47 : UInt8) = c := fun e => by rw [← e] at h; cases h
    simp [List.isPrefixOf, this]
  rw [Go.Lib.index, hp]
  rfl
theorem split_cuts : ∀ s : List UInt8, Go.Lib.splitK [47] 0 (s.count 47) s = cuts s
  | [] => rfl
  | c :: l => by
    by_cases hc : c = 47
    · subst hc
      have hix : Go.Lib.index (47 :: l) [47] = 0 := by rw [Go.Lib.index]; simp [List.isPrefixOf]
      rw [List.count_cons_self, Go.Lib.splitK, hix, if_neg (by decide), cuts, if_pos (by decide), ← split_cuts l]
      rfl
    · have hq : (c == 47) = false := by simpa using hc
      have ih := split_cuts l
      rw [List.count_cons_of_ne (by simpa using hc), cuts, if_neg (by simp [hq]), ← ih]
      cases hk : l.count 47 with
      | zero => rfl
      | succ k =>
        unfold Go.Lib.splitK
        rw [index_cons c l hq]
        by_cases hm : Go.Lib.index l [47] = -1
        · rw [hm]; rfl
        · have hge := Go.Lib.index_ge l [47]
          obtain ⟨i, hi⟩ : ∃ i : Nat, Go.Lib.index l [47] = i := ⟨(Go.Lib.index l [47]).toNat, by omega⟩
          rw [hi]
          have h1 : ((i : Int) == -1) = false := beq_eq_false_iff_ne.2 (by omega)
          have h2 : (((i : Int) + 1) == -1) = false := beq_eq_false_iff_ne.2 (by omega)
          have h3 : ((i : Int) + 1).toNat = i + 1 := by omega
          have h4 : ((i : Int)).toNat = i := by omega
          simp [h1, h2, h3, h4]
/-- the marks that are plain beside digits and letters -/
def plainA : ByteArray := ⟨#[45, 46, 95, 126]⟩
def plainI (b : UInt8) : Int := Go.Lib.indexByte plainA.data.toList b
theorem plain_cases (b : UInt8) : plainP b.toNat = (decide (48 ≤ (b.toNat : Int) ∧ (b.toNat : Int) ≤ 57) || decide (65 ≤ (b.toNat : Int) ∧ (b.toNat : Int) ≤ 90) || decide (97 ≤ (b.toNat : Int) ∧ (b.toNat : Int) ≤ 122) || decide (0 ≤ plainI b)) := by
  have := all_bytes (p := fun b => plainP b.toNat == (decide (48 ≤ (b.toNat : Int) ∧ (b.toNat : Int) ≤ 57) || decide (65 ≤ (b.toNat : Int) ∧ (b.toNat : Int) ≤ 90) || decide (97 ≤ (b.toNat : Int) ∧ (b.toNat : Int) ≤ 122) || decide (0 ≤ plainI b))) (by decide +kernel) b
  simpa using this
theorem okc_cases (b : UInt8) : okc b = decide (32 < (b.toNat : Int) ∧ (b.toNat : Int) < 127 ∧ ¬ (b.toNat : Int) = 63 ∧ ¬ (b.toNat : Int) = 35) := by
  have := all_bytes (p := fun b => okc b == decide (32 < (b.toNat : Int) ∧ (b.toNat : Int) < 127 ∧ ¬ (b.toNat : Int) = 63 ∧ ¬ (b.toNat : Int) = 35)) (by decide +kernel) b
  simpa using this
end Go.Proofs.YtaiipdjibllodaaDoor.CutsSplit

/-
  DERIVED: THE SHELF's CONTRACTS AT THIS DUMP, IN PLAIN WORDS (tools/lay-plain.mjs out of 'YtaiipdjibllodaaDoorPathLaysT.lean', which tools/lay-shelf.mjs wrote): THE SAME DECLARATIONS UNDER THE SAME NAMES: 'import', 'namespace', 'open', 'def', 'theorem' AND NOTHING ELSE: no command of the shelf's: FOR A HAND-IN. Each laying: the table of numbers ('.._ren') and one theorem, a field a fact of the dump's own or the kernel's comparison; each contract: ONE APPLICATION.
-/
namespace Go.Proofs
open Go.Shelf
def Tryd.lays137_ren : Go.Shelf.Ren := ⟨fun | 137 => 61 | 217 => 68 | 266 => 76 | n => n, fun | 9 => 9 | 5 => 5 | 3 => 3 | n => n, fun | n => n⟩
theorem Tryd.lays137 : Go.Proofs.Lays.n137 Tryd.prog Tryd.lays137_ren := {
  mixed := by kernel_rfl
  f137 := Tryd.func61.trans (congrArg some (by kernel_rfl))
  f217 := Tryd.func68.trans (congrArg some (by kernel_rfl))
  f266 := Tryd.func76.trans (congrArg some (by kernel_rfl))
  t3 := Tryd.underlying3
  a3 := Tryd.isAgg3
  z3 := Tryd.sizeOf3
  v3 := Tryd.zeroValue3
  t5 := Tryd.underlying5
  a5 := Tryd.isAgg5
  z5 := Tryd.sizeOf5
  v5 := Tryd.zeroValue5
  t9 := Tryd.underlying9
  a9 := Tryd.isAgg9
  z9 := Tryd.sizeOf9
  v9 := Tryd.zeroValue9 }
def Tryd.lays99_ren : Go.Shelf.Ren := ⟨fun | 99 => 19 | 206 => 30 | n => n, fun | 9 => 9 | 4 => 4 | 3 => 3 | n => n, fun | n => n⟩
theorem Tryd.lays99 : Go.Proofs.Lays.n99 Tryd.prog Tryd.lays99_ren := {
  mixed := by kernel_rfl
  f99 := Tryd.func19.trans (congrArg some (by kernel_rfl))
  f206 := Tryd.func30.trans (congrArg some (by kernel_rfl))
  t3 := Tryd.underlying3
  a3 := Tryd.isAgg3
  z3 := Tryd.sizeOf3
  v3 := Tryd.zeroValue3
  t4 := Tryd.underlying4
  a4 := Tryd.isAgg4
  z4 := Tryd.sizeOf4
  v4 := Tryd.zeroValue4
  t9 := Tryd.underlying9
  a9 := Tryd.isAgg9
  z9 := Tryd.sizeOf9
  v9 := Tryd.zeroValue9 }
def Tryd.lays146_ren : Go.Shelf.Ren := ⟨fun | 146 => 59 | 221 => 73 | 268 => 79 | 138 => 80 | 143 => 51 | 195 => 82 | 197 => 83 | 218 => 84 | 219 => 50 | 260 => 86 | 217 => 68 | 225 => 64 | 224 => 63 | 267 => 69 | 266 => 76 | 314 => 77 | n => n, fun | 9 => 9 | 31 => 66 | 3 => 3 | 4 => 4 | 0 => 0 | 105 => 98 | 21 => 21 | 5 => 5 | 46 => 84 | 119 => 101 | 139 => 104 | 138 => 103 | 146 => 92 | 51 => 91 | n => n, fun | 1 => 0 | 3 => 1 | 4 => 2 | n => n⟩
theorem Tryd.lays146 : Go.Proofs.Lays.n146 Tryd.prog Tryd.lays146_ren := {
  mixed := by kernel_rfl
  f138 := Tryd.func80.trans (congrArg some (by kernel_rfl))
  f143 := Tryd.func51.trans (congrArg some (by kernel_rfl))
  f146 := Tryd.func59.trans (congrArg some (by kernel_rfl))
  f195 := Tryd.func82.trans (congrArg some (by kernel_rfl))
  f197 := Tryd.func83.trans (congrArg some (by kernel_rfl))
  f217 := Tryd.func68.trans (congrArg some (by kernel_rfl))
  f218 := Tryd.func84.trans (congrArg some (by kernel_rfl))
  f219 := Tryd.func50.trans (congrArg some (by kernel_rfl))
  f221 := Tryd.func73.trans (congrArg some (by kernel_rfl))
  f224 := Tryd.func63.trans (congrArg some (by kernel_rfl))
  f225 := Tryd.func64.trans (congrArg some (by kernel_rfl))
  f260 := Tryd.func86.trans (congrArg some (by kernel_rfl))
  f266 := Tryd.func76.trans (congrArg some (by kernel_rfl))
  f267 := Tryd.func69.trans (congrArg some (by kernel_rfl))
  f268 := Tryd.func79.trans (congrArg some (by kernel_rfl))
  f314 := Tryd.func77.trans (congrArg some (by kernel_rfl))
  t0 := Tryd.underlying0
  a0 := Tryd.isAgg0
  z0 := Tryd.sizeOf0
  v0 := Tryd.zeroValue0
  t3 := Tryd.underlying3
  a3 := Tryd.isAgg3
  z3 := Tryd.sizeOf3
  v3 := Tryd.zeroValue3
  t4 := Tryd.underlying4
  a4 := Tryd.isAgg4
  z4 := Tryd.sizeOf4
  v4 := Tryd.zeroValue4
  t5 := Tryd.underlying5
  a5 := Tryd.isAgg5
  z5 := Tryd.sizeOf5
  v5 := Tryd.zeroValue5
  t9 := Tryd.underlying9
  a9 := Tryd.isAgg9
  z9 := Tryd.sizeOf9
  v9 := Tryd.zeroValue9
  t21 := Tryd.underlying21
  a21 := Tryd.isAgg21
  z21 := Tryd.sizeOf21
  v21 := Tryd.zeroValue21
  t31 := Tryd.underlying66
  a31 := Tryd.isAgg66
  z31 := Tryd.sizeOf66
  v31 := Tryd.zeroValue66
  t46 := Tryd.underlying84
  a46 := Tryd.isAgg84
  z46 := Tryd.sizeOf84
  v46 := Tryd.zeroValue84
  t51 := Tryd.underlying91
  a51 := Tryd.isAgg91
  z51 := Tryd.sizeOf91
  v51 := Tryd.zeroValue91
  t105 := Tryd.underlying98
  a105 := Tryd.isAgg98
  z105 := Tryd.sizeOf98
  v105 := Tryd.zeroValue98
  t119 := Tryd.underlying101
  a119 := Tryd.isAgg101
  z119 := Tryd.sizeOf101
  t138 := Tryd.underlying103
  a138 := Tryd.isAgg103
  z138 := Tryd.sizeOf103
  v138 := Tryd.zeroValue103
  t139 := Tryd.underlying104
  a139 := Tryd.isAgg104
  z139 := Tryd.sizeOf104
  v139 := Tryd.zeroValue104
  t146 := Tryd.underlying92
  a146 := Tryd.isAgg92
  z146 := Tryd.sizeOf92
  v146 := Tryd.zeroValue92
  g1 := by kernel_rfl
  g3 := by kernel_rfl
  g4 := by kernel_rfl }
end Go.Proofs

/- The row's last step for any law that changes nothing of what was there: the arguments read as they did, the result is true. No program is named. -/
namespace Go.Proofs.YtaiipdjibllodaaDoor.LawKit
open Go.ChangeShapes Go.WideShapes Go.ChangeAt Go.RowKit
variable {H : Type} {enc : TypeId × Value → H} {P : Program}

theorem trodAll_stays (hl : laidOutB P = true) {W W' : World} {sp : Nat → Bool} : ∀ {ts : List TypeId} {vs : List Value} {ds : List (DataW H)} {ps : List MemPlace},
    (∀ t ∈ ts, P.readableRec t = true ∧ t < P.types.size) → DataW.TrodAll enc P W 0 (fun _ => true) true ts vs ds ps → (∀ p ∈ ps, W.sameAt W' p) → (∀ p ∈ ps, sp p.block = true) →
    DataW.TrodAll enc P W' 0 sp true ts vs ds ps
  | [], [], [], _, _, h, _, _ => h
  | t :: ts, v :: vs, d :: ds, ps, ht, h, hs, hsp => by
    obtain ⟨p, q, h1, h2, rfl⟩ := h
    obtain ⟨hr, hrow⟩ := ht t (List.mem_cons_self ..)
    exact ⟨p, q, WideElems.Trod_stays hl hr hrow h1 (fun x hx => hs x (List.mem_append_left _ hx)) (fun x hx => hsp x (List.mem_append_left _ hx)),
      trodAll_stays hl (fun t ht' => ht t (List.mem_cons_of_mem _ ht')) h2 (fun x hx => hs x (List.mem_append_right _ hx)) (fun x hx => hsp x (List.mem_append_right _ hx)), rfl⟩
  | [], _ :: _, _, _, _, h, _, _ => h.elim
  | [], [], _ :: _, _, _, h, _, _ => h.elim
  | _ :: _, [], _, _, _, h, _, _ => h.elim
  | _ :: _, _ :: _, [], _, _, h, _, _ => h.elim

/-- a law without package variables: true, and nothing that was there has turned -/
theorem law_post {f : Func} {s : ChangeSpec} {W W' : World} {args : Array Value} {ds gs : List (DataW H)} {before : List MemPlace} {bt : TypeId}
    (hl : laidOutB P = true) (ht : f.params.toList.all (fun t => P.readableRec t && decide (t < P.types.size)) = true)
    (hW : DataW.Whole enc P f.params.toList s.vars false W args.toList ds gs before) (hvars : s.vars = [])
    (hfn : s.fn H (ds ++ gs) = { results := [.lit (.bool true)], args := ds }) (hres : f.resultTypes = #[bt]) (hbt : P.underlying bt = some .bool)
    (hb : Below W.heap.size W W') : s.post enc P f false true false false W args (.bool true) W' := by
  have hW' := hW
  obtain ⟨p, q, hA, hV, rfl, hfz, hnd⟩ := hW
  rw [hvars] at hV
  have hlt : ∀ x ∈ p ++ q, x.block < W.heap.size := fun x hx => by simpa using hW'.lt x hx
  obtain ⟨rfl, rfl⟩ : gs = [] ∧ q = [] := by
    cases gs with
    | nil => exact ⟨rfl, hV⟩
    | cons => exact hV.elim
  have hall : ∀ sp : Nat → Bool, (∀ x ∈ p ++ [], sp x.block = true) → DataW.TrodAll enc P W' 0 sp true f.params.toList args.toList ds p := fun sp hsp =>
    trodAll_stays hl (fun t htt => by
      have := List.all_eq_true.1 ht t htt
      simpa using this) hA (fun x hx => hb.same (hlt x (List.mem_append_left _ hx))) (fun x hx => hsp x (List.mem_append_left _ hx))
  have hold : ∀ x ∈ p ++ [], (fun b => decide (b < W.heap.size)) x.block = true := fun x hx => by simpa using hlt x hx
  have hT : ∀ (b : Nat) (sp : Nat → Bool) (hd : Bool), DataW.TrodAll enc P W' b sp hd f.resultTypes.toList ((Value.bool true).resultList f.resultTypes.size) [.lit (.bool true)] [] := fun b sp hd => by
    rw [hres]
    exact trodAll_cons_mk (shut_bool hbt _) trodAll_mk0
  refine ⟨ds, [], p ++ [], [], p, [], hW', ?_, ?_, ?_, World.keptBut_mono (fun x hx => ⟨hx, ?_⟩) (hb.frame (· ∈ p ++ [])), fun h => by cases h⟩
  · rw [hfn]; exact hT _ _ _
  · rw [hfn]; exact hall _ hold
  · rw [hfn, hvars]; rfl
  · exact Or.inr (Or.inl (by simpa using hx))
/-- what is reached through one argument weighs no more than the form lets -/
theorem weights_get {q : Nat → Bool} : ∀ (ts : List TypeId) (ds : List (DataW H)) (i : Nat) (t : TypeId) (d : DataW H), (DataW.weightsEach P ts ds).all q = true → ts[i]? = some t → ds[i]? = some d → (d.weights P t).all q = true
  | [], _, _, _, _, _, h, _ => by simp at h
  | _ :: _, [], _, _, _, _, _, h => by simp at h
  | t' :: ts, d' :: ds, 0, t, d, hq, ht, hd => by
    simp only [List.getElem?_cons_zero, Option.some.injEq] at ht hd
    subst ht; subst hd
    simp only [DataW.weightsEach, List.all_append, Bool.and_eq_true] at hq
    exact hq.1
  | t' :: ts, d' :: ds, i + 1, t, d, hq, ht, hd => by
    simp only [List.getElem?_cons_succ] at ht hd
    simp only [DataW.weightsEach, List.all_append, Bool.and_eq_true] at hq
    exact weights_get ts ds i t d hq.2 ht hd
theorem weight_string {t : TypeId} {s : ByteArray} (h : ((DataW.lit (H := H) (.string s.data.toList)).weights P t).all (fun x => decide (x ≤ reachBytes)) = true) : s.size ≤ 140737488351232 := by
  simp only [DataW.weights, List.all_cons, List.all_nil, Bool.and_true, reachBytes] at h
  have := of_decide_eq_true h
  simpa using this
end Go.Proofs.YtaiipdjibllodaaDoor.LawKit

/- Two closed facts on the loaded program, laid once for all laws of the seat. -/
namespace Go.Proofs.YtaiipdjibllodaaDoor.LawBase
theorem own : ownKnob Tryd.prog.godebug = none := by kernel_rfl
theorem laidOut : laidOutB Tryd.prog = true := by kernel_rfl
end Go.Proofs.YtaiipdjibllodaaDoor.LawBase

/- Results that are equal. No program is named. -/
namespace Go.Proofs.YtaiipdjibllodaaDoor.Ret
theorem ret_bool {a b : Bool} (h : a = b) : Ending.returned (.bool a) = .returned (.bool b) := by rw [h]
theorem ret_string {a b : ByteArray} (h : a = b) : Ending.returned (.string a) = .returned (.string b) := by rw [h]
theorem ret_num {a b : Int} {p q : Bool} (h : a = b) (k : p = q) : Ending.returned (.tuple #[.int .i64 a, .bool p]) = .returned (.tuple #[.int .i64 b, .bool q]) := by rw [h, k]
end Go.Proofs.YtaiipdjibllodaaDoor.Ret

/- Words for memory, of my own: a block that holds just these cells; a world in which only one block, and what is new, has turned. No program is named. -/
namespace Go.Proofs.YtaiipdjibllodaaDoor.Mem
open Go.RowKit

/-- block g holds just the cells cs, of element type t; none of them is frozen -/
structure Has (w : World) (g : Nat) (t : TypeId) (cs : Array Value) : Prop where
  at_ : w.heap[g]? = some (.cells cs t (0, 0))

section
variable {w w' : World} {g : Nat} {t : TypeId} {cs : Array Value}
theorem Has.lt (h : Has w g t cs) : g < w.heap.size := by
  have := h.at_
  rcases Nat.lt_or_ge g w.heap.size with hl | hl
  · exact hl
  · rw [Array.getElem?_eq_none hl] at this; cases this
theorem Has.cell (h : Has w g t cs) (i : Nat) : w.cell? ⟨g, i, none⟩ = cs[i]? := cell_of_row w g i cs t (0, 0) h.at_
theorem Has.free (h : Has w g t cs) (i : Nat) : w.frozen? ⟨g, i, none⟩ = false := by
  have := h.at_
  simp [World.frozen?, this]
theorem Has.new (w : World) (t : TypeId) (cs : Array Value) : Has (w.alloc (.cells cs t)) w.heap.size t cs := ⟨heap_alloc_new w _⟩
theorem Has.alloc (h : Has w g t cs) (o : Obj) : Has (w.alloc o) g t cs := ⟨(Below.heap_alloc w o g h.lt).trans h.at_⟩
theorem Has.drew (h : Has w g t cs) : Has w.drew g t cs := ⟨h.at_⟩
theorem Has.drewN (h : Has w g t cs) (n : Nat) : Has (w.drewN n) g t cs := ⟨h.at_⟩
theorem Has.set_ (h : Has w g t cs) (i : Nat) (u : Value) : Has (w.setCell ⟨g, i, none⟩ u) g t (cs.setIfInBounds i u) := by
  have := h.at_
  exact ⟨by simp [World.setCell, Array.getElem?_modify, this]⟩
theorem Has.far (h : Has w g t cs) {p : Addr} (hp : g ≠ p.block) (u : Value) : Has (w.setCell p u) g t cs := ⟨(Below.heap_setCell w p u g hp).trans h.at_⟩
theorem Has.below {B : Nat} (h : Has w g t cs) (hb : Below B w w') (hg : g < B) : Has w' g t cs := ⟨(hb.block g hg).trans h.at_⟩
theorem Has.grown {row : Option Nat} (h : Has w g t cs) (hb : w.grownBy w' row) (hg : some g ≠ row) : Has w' g t cs := ⟨(hb.block g h.lt hg).trans h.at_⟩
theorem Has.ne_ {g' : Nat} {t' : TypeId} {cs' : Array Value} (h : Has w g t cs) (h' : Has w g' t' cs') (hne : t ≠ t') : g ≠ g' := by
  rintro rfl
  have h1 := h.at_
  rw [h'.at_] at h1
  injection h1 with h1
  injection h1 with _ h2
  exact hne h2.symm
end

/-! ### only block g, and what is new -/
section
variable {a w w' : World} {g : Nat} {row : Option Nat}
theorem own_drew (h : a.grownBy w row) : a.grownBy w.drew row := ⟨h.os, h.tape, h.output, h.size, h.block⟩
theorem own_drewN (h : a.grownBy w row) (n : Nat) : a.grownBy (w.drewN n) row := ⟨h.os, h.tape, h.output, h.size, h.block⟩
theorem own_alloc (h : a.grownBy w row) (o : Obj) : a.grownBy (w.alloc o) row :=
  ⟨h.os, h.tape, h.output, Nat.le_trans h.size (by simp), fun i hi hne => (Below.heap_alloc w o i (Nat.lt_of_lt_of_le hi h.size)).trans (h.block i hi hne)⟩
theorem own_set (h : a.grownBy w (some g)) (i : Nat) (u : Value) : a.grownBy (w.setCell ⟨g, i, none⟩ u) (some g) :=
  ⟨h.os, h.tape, h.output, by simpa [World.setCell] using h.size, fun j hj hne => (Below.heap_setCell w _ u j (fun e => hne (by rw [e]))).trans (h.block j hj hne)⟩
theorem own_set_new (h : a.grownBy w row) {p : Addr} (hp : a.heap.size ≤ p.block) (u : Value) : a.grownBy (w.setCell p u) row :=
  ⟨h.os, h.tape, h.output, by simpa [World.setCell] using h.size, fun j hj hne => (Below.heap_setCell w _ u j (fun e => by omega)).trans (h.block j hj hne)⟩
theorem own_of_below (h : Below a.heap.size a w) (row : Option Nat) : a.grownBy w row := ⟨h.os, h.tape, h.output, h.size, fun i hi _ => h.block i hi⟩
theorem own_trans (h : a.grownBy w row) (k : w.grownBy w' row) : a.grownBy w' row :=
  ⟨k.os.trans h.os, k.tape.trans h.tape, k.output.trans h.output, Nat.le_trans h.size k.size, fun i hi hne => (k.block i (Nat.lt_of_lt_of_le hi h.size) hne).trans (h.block i hi hne)⟩
/-- a cell of another block reads as it did -/
theorem own_cell {b i : Nat} (h : a.grownBy w (some g)) (hb : b < a.heap.size) (hne : b ≠ g) : w.cell? ⟨b, i, none⟩ = a.cell? ⟨b, i, none⟩ :=
  World.cell?_of_block (w := a) (h.block b hb (fun e => hne (Option.some.inj e)))
/-- what lies from B on may turn -/
theorem below_own {B : Nat} (h : Below B a w) (k : w.grownBy w' (some g)) (hB : B ≤ w.heap.size) (hg : B ≤ g) : Below B a w' :=
  h.grown k hB (fun j hj => by injection hj with hj; omega)
/-- one call behind another -/
theorem below_chain {a b c : World} (h : Below a.heap.size a b) (k : Below b.heap.size b c) : Below a.heap.size a c :=
  ⟨k.os.trans h.os, k.tape.trans h.tape, k.output.trans h.output, Nat.le_trans h.size k.size, fun i hi => (k.block i (Nat.lt_of_lt_of_le hi h.size)).trans (h.block i hi)⟩
end
end Go.Proofs.YtaiipdjibllodaaDoor.Mem

/- Layer 5 of the program: the pieces about a question mark, and how a text begins and ends. -/
namespace Go.Proofs.YtaiipdjibllodaaDoor.PUnder
open Go.ChangeShapes Go.WideShapes Go.ChangeAt Go.RowKit LexPure Bytes Ret PathPure
/-- internal/bytealg.MaxLen holds an int -/
def MaxInt (w : World) : Prop := ∃ m, w.cell? ⟨0, 0, none⟩ = some (.int .i64 m)
theorem MaxInt.of_shape {w : World} (h : w.ShapedOpen Tryd.prog) : MaxInt w :=
  cell_of_shapedOpen_int (t := 3) (zero := #[.int .i64 0]) h (of_decide_eq_true (by kernel_rfl)) (by kernel_rfl) rfl (by kernel_rfl) (by kernel_rfl) Tryd.underlying3
theorem MaxInt.below {w w' : World} (h : MaxInt w) (hb : Below w.heap.size w w') : MaxInt w' := by
  obtain ⟨m, hm⟩ := h
  exact ⟨m, (hb.cell (p := ⟨0, 0, none⟩) (World.block_lt_of_cell? _ _ hm)).trans hm⟩
def cutA (s : List UInt8) : List UInt8 := s.takeWhile (fun c => c != 63)
def cutB (s : List UInt8) : List UInt8 := (s.dropWhile (fun c => c != 63)).tail
def cutQ (s : List UInt8) : Bool := s.any (fun c => c == 63)
theorem lib_has (s p : ByteArray) (w : World) :
    Calls Tryd.prog 19 #[.string s, .string p] w fun e w' => e = .returned (.bool ((toL p).isPrefixOf (toL s))) ∧ w' = w :=
  Any.strings_HasPrefix Tryd.lays99 s p w
theorem starts_one (s : List UInt8) (c : UInt8) : ([c] : List UInt8).isPrefixOf s = (s.head? == some c) := by
  cases s with
  | nil => rfl
  | cons a t =>
    rw [Bool.eq_iff_iff]
    simp only [List.isPrefixOf, List.head?_cons, Bool.and_true, beq_iff_eq, Option.some.injEq]
    exact eq_comm
theorem ends_one (s : List UInt8) (c : UInt8) : ([c] : List UInt8).isSuffixOf s = (s.getLast? == some c) := by
  unfold List.isSuffixOf
  rw [List.reverse_singleton, starts_one, List.head?_reverse]
end Go.Proofs.YtaiipdjibllodaaDoor.PUnder

/- Numbers read from digits. No program is named. -/
namespace Go.Proofs.YtaiipdjibllodaaDoor.LexNum
open LexPure Bytes
theorem numV_snoc (base : Nat) (l : List UInt8) (c : UInt8) : numV base (l ++ [c]) = base * numV base l + dig c := by
  simp [numV, List.foldl_append]
theorem numV_lt (base : Nat) (l : List UInt8) (h : l.all (fun c => decide (dig c < base)) = true) : numV base l < base ^ l.length := by
  have key : ∀ r : List UInt8, r.reverse.all (fun c => decide (dig c < base)) = true → numV base r.reverse < base ^ r.length := by
    intro r
    induction r with
    | nil => intro _; simp [numV]
    | cons c r ih =>
      intro h
      rw [List.reverse_cons, List.all_append, Bool.and_eq_true] at h
      have h1 := ih h.1
      have h2 : dig c < base := by simpa using h.2
      rw [List.reverse_cons, numV_snoc, List.length_cons, Nat.pow_succ]
      have h3 : base * (numV base r.reverse + 1) ≤ base * base ^ r.length := Nat.mul_le_mul_left _ h1
      rw [Nat.mul_add, Nat.mul_one, Nat.mul_comm base (base ^ r.length)] at h3
      omega
  have := key l.reverse (by rw [List.reverse_reverse]; exact h)
  rwa [List.reverse_reverse, List.length_reverse] at this
/-- the base and how many digits may be read in it -/
def Fit (base : Nat) (digits : Int) : Prop := (base = 10 ∧ digits ≤ 18) ∨ (base = 16 ∧ digits ≤ 15)
theorem Fit.bound {base : Nat} {digits : Int} (h : Fit base digits) {l : List UInt8} (hl : (l.length : Int) < digits) (ha : l.all (fun c => decide (dig c < base)) = true) : base * numV base l ≤ 1152921504606846976 ∧ base ≤ 16 := by
  have hv := numV_lt base l ha
  rcases h with ⟨rfl, hd⟩ | ⟨rfl, hd⟩
  · have : 10 ^ l.length ≤ 10 ^ 17 := Nat.pow_le_pow_right (by decide) (by omega)
    omega
  · have : 16 ^ l.length ≤ 16 ^ 14 := Nat.pow_le_pow_right (by decide) (by omega)
    omega
/-- where a byte lies among the digits -/
theorem dig_at (b : UInt8) : ((b.toNat : Int) < 48 ∧ dig b = 99) ∨ (48 ≤ (b.toNat : Int) ∧ (b.toNat : Int) ≤ 57 ∧ (dig b : Int) = (b.toNat : Int) - 48) ∨ (57 < (b.toNat : Int) ∧ (b.toNat : Int) < 65 ∧ dig b = 99) ∨
    (65 ≤ (b.toNat : Int) ∧ (b.toNat : Int) ≤ 70 ∧ (dig b : Int) = (b.toNat : Int) - 55) ∨ (70 < (b.toNat : Int) ∧ (b.toNat : Int) < 97 ∧ dig b = 99) ∨ (97 ≤ (b.toNat : Int) ∧ (b.toNat : Int) ≤ 102 ∧ (dig b : Int) = (b.toNat : Int) - 87) ∨ (102 < (b.toNat : Int) ∧ dig b = 99) := by
  have := all_bytes (p := fun b => decide (((b.toNat : Int) < 48 ∧ dig b = 99) ∨ (48 ≤ (b.toNat : Int) ∧ (b.toNat : Int) ≤ 57 ∧ (dig b : Int) = (b.toNat : Int) - 48) ∨ (57 < (b.toNat : Int) ∧ (b.toNat : Int) < 65 ∧ dig b = 99) ∨
    (65 ≤ (b.toNat : Int) ∧ (b.toNat : Int) ≤ 70 ∧ (dig b : Int) = (b.toNat : Int) - 55) ∨ (70 < (b.toNat : Int) ∧ (b.toNat : Int) < 97 ∧ dig b = 99) ∨ (97 ≤ (b.toNat : Int) ∧ (b.toNat : Int) ≤ 102 ∧ (dig b : Int) = (b.toNat : Int) - 87) ∨ (102 < (b.toNat : Int) ∧ dig b = 99))) (by decide +kernel) b
  exact of_decide_eq_true this
theorem dig_le (b : UInt8) : dig b ≤ 99 := by
  have := dig_at b
  omega
end Go.Proofs.YtaiipdjibllodaaDoor.LexNum

/- Layer 4, the document's own number. -/
namespace Go.Proofs.YtaiipdjibllodaaDoor.RNumber
open Go.ChangeShapes Go.WideShapes Go.ChangeAt Go.RowKit LexPure Bytes Ret LexNum
set_option maxHeartbeats 2000000 in
theorem rnumber_any (s : ByteArray) (hs : s.size ≤ maxLen) (digits : Int) (base : Nat) (hF : Fit base digits) (w : World) :
    Calls Tryd.prog 42 #[.string s, .int .i64 digits, .int .i64 (base : Int)] w fun e w' => e = .returned (.tuple #[.int .i64 (numR base digits (toL s)), .bool (numOk base digits (toL s))]) ∧ w = w' := by
  unfold maxLen at hs
  have HF := Lib.hid hF
  clear hF
  by_cases hlen : 1 ≤ s.size ∧ (s.size : Int) ≤ digits
  · obtain ⟨hl1, hl2⟩ := hlen
    go_enter Tryd.func42, Tryd.ntmps42
    go_wp2_with fail
    go_loop [8, 9] (fun n i => ∃ k : Nat, k ≤ s.size ∧ i = .int .i64 k ∧ n = .int .i64 (numV base ((toL s).take k) : Nat) ∧ Hid (((toL s).take k).all (fun c => decide (dig c < base)) = true)) (fun _ i => s.size - (intOf i).toNat)
    case atStart => exact ⟨0, Nat.zero_le _, rfl, rfl, Lib.hid rfl⟩
    case round =>
      obtain ⟨k, hk, rfl, rfl, ha⟩ := hrel
      by_cases hlt : k < s.size
      · have hki : (k : Int) < (s.size : Int) := by omega
        have HT := Lib.hid (toL_take_succ s k hlt)
        have HG := Lib.hid (toL_get s k hlt)
        obtain ⟨hb1, hb2⟩ := HF.out.bound (l := (toL s).take k) (by rw [List.length_take, toL_length]; omega) ha.out
        have hd := dig_at s[k]
        have hdl := dig_le s[k]
        have hub : (s[k].toNat : Int) ≤ 255 := by have := s[k].toNat_lt; omega
        have HN : Hid (numV base ((toL s).take (k + 1)) = base * numV base ((toL s).take k) + dig s[k]) := Lib.hid (by rw [HT.out, numV_snoc])
        generalize numV base ((toL s).take k) = n at *
        have hp0 : 0 ≤ (base : Int) * (n : Int) := by omega
        have hp1 : (base : Int) * (n : Int) ≤ 1152921504606846976 := by
          have : ((base * n : Nat) : Int) ≤ 1152921504606846976 := by omega
          rwa [Int.natCast_mul] at this
        clear hb1
        by_cases hdb : dig s[k] < base
        · have HA : Hid (((toL s).take (k + 1)).all (fun c => decide (dig c < base)) = true) := Lib.hid (by rw [HT.out, List.all_append, ha.out]; simp [hdb])
          have HN2 : Hid ((numV base ((toL s).take (k + 1)) : Int) = (base : Int) * n + (dig s[k] : Nat)) := Lib.hid (by rw [HN.out]; push_cast; rfl)
          clear HT HG HN ha
          rcases hd with ⟨h1, h2⟩ | ⟨h1, h2, h3⟩ | ⟨h1, h2, h3⟩ | ⟨h1, h2, h3⟩ | ⟨h1, h2, h3⟩ | ⟨h1, h2, h3⟩ | ⟨h1, h2⟩
          · omega
          · have hb : ¬ ((base : Int) ≤ (s[k].toNat : Int) - 48) := by omega
            have HN3 : Hid ((base : Int) * n + ((s[k].toNat : Int) - 48) = (numV base ((toL s).take (k + 1)) : Int)) := Lib.hid (by rw [HN2.out, h3])
            clear HN2 h3 hdl hdb
            go_wp2_with fail
            go_round
            case rel => exact ⟨k + 1, by omega, by go_num, by rw [HN3.out], HA⟩
            case measure => simp [intOf]; omega
          · omega
          · have hb : ¬ ((base : Int) ≤ (s[k].toNat : Int) - 55) := by omega
            have HN3 : Hid ((base : Int) * n + ((s[k].toNat : Int) - 55) = (numV base ((toL s).take (k + 1)) : Int)) := Lib.hid (by rw [HN2.out, h3])
            clear HN2 h3 hdl hdb
            go_wp2_with fail
            go_round
            case rel => exact ⟨k + 1, by omega, by go_num, by rw [HN3.out], HA⟩
            case measure => simp [intOf]; omega
          · omega
          · have hb : ¬ ((base : Int) ≤ (s[k].toNat : Int) - 87) := by omega
            have HN3 : Hid ((base : Int) * n + ((s[k].toNat : Int) - 87) = (numV base ((toL s).take (k + 1)) : Int)) := Lib.hid (by rw [HN2.out, h3])
            clear HN2 h3 hdl hdb
            go_wp2_with fail
            go_round
            case rel => exact ⟨k + 1, by omega, by go_num, by rw [HN3.out], HA⟩
            case measure => simp [intOf]; omega
          · omega
        · have HV2 : Hid (numOk base digits (toL s) = false) := Lib.hid (by
            unfold numOk
            rw [Bool.and_eq_false_iff]
            right
            rw [List.all_eq_false]
            exact ⟨s[k], List.mem_of_getElem? HG.out, by simpa using hdb⟩)
          have HV1 : Hid (numR base digits (toL s) = 0) := Lib.hid (by unfold numR; rw [HV2.out]; rfl)
          clear HT HG HN ha
          rcases hd with ⟨h1, h2⟩ | ⟨h1, h2, h3⟩ | ⟨h1, h2, h3⟩ | ⟨h1, h2, h3⟩ | ⟨h1, h2, h3⟩ | ⟨h1, h2, h3⟩ | ⟨h1, h2⟩
          · have hb : (base : Int) ≤ 99 := by omega
            clear h2 hdl hdb
            go_wp2_with fail
            go_ret2
            exact ⟨ret_num HV1.out.symm HV2.out.symm, rfl⟩
          · have hb : (base : Int) ≤ (s[k].toNat : Int) - 48 := by omega
            clear h3 hdl hdb
            go_wp2_with fail
            go_ret2
            exact ⟨ret_num HV1.out.symm HV2.out.symm, rfl⟩
          · have hb : (base : Int) ≤ 99 := by omega
            clear h3 hdl hdb
            go_wp2_with fail
            go_ret2
            exact ⟨ret_num HV1.out.symm HV2.out.symm, rfl⟩
          · have hb : (base : Int) ≤ (s[k].toNat : Int) - 55 := by omega
            clear h3 hdl hdb
            go_wp2_with fail
            go_ret2
            exact ⟨ret_num HV1.out.symm HV2.out.symm, rfl⟩
          · have hb : (base : Int) ≤ 99 := by omega
            clear h3 hdl hdb
            go_wp2_with fail
            go_ret2
            exact ⟨ret_num HV1.out.symm HV2.out.symm, rfl⟩
          · have hb : (base : Int) ≤ (s[k].toNat : Int) - 87 := by omega
            clear h3 hdl hdb
            go_wp2_with fail
            go_ret2
            exact ⟨ret_num HV1.out.symm HV2.out.symm, rfl⟩
          · have hb : (base : Int) ≤ 99 := by omega
            clear h2 hdl hdb
            go_wp2_with fail
            go_ret2
            exact ⟨ret_num HV1.out.symm HV2.out.symm, rfl⟩
      · have hall : (toL s).take k = toL s := toL_take_all s (by omega)
        have HV2 : Hid (numOk base digits (toL s) = true) := Lib.hid (by
          unfold numOk
          have h := ha.out
          rw [hall] at h
          rw [h, toL_length, decide_eq_true hl2]
          have : (toL s).isEmpty = false := by
            cases hl : toL s with
            | nil => have := toL_length s; rw [hl] at this; simp at this; omega
            | cons => rfl
          rw [this]
          rfl)
        have HV1 : Hid (numR base digits (toL s) = (numV base (toL s) : Int)) := Lib.hid (by unfold numR; rw [HV2.out]; rfl)
        rw [hall]
        clear ha hall
        go_wp2_with fail
        go_ret2
        exact ⟨ret_num HV1.out.symm HV2.out.symm, rfl⟩
  · have HV2 : Hid (numOk base digits (toL s) = false) := Lib.hid (by
      unfold numOk
      rw [toL_length]
      by_cases h0 : s.size = 0
      · rw [List.isEmpty_iff.2 (List.length_eq_zero_iff.1 (by rw [toL_length]; exact h0))]
        rfl
      · rw [decide_eq_false (by omega)]
        simp)
    have HV1 : Hid (numR base digits (toL s) = 0) := Lib.hid (by unfold numR; rw [HV2.out]; rfl)
    have hx : (s.size : Int) < 1 ∨ (1 ≤ (s.size : Int) ∧ digits < (s.size : Int)) := by omega
    clear hlen
    rcases hx with h1 | ⟨h1, h2⟩
    all_goals
      go_enter Tryd.func42, Tryd.ntmps42
      go_wp2_with fail
      go_ret2
      exact ⟨ret_num HV1.out.symm HV2.out.symm, rfl⟩
end Go.Proofs.YtaiipdjibllodaaDoor.RNumber

/- Layer 4, the document's own Hex. -/
namespace Go.Proofs.YtaiipdjibllodaaDoor.RHex
open Go.ChangeShapes Go.WideShapes Go.ChangeAt Go.RowKit LexPure Bytes Ret LexNum RNumber
theorem rhex_any (s : ByteArray) (hs : s.size ≤ maxLen) (digits : Int) (w : World) :
    Calls Tryd.prog 75 #[.string s, .int .i64 digits] w fun e w' => e = .returned (.tuple #[.int .i64 (numR 16 (min digits 15) (toL s)), .bool (numOk 16 (min digits 15) (toL s))]) ∧ w = w' := by
  have HN := Lib.hid (rnumber_any s hs (min digits 15) 16 (.inr ⟨rfl, Int.min_le_right _ _⟩))
  clear hs
  by_cases h : 15 < digits
  · have hm : min digits 15 = 15 := by omega
    rw [hm] at HN ⊢
    go_enter Tryd.func75, Tryd.ntmps75
    go_wp2_with fail
    refine (HN.out _).mono ?_
    rintro e w' ⟨rfl, rfl⟩
    go_wp2_with fail
    go_ret2
    exact ⟨rfl, rfl⟩
  · have hm : min digits 15 = digits := by omega
    rw [hm] at HN ⊢
    go_enter Tryd.func75, Tryd.ntmps75
    go_wp2_with fail
    refine (HN.out _).mono ?_
    rintro e w' ⟨rfl, rfl⟩
    go_wp2_with fail
    go_ret2
    exact ⟨rfl, rfl⟩
end Go.Proofs.YtaiipdjibllodaaDoor.RHex
