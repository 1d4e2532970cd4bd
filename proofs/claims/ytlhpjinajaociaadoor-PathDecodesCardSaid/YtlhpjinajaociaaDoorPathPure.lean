/- Paths: escapes, pieces, the normal form. No program is named. -/
import Derived.Test.YtlhpjinajaociaaDoorLexPure
namespace Go.Proofs.YtlhpjinajaociaaDoor.PathPure
open LexPure Bytes

/-- a plain byte -/
def plainP (n : Nat) : Bool := n == 45 || n == 46 || n == 95 || n == 126 || (decide (48 ≤ n) && decide (n ≤ 57)) || (decide (65 ≤ n) && decide (n ≤ 90)) || (decide (97 ≤ n) && decide (n ≤ 122))
/-- a byte that a path may have, but for the sign of an escape -/
def okc (c : UInt8) : Bool := decide (33 ≤ c.toNat) && decide (c.toNat ≤ 126) && c != 63 && c != 35
/-- a large digit -/
def hx (n : Nat) : UInt8 := UInt8.ofNat (if n < 10 then 48 + n else 55 + n)
/-- how a byte that was escaped is written -/
def wr (n : Nat) : List UInt8 := if plainP n then [UInt8.ofNat n] else [37, hx (n / 16), hx (n % 16)]
def two (a b : UInt8) : Nat := 16 * dig a + dig b
def isHex (c : UInt8) : Bool := decide (dig c < 16)
/-- plain escapes undone, the others in large digits -/
def esc : List UInt8 → Option (List UInt8)
  | [] => some []
  | c :: s => if okc c then
      if c == 37 then match s with
        | a :: b :: r => if isHex a && isHex b then (esc r).map (wr (two a b) ++ ·) else none
        | _ => none
      else (esc s).map (c :: ·)
    else none
def escapes : List UInt8 → Option (List UInt8)
  | [] => none
  | c :: s => if c == 47 then esc (c :: s) else none
/-- the pieces between slashes -/
def cuts : List UInt8 → List (List UInt8)
  | [] => [[]]
  | c :: s => if c == 47 then [] :: cuts s else match cuts s with
    | [] => [[c]]
    | p :: ps => (c :: p) :: ps
def isDot (p : List UInt8) : Bool := p.isEmpty || p == [46]
def isUp (p : List UInt8) : Bool := p == [46, 46]
/-- the pieces that are kept -/
def keeps : List (List UInt8) → List (List UInt8) → Option (List (List UInt8))
  | kept, [] => some kept
  | kept, p :: ps => if isDot p then keeps kept ps else if isUp p then (if kept.isEmpty then none else keeps kept.dropLast ps) else keeps (kept ++ [p]) ps
def join (kept : List (List UInt8)) : List UInt8 := kept.flatMap (fun p => 47 :: p)
def endsOpen (ps : List (List UInt8)) : Bool := isDot (ps.getLastD []) || isUp (ps.getLastD [])
def finish (kept : List (List UInt8)) (ps : List (List UInt8)) : List UInt8 := if kept.isEmpty || endsOpen ps then join kept ++ [47] else join kept
def normal (s : List UInt8) : Option (List UInt8) :=
  match escapes s with
  | none => none
  | some t => match keeps [] (cuts t.tail) with
    | none => none
    | some kept => some (finish kept (cuts t.tail))
/-- escapes undone -/
def dec : List UInt8 → Option (List UInt8)
  | [] => some []
  | c :: s => if c == 37 then match s with
      | a :: b :: r => if isHex a && isHex b then (dec r).map (UInt8.ofNat (two a b) :: ·) else none
      | _ => none
    else (dec s).map (c :: ·)
def under (p q : List UInt8) : Bool := p.take q.length == q && (p.length == q.length || p[q.length]? == some 47 || q.getLast? == some 47)

theorem esc_cons (c : UInt8) (s : List UInt8) : esc (c :: s) = if okc c then
      if c == 37 then (match s with
        | a :: b :: r => if isHex a && isHex b then (esc r).map (wr (two a b) ++ ·) else none
        | _ => none)
      else (esc s).map (c :: ·)
    else none := by rw [esc.eq_def]
theorem dec_cons (c : UInt8) (s : List UInt8) : dec (c :: s) = if c == 37 then (match s with
      | a :: b :: r => if isHex a && isHex b then (dec r).map (UInt8.ofNat (two a b) :: ·) else none
      | _ => none)
    else (dec s).map (c :: ·) := by rw [dec.eq_def]
theorem cuts_cons (c : UInt8) (s : List UInt8) : cuts (c :: s) = if c == 47 then [] :: cuts s else (match cuts s with
    | [] => [[c]]
    | p :: ps => (c :: p) :: ps) := by rw [cuts.eq_def]
/-! ### what is escaped once -/
/-- a text in which every byte that need not be escaped isn't -/
inductive Enc : List UInt8 → Prop
  | nil : Enc []
  | one (c : UInt8) (r : List UInt8) : okc c = true → (c == 37) = false → Enc r → Enc (c :: r)
  | tri (n : Nat) (r : List UInt8) : n < 256 → plainP n = false → Enc r → Enc (37 :: hx (n / 16) :: hx (n % 16) :: r)
theorem all_below {p : Nat → Bool} (h : (List.range 256).all p = true) {n : Nat} (hn : n < 256) : p n = true := List.all_eq_true.1 h n (List.mem_range.2 hn)
theorem two_lt {a b : UInt8} (ha : isHex a = true) (hb : isHex b = true) : two a b < 256 := by
  unfold isHex at ha hb
  simp only [decide_eq_true_eq] at ha hb
  unfold two
  omega
theorem hx_dig {n : Nat} (h : n < 256) : isHex (hx (n / 16)) = true ∧ isHex (hx (n % 16)) = true ∧ two (hx (n / 16)) (hx (n % 16)) = n := by
  have := all_below (p := fun n => isHex (hx (n / 16)) && isHex (hx (n % 16)) && two (hx (n / 16)) (hx (n % 16)) == n) (by decide +kernel) h
  simpa [and_assoc] using this
theorem hx_okc {n : Nat} (h : n < 256) : okc (hx (n / 16)) = true ∧ okc (hx (n % 16)) = true ∧ (hx (n / 16) == 37) = false ∧ (hx (n % 16) == 37) = false ∧ (hx (n / 16) == 47) = false ∧ (hx (n % 16) == 47) = false := by
  have := all_below (p := fun n => okc (hx (n / 16)) && okc (hx (n % 16)) && !(hx (n / 16) == 37) && !(hx (n % 16) == 37) && !(hx (n / 16) == 47) && !(hx (n % 16) == 47)) (by decide +kernel) h
  simp only [Bool.and_eq_true, Bool.not_eq_true'] at this
  exact ⟨this.1.1.1.1.1, this.1.1.1.1.2, this.1.1.1.2, this.1.1.2, this.1.2, this.2⟩
theorem plain_okc {n : Nat} (h : n < 256) (hp : plainP n = true) : okc (UInt8.ofNat n) = true ∧ (UInt8.ofNat n == 37) = false ∧ (UInt8.ofNat n == 47) = false := by
  have := all_below (p := fun n => !plainP n || (okc (UInt8.ofNat n) && !(UInt8.ofNat n == 37) && !(UInt8.ofNat n == 47))) (by decide +kernel) h
  rw [hp] at this
  simp only [Bool.not_true, Bool.false_or, Bool.and_eq_true, Bool.not_eq_true'] at this
  exact ⟨this.1.1, this.1.2, this.2⟩
theorem enc_wr {n : Nat} (h : n < 256) {r : List UInt8} (hr : Enc r) : Enc (wr n ++ r) := by
  unfold wr
  by_cases hp : plainP n = true
  · rw [if_pos hp]
    have := plain_okc h hp
    exact Enc.one _ _ this.1 this.2.1 hr
  · rw [if_neg hp]
    exact Enc.tri n r h (by simpa using hp) hr
/-- what comes out of escapes is escaped once -/
theorem esc_enc : ∀ (n : Nat) {s t : List UInt8}, s.length ≤ n → esc s = some t → Enc t
  | _, [], t, _, h => by
    simp only [esc, Option.some.injEq] at h
    subst h
    exact Enc.nil
  | 0, c :: s, t, hn, _ => by simp at hn
  | n + 1, c :: s, t, hn, h => by
    rw [esc_cons] at h
    split at h
    · rename_i hc
      split at h
      · split at h
        · rename_i a b r
          split at h
          · rename_i hab
            rw [Bool.and_eq_true] at hab
            obtain ⟨u, hu, rfl⟩ := Option.map_eq_some_iff.1 h
            exact enc_wr (two_lt hab.1 hab.2) (esc_enc n (by simp at hn; omega) hu)
          · cases h
        · cases h
      · rename_i h37
        obtain ⟨u, hu, rfl⟩ := Option.map_eq_some_iff.1 h
        exact Enc.one _ _ hc (by simpa using h37) (esc_enc n (by simp at hn; omega) hu)
    · cases h
theorem enc_esc {t : List UInt8} (h : Enc t) : esc t = some t := by
  induction h with
  | nil => rfl
  | one c r hc h37 _ ih => rw [esc_cons, if_pos hc, if_neg (by simp [h37]), ih]; rfl
  | tri n r hn hp _ ih =>
    have hd := hx_dig hn
    have h37 : okc 37 = true := by decide
    rw [esc_cons, if_pos h37, if_pos (by decide)]
    simp only [hd.1, hd.2.1, Bool.and_self, if_true, hd.2.2, ih]
    unfold wr
    rw [hp]
    rfl
theorem esc_append : ∀ (n : Nat) {s t : List UInt8} (r : List UInt8), s.length ≤ n → esc s = some t → esc (s ++ r) = (esc r).map (t ++ ·)
  | _, [], t, r, _, h => by
    simp only [esc, Option.some.injEq] at h
    subst h
    simp
  | 0, c :: s, t, r, hn, _ => by simp at hn
  | n + 1, c :: s, t, r, hn, h => by
    rw [esc_cons] at h
    split at h
    · rename_i hc
      split at h
      · rename_i h37
        split at h
        · rename_i a b q
          split at h
          · rename_i hab
            obtain ⟨u, hu, rfl⟩ := Option.map_eq_some_iff.1 h
            have ih := esc_append n r (s := q) (by simp at hn; omega) hu
            show esc (c :: a :: b :: (q ++ r)) = _
            rw [esc_cons, if_pos hc, if_pos h37]
            simp only [hab, if_true, ih, Option.map_map]
            congr 1
            funext x
            simp
          · cases h
        · cases h
      · rename_i h37
        obtain ⟨u, hu, rfl⟩ := Option.map_eq_some_iff.1 h
        have ih := esc_append n r (s := s) (by simp at hn; omega) hu
        show esc (c :: (s ++ r)) = _
        rw [esc_cons, if_pos hc, if_neg h37, ih, Option.map_map]
        congr 1
    · cases h
theorem enc_append {s t : List UInt8} (hs : Enc s) (ht : Enc t) : Enc (s ++ t) := by
  induction hs with
  | nil => exact ht
  | one c r hc h37 _ ih => exact Enc.one c _ hc h37 ih
  | tri n r hn hp _ ih => exact Enc.tri n _ hn hp ih

/-! ### pieces -/
theorem cuts_ne (s : List UInt8) : cuts s ≠ [] := by
  cases s with
  | nil => simp [cuts]
  | cons c s =>
    rw [cuts_cons]
    split
    · simp
    · split <;> simp
def noSlash (p : List UInt8) : Bool := p.all (fun c => c != 47)
theorem cuts_plain : ∀ {p : List UInt8}, noSlash p = true → cuts p = [p]
  | [], _ => rfl
  | c :: p, h => by
    unfold noSlash at h
    rw [List.all_cons, Bool.and_eq_true] at h
    rw [cuts_cons, if_neg (by simpa using h.1), cuts_plain (p := p) h.2]
theorem cuts_cut : ∀ {p : List UInt8} {r : List UInt8}, noSlash p = true → cuts (p ++ 47 :: r) = p :: cuts r
  | [], r, _ => by
    show cuts (47 :: r) = _
    rw [cuts_cons, if_pos (by decide)]
  | c :: p, r, h => by
    unfold noSlash at h
    rw [List.all_cons, Bool.and_eq_true] at h
    show cuts (c :: (p ++ 47 :: r)) = _
    rw [cuts_cons, if_neg (by simpa using h.1), cuts_cut (p := p) (r := r) h.2]
/-- what stands ahead doesn't hang on what stands behind a slash -/
theorem cuts_append : ∀ (s r : List UInt8), cuts (s ++ 47 :: r) = cuts s ++ cuts r
  | [], r => by
    show cuts (47 :: r) = _
    rw [cuts_cons, if_pos (by decide)]
    rfl
  | c :: s, r => by
    have ih := cuts_append s r
    show cuts (c :: (s ++ 47 :: r)) = cuts (c :: s) ++ cuts r
    rw [cuts_cons, cuts_cons]
    split
    · rw [ih]; rfl
    · rw [ih]
      cases h : cuts s with
      | nil => exact absurd h (cuts_ne s)
      | cons p ps => rfl
theorem cuts_noSlash : ∀ {s p : List UInt8}, p ∈ cuts s → noSlash p = true
  | [], p, h => by
    simp only [cuts, List.mem_singleton] at h
    subst h
    rfl
  | c :: s, p, h => by
    rw [cuts_cons] at h
    by_cases hc : (c == 47) = true
    · rw [if_pos hc, List.mem_cons] at h
      rcases h with rfl | h
      · rfl
      · exact cuts_noSlash h
    · rw [if_neg hc] at h
      have hc' : (c == 47) = false := by simpa using hc
      split at h
      · rename_i hp
        exact absurd hp (cuts_ne s)
      · rename_i q qs hp
        rw [List.mem_cons] at h
        rcases h with rfl | h
        · have := cuts_noSlash (s := s) (p := q) (by rw [hp]; simp)
          unfold noSlash at *
          rw [List.all_cons, this]
          simp [bne, hc']
        · exact cuts_noSlash (s := s) (p := p) (by rw [hp]; simp [h])
theorem cuts_enc {t : List UInt8} (h : Enc t) : ∀ p ∈ cuts t, Enc p := by
  induction h with
  | nil =>
    intro p hp
    simp only [cuts, List.mem_singleton] at hp
    subst hp
    exact Enc.nil
  | one c r hc h37 _ ih =>
    intro p hp
    rw [cuts_cons] at hp
    split at hp
    · rw [List.mem_cons] at hp
      rcases hp with rfl | hp
      · exact Enc.nil
      · exact ih p hp
    · split at hp
      · rename_i hq
        exact absurd hq (cuts_ne r)
      · rename_i q qs hq
        rw [List.mem_cons] at hp
        rcases hp with rfl | hp
        · exact Enc.one c q hc h37 (ih q (by rw [hq]; simp))
        · exact ih p (by rw [hq]; simp [hp])
  | tri n r hn hp _ ih =>
    intro p hm
    have hk := hx_okc hn
    obtain ⟨q, qs, hq⟩ : ∃ q qs, cuts r = q :: qs := by
      cases h : cuts r with
      | nil => exact absurd h (cuts_ne r)
      | cons q qs => exact ⟨q, qs, rfl⟩
    have e : cuts (37 :: hx (n / 16) :: hx (n % 16) :: r) = (37 :: hx (n / 16) :: hx (n % 16) :: q) :: qs := by
      rw [cuts_cons, if_neg (by decide), cuts_cons, if_neg (by simp [hk.2.2.2.2.1]), cuts_cons, if_neg (by simp [hk.2.2.2.2.2]), hq]
    rw [e, List.mem_cons] at hm
    rcases hm with rfl | hm
    · exact Enc.tri n q hn hp (ih q (by rw [hq]; simp))
    · exact ih p (by rw [hq]; simp [hm])
end Go.Proofs.YtlhpjinajaociaaDoor.PathPure
