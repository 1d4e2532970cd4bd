/- Layer 8: heads, as lists of bytes. No program is named. -/
import Derived.Test.YtlgohmghjffiaaaDoorFieldsPure
namespace Go.Proofs.YtlgohmghjffiaaaDoor.HeadPure
open LexPure Bytes FieldsPure
structure H8 where
  method : List UInt8
  target : List UInt8
  status : Int
  reason : List UInt8
  minor : Int
  fields : List HField
def zero8 : H8 := ⟨[], [], 0, [], 0, []⟩
def digitB (c : UInt8) : Bool := decide (48 ≤ c.toNat) && decide (c.toNat ≤ 57)
/-- the minor digit and the error of a version -/
def version8 (s : List UInt8) : Int × Int :=
  match s with
  | [h, t, t2, p, sl, a, d, b] => if h = 72 ∧ t = 84 ∧ t2 = 84 ∧ p = 80 ∧ sl = 47 ∧ d = 46 ∧ digitB a = true ∧ digitB b = true then (if a = 49 then ((b.toNat : Int) - 48, 0) else (0, 81)) else (0, 80)
  | _ => (0, 80)
def upB (s : List UInt8) : List UInt8 := s.takeWhile (fun c => c != 32)
def seenB (c : UInt8) : Bool := decide (32 < c.toNat) && decide (c.toNat < 127)
/-- a start line -/
def start8 (l : List UInt8) : H8 × Int :=
  if (upB l).length < l.length ∧ (upB l).length ≤ 16 ∧ token (upB l) = true then
    (let r := l.drop ((upB l).length + 1)
     if (upB r).length < r.length ∧ 0 < (upB r).length ∧ (upB r).all seenB = true then
       (let v := version8 (r.drop ((upB r).length + 1))
        if v.2 = 0 then (⟨upB l, upB r, 0, [], v.1, []⟩, 0) else (zero8, v.2))
     else (zero8, 80))
  else (zero8, 80)
/-- a status line -/
def status8 (l : List UInt8) : H8 × Int :=
  if 12 ≤ l.length ∧ l[8]? = some 32 ∧ numOk 10 3 ((l.drop 9).take 3) = true ∧ 100 ≤ numR 10 3 ((l.drop 9).take 3) ∧ numR 10 3 ((l.drop 9).take 3) < 600 ∧ (l.length = 12 ∨ l[12]? = some 32) ∧ (l.drop 13).all plainB = true then
    (let v := version8 (l.take 8)
     if v.2 = 0 then (⟨[], [], numR 10 3 ((l.drop 9).take 3), l.drop 13, v.1, []⟩, 0) else (zero8, v.2))
  else (zero8, 80)
def nameB (s : List UInt8) : List UInt8 := s.takeWhile (fun c => c != 58)
/-- a field's line -/
def field8 (l : List UInt8) : HField × Int :=
  if (nameB l).length < l.length ∧ token (nameB l) = true ∧ value (trim (l.drop ((nameB l).length + 1))) = true then ((nameB l, trim (l.drop ((nameB l).length + 1))), 0) else (([], []), 70)
/-- what stands at the place -/
inductive Line where
  | whole (k : Nat)
  | bad (e : Int)
  | wait
def scan (most : Nat) (over : Int) : Nat → List UInt8 → Line
  | _, [] => .wait
  | i, c :: s => if c = 10 then .bad 80 else if c = 13 then (match s with
      | [] => .wait
      | d :: _ => if d = 10 then .whole i else .bad 80)
    else if most ≤ i then .bad over else scan most over (i + 1) s
/-- what a reading comes to -/
inductive Res where
  | wait
  | bad (e : Int)
  | done (h : H8) (n : Nat)
def skip8 : List UInt8 → Nat
  | c :: d :: s => if c = 13 ∧ d = 10 then skip8 s + 2 else 0
  | _ => 0
/-- the fields' lines from place a on, m more fields to come at most -/
def fields8 (h : H8) : Nat → List HField → Nat → List UInt8 → Res
  | m, acc, a, s => match scan 512 83 0 s with
    | .wait => .wait
    | .bad e => .bad e
    | .whole k => if k = 0 then .done { h with fields := acc } (a + 2) else
      match m with
      | 0 => .bad 83
      | m + 1 => if (field8 (s.take k)).2 = 0 then fields8 h m (acc ++ [(field8 (s.take k)).1]) (a + k + 2) (s.drop (k + 2)) else .bad 70
/-- from the start line or status line on, at place a -/
def from8 (response : Bool) (a : Nat) (s : List UInt8) : Res :=
  match scan 1100 82 0 s with
  | .wait => .wait
  | .bad e => .bad e
  | .whole k =>
    (let x := if response then status8 (s.take k) else start8 (s.take k)
     if x.2 = 0 then fields8 x.1 32 [] (a + k + 2) (s.drop (k + 2)) else .bad x.2)
def skipOf (response : Bool) (s : List UInt8) : Nat := if response then 0 else skip8 s
def read8 (response : Bool) (s : List UInt8) : Res := from8 response (skipOf response s) (s.drop (skipOf response s))
def resH : Res → H8
  | .done h _ => h
  | _ => zero8
def resN : Res → Nat
  | .done _ n => n
  | _ => 0
def resE : Res → Int
  | .bad e => e
  | _ => 0

/-! ### a line -/
theorem scan_cons (most : Nat) (over : Int) (i : Nat) (c : UInt8) (s : List UInt8) : scan most over i (c :: s) = if c = 10 then .bad 80 else if c = 13 then (match s with
      | [] => .wait
      | d :: _ => if d = 10 then .whole i else .bad 80)
    else if most ≤ i then .bad over else scan most over (i + 1) s := by cases s <;> rfl
theorem scan_append (most : Nat) (over : Int) (t : List UInt8) : ∀ (s : List UInt8) (i : Nat), scan most over i s ≠ .wait → scan most over i (s ++ t) = scan most over i s
  | [], i, h => absurd rfl h
  | c :: s, i, h => by
    rw [scan_cons] at h
    rw [List.cons_append, scan_cons, scan_cons]
    by_cases h1 : c = 10
    · rw [if_pos h1, if_pos h1]
    · rw [if_neg h1] at h
      rw [if_neg h1, if_neg h1]
      by_cases h2 : c = 13
      · rw [if_pos h2] at h
        rw [if_pos h2, if_pos h2]
        cases s with
        | nil => exact absurd rfl h
        | cons d s => rfl
      · rw [if_neg h2] at h
        rw [if_neg h2, if_neg h2]
        by_cases h3 : most ≤ i
        · rw [if_pos h3, if_pos h3]
        · rw [if_neg h3] at h
          rw [if_neg h3, if_neg h3]
          exact scan_append most over t s (i + 1) h
/-- a whole line: no 10 and no 13 in it, then 13 and 10 -/
theorem scan_whole (most : Nat) (over : Int) : ∀ (s : List UInt8) (i k : Nat), scan most over i s = .whole k → ∃ l q, s = l ++ 13 :: 10 :: q ∧ k = i + l.length ∧ (∀ c ∈ l, c ≠ 10 ∧ c ≠ 13) ∧ (l.length = 0 ∨ i + l.length ≤ most)
  | [], i, k, h => by simp [scan] at h
  | c :: s, i, k, h => by
    rw [scan_cons] at h
    by_cases h1 : c = 10
    · rw [if_pos h1] at h; cases h
    · rw [if_neg h1] at h
      by_cases h2 : c = 13
      · rw [if_pos h2] at h
        cases s with
        | nil => cases h
        | cons d s =>
          simp only at h
          by_cases h4 : d = 10
          · rw [if_pos h4] at h
            injection h with h
            exact ⟨[], s, (by rw [h2, h4]; rfl), h.symm, (fun c hc => by cases hc), Or.inl rfl⟩
          · rw [if_neg h4] at h; cases h
      · rw [if_neg h2] at h
        by_cases h3 : most ≤ i
        · rw [if_pos h3] at h; cases h
        · rw [if_neg h3] at h
          obtain ⟨l, q, e1, e2, e3, e4⟩ := scan_whole most over s (i + 1) k h
          refine ⟨c :: l, q, by rw [e1]; rfl, by rw [List.length_cons]; omega, fun x hx => ?_, .inr ?_⟩
          · rcases List.mem_cons.1 hx with rfl | hx
            · exact ⟨h1, h2⟩
            · exact e3 x hx
          · rw [List.length_cons]
            rcases e4 with e4 | e4 <;> omega
theorem scan_line (most : Nat) (over : Int) (q : List UInt8) : ∀ (l : List UInt8) (i : Nat), (∀ c ∈ l, c ≠ 10 ∧ c ≠ 13) → (l.length = 0 ∨ i + l.length ≤ most) → scan most over i (l ++ 13 :: 10 :: q) = .whole (i + l.length)
  | [], i, _, _ => by rw [List.nil_append, scan_cons]; simp
  | c :: l, i, h, hm => by
    have hc := h c List.mem_cons_self
    rw [List.length_cons] at hm
    rw [List.cons_append, scan_cons, if_neg hc.1, if_neg hc.2, if_neg (by omega), scan_line most over q l (i + 1) (fun x hx => h x (List.mem_cons_of_mem _ hx)) (by omega), List.length_cons]
    congr 1
    omega
theorem scan_bad (most : Nat) (over : Int) (ho : over ≠ 0) : ∀ (s : List UInt8) (i : Nat) (e : Int), scan most over i s = .bad e → e ≠ 0
  | [], i, e, h => by simp [scan] at h
  | c :: s, i, e, h => by
    rw [scan_cons] at h
    split at h
    · injection h with h; omega
    · split at h
      · split at h
        · cases h
        · split at h
          · cases h
          · injection h with h; omega
      · split at h
        · injection h with h; omega
        · exact scan_bad most over ho s (i + 1) e h
theorem whole_take {most : Nat} {over : Int} {s : List UInt8} {k : Nat} (h : scan most over 0 s = .whole k) : k + 2 ≤ s.length ∧ (∀ t, (s ++ t).take k = s.take k ∧ (s ++ t).drop (k + 2) = s.drop (k + 2) ++ t) := by
  obtain ⟨l, q, rfl, hk, _⟩ := scan_whole most over s 0 k h
  rw [Nat.zero_add] at hk
  have hl : k + 2 ≤ (l ++ 13 :: 10 :: q).length := by simp; omega
  refine ⟨hl, fun t => ⟨?_, ?_⟩⟩
  · rw [List.take_append_of_le_length (by omega)]
  · rw [List.drop_append_of_le_length hl]

/-! ### what has been told stays so -/
theorem fields_append (h : H8) (t : List UInt8) : ∀ (m : Nat) (acc : List HField) (a : Nat) (s : List UInt8), fields8 h m acc a s ≠ .wait → fields8 h m acc a (s ++ t) = fields8 h m acc a s := by
  intro m
  induction m with
  | zero =>
    intro acc a s hw
    unfold fields8 at hw ⊢
    cases hs : scan 512 83 0 s with
    | wait => rw [hs] at hw; exact absurd rfl hw
    | bad e => rw [scan_append 512 83 t s 0 (by rw [hs]; intro hh; cases hh), hs]
    | whole k => rw [scan_append 512 83 t s 0 (by rw [hs]; intro hh; cases hh), hs]
  | succ m ih =>
    intro acc a s hw
    unfold fields8 at hw ⊢
    cases hs : scan 512 83 0 s with
    | wait => rw [hs] at hw; exact absurd rfl hw
    | bad e => rw [scan_append 512 83 t s 0 (by rw [hs]; intro hh; cases hh), hs]
    | whole k =>
      rw [scan_append 512 83 t s 0 (by rw [hs]; intro hh; cases hh), hs]
      rw [hs] at hw
      obtain ⟨_, h2⟩ := whole_take hs
      obtain ⟨h3, h4⟩ := h2 t
      simp only [h3, h4] at hw ⊢
      by_cases hk : k = 0
      · rw [if_pos hk, if_pos hk]
      · rw [if_neg hk] at hw
        rw [if_neg hk, if_neg hk]
        by_cases hf : (field8 (s.take k)).2 = 0
        · rw [if_pos hf] at hw
          rw [if_pos hf, if_pos hf]
          exact ih _ _ _ hw
        · rw [if_neg hf, if_neg hf]
theorem from_append (r : Bool) (t : List UInt8) (a : Nat) (s : List UInt8) (hw : from8 r a s ≠ .wait) : from8 r a (s ++ t) = from8 r a s := by
  unfold from8 at hw ⊢
  cases hs : scan 1100 82 0 s with
  | wait => rw [hs] at hw; exact absurd rfl hw
  | bad e => rw [scan_append 1100 82 t s 0 (by rw [hs]; intro hh; cases hh), hs]
  | whole k =>
    rw [scan_append 1100 82 t s 0 (by rw [hs]; intro hh; cases hh), hs]
    rw [hs] at hw
    obtain ⟨_, h2⟩ := whole_take hs
    obtain ⟨h3, h4⟩ := h2 t
    simp only [h3, h4] at hw ⊢
    by_cases hx : (if r = true then status8 (s.take k) else start8 (s.take k)).2 = 0
    · rw [if_pos hx] at hw
      rw [if_pos hx, if_pos hx]
      exact fields_append _ t _ _ _ _ hw
    · rw [if_neg hx, if_neg hx]
theorem skip_append (t : List UInt8) : ∀ s : List UInt8, s.drop (skip8 s) ≠ [] → s.drop (skip8 s) ≠ [13] → skip8 (s ++ t) = skip8 s
  | [], h, _ => absurd rfl h
  | [c], _, h2 => by
    have hc : c ≠ 13 := fun e => h2 (by rw [e]; rfl)
    cases t with
    | nil => rfl
    | cons d t =>
      show skip8 (c :: d :: t) = 0
      rw [skip8, if_neg (fun h => hc h.1)]
  | c :: d :: s, h1, h2 => by
    rw [List.cons_append, List.cons_append, skip8, skip8]
    rw [skip8] at h1 h2
    by_cases hc : c = 13 ∧ d = 10
    · rw [if_pos hc] at h1 h2
      rw [if_pos hc, if_pos hc]
      rw [skip_append t s h1 h2]
    · rw [if_neg hc, if_neg hc]
theorem skip_le : ∀ s : List UInt8, skip8 s ≤ s.length
  | [] => Nat.le_refl _
  | [_] => Nat.zero_le _
  | c :: d :: s => by
    rw [skip8]
    split
    · have := skip_le s
      simp
      omega
    · exact Nat.zero_le _
theorem skipOf_le (r : Bool) (s : List UInt8) : skipOf r s ≤ s.length := by
  unfold skipOf
  split
  · exact Nat.zero_le _
  · exact skip_le s
theorem from_some (r : Bool) (a : Nat) (s : List UInt8) (h : from8 r a s ≠ .wait) : s ≠ [] ∧ s ≠ [13] := by
  constructor
  · rintro rfl
    exact h rfl
  · rintro rfl
    exact h rfl
/-- P8.1, P8.2: what has been told stays so -/
theorem read_append (r : Bool) (s t : List UInt8) (h : read8 r s ≠ .wait) : read8 r (s ++ t) = read8 r s := by
  unfold read8 at h ⊢
  obtain ⟨h1, h2⟩ := from_some _ _ _ h
  have hk : skipOf r (s ++ t) = skipOf r s := by
    unfold skipOf at h1 h2 ⊢
    cases r
    · exact skip_append t s h1 h2
    · rfl
  rw [hk, List.drop_append_of_le_length (skipOf_le r s)]
  exact from_append r t _ _ h

/-! ### the bytes that a head has -/
/-- no 10 without a 13 ahead of it, no 13 without a 10 behind it -/
def Clean (p : List UInt8) : Prop := ∀ (i : Nat) (c : UInt8), p[i]? = some c → (c = 10 → ∃ j, i = j + 1 ∧ p[j]? = some 13) ∧ (c = 13 → p[i + 1]? = some 10)
theorem clean_nil : Clean [] := fun i c h => by simp at h
theorem clean_append {p q : List UInt8} (hp : Clean p) (hq : Clean q) : Clean (p ++ q) := fun i c h => by
  by_cases hi : i < p.length
  · rw [List.getElem?_append_left hi] at h
    obtain ⟨h1, h2⟩ := hp i c h
    refine ⟨fun e => ?_, fun e => ?_⟩
    · obtain ⟨j, hj, h3⟩ := h1 e
      exact ⟨j, hj, by rw [List.getElem?_append_left (by omega)]; exact h3⟩
    · have h3 := h2 e
      have h4 := (List.getElem?_eq_some_iff.1 h3).1
      rw [List.getElem?_append_left h4]
      exact h3
  · rw [List.getElem?_append_right (by omega)] at h
    obtain ⟨h1, h2⟩ := hq _ c h
    refine ⟨fun e => ?_, fun e => ?_⟩
    · obtain ⟨j, hj, h3⟩ := h1 e
      exact ⟨p.length + j, by omega, by rw [List.getElem?_append_right (by omega), Nat.add_sub_cancel_left]; exact h3⟩
    · have h3 := h2 e
      rw [List.getElem?_append_right (by omega)]
      rw [show i + 1 - p.length = i - p.length + 1 by omega]
      exact h3
theorem clean_bare {l : List UInt8} (h : ∀ c ∈ l, c ≠ 10 ∧ c ≠ 13) : Clean l := fun i c hc => by
  have hm := List.mem_of_getElem? hc
  exact ⟨fun e => absurd e (h c hm).1, fun e => absurd e (h c hm).2⟩
theorem clean_end : Clean [13, 10] := fun i c h => by
  match i, h with
  | 0, h =>
    have e : (13 : UInt8) = c := by simpa using h
    subst e
    exact ⟨fun e => absurd e (by decide), fun _ => rfl⟩
  | 1, h =>
    have e : (10 : UInt8) = c := by simpa using h
    subst e
    exact ⟨fun _ => ⟨0, rfl, rfl⟩, fun e => absurd e (by decide)⟩
  | i + 2, h => simp at h
theorem clean_line {l : List UInt8} (h : ∀ c ∈ l, c ≠ 10 ∧ c ≠ 13) : Clean (l ++ [13, 10]) := clean_append (clean_bare h) clean_end
theorem fields_done (h : H8) : ∀ (m : Nat) (acc : List HField) (a : Nat) (s : List UInt8) (h' : H8) (n : Nat), fields8 h m acc a s = .done h' n →
    ∃ p q, s = p ++ q ∧ n = a + p.length ∧ 0 < p.length ∧ Clean p ∧ ∀ q', fields8 h m acc a (p ++ q') = .done h' n := by
  intro m
  induction m with
  | zero =>
    intro acc a s h' n hd
    unfold fields8 at hd
    cases hs : scan 512 83 0 s with
    | wait => rw [hs] at hd; cases hd
    | bad e => rw [hs] at hd; cases hd
    | whole k =>
      rw [hs] at hd
      simp only at hd
      obtain ⟨l, q, rfl, hk, hl, hm⟩ := scan_whole 512 83 s 0 k hs
      by_cases h0 : k = 0
      · rw [if_pos h0] at hd
        have hl0 : l = [] := List.eq_nil_of_length_eq_zero (by omega)
        subst hl0
        refine ⟨[13, 10], q, rfl, ?_, by decide, clean_end, fun q' => ?_⟩
        · injection hd with _ e
          rw [← e]
          rfl
        · unfold fields8
          rw [show [13, 10] ++ q' = ([] : List UInt8) ++ 13 :: 10 :: q' from rfl, scan_line 512 83 q' [] 0 (fun c hc => by cases hc) (.inl rfl)]
          exact hd
      · rw [if_neg h0] at hd
        cases hd
  | succ m ih =>
    intro acc a s h' n hd
    unfold fields8 at hd
    cases hs : scan 512 83 0 s with
    | wait => rw [hs] at hd; cases hd
    | bad e => rw [hs] at hd; cases hd
    | whole k =>
      rw [hs] at hd
      simp only at hd
      obtain ⟨l, q, rfl, hk, hl, hm⟩ := scan_whole 512 83 s 0 k hs
      rw [Nat.zero_add] at hk
      by_cases h0 : k = 0
      · rw [if_pos h0] at hd
        have hl0 : l = [] := List.eq_nil_of_length_eq_zero (by omega)
        subst hl0
        refine ⟨[13, 10], q, rfl, ?_, by decide, clean_end, fun q' => ?_⟩
        · injection hd with _ e
          rw [← e]
          rfl
        · unfold fields8
          rw [show [13, 10] ++ q' = ([] : List UInt8) ++ 13 :: 10 :: q' from rfl, scan_line 512 83 q' [] 0 (fun c hc => by cases hc) (.inl rfl)]
          exact hd
      · rw [if_neg h0] at hd
        have e1 : (l ++ 13 :: 10 :: q).take k = l := by rw [hk]; exact List.take_left
        have e2 : (l ++ 13 :: 10 :: q).drop (k + 2) = q := by
          rw [hk, ← List.drop_drop, List.drop_left]
          rfl
        rw [e1, e2] at hd
        by_cases hf : (field8 l).2 = 0
        · rw [if_pos hf] at hd
          obtain ⟨p, q2, rfl, hn, hp, hcl, hall⟩ := ih _ _ _ _ _ hd
          refine ⟨l ++ [13, 10] ++ p, q2, by simp, by simp; omega, by simp; omega, clean_append (clean_line hl) hcl, fun q' => ?_⟩
          unfold fields8
          rw [show l ++ [13, 10] ++ p ++ q' = l ++ 13 :: 10 :: (p ++ q') by simp, scan_line 512 83 (p ++ q') l 0 hl hm]
          simp only [Nat.zero_add]
          rw [← hk, if_neg h0]
          have e3 : (l ++ 13 :: 10 :: (p ++ q')).take k = l := by rw [hk]; exact List.take_left
          have e4 : (l ++ 13 :: 10 :: (p ++ q')).drop (k + 2) = p ++ q' := by
            rw [hk, ← List.drop_drop, List.drop_left]
            rfl
          rw [e3, e4, if_pos hf]
          exact hall q'
        · rw [if_neg hf] at hd
          cases hd
theorem start_nil : (start8 []).2 ≠ 0 := by decide
theorem status_nil : (status8 []).2 ≠ 0 := by decide
theorem from_done (r : Bool) (a : Nat) (s : List UInt8) (h' : H8) (n : Nat) (hd : from8 r a s = .done h' n) :
    ∃ p q, s = p ++ q ∧ n = a + p.length ∧ 2 < p.length ∧ Clean p ∧ ∀ q', from8 r a (p ++ q') = .done h' n := by
  unfold from8 at hd
  cases hs : scan 1100 82 0 s with
  | wait => rw [hs] at hd; cases hd
  | bad e => rw [hs] at hd; cases hd
  | whole k =>
    rw [hs] at hd
    simp only at hd
    obtain ⟨l, q, rfl, hk, hl, hm⟩ := scan_whole 1100 82 s 0 k hs
    rw [Nat.zero_add] at hk
    have e1 : (l ++ 13 :: 10 :: q).take k = l := by rw [hk]; exact List.take_left
    have e2 : (l ++ 13 :: 10 :: q).drop (k + 2) = q := by
      rw [hk, ← List.drop_drop, List.drop_left]
      rfl
    rw [e1, e2] at hd
    by_cases hx : (if r = true then status8 l else start8 l).2 = 0
    · rw [if_pos hx] at hd
      have hl0 : 0 < l.length := by
        cases l with
        | nil =>
          cases r
          · exact absurd hx start_nil
          · exact absurd hx status_nil
        | cons => simp
      obtain ⟨p, q2, rfl, hn, hp, hcl, hall⟩ := fields_done _ _ _ _ _ _ _ hd
      refine ⟨l ++ [13, 10] ++ p, q2, by simp, by simp; omega, by simp; omega, clean_append (clean_line hl) hcl, fun q' => ?_⟩
      unfold from8
      rw [show l ++ [13, 10] ++ p ++ q' = l ++ 13 :: 10 :: (p ++ q') by simp, scan_line 1100 82 (p ++ q') l 0 hl hm]
      simp only [Nat.zero_add]
      have e3 : (l ++ 13 :: 10 :: (p ++ q')).take l.length = l := List.take_left
      have e4 : (l ++ 13 :: 10 :: (p ++ q')).drop (l.length + 2) = p ++ q' := by
        rw [← List.drop_drop, List.drop_left]
        rfl
      rw [e3, e4, if_pos hx, ← hk]
      exact hall q'
    · rw [if_neg hx] at hd
      cases hd
theorem skip_split : ∀ s : List UInt8, ∃ u, s = u ++ s.drop (skip8 s) ∧ u.length = skip8 s ∧ Clean u ∧ skip8 (s.drop (skip8 s)) = 0 ∧ ∀ x, skip8 (u ++ x) = u.length + skip8 x
  | [] => ⟨[], rfl, rfl, clean_nil, rfl, fun x => by simp⟩
  | [c] => ⟨[], rfl, rfl, clean_nil, rfl, fun x => by simp⟩
  | c :: d :: s => by
    by_cases hc : c = 13 ∧ d = 10
    · obtain ⟨u, h1, h2, h3, h4, h5⟩ := skip_split s
      have hk : skip8 (c :: d :: s) = skip8 s + 2 := by rw [skip8, if_pos hc]
      obtain ⟨rfl, rfl⟩ := hc
      refine ⟨13 :: 10 :: u, ?_, ?_, clean_append (p := [13, 10]) clean_end h3, ?_, fun x => ?_⟩
      · rw [hk, List.drop_succ_cons, List.drop_succ_cons, List.cons_append, List.cons_append, ← h1]
      · rw [hk, List.length_cons, List.length_cons, h2]
      · rw [hk, List.drop_succ_cons, List.drop_succ_cons]
        exact h4
      · rw [List.cons_append, List.cons_append, skip8, if_pos ⟨rfl, rfl⟩, h5, List.length_cons, List.length_cons]
        omega
    · have hk : skip8 (c :: d :: s) = 0 := by rw [skip8, if_neg hc]
      exact ⟨[], by rw [hk]; rfl, by rw [hk]; rfl, clean_nil, by rw [hk]; exact hk, fun x => by simp⟩
theorem skip_two {p : List UInt8} (h2 : 2 ≤ p.length) (q q' : List UInt8) (h : skip8 (p ++ q) = 0) : skip8 (p ++ q') = 0 := by
  match p, h2 with
  | c :: d :: p, _ =>
    rw [List.cons_append, List.cons_append, skip8] at h ⊢
    by_cases hc : c = 13 ∧ d = 10
    · rw [if_pos hc] at h; omega
    · rw [if_neg hc]
/-- a head that is taken: its bytes alone make it, and they are clean -/
theorem read_done (r : Bool) (s : List UInt8) (h' : H8) (n : Nat) (hd : read8 r s = .done h' n) :
    ∃ p q, s = p ++ q ∧ n = p.length ∧ 0 < n ∧ Clean p ∧ ∀ q', read8 r (p ++ q') = .done h' n := by
  unfold read8 skipOf at hd
  cases r with
  | true =>
    simp only [if_true, List.drop_zero] at hd
    obtain ⟨p, q, rfl, hn, hp, hc, hall⟩ := from_done _ _ _ _ _ hd
    exact ⟨p, q, rfl, by omega, by omega, hc, fun q' => by unfold read8 skipOf; simpa using hall q'⟩
  | false =>
    simp only [Bool.false_eq_true, if_false] at hd
    obtain ⟨u, h1, h2, h3, h4, h5⟩ := skip_split s
    obtain ⟨p, q, e, hn, hp, hc, hall⟩ := from_done _ _ _ _ _ hd
    rw [e] at h1 h4
    refine ⟨u ++ p, q, by rw [List.append_assoc]; exact h1, by rw [List.length_append]; omega, by omega, clean_append h3 hc, fun q' => ?_⟩
    unfold read8 skipOf
    simp only [Bool.false_eq_true, if_false]
    have e1 : skip8 (u ++ p ++ q') = u.length := by rw [List.append_assoc, h5, skip_two (by omega) q q' h4, Nat.add_zero]
    rw [e1, List.append_assoc, List.drop_left, h2]
    exact hall q'
/-- cut short anywhere it isn't whole -/
theorem read_cut (r : Bool) (s : List UInt8) (h' : H8) (n cut : Nat) (hd : read8 r s = .done h' n) (hc : cut < n) : read8 r (s.take cut) = .wait := by
  cases hw : read8 r (s.take cut) with
  | wait => rfl
  | bad e =>
    have := read_append r (s.take cut) (s.drop cut) (by rw [hw]; intro h; cases h)
    rw [List.take_append_drop, hd, hw] at this
    cases this
  | done h2 n2 =>
    have := read_append r (s.take cut) (s.drop cut) (by rw [hw]; intro h; cases h)
    rw [List.take_append_drop, hd, hw] at this
    injection this with _ e
    obtain ⟨p, q, e1, e2, _⟩ := read_done r _ _ _ hw
    have e3 := congrArg List.length e1
    rw [List.length_take, List.length_append] at e3
    omega
theorem read_front (r : Bool) (s : List UInt8) (h' : H8) (n : Nat) (hd : read8 r s = .done h' n) : n ≤ s.length ∧ 0 < n ∧ read8 r (s.take n) = .done h' n ∧ Clean (s.take n) := by
  obtain ⟨p, q, rfl, hn, h0, hc, hall⟩ := read_done r s h' n hd
  have ht : (p ++ q).take n = p := by rw [hn]; exact List.take_left
  exact ⟨by rw [List.length_append]; omega, h0, by rw [ht]; have := hall []; rwa [List.append_nil] at this, by rw [ht]; exact hc⟩

/-! ### empty lines ahead -/
def shift (d : Nat) : Res → Res
  | .done h n => .done h (n + d)
  | x => x
theorem fields_shift (h : H8) (d : Nat) : ∀ (m : Nat) (acc : List HField) (a : Nat) (s : List UInt8), fields8 h m acc (a + d) s = shift d (fields8 h m acc a s) := by
  intro m
  induction m with
  | zero =>
    intro acc a s
    unfold fields8
    cases scan 512 83 0 s with
    | wait => rfl
    | bad e => rfl
    | whole k =>
      simp only
      split
      · unfold shift; simp only; congr 1; omega
      · rfl
  | succ m ih =>
    intro acc a s
    unfold fields8
    cases scan 512 83 0 s with
    | wait => rfl
    | bad e => rfl
    | whole k =>
      simp only
      split
      · unfold shift; simp only; congr 1; omega
      · split
        · rw [show a + d + k + 2 = a + k + 2 + d by omega]
          exact ih _ _ _
        · rfl
theorem from_shift (r : Bool) (d a : Nat) (s : List UInt8) : from8 r (a + d) s = shift d (from8 r a s) := by
  unfold from8
  cases scan 1100 82 0 s with
  | wait => rfl
  | bad e => rfl
  | whole k =>
    simp only
    by_cases hx : (if r = true then status8 (s.take k) else start8 (s.take k)).2 = 0
    · rw [if_pos hx, if_pos hx, show a + d + k + 2 = a + k + 2 + d by omega]
      exact fields_shift _ _ _ _ _ _
    · rw [if_neg hx, if_neg hx]
      rfl
def emptiesOf (k : Nat) : List UInt8 := (List.replicate k [13, 10]).flatten
theorem ahead_succ (k : Nat) : emptiesOf (k + 1) = 13 :: 10 :: emptiesOf k := by simp [emptiesOf, List.replicate_succ]
theorem ahead_snoc (k : Nat) : emptiesOf (k + 1) = emptiesOf k ++ [13, 10] := by simp [emptiesOf, List.replicate_succ', List.flatten_append]
theorem read_ahead (k : Nat) (s : List UInt8) : read8 false (emptiesOf k ++ s) = shift (2 * k) (read8 false s) := by
  have hk : ∀ k, skip8 (emptiesOf k ++ s) = 2 * k + skip8 s ∧ (emptiesOf k ++ s).drop (2 * k + skip8 s) = s.drop (skip8 s) := by
    intro k
    induction k with
    | zero => simp [emptiesOf]
    | succ k ih =>
      rw [ahead_succ, List.cons_append, List.cons_append, skip8, if_pos ⟨rfl, rfl⟩, ih.1]
      refine ⟨by omega, ?_⟩
      rw [show 2 * (k + 1) + skip8 s = 2 * k + skip8 s + 1 + 1 by omega, List.drop_succ_cons, List.drop_succ_cons]
      exact ih.2
  unfold read8 skipOf
  simp only [Bool.false_eq_true, if_false]
  rw [(hk k).1, (hk k).2, Nat.add_comm]
  exact from_shift _ _ _ _
end Go.Proofs.YtlgohmghjffiaaaDoor.HeadPure
