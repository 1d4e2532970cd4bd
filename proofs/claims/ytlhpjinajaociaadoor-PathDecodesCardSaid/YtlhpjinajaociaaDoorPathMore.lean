/- Paths: what a normal form means, steps in it, what lies under what. No program is named. -/
import Derived.Test.YtlhpjinajaociaaDoorPathForm
namespace Go.Proofs.YtlhpjinajaociaaDoor.PathMore
open LexPure Bytes PathPure PathForm

theorem dec_wr {n : Nat} (h : n < 256) (r : List UInt8) : dec (wr n ++ r) = (dec r).map (UInt8.ofNat n :: ·) := by
  unfold wr
  by_cases hp : plainP n = true
  · rw [if_pos hp]
    have := plain_okc h hp
    show dec (UInt8.ofNat n :: r) = _
    rw [dec_cons, if_neg (by simp [this.2.1])]
  · rw [if_neg hp]
    have hd := hx_dig h
    show dec (37 :: hx (n / 16) :: hx (n % 16) :: r) = _
    rw [dec_cons, if_pos (by decide)]
    simp only [hd.1, hd.2.1, Bool.and_self, if_true, hd.2.2]
/-- undoing plain escapes changes nothing of what is meant -/
theorem dec_esc : ∀ (n : Nat) {s t : List UInt8}, s.length ≤ n → esc s = some t → dec s = dec t ∧ ∃ u, dec s = some u
  | _, [], t, _, h => by
    simp only [esc, Option.some.injEq] at h
    subst h
    exact ⟨rfl, [], rfl⟩
  | 0, c :: s, t, hn, _ => by simp at hn
  | n + 1, c :: s, t, hn, h => by
    rw [esc_cons] at h
    split at h
    · rename_i hc
      split at h
      · rename_i h37
        split at h
        · rename_i a b r
          split at h
          · rename_i hab
            obtain ⟨u, hu, rfl⟩ := Option.map_eq_some_iff.1 h
            obtain ⟨ih, v, hv⟩ := dec_esc n (s := r) (by simp at hn; omega) hu
            have hab2 := hab
            rw [Bool.and_eq_true] at hab2
            rw [dec_wr (two_lt hab2.1 hab2.2), ← ih, dec_cons, if_pos h37]
            simp only [hab, if_true, hv]
            exact ⟨trivial, _, rfl⟩
          · cases h
        · cases h
      · rename_i h37
        obtain ⟨u, hu, rfl⟩ := Option.map_eq_some_iff.1 h
        obtain ⟨ih, v, hv⟩ := dec_esc n (s := s) (by simp at hn; omega) hu
        rw [dec_cons, if_neg h37, dec_cons, if_neg h37, ← ih, hv]
        exact ⟨rfl, _, rfl⟩
    · cases h
/-- an escape in what is escaped once hides no plain byte -/
theorem enc_at {p : List UInt8} (h : Enc p) : ∀ i, p[i]? = some 37 → ∃ n r, n < 256 ∧ plainP n = false ∧ p.drop i = 37 :: hx (n / 16) :: hx (n % 16) :: r := by
  induction h with
  | nil => intro i hi; simp at hi
  | one c r hc h37 _ ih =>
    intro i hi
    cases i with
    | zero => simp at hi; simp [hi] at h37
    | succ i => simp at hi; exact ih i hi
  | tri n r hn hp _ ih =>
    intro i hi
    have hk := hx_okc hn
    match i with
    | 0 => exact ⟨n, r, hn, hp, rfl⟩
    | 1 => simp at hi; simp [hi] at hk
    | 2 => simp at hi; simp [hi] at hk
    | i + 3 => simp at hi; exact ih i hi
/-- a letter -/
def small26 (c : UInt8) : Bool := decide (97 ≤ c.toNat) && decide (c.toNat ≤ 122)
theorem small26_ok {c : UInt8} (h : small26 c = true) : okc c = true ∧ (c == 37) = false ∧ (c == 47) = false ∧ (c == 46) = false := by
  have := all_bytes (p := fun c => !small26 c || (okc c && !(c == 37) && !(c == 47) && !(c == 46))) (by decide +kernel) c
  rw [h] at this
  simp only [Bool.not_true, Bool.false_or, Bool.and_eq_true, Bool.not_eq_true'] at this
  exact ⟨this.1.1.1, this.1.1.2, this.1.2, this.2⟩
theorem letters_enc : ∀ {w : List UInt8}, w.all small26 = true → Enc w ∧ noSlash w = true
  | [], _ => ⟨Enc.nil, rfl⟩
  | c :: w, h => by
    rw [List.all_cons, Bool.and_eq_true] at h
    have hc := small26_ok h.1
    have ih := letters_enc h.2
    refine ⟨Enc.one c w hc.1 hc.2.1 ih.1, ?_⟩
    unfold noSlash
    rw [List.all_cons]
    have := ih.2
    unfold noSlash at this
    rw [this]
    simp [bne, hc.2.2.1]
theorem letters_clean {w : List UInt8} (h : w.all small26 = true) : CleanP (120 :: w) := by
  have hw : (120 :: w).all small26 = true := by rw [List.all_cons, h]; decide
  have := letters_enc hw
  exact ⟨by simp [isDot], by simp [isUp], this.2, this.1⟩
theorem finish_open (kept ps : List (List UInt8)) (h : endsOpen ps = true) : finish kept ps = form kept true := by
  unfold finish form
  rw [h, Bool.or_true]
theorem normal_of {s t : List UInt8} {kept : List (List UInt8)} (h1 : escapes s = some t) (h2 : keeps [] (cuts t.tail) = some kept) : normal s = some (finish kept (cuts t.tail)) := by
  unfold normal
  rw [h1]
  simp only
  rw [h2]
section
variable {kept : List (List UInt8)} {tr : Bool} (hf : kept = [] → tr = true) (hc : ∀ p ∈ kept, CleanP p)
include hf hc
/-- a step that stays -/
theorem step_stay : normal (form kept tr ++ [47, 46]) = some (form kept true) := by
  have h1 := escapes_more hf hc (r := [47, 46]) (u := [47, 46]) (by decide)
  have e : cuts (form kept tr ++ [47, 46]).tail = (kept ++ (if tr then [[]] else [])) ++ [[46]] := cuts_more kept tr hf hc [46]
  have h2 : keeps [] (cuts (form kept tr ++ [47, 46]).tail) = some kept := by
    rw [e, keeps_append, keeps_trail kept tr hc]
    simp [keeps, isDot]
  rw [normal_of h1 h2, finish_open]
  rw [e]
  simp [endsOpen, isDot]
/-- a step into a piece and out again -/
theorem step_out {w : List UInt8} (hw : w.all small26 = true) : normal (form kept tr ++ 47 :: ((120 :: w) ++ [47, 46, 46])) = some (form kept true) := by
  have hx := letters_clean hw
  have he : esc (47 :: ((120 :: w) ++ [47, 46, 46])) = some (47 :: ((120 :: w) ++ [47, 46, 46])) := enc_esc (enc_slash (enc_append hx.enc (enc_slash (Enc.one 46 _ (by decide) (by decide) (Enc.one 46 _ (by decide) (by decide) Enc.nil)))))
  have h1 := escapes_more hf hc he
  have e : cuts (form kept tr ++ 47 :: ((120 :: w) ++ [47, 46, 46])).tail = (kept ++ (if tr then [[]] else [])) ++ [120 :: w, [46, 46]] := by
    rw [cuts_more kept tr hf hc, cuts_cut hx.no]
    rfl
  have h2 : keeps [] (cuts (form kept tr ++ 47 :: ((120 :: w) ++ [47, 46, 46])).tail) = some kept := by
    rw [e, keeps_append, keeps_trail kept tr hc]
    show keeps kept [120 :: w, [46, 46]] = _
    rw [keeps, if_neg (by simp [hx.dot]), if_neg (by simp [hx.up]), keeps, if_neg (by decide), if_pos (by decide)]
    simp [keeps]
  rw [normal_of h1 h2, finish_open]
  rw [e]
  simp [endsOpen, isUp]
/-- a slash, a step that stays, and a piece -/
theorem step_in {w : List UInt8} (hw : w.all small26 = true) : normal (form kept tr ++ ([47, 47, 37, 50, 101, 47, 120] ++ w)) = some (form kept true ++ 120 :: w) := by
  have hx := letters_clean hw
  have he0 : esc [47, 47, 37, 50, 101] = some [47, 47, 46] := by decide
  have he1 := esc_append _ (47 :: 120 :: w) (Nat.le_refl _) he0
  rw [enc_esc (enc_slash hx.enc)] at he1
  have he : esc ([47, 47, 37, 50, 101, 47, 120] ++ w) = some (47 :: [47, 46, 47, 120] ++ w) := he1
  have h1 := escapes_more hf hc he
  have ez : form kept tr ++ (47 :: [47, 46, 47, 120] ++ w) = form kept tr ++ 47 :: ([47, 46] ++ 47 :: (120 :: w)) := rfl
  rw [ez] at h1
  have e : cuts (form kept tr ++ 47 :: ([47, 46] ++ 47 :: (120 :: w))).tail = (kept ++ (if tr then [[]] else [])) ++ [[], [46], 120 :: w] := by
    rw [cuts_more kept tr hf hc, cuts_append, cuts_plain (p := 120 :: w) hx.no]
    rfl
  have h2 : keeps [] (cuts (form kept tr ++ 47 :: ([47, 46] ++ 47 :: (120 :: w))).tail) = some (kept ++ [120 :: w]) := by
    rw [e, keeps_append, keeps_trail kept tr hc]
    show keeps kept [[], [46], 120 :: w] = _
    rw [keeps, if_pos (by decide), keeps, if_pos (by decide), keeps, if_neg (by simp [hx.dot]), if_neg (by simp [hx.up]), keeps]
  rw [normal_of h1 h2]
  congr 1
  rw [e]
  have he : endsOpen (kept ++ (if tr then [[]] else []) ++ [[], [46], 120 :: w]) = false := by
    have hl : (kept ++ (if tr then [[]] else []) ++ [[], [46], 120 :: w]).getLastD [] = 120 :: w := by
      rw [List.getLastD_eq_getLast?]
      simp
    unfold endsOpen
    rw [hl, hx.dot, hx.up]
    rfl
  unfold finish form
  rw [he]
  simp [join]
end
/-! ### what lies under what -/
theorem under_self (p : List UInt8) : under p p = true := by simp [under]
theorem under_trans {a b c : List UInt8} (h1 : under a b = true) (h2 : under b c = true) : under a c = true := by
  unfold under at *
  simp only [Bool.and_eq_true, Bool.or_eq_true, beq_iff_eq] at *
  obtain ⟨e1, k1⟩ := h1
  obtain ⟨e2, k2⟩ := h2
  have hl1 : b.length ≤ a.length := by
    have := congrArg List.length e1
    rw [List.length_take] at this
    omega
  have hl2 : c.length ≤ b.length := by
    have := congrArg List.length e2
    rw [List.length_take] at this
    omega
  have e3 : a.take c.length = c := by
    rw [← e1, List.take_take, Nat.min_eq_left hl2] at e2
    exact e2
  refine ⟨e3, ?_⟩
  rcases k2 with (k2 | k2) | k2
  · have : b = c := by rw [← e2, List.take_of_length_le (by omega)]
    rw [← this]
    exact k1
  · have hlt : c.length < b.length := by
      rcases Nat.lt_or_ge c.length b.length with h | h
      · exact h
      · rw [List.getElem?_eq_none h] at k2
        cases k2
    refine .inl (.inr ?_)
    rw [← e1, List.getElem?_take, if_pos hlt] at k2
    exact k2
  · exact .inr k2
end Go.Proofs.YtlhpjinajaociaaDoor.PathMore
