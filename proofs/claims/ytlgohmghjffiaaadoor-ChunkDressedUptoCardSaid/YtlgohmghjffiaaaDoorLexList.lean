/- A text's elements. No program is named. -/
import Derived.Test.YtlgohmghjffiaaaDoorLexPure
namespace Go.Proofs.YtlgohmghjffiaaaDoor.LexList
open LexPure Bytes
def noComma (p : List UInt8) : Bool := p.all (fun c => c != 44)
theorem pieces_ne (s : List UInt8) : pieces s ≠ [] := by
  cases s with
  | nil => simp [pieces]
  | cons c s =>
    unfold pieces
    split
    · simp
    · split <;> simp
theorem pieces_plain : ∀ {p : List UInt8}, noComma p = true → pieces p = [p]
  | [], _ => rfl
  | c :: p, h => by
    unfold noComma at h
    rw [List.all_cons, Bool.and_eq_true] at h
    unfold pieces
    rw [if_neg (by simpa using h.1), pieces_plain (p := p) h.2]
theorem pieces_cut : ∀ {p : List UInt8} {r : List UInt8}, noComma p = true → pieces (p ++ 44 :: r) = p :: pieces r
  | [], r, _ => by
    show pieces (44 :: r) = _
    unfold pieces
    rw [if_pos (by decide)]
    cases r <;> rfl
  | c :: p, r, h => by
    unfold noComma at h
    rw [List.all_cons, Bool.and_eq_true] at h
    show pieces (c :: (p ++ 44 :: r)) = _
    rw [pieces, if_neg (by simpa using h.1), pieces_cut (p := p) (r := r) h.2]
/-- one piece's element -/
def one (p : List UInt8) : List (List UInt8) := if (trim p).isEmpty then [] else [trim p]
theorem elements_plain {p : List UInt8} (h : noComma p = true) : elements p = one p := by
  unfold elements one
  rw [pieces_plain h]
  cases ht : (trim p).isEmpty <;> simp [ht]
theorem elements_cut {p r : List UInt8} (h : noComma p = true) : elements (p ++ 44 :: r) = one p ++ elements r := by
  unfold elements one
  rw [pieces_cut h]
  cases ht : (trim p).isEmpty <;> simp [ht]
theorem one_length (p : List UInt8) : (one p).length ≤ 1 := by
  unfold one
  split <;> simp
theorem noComma_snoc {p : List UInt8} {c : UInt8} (h : noComma p = true) (hc : (c == 44) = false) : noComma (p ++ [c]) = true := by
  unfold noComma at *
  rw [List.all_append, h]
  simp only [List.all_cons, List.all_nil, Bool.and_true, Bool.true_and]
  simpa [bne] using hc
/-- elements are trimmed and not empty -/
theorem elements_mem {s e : List UInt8} (h : e ∈ elements s) : e.isEmpty = false ∧ trim e = e := by
  unfold elements at h
  rw [List.mem_filter, List.mem_map] at h
  obtain ⟨⟨p, _, rfl⟩, h2⟩ := h
  exact ⟨by simpa using h2, trim_trim p⟩
theorem trim_noComma {p : List UInt8} (h : noComma p = true) : noComma (trim p) = true := by
  unfold noComma at *
  rw [List.all_eq_true] at *
  intro c hc
  refine h c ?_
  unfold trim at hc
  rw [List.mem_reverse] at hc
  have h1 := (List.dropWhile_suffix (l := (p.dropWhile blankB).reverse) blankB).subset hc
  rw [List.mem_reverse] at h1
  exact (List.dropWhile_suffix (l := p) blankB).subset h1
theorem pieces_noComma : ∀ {s p : List UInt8}, p ∈ pieces s → noComma p = true
  | [], p, h => by
    simp only [pieces, List.mem_singleton] at h
    subst h
    rfl
  | c :: s, p, h => by
    rw [pieces] at h
    by_cases hc : (c == 44) = true
    · rw [if_pos hc, List.mem_cons] at h
      rcases h with rfl | h
      · rfl
      · exact pieces_noComma h
    · rw [if_neg hc] at h
      have hc' : (c == 44) = false := by simpa using hc
      split at h
      · rename_i hp
        exact absurd hp (pieces_ne s)
      · rename_i q qs hp
        rw [List.mem_cons] at h
        rcases h with rfl | h
        · have := pieces_noComma (s := s) (p := q) (by rw [hp]; simp)
          unfold noComma at *
          rw [List.all_cons, this]
          simp [bne, hc']
        · exact pieces_noComma (s := s) (p := p) (by rw [hp]; simp [h])
theorem elements_noComma {s e : List UInt8} (h : e ∈ elements s) : noComma e = true := by
  unfold elements at h
  rw [List.mem_filter, List.mem_map] at h
  obtain ⟨⟨p, hp, rfl⟩, _⟩ := h
  exact trim_noComma (pieces_noComma hp)
end Go.Proofs.YtlgohmghjffiaaaDoor.LexList
