/- Elements joined again. No program is named. -/
import Derived.Test.YtgkmkkgneipabaaDoorLexList
namespace Go.Proofs.YtgkmkkgneipabaaDoor.LexFlat
open LexPure Bytes LexList
/-- one element, dressed -/
def dress (e : List UInt8) : List UInt8 := [32, 44] ++ e ++ [9, 44]
def flat (G : List (List UInt8)) : List UInt8 := G.flatMap dress
theorem flat_snoc (G : List (List UInt8)) (e : List UInt8) : flat (G ++ [e]) = flat G ++ dress e := by simp [flat]
theorem trim_blank {e : List UInt8} (h : trim e = e) (hne : e.isEmpty = false) : trim (e ++ [9]) = e := by
  have h1 : ∀ c r, e = c :: r → blankB c = false := fun c r he => trim_head (s := e) c r (by rw [h]; exact he)
  have h2 : ∀ c r, e.reverse = c :: r → blankB c = false := fun c r he => trim_last (s := e) c r (by rw [h]; exact he)
  unfold trim
  have e1 : (e ++ [9]).dropWhile blankB = e ++ [9] := dropWhile_id (fun c r he => by
    cases e with
    | nil => simp at hne
    | cons d t => simp only [List.cons_append, List.cons.injEq] at he; rw [← he.1]; exact h1 d t rfl)
  rw [e1, List.reverse_append, List.reverse_singleton, List.singleton_append, List.dropWhile_cons, if_pos (by decide), dropWhile_id h2, List.reverse_reverse]
theorem elements_dress {e r : List UInt8} (h : trim e = e) (hne : e.isEmpty = false) (hc : noComma e = true) : elements (dress e ++ r) = e :: elements r := by
  have e1 : dress e ++ r = [32] ++ 44 :: ((e ++ [9]) ++ 44 :: r) := by simp [dress]
  have hc2 : noComma (e ++ [9]) = true := noComma_snoc hc (by decide)
  rw [e1, elements_cut (p := [32]) (by decide), elements_cut hc2]
  have o1 : one [32] = [] := by decide
  have o2 : one (e ++ [9]) = [e] := by unfold one; rw [trim_blank h hne, hne]; rfl
  rw [o1, o2]
  rfl
theorem elements_flat : ∀ {G : List (List UInt8)}, (∀ e ∈ G, e.isEmpty = false ∧ trim e = e ∧ noComma e = true) → elements (flat G) = G
  | [], _ => by decide
  | e :: G, h => by
    have h0 := h e (by simp)
    show elements (dress e ++ flat G) = _
    rw [elements_dress h0.2.1 h0.1 h0.2.2, elements_flat (fun x hx => h x (by simp [hx]))]
theorem pieces_count : ∀ s : List UInt8, (pieces s).length ≤ s.length + 1
  | [] => by simp [pieces]
  | c :: s => by
    have := pieces_count s
    rw [pieces]
    split
    · simp; omega
    · split
      · simp
      · rename_i p ps hp
        rw [hp] at this
        simp at this ⊢
        omega
theorem pieces_short : ∀ {s p : List UInt8}, p ∈ pieces s → p.length ≤ s.length
  | [], p, h => by
    simp only [pieces, List.mem_singleton] at h
    subst h
    simp
  | c :: s, p, h => by
    rw [pieces] at h
    split at h
    · rw [List.mem_cons] at h
      rcases h with rfl | h
      · simp
      · have := pieces_short h
        simp
        omega
    · split at h
      · rw [List.mem_singleton] at h
        subst h
        simp
      · rename_i q qs hp
        rw [List.mem_cons] at h
        rcases h with rfl | h
        · have := pieces_short (s := s) (p := q) (by rw [hp]; simp)
          simp
          omega
        · have := pieces_short (s := s) (p := p) (by rw [hp]; simp [h])
          simp
          omega
theorem elements_count (s : List UInt8) : (elements s).length ≤ s.length + 1 := by
  have h1 := List.length_filter_le (fun e : List UInt8 => !e.isEmpty) ((pieces s).map trim)
  rw [List.length_map] at h1
  have := pieces_count s
  unfold elements
  omega
theorem elements_short {s e : List UInt8} (h : e ∈ elements s) : e.length ≤ s.length := by
  unfold elements at h
  rw [List.mem_filter, List.mem_map] at h
  obtain ⟨⟨p, hp, rfl⟩, _⟩ := h
  have h1 := trim_length p
  have h2 := pieces_short hp
  omega
theorem flat_length {n : Nat} : ∀ {G : List (List UInt8)}, (∀ e ∈ G, e.length ≤ n) → (flat G).length ≤ G.length * (n + 4)
  | [], _ => by simp [flat]
  | e :: G, h => by
    have h0 := h e (by simp)
    have h1 := flat_length (G := G) (fun x hx => h x (by simp [hx]))
    show (dress e ++ flat G).length ≤ _
    rw [List.length_append, List.length_cons, Nat.add_mul, Nat.one_mul]
    have : (dress e).length = e.length + 4 := by simp [dress]
    omega
theorem pieces_total : ∀ s : List UInt8, (pieces s).flatten.length ≤ s.length
  | [] => by simp [pieces]
  | c :: s => by
    have := pieces_total s
    rw [pieces]
    split
    · simp at this ⊢; omega
    · split
      · simp
      · rename_i p ps hp
        rw [hp] at this
        simp at this ⊢
        omega
theorem flat_total : ∀ L : List (List UInt8), (flat ((L.map trim).filter (fun e => !e.isEmpty))).length ≤ L.flatten.length + 4 * L.length
  | [] => by simp [flat]
  | p :: L => by
    have ih := flat_total L
    have ht := trim_length p
    rw [List.map_cons, List.filter_cons]
    split
    · show (dress (trim p) ++ flat _).length ≤ _
      rw [List.length_append]
      have : (dress (trim p)).length = (trim p).length + 4 := by simp [dress]
      simp only [List.flatten_cons, List.length_append, List.length_cons]
      omega
    · simp only [List.flatten_cons, List.length_append, List.length_cons]
      omega
theorem elements_total (s : List UInt8) : (flat (elements s)).length ≤ 5 * s.length + 4 := by
  have h1 := flat_total (pieces s)
  have h2 := pieces_total s
  have h3 := pieces_count s
  unfold elements
  omega
theorem flat_take (G : List (List UInt8)) (k : Nat) : (flat (G.take k)).length ≤ (flat G).length := by
  have h : flat G = flat (G.take k) ++ flat (G.drop k) := by
    unfold flat
    rw [← List.flatMap_append, List.take_append_drop]
  rw [h, List.length_append]
  omega
end Go.Proofs.YtgkmkkgneipabaaDoor.LexFlat
