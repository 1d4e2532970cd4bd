/- Paths: the normal form is not longer. No program is named. -/
import Derived.Test.YtlhpjinajaociaaDoorPathForm
namespace Go.Proofs.YtlhpjinajaociaaDoor.PathLen
open LexPure Bytes PathPure PathForm
/-- what pieces weigh, a slash each -/
def wt (ps : List (List UInt8)) : Nat := (ps.map (fun p => p.length + 1)).sum
theorem wt_append (a b : List (List UInt8)) : wt (a ++ b) = wt a + wt b := by simp [wt]
theorem wt_cuts : ∀ s : List UInt8, wt (cuts s) = s.length + 1
  | [] => rfl
  | c :: s => by
    have ih := wt_cuts s
    rw [cuts_cons]
    split
    · show 1 + wt (cuts s) = _
      rw [ih]
      simp
      omega
    · cases h : cuts s with
      | nil => exact absurd h (cuts_ne s)
      | cons p ps =>
        rw [h] at ih
        simp [wt] at ih ⊢
        omega
theorem join_wt (k : List (List UInt8)) : (join k).length = wt k := by
  induction k with
  | nil => rfl
  | cons p k ih =>
    show ((47 :: p) ++ join k).length = _
    rw [List.length_append, ih]
    simp [wt]
theorem wt_dropLast (k : List (List UInt8)) : wt k.dropLast ≤ wt k := by
  rcases List.eq_nil_or_concat k with rfl | ⟨l, p, rfl⟩
  · exact Nat.le_refl _
  · simp [wt]
theorem keeps_wt : ∀ (ps G K : List (List UInt8)), keeps G ps = some K → wt K ≤ wt G + wt ps
  | [], G, K, h => by
    simp only [keeps, Option.some.injEq] at h
    subst h
    exact Nat.le_add_right _ _
  | p :: ps, G, K, h => by
    have hw : wt (p :: ps) = p.length + 1 + wt ps := by simp [wt]
    rw [keeps] at h
    split at h
    · have := keeps_wt ps G K h
      omega
    · split at h
      · split at h
        · cases h
        · have := keeps_wt ps _ K h
          have := wt_dropLast G
          omega
      · have := keeps_wt ps _ K h
        rw [wt_append] at this
        have : wt [p] = p.length + 1 := by simp [wt]
        omega
theorem keeps_open {ps G K : List (List UInt8)} (hne : ps ≠ []) (ho : endsOpen ps = true) (h : keeps G ps = some K) : wt K + 1 ≤ wt G + wt ps := by
  rcases List.eq_nil_or_concat ps with rfl | ⟨l, p, rfl⟩
  · exact absurd rfl hne
  · rw [List.concat_eq_append] at *
    rw [keeps_append] at h
    obtain ⟨k, hk, h2⟩ := Option.bind_eq_some_iff.1 h
    have h1 := keeps_wt l G k hk
    rw [wt_append]
    have hp : wt [p] = p.length + 1 := by simp [wt]
    unfold endsOpen at ho
    rw [List.getLastD_eq_getLast?, List.getLast?_append] at ho
    simp only [List.getLast?_singleton, Option.some_or, Option.getD_some, Bool.or_eq_true] at ho
    rw [keeps] at h2
    split at h2
    · simp only [keeps, Option.some.injEq] at h2
      subst h2
      omega
    · split at h2
      · split at h2
        · cases h2
        · simp only [keeps, Option.some.injEq] at h2
          subst h2
          have := wt_dropLast k
          omega
      · rename_i a b
        rcases ho with h | h
        · exact absurd h a
        · exact absurd h b
theorem finish_len {u : List UInt8} {K : List (List UInt8)} (hu : 1 ≤ u.length) (h : keeps [] (cuts u.tail) = some K) : (finish K (cuts u.tail)).length ≤ u.length := by
  have hw := wt_cuts u.tail
  have h1 := keeps_wt _ _ _ h
  have hl : u.tail.length + 1 = u.length := by rw [List.length_tail]; omega
  have h0 : wt [] = 0 := rfl
  unfold finish
  split
  · rename_i hb
    rw [List.length_append, join_wt]
    rw [Bool.or_eq_true] at hb
    rcases hb with hb | hb
    · have : K = [] := List.isEmpty_iff.1 hb
      subst this
      simp [wt]
      omega
    · have := keeps_open (cuts_ne _) hb h
      simp
      omega
  · rw [join_wt]
    omega
theorem normal_len {s t : List UInt8} (he : ∀ u, escapes s = some u → 1 ≤ u.length ∧ u.length ≤ s.length) (h : normal s = some t) : t.length ≤ s.length := by
  unfold normal at h
  split at h
  · cases h
  · rename_i u hu
    split at h
    · cases h
    · rename_i K hK
      injection h with h
      subst h
      have := he u hu
      have := finish_len this.1 hK
      omega
/-- a form's last byte -/
theorem form_last (kept : List (List UInt8)) (tr : Bool) (hf : kept = [] → tr = true) (hc : ∀ p ∈ kept, CleanP p) : ((form kept tr).getLast? == some 47) = tr := by
  unfold form
  cases tr with
  | true => simp
  | false =>
    have hne : kept ≠ [] := fun e => by cases hf e
    obtain ⟨l, p, rfl⟩ : ∃ l p, kept = l ++ [p] := ⟨kept.dropLast, kept.getLast hne, (List.dropLast_concat_getLast hne).symm⟩
    have hp := hc p (by simp)
    have e : join (l ++ [p]) = join l ++ 47 :: p := by simp [join]
    simp only [Bool.false_eq_true, if_false]
    rw [e, List.getLast?_append]
    have hpn : p ≠ [] := fun h => by have := hp.dot; rw [h] at this; exact absurd this (by decide)
    have hl : (47 :: p).getLast? = some (p.getLast hpn) := by
      rw [List.getLast?_eq_some_getLast (by simp), List.getLast_cons hpn]
    rw [hl]
    simp only [Option.some_or]
    rw [beq_eq_false_iff_ne]
    intro h
    injection h with h
    have := hp.no
    unfold noSlash at this
    rw [List.all_eq_true] at this
    have h2 := this _ (List.getLast_mem hpn)
    rw [h] at h2
    exact absurd h2 (by decide)
end Go.Proofs.YtlhpjinajaociaaDoor.PathLen
