/- The normal form of a path: it is its own, and how it goes on. No program is named. -/
import Derived.Test.YtlhpjinajaociaaDoorPathPure
namespace Go.Proofs.YtlhpjinajaociaaDoor.PathForm
open LexPure Bytes PathPure

/-- a piece that may be kept -/
structure CleanP (p : List UInt8) : Prop where
  dot : isDot p = false
  up : isUp p = false
  no : noSlash p = true
  enc : Enc p
/-- the text of kept pieces, with a slash behind or not -/
def form (kept : List (List UInt8)) (tr : Bool) : List UInt8 := if tr then join kept ++ [47] else join kept
theorem keeps_append : ∀ (ps qs kept : List (List UInt8)), keeps kept (ps ++ qs) = (keeps kept ps).bind (fun k => keeps k qs)
  | [], qs, kept => rfl
  | p :: ps, qs, kept => by
    show keeps kept (p :: (ps ++ qs)) = _
    rw [keeps, keeps]
    split
    · exact keeps_append ps qs kept
    · split
      · split
        · rfl
        · exact keeps_append ps qs _
      · exact keeps_append ps qs _
theorem keeps_clean : ∀ (ps kept : List (List UInt8)), (∀ p ∈ ps, CleanP p) → keeps kept ps = some (kept ++ ps)
  | [], kept, _ => by simp [keeps]
  | p :: ps, kept, h => by
    have hp := h p (by simp)
    rw [keeps, if_neg (by simp [hp.dot]), if_neg (by simp [hp.up]), keeps_clean ps _ (fun q hq => h q (by simp [hq]))]
    simp
theorem keeps_kept : ∀ (ps kept out : List (List UInt8)), (∀ p ∈ kept, CleanP p) → (∀ p ∈ ps, Enc p ∧ noSlash p = true) → keeps kept ps = some out → ∀ p ∈ out, CleanP p
  | [], kept, out, hk, _, h => by
    simp only [keeps, Option.some.injEq] at h
    subst h
    exact hk
  | p :: ps, kept, out, hk, hp, h => by
    have hps : ∀ q ∈ ps, Enc q ∧ noSlash q = true := fun q hq => hp q (by simp [hq])
    rw [keeps] at h
    split at h
    · exact keeps_kept ps kept out hk hps h
    · rename_i h1
      split at h
      · split at h
        · cases h
        · exact keeps_kept ps _ out (fun q hq => hk q ((List.dropLast_sublist kept).subset hq)) hps h
      · rename_i h2
        refine keeps_kept ps _ out (fun q hq => ?_) hps h
        rw [List.mem_append, List.mem_singleton] at hq
        rcases hq with hq | rfl
        · exact hk q hq
        · have := hp q (by simp)
          exact ⟨by simpa using h1, by simpa using h2, this.2, this.1⟩
theorem enc_slash {r : List UInt8} (h : Enc r) : Enc (47 :: r) := Enc.one 47 r (by decide) (by decide) h
theorem join_enc : ∀ {kept : List (List UInt8)}, (∀ p ∈ kept, CleanP p) → Enc (join kept)
  | [], _ => Enc.nil
  | p :: ps, h => by
    show Enc ((47 :: p) ++ join ps)
    exact enc_append (enc_slash (h p (by simp)).enc) (join_enc (fun q hq => h q (by simp [hq])))
theorem form_enc {kept : List (List UInt8)} {tr : Bool} (h : ∀ p ∈ kept, CleanP p) : Enc (form kept tr) := by
  unfold form
  split
  · exact enc_append (join_enc h) (enc_slash Enc.nil)
  · exact join_enc h
/-- a form with something behind -/
theorem cuts_join : ∀ (kept : List (List UInt8)) (r : List UInt8), (∀ p ∈ kept, CleanP p) → cuts (join kept ++ 47 :: r).tail = kept ++ cuts r
  | [], r, _ => rfl
  | p :: ps, r, h => by
    have hp := h p (by simp)
    have ih := cuts_join ps r (fun q hq => h q (by simp [hq]))
    have e : (join (p :: ps) ++ 47 :: r).tail = p ++ (join ps ++ 47 :: r) := by
      show (((47 :: p) ++ join ps) ++ 47 :: r).tail = _
      simp
    rw [e]
    obtain ⟨t, ht⟩ : ∃ t, join ps ++ 47 :: r = 47 :: t := by
      cases ps with
      | nil => exact ⟨r, rfl⟩
      | cons q qs => exact ⟨q ++ join qs ++ 47 :: r, by show ((47 :: q) ++ join qs) ++ 47 :: r = _; simp⟩
    rw [ht] at ih ⊢
    rw [cuts_cut hp.no]
    show p :: cuts t = p :: (ps ++ cuts r)
    rw [show cuts t = ps ++ cuts r from ih]
theorem cuts_join_end (kept : List (List UInt8)) (hne : kept ≠ []) (h : ∀ p ∈ kept, CleanP p) : cuts (join kept).tail = kept := by
  obtain ⟨l, p, rfl⟩ : ∃ l p, kept = l ++ [p] := ⟨kept.dropLast, kept.getLast hne, (List.dropLast_concat_getLast hne).symm⟩
  have hp := h p (by simp)
  have e : join (l ++ [p]) = join l ++ 47 :: p := by simp [join]
  rw [e, cuts_join l p (fun q hq => h q (by simp [hq])), cuts_plain hp.no]
/-- a form's pieces -/
theorem cuts_form (kept : List (List UInt8)) (tr : Bool) (hf : kept = [] → tr = true) (h : ∀ p ∈ kept, CleanP p) : cuts (form kept tr).tail = kept ++ (if tr then [[]] else []) := by
  unfold form
  cases tr with
  | true => exact cuts_join kept [] h
  | false =>
    have hne : kept ≠ [] := fun e => by cases hf e
    simp only [Bool.false_eq_true, if_false, List.append_nil]
    exact cuts_join_end kept hne h
/-- the pieces of a form with more behind it -/
theorem cuts_more (kept : List (List UInt8)) (tr : Bool) (hf : kept = [] → tr = true) (h : ∀ p ∈ kept, CleanP p) (r : List UInt8) : cuts (form kept tr ++ 47 :: r).tail = (kept ++ (if tr then [[]] else [])) ++ cuts r := by
  have hne : form kept tr ≠ [] := by
    unfold form
    cases tr with
    | true => simp
    | false =>
      cases kept with
      | nil => cases hf rfl
      | cons p ps => show (47 :: p) ++ join ps ≠ []; simp
  have e : (form kept tr ++ 47 :: r).tail = (form kept tr).tail ++ 47 :: r := List.tail_append_of_ne_nil hne
  rw [e, cuts_append, cuts_form kept tr hf h]
theorem form_head (kept : List (List UInt8)) (tr : Bool) (hf : kept = [] → tr = true) : ∃ t, form kept tr = 47 :: t := by
  unfold form
  cases kept with
  | nil => rw [hf rfl]; exact ⟨[], rfl⟩
  | cons p ps => cases tr <;> exact ⟨_, rfl⟩
theorem keeps_trail (kept : List (List UInt8)) (tr : Bool) (h : ∀ p ∈ kept, CleanP p) : keeps [] (kept ++ (if tr then [[]] else [])) = some kept := by
  rw [keeps_append, keeps_clean kept [] h]
  cases tr <;> simp [keeps, isDot]
/-- what is answered is a form -/
theorem normal_form {s t : List UInt8} (h : normal s = some t) : ∃ kept tr, t = form kept tr ∧ (kept = [] → tr = true) ∧ (∀ p ∈ kept, CleanP p) := by
  unfold normal at h
  split at h
  · cases h
  · rename_i u hu
    split at h
    · cases h
    · rename_i kept hk
      injection h with h
      have hu2 : ∃ c r, s = c :: r ∧ esc (c :: r) = some u := by
        cases s with
        | nil => cases hu
        | cons c r =>
          refine ⟨c, r, rfl, ?_⟩
          have hu : (if (c == 47) = true then esc (c :: r) else none) = some u := hu
          by_cases h47 : (c == 47) = true
          · rwa [if_pos h47] at hu
          · rw [if_neg h47] at hu
            cases hu
      obtain ⟨c, r, rfl, hu2⟩ := hu2
      have he := esc_enc _ (Nat.le_refl _) hu2
      have het : Enc u.tail := by
        cases u with
        | nil => exact Enc.nil
        | cons d v =>
          have hu : (if (c == 47) = true then esc (c :: r) else none) = some (d :: v) := hu
          by_cases h47 : (c == 47) = true
          · rw [if_pos h47] at hu
            have hc : c = 47 := by simpa using h47
            subst hc
            rw [esc_cons, if_pos (by decide), if_neg (by decide)] at hu
            obtain ⟨v', hv', e⟩ := Option.map_eq_some_iff.1 hu
            injection e with e1 e2
            subst e2
            exact esc_enc _ (Nat.le_refl _) hv'
          · rw [if_neg h47] at hu
            cases hu
      have hclean := keeps_kept _ [] kept (fun p hp => by simp at hp) (fun p hp => ⟨cuts_enc het p hp, cuts_noSlash hp⟩) hk
      subst h
      unfold finish
      refine ⟨kept, kept.isEmpty || endsOpen (cuts u.tail), ?_, fun e => by simp [e], hclean⟩
      unfold form
      rfl
/-- how a form goes on: the escapes of it are itself -/
theorem escapes_more {kept : List (List UInt8)} {tr : Bool} (hf : kept = [] → tr = true) (h : ∀ p ∈ kept, CleanP p) {r u : List UInt8} (hr : esc r = some u) : escapes (form kept tr ++ r) = some (form kept tr ++ u) := by
  obtain ⟨t, ht⟩ := form_head kept tr hf
  have he := enc_esc (form_enc (tr := tr) h)
  have := esc_append _ r (Nat.le_refl _) he
  rw [hr] at this
  rw [ht] at this ⊢
  show (if (47 == (47 : UInt8)) = true then esc (47 :: t ++ r) else none) = _
  rw [if_pos (by decide), this]
  rfl
/-- a normal form is its own -/
theorem normal_fixed {kept : List (List UInt8)} {tr : Bool} (hf : kept = [] → tr = true) (h : ∀ p ∈ kept, CleanP p) : normal (form kept tr) = some (form kept tr) := by
  have he := escapes_more hf h (r := []) (u := []) rfl
  rw [List.append_nil] at he
  unfold normal
  rw [he]
  simp only
  rw [cuts_form kept tr hf h, keeps_trail kept tr h]
  simp only
  congr 1
  unfold finish form
  cases tr with
  | true => simp [endsOpen, isDot]
  | false =>
    have hne : kept ≠ [] := fun e => by cases hf e
    obtain ⟨l, p, rfl⟩ : ∃ l p, kept = l ++ [p] := ⟨kept.dropLast, kept.getLast hne, (List.dropLast_concat_getLast hne).symm⟩
    have hp := h p (by simp)
    simp [endsOpen, hp.dot, hp.up]
theorem normal_normal {s t : List UInt8} (h : normal s = some t) : normal t = some t := by
  obtain ⟨kept, tr, rfl, hf, hc⟩ := normal_form h
  exact normal_fixed hf hc
end Go.Proofs.YtlhpjinajaociaaDoor.PathForm
