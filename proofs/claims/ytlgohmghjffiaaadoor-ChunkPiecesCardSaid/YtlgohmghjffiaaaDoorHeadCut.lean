/- Layer 8, lines cut at blanks, at a dot, at a colon: another way to the same answers. No program is named. -/
import Derived.Test.YtlgohmghjffiaaaDoorHeadPure
import Derived.Test.YtlgohmghjffiaaaDoorCutAt
import Derived.Test.YtlgohmghjffiaaaDoorLexNum
namespace Go.Proofs.YtlgohmghjffiaaaDoor.HeadCut
open Bytes LexPure LexNum FieldsPure HeadPure CutAt
set_option maxRecDepth 20000
theorem cut_drop (x : UInt8) : ∀ s : List UInt8, behind x s = s.drop ((aheadOf x s).length + 1)
  | [] => rfl
  | c :: s => by
    unfold behind aheadOf
    rw [List.dropWhile_cons, List.takeWhile_cons]
    split
    · rw [List.length_cons, List.drop_succ_cons]
      exact cut_drop x s
    · rfl
theorem ahead_take (x : UInt8) : ∀ s : List UInt8, aheadOf x s = s.take (aheadOf x s).length
  | [] => rfl
  | c :: s => by
    unfold aheadOf
    rw [List.takeWhile_cons]
    split
    · rw [List.length_cons, List.take_succ_cons]
      exact congrArg _ (ahead_take x s)
    · rfl
theorem cut_at {x : UInt8} {b : List UInt8} : ∀ {a : List UInt8}, (∀ c ∈ a, c ≠ x) → aheadOf x (a ++ x :: b) = a ∧ behind x (a ++ x :: b) = b ∧ hasB x (a ++ x :: b) = true
  | [], _ => by simp [aheadOf, behind, hasB]
  | c :: a, h => by
    have hc : (c != x) = true := bne_iff_ne.2 (h c (List.mem_cons_self))
    obtain ⟨h1, h2, h3⟩ := cut_at (b := b) (a := a) (fun d hd => h d (List.mem_cons_of_mem _ hd))
    unfold aheadOf behind hasB at *
    rw [List.cons_append, List.takeWhile_cons, if_pos hc, List.dropWhile_cons, if_pos hc, List.any_cons, h1, h2, h3, Bool.or_true]
    exact ⟨rfl, rfl, rfl⟩
theorem cut_none {x : UInt8} : ∀ {a : List UInt8}, (∀ c ∈ a, c ≠ x) → aheadOf x a = a ∧ behind x a = [] ∧ hasB x a = false
  | [], _ => ⟨rfl, rfl, rfl⟩
  | c :: a, h => by
    have hc : (c != x) = true := bne_iff_ne.2 (h c (List.mem_cons_self))
    have hq : (c == x) = false := beq_eq_false_iff_ne.2 (h c (List.mem_cons_self))
    obtain ⟨h1, h2, h3⟩ := cut_none (a := a) (fun d hd => h d (List.mem_cons_of_mem _ hd))
    unfold aheadOf behind hasB at *
    rw [List.takeWhile_cons, if_pos hc, List.dropWhile_cons, if_pos hc, List.any_cons, h1, h2, h3, hq]
    exact ⟨rfl, rfl, rfl⟩
theorem cut_or (x : UInt8) : ∀ s : List UInt8, (∃ a b, s = a ++ x :: b ∧ ∀ c ∈ a, c ≠ x) ∨ (∀ c ∈ s, c ≠ x)
  | [] => .inr (fun c h => by cases h)
  | c :: s => by
    by_cases hc : c = x
    · exact .inl ⟨[], s, by rw [hc]; rfl, fun d h => by cases h⟩
    · rcases cut_or x s with ⟨a, b, h, h2⟩ | h
      · exact .inl ⟨c :: a, b, by rw [h]; rfl, fun d hd => by rcases List.mem_cons.1 hd with rfl | hd; exact hc; exact h2 d hd⟩
      · exact .inr (fun d hd => by rcases List.mem_cons.1 hd with rfl | hd; exact hc; exact h d hd)
theorem dig_digit (c : UInt8) : decide (dig c < 10) = digitB c ∧ (digitB c = true → (dig c : Int) = (c.toNat : Int) - 48 ∧ c ≠ 32) := by
  have := all_bytes (p := fun c => decide (decide (dig c < 10) = digitB c ∧ (digitB c = true → (dig c : Int) = (c.toNat : Int) - 48 ∧ c ≠ 32))) (by decide +kernel) c
  exact of_decide_eq_true this
/-! ### the version -/
theorem one_digit (f : List UInt8) : numOk 10 1 f = true ↔ ∃ a, f = [a] ∧ digitB a = true := by
  unfold numOk
  cases f with
  | nil => simp
  | cons a f =>
    cases f with
    | nil => simp [(dig_digit a).1.symm]
    | cons b f => simp; omega
theorem one_worth {a : UInt8} (h : digitB a = true) : numR 10 1 [a] = (a.toNat : Int) - 48 := by
  unfold numR
  rw [(one_digit [a]).2 ⟨a, rfl, h⟩, ← ((dig_digit a).2 h).1]
  simp [numV]
def HTTPS : List UInt8 := [72, 84, 84, 80, 47]
def verR (s : List UInt8) : List UInt8 := if HTTPS.isPrefixOf s = true then s.drop 5 else s
def verP (s : List UInt8) : Int × Int :=
  if HTTPS.isPrefixOf s = true ∧ numOk 10 1 (aheadOf 46 (verR s)) = true ∧ numOk 10 1 (behind 46 (verR s)) = true then (if numR 10 1 (aheadOf 46 (verR s)) = 1 then (numR 10 1 (behind 46 (verR s)), 0) else (0, 81)) else (0, 80)
theorem version_prog (s : List UInt8) : version8 s = verP s := by
  by_cases h : HTTPS.isPrefixOf s = true ∧ numOk 10 1 (aheadOf 46 (verR s)) = true ∧ numOk 10 1 (behind 46 (verR s)) = true
  · have hv : verR s = s.drop 5 := by unfold verR; rw [if_pos h.1]
    unfold verP
    rw [if_pos h]
    rw [hv] at h ⊢
    obtain ⟨h1, h2, h3⟩ := h
    obtain ⟨a, e2, d2⟩ := (one_digit _).1 h2
    obtain ⟨b, e3, d3⟩ := (one_digit _).1 h3
    obtain ⟨t, ht⟩ := List.isPrefixOf_iff_prefix.1 h1
    have hs : s = HTTPS ++ [a, 46, b] := by
      rw [← ht] at e2 e3 ⊢
      have hd : (HTTPS ++ t).drop 5 = t := rfl
      rw [hd] at e2 e3
      rcases cut_or 46 t with ⟨x, y, hxy, hx⟩ | hx
      · have := cut_at (b := y) hx
        rw [← hxy] at this
        rw [hxy, ← this.1, ← this.2.1, e2, e3]
        rfl
      · rw [(cut_none hx).2.1] at e3
        cases e3
    rw [e2, e3, one_worth d2, one_worth d3, hs]
    show (if _ then _ else _) = _
    rw [if_pos ⟨rfl, rfl, rfl, rfl, rfl, rfl, d2, d3⟩]
    by_cases h1 : a = 49
    · subst h1
      rw [if_pos rfl, if_pos (by decide)]
    · rw [if_neg h1, if_neg]
      intro h
      exact h1 (UInt8.toNat_inj.1 (by show a.toNat = 49; omega))
  · unfold verP
    rw [if_neg h]
    unfold version8
    split
    · rename_i c1 c2 c3 c4 c5 a c6 b
      rw [if_neg]
      rintro ⟨rfl, rfl, rfl, rfl, rfl, rfl, d2, d3⟩
      refine h ⟨rfl, ?_⟩
      have hv : verR [72, 84, 84, 80, 47, a, 46, b] = [a] ++ 46 :: [b] := by
        unfold verR
        rw [if_pos (show HTTPS.isPrefixOf [72, 84, 84, 80, 47, a, 46, b] = true from rfl)]
        rfl
      have ha : ∀ c ∈ [a], c ≠ 46 := by
        intro c hc
        rw [List.mem_singleton] at hc
        subst hc
        intro e
        subst e
        exact absurd d2 (by decide)
      obtain ⟨e1, e2, _⟩ := cut_at (b := [b]) ha
      rw [hv, e1, e2]
      exact ⟨(one_digit _).2 ⟨a, rfl, d2⟩, (one_digit _).2 ⟨b, rfl, d3⟩⟩
    · rfl
/-- a version of its form has eight bytes and no blank -/
theorem version_form {s : List UInt8} (h : (version8 s).2 ≠ 80) : s.length = 8 ∧ ∀ c ∈ s, c ≠ 32 := by
  unfold version8 at h
  split at h
  · rename_i c1 c2 c3 c4 c5 a c6 b
    by_cases hc : c1 = 72 ∧ c2 = 84 ∧ c3 = 84 ∧ c4 = 80 ∧ c5 = 47 ∧ c6 = 46 ∧ digitB a = true ∧ digitB b = true
    · obtain ⟨rfl, rfl, rfl, rfl, rfl, rfl, d2, d3⟩ := hc
      refine ⟨rfl, ?_⟩
      have ha := ((dig_digit a).2 d2).2
      have hb := ((dig_digit b).2 d3).2
      intro c hc
      simp only [List.mem_cons, List.not_mem_nil, or_false] at hc
      rcases hc with rfl | rfl | rfl | rfl | rfl | rfl | rfl | rfl <;> first | exact ha | exact hb | decide
    · rw [if_neg hc] at h
      exact absurd rfl h
  · exact absurd rfl h
theorem version_nil : version8 [] = (0, 80) := rfl
/-! ### the start line -/
def startP (l : List UInt8) : H8 × Int :=
  if (aheadOf 32 l).length ≤ 16 ∧ token (aheadOf 32 l) = true ∧ (aheadOf 32 (behind 32 l)).all seenB = true ∧ aheadOf 32 (behind 32 l) ≠ [] then
    (if (version8 (behind 32 (behind 32 l))).2 = 0 then (⟨aheadOf 32 l, aheadOf 32 (behind 32 l), 0, [], (version8 (behind 32 (behind 32 l))).1, []⟩, 0) else (zero8, (version8 (behind 32 (behind 32 l))).2))
  else (zero8, 80)
theorem start_prog (l : List UInt8) : start8 l = startP l := by
  unfold start8 startP
  rw [show upB l = aheadOf 32 l from rfl, ← cut_drop]
  generalize hr : behind 32 l = r
  simp only
  rw [show upB r = aheadOf 32 r from rfl, ← cut_drop]
  have hlr : (aheadOf 32 l).length < l.length ∨ r = [] := by
    rw [← hr, cut_drop]
    rcases Nat.lt_or_ge (aheadOf 32 l).length l.length with h | h
    · exact .inl h
    · exact .inr (List.drop_eq_nil_of_le (by omega))
  have hlv : (aheadOf 32 r).length < r.length ∨ version8 (behind 32 r) = (0, 80) := by
    rcases Nat.lt_or_ge (aheadOf 32 r).length r.length with h | h
    · exact .inl h
    · exact .inr (by rw [cut_drop, List.drop_eq_nil_of_le (by omega)]; rfl)
  have hpos : 0 < (aheadOf 32 r).length ↔ aheadOf 32 r ≠ [] := List.length_pos_iff
  by_cases h1 : (aheadOf 32 l).length ≤ 16 ∧ token (aheadOf 32 l) = true ∧ (aheadOf 32 r).all seenB = true ∧ aheadOf 32 r ≠ []
  · rw [if_pos h1]
    obtain ⟨a1, a2, a3, a4⟩ := h1
    have hl : (aheadOf 32 l).length < l.length := by
      rcases hlr with h | h
      · exact h
      · rw [h] at a4; exact absurd rfl a4
    rw [if_pos (show (aheadOf 32 l).length < l.length ∧ (aheadOf 32 l).length ≤ 16 ∧ token (aheadOf 32 l) = true from ⟨hl, a1, a2⟩)]
    rcases hlv with h | h
    · rw [if_pos (show (aheadOf 32 r).length < r.length ∧ 0 < (aheadOf 32 r).length ∧ (aheadOf 32 r).all seenB = true from ⟨h, hpos.2 a4, a3⟩)]
    · rw [h]
      simp
  · rw [if_neg h1]
    by_cases h2 : (aheadOf 32 l).length < l.length ∧ (aheadOf 32 l).length ≤ 16 ∧ token (aheadOf 32 l) = true
    · rw [if_pos h2, if_neg]
      rintro ⟨_, b2, b3⟩
      exact h1 ⟨h2.2.1, h2.2.2, b3, hpos.1 b2⟩
    · rw [if_neg h2]
/-! ### the status line -/
theorem plain_blank (c : UInt8) (h : blankB c = true) : plainB c = true := by
  have := all_bytes (p := fun c => !blankB c || plainB c) (by decide +kernel) c
  rw [h] at this
  simpa using this
theorem drop_plain (s : List UInt8) : (s.dropWhile blankB).all plainB = s.all plainB := by
  induction s with
  | nil => rfl
  | cons c s ih =>
    rw [List.dropWhile_cons]
    split
    · rename_i h
      rw [ih, List.all_cons, plain_blank c h, Bool.true_and]
    · rfl
theorem trim_plain (s : List UInt8) : (trim s).all plainB = s.all plainB := by
  unfold trim
  rw [List.all_reverse, drop_plain, List.all_reverse, drop_plain]
theorem value_trim' (s : List UInt8) : value (trim s) = s.all plainB := by
  unfold value
  rw [trim_plain]
  cases h : s.all plainB with
  | false => rfl
  | true =>
    rw [Bool.true_and]
    cases ht : trim s with
    | nil => rfl
    | cons c r =>
      have h1 : blankB c = false := trim_head c r ht
      have h2 : blankB ((c :: r).getLastD 0) = false := by
        rw [List.getLastD_eq_getLast?, ← List.head?_reverse]
        cases hr : (c :: r).reverse with
        | nil => simp at hr
        | cons d t =>
          exact trim_last d t (by rw [ht]; exact hr)
      rw [List.headD_cons, h1, h2]
      rfl
def statusP (l : List UInt8) : H8 × Int :=
  if numOk 10 3 (aheadOf 32 (behind 32 l)) = true ∧ 100 ≤ numR 10 3 (aheadOf 32 (behind 32 l)) ∧ numR 10 3 (aheadOf 32 (behind 32 l)) ≤ 599 ∧ (behind 32 (behind 32 l)).all plainB = true then
    (if (version8 (aheadOf 32 l)).2 = 0 then (⟨[], [], numR 10 3 (aheadOf 32 (behind 32 l)), behind 32 (behind 32 l), (version8 (aheadOf 32 l)).1, []⟩, 0) else (zero8, (version8 (aheadOf 32 l)).2))
  else (zero8, 80)
theorem three_digits {d : List UInt8} (h : numOk 10 3 d = true) (h1 : 100 ≤ numR 10 3 d) : d.length = 3 := by
  unfold numR at h1
  rw [if_pos h] at h1
  unfold numOk at h
  simp only [Bool.and_eq_true, decide_eq_true_eq] at h
  obtain ⟨⟨h2, h3⟩, h4⟩ := h
  have hlt := numV_lt 10 d h4
  rcases (show d.length = 0 ∨ d.length = 1 ∨ d.length = 2 ∨ d.length = 3 by omega) with e | e | e | e
  · rw [e] at hlt; omega
  · rw [e] at hlt; omega
  · rw [e] at hlt; omega
  · exact e
theorem ok_bare {d : List UInt8} (h : numOk 10 3 d = true) : ∀ c ∈ d, c ≠ 32 := by
  unfold numOk at h
  simp only [Bool.and_eq_true] at h
  intro c hc
  have := List.all_eq_true.1 h.2 c hc
  rw [(dig_digit c).1] at this
  exact ((dig_digit c).2 this).2
theorem status_prog (l : List UInt8) : status8 l = statusP l := by
  by_cases hC : 12 ≤ l.length ∧ l[8]? = some 32 ∧ numOk 10 3 ((l.drop 9).take 3) = true ∧ 100 ≤ numR 10 3 ((l.drop 9).take 3) ∧ numR 10 3 ((l.drop 9).take 3) < 600 ∧ (l.length = 12 ∨ l[12]? = some 32) ∧ (l.drop 13).all plainB = true
  · have e8 : status8 l = if (version8 (l.take 8)).2 = 0 then (⟨[], [], numR 10 3 ((l.drop 9).take 3), l.drop 13, (version8 (l.take 8)).1, []⟩, 0) else (zero8, (version8 (l.take 8)).2) := by
      unfold status8
      rw [if_pos hC]
    rw [e8]
    obtain ⟨c1, c2, c3, c4, c5, c6, c7⟩ := hC
    have hl8 : l = l.take 8 ++ 32 :: l.drop 9 := by
      have h8 : 8 < l.length := by omega
      rw [List.getElem?_eq_getElem h8] at c2
      injection c2 with c2
      rw [← c2, ← List.drop_eq_getElem_cons h8, List.take_append_drop]
    by_cases hv : (version8 (l.take 8)).2 = 80
    · -- the version isn't of its form
      rw [hv, if_neg (by decide)]
      unfold statusP
      by_cases hp : numOk 10 3 (aheadOf 32 (behind 32 l)) = true ∧ 100 ≤ numR 10 3 (aheadOf 32 (behind 32 l)) ∧ numR 10 3 (aheadOf 32 (behind 32 l)) ≤ 599 ∧ (behind 32 (behind 32 l)).all plainB = true
      · rw [if_pos hp]
        have hv2 : (version8 (aheadOf 32 l)).2 = 80 := by
          rcases Decidable.em ((version8 (aheadOf 32 l)).2 = 80) with h | h
          · exact h
          · exfalso
            obtain ⟨f1, f2⟩ := version_form h
            have : aheadOf 32 l = l.take 8 := by rw [ahead_take, f1]
            rw [this] at h
            exact h hv
        rw [hv2, if_neg (by decide)]
      · rw [if_neg hp]
    · obtain ⟨_, f2⟩ := version_form hv
      obtain ⟨g1, g2, _⟩ := cut_at (b := l.drop 9) f2
      rw [← hl8] at g1 g2
      have h9 : l.drop 9 = (l.drop 9).take 3 ++ l.drop 12 := by
        conv => lhs; rw [← List.take_append_drop 3 (l.drop 9), List.drop_drop]
      have hb := ok_bare c3
      have hd : aheadOf 32 (l.drop 9) = (l.drop 9).take 3 ∧ behind 32 (l.drop 9) = l.drop 13 := by
        rcases c6 with h | h
        · have e12 : l.drop 12 = [] := List.drop_eq_nil_of_le (by omega)
          have e13 : l.drop 13 = [] := List.drop_eq_nil_of_le (by omega)
          have := cut_none hb
          rw [e12, List.append_nil] at h9
          rw [← h9] at this
          rw [e13, ← h9]
          exact ⟨this.1, this.2.1⟩
        · have h12 : 12 < l.length := by
            rcases Nat.lt_or_ge 12 l.length with h2 | h2
            · exact h2
            · rw [List.getElem?_eq_none h2] at h; cases h
          have e12 : l.drop 12 = 32 :: l.drop 13 := by
            rw [List.getElem?_eq_getElem h12] at h
            injection h with h
            rw [← h, ← List.drop_eq_getElem_cons h12]
          have := cut_at (b := l.drop 13) hb
          rw [← e12, ← h9] at this
          exact ⟨this.1, this.2.1⟩
      unfold statusP
      rw [g2, hd.1, hd.2, g1, if_pos (show numOk 10 3 ((l.drop 9).take 3) = true ∧ 100 ≤ numR 10 3 ((l.drop 9).take 3) ∧ numR 10 3 ((l.drop 9).take 3) ≤ 599 ∧ (l.drop 13).all plainB = true from ⟨c3, c4, by omega, c7⟩)]
  · have e8 : status8 l = (zero8, 80) := by
      unfold status8
      rw [if_neg hC]
    rw [e8]
    unfold statusP
    by_cases hp : numOk 10 3 (aheadOf 32 (behind 32 l)) = true ∧ 100 ≤ numR 10 3 (aheadOf 32 (behind 32 l)) ∧ numR 10 3 (aheadOf 32 (behind 32 l)) ≤ 599 ∧ (behind 32 (behind 32 l)).all plainB = true
    · rw [if_pos hp]
      rcases Decidable.em ((version8 (aheadOf 32 l)).2 = 80) with h | h
      · rw [h, if_neg (by decide)]
      · exfalso
        obtain ⟨f1, f2⟩ := version_form h
        obtain ⟨p1, p2, p3, p4⟩ := hp
        have h3 := three_digits p1 p2
        rcases cut_or 32 l with ⟨a, b, hab, ha⟩ | ha
        · obtain ⟨g1, g2, _⟩ := cut_at (b := b) ha
          rw [← hab] at g1 g2
          rw [g1] at f1
          have hb : b = l.drop 9 := by rw [hab, List.drop_append, f1, List.drop_eq_nil_of_le (by omega)]; rfl
          have hl8 : l[8]? = some 32 := by rw [hab, List.getElem?_append_right (by omega), f1]; rfl
          rw [g2] at p1 p2 p3 p4 h3
          have hbl : l.length = 9 + b.length := by rw [hab, List.length_append, List.length_cons]; omega
          rcases cut_or 32 b with ⟨x, y, hxy, hx⟩ | hx
          · obtain ⟨k1, k2, _⟩ := cut_at (b := y) hx
            rw [← hxy] at k1 k2
            rw [k1] at p1 p2 p3 h3
            rw [k2] at p4
            have e1 : (l.drop 9).take 3 = x := by rw [← hb, hxy, ← h3, List.take_left']; rfl
            have e2 : l.drop 13 = y := by
              rw [show l.drop 13 = (l.drop 9).drop 4 by rw [List.drop_drop], ← hb, hxy, List.drop_append, h3, List.drop_eq_nil_of_le (by omega)]
              rfl
            have e3 : l[12]? = some 32 := by
              rw [show l[12]? = (l.drop 9)[3]? by rw [List.getElem?_drop], ← hb, hxy, List.getElem?_append_right (by omega), h3]
              rfl
            refine hC ⟨?_, hl8, by rw [e1]; exact p1, by rw [e1]; exact p2, by rw [e1]; omega, .inr e3, by rw [e2]; exact p4⟩
            rw [hbl, hxy, List.length_append]
            omega
          · obtain ⟨k1, k2, _⟩ := cut_none hx
            rw [k1] at p1 p2 p3 h3
            have e1 : (l.drop 9).take 3 = b := by rw [← hb, List.take_of_length_le (by omega)]
            have e2 : l.drop 13 = [] := List.drop_eq_nil_of_le (by omega)
            exact hC ⟨by omega, hl8, by rw [e1]; exact p1, by rw [e1]; exact p2, by rw [e1]; omega, .inl (by omega), by rw [e2]; rfl⟩
        · rw [(cut_none ha).2.1] at h3
          cases h3
    · rw [if_neg hp]
/-! ### a field's line -/
def fieldP (l : List UInt8) : HField × Int :=
  if hasB 58 l = true ∧ token (aheadOf 58 l) = true ∧ value (trim (behind 58 l)) = true then ((aheadOf 58 l, trim (behind 58 l)), 0) else (([], []), 70)
theorem field_prog (l : List UInt8) : field8 l = fieldP l := by
  unfold field8 fieldP
  rw [show nameB l = aheadOf 58 l from rfl, ← cut_drop]
  have : (aheadOf 58 l).length < l.length ↔ hasB 58 l = true := by
    rcases cut_or 58 l with ⟨a, b, hab, ha⟩ | ha
    · obtain ⟨g1, _, g3⟩ := cut_at (b := b) ha
      rw [← hab] at g1 g3
      rw [g1, g3, hab, List.length_append, List.length_cons]
      constructor
      · intro; rfl
      · intro; omega
    · obtain ⟨g1, _, g3⟩ := cut_none ha
      rw [g1, g3]
      constructor
      · intro h; omega
      · intro h; cases h
  simp only [this]
end Go.Proofs.YtlgohmghjffiaaaDoor.HeadCut
