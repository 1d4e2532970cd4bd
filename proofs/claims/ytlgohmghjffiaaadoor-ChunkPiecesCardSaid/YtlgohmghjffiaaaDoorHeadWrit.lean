/- Layer 8: a head that is written line by line is read back as it is. No program is named. -/
import Derived.Test.YtlgohmghjffiaaaDoorHeadPure
namespace Go.Proofs.YtlgohmghjffiaaaDoor.HeadWrit
open LexPure Bytes FieldsPure HeadPure
theorem drop_blanks {b v : List UInt8} (hb : b.all blankB = true) (hv : ∀ c r, v = c :: r → blankB c = false) : (b ++ v).dropWhile blankB = v := by
  induction b with
  | nil => exact dropWhile_id hv
  | cons c b ih =>
    rw [List.all_cons, Bool.and_eq_true] at hb
    rw [List.cons_append, List.dropWhile_cons_of_pos hb.1]
    exact ih hb.2
theorem value_ends {v : List UInt8} (h : value v = true) : (∀ c r, v = c :: r → blankB c = false) ∧ (∀ c r, v.reverse = c :: r → blankB c = false) := by
  unfold value at h
  rw [Bool.and_eq_true, Bool.or_eq_true, Bool.and_eq_true] at h
  constructor
  · intro c r e
    subst e
    rcases h.2 with h2 | h2
    · cases h2
    · simpa using h2.1
  · intro c r e
    have e2 : v = r.reverse ++ [c] := by
      have := congrArg List.reverse e
      rwa [List.reverse_reverse, List.reverse_cons] at this
    rcases h.2 with h2 | h2
    · rw [e2] at h2; simp at h2
    · have := h2.2
      rw [e2] at this
      simpa using this
theorem trim_wrap {b v : List UInt8} (hb : b.all blankB = true) (hv : value v = true) : trim (b ++ v ++ b) = v := by
  obtain ⟨h1, h2⟩ := value_ends hv
  have hb2 : b.reverse.all blankB = true := by rw [List.all_reverse]; exact hb
  unfold trim
  cases v with
  | nil =>
    have e : (b ++ [] ++ b).dropWhile blankB = [] := by
      rw [List.append_nil]
      have := drop_blanks (b := b ++ b) (v := []) (by rw [List.all_append, hb]; rfl) (fun c r e => by cases e)
      rwa [List.append_nil] at this
    rw [e]
    rfl
  | cons c v =>
    have e : (b ++ (c :: v) ++ b).dropWhile blankB = (c :: v) ++ b := by
      rw [List.append_assoc]
      exact drop_blanks hb (fun d r e => by
        rw [List.cons_append] at e
        injection e with e _
        rw [← e]
        exact h1 c v rfl)
    rw [e, List.reverse_append, drop_blanks hb2 h2, List.reverse_reverse]
/-- a field's line, with blanks about the value -/
def wline (b : List UInt8) (f : HField) : List UInt8 := f.1 ++ 58 :: (b ++ f.2 ++ b)
theorem mark_not (c : UInt8) : (markB c = true → c ≠ 58 ∧ c ≠ 10 ∧ c ≠ 13 ∧ c ≠ 32) ∧ (plainB c = true → c ≠ 10 ∧ c ≠ 13) ∧ (blankB c = true → c ≠ 10 ∧ c ≠ 13) ∧ (seenB c = true → c ≠ 10 ∧ c ≠ 13 ∧ c ≠ 32) := by
  have := all_bytes (p := fun c => decide ((markB c = true → c ≠ 58 ∧ c ≠ 10 ∧ c ≠ 13 ∧ c ≠ 32) ∧ (plainB c = true → c ≠ 10 ∧ c ≠ 13) ∧ (blankB c = true → c ≠ 10 ∧ c ≠ 13) ∧ (seenB c = true → c ≠ 10 ∧ c ≠ 13 ∧ c ≠ 32))) (by decide +kernel) c
  exact of_decide_eq_true this
theorem take_until {p : UInt8 → Bool} {l x : List UInt8} {d : UInt8} (hl : ∀ c ∈ l, p c = true) (hd : p d = false) : (l ++ d :: x).takeWhile p = l := by
  rw [List.takeWhile_append_of_pos hl, List.takeWhile_cons_of_neg (by rw [hd]; decide), List.append_nil]
theorem field_line {b : List UInt8} {f : HField} (hb : b.all blankB = true) (ht : token f.1 = true) (hv : value f.2 = true) : field8 (wline b f) = (f, 0) := by
  have hm : ∀ c ∈ f.1, markB c = true := by
    unfold token at ht
    rw [Bool.and_eq_true] at ht
    exact List.all_eq_true.1 ht.1
  have e1 : nameB (wline b f) = f.1 := take_until (fun c hc => by
    have := ((mark_not c).1 (hm c hc)).1
    simpa using this) (by decide)
  have e2 : (wline b f).drop (f.1.length + 1) = b ++ f.2 ++ b := by
    unfold wline
    rw [← List.drop_drop, List.drop_left]
    rfl
  unfold field8
  rw [e1, e2, trim_wrap hb hv, if_pos ⟨by unfold wline; simp, ht, hv⟩]
theorem line_bare {b : List UInt8} {f : HField} (hb : b.all blankB = true) (ht : token f.1 = true) (hv : value f.2 = true) : ∀ c ∈ wline b f, c ≠ 10 ∧ c ≠ 13 := by
  intro c hc
  have hm : ∀ c ∈ f.1, markB c = true := by
    unfold token at ht
    rw [Bool.and_eq_true] at ht
    exact List.all_eq_true.1 ht.1
  have hp : ∀ c ∈ f.2, plainB c = true := by
    unfold value at hv
    rw [Bool.and_eq_true] at hv
    exact List.all_eq_true.1 hv.1
  have hbb : ∀ c ∈ b, blankB c = true := List.all_eq_true.1 hb
  unfold wline at hc
  simp only [List.mem_append, List.mem_cons] at hc
  rcases hc with h | rfl | (h | h) | h
  · exact ⟨((mark_not c).1 (hm c h)).2.1, ((mark_not c).1 (hm c h)).2.2.1⟩
  · decide
  · exact (mark_not c).2.2.1 (hbb c h)
  · exact (mark_not c).2.1 (hp c h)
  · exact (mark_not c).2.2.1 (hbb c h)
def wlines (b : List UInt8) (l : List HField) : List UInt8 := l.flatMap (fun f => wline b f ++ [13, 10])
theorem wlines_snoc (b : List UInt8) (l : List HField) (f : HField) : wlines b (l ++ [f]) = wlines b l ++ (wline b f ++ [13, 10]) := by simp [wlines]
theorem fields_written (h : H8) {b : List UInt8} (hb : b.all blankB = true) (hbl : b.length ≤ 10) : ∀ (l : List HField) (m : Nat) (acc : List HField) (a : Nat), l.length ≤ m → (∀ f ∈ l, token f.1 = true ∧ value f.2 = true ∧ f.1.length + f.2.length ≤ 490) →
    fields8 h m acc a (wlines b l ++ [13, 10]) = .done { h with fields := acc ++ l } (a + (wlines b l).length + 2)
  | [], m, acc, a, _, _ => by
    unfold fields8
    rw [show wlines b [] ++ [13, 10] = [] ++ 13 :: 10 :: [] from rfl, scan_line 512 83 [] [] 0 (fun c hc => by cases hc) (.inl rfl)]
    simp [wlines]
  | f :: l, m, acc, a, hm, hf => by
    obtain ⟨ht, hv, hn⟩ := hf f List.mem_cons_self
    match m, hm with
    | m + 1, hm =>
      unfold fields8
      have e : wlines b (f :: l) ++ [13, 10] = wline b f ++ 13 :: 10 :: (wlines b l ++ [13, 10]) := by simp [wlines]
      have hlen : (wline b f).length ≤ 512 ∧ 0 < (wline b f).length := by unfold wline; simp; omega
      rw [e, scan_line 512 83 _ (wline b f) 0 (line_bare hb ht hv) (.inr (by omega))]
      simp only [Nat.zero_add]
      rw [if_neg (by omega)]
      have e3 : (wline b f ++ 13 :: 10 :: (wlines b l ++ [13, 10])).take (wline b f).length = wline b f := List.take_left
      have e4 : (wline b f ++ 13 :: 10 :: (wlines b l ++ [13, 10])).drop ((wline b f).length + 2) = wlines b l ++ [13, 10] := by
        rw [← List.drop_drop, List.drop_left]
        rfl
      rw [e3, e4, field_line hb ht hv, if_pos rfl, fields_written h hb hbl l m _ _ (by simpa using hm) (fun g hg => hf g (List.mem_cons_of_mem _ hg))]
      rw [List.append_assoc]
      congr 1
      have : (wlines b (f :: l)).length = (wline b f).length + 2 + (wlines b l).length := by simp [wlines]; omega
      omega
def HTTP11 : List UInt8 := [32, 72, 84, 84, 80, 47, 49, 46, 49]
/-- a head, as it is written -/
def wrote (m t b : List UInt8) (l : List HField) : List UInt8 := m ++ 32 :: t ++ HTTP11 ++ [13, 10] ++ wlines b l
theorem token_marks {m : List UInt8} (h : token m = true) : (∀ c ∈ m, markB c = true) ∧ 0 < m.length := by
  unfold token at h
  rw [Bool.and_eq_true] at h
  refine ⟨List.all_eq_true.1 h.1, ?_⟩
  cases m with
  | nil => simp at h
  | cons => simp
theorem read_written {m t b : List UInt8} {l : List HField} (hm : token m = true) (hml : m.length ≤ 16) (ht : t.all seenB = true) (ht0 : 0 < t.length) (htl : t.length ≤ 1024) (hb : b.all blankB = true) (hbl : b.length ≤ 10)
    (hl : l.length ≤ 32) (hf : ∀ f ∈ l, token f.1 = true ∧ value f.2 = true ∧ f.1.length + f.2.length ≤ 490) :
    read8 false (wrote m t b l ++ [13, 10]) = .done ⟨m, t, 0, [], 1, l⟩ ((wrote m t b l).length + 2) := by
  obtain ⟨hmm, hm0⟩ := token_marks hm
  have hts : ∀ c ∈ t, seenB c = true := List.all_eq_true.1 ht
  have e0 : wrote m t b l ++ [13, 10] = (m ++ 32 :: (t ++ HTTP11)) ++ 13 :: 10 :: (wlines b l ++ [13, 10]) := by unfold wrote; simp
  have hsk : skip8 (wrote m t b l ++ [13, 10]) = 0 := by
    rw [e0]
    cases m with
    | nil => simp at hm0
    | cons c m =>
      have hc := ((mark_not c).1 (hmm c List.mem_cons_self)).2.2.1
      cases hx : m ++ 32 :: (t ++ HTTP11) ++ 13 :: 10 :: (wlines b l ++ [13, 10]) with
      | nil => simp at hx
      | cons d x =>
        rw [List.cons_append, List.cons_append, hx, skip8, if_neg (fun h => hc h.1)]
  have hbare : ∀ c ∈ m ++ 32 :: (t ++ HTTP11), c ≠ 10 ∧ c ≠ 13 := by
    intro c hc
    simp only [List.mem_append, List.mem_cons] at hc
    rcases hc with h | rfl | h | h
    · exact ⟨((mark_not c).1 (hmm c h)).2.1, ((mark_not c).1 (hmm c h)).2.2.1⟩
    · decide
    · exact ⟨((mark_not c).2.2.2 (hts c h)).1, ((mark_not c).2.2.2 (hts c h)).2.1⟩
    · unfold HTTP11 at h
      simp only [List.mem_cons, List.not_mem_nil, or_false] at h
      rcases h with rfl | rfl | rfl | rfl | rfl | rfl | rfl | rfl | rfl <;> decide
  have hlen : (m ++ 32 :: (t ++ HTTP11)).length = m.length + t.length + 10 := by simp [HTTP11]; omega
  have hst : start8 (m ++ 32 :: (t ++ HTTP11)) = (⟨m, t, 0, [], 1, []⟩, 0) := by
    have u1 : upB (m ++ 32 :: (t ++ HTTP11)) = m := take_until (fun c hc => by
      have := ((mark_not c).1 (hmm c hc)).2.2.2
      simpa using this) (by decide)
    have d1 : (m ++ 32 :: (t ++ HTTP11)).drop (m.length + 1) = t ++ HTTP11 := by
      rw [← List.drop_drop, List.drop_left]
      rfl
    have u2 : upB (t ++ HTTP11) = t := take_until (x := [72, 84, 84, 80, 47, 49, 46, 49]) (fun c hc => by
      have := ((mark_not c).2.2.2 (hts c hc)).2.2
      simpa using this) (by decide)
    have d2 : (t ++ HTTP11).drop (t.length + 1) = [72, 84, 84, 80, 47, 49, 46, 49] := by
      rw [← List.drop_drop, List.drop_left]
      rfl
    unfold start8
    rw [u1, d1, if_pos ⟨by simp, hml, hm⟩]
    simp only [u2, d2]
    rw [if_pos ⟨by simp [HTTP11], ht0, ht⟩]
    rfl
  unfold read8 skipOf
  simp only [Bool.false_eq_true, if_false]
  rw [hsk, List.drop_zero, e0]
  unfold from8
  rw [scan_line 1100 82 _ _ 0 hbare (.inr (by omega))]
  simp only [Nat.zero_add, Bool.false_eq_true, if_false]
  have e3 : ((m ++ 32 :: (t ++ HTTP11)) ++ 13 :: 10 :: (wlines b l ++ [13, 10])).take (m ++ 32 :: (t ++ HTTP11)).length = m ++ 32 :: (t ++ HTTP11) := List.take_left
  have e4 : ((m ++ 32 :: (t ++ HTTP11)) ++ 13 :: 10 :: (wlines b l ++ [13, 10])).drop ((m ++ 32 :: (t ++ HTTP11)).length + 2) = wlines b l ++ [13, 10] := by
    rw [← List.drop_drop, List.drop_left]
    rfl
  rw [e3, e4, hst, if_pos rfl, fields_written _ hb hbl l 32 [] _ hl hf]
  have hw : (wrote m t b l).length = (m ++ 32 :: (t ++ HTTP11)).length + 2 + (wlines b l).length := by unfold wrote; simp; omega
  rw [List.nil_append]
  congr 1
  omega
end Go.Proofs.YtlgohmghjffiaaaDoor.HeadWrit
