/- Texts of this seat, one behind another: HeadLines, PathMore, InflowWrit, InflowWholeP, HeadFew, FrNames, InJudge, Flds, KeptRow, HBox, QCell, PChFeed, ChunkNew, InObj, PathLays, PPre, PNext, PFlds8, PDecimal, PVer8, PSeen, PStart8. -/
import Derived.Lib.Hide
import Derived.Below
import Derived.Deep.Draws
import Derived.OwnWalk
import Derived.Maps.AppendAt
import Derived.Deep.AppendLies
import Derived.Laws.ResultCell
import Derived.Laws.Tables
import Derived.Deep.MidRow
import Derived.Deep.WholeRow
import Derived.Deep.RegionHeld3
import Derived.Laws.DeepStrings4
import Derived.Shelf.Small.Wraps
import Derived.Outline
import Derived.LoopTactic
import Derived.Handy
import Derived.Test.YtmlpdhmafmdkcaaGreatDoorA1
import Derived.Test.YtmlpdhmafmdkcaaGreatDoorA2
/- Layer 8: a head read line by line: what each line brings. No program is named. -/
namespace Go.Proofs.YtmlpdhmafmdkcaaGreatDoor.HeadLines
open LexPure Bytes FieldsPure HeadPure HeadWrit
set_option maxRecDepth 20000
def bare (l : List UInt8) : Prop := ∀ c ∈ l, c ≠ 10 ∧ c ≠ 13
/-- a start line of version 1.1 -/
def startL (m t : List UInt8) : List UInt8 := m ++ 32 :: (t ++ HTTP11)
theorem start_bare {m t : List UInt8} (hm : token m = true) (ht : t.all seenB = true) : bare (startL m t) := by
  obtain ⟨hmm, _⟩ := token_marks hm
  have hts : ∀ c ∈ t, seenB c = true := List.all_eq_true.1 ht
  intro c hc
  unfold startL at hc
  simp only [List.mem_append, List.mem_cons] at hc
  rcases hc with h | rfl | h | h
  · exact ⟨((mark_not c).1 (hmm c h)).2.1, ((mark_not c).1 (hmm c h)).2.2.1⟩
  · decide
  · exact ⟨((mark_not c).2.2.2 (hts c h)).1, ((mark_not c).2.2.2 (hts c h)).2.1⟩
  · unfold HTTP11 at h
    simp only [List.mem_cons, List.not_mem_nil, or_false] at h
    rcases h with rfl | rfl | rfl | rfl | rfl | rfl | rfl | rfl | rfl <;> decide
theorem start_say {m t : List UInt8} (hm : token m = true) (hml : m.length ≤ 16) (ht : t.all seenB = true) (ht0 : 0 < t.length) : start8 (startL m t) = (⟨m, t, 0, [], 1, []⟩, 0) := by
  obtain ⟨hmm, _⟩ := token_marks hm
  have hts : ∀ c ∈ t, seenB c = true := List.all_eq_true.1 ht
  unfold startL
  have u1 : upB (m ++ 32 :: (t ++ HTTP11)) = m := take_until (fun c hc => by
    have := ((mark_not c).1 (hmm c hc)).2.2.2
    simpa using this) (by decide)
  have d1 : (m ++ 32 :: (t ++ HTTP11)).drop (m.length + 1) = t ++ HTTP11 := by
    rw [← List.drop_drop, List.drop_left]
    rfl
  have u2 : upB (t ++ HTTP11) = t := take_until (x := [72, 84, 84, 80, 47, 49, 46, 49]) (fun c hc => by
    have := ((mark_not c).2.2.2 (hts c hc)).2.2
    simpa using this) (by decide)
  have d2 : (t ++ HTTP11).drop (t.length + 1) = [72, 84, 84, 80, 47, 49, 46, 49] := by
    rw [← List.drop_drop, List.drop_left]
    rfl
  unfold start8
  rw [u1, d1, if_pos ⟨by simp, hml, hm⟩]
  simp only [u2, d2]
  rw [if_pos ⟨by simp [HTTP11], ht0, ht⟩]
  rfl
/-- the start line -/
theorem read_start {m t : List UInt8} (hm : token m = true) (hml : m.length ≤ 16) (ht : t.all seenB = true) (ht0 : 0 < t.length) (htl : t.length ≤ 1024) (s : List UInt8) :
    read8 false (startL m t ++ 13 :: 10 :: s) = fields8 ⟨m, t, 0, [], 1, []⟩ 32 [] ((startL m t).length + 2) s := by
  obtain ⟨hmm, hm0⟩ := token_marks hm
  have hsk : skip8 (startL m t ++ 13 :: 10 :: s) = 0 := by
    unfold startL
    cases m with
    | nil => simp at hm0
    | cons c m =>
      have hc := ((mark_not c).1 (hmm c List.mem_cons_self)).2.2.1
      cases hx : m ++ 32 :: (t ++ HTTP11) ++ 13 :: 10 :: s with
      | nil => simp at hx
      | cons d x =>
        rw [List.cons_append, List.cons_append, hx, skip8, if_neg (fun h => hc h.1)]
  have hlen : (startL m t).length = m.length + t.length + 10 := by simp [startL, HTTP11]; omega
  unfold read8 skipOf
  simp only [Bool.false_eq_true, if_false]
  rw [hsk, List.drop_zero]
  unfold from8
  rw [scan_line 1100 82 _ _ 0 (start_bare hm ht) (.inr (by omega))]
  simp only [Nat.zero_add, Bool.false_eq_true, if_false]
  have e3 : (startL m t ++ 13 :: 10 :: s).take (startL m t).length = startL m t := List.take_left
  have e4 : (startL m t ++ 13 :: 10 :: s).drop ((startL m t).length + 2) = s := by
    rw [← List.drop_drop, List.drop_left]
    rfl
  rw [e3, e4, start_say hm hml ht ht0, if_pos rfl]
/-- a field's line -/
theorem fields_line (h : H8) (m : Nat) (acc : List HField) (a : Nat) {L : List UInt8} (hb : bare L) (h0 : 0 < L.length) (hl : L.length ≤ 512) (s : List UInt8) :
    fields8 h (m + 1) acc a (L ++ 13 :: 10 :: s) = if (field8 L).2 = 0 then fields8 h m (acc ++ [(field8 L).1]) (a + L.length + 2) s else .bad 70 := by
  conv => lhs; unfold fields8
  rw [scan_line 512 83 _ L 0 hb (.inr (by omega))]
  simp only [Nat.zero_add]
  rw [if_neg (by omega)]
  have e3 : (L ++ 13 :: 10 :: s).take L.length = L := List.take_left
  have e4 : (L ++ 13 :: 10 :: s).drop (L.length + 2) = s := by
    rw [← List.drop_drop, List.drop_left]
    rfl
  rw [e3, e4]
/-- the empty line -/
theorem fields_end (h : H8) (m : Nat) (acc : List HField) (a : Nat) (s : List UInt8) : fields8 h m acc a (13 :: 10 :: s) = .done { h with fields := acc } (a + 2) := by
  unfold fields8
  rw [show (13 : UInt8) :: 10 :: s = [] ++ 13 :: 10 :: s from rfl, scan_line 512 83 _ [] 0 (fun c hc => by cases hc) (.inl rfl)]
  simp
theorem scan_ten (most : Nat) (over : Int) (q : List UInt8) : ∀ (l : List UInt8) (i : Nat), bare l → i + l.length ≤ most → scan most over i (l ++ 10 :: q) = .bad 80
  | [], i, _, _ => by
    show scan most over i (10 :: q) = .bad 80
    rw [scan_cons, if_pos rfl]
  | c :: l, i, hb, hl => by
    obtain ⟨h1, h2⟩ := hb c List.mem_cons_self
    rw [List.length_cons] at hl
    rw [List.cons_append, scan_cons, if_neg h1, if_neg h2, if_neg (by omega)]
    exact scan_ten most over q l (i + 1) (fun x hx => hb x (List.mem_cons_of_mem _ hx)) (by omega)
/-- a line that ends with a 10 alone -/
theorem fields_ten (h : H8) (m : Nat) (acc : List HField) (a : Nat) {L : List UInt8} (hb : bare L) (hl : L.length ≤ 512) (s : List UInt8) : fields8 h m acc a (L ++ 10 :: s) = .bad 80 := by
  unfold fields8
  rw [scan_ten 512 83 s L 0 hb (by omega)]
/-- a field with blanks ahead of its value -/
theorem field_ahead {b n v : List UInt8} (hb : b.all blankB = true) (ht : token n = true) (hv : value v = true) : field8 (n ++ 58 :: (b ++ v)) = ((n, v), 0) := by
  have hm : ∀ c ∈ n, markB c = true := by
    unfold token at ht
    rw [Bool.and_eq_true] at ht
    exact List.all_eq_true.1 ht.1
  have e1 : nameB (n ++ 58 :: (b ++ v)) = n := take_until (fun c hc => by
    have := ((mark_not c).1 (hm c hc)).1
    simpa using this) (by decide)
  have e2 : (n ++ 58 :: (b ++ v)).drop (n.length + 1) = b ++ v := by
    rw [← List.drop_drop, List.drop_left]
    rfl
  have e3 : trim (b ++ v) = v := by
    obtain ⟨h1, h2⟩ := value_ends hv
    unfold trim
    rw [drop_blanks hb h1]
    cases hr : v.reverse with
    | nil =>
      have : v = [] := by simpa using hr
      rw [this]
      rfl
    | cons c r =>
      rw [List.dropWhile_cons_of_neg (by rw [h2 c r hr]; decide), ← hr, List.reverse_reverse]
  unfold field8
  rw [e1, e2, e3, if_pos ⟨by simp, ht, hv⟩]
theorem field_ahead_bare {b n v : List UInt8} (hb : b.all blankB = true) (ht : token n = true) (hv : value v = true) : bare (n ++ 58 :: (b ++ v)) := by
  have := line_bare (b := b) (f := (n, v)) hb ht hv
  intro c hc
  refine this c ?_
  unfold wline
  simp only [List.mem_append, List.mem_cons] at hc ⊢
  rcases hc with h | h | h | h
  · exact .inl h
  · exact .inr (.inl h)
  · exact .inr (.inr (.inl (.inl h)))
  · exact .inr (.inr (.inl (.inr h)))
end Go.Proofs.YtmlpdhmafmdkcaaGreatDoor.HeadLines

/- Paths: what a normal form means, steps in it, what lies under what. No program is named. -/
namespace Go.Proofs.YtmlpdhmafmdkcaaGreatDoor.PathMore
open LexPure Bytes PathPure PathForm

theorem dec_wr {n : Nat} (h : n < 256) (r : List UInt8) : dec (wr n ++ r) = (dec r).map (UInt8.ofNat n :: ·) := by
  unfold wr
  by_cases hp : plainP n = true
  · rw [if_pos hp]
    have := plain_okc h hp
    show dec (UInt8.ofNat n :: r) = _
    rw [dec_cons, if_neg (by simp [this.2.1])]
  · rw [if_neg hp]
    have hd := hx_dig h
    show dec (37 :: hx (n / 16) :: hx (n % 16) :: r) = _
    rw [dec_cons, if_pos (by decide)]
    simp only [hd.1, hd.2.1, Bool.and_self, if_true, hd.2.2]
/-- undoing plain escapes changes nothing of what is meant -/
theorem dec_esc : ∀ (n : Nat) {s t : List UInt8}, s.length ≤ n → esc s = some t → dec s = dec t ∧ ∃ u, dec s = some u
  | _, [], t, _, h => by
    simp only [esc, Option.some.injEq] at h
    subst h
    exact ⟨rfl, [], rfl⟩
  | 0, c :: s, t, hn, _ => by simp at hn
  | n + 1, c :: s, t, hn, h => by
    rw [esc_cons] at h
    split at h
    · rename_i hc
      split at h
      · rename_i h37
        split at h
        · rename_i a b r
          split at h
          · rename_i hab
            obtain ⟨u, hu, rfl⟩ := Option.map_eq_some_iff.1 h
            obtain ⟨ih, v, hv⟩ := dec_esc n (s := r) (by simp at hn; omega) hu
            have hab2 := hab
            rw [Bool.and_eq_true] at hab2
            rw [dec_wr (two_lt hab2.1 hab2.2), ← ih, dec_cons, if_pos h37]
            simp only [hab, if_true, hv]
            exact ⟨trivial, _, rfl⟩
          · cases h
        · cases h
      · rename_i h37
        obtain ⟨u, hu, rfl⟩ := Option.map_eq_some_iff.1 h
        obtain ⟨ih, v, hv⟩ := dec_esc n (s := s) (by simp at hn; omega) hu
        rw [dec_cons, if_neg h37, dec_cons, if_neg h37, ← ih, hv]
        exact ⟨rfl, _, rfl⟩
    · cases h
/-- an escape in what is escaped once hides no plain byte -/
theorem enc_at {p : List UInt8} (h : Enc p) : ∀ i, p[i]? = some 37 → ∃ n r, n < 256 ∧ plainP n = false ∧ p.drop i = 37 :: hx (n / 16) :: hx (n % 16) :: r := by
  induction h with
  | nil => intro i hi; simp at hi
  | one c r hc h37 _ ih =>
    intro i hi
    cases i with
    | zero => simp at hi; simp [hi] at h37
    | succ i => simp at hi; exact ih i hi
  | tri n r hn hp _ ih =>
    intro i hi
    have hk := hx_okc hn
    match i with
    | 0 => exact ⟨n, r, hn, hp, rfl⟩
    | 1 => simp at hi; simp [hi] at hk
    | 2 => simp at hi; simp [hi] at hk
    | i + 3 => simp at hi; exact ih i hi
/-- a letter -/
def small26 (c : UInt8) : Bool := decide (97 ≤ c.toNat) && decide (c.toNat ≤ 122)
theorem small26_ok {c : UInt8} (h : small26 c = true) : okc c = true ∧ (c == 37) = false ∧ (c == 47) = false ∧ (c == 46) = false := by
  have := all_bytes (p := fun c => !small26 c || (okc c && !(c == 37) && !(c == 47) && !(c == 46))) (by decide +kernel) c
  rw [h] at this
  simp only [Bool.not_true, Bool.false_or, Bool.and_eq_true, Bool.not_eq_true'] at this
  exact ⟨this.1.1.1, this.1.1.2, this.1.2, this.2⟩
theorem letters_enc : ∀ {w : List UInt8}, w.all small26 = true → Enc w ∧ noSlash w = true
  | [], _ => ⟨Enc.nil, rfl⟩
  | c :: w, h => by
    rw [List.all_cons, Bool.and_eq_true] at h
    have hc := small26_ok h.1
    have ih := letters_enc h.2
    refine ⟨Enc.one c w hc.1 hc.2.1 ih.1, ?_⟩
    unfold noSlash
    rw [List.all_cons]
    have := ih.2
    unfold noSlash at this
    rw [this]
    simp [bne, hc.2.2.1]
theorem letters_clean {w : List UInt8} (h : w.all small26 = true) : CleanP (120 :: w) := by
  have hw : (120 :: w).all small26 = true := by rw [List.all_cons, h]; decide
  have := letters_enc hw
  exact ⟨by simp [isDot], by simp [isUp], this.2, this.1⟩
theorem finish_open (kept ps : List (List UInt8)) (h : endsOpen ps = true) : finish kept ps = form kept true := by
  unfold finish form
  rw [h, Bool.or_true]
theorem normal_of {s t : List UInt8} {kept : List (List UInt8)} (h1 : escapes s = some t) (h2 : keeps [] (cuts t.tail) = some kept) : normal s = some (finish kept (cuts t.tail)) := by
  unfold normal
  rw [h1]
  simp only
  rw [h2]
section
variable {kept : List (List UInt8)} {tr : Bool} (hf : kept = [] → tr = true) (hc : ∀ p ∈ kept, CleanP p)
include hf hc
/-- a step that stays -/
theorem step_stay : normal (form kept tr ++ [47, 46]) = some (form kept true) := by
  have h1 := escapes_more hf hc (r := [47, 46]) (u := [47, 46]) (by decide)
  have e : cuts (form kept tr ++ [47, 46]).tail = (kept ++ (if tr then [[]] else [])) ++ [[46]] := cuts_more kept tr hf hc [46]
  have h2 : keeps [] (cuts (form kept tr ++ [47, 46]).tail) = some kept := by
    rw [e, keeps_append, keeps_trail kept tr hc]
    simp [keeps, isDot]
  rw [normal_of h1 h2, finish_open]
  rw [e]
  simp [endsOpen, isDot]
/-- a step into a piece and out again -/
theorem step_out {w : List UInt8} (hw : w.all small26 = true) : normal (form kept tr ++ 47 :: ((120 :: w) ++ [47, 46, 46])) = some (form kept true) := by
  have hx := letters_clean hw
  have he : esc (47 :: ((120 :: w) ++ [47, 46, 46])) = some (47 :: ((120 :: w) ++ [47, 46, 46])) := enc_esc (enc_slash (enc_append hx.enc (enc_slash (Enc.one 46 _ (by decide) (by decide) (Enc.one 46 _ (by decide) (by decide) Enc.nil)))))
  have h1 := escapes_more hf hc he
  have e : cuts (form kept tr ++ 47 :: ((120 :: w) ++ [47, 46, 46])).tail = (kept ++ (if tr then [[]] else [])) ++ [120 :: w, [46, 46]] := by
    rw [cuts_more kept tr hf hc, cuts_cut hx.no]
    rfl
  have h2 : keeps [] (cuts (form kept tr ++ 47 :: ((120 :: w) ++ [47, 46, 46])).tail) = some kept := by
    rw [e, keeps_append, keeps_trail kept tr hc]
    show keeps kept [120 :: w, [46, 46]] = _
    rw [keeps, if_neg (by simp [hx.dot]), if_neg (by simp [hx.up]), keeps, if_neg (by decide), if_pos (by decide)]
    simp [keeps]
  rw [normal_of h1 h2, finish_open]
  rw [e]
  simp [endsOpen, isUp]
/-- a slash, a step that stays, and a piece -/
theorem step_in {w : List UInt8} (hw : w.all small26 = true) : normal (form kept tr ++ ([47, 47, 37, 50, 101, 47, 120] ++ w)) = some (form kept true ++ 120 :: w) := by
  have hx := letters_clean hw
  have he0 : esc [47, 47, 37, 50, 101] = some [47, 47, 46] := by decide
  have he1 := esc_append _ (47 :: 120 :: w) (Nat.le_refl _) he0
  rw [enc_esc (enc_slash hx.enc)] at he1
  have he : esc ([47, 47, 37, 50, 101, 47, 120] ++ w) = some (47 :: [47, 46, 47, 120] ++ w) := he1
  have h1 := escapes_more hf hc he
  have ez : form kept tr ++ (47 :: [47, 46, 47, 120] ++ w) = form kept tr ++ 47 :: ([47, 46] ++ 47 :: (120 :: w)) := rfl
  rw [ez] at h1
  have e : cuts (form kept tr ++ 47 :: ([47, 46] ++ 47 :: (120 :: w))).tail = (kept ++ (if tr then [[]] else [])) ++ [[], [46], 120 :: w] := by
    rw [cuts_more kept tr hf hc, cuts_append, cuts_plain (p := 120 :: w) hx.no]
    rfl
  have h2 : keeps [] (cuts (form kept tr ++ 47 :: ([47, 46] ++ 47 :: (120 :: w))).tail) = some (kept ++ [120 :: w]) := by
    rw [e, keeps_append, keeps_trail kept tr hc]
    show keeps kept [[], [46], 120 :: w] = _
    rw [keeps, if_pos (by decide), keeps, if_pos (by decide), keeps, if_neg (by simp [hx.dot]), if_neg (by simp [hx.up]), keeps]
  rw [normal_of h1 h2]
  congr 1
  rw [e]
  have he : endsOpen (kept ++ (if tr then [[]] else []) ++ [[], [46], 120 :: w]) = false := by
    have hl : (kept ++ (if tr then [[]] else []) ++ [[], [46], 120 :: w]).getLastD [] = 120 :: w := by
      rw [List.getLastD_eq_getLast?]
      simp
    unfold endsOpen
    rw [hl, hx.dot, hx.up]
    rfl
  unfold finish form
  rw [he]
  simp [join]
end
/-! ### what lies under what -/
theorem under_self (p : List UInt8) : under p p = true := by simp [under]
theorem under_trans {a b c : List UInt8} (h1 : under a b = true) (h2 : under b c = true) : under a c = true := by
  unfold under at *
  simp only [Bool.and_eq_true, Bool.or_eq_true, beq_iff_eq] at *
  obtain ⟨e1, k1⟩ := h1
  obtain ⟨e2, k2⟩ := h2
  have hl1 : b.length ≤ a.length := by
    have := congrArg List.length e1
    rw [List.length_take] at this
    omega
  have hl2 : c.length ≤ b.length := by
    have := congrArg List.length e2
    rw [List.length_take] at this
    omega
  have e3 : a.take c.length = c := by
    rw [← e1, List.take_take, Nat.min_eq_left hl2] at e2
    exact e2
  refine ⟨e3, ?_⟩
  rcases k2 with (k2 | k2) | k2
  · have : b = c := by rw [← e2, List.take_of_length_le (by omega)]
    rw [← this]
    exact k1
  · have hlt : c.length < b.length := by
      rcases Nat.lt_or_ge c.length b.length with h | h
      · exact h
      · rw [List.getElem?_eq_none h] at k2
        cases k2
    refine .inl (.inr ?_)
    rw [← e1, List.getElem?_take, if_pos hlt] at k2
    exact k2
  · exact .inr k2
end Go.Proofs.YtmlpdhmafmdkcaaGreatDoor.PathMore

/- Layer 11: requests that are written are read back. No program is named. -/
namespace Go.Proofs.YtmlpdhmafmdkcaaGreatDoor.InflowWrit
open Bytes LexPure LexNum LexList FieldsPure HeadPure HeadWrit HeadLines CutAt HeadCut PathPure PathForm HostPure TargetPure FramePure ChunkPure ChunkHex ChunkText InflowPure
set_option maxRecDepth 20000
/-! ### a number in digits -/
def decB (n : Nat) : UInt8 := UInt8.ofNat (48 + n)
def decN (n : Nat) : List UInt8 := if _h : n < 10 then [decB n] else decN (n / 10) ++ [decB (n % 10)]
termination_by n
decreasing_by omega
theorem decN_small {n : Nat} (h : n < 10) : decN n = [decB n] := by
  conv => lhs; unfold decN
  rw [dif_pos h]
theorem decN_more {n : Nat} (h : ¬ n < 10) : decN n = decN (n / 10) ++ [decB (n % 10)] := by
  conv => lhs; unfold decN
  rw [dif_neg h]
theorem decB_say : ∀ n, n < 10 → dig (decB n) = n ∧ (48 ≤ (decB n).toNat ∧ (decB n).toNat ≤ 57) := by
  have : ∀ n : Fin 10, dig (decB n.1) = n.1 ∧ (48 ≤ (decB n.1).toNat ∧ (decB n.1).toNat ≤ 57) := by decide +kernel
  intro n hn
  exact this ⟨n, hn⟩
theorem decN_ne (n : Nat) : decN n ≠ [] := by
  by_cases h : n < 10
  · rw [decN_small h]; simp
  · rw [decN_more h]; simp
theorem decN_val (n : Nat) : numV 10 (decN n) = n := by
  induction n using Nat.strongRecOn with
  | ind n ih =>
    by_cases h : n < 10
    · rw [decN_small h]
      have := (decB_say n h).1
      simp [numV, this]
    · rw [decN_more h, numV_snoc, ih (n / 10) (by omega), (decB_say (n % 10) (by omega)).1]
      omega
theorem decN_all (n : Nat) : ∀ c ∈ decN n, dig c < 10 ∧ 48 ≤ c.toNat ∧ c.toNat ≤ 57 := by
  induction n using Nat.strongRecOn with
  | ind n ih =>
    intro c hc
    by_cases h : n < 10
    · rw [decN_small h, List.mem_singleton] at hc
      subst hc
      obtain ⟨h1, h2⟩ := decB_say n h
      exact ⟨by omega, h2⟩
    · rw [decN_more h, List.mem_append, List.mem_singleton] at hc
      rcases hc with hc | rfl
      · exact ih (n / 10) (by omega) c hc
      · obtain ⟨h1, h2⟩ := decB_say (n % 10) (by omega)
        exact ⟨by omega, h2⟩
theorem decN_len (k : Nat) : ∀ n, n < 10 ^ (k + 1) → (decN n).length ≤ k + 1 := by
  induction k with
  | zero =>
    intro n h
    rw [decN_small (by omega)]
    exact Nat.le_refl _
  | succ k ih =>
    intro n h
    by_cases h2 : n < 10
    · rw [decN_small h2]
      simp
    · rw [decN_more h2, List.length_append, List.length_singleton]
      have := ih (n / 10) (by rw [Nat.pow_succ] at h; omega)
      omega
theorem dec_byte (c : UInt8) (h : 48 ≤ c.toNat ∧ c.toNat ≤ 57) : plainB c = true ∧ blankB c = false ∧ (c != 44) = true ∧ okc c = true ∧ (c == 37) = false ∧ (c != 47) = true ∧ (c != 46) = true ∧ (c != 63) = true ∧ seenB c = true := by
  have := all_bytes (p := fun c => !(decide (48 ≤ c.toNat) && decide (c.toNat ≤ 57)) || (plainB c && !blankB c && (c != 44) && okc c && !(c == 37) && (c != 47) && (c != 46) && (c != 63) && seenB c)) (by decide +kernel) c
  simp only [h.1, h.2, decide_true, Bool.and_true, Bool.not_true, Bool.false_or, Bool.and_eq_true, Bool.not_eq_true'] at this
  obtain ⟨⟨⟨⟨⟨⟨⟨⟨h1, h2⟩, h3⟩, h4⟩, h5⟩, h6⟩, h7⟩, h8⟩, h9⟩ := this
  exact ⟨h1, h2, h3, h4, h5, h6, h7, h8, h9⟩
theorem dec_trim (n : Nat) : trim (decN n) = decN n := trim_id
  (fun c r e => (dec_byte c (decN_all n c (by rw [e]; exact List.mem_cons_self)).2).2.1)
  (fun c r e => (dec_byte c (decN_all n c (by rw [← List.mem_reverse, e]; exact List.mem_cons_self)).2).2.1)
theorem dec_value (n : Nat) : value (decN n) = true := by
  unfold value
  have hp : (decN n).all plainB = true := List.all_eq_true.2 (fun c hc => (dec_byte c (decN_all n c hc).2).1)
  rw [hp, Bool.true_and]
  cases h : decN n with
  | nil => exact absurd h (decN_ne n)
  | cons c r =>
    have h1 := (dec_byte c (decN_all n c (by rw [h]; exact List.mem_cons_self)).2).2.1
    have hl : (c :: r).getLastD 0 ∈ c :: r := by
      rw [List.getLastD_eq_getLast?, List.getLast?_eq_some_getLast (List.cons_ne_nil c r)]
      exact List.getLast_mem _
    have h2 := (dec_byte _ (decN_all n ((c :: r).getLastD 0) (by rw [h]; exact hl)).2).2.1
    rw [List.headD_cons, h1, h2]
    rfl
theorem dec_pieces (n : Nat) : pieces (decN n) = [decN n] := pieces_plain (List.all_eq_true.2 (fun c hc => (dec_byte c (decN_all n c hc).2).2.2.1))
theorem dec_num {n : Nat} (h : n < 1000000000000000) : numOk 10 15 (decN n) = true ∧ numR 10 15 (decN n) = n := by
  have hok : numOk 10 15 (decN n) = true := by
    unfold numOk
    have h1 : (decN n).isEmpty = false := by
      cases q : decN n with
      | nil => exact absurd q (decN_ne n)
      | cons => rfl
    have h2 := decN_len 14 n h
    have h3 : (decN n).all (fun c => decide (dig c < 10)) = true := List.all_eq_true.2 (fun c hc => decide_eq_true (decN_all n c hc).1)
    rw [h1, h3, decide_eq_true (by omega)]
    rfl
  refine ⟨hok, ?_⟩
  unfold numR
  rw [if_pos hok, decN_val]
/-! ### the framing -/
def HOSTF : HField := ([72, 111, 115, 116], [104])
def CLN : List UInt8 := [67, 111, 110, 116, 101, 110, 116, 45, 76, 101, 110, 103, 116, 104]
def TEF : HField := ([84, 114, 97, 110, 115, 102, 101, 114, 45, 69, 110, 99, 111, 100, 105, 110, 103], [99, 104, 117, 110, 107, 101, 100])
theorem frame_len {n : Nat} (h : n < 1000000000000000) (most : Int) : request9 1 [HOSTF, (CLN, decN n)] most = if most < (n : Int) then (0, 0, 101) else (2, (n : Int), 0) := by
  obtain ⟨h1, h2⟩ := dec_num h
  have t1 : getN [HOSTF, (CLN, decN n)] TENC = 0 := rfl
  have t2 : getN [HOSTF, (CLN, decN n)] CLEN = 1 := rfl
  have t3 : lens [HOSTF, (CLN, decN n)] = [decN n] := by
    show ((pieces (decN n)).map trim) ++ [] = _
    rw [dec_pieces, List.append_nil, List.map_singleton, dec_trim]
  have t4 : lenN [HOSTF, (CLN, decN n)] = n := by
    unfold lenN
    rw [t3]
    unfold lenFrom lenStep
    rw [if_pos ⟨h1, .inl (by decide)⟩, h2]
    rfl
  unfold request9
  rw [t1, t2, t4, if_neg (by decide), if_neg (by decide), if_neg (by omega)]
theorem frame_chunks (most : Int) : request9 1 [HOSTF, TEF] most = (3, 0, 0) := by
  unfold request9
  rw [if_pos (by decide), if_neg (by decide), if_neg (by decide)]
theorem host_len (m t : List UInt8) (x : List UInt8) (T : Tgt) (hT : T.form = 1) : host11 ⟨m, t, 0, [], 1, [HOSTF, (CLN, x)]⟩ T = some ([104], authP [104]) := by
  have t1 : getN [HOSTF, (CLN, x)] HOSTN = 1 := rfl
  have t2 : getV [HOSTF, (CLN, x)] HOSTN = [104] := rfl
  unfold host11
  dsimp only
  rw [t1, t2, if_neg (by decide), if_neg (by decide), hT, if_neg (by decide), if_neg (by decide)]
  rfl
theorem host_chunks (m t : List UInt8) (T : Tgt) (hT : T.form = 1) : host11 ⟨m, t, 0, [], 1, [HOSTF, TEF]⟩ T = some ([104], authP [104]) := by
  unfold host11
  dsimp only
  rw [if_neg (by decide), if_neg (by decide), hT, if_neg (by decide), if_neg (by decide)]
  rfl
/-! ### bodies in chunks -/
theorem back_most {most : Int} (T : List (List UInt8)) (x : List UInt8) (h : ∀ t ∈ T, t.length < 4294967296) (hm : (T.flatten.length : Int) ≤ most) : ans (begin_ most) (T.flatMap enc ++ lastL ++ x) = (T.flatten, (T.flatMap enc ++ lastL).length, true, 0) := by
  have h1 := run_many T most 0 h (.inl (by omega))
  have h2 : run (begin_ most) (T.flatMap enc ++ lastL ++ x) = (⟨most, T.flatten.length, .done, [], false⟩, T.flatten, (T.flatMap enc ++ lastL).length) := by
    rw [List.append_assoc, run_append]
    rw [show begin_ most = at_ most 0 from rfl, h1]
    simp only
    rw [Nat.zero_add, run_last (by omega)]
    simp [lastL]
  unfold ans
  rw [h2]
theorem over_most {most : Int} (T : List (List UInt8)) (x : List UInt8) (h : ∀ t ∈ T, t.length < 4294967296) (h0 : 0 ≤ most) (hm : most < T.flatten.length) : (ans (begin_ most) (T.flatMap enc ++ x)).2.2.2 = 101 := by
  have := back_over T most 0 x h (by omega) (by omega)
  unfold ans
  rw [show begin_ most = at_ most 0 from rfl, this]
/-- a body in pieces of k bytes -/
def chop (k : Nat) (l : List UInt8) : List (List UInt8) := if _h : l = [] ∨ k = 0 then [] else l.take k :: chop k (l.drop k)
termination_by l.length
decreasing_by
  rw [List.length_drop]
  have : 0 < l.length := List.length_pos_iff.2 (fun e => _h (.inl e))
  omega
theorem chop_nil (k : Nat) : chop k [] = [] := by
  unfold chop
  rw [dif_pos (.inl rfl)]
theorem chop_more {k : Nat} {l : List UInt8} (hk : k ≠ 0) (hl : l ≠ []) : chop k l = l.take k :: chop k (l.drop k) := by
  conv => lhs; unfold chop
  rw [dif_neg (by intro h; rcases h with h | h; exact hl h; exact hk h)]
theorem chop_say {k : Nat} (hk : k ≠ 0) : ∀ (n : Nat) (l : List UInt8), l.length ≤ n → (chop k l).flatten = l ∧ ∀ t ∈ chop k l, t.length ≤ l.length
  | 0, l, h => by
    have : l = [] := List.length_eq_zero_iff.1 (by omega)
    subst this
    rw [chop_nil]
    exact ⟨rfl, fun t ht => by cases ht⟩
  | n + 1, l, h => by
    by_cases h0 : l = []
    · subst h0
      rw [chop_nil]
      exact ⟨rfl, fun t ht => by cases ht⟩
    · have hp : 0 < l.length := List.length_pos_iff.2 h0
      obtain ⟨h1, h2⟩ := chop_say hk n (l.drop k) (by rw [List.length_drop]; omega)
      rw [chop_more hk h0]
      refine ⟨by rw [List.flatten_cons, h1, List.take_append_drop], fun t ht => ?_⟩
      rcases List.mem_cons.1 ht with rfl | ht
      · rw [List.length_take]
        omega
      · have := h2 t ht
        rw [List.length_drop] at this
        omega
/-! ### the target -/
def plain47 (c : UInt8) : Bool := (decide (48 ≤ c.toNat) && decide (c.toNat ≤ 57)) || (decide (97 ≤ c.toNat) && decide (c.toNat ≤ 122))
theorem plain47_say (c : UInt8) (h : plain47 c = true) : okc c = true ∧ (c == 37) = false ∧ (c != 47) = true ∧ (c != 46) = true ∧ (c != 63) = true ∧ seenB c = true := by
  have := all_bytes (p := fun c => !plain47 c || (okc c && !(c == 37) && (c != 47) && (c != 46) && (c != 63) && seenB c)) (by decide +kernel) c
  simp only [h, Bool.not_true, Bool.false_or, Bool.and_eq_true, Bool.not_eq_true'] at this
  obtain ⟨⟨⟨⟨⟨h1, h2⟩, h3⟩, h4⟩, h5⟩, h6⟩ := this
  exact ⟨h1, h2, h3, h4, h5, h6⟩
theorem plain47_enc : ∀ (l : List UInt8), (∀ c ∈ l, plain47 c = true) → Enc l
  | [], _ => .nil
  | c :: l, h => by
    obtain ⟨h1, h2, _⟩ := plain47_say c (h c List.mem_cons_self)
    exact .one c l h1 h2 (plain47_enc l (fun x hx => h x (List.mem_cons_of_mem _ hx)))
theorem path_plain {l : List UInt8} (h0 : l ≠ []) (h : ∀ c ∈ l, plain47 c = true) : normal (47 :: l) = some (47 :: l) := by
  have hc : CleanP l := by
    refine ⟨?_, ?_, List.all_eq_true.2 (fun c hc => (plain47_say c (h c hc)).2.2.1), plain47_enc l h⟩
    · unfold isDot
      cases l with
      | nil => exact absurd rfl h0
      | cons c r =>
        have := (plain47_say c (h c List.mem_cons_self)).2.2.2.1
        have h2 : c ≠ 46 := by simpa using this
        simp [h2]
    · unfold isUp
      cases l with
      | nil => exact absurd rfl h0
      | cons c r =>
        have := (plain47_say c (h c List.mem_cons_self)).2.2.2.1
        have h2 : c ≠ 46 := by simpa using this
        simp [h2]
  have := normal_fixed (kept := [l]) (tr := false) (fun e => by cases e) (fun p hp => by rw [List.mem_singleton] at hp; rw [hp]; exact hc)
  simpa [form, join] using this
theorem parse_plain {m l : List UInt8} (hm : m ≠ TargetPure.CONNECT) (h0 : l ≠ []) (h : ∀ c ∈ l, plain47 c = true) : parse6 m (47 :: l) = (⟨1, [], 0, 47 :: l, [], false⟩, 0) := by
  have ha : aheadOf 63 (47 :: l) = 47 :: l ∧ behind 63 (47 :: l) = [] ∧ hasB 63 (47 :: l) = false := cut_none (fun c hc => by
    rcases List.mem_cons.1 hc with rfl | hc
    · decide
    · have := (plain47_say c (h c hc)).2.2.2.2.1
      simpa using this)
  unfold parse6
  have hb : (m == TargetPure.CONNECT) = false := by simpa using hm
  rw [hb]
  simp only [Bool.false_eq_true, if_false]
  have hs : ((47 :: l) == [42]) = false := by simp
  rw [hs]
  simp only [Bool.false_eq_true, if_false, List.head?_cons, beq_self_eq_true, if_true]
  unfold local6
  rw [ha.1, ha.2.1, ha.2.2, path_plain h0 h]
  rfl
theorem parse_root {m : List UInt8} (hm : m ≠ TargetPure.CONNECT) : parse6 m [47] = (⟨1, [], 0, [47], [], false⟩, 0) := by
  unfold parse6
  have hb : (m == TargetPure.CONNECT) = false := by simpa using hm
  rw [hb]
  rfl
/-! ### a whole request, as the law writes it -/
def LEN_ (n : Nat) : List UInt8 := CLN ++ 58 :: ([32] ++ decN n)
def HOST_ : List UInt8 := [72, 111, 115, 116] ++ 58 :: ([32] ++ [104])
def TE_ : List UInt8 := TEF.1 ++ 58 :: ([32] ++ TEF.2)
theorem len_line (n : Nat) : field8 (LEN_ n) = ((CLN, decN n), 0) := field_ahead (by decide) (by decide) (dec_value n)
theorem host_line : field8 HOST_ = (HOSTF, 0) := field_ahead (by decide) (by decide) (by decide)
theorem te_line : field8 TE_ = (TEF, 0) := field_ahead (by decide) (by decide) (by decide)
theorem len_bare (n : Nat) : bare (LEN_ n) := field_ahead_bare (by decide) (by decide) (dec_value n)
theorem host_bare : bare HOST_ := field_ahead_bare (by decide) (by decide) (by decide)
theorem te_bare : bare TE_ := field_ahead_bare (by decide) (by decide) (by decide)
/-- the text -/
def wr11 (m t body : List UInt8) (k : Int) : List UInt8 :=
  if k < 1 then startL m t ++ [13, 10] ++ HOST_ ++ [13, 10] ++ LEN_ body.length ++ [13, 10, 13, 10] ++ body
  else startL m t ++ [13, 10] ++ HOST_ ++ [13, 10] ++ TE_ ++ [13, 10, 13, 10] ++ ((chop k.toNat body).flatMap enc ++ lastL)
/-- the request -/
def rq11 (m t body : List UInt8) (k : Int) : Rq :=
  if k < 1 then ⟨⟨m, t, 0, [], 1, [HOSTF, (CLN, decN body.length)]⟩, ⟨1, [], 0, t, [], false⟩, [104], authP [104], body, true, keep9 1 [HOSTF, (CLN, decN body.length)], []⟩
  else ⟨⟨m, t, 0, [], 1, [HOSTF, TEF]⟩, ⟨1, [], 0, t, [], false⟩, [104], authP [104], body, true, keep9 1 [HOSTF, TEF], []⟩
structure Wr (m t body : List UInt8) : Prop where
  m1 : token m = true
  m2 : m.length ≤ 16
  m3 : m ≠ TargetPure.CONNECT
  t1 : t.all seenB = true
  t2 : 0 < t.length
  t3 : t.length ≤ 1024
  t4 : parse6 m t = (⟨1, [], 0, t, [], false⟩, 0)
  b1 : body.length < 1000000000
theorem head_len {m t body : List UInt8} (h : Wr m t body) (x : List UInt8) : read8 false (startL m t ++ [13, 10] ++ HOST_ ++ [13, 10] ++ LEN_ body.length ++ [13, 10, 13, 10] ++ x) =
    .done ⟨m, t, 0, [], 1, [HOSTF, (CLN, decN body.length)]⟩ (startL m t ++ [13, 10] ++ HOST_ ++ [13, 10] ++ LEN_ body.length ++ [13, 10, 13, 10]).length := by
  have hl : (LEN_ body.length).length ≤ 512 ∧ 0 < (LEN_ body.length).length := by
    have := decN_len 14 body.length (by have := h.b1; omega)
    unfold LEN_ CLN
    simp only [List.length_append, List.length_cons, List.length_nil]
    omega
  have e : startL m t ++ [13, 10] ++ HOST_ ++ [13, 10] ++ LEN_ body.length ++ [13, 10, 13, 10] ++ x = startL m t ++ 13 :: 10 :: (HOST_ ++ 13 :: 10 :: (LEN_ body.length ++ 13 :: 10 :: (13 :: 10 :: x))) := by simp
  rw [e, read_start h.m1 h.m2 h.t1 h.t2 h.t3]
  rw [show (32 : Nat) = 31 + 1 from rfl, fields_line _ 31 _ _ host_bare (by decide) (by decide), host_line, if_pos rfl]
  rw [show (31 : Nat) = 30 + 1 from rfl, fields_line _ 30 _ _ (len_bare _) hl.2 hl.1, len_line, if_pos rfl, fields_end]
  congr 1
  simp only [List.length_append, List.length_cons, List.length_nil]
theorem head_te {m t body : List UInt8} (h : Wr m t body) (x : List UInt8) : read8 false (startL m t ++ [13, 10] ++ HOST_ ++ [13, 10] ++ TE_ ++ [13, 10, 13, 10] ++ x) =
    .done ⟨m, t, 0, [], 1, [HOSTF, TEF]⟩ (startL m t ++ [13, 10] ++ HOST_ ++ [13, 10] ++ TE_ ++ [13, 10, 13, 10]).length := by
  have e : startL m t ++ [13, 10] ++ HOST_ ++ [13, 10] ++ TE_ ++ [13, 10, 13, 10] ++ x = startL m t ++ 13 :: 10 :: (HOST_ ++ 13 :: 10 :: (TE_ ++ 13 :: 10 :: (13 :: 10 :: x))) := by simp
  rw [e, read_start h.m1 h.m2 h.t1 h.t2 h.t3]
  rw [show (32 : Nat) = 31 + 1 from rfl, fields_line _ 31 _ _ host_bare (by decide) (by decide), host_line, if_pos rfl]
  rw [show (31 : Nat) = 30 + 1 from rfl, fields_line _ 30 _ _ te_bare (by decide) (by decide), te_line, if_pos rfl, fields_end]
  congr 1
  simp only [List.length_append, List.length_cons, List.length_nil]
/-- what is written is read -/
theorem read_wr {m t body : List UInt8} (h : Wr m t body) (k most : Int) (h0 : 0 ≤ most) (x : List UInt8) :
    read11 most (wr11 m t body k ++ x) = if (body.length : Int) ≤ most then .whole (rq11 m t body k) (wr11 m t body k).length else .fail 413 := by
  by_cases hk : k < 1
  · unfold wr11 rq11
    rw [if_pos hk, if_pos hk, List.append_assoc]
    unfold read11
    rw [head_len h (body ++ x)]
    dsimp only
    rw [← List.append_assoc, List.append_assoc _ body x, List.drop_left]
    unfold rest11
    dsimp only
    rw [h.t4]
    dsimp only
    rw [if_neg (by decide), host_len m t _ _ rfl]
    dsimp only
    rw [if_neg (by show ¬ 0 < getN [HOSTF, (CLN, decN body.length)] EXPECT; rw [show getN [HOSTF, (CLN, decN body.length)] EXPECT = 0 from rfl]; decide)]
    have hf := frame_len (n := body.length) (by have := h.b1; omega) most
    by_cases hm : (body.length : Int) ≤ most
    · rw [if_neg (by omega)] at hf
      rw [hf, if_pos hm]
      dsimp only
      rw [if_neg (by decide), if_neg (by intro q; exact h.m3 q.1)]
      unfold body11
      rw [if_neg (by decide), if_pos rfl, if_neg (by rw [List.length_append]; omega)]
      rw [Int.toNat_natCast, List.take_left, ← List.length_append]
      unfold up11
      dsimp only
      rw [if_neg (by rintro ⟨_, _, q, _⟩; cases q)]
      rfl
    · rw [if_pos (by omega)] at hf
      rw [hf, if_neg hm]
      dsimp only
      rw [if_pos (by decide)]
      rfl
  · unfold wr11 rq11
    rw [if_neg hk, if_neg hk, List.append_assoc]
    unfold read11
    rw [head_te h]
    dsimp only
    rw [← List.append_assoc, List.append_assoc _ ((chop k.toNat body).flatMap enc ++ lastL) x, List.drop_left]
    unfold rest11
    dsimp only
    rw [h.t4]
    dsimp only
    rw [if_neg (by decide), host_chunks m t _ rfl]
    dsimp only
    rw [if_neg (by decide), frame_chunks]
    dsimp only
    rw [if_neg (by decide), if_neg (by intro q; exact h.m3 q.1)]
    obtain ⟨c1, c2⟩ := chop_say (k := k.toNat) (by omega) body.length body (Nat.le_refl _)
    have c3 : ∀ p ∈ chop k.toNat body, p.length < 4294967296 := fun p hp => by have := c2 p hp; have := h.b1; omega
    unfold body11
    rw [if_neg (by decide), if_neg (by decide)]
    by_cases hm : (body.length : Int) ≤ most
    · rw [back_most _ x c3 (by rw [c1]; exact hm), if_pos hm]
      dsimp only
      rw [if_neg (by decide), if_pos rfl, c1, ← List.length_append]
      unfold up11
      dsimp only
      rw [if_neg (by rintro ⟨_, _, q, _⟩; cases q)]
      rfl
    · rw [List.append_assoc, over_most _ _ c3 h0 (by rw [c1]; omega), if_neg hm, if_pos (by decide)]
      rfl
end Go.Proofs.YtmlpdhmafmdkcaaGreatDoor.InflowWrit

/- Layer 11: what a request that is told says. No program is named. -/
namespace Go.Proofs.YtmlpdhmafmdkcaaGreatDoor.InflowWholeP
open Bytes LexPure LexNum LexList FieldsPure HeadPure HeadWrit HeadLines CutAt HeadCut PathPure PathForm HostPure TargetPure FramePure ChunkPure ChunkHex ChunkText InflowPure
set_option maxRecDepth 20000
theorem host_ne {s h : List UInt8} {p : Int} (e : authO s = some (h, p)) : h ≠ [] := by
  have := (authO_some e).1
  intro q
  rw [q] at this
  exact absurd this (by decide)
theorem local_host (t : Tgt) (s : List UInt8) (h : (local6 t s).2 = 0) : (local6 t s).1.host = t.host ∧ (local6 t s).1.form = t.form := by
  unfold local6 at h ⊢
  cases hn : normal (aheadOf 63 s) with
  | none => rw [hn] at h; cases h
  | some p =>
    rw [hn] at h
    dsimp only at h ⊢
    by_cases hq : qok (behind 63 s) = true
    · rw [if_pos hq]
      exact ⟨rfl, rfl⟩
    · rw [if_neg hq] at h
      cases h
theorem parse_host {m s : List UInt8} (h0 : (parse6 m s).2 = 0) (hf : (parse6 m s).1.form = 2 ∨ (parse6 m s).1.form = 3) : (parse6 m s).1.host ≠ [] := by
  unfold parse6 at *
  by_cases h1 : (m == TargetPure.CONNECT) = true
  · rw [if_pos h1] at *
    unfold remote6 at *
    cases ha : authO s with
    | none => rw [ha] at h0; cases h0
    | some q =>
      obtain ⟨h, p⟩ := q
      rw [ha] at h0
      dsimp only at h0 ⊢
      by_cases hp : p = 0
      · rw [if_pos hp] at h0
        cases h0
      · rw [if_neg hp]
        exact host_ne ha
  rw [if_neg h1] at *
  by_cases h2 : (s == [42]) = true
  · rw [if_pos h2] at *
    unfold star6 at *
    split at hf
    · rcases hf with h | h <;> cases h
    · rcases hf with h | h <;> cases h
  rw [if_neg h2] at *
  by_cases h3 : (s.head? == some 47) = true
  · rw [if_pos h3] at *
    have := (local_host _ _ h0).2
    rw [this] at hf
    rcases hf with h | h <;> cases h
  rw [if_neg h3] at *
  by_cases h4 : hasScheme s = true
  · rw [if_pos h4] at *
    unfold absolute6 at *
    cases ha : authO (inA (s.drop 7)) with
    | none => rw [ha] at h0; cases h0
    | some q =>
      obtain ⟨h, p⟩ := q
      rw [ha] at h0
      dsimp only at h0 ⊢
      rw [(local_host _ _ h0).1]
      exact host_ne ha
  · rw [if_neg h4] at h0
    cases h0
/-- what InflowWhole asks -/
structure Whole (most : Int) (q : Rq) : Prop where
  frame : (request9 q.head.minor q.head.fields most).2.2 = 0
  bound : (q.body.length : Int) ≤ most ∨ q.body = []
  sized : q.sized = decide ((request9 q.head.minor q.head.fields most).1 ≠ 1)
  len : (request9 q.head.minor q.head.fields most).1 = 2 → (q.body.length : Int) = (request9 q.head.minor q.head.fields most).2.1
  none : (request9 q.head.minor q.head.fields most).1 = 1 → q.body = []
  host : 0 < q.head.minor → q.host ≠ []
  expect : getN q.head.fields EXPECT = 0
  up : q.upgrade ≠ [] → (request9 q.head.minor q.head.fields most).1 = 1 ∧ q.head.method = GET
theorem frame_len0 (minor : Int) (G : List HField) (most : Int) (h : (request9 minor G most).1 = 2) : 0 ≤ (request9 minor G most).2.1 ∧ (request9 minor G most).2.1 ≤ most := by
  unfold request9 at *
  by_cases h1 : 0 < getN G TENC
  · rw [if_pos h1] at h
    split at h
    · cases h
    · split at h <;> cases h
  rw [if_neg h1] at *
  by_cases h2 : getN G CLEN = 0
  · rw [if_pos h2] at h
    cases h
  rw [if_neg h2] at *
  by_cases h3 : lenN G < 0
  · rw [if_pos h3] at h
    cases h
  rw [if_neg h3] at *
  by_cases h4 : most < lenN G
  · rw [if_pos h4] at h
    cases h
  · rw [if_neg h4]
    dsimp only
    omega
theorem body_whole {q q' : Rq} {n n' : Nat} {kind len most : Int} {D : List UInt8} (h : body11 q n kind len most D = .whole q' n') (hb : q.body = []) (hl : kind = 2 → 0 ≤ len ∧ len ≤ most) :
    ∃ b, q' = { q with body := b } ∧ ((b.length : Int) ≤ most ∨ b = []) ∧ (kind = 2 → (b.length : Int) = len) ∧ (kind = 1 → b = []) := by
  unfold body11 at h
  by_cases h1 : kind = 1
  · rw [if_pos h1] at h
    injection h with e1 e2
    refine ⟨[], by rw [← e1, ← hb], .inr rfl, fun e => by omega, fun _ => rfl⟩
  rw [if_neg h1] at h
  by_cases h2 : kind = 2
  · rw [if_pos h2] at h
    obtain ⟨l1, l2⟩ := hl h2
    by_cases h3 : (D.length : Int) < len
    · rw [if_pos h3] at h
      cases h
    · rw [if_neg h3] at h
      injection h with e1 e2
      have : (D.take len.toNat).length = len.toNat := by rw [List.length_take]; omega
      exact ⟨_, e1.symm, .inl (by omega), fun _ => by omega, fun e => absurd e h1⟩
  rw [if_neg h2] at h
  by_cases h4 : (ans (begin_ most) D).2.2.2 ≠ 0
  · rw [if_pos h4] at h
    cases h
  rw [if_neg h4] at h
  by_cases h5 : (ans (begin_ most) D).2.2.1 = true
  · rw [if_pos h5] at h
    injection h with e1 e2
    refine ⟨_, e1.symm, ?_, fun e => absurd e h2, fun e => absurd e h1⟩
    have hs := ans_size (begin_ most) D
    have ho := ((Ok.start most).run D).most
    have hm := (run_size (begin_ most) D).2
    have h0 : (begin_ most).size = 0 := rfl
    have h00 : (begin_ most).most = most := rfl
    unfold next at hs
    rw [hm, h00] at ho
    rcases ho with ho | ho
    · left
      omega
    · right
      exact List.length_eq_zero_iff.1 (by omega)
  · rw [if_neg h5] at h
    cases h
theorem whole_say {most : Int} {D : List UInt8} {q : Rq} {n : Nat} (h : read11 most D = .whole q n) : Whole most q := by
  unfold read11 at h
  cases hr : read8 false D with
  | wait => rw [hr] at h; cases h
  | bad e => rw [hr] at h; cases h
  | done hd k =>
    rw [hr] at h
    dsimp only at h
    unfold rest11 at h
    by_cases h1 : (parse6 hd.method hd.target).2 ≠ 0
    · rw [if_pos h1] at h
      cases h
    rw [if_neg h1] at h
    have h1' : (parse6 hd.method hd.target).2 = 0 := Classical.not_not.1 h1
    cases hh : host11 hd (parse6 hd.method hd.target).1 with
    | none => rw [hh] at h; cases h
    | some p =>
      obtain ⟨hn, hp⟩ := p
      rw [hh] at h
      dsimp only at h
      by_cases h2 : 0 < getN hd.fields EXPECT
      · rw [if_pos h2] at h
        cases h
      rw [if_neg h2] at h
      by_cases h3 : (request9 hd.minor hd.fields most).2.2 ≠ 0
      · rw [if_pos h3] at h
        cases h
      rw [if_neg h3] at h
      by_cases h4 : hd.method = TargetPure.CONNECT ∧ (request9 hd.minor hd.fields most).1 ≠ 1
      · rw [if_pos h4] at h
        cases h
      rw [if_neg h4] at h
      obtain ⟨b, e, b1, b2, b3⟩ := body_whole h rfl (fun hk => frame_len0 _ _ _ hk)
      subst e
      refine ⟨Classical.not_not.1 h3, b1, rfl, b2, b3, fun hm => ?_, by show getN hd.fields EXPECT = 0; omega, fun hu => ?_⟩
      · show hn ≠ []
        unfold host11 at hh
        by_cases g1 : 1 < getN hd.fields HOSTN ∨ (getN hd.fields HOSTN = 0 ∧ 0 < hd.minor)
        · rw [if_pos g1] at hh
          cases hh
        rw [if_neg g1] at hh
        have g2 : getN hd.fields HOSTN = 1 := by
          have hm2 : 0 < hd.minor := hm
          have q1 : ¬ 1 < getN hd.fields HOSTN := fun q => g1 (.inl q)
          have q2 : getN hd.fields HOSTN ≠ 0 := fun q => g1 (.inr ⟨q, hm2⟩)
          omega
        by_cases g3 : getN hd.fields HOSTN = 1 ∧ authE (getV hd.fields HOSTN) ≠ 0
        · rw [if_pos g3] at hh
          cases hh
        rw [if_neg g3] at hh
        by_cases g4 : (parse6 hd.method hd.target).1.form = 2 ∨ (parse6 hd.method hd.target).1.form = 3
        · rw [if_pos g4] at hh
          injection hh with hh
          injection hh with e1 e2
          rw [← e1]
          exact parse_host h1' g4
        · rw [if_neg g4, if_neg (by omega)] at hh
          injection hh with hh
          injection hh with e1 e2
          rw [← e1]
          have g5 : authE (getV hd.fields HOSTN) = 0 := by
            have q : ¬ authE (getV hd.fields HOSTN) ≠ 0 := fun q => g3 ⟨g2, q⟩
            exact Classical.not_not.1 q
          cases ha : authO (getV hd.fields HOSTN) with
          | none =>
            unfold authE at g5
            rw [ha] at g5
            cases g5
          | some p =>
            obtain ⟨x, y⟩ := p
            rw [(auth_some ha).1]
            exact host_ne ha
      · have hu2 : up11 hd (request9 hd.minor hd.fields most).1 ≠ [] := hu
        unfold up11 at hu2
        by_cases g : hd.method = GET ∧ 0 < hd.minor ∧ (request9 hd.minor hd.fields most).1 = 1 ∧ (elems hd.fields UPG).length = 1 ∧ hasE hd.fields CONNECTION UPG = true
        · exact ⟨g.2.2.1, g.1⟩
        · rw [if_neg g] at hu2
          exact absurd rfl hu2
end Go.Proofs.YtmlpdhmafmdkcaaGreatDoor.InflowWholeP

/- Layer 8: a head that is read is short, and its fields are few. No program is named. -/
namespace Go.Proofs.YtmlpdhmafmdkcaaGreatDoor.HeadFew
open LexPure Bytes FieldsPure HeadPure HostPure TargetPure FramePure ChunkPure InflowPure
set_option maxRecDepth 20000
def short (f : HField) : Prop := f.1.length ≤ 512 ∧ f.2.length ≤ 512
theorem field_short (l : List UInt8) (h : l.length ≤ 512) : short (field8 l).1 := by
  unfold field8
  split
  · refine ⟨?_, ?_⟩
    · have : (nameB l).length ≤ l.length := (List.takeWhile_prefix _).length_le
      show (nameB l).length ≤ 512
      omega
    · have h1 := trim_length (l.drop ((nameB l).length + 1))
      rw [List.length_drop] at h1
      show (trim _).length ≤ 512
      omega
  · exact ⟨Nat.zero_le _, Nat.zero_le _⟩
theorem fields_few (h : H8) : ∀ (m : Nat) (acc : List HField) (a : Nat) (s : List UInt8) (h' : H8) (n : Nat), fields8 h m acc a s = .done h' n → (∀ f ∈ acc, short f) →
    a + 2 ≤ n ∧ h'.fields.length ≤ acc.length + m ∧ ∀ f ∈ h'.fields, short f := by
  intro m
  induction m with
  | zero =>
    intro acc a s h' n hd ha
    unfold fields8 at hd
    cases hs : scan 512 83 0 s with
    | wait => rw [hs] at hd; cases hd
    | bad e => rw [hs] at hd; cases hd
    | whole k =>
      rw [hs] at hd
      dsimp only at hd
      by_cases hk : k = 0
      · rw [if_pos hk] at hd
        injection hd with e1 e2
        subst e1
        exact ⟨by omega, Nat.le_refl _, ha⟩
      · rw [if_neg hk] at hd
        cases hd
  | succ m ih =>
    intro acc a s h' n hd ha
    unfold fields8 at hd
    cases hs : scan 512 83 0 s with
    | wait => rw [hs] at hd; cases hd
    | bad e => rw [hs] at hd; cases hd
    | whole k =>
      rw [hs] at hd
      dsimp only at hd
      by_cases hk : k = 0
      · rw [if_pos hk] at hd
        injection hd with e1 e2
        subst e1
        exact ⟨by omega, by show acc.length ≤ _; omega, ha⟩
      · rw [if_neg hk] at hd
        by_cases hf : (field8 (s.take k)).2 = 0
        · rw [if_pos hf] at hd
          obtain ⟨l, q, e, hk2, _, hb⟩ := scan_whole 512 83 s 0 k hs
          have hkl : k ≤ 512 := by omega
          obtain ⟨h1, h2, h3⟩ := ih _ _ _ _ _ hd (fun f hf => by
            rcases List.mem_append.1 hf with hf | hf
            · exact ha f hf
            · rw [List.mem_singleton] at hf
              subst hf
              exact field_short _ (by rw [List.length_take]; omega))
          refine ⟨by omega, ?_, h3⟩
          rw [List.length_append, List.length_singleton] at h2
          omega
        · rw [if_neg hf] at hd
          cases hd
/-- what a head that is read says -/
theorem read_few {s : List UInt8} {h : H8} {n : Nat} (hd : read8 false s = .done h n) : 5 ≤ n ∧ h.fields.length ≤ 32 ∧ ∀ f ∈ h.fields, short f := by
  unfold read8 skipOf at hd
  simp only [Bool.false_eq_true, if_false] at hd
  unfold from8 at hd
  cases hs : scan 1100 82 0 (s.drop (skip8 s)) with
  | wait => rw [hs] at hd; cases hd
  | bad e => rw [hs] at hd; cases hd
  | whole k =>
    rw [hs] at hd
    simp only [Bool.false_eq_true, if_false] at hd
    by_cases hx : (start8 ((s.drop (skip8 s)).take k)).2 = 0
    · rw [if_pos hx] at hd
      have hk : k ≠ 0 := by
        intro e
        rw [e, List.take_zero] at hx
        exact absurd hx start_nil
      obtain ⟨h1, h2, h3⟩ := fields_few _ _ _ _ _ _ _ hd (fun f hf => by cases hf)
      exact ⟨by omega, by simpa using h2, h3⟩
    · rw [if_neg hx] at hd
      cases hd
theorem rest_head {h : H8} {n : Nat} {most : Int} {D : List UInt8} {q : Rq} {m : Nat} (e : rest11 h n most D = .whole q m) : q.head = h ∧ n ≤ m := by
  have hm := (rest_say (h := h) (n := n) (most := most) (D := D)).2 q m e
  refine ⟨?_, hm.1⟩
  unfold rest11 at e
  split at e
  · cases e
  split at e
  · cases e
  split at e
  · cases e
  split at e
  · cases e
  split at e
  · cases e
  unfold body11 at e
  split at e
  · injection e with e1 _; rw [← e1]
  split at e
  · split at e
    · cases e
    · injection e with e1 _; rw [← e1]
  split at e
  · cases e
  split at e
  · injection e with e1 _; rw [← e1]
  · cases e
theorem whole_few {most : Int} {D : List UInt8} {q : Rq} {n : Nat} (h : read11 most D = .whole q n) : 5 ≤ n ∧ q.head.fields.length ≤ 32 ∧ ∀ f ∈ q.head.fields, short f := by
  unfold read11 at h
  cases hr : read8 false D with
  | wait => rw [hr] at h; cases h
  | bad e => rw [hr] at h; cases h
  | done hd k =>
    rw [hr] at h
    obtain ⟨e1, e2⟩ := rest_head h
    obtain ⟨h1, h2, h3⟩ := read_few hr
    rw [e1]
    exact ⟨by omega, h2, h3⟩
theorem all_count (most : Int) : ∀ (N : Nat) (D : List UInt8), D.length ≤ N → 5 * (allOf most D).1.length ≤ D.length
  | N, D, hN => by
    rw [allOf_step]
    cases hr : read11 most D with
    | wait => exact Nat.zero_le _
    | fail s => exact Nat.zero_le _
    | whole q n =>
      have hn := read11_say.2 q n hr
      have h5 := (whole_few hr).1
      match N, hN with
      | 0, hN => omega
      | N + 1, hN =>
        have ih := all_count most N (D.drop n) (by rw [List.length_drop]; omega)
        dsimp only
        rw [List.length_drop] at ih
        rw [List.length_cons]
        omega
theorem all_mem (most : Int) : ∀ (N : Nat) (D : List UInt8), D.length ≤ N → ∀ q ∈ (allOf most D).1, ∃ E n, read11 most E = .whole q n
  | N, D, hN => by
    rw [allOf_step]
    cases hr : read11 most D with
    | wait => intro q hq; cases hq
    | fail s => intro q hq; cases hq
    | whole q0 n =>
      have hn := read11_say.2 q0 n hr
      match N, hN with
      | 0, hN => omega
      | N + 1, hN =>
        have ih := all_mem most N (D.drop n) (by rw [List.length_drop]; omega)
        intro q hq
        dsimp only at hq
        rcases List.mem_cons.1 hq with rfl | hq
        · exact ⟨D, n, hr⟩
        · exact ih q hq
end Go.Proofs.YtmlpdhmafmdkcaaGreatDoor.HeadFew

/- Layer 9 of the program: a name with capitals hits what it hits in small letters. -/
namespace Go.Proofs.YtmlpdhmafmdkcaaGreatDoor.FrNames
open Bytes LexPure FieldsPure FramePure
set_option maxRecDepth 20000
def aTENC : List UInt8 := [84, 114, 97, 110, 115, 102, 101, 114, 45, 69, 110, 99, 111, 100, 105, 110, 103]
def aCLEN : List UInt8 := [67, 111, 110, 116, 101, 110, 116, 45, 76, 101, 110, 103, 116, 104]
def aCONN : List UInt8 := [67, 111, 110, 110, 101, 99, 116, 105, 111, 110]
theorem hit_same {a b : List UInt8} (h : lower a = lower b) : hit a = hit b := by
  funext f
  unfold hit alike
  rw [h]
theorem getN_same {a b : List UInt8} (h : lower a = lower b) (G : List HField) : getN G a = getN G b := by
  unfold getN
  rw [hit_same h]
theorem elems_same {a b : List UInt8} (h : lower a = lower b) (G : List HField) : elems G a = elems G b := by
  unfold elems
  rw [hit_same h]
theorem hasE_same {a b : List UInt8} (h : lower a = lower b) (G : List HField) (e : List UInt8) : hasE G a e = hasE G b e := by
  unfold hasE
  rw [elems_same h]
theorem low_t : lower aTENC = lower TENC := by decide
theorem low_l : lower aCLEN = lower CLEN := by decide
theorem low_c : lower aCONN = lower CONNECTION := by decide
end Go.Proofs.YtmlpdhmafmdkcaaGreatDoor.FrNames

/- Layer 11 of the program: the steps between a head and its body. No program is named. -/
namespace Go.Proofs.YtmlpdhmafmdkcaaGreatDoor.InJudge
open Bytes LexPure LexNum FieldsPure HeadPure HostPure TargetPure FramePure ChunkPure InflowPure InflowWholeP HeadFew FrNames
set_option maxRecDepth 20000
/-- what these steps come to: a status, or the request without its body, and how that is framed -/
inductive Jd where
  | bad (s : Int)
  | ok (q : Rq) (kind len : Int)
def judge11 (h : H8) (most : Int) : Jd :=
  if (parse6 h.method h.target).2 ≠ 0 then .bad 400
  else match host11 h (parse6 h.method h.target).1 with
    | none => .bad 400
    | some (hn, hp) =>
      if 0 < getN h.fields EXPECT then .bad 417
      else if (request9 h.minor h.fields most).2.2 ≠ 0 then .bad (status11 (request9 h.minor h.fields most).2.2)
      else if h.method = TargetPure.CONNECT ∧ (request9 h.minor h.fields most).1 ≠ 1 then .bad 400
      else .ok ⟨h, (parse6 h.method h.target).1, hn, hp, [], decide ((request9 h.minor h.fields most).1 ≠ 1), keep9 h.minor h.fields, up11 h (request9 h.minor h.fields most).1⟩ (request9 h.minor h.fields most).1 (request9 h.minor h.fields most).2.1
def after11 (j : Jd) (n : Nat) (most : Int) (D : List UInt8) : In :=
  match j with
  | .bad s => .fail s
  | .ok q k l => body11 q n k l most D
theorem rest_judge (h : H8) (n : Nat) (most : Int) (D : List UInt8) : rest11 h n most D = after11 (judge11 h most) n most D := by
  unfold rest11 judge11
  by_cases h1 : (parse6 h.method h.target).2 ≠ 0
  · rw [if_pos h1, if_pos h1]
    rfl
  rw [if_neg h1, if_neg h1]
  cases host11 h (parse6 h.method h.target).1 with
  | none => rfl
  | some p =>
    obtain ⟨a, b⟩ := p
    dsimp only
    by_cases h2 : 0 < getN h.fields EXPECT
    · rw [if_pos h2, if_pos h2]
      rfl
    rw [if_neg h2, if_neg h2]
    by_cases h3 : (request9 h.minor h.fields most).2.2 ≠ 0
    · rw [if_pos h3, if_pos h3]
      rfl
    rw [if_neg h3, if_neg h3]
    by_cases h4 : h.method = TargetPure.CONNECT ∧ (request9 h.minor h.fields most).1 ≠ 1
    · rw [if_pos h4, if_pos h4]
      rfl
    rw [if_neg h4, if_neg h4]
    rfl
theorem frame_kind (minor : Int) (G : List HField) (most : Int) (h : (request9 minor G most).2.2 = 0) : (request9 minor G most).1 = 1 ∨ (request9 minor G most).1 = 2 ∨ (request9 minor G most).1 = 3 := by
  unfold request9 at *
  by_cases h1 : 0 < getN G TENC
  · rw [if_pos h1] at *
    split at h
    · cases h
    · rename_i q
      rw [if_neg q]
      split at h
      · cases h
      · rename_i q2
        rw [if_neg q2]
        exact .inr (.inr rfl)
  rw [if_neg h1] at *
  by_cases h2 : getN G CLEN = 0
  · rw [if_pos h2]
    exact .inl rfl
  rw [if_neg h2] at *
  by_cases h3 : lenN G < 0
  · rw [if_pos h3] at h
    cases h
  rw [if_neg h3] at *
  by_cases h4 : most < lenN G
  · rw [if_pos h4] at h
    cases h
  · rw [if_neg h4]
    exact .inr (.inl rfl)
theorem judge_ok {h : H8} {most : Int} {q : Rq} {k l : Int} (e : judge11 h most = .ok q k l) : q.head = h ∧ q.body = [] ∧ (k = 1 ∨ k = 2 ∨ k = 3) ∧ (k = 2 → 0 ≤ l ∧ l ≤ most) := by
  unfold judge11 at e
  by_cases h1 : (parse6 h.method h.target).2 ≠ 0
  · rw [if_pos h1] at e
    cases e
  rw [if_neg h1] at e
  cases hh : host11 h (parse6 h.method h.target).1 with
  | none => rw [hh] at e; cases e
  | some p =>
    obtain ⟨a, b⟩ := p
    rw [hh] at e
    dsimp only at e
    by_cases h2 : 0 < getN h.fields EXPECT
    · rw [if_pos h2] at e
      cases e
    rw [if_neg h2] at e
    by_cases h3 : (request9 h.minor h.fields most).2.2 ≠ 0
    · rw [if_pos h3] at e
      cases e
    rw [if_neg h3] at e
    by_cases h4 : h.method = TargetPure.CONNECT ∧ (request9 h.minor h.fields most).1 ≠ 1
    · rw [if_pos h4] at e
      cases e
    rw [if_neg h4] at e
    injection e with e1 e2 e3
    subst e1
    subst e2
    subst e3
    exact ⟨rfl, rfl, frame_kind _ _ _ (Classical.not_not.1 h3), fun hk => frame_len0 _ _ _ hk⟩
theorem judge_bad {h : H8} {most : Int} {s : Int} (e : judge11 h most = .bad s) : s ≠ 0 := by
  have := (rest_say (h := h) (n := 0) (most := most) (D := [])).1 s
  rw [rest_judge, e] at this
  exact this rfl
/-! ### the errors of the steps -/
theorem local_e (t : Tgt) (s : List UInt8) : (local6 t s).2 = 0 ∨ (local6 t s).2 = 50 ∨ (local6 t s).2 = 60 := by
  rcases local_cases t s with e | e | ⟨p, _, _, e⟩ <;> rw [e]
  · exact .inr (.inl rfl)
  · exact .inr (.inr rfl)
  · exact .inl rfl
theorem parse_e (m s : List UInt8) : (parse6 m s).2 = 0 ∨ (parse6 m s).2 = 50 ∨ (parse6 m s).2 = 60 ∨ (parse6 m s).2 = 61 := by
  unfold parse6
  split
  · unfold remote6
    split
    · split
      · exact .inr (.inr (.inl rfl))
      · exact .inl rfl
    · exact .inr (.inr (.inl rfl))
  split
  · unfold star6
    split
    · exact .inl rfl
    · exact .inr (.inr (.inl rfl))
  split
  · rcases local_e ⟨1, [], 0, [], [], false⟩ s with h | h | h
    · exact .inl h
    · exact .inr (.inl h)
    · exact .inr (.inr (.inl h))
  split
  · unfold absolute6
    split
    · rename_i a b _
      rcases local_e ⟨2, a, b, [], [], false⟩ (slashed (outA (s.drop 7))) with h | h | h
      · exact .inl h
      · exact .inr (.inl h)
      · exact .inr (.inr (.inl h))
    · exact .inr (.inr (.inr rfl))
  · exact .inr (.inr (.inl rfl))
theorem parse_status {m s : List UInt8} (h : (parse6 m s).2 ≠ 0) : status11 (parse6 m s).2 = 400 := by
  rcases parse_e m s with e | e | e | e
  · exact absurd e h
  · rw [e]; rfl
  · rw [e]; rfl
  · rw [e]; rfl
theorem auth_e (s : List UInt8) : authE s = 0 ∨ authE s = 61 := by
  unfold authE
  split
  · exact .inl rfl
  · exact .inr rfl
/-- a target of another form names no host -/
theorem parse_bare {m s : List UInt8} (h0 : (parse6 m s).2 = 0) (hf : ¬ ((parse6 m s).1.form = 2 ∨ (parse6 m s).1.form = 3)) : (parse6 m s).1.host = [] ∧ (parse6 m s).1.port = 0 := by
  have lp : ∀ (t : Tgt) (s : List UInt8), (local6 t s).2 = 0 → (local6 t s).1.port = t.port := fun t s h => by
    rcases local_cases t s with e | e | ⟨p, _, _, e⟩
    · rw [e] at h; cases h
    · rw [e] at h; cases h
    · rw [e]
  unfold parse6 at *
  by_cases h1 : (m == TargetPure.CONNECT) = true
  · rw [if_pos h1] at *
    unfold remote6 at *
    cases ha : authO s with
    | none => rw [ha] at h0; cases h0
    | some q =>
      obtain ⟨h, p⟩ := q
      rw [ha] at h0 hf
      dsimp only at h0 hf
      by_cases hp : p = 0
      · rw [if_pos hp] at h0
        cases h0
      · rw [if_neg hp] at hf
        exact absurd (.inr rfl) hf
  rw [if_neg h1] at *
  by_cases h2 : (s == [42]) = true
  · rw [if_pos h2] at *
    unfold star6 at *
    split
    · exact ⟨rfl, rfl⟩
    · exact ⟨rfl, rfl⟩
  rw [if_neg h2] at *
  by_cases h3 : (s.head? == some 47) = true
  · rw [if_pos h3] at *
    exact ⟨(local_host _ _ h0).1, lp _ _ h0⟩
  rw [if_neg h3] at *
  by_cases h4 : hasScheme s = true
  · rw [if_pos h4] at *
    unfold absolute6 at *
    cases ha : authO (inA (s.drop 7)) with
    | none => rw [ha] at h0; cases h0
    | some q =>
      obtain ⟨h, p⟩ := q
      rw [ha] at h0 hf
      dsimp only at h0 hf
      rw [(local_host _ _ h0).2] at hf
      exact absurd (.inl rfl) hf
  · rw [if_neg h4] at h0
    cases h0
/-- the program's order of the steps to the host -/
def hostP (h : H8) (t : Tgt) : List UInt8 × Int × Int :=
  if 1 < getN h.fields HOSTN ∨ (getN h.fields HOSTN = 0 ∧ 0 < h.minor) then ([], 0, 61)
  else if getN h.fields HOSTN = 0 then (t.host, t.port, 0)
  else if authE (getV h.fields HOSTN) ≠ 0 then ([], 0, authE (getV h.fields HOSTN))
  else if t.form = 3 ∨ t.form = 2 then (t.host, t.port, 0)
  else (authH (getV h.fields HOSTN), authP (getV h.fields HOSTN), 0)
theorem host_prog (h : H8) (t : Tgt) (hb : ¬ (t.form = 2 ∨ t.form = 3) → t.host = [] ∧ t.port = 0) :
    host11 h t = if (hostP h t).2.2 = 0 then some ((hostP h t).1, (hostP h t).2.1) else none := by
  by_cases h1 : 1 < getN h.fields HOSTN ∨ (getN h.fields HOSTN = 0 ∧ 0 < h.minor)
  · have hP : hostP h t = ([], 0, 61) := by unfold hostP; rw [if_pos h1]
    rw [hP]
    unfold host11
    rw [if_pos h1]
    rfl
  by_cases h2 : getN h.fields HOSTN = 0
  · have hP : hostP h t = (t.host, t.port, 0) := by unfold hostP; rw [if_neg h1, if_pos h2]
    rw [hP]
    unfold host11
    rw [if_neg h1, if_neg (fun q => by omega)]
    by_cases hf : t.form = 2 ∨ t.form = 3
    · rw [if_pos hf]
      rfl
    · obtain ⟨a, b⟩ := hb hf
      rw [if_neg hf, if_pos h2, a, b]
      rfl
  · have h3 : getN h.fields HOSTN = 1 := by
      have : ¬ 1 < getN h.fields HOSTN := fun q => h1 (.inl q)
      omega
    by_cases h4 : authE (getV h.fields HOSTN) ≠ 0
    · have hP : hostP h t = ([], 0, authE (getV h.fields HOSTN)) := by unfold hostP; rw [if_neg h1, if_neg h2, if_pos h4]
      rw [hP]
      unfold host11
      rw [if_neg h1, if_pos ⟨h3, h4⟩, if_neg h4]
    · by_cases hf : t.form = 2 ∨ t.form = 3
      · have hP : hostP h t = (t.host, t.port, 0) := by unfold hostP; rw [if_neg h1, if_neg h2, if_neg h4, if_pos (Or.comm.1 hf)]
        rw [hP]
        unfold host11
        rw [if_neg h1, if_neg (fun q => h4 q.2), if_pos hf]
        rfl
      · have hP : hostP h t = (authH (getV h.fields HOSTN), authP (getV h.fields HOSTN), 0) := by unfold hostP; rw [if_neg h1, if_neg h2, if_neg h4, if_neg (fun q => hf (Or.comm.1 q))]
        rw [hP]
        unfold host11
        rw [if_neg h1, if_neg (fun q => h4 q.2), if_neg hf, if_neg h2]
        rfl
theorem host_e (h : H8) (t : Tgt) : (hostP h t).2.2 = 0 ∨ (hostP h t).2.2 = 61 := by
  unfold hostP
  split
  · exact .inr rfl
  split
  · exact .inl rfl
  split
  · exact auth_e _
  split
  · exact .inl rfl
  · exact .inl rfl
/-- a head that is read has a minor from 0 on -/
theorem version_pos (s : List UInt8) : 0 ≤ (version8 s).1 := by
  unfold version8
  split
  · split
    · rename_i q
      split
      · have hb := q.2.2.2.2.2.2.2
        unfold digitB at hb
        rw [Bool.and_eq_true] at hb
        have := of_decide_eq_true hb.1
        dsimp only
        omega
      · exact Int.le_refl _
    · exact Int.le_refl _
  · exact Int.le_refl _
theorem start_pos (l : List UInt8) : 0 ≤ (start8 l).1.minor := by
  unfold start8
  split
  · dsimp only
    split
    · split
      · exact version_pos _
      · exact Int.le_refl _
    · exact Int.le_refl _
  · exact Int.le_refl _
theorem fields_minor (h : H8) : ∀ (m : Nat) (acc : List HField) (a : Nat) (s : List UInt8) (h' : H8) (n : Nat), fields8 h m acc a s = .done h' n → h'.minor = h.minor ∧ h'.method = h.method ∧ h'.target = h.target := by
  intro m
  induction m with
  | zero =>
    intro acc a s h' n hd
    unfold fields8 at hd
    cases hs : scan 512 83 0 s with
    | wait => rw [hs] at hd; cases hd
    | bad e => rw [hs] at hd; cases hd
    | whole k =>
      rw [hs] at hd
      dsimp only at hd
      by_cases hk : k = 0
      · rw [if_pos hk] at hd
        injection hd with e1 e2
        subst e1
        exact ⟨rfl, rfl, rfl⟩
      · rw [if_neg hk] at hd
        cases hd
  | succ m ih =>
    intro acc a s h' n hd
    unfold fields8 at hd
    cases hs : scan 512 83 0 s with
    | wait => rw [hs] at hd; cases hd
    | bad e => rw [hs] at hd; cases hd
    | whole k =>
      rw [hs] at hd
      dsimp only at hd
      by_cases hk : k = 0
      · rw [if_pos hk] at hd
        injection hd with e1 e2
        subst e1
        exact ⟨rfl, rfl, rfl⟩
      · rw [if_neg hk] at hd
        by_cases hf : (field8 (s.take k)).2 = 0
        · rw [if_pos hf] at hd
          exact ih _ _ _ _ _ hd
        · rw [if_neg hf] at hd
          cases hd
theorem start_len (l : List UInt8) : (start8 l).1.target.length ≤ l.length ∧ (start8 l).1.method.length ≤ 16 := by
  unfold start8
  split
  · rename_i q
    dsimp only
    split
    · split
      · refine ⟨?_, q.2.1⟩
        have := (List.takeWhile_prefix (p := fun c => c != 32) (l := l.drop ((upB l).length + 1))).length_le
        rw [List.length_drop] at this
        show (upB _).length ≤ _
        unfold upB at *
        omega
      · exact ⟨Nat.zero_le _, Nat.zero_le _⟩
    · exact ⟨Nat.zero_le _, Nat.zero_le _⟩
  · exact ⟨Nat.zero_le _, Nat.zero_le _⟩
/-- what a head that is read says, more -/
theorem read_more {s : List UInt8} {h : H8} {n : Nat} (hd : read8 false s = .done h n) : 0 ≤ h.minor ∧ h.target.length ≤ 1100 ∧ h.method.length ≤ 16 ∧ skip8 s ≤ n := by
  unfold read8 skipOf at hd
  simp only [Bool.false_eq_true, if_false] at hd
  unfold from8 at hd
  cases hs : scan 1100 82 0 (s.drop (skip8 s)) with
  | wait => rw [hs] at hd; cases hd
  | bad e => rw [hs] at hd; cases hd
  | whole k =>
    rw [hs] at hd
    simp only [Bool.false_eq_true, if_false] at hd
    by_cases hx : (start8 ((s.drop (skip8 s)).take k)).2 = 0
    · rw [if_pos hx] at hd
      obtain ⟨e1, e2, e3⟩ := fields_minor _ _ _ _ _ _ _ hd
      obtain ⟨l, q, e, hk2, _, hb⟩ := scan_whole 1100 82 (s.drop (skip8 s)) 0 k hs
      have hn := (fields_few _ _ _ _ _ _ _ hd (fun f hf => by cases hf)).1
      have hl := start_len ((s.drop (skip8 s)).take k)
      rw [List.length_take] at hl
      rw [e1, e2, e3]
      exact ⟨start_pos _, by omega, hl.2, by omega⟩
    · rw [if_neg hx] at hd
      cases hd
theorem short_few {G : List HField} (h : ∀ f ∈ G, short f) : ∀ (j : Nat) (hj : j < G.length), G[j].1.length ≤ 1048576 ∧ G[j].2.length ≤ 1048576 := fun j hj => by
  have := h G[j] (List.getElem_mem hj)
  unfold short at this
  omega
/-! ### names -/
def aHOST : List UInt8 := [72, 111, 115, 116]
def aEXPECT : List UInt8 := [69, 120, 112, 101, 99, 116]
def aUPG : List UInt8 := [85, 112, 103, 114, 97, 100, 101]
theorem low_h : lower aHOST = lower HOSTN := by decide
theorem low_e : lower aEXPECT = lower EXPECT := by decide
theorem low_u : lower aUPG = lower UPG := by decide
theorem getV_same {a b : List UInt8} (h : lower a = lower b) (G : List HField) : getV G a = getV G b := by
  unfold getV
  rw [hit_same h]
/-- the errors of heads and of framings keep their statuses -/
theorem read11_prog (most : Int) (D : List UInt8) : read11 most D = match read8 false D with
    | .wait => .wait
    | .bad e => .fail (status11 e)
    | .done h n => after11 (judge11 h most) n most (D.drop n) := by
  unfold read11
  cases read8 false D with
  | wait => rfl
  | bad e => rfl
  | done h n => exact rest_judge h n most _
end Go.Proofs.YtmlpdhmafmdkcaaGreatDoor.InJudge

/- Layer 7: lists of fields, how they lie in memory. -/
namespace Go.Proofs.YtmlpdhmafmdkcaaGreatDoor.Flds
open Go.ChangeShapes Go.WideShapes Go.ChangeAt Go.RowKit LexPure Bytes Ret Rows1 FieldsPure Mem
set_option maxRecDepth 20000
def encF (f : HField) : List Value := [.string (ofL f.1), .string (ofL f.2)]
def encFs (l : List HField) : List Value := l.flatMap encF
theorem encFs_append (a b : List HField) : encFs (a ++ b) = encFs a ++ encFs b := by simp [encFs]
theorem encFs_at : ∀ (l : List HField) (j : Nat) (f : HField), l[j]? = some f → (encFs l)[j * 2]? = some (.string (ofL f.1)) ∧ (encFs l)[j * 2 + 1]? = some (.string (ofL f.2))
  | [], j, f, h => by simp at h
  | x :: l, 0, f, h => by
    have e : x = f := by simpa using h
    subst e
    simp [encFs, encF]
  | x :: l, j + 1, f, h => by
    have ih := encFs_at l j f (by simpa using h)
    have e1 : (j + 1) * 2 = j * 2 + 2 := by omega
    rw [e1]
    simpa [encFs, encF] using ih
/-- every name and value has so many bytes at most -/
def Few (G : List HField) : Prop := ∀ (j : Nat) (h : j < G.length), G[j].1.length ≤ 1048576 ∧ G[j].2.length ≤ 1048576
/-- every name and value lies within reach -/
def Far (G : List HField) : Prop := ∀ (j : Nat) (h : j < G.length), G[j].1.length ≤ 140737488351232 ∧ G[j].2.length ≤ 140737488351232
theorem Few.far {G : List HField} (h : Few G) : Far G := fun j hj => by have := h j hj; omega
theorem infoF : (Tryz.prog.info? 117).map (fun i => (i.zero, i.size, i.bytes)) = some (some (.agg #[.string ByteArray.empty, .string ByteArray.empty]), 2, 32) := by kernel_rfl
/-- a list of fields: how it looks and its cells -/
def FL (w : World) (v : Value) (G : List HField) : Prop := ∃ p cap, v = .slice p G.length cap ∧ G.length ≤ 4398046511104 ∧ (0 < G.length → ∃ g o, p = some ⟨g, o, none⟩ ∧ g < w.heap.size ∧ ∀ j (hj : j < G.length), w.cell? ⟨g, o + j * 2, none⟩ = some (.string (ofL G[j].1)) ∧ w.cell? ⟨g, o + j * 2 + 1, none⟩ = some (.string (ofL G[j].2)))
theorem FL.below {w w' : World} {v : Value} {G : List HField} (h : FL w v G) (hb : Below w.heap.size w w') : FL w' v G := by
  obtain ⟨p, cap, hv, hn, hc⟩ := h
  refine ⟨p, cap, hv, hn, fun h0 => ?_⟩
  obtain ⟨g, o, hp, hlt, hcell⟩ := hc h0
  exact ⟨g, o, hp, Nat.lt_of_lt_of_le hlt hb.size, fun j hj => ⟨(hb.cell (p := ⟨g, o + j * 2, none⟩) hlt).trans (hcell j hj).1, (hb.cell (p := ⟨g, o + j * 2 + 1, none⟩) hlt).trans (hcell j hj).2⟩⟩
theorem FL.drewN {w : World} {v : Value} {G : List HField} (h : FL w v G) (m : Nat) : FL (w.drewN m) v G := h
/-- a row of a call's own is a list of fields -/
theorem fl_of {w : World} {base : Nat} {v : Value} {G : List HField} (h : w.ownsRow base 117 2 v G.length (encFs G)) (hle : G.length ≤ 4398046511104) : FL w v G := by
  rcases h.2 with ⟨hv, hn⟩ | ⟨g, cap, cur, hv, hb, hg, hcap, rest⟩
  · exact ⟨none, 0, by rw [hv, hn], hle, fun h0 => by omega⟩
  · refine ⟨_, cap, hv, hle, fun _ => ⟨g, 0, rfl, (Array.getElem?_eq_some_iff.1 hg).1, fun j hj => ?_⟩⟩
    have hc := h.cells (g := g) (by rw [hv]; rfl)
    obtain ⟨h1, h2⟩ := encFs_at G j G[j] (List.getElem?_eq_getElem hj)
    have a1 := hc _ _ h1
    have a2 := hc _ _ h2
    have e : ∀ i : Nat, (⟨g, 0, none⟩ : Addr).add i = ⟨g, i, none⟩ := fun i => by unfold Addr.add; split <;> simp_all
    rw [e] at a1 a2
    rw [Nat.zero_add]
    exact ⟨a1, a2⟩
end Go.Proofs.YtmlpdhmafmdkcaaGreatDoor.Flds

/- Layer 7: a row of fields that a call gathers. -/
namespace Go.Proofs.YtmlpdhmafmdkcaaGreatDoor.KeptRow
open Go.ChangeShapes Go.WideShapes Go.ChangeAt Go.RowKit LexPure Bytes Ret Rows1 FieldsPure Flds Mem
set_option maxRecDepth 20000
/-- what is kept of the first k -/
structure Kept (w : World) (X : List HField) (v : Value) (wr : World) : Prop where
  row : wr.ownsRow w.heap.size 117 2 v X.length (encFs X)
  below : Below w.heap.size w wr
theorem Kept.start (w : World) : Kept w [] (.slice none 0 0) w := ⟨World.ownsRow_nil _ _ _ _, Below.refl _ _⟩
theorem row_below {w w' : World} {base n size : Nat} {e : TypeId} {v : Value} {xs : List Value} (h : w.ownsRow base e size v n xs) (hb : Below w.heap.size w w') : w'.ownsRow base e size v n xs := by
  refine ⟨h.1, ?_⟩
  rcases h.2 with h0 | ⟨g, cap, cur, hv, h1, hg, rest⟩
  · exact .inl h0
  · exact .inr ⟨g, cap, cur, hv, h1, (hb.block g (Array.getElem?_eq_some_iff.1 hg).1).trans hg, rest⟩
theorem row_mono {w : World} {base base' n size : Nat} {e : TypeId} {v : Value} {xs : List Value} (h : w.ownsRow base e size v n xs) (hb : base' ≤ base) : w.ownsRow base' e size v n xs := by
  refine ⟨h.1, ?_⟩
  rcases h.2 with h0 | ⟨g, cap, cur, h1, h2, h3⟩
  · exact .inl h0
  · exact .inr ⟨g, cap, cur, h1, Nat.le_trans hb h2, h3⟩
theorem Kept.call {w w1 w2 : World} {X : List HField} {v : Value} (h : Kept w X v w1) (hb : Below w1.heap.size w1 w2) : Kept w X v w2 :=
  ⟨row_below h.row hb, below_chain h.below hb⟩
theorem Kept.alloc {w w1 : World} {X : List HField} {v : Value} (h : Kept w X v w1) (o : Obj) : Kept w X v (w1.alloc o) := h.call ((Below.refl _ _).alloc (Nat.le_refl _) o)
theorem Kept.lt {w w1 : World} {X : List HField} {v : Value} (h : Kept w X v w1) : ∀ j, v.ownBlock = some j → w.heap.size ≤ j := fun j hj => (h.row.lt j hj).1
theorem fl_none (w : World) : FL w (.slice none 0 0) [] := ⟨none, 0, rfl, Nat.zero_le _, fun h => absurd h (by decide)⟩
/-- a row of a call's own, of 32 fields at most -/
def RowF (W : World) (base : Nat) (v : Value) (l : List HField) : Prop := W.ownsRow base 117 2 v l.length (encFs l) ∧ l.length ≤ 32
theorem row_none (W : World) (base : Nat) : RowF W base (.slice none 0 0) [] := ⟨World.ownsRow_nil _ _ _ _, by decide⟩
end Go.Proofs.YtmlpdhmafmdkcaaGreatDoor.KeptRow

/- Layer 8: fields and heads in memory. -/
namespace Go.Proofs.YtmlpdhmafmdkcaaGreatDoor.HBox
open Go.ChangeShapes Go.WideShapes Go.ChangeAt Go.RowKit LexPure Bytes FieldsPure HeadPure Flds Mem
set_option maxRecDepth 20000
/-! ### a head: its fields' list is a value of its own -/
def hc (h : H8) (l : Value) : Array Value := #[.string (ofL h.method), .string (ofL h.target), .int .i64 h.status, .string (ofL h.reason), .int .i64 h.minor, l]
def hv (h : H8) (l : Value) : Value := .agg #[.string (ofL h.method), .string (ofL h.target), .int .i64 h.status, .string (ofL h.reason), .int .i64 h.minor, l]
structure HBox (w : World) (g : Nat) (h : H8) (l : Value) : Prop where
  has : Has w g 31 (hc h l)
def hput (W : World) (g : Nat) (h : H8) (l : Value) : World :=
  (((((W.setCell ⟨g, 0, none⟩ (.string (ofL h.method))).setCell ⟨g, 1, none⟩ (.string (ofL h.target))).setCell ⟨g, 2, none⟩ (.int .i64 h.status)).setCell ⟨g, 3, none⟩ (.string (ofL h.reason))).setCell ⟨g, 4, none⟩ (.int .i64 h.minor)).setCell ⟨g, 5, none⟩ l
theorem HBox.put {W : World} {g : Nat} {u : H8} {m : Value} (b : HBox W g u m) (h : H8) (l : Value) : HBox (hput W g h l) g h l :=
  ⟨by have := (((((b.has.set_ 0 (.string (ofL h.method))).set_ 1 (.string (ofL h.target))).set_ 2 (.int .i64 h.status)).set_ 3 (.string (ofL h.reason))).set_ 4 (.int .i64 h.minor)).set_ 5 l; unfold hput; simpa [hc] using this⟩
theorem HBox.setF {W : World} {g : Nat} {u : H8} {m : Value} (b : HBox W g u m) (l : Value) : HBox (W.setCell ⟨g, 5, none⟩ l) g u l :=
  ⟨by have := b.has.set_ 5 l; simpa [hc] using this⟩
theorem hload {w : World} {g : Nat} {h : H8} {l : Value} (b : HBox w g h l) : (loadVar 31 ⟨g, 0, none⟩).run Tryz.prog w = .ok (hv h l) w :=
  run_loadVar_row w g 31 31 _ _ _ b.has.at_ Tryz.underlying31 rfl (by kernel_rfl)
theorem HBox.cells {w : World} {g : Nat} {h : H8} {l : Value} (b : HBox w g h l) : w.cell? ⟨g, 0, none⟩ = some (.string (ofL h.method)) ∧ w.cell? ⟨g, 1, none⟩ = some (.string (ofL h.target)) ∧ w.cell? ⟨g, 2, none⟩ = some (.int .i64 h.status) ∧ w.cell? ⟨g, 3, none⟩ = some (.string (ofL h.reason)) ∧ w.cell? ⟨g, 4, none⟩ = some (.int .i64 h.minor) ∧ w.cell? ⟨g, 5, none⟩ = some l :=
  ⟨(b.has.cell 0).trans rfl, (b.has.cell 1).trans rfl, (b.has.cell 2).trans rfl, (b.has.cell 3).trans rfl, (b.has.cell 4).trans rfl, (b.has.cell 5).trans rfl⟩
theorem HBox.frees {w : World} {g : Nat} {h : H8} {l : Value} (b : HBox w g h l) : w.frozen? ⟨g, 0, none⟩ = false ∧ w.frozen? ⟨g, 1, none⟩ = false ∧ w.frozen? ⟨g, 2, none⟩ = false ∧ w.frozen? ⟨g, 3, none⟩ = false ∧ w.frozen? ⟨g, 4, none⟩ = false ∧ w.frozen? ⟨g, 5, none⟩ = false :=
  ⟨b.has.free 0, b.has.free 1, b.has.free 2, b.has.free 3, b.has.free 4, b.has.free 5⟩
theorem HBox.below {w w' : World} {g B : Nat} {h : H8} {l : Value} (b : HBox w g h l) (hb : Below B w w') (hg : g < B) : HBox w' g h l := ⟨b.has.below hb hg⟩
theorem HBox.far {w : World} {g : Nat} {h : H8} {l : Value} (b : HBox w g h l) {p : Addr} (hp : g ≠ p.block) (u : Value) : HBox (w.setCell p u) g h l := ⟨b.has.far hp u⟩
theorem HBox.drew {w : World} {g : Nat} {h : H8} {l : Value} (b : HBox w g h l) : HBox w.drew g h l := ⟨b.has.drew⟩
/-- the box of a call that answers a head -/
structure HOne (w W : World) (g : Nat) (h : H8) (l : Value) : Prop where
  at_ : g = w.heap.size
  below : Below w.heap.size w W
  box : HBox W g h l
  size : g + 1 ≤ W.heap.size
theorem HOne.start (w : World) : HOne w (w.alloc (.cells #[.string ⟨#[]⟩, .string ⟨#[]⟩, .int .i64 0, .string ⟨#[]⟩, .int .i64 0, .slice none 0 0] 31)) w.heap.size zero8 (.slice none 0 0) :=
  ⟨rfl, (Below.refl w.heap.size w).alloc (Nat.le_refl _) _, ⟨Has.new w _ _⟩, by simp⟩
theorem HOne.call {w W W' : World} {g : Nat} {h : H8} {l : Value} (b : HOne w W g h l) (hb : Below W.heap.size W W') : HOne w W' g h l :=
  ⟨b.at_, below_chain b.below hb, b.box.below hb (by have := b.size; omega), Nat.le_trans b.size hb.size⟩
theorem below_hput {B : Nat} {a W : World} {g : Nat} (b : Below B a W) (hg : B ≤ g) (h : H8) (l : Value) : Below B a (hput W g h l) :=
  (((((b.setCell (p := ⟨g, 0, none⟩) hg _).setCell (p := ⟨g, 1, none⟩) hg _).setCell (p := ⟨g, 2, none⟩) hg _).setCell (p := ⟨g, 3, none⟩) hg _).setCell (p := ⟨g, 4, none⟩) hg _).setCell (p := ⟨g, 5, none⟩) hg _
theorem HOne.put {w W : World} {g : Nat} {u : H8} {m : Value} (b : HOne w W g u m) (h : H8) (l : Value) : Below w.heap.size w (hput W g h l) := below_hput b.below (by rw [b.at_]; exact Nat.le_refl _) h l
def hrv (h : H8) (l : Value) (e : Int) : Value := .tuple #[hv h l, .int .i64 e]
theorem end_hbox {W : World} {g : Nat} {h : H8} {l : Value} {v : Int} {tmps : Array Value} {p u : Tmp} (hp : tmps.getD p undef = .pointer (some ⟨g, 0, none⟩)) (hu : tmps.getD u undef = .int .i64 v) (b : HBox W g h l) :
    (((asAddr (tmps.getD p undef)).run Tryz.prog W).andThen fun a w₁ => ((loadVar 31 a).run Tryz.prog w₁).andThen fun v w₂ => .ok (.tuple #[v, tmps.getD u undef]) w₂) = .ok (hrv h l v) W := by
  rw [hp, hu]
  have := hload b
  simp [asAddr, Result.andThen, this, hrv]
def hrv3 (h : H8) (l : Value) (n e : Int) : Value := .tuple #[hv h l, .int .i64 n, .int .i64 e]
theorem end_hbox3 {W : World} {g : Nat} {h : H8} {l : Value} {n v : Int} {tmps : Array Value} {p t u : Tmp} (hp : tmps.getD p undef = .pointer (some ⟨g, 0, none⟩)) (ht : tmps.getD t undef = .int .i64 n) (hu : tmps.getD u undef = .int .i64 v) (b : HBox W g h l) :
    (((asAddr (tmps.getD p undef)).run Tryz.prog W).andThen fun a w₁ => ((loadVar 31 a).run Tryz.prog w₁).andThen fun v w₂ => .ok (.tuple #[v, tmps.getD t undef, tmps.getD u undef]) w₂) = .ok (hrv3 h l n v) W := by
  rw [hp, ht, hu]
  have := hload b
  simp [asAddr, Result.andThen, this, hrv3]
theorem results_cell_tmp2 {fn : Func} {p t u : Tmp} {ty : TypeId} (h : fn.results = #[.cell p ty, .tmp t, .tmp u]) (tmps : Array Value) (P : Program) (w : World) :
    (results fn tmps).run P w =
      ((asAddr (tmps.getD p undef)).run P w).andThen fun a w₁ => ((loadVar ty a).run P w₁).andThen fun v w₂ => .ok (.tuple #[v, tmps.getD t undef, tmps.getD u undef]) w₂ := by
  simp only [results, h]
  simp [Sem.run_bind, Result.andThen]
theorem row_hput {W : World} {base n size : Nat} {e : TypeId} {v : Value} {xs : List Value} {g : Nat} (h : W.ownsRow base e size v n xs) (hg : g < base) (H : H8) (l : Value) : (hput W g H l).ownsRow base e size v n xs :=
  ownsRow_setCell_below (ownsRow_setCell_below (ownsRow_setCell_below (ownsRow_setCell_below (ownsRow_setCell_below (ownsRow_setCell_below h hg _) hg _) hg _) hg _) hg _) hg _
theorem box_hput {W : World} {g k : Nat} {H u : H8} {l m : Value} (b : HBox W g u m) (hg : g ≠ k) : HBox (hput W k H l) g u m :=
  (((((b.far (p := ⟨k, 0, none⟩) hg _).far (p := ⟨k, 1, none⟩) hg _).far (p := ⟨k, 2, none⟩) hg _).far (p := ⟨k, 3, none⟩) hg _).far (p := ⟨k, 4, none⟩) hg _).far (p := ⟨k, 5, none⟩) hg _
theorem size_hput (W : World) (g : Nat) (H : H8) (l : Value) : (hput W g H l).heap.size = W.heap.size := by simp [hput]
end Go.Proofs.YtmlpdhmafmdkcaaGreatDoor.HBox

/- Layer 11: a request in memory: 18 cells, held as one row; lists of them. -/
namespace Go.Proofs.YtmlpdhmafmdkcaaGreatDoor.QCell
open Go.ChangeShapes Go.WideShapes Go.ChangeAt Go.RowKit LexPure Bytes FieldsPure HeadPure Flds HBox InflowPure Mem Step KeptRow
set_option maxRecDepth 20000
/-- a request's cells; l is its head's list of fields -/
def qcl (q : Rq) (l : Value) : Array Value :=
  #[.string (ofL q.head.method), .string (ofL q.head.target), .int .i64 q.head.status, .string (ofL q.head.reason), .int .i64 q.head.minor, l,
    .int .i64 q.target.form, .string (ofL q.target.host), .int .i64 q.target.port, .string (ofL q.target.path), .string (ofL q.target.query), .bool q.target.has,
    .string (ofL q.host), .int .i64 q.port, .string (ofL q.body), .bool q.sized, .bool q.keep, .string (ofL q.upgrade)]
theorem qcl_size (q : Rq) (l : Value) : (qcl q l).size = 18 := rfl
theorem qcl_len (q : Rq) (l : Value) : (qcl q l).toList.length = 18 := rfl
theorem qcl_one (q : Rq) {l : Value} (h : l.oneCell' = true) : (qcl q l).all (·.oneCell') = true := by
  cases l <;> first | (cases h; done) | simp [qcl, Value.oneCell']
theorem fl_one {w : World} {v : Value} {G : List HField} (h : FL w v G) : v.oneCell' = true := by
  obtain ⟨p, cap, rfl, _⟩ := h
  rfl
abbrev RQT : TypeId := 35
theorem rq_size : (Tryz.prog.info? RQT).map (·.size) = some 18 := by kernel_rfl
def zq : Array Value := #[.string ⟨#[]⟩, .string ⟨#[]⟩, .int .i64 0, .string ⟨#[]⟩, .int .i64 0, .slice none 0 0, .int .i64 0, .string ⟨#[]⟩, .int .i64 0, .string ⟨#[]⟩, .string ⟨#[]⟩, .bool false, .string ⟨#[]⟩, .int .i64 0, .string ⟨#[]⟩, .bool false, .bool false, .string ⟨#[]⟩]
theorem rq_info : (Tryz.prog.info? RQT).map (fun i => (i.zero, i.size, i.bytes)) = some (some (.agg zq), 18, 224) := by kernel_rfl
theorem news_q (w : World) (q : Rq) (l : Value) : ∀ j u, (qcl q l).toList[j]? = some u → (w.alloc (.cells (qcl q l) RQT)).cell? ((⟨w.heap.size, 0, none⟩ : Addr).add j) = some u := fun j u hj => by
  rw [show (⟨w.heap.size, 0, none⟩ : Addr).add j = ⟨w.heap.size, j, none⟩ by unfold Addr.add; split <;> simp_all]
  exact ((Has.new w RQT (qcl q l)).cell j).trans (by rw [← Array.getElem?_toList]; exact hj)
theorem one_q {q : Rq} {l : Value} (h : (qcl q l).all (·.oneCell') = true) : ∀ u ∈ (qcl q l).toList, u.oneCell' = true := fun u hu => (Array.all_eq_true_iff_forall_mem.1 h) u (by simpa using hu)
/-- a whole request stored into a new block -/
theorem new_row (w : World) (old : Array Value) (q : Rq) (l : Value) : (w.alloc (.cells old RQT)).setRow w.heap.size (qcl q l) = w.alloc (.cells (qcl q l) RQT) := World.setRow_alloc_new _ _ _ _
theorem qload (w : World) (q : Rq) (l : Value) : (loadVar RQT ⟨w.heap.size, 0, none⟩).run Tryz.prog (w.alloc (.cells (qcl q l) RQT)) = .ok (.agg (qcl q l)) (w.alloc (.cells (qcl q l) RQT)) :=
  run_loadVar_row _ w.heap.size RQT RQT _ _ _ (heap_alloc_new w _) Tryz.underlying35 rfl (by kernel_rfl)
theorem fill_list : ∀ (l : List Value) (k : Nat) (z : Array Value), k + l.length = z.size → ((l.zipIdx k).foldl (fun (a : Array Value) (x : Value × Nat) => a.setIfInBounds (0 + x.2) x.1) z).toList = z.toList.take k ++ l
  | [], k, z, h => by
    rw [List.length_nil] at h
    show z.toList = _
    rw [List.append_nil, List.take_of_length_le (by rw [Array.length_toList]; omega)]
  | c :: l, k, z, h => by
    rw [List.length_cons] at h
    rw [List.zipIdx_cons, List.foldl_cons]
    rw [fill_list l (k + 1) (z.setIfInBounds (0 + k) c) (by rw [Array.size_setIfInBounds]; omega)]
    rw [Array.toList_setIfInBounds, Nat.zero_add]
    have hk : k < z.toList.length := by rw [Array.length_toList]; omega
    rw [List.take_add_one, List.take_set_of_le (Nat.le_refl k), List.getElem?_set_self hk]
    simp
/-- one part that fills the whole -/
theorem fill_all (cs z : Array Value) (n : Nat) (h : cs.size = n) (hz : z.size = n) : Instr.fill (fun i => some (i * n, n)) z [(0, .agg cs)] = some cs := by
  unfold Instr.fill
  have hc : (Value.agg cs).cells = cs := rfl
  simp only [hc, Nat.zero_mul]
  rw [if_neg (by simp; omega)]
  unfold Instr.fill
  congr 1
  apply Array.toList_inj.1
  rw [← Array.foldl_toList, Array.toList_zipIdx]
  have := fill_list cs.toList 0 z (by rw [Array.length_toList]; omega)
  rw [List.take_zero, List.nil_append] at this
  exact this
/-- '[]T{x}', x a whole request -/
theorem one_slice (w : World) (q : Rq) (l : Value) : (Instr.buildSlice 26 1 #[(0, .agg (qcl q l))]).run Tryz.prog w = .ok (.slice (some ⟨w.heap.size, 0, none⟩) 1 1) (w.alloc (.cells (qcl q l) RQT)) := by
  have hu := run_underlying (P := Tryz.prog) Tryz.underlying26 w
  have hs : (sizeOf RQT).run Tryz.prog w = .ok 18 w := Tryz.sizeOf35 w
  have hf := fun z (h : Array.size z = 18) => fill_all (qcl q l) z 18 rfl h
  unfold Instr.buildSlice
  simp [hu, hs]
  rw [hf _ (by simp)]
  rfl
/-! ### as the walk meets them -/
theorem wpList_putq {ops : Array Oper} {rest : List Oper} {o : Oper} {a : Act} {w : World} {Q : Exit → Act → World → Prop} (hgd : o.guard = none) (x y : Operand) (ho : o.op = .store RQT x y) (old : Array Value) (hold : old.size = 18) (q : Rq) (l : Value) (hl : l.oneCell' = true)
    (hx : a.eval x = .pointer (some ⟨w.heap.size, 0, none⟩)) (hy : a.eval y = .agg (qcl q l)) (h : wpList Tryz.prog ops Q rest (a.put o.dst undef) (w.alloc (.cells (qcl q l) RQT))) : wpList Tryz.prog ops Q (o :: rest) a (w.alloc (.cells old RQT)) := by
  refine wpList_store_row hgd RQT x y ho w.heap.size (qcl q l) hx hy RQT old (heap_alloc_new w _) rq_size hold (qcl_one q hl) ?_
  rw [new_row w]
  exact h
theorem wpList_loadq {ops : Array Oper} {rest : List Oper} {o : Oper} {a : Act} {w : World} {Q : Exit → Act → World → Prop} (hgd : o.guard = none) (x : Operand) (ho : o.op = .load RQT x) (p : Addr) (hx : a.eval x = .pointer (some p)) (q : Rq) (l : Value)
    (hl : (loadVar RQT p).run Tryz.prog w = .ok (.agg (qcl q l)) w) (h : wpList Tryz.prog ops Q rest (a.put o.dst (.agg (qcl q l))) w) : wpList Tryz.prog ops Q (o :: rest) a w := by
  refine wpList_plain hgd fun _ hK => ?_
  unfold Oper.wp execOp
  simp only [ho, hx, Instr.loadAt, Instr.sureAddr, Sem.run_bind, Sem.run_pure, Result.andThen_ok, hl]
  exact hK _ _ h
theorem wpList_sliceq {ops : Array Oper} {rest : List Oper} {o : Oper} {a : Act} {w : World} {Q : Exit → Act → World → Prop} (hgd : o.guard = none) (x : Operand) (ho : o.op = .buildSlice 26 1 #[(0, x)]) (q : Rq) (l : Value) (hx : a.eval x = .agg (qcl q l))
    (h : wpList Tryz.prog ops Q rest (a.put o.dst (.slice (some ⟨w.heap.size, 0, none⟩) 1 1)) (w.alloc (.cells (qcl q l) RQT))) : wpList Tryz.prog ops Q (o :: rest) a w := by
  refine wpList_plain hgd fun _ hK => ?_
  unfold Oper.wp execOp
  simp only [ho, List.map_toArray, List.map_cons, List.map_nil, hx, one_slice w q l, Sem.run_bind, Result.andThen_ok]
  exact hK _ _ h
/-- the cells of many -/
def encQ (P : List (Rq × Value)) : List Value := P.flatMap (fun x => (qcl x.1 x.2).toList)
theorem encQ_snoc (P : List (Rq × Value)) (q : Rq) (l : Value) : encQ (P ++ [(q, l)]) = encQ P ++ (qcl q l).toList := by simp [encQ]
theorem encQ_len (P : List (Rq × Value)) : (encQ P).length = P.length * 18 := by
  induction P with
  | nil => rfl
  | cons x P ih =>
    have : encQ (x :: P) = (qcl x.1 x.2).toList ++ encQ P := rfl
    rw [this, List.length_append, ih, qcl_len, List.length_cons]
    omega
end Go.Proofs.YtmlpdhmafmdkcaaGreatDoor.QCell

/- Layer 10 of the program: Feed. -/
namespace Go.Proofs.YtmlpdhmafmdkcaaGreatDoor.ChunkObj
open Go.ChangeShapes Go.WideShapes Go.ChangeAt Go.RowKit Bytes LexPure LexNum HeadPure ChunkPure ChunkText ChObj Mem Step Ret Rows1 PChLine PBuildT PChPart PChStr
set_option maxRecDepth 20000
theorem results_tmp4 {fn : Func} {t u v x : Tmp} (h : fn.results = #[.tmp t, .tmp u, .tmp v, .tmp x]) (tmps : Array Value) (P : Program) (w : World) :
    (results fn tmps).run P w = .ok (.tuple #[tmps.getD t undef, tmps.getD u undef, tmps.getD v undef, tmps.getD x undef]) w := by
  simp [results, h]
/-- while a chunk's bytes are read there is no line -/
def Bare (m : M) : Prop := ∀ n, m.ph = .data n → m.line = [] ∧ n < 4294967296
theorem Bare.start (most : Int) : Bare (begin_ most) := fun n h => by cases h
theorem Bare.fail (m : M) (e : Int) : Bare (fail m e) := fun n h => by cases h
theorem Bare.line {m : M} (h : Bare m) (c : UInt8) : Bare (lineStep m c) := by
  unfold lineStep
  split
  · split
    · unfold endLine
      split
      · split
        · exact Bare.fail _ _
        · split
          · exact Bare.fail _ _
          · split
            · exact fun n h => by cases h
            · intro n hn
              refine ⟨rfl, ?_⟩
              have hn2 : Ph.data (sizeL m.line).toNat = Ph.data n := hn
              injection hn2 with hn3
              rcases PChEnd.sizeL_say m.line with ⟨_, q⟩ | ⟨_, _, _, q⟩ <;> omega
      · exact fun n h => by cases h
      · split
        · exact fun n h => by cases h
        · split
          · exact Bare.fail _ _
          · exact fun n h => by cases h
      · exact h
    · exact Bare.fail _ _
  · split
    · exact h
    · split
      · rename_i hf
        intro n hn
        exfalso
        have hn2 : m.ph = .data n := hn
        unfold fits at hf
        rw [hn2] at hf
        cases hf
      · exact Bare.fail _ _
theorem Bare.more {m : M} (h : Bare m) {k : Nat} (hp : m.ph = .data k) (n : Nat) : Bare (more m k n) := by
  intro j hj
  obtain ⟨h1, h2⟩ := h k hp
  refine ⟨h1, ?_⟩
  have hj2 : (if n = k then Ph.after else Ph.data (k - n)) = Ph.data j := hj
  split at hj2
  · cases hj2
  · injection hj2 with hj3
    omega
/-- block g, and those of F, hold a decoder that stands at m -/
structure Dec (w : World) (F : Nat → Prop) (g : Nat) (m : M) : Prop where
  is : ∃ r v, Cod w F g m.most r v ∧ r.ref = errN m ∧ (good m = true → Rel r m)
  told : ChunkPure.Told m
  bare : Bare m
  range : InR m.most
/-- k bytes of s have been read -/
structure Mid (w : World) (F : Nat → Prop) (g : Nat) (m : M) (s : ByteArray) (b k : Nat) (m' : M) (acc : List UInt8) (F' : Nat → Prop) (r : Raw) (v : Value) (W : World) : Prop where
  cs : CS w F W F' g m'.most r v
  ref : r.ref = errN m'
  rel : good m' = true → Rel r m'
  told : ChunkPure.Told m'
  bare : Bare m'
  ok : Ok m'
  ran : ChunkPure.run m ((toL s).take k) = (m', acc, k)
  size : m'.size ≤ m.size + k
  bl : Bl w.heap.size b acc F' W
  range : InR m'.most
def MidF (w : World) (F : Nat → Prop) (g : Nat) (m : M) (s : ByteArray) (b k : Nat) (W : World) : Prop := ∃ m' acc F' r v, Mid w F g m s b k m' acc F' r v W
section
variable {w W : World} {F F' : Nat → Prop} {g b k : Nat} {m m' : M} {s : ByteArray} {acc : List UInt8} {r : Raw} {v : Value}
theorem Mid.start (h : Dec w F g m) (hok : Ok m) (s : ByteArray) : MidF w F g m s w.heap.size 0 (w.alloc (.cells #[.pointer none, .slice none 0 0] 51)) := by
  obtain ⟨r, v, h1, h2, h3⟩ := h.is
  exact ⟨m, [], F, r, v, (CS.start h1).call ((Below.refl _ _).alloc (Nat.le_refl _) _), h2, h3, h.told, h.bare, hok, by rw [List.take_zero]; rfl, Nat.le_refl _, Bl.start w h1.lt, h.range⟩
/-- the bytes of a chunk -/
theorem Mid.data (h : Mid w F g m s b k m' acc F' r v W) {left n : Nat} (hp : m'.ph = .data left) (hn : n ≤ left) (h0 : 0 < n) (hk : k + n ≤ s.size) {W1 w2 : World} {r2 : Raw}
    (hb : Below w.heap.size W W1) (hg : g < w.heap.size) (hbl : Bl w.heap.size b (acc ++ ((toL s).drop k).take n) (fun k => k = g) W1) (hc : CS W1 (fun k => k = g) w2 (fun k => k = g) g m'.most r2 v) (ho : Out r2 (more m' left n)) :
    Mid w F g m s b (k + n) (more m' left n) (acc ++ ((toL s).drop k).take n) (fun k => k = g) r2 v w2 := by
  have hgd : good m' = true := by unfold good; rw [hp]
  have hl : (((toL s).drop k).take n).length = n := by rw [List.length_take, List.length_drop, toL_length]; omega
  have hr := run_more (m := m') (l := ((toL s).drop k).take n) hp (by rw [hl]; exact hn) (fun e => by rw [e] at hl; simp at hl; omega)
  rw [hl] at hr
  have hran : ChunkPure.run m ((toL s).take (k + n)) = (more m' left n, acc ++ ((toL s).drop k).take n, k + n) := by
    rw [List.take_add, run_append, h.ran]
    simp only
    rw [hr]
  have hok : Ok (more m' left n) := by
    have := h.ok.run (((toL s).drop k).take n)
    rw [hr] at this
    exact this
  have hgm : good (more m' left n) = true := by
    unfold more good
    by_cases e : n = left
    · simp only [if_pos e]
    · simp only [if_neg e]
  exact ⟨(CS.write h.cs (by rw [(h.rel hgd).line]; exact (h.bare left hp).1) hg hb).then hc, by rw [ho.ref, errN_good hgm], ho.rel, (by have := h.told.run (((toL s).drop k).take n); rw [hr] at this; exact this), h.bare.more hp n, hok, hran, by
    have := h.size
    show m'.size + n ≤ _
    omega, hbl.step hc.step, h.range⟩
/-- a byte of a line -/
theorem Mid.byte (h : Mid w F g m s b k m' acc F' r v W) (hs : stop m' = false) (hnd : ∀ n, m'.ph ≠ .data n) (hk : k < s.size) {w2 : World} (hc : CSF W F' w2 g m'.most (lineStep m' s[k])) :
    MidF w F g m s b (k + 1) (w2.setCell ⟨g, 8, none⟩ (.int .i64 (errN (lineStep m' s[k])))) := by
  obtain ⟨F2, r2, v2, k1, k2⟩ := hc
  have hbs : bstep m' s[k] = (lineStep m' s[k], []) := by
    unfold bstep
    split
    · rename_i q
      exact absurd q (hnd _)
    · rename_i q
      unfold stop at hs
      rw [q] at hs
      cases hs
    · rename_i q
      unfold stop at hs
      rw [q] at hs
      cases hs
    · rfl
  have hz := step_size m' s[k]
  rw [hbs] at hz
  have hst := k1.set 8 (.int .i64 (errN (lineStep m' s[k]))) { r2 with ref := errN (lineStep m' s[k]) } rfl rfl
  have hmost : m'.most = (lineStep m' s[k]).most := hz.2.symm
  have h1 := told_step h.told s[k]
  have h2 := h.ok.lineStep s[k]
  rw [hbs] at h1
  refine ⟨lineStep m' s[k], acc, F2, { r2 with ref := errN (lineStep m' s[k]) }, v2, ?_, rfl, fun hg => ?_, h1, h.bare.line _, h2, ?_, ?_, h.bl.step hst.step, by rw [← hmost]; exact h.range⟩
  · have := h.cs.then hst
    rw [hmost] at this
    exact this
  · have q := k2.rel hg
    exact ⟨q.size, q.next, q.left, q.line, q.part, q.cr, q.trail, q.none⟩
  · rw [toL_take_succ s k hk, run_append, h.ran]
    simp only
    rw [run_cons hs, hbs]
    simp [ChunkPure.run]
  · have := h.size
    have h3 : (lineStep m' s[k]).size = m'.size := by rw [hz.1]; rfl
    omega
/-- the end -/
theorem Mid.fin (h : Mid w F g m s b k m' acc F' r v W) (he : k = s.size ∨ stop m' = true) : ChunkPure.run m (toL s) = (m', acc, k) := by
  rcases he with e | e
  · have := h.ran
    rw [toL_take_all s (by omega)] at this
    exact this
  · have := run_append m ((toL s).take k) ((toL s).drop k)
    rw [List.take_append_drop, h.ran] at this
    simp only at this
    rw [run_stop e] at this
    rw [this]
    simp
theorem fin_good {l : List UInt8} (h : ChunkPure.run m l = (m', acc, k)) (hg : good m' = true) : ans m l = (acc, k, whole m', 0) ∧ next m l = m' := by
  have hg2 : good (ChunkPure.run m l).1 = true := by rw [h]; exact hg
  refine ⟨?_, by unfold next; rw [h]⟩
  rw [ans_good hg2, h]
theorem fin_bad {l : List UInt8} (h : ChunkPure.run m l = (m', acc, k)) (hg : good m' = false) : ans m l = ([], 0, false, errN m') ∧ next m l = m' := by
  have hg2 : good (ChunkPure.run m l).1 = false := by rw [h]; exact hg
  refine ⟨?_, by unfold next; rw [h]⟩
  obtain ⟨e, h1, h2⟩ := ans_bad hg2
  rw [h2]
  rw [h] at h1
  unfold errN
  rw [h1]
end
/-- what Feed answers -/
def ansV (r : List UInt8 × Nat × Bool × Int) : Value := .tuple #[.string (ofL r.1), .int .i64 (r.2.1 : Nat), .bool r.2.2.1, .int .i64 r.2.2.2]
/-- a decoder that read on -/
def FedD (w w' : World) (F : Nat → Prop) (g : Nat) (m : M) : Prop := ∃ F', Dec w' F' g m ∧ Step w w' F F'
theorem Mid.fed {w W : World} {F F' : Nat → Prop} {g b k : Nat} {m m' : M} {s : ByteArray} {acc : List UInt8} {r : Raw} {v : Value} (h : Mid w F g m s b k m' acc F' r v W) : FedD w W F g m' :=
  ⟨F', ⟨⟨r, v, h.cs.cod, h.ref, h.rel⟩, h.told, h.bare, h.range⟩, h.cs.step⟩
theorem Dec.step {w w' : World} {F G G' : Nat → Prop} {g : Nat} {m : M} (h : Dec w F g m) (hs : Step w w' G G') (hf : ∀ k, F k → ¬ G k) : Dec w' F g m := by
  obtain ⟨r, v, h1, h2⟩ := h.is
  exact ⟨⟨r, v, h1.far hs hf, h2⟩, h.told, h.bare, h.range⟩
theorem FedD.more {w W W' : World} {F G : Nat → Prop} {g : Nat} {m : M} (h : FedD w W F g m) (hs : Step W W' G G) (hG : ∀ k, ¬ G k) : FedD w W' F g m := by
  obtain ⟨F', h1, h2⟩ := h
  exact ⟨F', h1.step hs (fun k _ => hG k), h2.beyond hs (fun j hj => absurd hj (hG j))⟩
theorem Mid.out {w W W' : World} {F F' G : Nat → Prop} {g b k : Nat} {m m' : M} {s : ByteArray} {acc : List UInt8} {r : Raw} {v : Value} (h : Mid w F g m s b k m' acc F' r v W) (hs : Step W.drew W' G G) (hG : ∀ k, G k → w.heap.size ≤ k ∧ ¬ F' k) : FedD w W' F g m' :=
  have h2 : Step W W' G G := (Step.drew W G).trans hs
  ⟨F', ⟨⟨r, v, h.cs.cod.far h2 (fun k hk hk2 => (hG k hk2).2 hk), h.ref, h.rel⟩, h.told, h.bare, h.range⟩, h.cs.step.beyond h2 (fun j hj => (hG j hj).1)⟩
theorem ph_whole {m : M} (hg : good m = true) : (stop m = true → phN m.ph = 4 ∧ whole m = true) ∧ (stop m = false → (phN m.ph = 0 ∨ phN m.ph = 1 ∨ phN m.ph = 2 ∨ phN m.ph = 3) ∧ whole m = false) := by
  unfold stop whole phN
  unfold good at hg
  cases h : m.ph <;> simp_all
set_option maxHeartbeats 3200000 in
theorem pfeed_any (F : Nat → Prop) (g : Nat) (m : M) (s : ByteArray) (hs : s.size ≤ 211106232532992) (hroom : s.size ≤ 140737488351232 ∨ m.most ≤ 140737488351232) (hok : Ok m) (w : World) (hD : Dec w F g m) :
    Calls Tryz.prog 41 #[.pointer (some ⟨g, 0, none⟩), .string s] w fun e w' => e = .returned (ansV (ans m (toL s))) ∧ FedD w w' F g (next m (toL s)) := by
  have hg : g < w.heap.size := by obtain ⟨r, v, h1, _⟩ := hD.is; exact h1.has.lt
  have HX := Lib.hid (Mid.start hD hok s)
  have HE : Hid (∀ m' acc k, ChunkPure.run m (toL s) = (m', acc, k) → (good m' = true → ans m (toL s) = (acc, k, whole m', 0) ∧ next m (toL s) = m') ∧ (good m' = false → ans m (toL s) = ([], 0, false, errN m') ∧ next m (toL s) = m')) := Lib.hid (fun m' acc k h => ⟨fin_good h, fin_bad h⟩)
  generalize ans m (toL s) = A at *
  generalize next m (toL s) = N at *
  obtain ⟨b, hb⟩ : ∃ b, b = w.heap.size := ⟨_, rfl⟩
  go_enter Tryz.func41, Tryz.ntmps41
  go_wp2_with fail
  generalize w.alloc (.cells #[.pointer none, .slice none 0 0] 51) = W0 at HX ⊢
  rw [← hb] at HX ⊢
  replace hb := Lib.hid hb
  clear hD hok
  go_loopw [9] (fun i wr => ∃ (k : Nat), k ≤ s.size ∧ i = .int .i64 k ∧ Hid (MidF w F g m s b k wr)) (fun i _ => s.size - (intOf i).toNat)
  case atStart => exact ⟨0, Nat.zero_le _, rfl, HX⟩
  case round =>
    obtain ⟨k, hk, rfl, HI⟩ := hrel
    clear HX
    obtain ⟨m', acc, F', r, v, hM⟩ := HI.out
    clear HI
    by_cases hgd : good m' = true
    · have hrel := hM.rel hgd
      have d8 := hM.cs.cod.c8
      rw [hM.ref, errN_good hgd] at d8
      have d2 := hM.cs.cod.c2
      rw [hrel.next] at d2
      have z8 := hM.cs.cod.free 8
      by_cases hend : k = s.size ∨ stop m' = true
      · have hfin := (HE.out m' acc k (hM.fin hend)).1 hgd
        obtain ⟨hA, hN⟩ := hfin
        have HB : Hid (Bl w.heap.size b acc F' wr.drew) := Lib.hid (hM.bl.step (Step.drew wr F'))
        have HO : Hid (∀ W' G, Step wr.drew W' G G → (∀ k, G k → w.heap.size ≤ k ∧ ¬ F' k) → FedD w W' F g N) := Lib.hid (fun W' G hs hG => by rw [hN]; exact hM.out hs hG)
        have HCc : Hid (∀ W' G, Step wr.drew W' G G → (∀ k, G k → w.heap.size ≤ k ∧ ¬ F' k) → W'.cell? ⟨g, 2, none⟩ = wr.drew.cell? ⟨g, 2, none⟩) := Lib.hid (fun W' G hs hG => hs.cell (b := g) (i := 2) hM.cs.cod.has.lt (fun h => by have := (hG g h).1; omega))
        have c1 : wr.drew.cell? ⟨g, 2, none⟩ = some (.int .i64 (phN m'.ph)) := d2
        obtain ⟨p1, p2⟩ := ph_whole hgd
        have HE2 : Hid ((phN m'.ph = 4 ∧ whole m' = true) ∨ (k = s.size ∧ (phN m'.ph = 0 ∨ phN m'.ph = 1 ∨ phN m'.ph = 2 ∨ phN m'.ph = 3) ∧ whole m' = false)) := Lib.hid (by
          cases q : stop m' with
          | true => exact .inl (p1 q)
          | false =>
            refine .inr ⟨?_, p2 q⟩
            rcases hend with h | h
            · exact h
            · rw [q] at h; cases h)
        replace hA := Lib.hid hA
        generalize phN m'.ph = x at *
        generalize whole m' = wh at *
        clear hrel hend hgd hM HE hN p1 p2 z8
        rcases HE2.out with ⟨rfl, rfl⟩ | ⟨rfl, hx, rfl⟩
        · clear HE2
          rcases Nat.lt_or_ge k s.size with hlt | hge
          · have hki : (k : Int) < (s.size : Int) := by omega
            go_wp2_with fail
            go_region_held3 (fun w' => w'.cell? ⟨g, 2, none⟩ = some (.int .i64 4)) (first | exact c2 | exact c1)
              (first
                | (go_at_call 29; refine (PChStr.Bl.text HB.out).mono ?_; rintro e w1 ⟨rfl, G, hG, hGG⟩
                   have c2 := (HCc.out w1 G hG hGG).trans c1
                   replace HO := Lib.hid (HO.out w1 G hG hGG)
                   clear hG hGG HB HCc))
            go_wp2_with fail
            (try simp only [Exit.inBlock, Exit.then]); refine bodyPost_ret (results_tmp4 rfl _ _ _) rfl ?_
            exact ⟨by rw [hA.out]; rfl, HO.out⟩
          · have hki : ¬ (k : Int) < (s.size : Int) := by omega
            go_wp2_with fail
            go_region_held3 (fun w' => w'.cell? ⟨g, 2, none⟩ = some (.int .i64 4)) (first | exact c2 | exact c1)
              (first
                | (go_at_call 29; refine (PChStr.Bl.text HB.out).mono ?_; rintro e w1 ⟨rfl, G, hG, hGG⟩
                   have c2 := (HCc.out w1 G hG hGG).trans c1
                   replace HO := Lib.hid (HO.out w1 G hG hGG)
                   clear hG hGG HB HCc))
            go_wp2_with fail
            (try simp only [Exit.inBlock, Exit.then]); refine bodyPost_ret (results_tmp4 rfl _ _ _) rfl ?_
            exact ⟨by rw [hA.out]; rfl, HO.out⟩
        · clear HE2
          have hx4 : (x == 4) = false := by rw [beq_eq_false_iff_ne]; omega
          have hx5 : ¬ x = 4 := by omega
          clear hx
          go_wp2_with fail
          go_region_held3 (fun w' => w'.cell? ⟨g, 2, none⟩ = some (.int .i64 x)) (first | exact c2 | exact c1)
            (first
              | (go_at_call 29; refine (PChStr.Bl.text HB.out).mono ?_; rintro e w1 ⟨rfl, G, hG, hGG⟩
                 have c2 := (HCc.out w1 G hG hGG).trans c1
                 replace HO := Lib.hid (HO.out w1 G hG hGG)
                 clear hG hGG HB HCc))
          go_wp2_with fail
          (try simp only [Exit.inBlock, Exit.then]); refine bodyPost_ret (results_tmp4 rfl _ _ _) rfl ?_
          exact ⟨by rw [hA.out]; rfl, HO.out⟩
      · have hlt : k < s.size := by rcases Nat.lt_or_ge k s.size with h | h; exact h; exact absurd (.inl (by omega)) hend
        have hki : (k : Int) < (s.size : Int) := by omega
        have hst : stop m' = false := by cases q : stop m' with
          | false => rfl
          | true => exact absurd (.inr q) hend
        have hsz2 := hM.size
        by_cases hdt : ∃ left, m'.ph = .data left
        · obtain ⟨left, hp⟩ := hdt
          have d3 := hM.cs.cod.c3
          rw [hrel.left left hp] at d3
          rw [hp, show phN (.data left) = 1 from rfl] at d2
          obtain ⟨l1, _⟩ := hM.ok.left left hp
          obtain ⟨_, l2⟩ := hM.bare left hp
          obtain ⟨n, hn⟩ : ∃ n, n = min left (s.size - k) := ⟨_, rfl⟩
          have n1 : 1 ≤ n := by omega
          have n2 : n ≤ left := by omega
          have n3 : k + n ≤ s.size := by omega
          have hmin : min ((k : Int) + (left : Int)) (s.size : Int) = (k : Int) + (n : Int) := by omega
          have n1i : (0 : Int) ≤ (n : Int) := by omega
          have n3i : (k : Int) + (n : Int) ≤ (s.size : Int) := by omega
          have l2i : (left : Int) ≤ 4294967295 := by omega
          have hq := run_size m ((toL s).take k)
          rw [hM.ran] at hq
          dsimp only at hq
          have hroom2 : acc.length + n ≤ 140737488355328 := by
            rcases hroom with h | h
            · have := (run_used m ((toL s).take k)).2.1
              rw [hM.ran] at this
              dsimp only at this
              omega
            · have := (hM.ok.left left hp).2
              omega
          obtain ⟨P, hP⟩ : ∃ P, P = s.extract k (k + n) := ⟨_, rfl⟩
          have sP : P.size = n := by rw [hP, ByteArray.size_extract]; omega
          have tP : toL P = ((toL s).drop k).take n := by rw [hP, toL_extract, List.drop_take, show k + n - k = n by omega]
          have HW := Lib.hid (hM.bl.write hg P (by rw [sP]; exact hroom2))
          rw [tP] at HW
          have HM := Lib.hid hM
          have hr0 : r.line = [] := by rw [hrel.line]; exact (hM.bare left hp).1
          have hrf : r.ref = 0 := by rw [hM.ref, errN_good hgd]
          have HCn : Hid (∀ W1, Below w.heap.size wr W1 → Calls Tryz.prog 63 #[.pointer (some ⟨g, 0, none⟩), .int .i64 n] W1 fun e w' => e = .returned (.tuple #[]) ∧ ∃ r', CS W1 (fun k => k = g) w' (fun k => k = g) g m'.most r' v ∧ Out r' (more m' left n)) :=
            Lib.hid (fun W1 hb1 => pcount_any (CS.write hM.cs hr0 hg hb1).cod hrel hrf hp n2 l2 (by have q1 := (hM.ok.left left hp).2; have q2 := hM.range.2; omega))
          have HNx : Hid (∀ W1 w2 r2, Below w.heap.size wr W1 → Bl w.heap.size b (acc ++ ((toL s).drop k).take n) (fun k => k = g) W1 → CS W1 (fun k => k = g) w2 (fun k => k = g) g m'.most r2 v → Out r2 (more m' left n) → MidF w F g m s b (k + n) w2) :=
            Lib.hid (fun W1 w2 r2 h1 h2 h3 h4 => ⟨_, _, _, _, _, hM.data hp n2 (by omega) n3 h1 hg h2 h3 h4⟩)
          replace hP := hP.symm
          rw [sP] at HW
          clear hend hM hq hroom hroom2 HE hp hrel hgd hn tP hr0 hrf HM l1 l2 z8
          go_wp2_with fail
          refine HW.out.mono ?_
          rintro e W1 ⟨rfl, hb1, hB1⟩
          replace HCn := Lib.hid (HCn.out W1 hB1)
          replace HNx := Lib.hid (fun w2 r2 => HNx.out W1 w2 r2 hB1 hb1)
          clear HW hb1 hB1 d2 d3 d8 hP
          go_wp2_with fail
          refine HCn.out.mono ?_
          rintro e w2 ⟨rfl, r2, hc, ho⟩
          have HQ := Lib.hid (HNx.out w2 r2 hc ho)
          clear HCn HNx hc ho
          go_wp2_with fail
          go_roundw
          case rel => exact ⟨k + n, by omega, by go_num, HQ⟩
          case measure => simp [intOf]; omega
        · have hnd : ∀ n, m'.ph ≠ .data n := fun n h => hdt ⟨n, h⟩
          have hph : m'.ph = .size ∨ m'.ph = .after ∨ ∃ n, m'.ph = .trail n ∧ n ≤ 32 := by
            cases q : m'.ph with
            | size => exact .inl rfl
            | after => exact .inr (.inl rfl)
            | trail n => exact .inr (.inr ⟨n, rfl, hM.ok.trail n q⟩)
            | data n => exact absurd q (hnd n)
            | done => unfold stop at hst; rw [q] at hst; cases hst
            | bad e => unfold stop at hst; rw [q] at hst; cases hst
          have hx : phN m'.ph = 0 ∨ phN m'.ph = 2 ∨ phN m'.ph = 3 := by
            rcases hph with h | h | ⟨n, h, _⟩ <;> (rw [h]; unfold phN; simp)
          have hrf : r.ref = 0 := by rw [hM.ref, errN_good hgd]
          have HR := Lib.hid (prbyte_any hM.cs.cod hrel hrf hph hM.ok.line ⟨hM.range, hM.ok.most⟩ s[k])
          have HNx : Hid (∀ w2, CSF wr F' w2 g m'.most (lineStep m' s[k]) → MidF w F g m s b (k + 1) (w2.setCell ⟨g, 8, none⟩ (.int .i64 (errN (lineStep m' s[k]))))) := Lib.hid (fun w2 hc => hM.byte hst hnd hlt hc)
          generalize lineStep m' s[k] = m2 at *
          generalize phN m'.ph = x at *
          have hx1 : (x == 1) = false := by rw [beq_eq_false_iff_ne]; omega
          have hx4 : (x == 4) = false := by rw [beq_eq_false_iff_ne]; omega
          have hx1n : ¬ x = 1 := by omega
          have hx4n : ¬ x = 4 := by omega
          clear hend hM HE hrel hgd hrf hroom hnd hph hdt hst z8 hx
          go_wp2_with fail
          refine HR.out.mono ?_
          rintro e w2 ⟨rfl, hc⟩
          have HQ := Lib.hid (HNx.out w2 hc)
          obtain ⟨F2, r2, v2, k1, k2⟩ := hc
          have q8 := k1.cod.c8
          have z8 := k1.cod.free 8
          clear HR HNx k1 k2 d2 d8
          go_wp2_with fail
          go_roundw
          case rel => exact ⟨k + 1, by omega, by go_num, HQ⟩
          case measure => simp [intOf]; omega
    · have hgf : good m' = false := by simpa using hgd
      have hstop : stop m' = true := by rw [stop_say, hgf]; rfl
      have d8 := hM.cs.cod.c8
      rw [hM.ref] at d8
      have d2 := hM.cs.cod.c2
      obtain ⟨hA, hN⟩ := (HE.out m' acc k (hM.fin (.inr hstop))).2 hgf
      have hne : (errN m' != 0) = true := by
        unfold good at hgf
        split at hgf
        · rename_i e he
          have := hM.told e he
          unfold errN
          rw [he, bne_iff_ne]
          show e ≠ 0
          omega
        · cases hgf
      have hne2 : (errN m' == 0) = false := by rw [beq_eq_false_iff_ne]; rw [bne_iff_ne] at hne; exact hne
      have HA := Lib.hid hA
      have HD : Hid (∀ W, (∃ n, wr.drewN n = W) → FedD w W F g N) := Lib.hid (fun W ⟨n, hn⟩ => by rw [← hn, hN]; exact hM.fed.more (Step.drewN wr n (fun _ => False)) (fun _ h => h))
      generalize errN m' = er at *
      generalize r.next = nx at *
      clear hA hN hstop hgd hgf hM HE
      rcases Nat.lt_or_ge k s.size with hlt | hge
      · have hki : (k : Int) < (s.size : Int) := by omega
        by_cases hnx : nx = 4
        · subst hnx
          go_wp2_with fail
          go_quiet (fail)
          generalize hW : wr.drewN _ = W2
          replace HD := Lib.hid (HD.out W2 ⟨_, hW⟩)
          go_wp2_with fail
          (try simp only [Exit.inBlock, Exit.then]); refine bodyPost_ret (results_tmp4 rfl _ _ _) rfl ?_
          exact ⟨by rw [HA.out]; rfl, HD.out⟩
        · go_wp2_with fail
          go_quiet (fail)
          generalize hW : wr.drewN _ = W2
          replace HD := Lib.hid (HD.out W2 ⟨_, hW⟩)
          go_wp2_with fail
          (try simp only [Exit.inBlock, Exit.then]); refine bodyPost_ret (results_tmp4 rfl _ _ _) rfl ?_
          exact ⟨by rw [HA.out]; rfl, HD.out⟩
      · have hki : ¬ (k : Int) < (s.size : Int) := by omega
        go_wp2_with fail
        go_quiet (fail)
        generalize hW : wr.drewN _ = W2
        replace HD := Lib.hid (HD.out W2 ⟨_, hW⟩)
        go_wp2_with fail
        (try simp only [Exit.inBlock, Exit.then]); refine bodyPost_ret (results_tmp4 rfl _ _ _) rfl ?_
        exact ⟨by rw [HA.out]; rfl, HD.out⟩
end Go.Proofs.YtmlpdhmafmdkcaaGreatDoor.ChunkObj

/- Layer 10 of the program: New. -/
namespace Go.Proofs.YtmlpdhmafmdkcaaGreatDoor.ChunkObj
open Go.ChangeShapes Go.WideShapes Go.ChangeAt Go.RowKit Bytes LexPure HeadPure ChunkPure ChunkHex ChunkText ChObj Mem Step Ret Rows1
set_option maxRecDepth 20000
/-- what the world must hold for the calls: nothing -/
def Fit (w : World) : Prop := w = w
theorem Fit.of_shape {w : World} (_h : w.ShapedOpen Tryz.prog) : Fit w := rfl
theorem Fit.below {w w' : World} (_h : Fit w) (_hb : Below w.heap.size w w') : Fit w' := rfl
theorem Dec.lt {w : World} {F : Nat → Prop} {g : Nat} {m : M} (h : Dec w F g m) : ∀ k, F k → k < w.heap.size := by
  obtain ⟨r, v, h1, _⟩ := h.is
  exact h1.lt
/-- a new decoder -/
def NewD (w w' : World) (e : Ending) (most : Int) : Prop := ∃ g F, e = .returned (.pointer (some ⟨g, 0, none⟩)) ∧ Dec w' F g (begin_ most) ∧ ∀ k, F k → w.heap.size ≤ k
theorem NewD.at (w : World) (most : Int) (hr : InR most) : NewD w (w.alloc (.cells (cells most ⟨0, 0, 0, [], false, false, 0, 0⟩ (.slice none 0 0)) 90)) (.returned (.pointer (some ⟨w.heap.size, 0, none⟩))) most :=
  ⟨w.heap.size, fun k => k = w.heap.size, rfl, ⟨⟨⟨0, 0, 0, [], false, false, 0, 0⟩, .slice none 0 0, ⟨Has.new w _ _, World.ownsRow_nil _ _ _ _, fun b hb => (by cases hb), rfl, fun _ => rfl, fun k hk => (by rw [hk]; simp)⟩, rfl, fun _ => ⟨rfl, rfl, fun n hn => (by cases hn), rfl, rfl, rfl, fun n hn => (by cases hn), fun _ => rfl⟩⟩, Told.start most, Bare.start most, hr⟩, fun k hk => (by rw [hk]; exact Nat.le_refl _)⟩
theorem pnew_any (most : Int) (hr : InR most) (w : World) (_hm : Fit w) :
    Calls Tryz.prog 26 #[.int .i64 most] w fun e w' => NewD w w' e most ∧ Below w.heap.size w w' := by
  have HN := Lib.hid (NewD.at w most hr)
  unfold cells at HN
  dsimp only at HN
  go_enter Tryz.func26, Tryz.ntmps26
  go_wp2_with fail
  go_ret
  exact ⟨HN.out, (Below.refl _ _).alloc (Nat.le_refl _) _⟩
end Go.Proofs.YtmlpdhmafmdkcaaGreatDoor.ChunkObj

/- Layer 11 of the program: its reader in memory. -/
namespace Go.Proofs.YtmlpdhmafmdkcaaGreatDoor.InObj
open Go.ChangeShapes Go.WideShapes Go.ChangeAt Go.RowKit Bytes FieldsPure HeadPure ChunkPure ChunkObj InflowPure InJudge QCell KeptRow Mem Step InEmb
set_option maxRecDepth 20000
abbrev RT : TypeId := 54
abbrev OT : TypeId := 68
def opV : Option Nat → Value
  | none => .pointer none
  | some h => .pointer (some ⟨h, 0, none⟩)
def rcl (most : Int) (p v : Value) (U E : Nat) (op : Option Nat) (st : Int) : Array Value := #[.int .i64 most, p, v, .int .i64 (U : Int), .int .i64 (E : Int), opV op, .int .i64 st]
theorem spotR : Spot RT 1 7 := ⟨by kernel_rfl, by decide, by decide⟩
theorem spotO : Spot OT 22 24 := ⟨by kernel_rfl, by decide, by decide⟩
/-- block g holds a reader, its bytes T, U of them used; R: its blocks and those of its bytes -/
structure Dat (w : World) (R : Nat → Prop) (g : Nat) (most : Int) (T : List UInt8) (U E : Nat) (op : Option Nat) (st : Int) : Prop where
  is : ∃ p v, Emb w g 1 RT (rcl most p v U E op st) p v T ∧ ∀ k, v.ownBlock = some k → R k
  le : U ≤ T.length
  mine : R g
  lt : ∀ k, R k → k < w.heap.size
section
variable {w w' : World} {R R' : Nat → Prop} {g : Nat} {most : Int} {T : List UInt8} {U E : Nat} {op : Option Nat} {st : Int}
theorem Dat.step (h : Dat w R g most T U E op st) {G G' : Nat → Prop} (hs : Step w w' G G') (hf : ∀ k, R k → ¬ G k) : Dat w' R g most T U E op st := by
  obtain ⟨p, v, h1, h2⟩ := h.is
  exact ⟨⟨p, v, h1.step hs (hf g h.mine) (fun k hk => hf k (h2 k hk)), h2⟩, h.le, h.mine, fun k hk => Nat.lt_of_lt_of_le (h.lt k hk) hs.size⟩
theorem Dat.below (h : Dat w R g most T U E op st) (hb : Below w.heap.size w w') : Dat w' R g most T U E op st := h.step (Step.of_below hb (fun _ => False)) (fun _ _ h => h)
theorem Dat.cells (h : Dat w R g most T U E op st) : w.cell? ⟨g, 0, none⟩ = some (.int .i64 most) ∧ w.cell? ⟨g, 3, none⟩ = some (.int .i64 (U : Int)) ∧ w.cell? ⟨g, 4, none⟩ = some (.int .i64 (E : Int)) ∧ w.cell? ⟨g, 5, none⟩ = some (opV op) ∧ w.cell? ⟨g, 6, none⟩ = some (.int .i64 st) := by
  obtain ⟨p, v, h1, _⟩ := h.is
  exact ⟨(h1.has.cell 0).trans rfl, (h1.has.cell 3).trans rfl, (h1.has.cell 4).trans rfl, (h1.has.cell 5).trans rfl, (h1.has.cell 6).trans rfl⟩
theorem Dat.free (h : Dat w R g most T U E op st) (i : Nat) : w.frozen? ⟨g, i, none⟩ = false := by
  obtain ⟨p, v, h1, _⟩ := h.is
  exact h1.has.free i
theorem set_size (w : World) (a : Addr) (u : Value) : (w.setCell a u).heap.size = w.heap.size := by simp [World.setCell]
theorem Dat.put (h : Dat w R g most T U E op st) (i : Nat) (u : Value) (U' E' : Nat) (op' : Option Nat) (st' : Int) (h0 : i ≠ 1) (h1 : i ≠ 2) (hc : ∀ p v, (rcl most p v U E op st).setIfInBounds i u = rcl most p v U' E' op' st') (hU : U' ≤ T.length) :
    Dat (w.setCell ⟨g, i, none⟩ u) R g most T U' E' op' st' := by
  obtain ⟨p, v, k1, k2⟩ := h.is
  have := k1.put spotR i u h0 h1
  rw [hc] at this
  exact ⟨⟨p, v, this, k2⟩, hU, h.mine, fun k hk => by rw [set_size]; exact h.lt k hk⟩
theorem Dat.putU (h : Dat w R g most T U E op st) (U' : Nat) (hU : U' ≤ T.length) : Dat (w.setCell ⟨g, 3, none⟩ (.int .i64 (U' : Int))) R g most T U' E op st := h.put 3 _ U' E op st (by decide) (by decide) (fun _ _ => rfl) hU
theorem Dat.putE (h : Dat w R g most T U E op st) (E' : Nat) : Dat (w.setCell ⟨g, 4, none⟩ (.int .i64 (E' : Int))) R g most T U E' op st := h.put 4 _ U E' op st (by decide) (by decide) (fun _ _ => rfl) h.le
theorem Dat.putO (h : Dat w R g most T U E op st) (op' : Option Nat) : Dat (w.setCell ⟨g, 5, none⟩ (opV op')) R g most T U E op' st := h.put 5 _ U E op' st (by decide) (by decide) (fun _ _ => rfl) h.le
theorem Dat.putS (h : Dat w R g most T U E op st) (st' : Int) : Dat (w.setCell ⟨g, 6, none⟩ (.int .i64 st')) R g most T U E op st' := h.put 6 _ U E op st' (by decide) (by decide) (fun _ _ => rfl) h.le
theorem Dat.step_put (h : Dat w R g most T U E op st) (i : Nat) (u : Value) : Step w (w.setCell ⟨g, i, none⟩ u) R R := Step.set_ w h.mine i u
/-- other blocks -/
theorem Dat.widen (h : Dat w R g most T U E op st) (hR : ∀ k, R k → R' k) (hl : ∀ k, R' k → k < w.heap.size) : Dat w R' g most T U E op st := by
  obtain ⟨p, v, h1, h2⟩ := h.is
  exact ⟨⟨p, v, h1, fun k hk => hR k (h2 k hk)⟩, h.le, hR g h.mine, hl⟩
end
/-- the blocks of a reader at g whose bytes are the row v -/
def two (g : Nat) (v : Value) : Nat → Prop := fun k => k = g ∨ v.ownBlock = some k
/-- E bytes of empty lines stand ahead -/
def Ahead (D : List UInt8) (E : Nat) : Prop := ∃ k r, D = emptiesOf k ++ r ∧ E = 2 * k
theorem Ahead.zero (D : List UInt8) : Ahead D 0 := ⟨0, D, rfl, rfl⟩
theorem ahead_len (k : Nat) : (emptiesOf k).length = 2 * k := by
  induction k with
  | zero => rfl
  | succ k ih => rw [ahead_succ]; simp only [List.length_cons, ih]; omega
theorem Ahead.le {D : List UInt8} {E : Nat} (h : Ahead D E) : E ≤ D.length := by
  obtain ⟨k, r, rfl, rfl⟩ := h
  rw [List.length_append, ahead_len]
  omega
theorem Ahead.more {D : List UInt8} {E : Nat} (h : Ahead D E) (x : List UInt8) : Ahead (D ++ x) E := by
  obtain ⟨k, r, rfl, rfl⟩ := h
  exact ⟨k, r ++ x, by rw [List.append_assoc], rfl⟩
theorem skip_empties (k : Nat) (r : List UInt8) : skip8 (emptiesOf k ++ r) = 2 * k + skip8 r := by
  induction k with
  | zero => simp [emptiesOf]
  | succ k ih =>
    rw [ahead_succ]
    show (if (13 : UInt8) = 13 ∧ (10 : UInt8) = 10 then skip8 (emptiesOf k ++ r) + 2 else 0) = _
    rw [if_pos ⟨rfl, rfl⟩, ih]
    omega
theorem Ahead.skip {D : List UInt8} {E : Nat} (h : Ahead D E) : skip8 D = E + skip8 (D.drop E) := by
  obtain ⟨k, r, rfl, rfl⟩ := h
  rw [skip_empties, List.drop_append_of_le_length (by rw [ahead_len]; exact Nat.le_refl _), List.drop_of_length_le (by rw [ahead_len]; exact Nat.le_refl _), List.nil_append]
theorem Ahead.next {D : List UInt8} {E : Nat} (h : Ahead D E) (hp : ([13, 10] : List UInt8).isPrefixOf (D.drop E) = true) : Ahead D (E + 2) := by
  obtain ⟨k, r, rfl, rfl⟩ := h
  rw [List.drop_append_of_le_length (by rw [ahead_len]; exact Nat.le_refl _), List.drop_of_length_le (by rw [ahead_len]; exact Nat.le_refl _), List.nil_append] at hp
  obtain ⟨r2, rfl⟩ := List.isPrefixOf_iff_prefix.1 hp
  refine ⟨k + 1, r2, ?_, by omega⟩
  rw [ahead_snoc, List.append_assoc]
/-! ### a request whose head has been read -/
def ocl (q : Rq) (l : Value) (kind len : Int) (rd : Nat) (dp p v : Value) : Array Value :=
  #[.string (ofL q.head.method), .string (ofL q.head.target), .int .i64 q.head.status, .string (ofL q.head.reason), .int .i64 q.head.minor, l,
    .int .i64 q.target.form, .string (ofL q.target.host), .int .i64 q.target.port, .string (ofL q.target.path), .string (ofL q.target.query), .bool q.target.has,
    .string (ofL q.host), .int .i64 q.port, .string (ofL q.body), .bool q.sized, .bool q.keep, .string (ofL q.upgrade),
    .int .i64 kind, .int .i64 len, .int .i64 (rd : Int), dp, p, v]
theorem ocl_size (q : Rq) (l : Value) (kind len : Int) (rd : Nat) (dp p v : Value) : (ocl q l kind len rd dp p v).size = 24 := rfl
/-- how far its body has been read, of the bytes B behind its head: k of them -/
structure Body (w : World) (O : Nat → Prop) (h : Nat) (l : Value) (most : Int) (B : List UInt8) (kind : Int) (k : Nat) (dp v : Value) (body : List UInt8) : Prop where
  plain : kind ≠ 3 → k = 0 ∧ dp = .pointer none
  chunks : kind = 3 → ∃ gd G m, dp = .pointer (some ⟨gd, 0, none⟩) ∧ Dec w G gd m ∧ (∀ j, G j → O j ∧ j ≠ h ∧ l.ownBlock ≠ some j ∧ v.ownBlock ≠ some j) ∧ k ≤ B.length ∧ run (begin_ most) (B.take k) = (m, body, k) ∧ stop m = false
/-- block h holds it; O: its blocks -/
structure Opn (w : World) (O : Nat → Prop) (h : Nat) (most : Int) (D : List UInt8) : Prop where
  is : ∃ q l hd n kind len k dp p v body, Emb w h 22 OT (ocl q l kind len (n + k) dp p v) p v body ∧ RowF w 0 l q.head.fields ∧ (∀ j, l.ownBlock = some j → O j) ∧ (∀ j, v.ownBlock = some j → O j) ∧
    read8 false D = .done hd n ∧ judge11 hd most = .ok q kind len ∧ Body w O h l most (D.drop n) kind k dp v body
  mine : O h
  lt : ∀ k, O k → k < w.heap.size
/-- a row of fields and a row of bytes are two -/
theorem rows_apart {w : World} {l v : Value} {F : List HField} {b : List UInt8} (hl : RowF w 0 l F) (hv : RowB w v b) : ∀ j, l.ownBlock = some j → v.ownBlock ≠ some j := by
  intro j h1 h2
  rcases hl.1.2 with ⟨rfl, _⟩ | ⟨g, cap, cur, rfl, _, hg, _⟩
  · cases h1
  · injection h1 with h1
    subst h1
    rcases hv.2 with ⟨rfl, _⟩ | ⟨g2, cap2, cur2, fz, rfl, _, hg2, _⟩
    · cases h2
    · injection h2 with h2
      subst h2
      rw [hg] at hg2
      injection hg2 with hg2
      injection hg2 with _ ht _
      exact absurd ht (by decide)
theorem Body.step {w w' : World} {O : Nat → Prop} {h : Nat} {l : Value} {most : Int} {B : List UInt8} {kind : Int} {k : Nat} {dp v : Value} {body : List UInt8} (b : Body w O h l most B kind k dp v body) {G G' : Nat → Prop} (hs : Step w w' G G') (hf : ∀ j, O j → ¬ G j) : Body w' O h l most B kind k dp v body := by
  refine ⟨b.plain, fun hk => ?_⟩
  obtain ⟨gd, H, m, h1, h2, h3, h4⟩ := b.chunks hk
  exact ⟨gd, H, m, h1, h2.step hs (fun j hj => hf j (h3 j hj).1), h3, h4⟩
theorem Body.more {w : World} {O : Nat → Prop} {h : Nat} {l : Value} {most : Int} {B : List UInt8} {kind : Int} {k : Nat} {dp v : Value} {body : List UInt8} (b : Body w O h l most B kind k dp v body) (x : List UInt8) : Body w O h l most (B ++ x) kind k dp v body := by
  refine ⟨b.plain, fun hk => ?_⟩
  obtain ⟨gd, H, m, h1, h2, h3, h4, h5, h6⟩ := b.chunks hk
  exact ⟨gd, H, m, h1, h2, h3, by rw [List.length_append]; omega, by rw [List.take_append_of_le_length h4]; exact h5, h6⟩
theorem row_step {w w' : World} {l : Value} {F : List HField} (hl : RowF w 0 l F) {G G' : Nat → Prop} (hs : Step w w' G G') (hf : ∀ j, l.ownBlock = some j → ¬ G j) : RowF w' 0 l F := ⟨hs.row hl.1 hf, hl.2⟩
theorem Opn.step {w w' : World} {O : Nat → Prop} {h : Nat} {most : Int} {D : List UInt8} (o : Opn w O h most D) {G G' : Nat → Prop} (hs : Step w w' G G') (hf : ∀ j, O j → ¬ G j) : Opn w' O h most D := by
  obtain ⟨q, l, hd, n, kind, len, k, dp, p, v, body, h1, h2, h3, h4, h5, h6, h7⟩ := o.is
  exact ⟨⟨q, l, hd, n, kind, len, k, dp, p, v, body, h1.step hs (hf h o.mine) (fun j hj => hf j (h4 j hj)), row_step h2 hs (fun j hj => hf j (h3 j hj)), h3, h4, h5, h6, h7.step hs hf⟩, o.mine, fun j hj => Nat.lt_of_lt_of_le (o.lt j hj) hs.size⟩
theorem Opn.more {w : World} {O : Nat → Prop} {h : Nat} {most : Int} {D : List UInt8} (o : Opn w O h most D) (x : List UInt8) : Opn w O h most (D ++ x) := by
  obtain ⟨q, l, hd, n, kind, len, k, dp, p, v, body, h1, h2, h3, h4, h5, h6, h7⟩ := o.is
  obtain ⟨hn, _⟩ := read_front false D hd n h5
  exact ⟨⟨q, l, hd, n, kind, len, k, dp, p, v, body, h1, h2, h3, h4, by rw [read_append false D x (by rw [h5]; exact fun e => by cases e)]; exact h5, h6, by rw [List.drop_append_of_le_length hn]; exact h7.more x⟩, o.mine, o.lt⟩
/-! ### the reader -/
/-- block g, and those of F, hold a reader: D is not used, st the status with which reading ended (0: it goes on) -/
structure Rdr (w : World) (F : Nat → Prop) (g : Nat) (most : Int) (D : List UInt8) (st : Int) : Prop where
  is : ∃ R T U E op, Dat w R g most T U E op st ∧ T.drop U = D ∧ U ≤ D.length ∧ Ahead D E ∧ (∀ k, R k → F k) ∧ ∀ h, op = some h → st = 0 ∧ ∃ O, Opn w O h most D ∧ ∀ k, O k → F k ∧ ¬ R k
  mine : F g
  lt : ∀ k, F k → k < w.heap.size
theorem Rdr.step {w w' : World} {F G G' : Nat → Prop} {g : Nat} {most : Int} {D : List UInt8} {st : Int} (h : Rdr w F g most D st) (hs : Step w w' G G') (hf : ∀ k, F k → ¬ G k) : Rdr w' F g most D st := by
  obtain ⟨R, T, U, E, op, h1, h2, h3, h4, h5, h6⟩ := h.is
  refine ⟨⟨R, T, U, E, op, h1.step hs (fun k hk => hf k (h5 k hk)), h2, h3, h4, h5, fun j hj => ?_⟩, h.mine, fun k hk => Nat.lt_of_lt_of_le (h.lt k hk) hs.size⟩
  obtain ⟨q0, O, q1, q2⟩ := h6 j hj
  exact ⟨q0, O, q1.step hs (fun k hk => hf k (q2 k hk).1), q2⟩
def NewR (w w' : World) (e : Ending) (most : Int) : Prop := ∃ g F, e = .returned (.pointer (some ⟨g, 0, none⟩)) ∧ Rdr w' F g most [] 0 ∧ ∀ k, F k → w.heap.size ≤ k
def FedR (w w' : World) (F : Nat → Prop) (g : Nat) (most : Int) (D : List UInt8) (st : Int) : Prop := ∃ F', Rdr w' F' g most D st ∧ Step w w' F F'
/-- what Next comes to -/
def nx (most : Int) (D : List UInt8) (st : Int) : In := if st ≠ 0 then .fail st else read11 most D
def outR : In → Rq × Bool × Int
  | .wait => (zeroQ, false, 0)
  | .fail s => (zeroQ, false, s)
  | .whole q _ => (q, true, 0)
def leftR (D : List UInt8) : In → List UInt8
  | .whole _ n => D.drop n
  | _ => D
def stR : In → Int
  | .fail s => s
  | _ => 0
/-- are any bytes there but empty lines? -/
def begun11 (D : List UInt8) : Bool := !(D.drop (skip8 D)).isEmpty && !(D.drop (skip8 D) == [13])
/-- what a call of Next leaves: the request's list of fields is a row of its own, the reader's before or new, and no block of the reader's now -/
def NextR (w w' : World) (e : Ending) (F : Nat → Prop) (g : Nat) (most : Int) (D : List UInt8) (X : In) : Prop :=
  ∃ l F', e = .returned (.tuple #[.agg (qcl (outR X).1 l), .bool (outR X).2.1, .int .i64 (outR X).2.2]) ∧ RowF w' 0 l (outR X).1.head.fields ∧ (∀ b, l.ownBlock = some b → (F b ∨ w.heap.size ≤ b) ∧ ¬ F' b) ∧ Rdr w' F' g most (leftR D X) (stR X) ∧ Step w w' F F'
end Go.Proofs.YtmlpdhmafmdkcaaGreatDoor.InObj



/- How a text begins: strings.HasPrefix, strings.CutPrefix. -/
namespace Go.Proofs.YtmlpdhmafmdkcaaGreatDoor.PPre
open Go.ChangeShapes Go.WideShapes Go.ChangeAt Go.RowKit Bytes Ret
set_option maxRecDepth 20000
theorem lib_has (s p : ByteArray) (w : World) :
    Calls Tryz.prog 32 #[.string s, .string p] w fun e w' => e = .returned (.bool ((toL p).isPrefixOf (toL s))) ∧ w' = w :=
  Any.strings_HasPrefix Tryz.lays99 s p w
theorem lib_cutp (s p : ByteArray) (w : World) :
    Calls Tryz.prog 68 #[.string s, .string p] w fun e w' => e = .returned (.tuple #[.string (ofL (if (toL p).isPrefixOf (toL s) then (toL s).drop p.size else toL s)), .bool ((toL p).isPrefixOf (toL s))]) ∧ w' = w := by
  have h := Any.strings_CutPrefix Tryz.lays103 s p w
  unfold Lib.trimPrefix Lib.hasPrefix at h
  rw [show p.data.toList.length = p.size from toL_length p] at h
  exact h
end Go.Proofs.YtmlpdhmafmdkcaaGreatDoor.PPre

/- Layer 8 of the program: nextLine. -/
namespace Go.Proofs.YtmlpdhmafmdkcaaGreatDoor.PNext
open Go.ChangeShapes Go.WideShapes Go.ChangeAt Go.RowKit LexPure Bytes Ret HeadPure
set_option maxRecDepth 20000
/-- a line as the program tells it: its bytes, whether it is whole, the error -/
def lineT (s : List UInt8) : Line → List UInt8
  | .whole k => s.take k
  | _ => []
def lineB : Line → Bool
  | .whole _ => true
  | _ => false
def lineE : Line → Int
  | .bad e => e
  | _ => 0
theorem ret_line {a b : ByteArray} (h : a = b) {p q : Bool} (k : p = q) {x y : Int} (l : x = y) : Ending.returned (.tuple #[.string a, .bool p, .int .i64 x]) = .returned (.tuple #[.string b, .bool q, .int .i64 y]) := by rw [h, k, l]
theorem mark_line (b : UInt8) : (b = 10 ∧ ((b.toNat : Int) == 10) = true ∧ ((b.toNat : Int) == 13) = false) ∨ (b = 13 ∧ b ≠ 10 ∧ ((b.toNat : Int) == 10) = false ∧ ((b.toNat : Int) == 13) = true) ∨ (b ≠ 10 ∧ b ≠ 13 ∧ ((b.toNat : Int) == 10) = false ∧ ((b.toNat : Int) == 13) = false) := by
  have := all_bytes (p := fun b => decide ((b = 10 ∧ ((b.toNat : Int) == 10) = true ∧ ((b.toNat : Int) == 13) = false) ∨ (b = 13 ∧ b ≠ 10 ∧ ((b.toNat : Int) == 10) = false ∧ ((b.toNat : Int) == 13) = true) ∨ (b ≠ 10 ∧ b ≠ 13 ∧ ((b.toNat : Int) == 10) = false ∧ ((b.toNat : Int) == 13) = false))) (by decide +kernel) b
  exact of_decide_eq_true this
set_option maxHeartbeats 1600000 in
theorem pnext_any (s : ByteArray) (hs : s.size ≤ 4611686018427387904) (most : Nat) (over : Int) (w : World) :
    Calls Tryz.prog 43 #[.string s, .int .i64 (most : Int), .int .i64 over] w fun e w' => e = .returned (.tuple #[.string (ofL (lineT (toL s) (scan most over 0 (toL s)))), .bool (lineB (scan most over 0 (toL s))), .int .i64 (lineE (scan most over 0 (toL s)))]) ∧ w' = w := by
  go_enter Tryz.func43, Tryz.ntmps43
  go_wp2_with fail
  go_loop [12] (fun i => ∃ k : Nat, k ≤ s.size ∧ i = .int .i64 k ∧ Hid (scan most over 0 (toL s) = scan most over k ((toL s).drop k))) (fun i => s.size - (intOf i).toNat)
  case atStart => exact ⟨0, Nat.zero_le _, rfl, Lib.hid rfl⟩
  case round =>
    obtain ⟨k, hk, rfl, hq⟩ := hrel
    by_cases hlt : k < s.size
    · have hki : (k : Int) < (s.size : Int) := by omega
      have HE : Hid (scan most over 0 (toL s) = scan most over k (s[k] :: (toL s).drop (k + 1))) := Lib.hid (by rw [hq.out, toL_drop s k hlt])
      clear hq
      rcases mark_line s[k] with ⟨c0, c1, c2⟩ | ⟨c0, c9, c1, c2⟩ | ⟨c0, c9, c1, c2⟩
      · have HV : Hid (scan most over 0 (toL s) = .bad 80) := Lib.hid (by rw [HE.out, scan_cons, if_pos c0])
        clear HE c0 c2
        go_wp2_with fail
        go_ret3
        rw [HV.out]
        exact ⟨rfl, rfl⟩
      · by_cases hn : k + 1 < s.size
        · have hni : (k : Int) + 1 < (s.size : Int) := by omega
          have hng : ((k : Int) + 1 == (s.size : Int)) = false := beq_eq_false_iff_ne.2 (by omega)
          have HD : Hid (scan most over 0 (toL s) = if s[k + 1] = 10 then .whole k else .bad 80) := Lib.hid (by
            rw [HE.out, scan_cons, if_neg c9, if_pos c0, toL_drop s (k + 1) hn])
          rcases mark_line s[k + 1] with ⟨d0, d1, d2⟩ | ⟨_, d0, d1, d2⟩ | ⟨d0, _, d1, d2⟩
          · have HV : Hid (scan most over 0 (toL s) = .whole k) := Lib.hid (by rw [HD.out, if_pos d0])
            have HT : Hid (s.extract 0 k = ofL ((toL s).take k)) := Lib.hid (toL_inj (by rw [toL_extract, toL_ofL, List.drop_zero]))
            clear HE HD c0 c9 d0 d2
            go_wp2_with fail
            go_ret3
            rw [HV.out]
            exact ⟨ret_line HT.out rfl rfl, rfl⟩
          · have HV : Hid (scan most over 0 (toL s) = .bad 80) := Lib.hid (by rw [HD.out, if_neg d0])
            clear HE HD c0 c9 d0 d2
            go_wp2_with fail
            go_ret3
            rw [HV.out]
            exact ⟨rfl, rfl⟩
          · have HV : Hid (scan most over 0 (toL s) = .bad 80) := Lib.hid (by rw [HD.out, if_neg d0])
            clear HE HD c0 c9 d0 d2
            go_wp2_with fail
            go_ret3
            rw [HV.out]
            exact ⟨rfl, rfl⟩
        · have hng : ((k : Int) + 1 == (s.size : Int)) = true := by rw [beq_iff_eq]; omega
          have HV : Hid (scan most over 0 (toL s) = .wait) := Lib.hid (by
            rw [HE.out, scan_cons, if_neg c9, if_pos c0, List.drop_eq_nil_of_le (by rw [toL_length]; omega)])
          clear HE c0 c9 hn
          go_wp2_with fail
          go_ret3
          rw [HV.out]
          exact ⟨rfl, rfl⟩
      · by_cases hm : most ≤ k
        · have hmi : (most : Int) ≤ (k : Int) := by omega
          have HV : Hid (scan most over 0 (toL s) = .bad over) := Lib.hid (by rw [HE.out, scan_cons, if_neg c0, if_neg c9, if_pos hm])
          clear HE c0 c9
          go_wp2_with fail
          go_ret3
          rw [HV.out]
          exact ⟨rfl, rfl⟩
        · have hmi : ¬ (most : Int) ≤ (k : Int) := by omega
          have HV : Hid (scan most over 0 (toL s) = scan most over (k + 1) ((toL s).drop (k + 1))) := Lib.hid (by
            rw [HE.out, scan_cons, if_neg c0, if_neg c9, if_neg hm])
          clear HE c0 c9
          go_wp2_with fail
          go_round
          case rel => exact ⟨k + 1, by omega, by go_num, HV⟩
          case measure => simp [intOf]; omega
    · have hki : ¬ (k : Int) < (s.size : Int) := by omega
      have HV : Hid (scan most over 0 (toL s) = .wait) := Lib.hid (by rw [hq.out, List.drop_eq_nil_of_le (by rw [toL_length]; omega)]; rfl)
      clear hq
      go_wp2_with fail
      go_ret3
      rw [HV.out]
      exact ⟨rfl, rfl⟩
end Go.Proofs.YtmlpdhmafmdkcaaGreatDoor.PNext

/- Layer 8 of the program: readFields. -/
namespace Go.Proofs.YtmlpdhmafmdkcaaGreatDoor.PFlds8
open Go.ChangeShapes Go.WideShapes Go.ChangeAt Go.RowKit LexPure Bytes Ret Rows1 FieldsPure Flds HeadPure HBox Mem KeptRow PNext PField8
set_option maxRecDepth 20000
theorem ret_fields {W w : World} {R : Res} {v : Value} {n e : Int} {l : List HField} (h2 : (resN R : Int) = n) (h3 : resE R = e) (h4 : (resH R).fields = l) (hf : RowF W w.heap.size v l) (hb : Below w.heap.size w W) :
    ∃ u, Ending.returned (.tuple #[v, .int .i64 n, .int .i64 e]) = .returned (.tuple #[u, .int .i64 (resN R), .int .i64 (resE R)]) ∧ RowF W w.heap.size u (resH R).fields ∧ Below w.heap.size w W :=
  ⟨v, by rw [h2, h3], by rw [h4]; exact hf, hb⟩
theorem field_err (l : List UInt8) : (field8 l).2 = 0 ∨ (field8 l).2 = 70 := by
  unfold field8
  split
  · exact .inl rfl
  · exact .inr rfl
theorem whole_most {most k : Nat} {over : Int} {D : List UInt8} (h : scan most over 0 D = .whole k) : k ≤ most := by
  obtain ⟨l, q, e, hk, _, hm⟩ := scan_whole _ _ _ _ _ h
  omega
theorem whole_len {most k : Nat} {over : Int} {D : List UInt8} (h : scan most over 0 D = .whole k) : k + 2 ≤ D.length := by
  obtain ⟨l, q, e, hk, _, _⟩ := scan_whole _ _ _ _ _ h
  have := congrArg List.length e
  rw [List.length_append, List.length_cons, List.length_cons] at this
  omega
set_option maxHeartbeats 1600000 in
theorem pfields_any (s : ByteArray) (hs : s.size ≤ 4611686018427387904) (w : World) :
    Calls Tryz.prog 44 #[.string s] w fun e w' => ∃ v, e = .returned (.tuple #[v, .int .i64 (resN (fields8 zero8 32 [] 0 (toL s))), .int .i64 (resE (fields8 zero8 32 [] 0 (toL s)))]) ∧ RowF w' w.heap.size v (resH (fields8 zero8 32 [] 0 (toL s))).fields ∧ Below w.heap.size w w' := by
  obtain ⟨i0, hi, hz0, hz1, hz2⟩ := info_parts infoF
  obtain ⟨X, hX⟩ : ∃ X, X = fields8 zero8 32 [] 0 (toL s) := ⟨_, rfl⟩
  rw [← hX]
  replace hX := Lib.hid hX
  have HK := Lib.hid (Kept.start w)
  go_enter Tryz.func44, Tryz.ntmps44
  go_wp2_with fail
  go_loopw [5, 6] (fun f sz wr => ∃ (a : Nat) (acc : List HField), a ≤ s.size ∧ acc.length ≤ 32 ∧ sz = .int .i64 a ∧ Hid (Kept w acc f wr) ∧ Hid (X = fields8 zero8 (32 - acc.length) acc a ((toL s).drop a))) (fun _ sz _ => s.size - (intOf sz).toNat)
  case atStart => exact ⟨0, [], Nat.zero_le _, by decide, rfl, HK, hX⟩
  case round =>
    obtain ⟨a, acc, ha, hac, rfl, HI, HR⟩ := hrel
    clear HK hX
    obtain ⟨p, cap, hv, _, _⟩ := fl_of HI.out.row (by omega)
    subst hv
    have hai : (a : Int) ≤ (s.size : Int) := by omega
    obtain ⟨D, hD⟩ : ∃ D, D = s.extract a s.size := ⟨_, rfl⟩
    have eD : toL D = (toL s).drop a := by rw [hD, toL_extract, toL_take_all s (Nat.le_refl _)]
    have lD : D.size = s.size - a := by rw [hD, ByteArray.size_extract]; omega
    have HN := Lib.hid (fun w => pnext_any D (by omega) 512 83 w)
    rw [← eD] at HR
    have hF : X = match scan 512 83 0 (toL D) with
      | .wait => .wait
      | .bad e => .bad e
      | .whole k => if k = 0 then .done { zero8 with fields := acc } (a + 2) else
        match 32 - acc.length with
        | 0 => .bad 83
        | m + 1 => if (field8 ((toL D).take k)).2 = 0 then fields8 zero8 m (acc ++ [(field8 ((toL D).take k)).1]) (a + k + 2) ((toL D).drop (k + 2)) else .bad 70 := by
      rw [HR.out]
      conv => lhs; unfold fields8
      rfl
    clear HR
    cases hsc : scan 512 83 0 (toL D) with
    | wait =>
      rw [hsc] at HN hF
      have HV : X = .wait := hF
      subst HV
      unfold lineT lineB lineE at HN
      rw [hD] at HN
      clear hF hsc eD lD hD
      go_wp2_with fail
      refine (HN.out _).mono ?_
      rintro e w' ⟨rfl, rfl⟩
      go_wp2_with fail
      go_ret3
      exact ret_fields (R := .wait) rfl rfl rfl (row_none _ _) HI.out.below
    | bad er =>
      rw [hsc] at HN hF
      have HV : X = .bad er := hF
      subst HV
      unfold lineT lineB lineE at HN
      rw [hD] at HN
      clear hF hsc eD lD hD
      go_wp2_with fail
      refine (HN.out _).mono ?_
      rintro e w' ⟨rfl, rfl⟩
      go_wp2_with fail
      go_ret3
      exact ret_fields (R := .bad er) rfl rfl rfl (row_none _ _) HI.out.below
    | whole k =>
      have hkl := whole_len hsc
      have hkm := whole_most hsc
      rw [toL_length] at hkl
      rw [hsc] at HN hF
      unfold lineT lineB lineE at HN
      dsimp only at hF HN
      by_cases hk0 : k = 0
      · rw [if_pos hk0] at hF
        subst hF
        subst hk0
        rw [hD, show ofL ((toL (s.extract a s.size)).take 0) = ⟨#[]⟩ from rfl] at HN
        have ha2 : (a : Int) + 2 ≤ (s.size : Int) := by omega
        have HL := Lib.hid (show RowF wr w.heap.size (.slice p acc.length cap) acc from ⟨HI.out.row, hac⟩)
        clear hsc eD lD hD hkl
        go_wp2_with fail
        refine (HN.out _).mono ?_
        rintro e w' ⟨rfl, rfl⟩
        go_wp2_with fail
        go_ret3
        exact ret_fields (R := .done { zero8 with fields := acc } (a + 2)) (by show ((a + 2 : Nat) : Int) = _; omega) rfl rfl HL.out HI.out.below
      · rw [if_neg hk0] at hF
        obtain ⟨LN, hLN⟩ : ∃ LN, LN = ofL ((toL D).take k) := ⟨_, rfl⟩
        have lLN : LN.size = k := by rw [hLN, ofL_size, List.length_take, toL_length]; omega
        have tLN : toL LN = (toL D).take k := by rw [hLN, toL_ofL]
        rw [← hLN, hD] at HN
        have n1 : ¬ (LN.toList = []) := by
          rw [ByteArray.toList_eq]
          intro h
          have := congrArg List.length h
          rw [show LN.data.toList.length = LN.size from toL_length LN] at this
          rw [List.length_nil] at this
          omega
        have n2 : LN.toList.isEmpty = false := by
          cases hx : LN.toList with
          | nil => exact absurd hx n1
          | cons => rfl
        have ha2 : (a : Int) + ((LN.size : Int) + 2) ≤ (s.size : Int) := by omega
        have hsi : (s.size : Int) ≤ 4611686018427387904 := by omega
        by_cases h32 : acc.length = 32
        · have HV : X = .bad 83 := by rw [hF, h32]; rfl
          subst HV
          have hj : ((acc.length : Int) == 32) = true := by rw [h32]; rfl
          clear hF hsc eD lD hD hkl hLN tLN h32
          go_wp2_with fail
          refine (HN.out _).mono ?_
          rintro e w' ⟨rfl, rfl⟩
          go_wp2_with fail
          go_ret3
          exact ret_fields (R := .bad 83) rfl rfl rfl (row_none _ _) HI.out.below
        · have hj : ((acc.length : Int) == 32) = false := beq_eq_false_iff_ne.2 (by omega)
          obtain ⟨m, hm⟩ : ∃ m, 32 - acc.length = m + 1 := ⟨31 - acc.length, by omega⟩
          rw [hm] at hF
          dsimp only at hF
          have HP := Lib.hid (fun w => pfield_any LN (by omega) w)
          rw [tLN] at HP
          have hfe := field_err ((toL D).take k)
          generalize field8 ((toL D).take k) = y at *
          obtain ⟨⟨f1, f2⟩, er⟩ := y
          dsimp only at hF
          unfold frv fv at HP
          dsimp only at HP
          replace hm := Lib.hid hm
          by_cases h9 : er = 0
          · rw [if_pos h9] at hF
            subst h9
            have tD : ((toL D).drop (k + 2)) = (toL s).drop (a + k + 2) := by rw [eD, List.drop_drop, Nat.add_assoc]
            rw [tD] at hF
            replace hF := Lib.hid hF
            clear hsc eD lD hD hLN tLN h32 hfe tD
            go_wp2_with fail
            refine (HN.out _).mono ?_
            rintro e w' ⟨rfl, rfl⟩
            go_wp2_with fail
            refine (HP.out _).mono ?_
            rintro e w3 ⟨rfl, hb3⟩
            have HK1 := Lib.hid (((HI.out.call hb3).alloc (.cells #[.string (ofL f1), .string (ofL f2)] 117)).alloc (.cells #[.string (ofL f1), .string (ofL f2)] 117))
            have HW := World.news_of_block (heap_alloc_new (w3.alloc (.cells #[.string (ofL f1), .string (ofL f2)] 117)) (.cells #[.string (ofL f1), .string (ofL f2)] 117))
            rw [show (w3.alloc (.cells #[.string (ofL f1), .string (ofL f2)] 117)).heap.size = w3.heap.size + 1 by simp] at HW
            replace HW := Lib.hid HW
            have hrow := HK1.out.row
            have hsz := HK1.out.below.size
            clear hb3
            go_wp2_with (at_builtin; refine wpList_append_own_at _ rfl (.tmp 42) (.tmp 44) 29 rfl w.heap.size 117 i0 _ 2 32 Tryz.underlying29 hi hz0 hz1 hz2 rfl (by omega) _ _ _ rfl hrow ⟨w3.heap.size + 1, 0, none⟩ 1 1 (encF (f1, f2)) rfl rfl HW.out (by simp [encF, Value.oneCell']) (by simp only [maxLen]; omega) (by omega) hsz ?_; intro v4 w4 hown4 hg4 _ hat4)
            have HK3 : Hid (Kept w (acc ++ [(f1, f2)]) v4 w4) := Lib.hid (by
              refine ⟨?_, Below.grown HK1.out.below hg4 HK1.out.below.size HK1.out.lt⟩
              rw [encFs_append, List.length_append]
              exact hown4)
            clear hown4 hg4 hat4 hrow
            go_wp2_with fail
            go_roundw
            case rel => exact ⟨a + k + 2, acc ++ [(f1, f2)], by omega, by rw [List.length_append, List.length_singleton]; have := hm.out; omega, by go_num, HK3, Lib.hid (by rw [hF.out, List.length_append, List.length_singleton, show 32 - (acc.length + 1) = m by have := hm.out; omega])⟩
            case measure => simp [intOf]; omega
          · rw [if_neg h9] at hF
            have h7 : (er != 0) = true := bne_iff_ne.2 h9
            have h70 : er = 70 := hfe.resolve_left h9
            subst h70
            subst hF
            clear hsc eD lD hD hkl hLN tLN h32 h9 hfe
            go_wp2_with fail
            refine (HN.out _).mono ?_
            rintro e w' ⟨rfl, rfl⟩
            go_wp2_with fail
            refine (HP.out _).mono ?_
            rintro e w3 ⟨rfl, hb3⟩
            go_wp2_with fail
            go_ret3
            exact ret_fields (R := .bad 70) rfl rfl rfl (row_none _ _) (below_chain (below_chain HI.out.below hb3) ((Below.refl _ _).alloc (Nat.le_refl _) _))
end Go.Proofs.YtmlpdhmafmdkcaaGreatDoor.PFlds8

/- Layer 4 of the program: Decimal. -/
namespace Go.Proofs.YtmlpdhmafmdkcaaGreatDoor.PDecimal
open Go.ChangeShapes Go.WideShapes Go.ChangeAt Go.RowKit LexPure Bytes Ret LexNum PCount
set_option maxRecDepth 20000
theorem pdecimal_any (s : ByteArray) (hs : s.size ≤ maxLen) (digits : Int) (w : World) :
    Calls Tryz.prog 69 #[.string s, .int .i64 digits] w fun e w' => e = .returned (.tuple #[.int .i64 (numR 10 (min digits 18) (toL s)), .bool (numOk 10 (min digits 18) (toL s))]) ∧ w = w' := by
  have HN := Lib.hid (pnumber_any s hs (min digits 18) 10 (.inl ⟨rfl, Int.min_le_right _ _⟩))
  clear hs
  rcases (show digits < 18 ∨ digits = 18 ∨ 18 < digits by omega) with h | h | h
  · have hm : min digits 18 = digits := by omega
    rw [hm] at HN ⊢
    go_enter Tryz.func69, Tryz.ntmps69
    go_wp2_with fail
    refine (HN.out _).mono ?_
    rintro e w' ⟨rfl, rfl⟩
    go_wp2_with fail
    go_ret2
    exact ⟨rfl, rfl⟩
  · subst h
    have hm : min 18 18 = (18 : Int) := rfl
    rw [hm] at HN ⊢
    go_enter Tryz.func69, Tryz.ntmps69
    go_wp2_with fail
    refine (HN.out _).mono ?_
    rintro e w' ⟨rfl, rfl⟩
    go_wp2_with fail
    go_ret2
    exact ⟨rfl, rfl⟩
  · have hm : min digits 18 = 18 := by omega
    rw [hm] at HN ⊢
    go_enter Tryz.func69, Tryz.ntmps69
    go_wp2_with fail
    refine (HN.out _).mono ?_
    rintro e w' ⟨rfl, rfl⟩
    go_wp2_with fail
    go_ret2
    exact ⟨rfl, rfl⟩
end Go.Proofs.YtmlpdhmafmdkcaaGreatDoor.PDecimal

/- Layer 8 of the program: readVersion. -/
namespace Go.Proofs.YtmlpdhmafmdkcaaGreatDoor.PVer8
open Go.ChangeShapes Go.WideShapes Go.ChangeAt Go.RowKit LexPure Bytes Ret LexNum FieldsPure HeadPure CutAt HeadCut PPre PCutLib PDecimal
set_option maxRecDepth 20000
theorem ret_ver {a b c d : Int} (h : a = b) (k : c = d) : Ending.returned (.tuple #[.int .i64 a, .int .i64 c]) = .returned (.tuple #[.int .i64 b, .int .i64 d]) := by rw [h, k]
set_option maxHeartbeats 1600000 in
theorem pversion_any (s : ByteArray) (hs : s.size ≤ 140737488351232) (w : World) :
    Calls Tryz.prog 48 #[.string s] w fun e w' => e = .returned (.tuple #[.int .i64 (version8 (toL s)).1, .int .i64 (version8 (toL s)).2]) ∧ Below w.heap.size w w' := by
  have HP := lib_cutp s ⟨#[72, 84, 84, 80, 47]⟩ w
  rw [show toL (⟨#[72, 84, 84, 80, 47]⟩ : ByteArray) = HTTPS from rfl, show (⟨#[72, 84, 84, 80, 47]⟩ : ByteArray).size = 5 from rfl] at HP
  have hv : (if HTTPS.isPrefixOf (toL s) then (toL s).drop 5 else toL s) = verR (toL s) := rfl
  rw [hv] at HP
  have hvl : (verR (toL s)).length ≤ s.size := by
    unfold verR
    rw [← toL_length s]
    split
    · rw [List.length_drop]; omega
    · exact Nat.le_refl _
  have HC := Lib.hid (fun w => full_cut 46 (ofL (verR (toL s))) (by rw [ofL_size]; omega) w)
  rw [toL_ofL] at HC
  have l1 : (aheadOf 46 (verR (toL s))).length ≤ (verR (toL s)).length := by rw [ahead_take, List.length_take]; omega
  have l2 : (behind 46 (verR (toL s))).length ≤ (verR (toL s)).length := by rw [cut_drop, List.length_drop]; omega
  have HD1 := Lib.hid (fun w => pdecimal_any (ofL (aheadOf 46 (verR (toL s)))) (by unfold maxLen; rw [ofL_size]; omega) 1 w)
  have HD2 := Lib.hid (fun w => pdecimal_any (ofL (behind 46 (verR (toL s)))) (by unfold maxLen; rw [ofL_size]; omega) 1 w)
  rw [toL_ofL, show min (1 : Int) 18 = 1 from rfl] at HD1 HD2
  have HX := version_prog (toL s)
  unfold verP at HX
  generalize version8 (toL s) = X at *
  generalize HTTPS.isPrefixOf (toL s) = p at *
  generalize aheadOf 46 (verR (toL s)) = A at *
  generalize behind 46 (verR (toL s)) = B at *
  generalize hasB 46 (verR (toL s)) = q at *
  generalize verR (toL s) = R at *
  generalize numOk 10 1 A = a at *
  generalize numOk 10 1 B = b at *
  generalize numR 10 1 A = m at *
  generalize numR 10 1 B = n at *
  replace HP := Lib.hid HP
  clear hv hvl l1 l2 hs
  rcases (show (p = true ∧ a = true ∧ b = true) ∨ p = false ∨ (p = true ∧ a = false) ∨ (p = true ∧ a = true ∧ b = false) by cases p <;> cases a <;> cases b <;> simp) with ⟨rfl, rfl, rfl⟩ | rfl | ⟨rfl, rfl⟩ | ⟨rfl, rfl, rfl⟩
  · rw [if_pos (by decide)] at HX
    by_cases hm : m = 1
    · rw [if_pos hm] at HX
      have hb : (m != 1) = false := by rw [hm]; rfl
      replace HX := Lib.hid HX
      clear hm
      go_enter Tryz.func48, Tryz.ntmps48
      go_wp2_with fail
      refine HP.out.mono ?_
      rintro e w' ⟨rfl, rfl⟩
      go_wp2_with fail
      refine (HC.out _).mono ?_
      rintro e w2 ⟨rfl, hb2⟩
      go_wp2_with fail
      refine (HD1.out _).mono ?_
      rintro e w3 ⟨rfl, rfl⟩
      go_wp2_with fail
      refine (HD2.out _).mono ?_
      rintro e w4 ⟨rfl, rfl⟩
      go_wp2_with fail
      go_ret2
      exact ⟨ret_ver (by rw [HX.out]) (by rw [HX.out]), hb2⟩
    · rw [if_neg hm] at HX
      have hb : (m != 1) = true := bne_iff_ne.2 hm
      replace HX := Lib.hid HX
      clear hm
      go_enter Tryz.func48, Tryz.ntmps48
      go_wp2_with fail
      refine HP.out.mono ?_
      rintro e w' ⟨rfl, rfl⟩
      go_wp2_with fail
      refine (HC.out _).mono ?_
      rintro e w2 ⟨rfl, hb2⟩
      go_wp2_with fail
      refine (HD1.out _).mono ?_
      rintro e w3 ⟨rfl, rfl⟩
      go_wp2_with fail
      refine (HD2.out _).mono ?_
      rintro e w4 ⟨rfl, rfl⟩
      go_wp2_with fail
      go_ret2
      exact ⟨ret_ver (by rw [HX.out]) (by rw [HX.out]), hb2⟩
  all_goals
    rw [if_neg (by simp)] at HX
    replace HX := Lib.hid HX
    go_enter Tryz.func48, Tryz.ntmps48
    go_wp2_with fail
    refine HP.out.mono ?_
    rintro e w' ⟨rfl, rfl⟩
    go_wp2_with fail
    refine (HC.out _).mono ?_
    rintro e w2 ⟨rfl, hb2⟩
    go_wp2_with fail
    refine (HD1.out _).mono ?_
    rintro e w3 ⟨rfl, rfl⟩
    go_wp2_with fail
    refine (HD2.out _).mono ?_
    rintro e w4 ⟨rfl, rfl⟩
    go_wp2_with fail
    go_ret2
    exact ⟨ret_ver (by rw [HX.out]) (by rw [HX.out]), hb2⟩
end Go.Proofs.YtmlpdhmafmdkcaaGreatDoor.PVer8

/- Layer 8 of the program: isTarget. -/
namespace Go.Proofs.YtmlpdhmafmdkcaaGreatDoor.PSeen
open Go.ChangeShapes Go.WideShapes Go.ChangeAt Go.RowKit LexPure Bytes Ret FieldsPure HeadPure HeadCut PTrim PText Mem
set_option maxRecDepth 20000
/-- what may stand as a target -/
def targetB (s : List UInt8) : Bool := s.all seenB && !s.isEmpty
theorem target_iff (s : List UInt8) : targetB s = true ↔ s.all seenB = true ∧ s ≠ [] := by
  unfold targetB
  cases s <;> simp
theorem seen_three (b : UInt8) : (seenB b = false ∧ (b.toNat : Int) < 33) ∨ (seenB b = false ∧ ¬ (b.toNat : Int) < 33 ∧ (126 : Int) < (b.toNat : Int)) ∨ (seenB b = true ∧ ¬ (b.toNat : Int) < 33 ∧ ¬ (126 : Int) < (b.toNat : Int)) := by
  unfold seenB
  rcases (show b.toNat ≤ 32 ∨ 127 ≤ b.toNat ∨ (32 < b.toNat ∧ b.toNat < 127) by omega) with h | h | h
  · exact .inl ⟨by rw [decide_eq_false (by omega)]; rfl, by omega⟩
  · exact .inr (.inl ⟨by rw [decide_eq_false (p := b.toNat < 127) (by omega), Bool.and_false], by omega, by omega⟩)
  · exact .inr (.inr ⟨by rw [decide_eq_true h.1, decide_eq_true h.2]; rfl, by omega, by omega⟩)
theorem ptarget_any (s : ByteArray) (hs : s.size ≤ 140737488351232) (w : World) :
    Calls Tryz.prog 47 #[.string s] w fun e w' => e = .returned (.bool (targetB (toL s))) ∧ w' = w := by
  go_enter Tryz.func47, Tryz.ntmps47
  go_wp2_with fail
  go_loop [6] (fun i => ∃ k : Nat, k ≤ s.size ∧ i = .int .i64 k ∧ Hid (((toL s).take k).all seenB = true)) (fun i => s.size - (intOf i).toNat)
  case atStart => exact ⟨0, Nat.zero_le _, rfl, Lib.hid rfl⟩
  case round =>
    obtain ⟨k, hk, rfl, ha⟩ := hrel
    by_cases hlt : k < s.size
    · have hki : (k : Int) < (s.size : Int) := by omega
      have HS := Lib.hid (toL_take_succ s k hlt)
      have HG := Lib.hid (toL_get s k hlt)
      rcases seen_three s[k] with ⟨c0, c1⟩ | ⟨c0, c1, c2⟩ | ⟨c0, c1, c2⟩
      · have HV : Hid (targetB (toL s) = false) := Lib.hid (by
          unfold targetB
          rw [Bool.and_eq_false_iff]
          left
          rw [List.all_eq_false]
          exact ⟨s[k], List.mem_of_getElem? HG.out, by rw [c0]; decide⟩)
        clear HS HG c0
        go_wp2_with fail
        go_ret
        exact ⟨by rw [HV.out]; rfl, rfl⟩
      · have HV : Hid (targetB (toL s) = false) := Lib.hid (by
          unfold targetB
          rw [Bool.and_eq_false_iff]
          left
          rw [List.all_eq_false]
          exact ⟨s[k], List.mem_of_getElem? HG.out, by rw [c0]; decide⟩)
        clear HS HG c0
        go_wp2_with fail
        go_ret
        exact ⟨by rw [HV.out]; rfl, rfl⟩
      · have HA : Hid (((toL s).take (k + 1)).all seenB = true) := Lib.hid (by rw [HS.out, List.all_append, ha.out]; simp [c0])
        clear HS HG c0
        go_wp2_with fail
        go_round
        case rel => exact ⟨k + 1, by omega, by go_num, HA⟩
        case measure => simp [intOf]; omega
    · have hki : ¬ (k : Int) < (s.size : Int) := by omega
      have hall : (toL s).take k = toL s := toL_take_all s (by omega)
      have HV : Hid (targetB (toL s) = !(s.toList).isEmpty) := Lib.hid (by
        unfold targetB
        rw [← hall, ha.out, hall, ByteArray.toList_eq]
        rfl)
      clear ha hall
      cases hz : s.toList with
      | nil =>
        rw [hz] at HV
        go_wp2_with fail
        go_ret
        exact ⟨by rw [HV.out]; rfl, rfl⟩
      | cons c r =>
        rw [hz] at HV
        have n1 : ¬ (s.toList = []) := by rw [hz]; intro h; cases h
        have n2 : s.toList.isEmpty = false := by rw [hz]; rfl
        clear hz
        go_wp2_with fail
        go_ret
        exact ⟨by rw [HV.out]; rfl, rfl⟩
end Go.Proofs.YtmlpdhmafmdkcaaGreatDoor.PSeen

/- Layer 8 of the program: startLine. -/
namespace Go.Proofs.YtmlpdhmafmdkcaaGreatDoor.PStart8
open Go.ChangeShapes Go.WideShapes Go.ChangeAt Go.RowKit LexPure Bytes Ret FieldsPure HeadPure CutAt HeadCut HBox Mem PCutLib PToken PVer8 PSeen
set_option maxRecDepth 20000
theorem cut_sizes (x : UInt8) (s : List UInt8) : (aheadOf x s).length ≤ s.length ∧ (behind x s).length ≤ s.length :=
  ⟨by rw [ahead_take, List.length_take]; omega, by rw [cut_drop, List.length_drop]; omega⟩
set_option maxHeartbeats 1600000 in
theorem pstart_any (s : ByteArray) (hs : s.size ≤ 140737488351232) (w : World) :
    Calls Tryz.prog 34 #[.string s] w fun e w' => e = .returned (hrv (start8 (toL s)).1 (.slice none 0 0) (start8 (toL s)).2) ∧ Below w.heap.size w w' := by
  have HO := Lib.hid (HOne.start w)
  obtain ⟨x, hx⟩ : ∃ x, x = start8 (toL s) := ⟨_, rfl⟩
  rw [← hx]
  rw [start_prog] at hx
  unfold startP at hx
  have z1 := cut_sizes 32 (toL s)
  have z2 := cut_sizes 32 (behind 32 (toL s))
  rw [toL_length] at z1
  have HC1 := Lib.hid (fun w => full_cut 32 s hs w)
  have HC2 := Lib.hid (fun w => full_cut 32 (ofL (behind 32 (toL s))) (by rw [ofL_size]; omega) w)
  rw [toL_ofL] at HC2
  have HT := Lib.hid (fun w => (ptoken_any (ofL (aheadOf 32 (toL s))) (by unfold maxLen; rw [ofL_size]; omega) w).mono (fun e w' h => (⟨h.1, h.2.symm⟩ : e = .returned (.bool (token (toL (ofL (aheadOf 32 (toL s)))))) ∧ w' = w)))
  have HG := Lib.hid (fun w => ptarget_any (ofL (aheadOf 32 (behind 32 (toL s)))) (by rw [ofL_size]; omega) w)
  have HV := Lib.hid (fun w => pversion_any (ofL (behind 32 (behind 32 (toL s)))) (by rw [ofL_size]; omega) w)
  have hM : (ofL (aheadOf 32 (toL s))).size = (aheadOf 32 (toL s)).length := ofL_size _
  rw [toL_ofL] at HT HG HV
  generalize hasB 32 (toL s) = q1 at *
  generalize hasB 32 (behind 32 (toL s)) = q2 at *
  generalize hM0 : aheadOf 32 (toL s) = M at *
  generalize behind 32 (toL s) = R at *
  generalize hT0 : aheadOf 32 R = T at *
  generalize behind 32 R = V at *
  have hh : (T.all seenB = true ∧ T ≠ []) = (targetB T = true) := propext (target_iff T).symm
  simp only [hh] at hx
  generalize version8 V = v at *
  generalize token M = tk at *
  generalize targetB T = tg at *
  obtain ⟨m, er⟩ := v
  clear z1 z2 hM0 hT0 hh hs
  replace hx := Lib.hid hx
  have hcases : (16 : Int) < ((ofL M).size : Int) ∨ ¬ (16 : Int) < ((ofL M).size : Int) := by omega
  go_enter Tryz.func34, Tryz.ntmps34
  go_wp2_with fail
  generalize w.alloc (.cells #[.string ⟨#[]⟩, .string ⟨#[]⟩, .int .i64 0, .string ⟨#[]⟩, .int .i64 0, .slice none 0 0] 31) = W at HO ⊢
  obtain ⟨g, hg⟩ : ∃ g, g = w.heap.size := ⟨_, rfl⟩
  rw [← hg] at HO ⊢
  replace hg := Lib.hid hg
  refine (HC1.out _).mono ?_
  rintro e w1 ⟨rfl, hb1⟩
  replace HO := Lib.hid (HO.out.call hb1)
  clear hb1 HC1
  go_wp2_with fail
  refine (HC2.out _).mono ?_
  rintro e w2 ⟨rfl, hb2⟩
  replace HO := Lib.hid (HO.out.call hb2)
  clear hb2 HC2
  obtain ⟨d0, d1, d2, d3, d4, d5⟩ := HO.out.box.cells
  obtain ⟨y0, y1, y2, y3, y4, y5⟩ := HO.out.box.frees
  have HE := Lib.hid (HO.out.box.put zero8 (.slice none 0 0))
  have HB := Lib.hid (HO.out.put zero8 (.slice none 0 0))
  rcases hcases with hi | hi
  · have HX : x = (zero8, 80) := by rw [hx.out, if_neg]; rintro ⟨h, _⟩; omega
    subst HX
    clear hx HO HT HG HV
    go_wp2_with fail
    refine bodyPost_ret (v := hrv zero8 (.slice none 0 0) 80) ?_ rfl ⟨rfl, HB.out⟩
    rw [results_cell_tmp rfl]
    exact end_hbox rfl rfl HE.out
  cases tk with
  | false =>
    have HX : x = (zero8, 80) := by rw [hx.out, if_neg]; rintro ⟨_, h, _⟩; cases h
    subst HX
    clear hx HO HG HV
    go_wp2_with fail
    refine (HT.out _).mono ?_
    rintro e w' ⟨rfl, rfl⟩
    go_wp2_with fail
    refine bodyPost_ret (v := hrv zero8 (.slice none 0 0) 80) ?_ rfl ⟨rfl, HB.out⟩
    rw [results_cell_tmp rfl]
    exact end_hbox rfl rfl HE.out
  | true =>
  cases tg with
  | false =>
    have HX : x = (zero8, 80) := by rw [hx.out, if_neg]; rintro ⟨_, _, h⟩; cases h
    subst HX
    clear hx HO HV
    go_wp2_with fail
    refine (HT.out _).mono ?_
    rintro e w' ⟨rfl, rfl⟩
    go_wp2_with fail
    refine (HG.out _).mono ?_
    rintro e w' ⟨rfl, rfl⟩
    go_wp2_with fail
    refine bodyPost_ret (v := hrv zero8 (.slice none 0 0) 80) ?_ rfl ⟨rfl, HB.out⟩
    rw [results_cell_tmp rfl]
    exact end_hbox rfl rfl HE.out
  | true =>
  have HX1 : x = if er = 0 then (⟨M, T, 0, [], m, []⟩, 0) else (zero8, er) := by
    rw [hx.out, if_pos ⟨by omega, rfl, rfl⟩]
  clear hx HE HB d0 d1 d2 d3 d4 d5 y0 y1 y2 y3 y4 y5
  go_wp2_with fail
  refine (HT.out _).mono ?_
  rintro e w' ⟨rfl, rfl⟩
  go_wp2_with fail
  refine (HG.out _).mono ?_
  rintro e w' ⟨rfl, rfl⟩
  clear HT HG
  go_wp2_with fail
  refine (HV.out _).mono ?_
  rintro e w3 ⟨rfl, hb3⟩
  replace HO := Lib.hid (HO.out.call hb3)
  clear hb3 HV
  obtain ⟨d0, d1, d2, d3, d4, d5⟩ := HO.out.box.cells
  obtain ⟨y0, y1, y2, y3, y4, y5⟩ := HO.out.box.frees
  by_cases h6 : er = 0
  · rw [if_pos h6] at HX1
    subst HX1
    subst h6
    have HE := Lib.hid (HO.out.box.put ⟨M, T, 0, [], m, []⟩ (.slice none 0 0))
    have HB := Lib.hid (HO.out.put ⟨M, T, 0, [], m, []⟩ (.slice none 0 0))
    unfold hput at HE HB
    clear HO
    go_wp2_with fail
    refine bodyPost_ret (v := hrv ⟨M, T, 0, [], m, []⟩ (.slice none 0 0) 0) ?_ rfl ⟨rfl, HB.out⟩
    rw [results_cell_tmp rfl]
    exact end_hbox rfl rfl HE.out
  · rw [if_neg h6] at HX1
    subst HX1
    have h7 : (er != 0) = true := bne_iff_ne.2 h6
    have HE := Lib.hid (HO.out.box.put zero8 (.slice none 0 0))
    have HB := Lib.hid (HO.out.put zero8 (.slice none 0 0))
    clear HO h6
    go_wp2_with fail
    refine bodyPost_ret (v := hrv zero8 (.slice none 0 0) er) ?_ rfl ⟨rfl, HB.out⟩
    rw [results_cell_tmp rfl]
    exact end_hbox rfl rfl HE.out
end Go.Proofs.YtmlpdhmafmdkcaaGreatDoor.PStart8
