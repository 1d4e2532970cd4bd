/- Texts of this seat, one behind another: HeadLines, OutBackP, R10Enc, OutflowBackW. -/
import Derived.Lib.Hide
import Derived.Lib.AppendStr
import Derived.Below
import Derived.Outline
import Derived.LoopTactic
import Derived.Handy
import Derived.Maps.AppendAt
import Derived.Laws.DeepStrings4
import Derived.Test.YtggmafmebocoaaaGreatDoorC1
import Derived.Test.YtggmafmebocoaaaGreatDoorP
import Derived.Test.YtggmafmebocoaaaGreatDoorB
/- Layer 8: a head read line by line: what each line brings. No program is named. -/
namespace Go.Proofs.YtggmafmebocoaaaGreatDoor.HeadLines
open LexPure Bytes FieldsPure HeadPure HeadWrit
set_option maxRecDepth 20000
def bare (l : List UInt8) : Prop := ∀ c ∈ l, c ≠ 10 ∧ c ≠ 13
/-- a start line of version 1.1 -/
def startL (m t : List UInt8) : List UInt8 := m ++ 32 :: (t ++ HTTP11)
theorem start_bare {m t : List UInt8} (hm : token m = true) (ht : t.all seenB = true) : bare (startL m t) := by
  obtain ⟨hmm, _⟩ := token_marks hm
  have hts : ∀ c ∈ t, seenB c = true := List.all_eq_true.1 ht
  intro c hc
  unfold startL at hc
  simp only [List.mem_append, List.mem_cons] at hc
  rcases hc with h | rfl | h | h
  · exact ⟨((mark_not c).1 (hmm c h)).2.1, ((mark_not c).1 (hmm c h)).2.2.1⟩
  · decide
  · exact ⟨((mark_not c).2.2.2 (hts c h)).1, ((mark_not c).2.2.2 (hts c h)).2.1⟩
  · unfold HTTP11 at h
    simp only [List.mem_cons, List.not_mem_nil, or_false] at h
    rcases h with rfl | rfl | rfl | rfl | rfl | rfl | rfl | rfl | rfl <;> decide
theorem start_say {m t : List UInt8} (hm : token m = true) (hml : m.length ≤ 16) (ht : t.all seenB = true) (ht0 : 0 < t.length) : start8 (startL m t) = (⟨m, t, 0, [], 1, []⟩, 0) := by
  obtain ⟨hmm, _⟩ := token_marks hm
  have hts : ∀ c ∈ t, seenB c = true := List.all_eq_true.1 ht
  unfold startL
  have u1 : upB (m ++ 32 :: (t ++ HTTP11)) = m := take_until (fun c hc => by
    have := ((mark_not c).1 (hmm c hc)).2.2.2
    simpa using this) (by decide)
  have d1 : (m ++ 32 :: (t ++ HTTP11)).drop (m.length + 1) = t ++ HTTP11 := by
    rw [← List.drop_drop, List.drop_left]
    rfl
  have u2 : upB (t ++ HTTP11) = t := take_until (x := [72, 84, 84, 80, 47, 49, 46, 49]) (fun c hc => by
    have := ((mark_not c).2.2.2 (hts c hc)).2.2
    simpa using this) (by decide)
  have d2 : (t ++ HTTP11).drop (t.length + 1) = [72, 84, 84, 80, 47, 49, 46, 49] := by
    rw [← List.drop_drop, List.drop_left]
    rfl
  unfold start8
  rw [u1, d1, if_pos ⟨by simp, hml, hm⟩]
  simp only [u2, d2]
  rw [if_pos ⟨by simp [HTTP11], ht0, ht⟩]
  rfl
/-- the start line -/
theorem read_start {m t : List UInt8} (hm : token m = true) (hml : m.length ≤ 16) (ht : t.all seenB = true) (ht0 : 0 < t.length) (htl : t.length ≤ 1024) (s : List UInt8) :
    read8 false (startL m t ++ 13 :: 10 :: s) = fields8 ⟨m, t, 0, [], 1, []⟩ 32 [] ((startL m t).length + 2) s := by
  obtain ⟨hmm, hm0⟩ := token_marks hm
  have hsk : skip8 (startL m t ++ 13 :: 10 :: s) = 0 := by
    unfold startL
    cases m with
    | nil => simp at hm0
    | cons c m =>
      have hc := ((mark_not c).1 (hmm c List.mem_cons_self)).2.2.1
      cases hx : m ++ 32 :: (t ++ HTTP11) ++ 13 :: 10 :: s with
      | nil => simp at hx
      | cons d x =>
        rw [List.cons_append, List.cons_append, hx, skip8, if_neg (fun h => hc h.1)]
  have hlen : (startL m t).length = m.length + t.length + 10 := by simp [startL, HTTP11]; omega
  unfold read8 skipOf
  simp only [Bool.false_eq_true, if_false]
  rw [hsk, List.drop_zero]
  unfold from8
  rw [scan_line 1100 82 _ _ 0 (start_bare hm ht) (.inr (by omega))]
  simp only [Nat.zero_add, Bool.false_eq_true, if_false]
  have e3 : (startL m t ++ 13 :: 10 :: s).take (startL m t).length = startL m t := List.take_left
  have e4 : (startL m t ++ 13 :: 10 :: s).drop ((startL m t).length + 2) = s := by
    rw [← List.drop_drop, List.drop_left]
    rfl
  rw [e3, e4, start_say hm hml ht ht0, if_pos rfl]
/-- a field's line -/
theorem fields_line (h : H8) (m : Nat) (acc : List HField) (a : Nat) {L : List UInt8} (hb : bare L) (h0 : 0 < L.length) (hl : L.length ≤ 512) (s : List UInt8) :
    fields8 h (m + 1) acc a (L ++ 13 :: 10 :: s) = if (field8 L).2 = 0 then fields8 h m (acc ++ [(field8 L).1]) (a + L.length + 2) s else .bad 70 := by
  conv => lhs; unfold fields8
  rw [scan_line 512 83 _ L 0 hb (.inr (by omega))]
  simp only [Nat.zero_add]
  rw [if_neg (by omega)]
  have e3 : (L ++ 13 :: 10 :: s).take L.length = L := List.take_left
  have e4 : (L ++ 13 :: 10 :: s).drop (L.length + 2) = s := by
    rw [← List.drop_drop, List.drop_left]
    rfl
  rw [e3, e4]
/-- the empty line -/
theorem fields_end (h : H8) (m : Nat) (acc : List HField) (a : Nat) (s : List UInt8) : fields8 h m acc a (13 :: 10 :: s) = .done { h with fields := acc } (a + 2) := by
  unfold fields8
  rw [show (13 : UInt8) :: 10 :: s = [] ++ 13 :: 10 :: s from rfl, scan_line 512 83 _ [] 0 (fun c hc => by cases hc) (.inl rfl)]
  simp
theorem scan_ten (most : Nat) (over : Int) (q : List UInt8) : ∀ (l : List UInt8) (i : Nat), bare l → i + l.length ≤ most → scan most over i (l ++ 10 :: q) = .bad 80
  | [], i, _, _ => by
    show scan most over i (10 :: q) = .bad 80
    rw [scan_cons, if_pos rfl]
  | c :: l, i, hb, hl => by
    obtain ⟨h1, h2⟩ := hb c List.mem_cons_self
    rw [List.length_cons] at hl
    rw [List.cons_append, scan_cons, if_neg h1, if_neg h2, if_neg (by omega)]
    exact scan_ten most over q l (i + 1) (fun x hx => hb x (List.mem_cons_of_mem _ hx)) (by omega)
/-- a line that ends with a 10 alone -/
theorem fields_ten (h : H8) (m : Nat) (acc : List HField) (a : Nat) {L : List UInt8} (hb : bare L) (hl : L.length ≤ 512) (s : List UInt8) : fields8 h m acc a (L ++ 10 :: s) = .bad 80 := by
  unfold fields8
  rw [scan_ten 512 83 s L 0 hb (by omega)]
/-- a field with blanks ahead of its value -/
theorem field_ahead {b n v : List UInt8} (hb : b.all blankB = true) (ht : token n = true) (hv : value v = true) : field8 (n ++ 58 :: (b ++ v)) = ((n, v), 0) := by
  have hm : ∀ c ∈ n, markB c = true := by
    unfold token at ht
    rw [Bool.and_eq_true] at ht
    exact List.all_eq_true.1 ht.1
  have e1 : nameB (n ++ 58 :: (b ++ v)) = n := take_until (fun c hc => by
    have := ((mark_not c).1 (hm c hc)).1
    simpa using this) (by decide)
  have e2 : (n ++ 58 :: (b ++ v)).drop (n.length + 1) = b ++ v := by
    rw [← List.drop_drop, List.drop_left]
    rfl
  have e3 : trim (b ++ v) = v := by
    obtain ⟨h1, h2⟩ := value_ends hv
    unfold trim
    rw [drop_blanks hb h1]
    cases hr : v.reverse with
    | nil =>
      have : v = [] := by simpa using hr
      rw [this]
      rfl
    | cons c r =>
      rw [List.dropWhile_cons_of_neg (by rw [h2 c r hr]; decide), ← hr, List.reverse_reverse]
  unfold field8
  rw [e1, e2, e3, if_pos ⟨by simp, ht, hv⟩]
theorem field_ahead_bare {b n v : List UInt8} (hb : b.all blankB = true) (ht : token n = true) (hv : value v = true) : bare (n ++ 58 :: (b ++ v)) := by
  have := line_bare (b := b) (f := (n, v)) hb ht hv
  intro c hc
  refine this c ?_
  unfold wline
  simp only [List.mem_append, List.mem_cons] at hc ⊢
  rcases hc with h | h | h | h
  · exact .inl h
  · exact .inr (.inl h)
  · exact .inr (.inr (.inl (.inl h)))
  · exact .inr (.inr (.inl (.inr h)))
end Go.Proofs.YtggmafmebocoaaaGreatDoor.HeadLines

/- Layer 12: a body that is sent comes out as it is. No program is named. -/
namespace Go.Proofs.YtggmafmebocoaaaGreatDoor.OutBackP
open Bytes LexPure LexNum FieldsPure HeadPure HeadWrit HeadLines FramePure ChunkPure ChunkHex ChunkText OutPure OutSay OutSpc OutEnd DecN
set_option maxRecDepth 20000
set_option linter.unusedVariables false
set_option linter.unusedSimpArgs false
def GETL : List UInt8 := [71, 69, 84]
def S0 : List UInt8 := [72, 84, 84, 80, 47, 49, 46, 49, 32, 50, 48, 48, 32, 79, 75, 13, 10]
def TEL : List UInt8 := [84, 114, 97, 110, 115, 102, 101, 114, 45, 69, 110, 99, 111, 100, 105, 110, 103, 58, 32, 99, 104, 117, 110, 107, 101, 100, 13, 10, 13, 10]
def CLL : List UInt8 := [67, 111, 110, 116, 101, 110, 116, 45, 76, 101, 110, 103, 116, 104, 58, 32]
def CLNL : List UInt8 := [67, 111, 110, 116, 101, 110, 116, 45, 76, 101, 110, 103, 116, 104]
/-- a head that is read whole, framed by f -/
def Hd (H : List UInt8) (f : Int × Int × Int) : Prop := ∃ h, read8 true H = .done h H.length ∧ h.status = 200 ∧ response9 GETL h.status h.minor h.fields = f
theorem hd_of {H : List UInt8} {f : Int × Int × Int} (h : (match read8 true H with | .done h n => n == H.length && h.status == 200 && decide (response9 GETL h.status h.minor h.fields = f) | _ => false) = true) : Hd H f := by
  cases hr : read8 true H with
  | wait => rw [hr] at h; cases h
  | bad e => rw [hr] at h; cases h
  | done hd n =>
    rw [hr] at h
    simp only [Bool.and_eq_true, beq_iff_eq, decide_eq_true_eq] at h
    obtain ⟨⟨e1, e2⟩, e3⟩ := h
    subst e1
    exact ⟨hd, hr, e2, e3⟩
theorem hd_chunks : Hd (S0 ++ TEL) (3, 0, 0) := hd_of (by decide +kernel)
theorem hd_close : Hd (S0 ++ [13, 10]) (4, 0, 0) := hd_of (by decide +kernel)
theorem status_ok : status8 [72, 84, 84, 80, 47, 49, 46, 49, 32, 50, 48, 48, 32, 79, 75] = (⟨[], [], 200, [79, 75], 1, []⟩, 0) := rfl
theorem frame_len {n : Nat} (h : n < 1000000000000000) : response9 GETL 200 1 [(CLNL, decN n)] = (2, (n : Int), 0) := by
  obtain ⟨h1, h2⟩ := dec_num h
  have t1 : getN [(CLNL, decN n)] TENC = 0 := rfl
  have t2 : getN [(CLNL, decN n)] CLEN = 1 := rfl
  have t3 : lens [(CLNL, decN n)] = [decN n] := by
    show ((pieces (decN n)).map trim) ++ [] = _
    rw [dec_pieces, List.append_nil, List.map_singleton, dec_trim]
  have t4 : lenN [(CLNL, decN n)] = n := by
    unfold lenN
    rw [t3]
    unfold lenFrom lenStep
    rw [if_pos ⟨h1, .inl (by decide)⟩, h2]
    rfl
  unfold response9
  rw [t1, t2, t4, if_neg (by decide), if_neg (by decide), if_neg (by decide), if_neg (by decide), if_neg (by decide), if_neg (by decide), if_neg (by omega)]
theorem hd_len {n : Nat} (h : n < 1000000000000000) : Hd (S0 ++ (CLL ++ decN n ++ [13, 10, 13, 10])) (2, (n : Int), 0) := by
  have hb : ([32] : List UInt8).all blankB = true := by decide
  have ht : token CLNL = true := by decide +kernel
  have hv := dec_value n
  have hl := decN_len 14 n h
  have hL : CLL ++ decN n = CLNL ++ 58 :: ([32] ++ decN n) := rfl
  have hbare := field_ahead_bare hb ht hv
  have hlen : (CLNL ++ 58 :: ([32] ++ decN n)).length = 16 + (decN n).length := by simp [CLNL]; omega
  refine ⟨⟨[], [], 200, [79, 75], 1, [(CLNL, decN n)]⟩, ?_, rfl, frame_len h⟩
  have e0 : S0 ++ (CLL ++ decN n ++ [13, 10, 13, 10]) = [72, 84, 84, 80, 47, 49, 46, 49, 32, 50, 48, 48, 32, 79, 75] ++ 13 :: 10 :: (CLNL ++ 58 :: ([32] ++ decN n) ++ 13 :: 10 :: (13 :: 10 :: [])) := by
    rw [hL]
    rfl
  have hbl : bare [72, 84, 84, 80, 47, 49, 46, 49, 32, 50, 48, 48, 32, 79, 75] := by
    show ∀ c ∈ ([72, 84, 84, 80, 47, 49, 46, 49, 32, 50, 48, 48, 32, 79, 75] : List UInt8), c ≠ 10 ∧ c ≠ 13
    decide
  rw [e0]
  unfold read8 skipOf
  rw [if_pos rfl, List.drop_zero]
  unfold from8
  rw [scan_line 1100 82 _ _ 0 hbl (.inr (by decide))]
  simp only [Nat.zero_add, if_true]
  have e3 : ∀ s, ([72, 84, 84, 80, 47, 49, 46, 49, 32, 50, 48, 48, 32, 79, 75] ++ 13 :: 10 :: s : List UInt8).take ([72, 84, 84, 80, 47, 49, 46, 49, 32, 50, 48, 48, 32, 79, 75] : List UInt8).length = [72, 84, 84, 80, 47, 49, 46, 49, 32, 50, 48, 48, 32, 79, 75] := fun s => List.take_left
  have e4 : ∀ s, ([72, 84, 84, 80, 47, 49, 46, 49, 32, 50, 48, 48, 32, 79, 75] ++ 13 :: 10 :: s : List UInt8).drop (([72, 84, 84, 80, 47, 49, 46, 49, 32, 50, 48, 48, 32, 79, 75] : List UInt8).length + 2) = s := fun s => by
    rw [← List.drop_drop, List.drop_left]
    rfl
  rw [e3, e4, status_ok, if_pos rfl, fields_line _ 31 [] _ hbare (by omega) (by omega), field_ahead hb ht hv, if_pos rfl, fields_end]
  simp only [List.nil_append]
  congr 1
  simp only [List.length_append, List.length_cons, hlen, List.length_nil]
  omega
/-- what is said of it, and of the bytes behind it -/
theorem spc_back {H B : List UInt8} {f : Int × Int × Int} {q : Sum} (hd : Hd H f) (hf : f.2.2 = 0) (h : Spc GETL (H ++ B) q) : q.2.1 = 200 ∧ BodyS f B q := by
  obtain ⟨hh, h1, h2, h3⟩ := hd
  have ha := read_append true H B (by rw [h1]; exact fun y => by cases y)
  rw [h1] at ha
  have hho := heads_done ha (by unfold interim; rw [h2]; decide)
  obtain ⟨e1, e2⟩ := h.yes hh H.length (H ++ B) hho (by rw [h3]; exact hf)
  rw [h3, List.drop_left] at e2
  exact ⟨e1.trans h2, e2⟩
theorem told_back {H B : List UInt8} {f : Int × Int × Int} (hd : Hd H f) (hf : f.2.2 = 0) : ∃ q, (told GETL [H ++ B] true).2.1 = 200 ∧ (told GETL [H ++ B] true).2.2.1 = q.2.2.1 ∧ doneM (told GETL [H ++ B] true).1.md = (lastR q.1.md).1 ∧ (told GETL [H ++ B] true).2.2.2 = (lastR q.1.md).2 ∧ BodyS f B q := by
  have hs := fed_spc GETL [H ++ B]
  rw [show [H ++ B].flatten = H ++ B by simp] at hs
  obtain ⟨e1, e2⟩ := spc_back hd hf hs
  obtain ⟨c1, c2, c3, c4⟩ := told_true (meth := GETL) (P := [H ++ B])
  exact ⟨fed GETL [H ++ B], c1.trans e1, c2, c3, c4, e2⟩
/-- all of it came -/
def Full (D body : List UInt8) : Prop := (told GETL [D] true).2.1 = 200 ∧ (told GETL [D] true).2.2.1 = body ∧ doneM (told GETL [D] true).1.md = true ∧ (told GETL [D] true).2.2.2 = 0
def Cut (D : List UInt8) : Prop := doneM (told GETL [D] true).1.md = false ∧ (told GETL [D] true).2.2.2 = 121
theorem run_body (b : List UInt8) (hb : b.length ≤ 10000) : run (begin_ MT) (enc b) = (at_ MT b.length, b, (enc b).length) := by
  have := run_enc (most := MT) (n := 0) (t := b) (by omega) (.inl (by unfold MT; omega))
  rw [Nat.zero_add] at this
  exact this
theorem full_chunks (b more : List UInt8) (hb : b.length ≤ 10000) : Full (S0 ++ TEL ++ (enc b ++ (lastL ++ more))) b := by
  obtain ⟨q, h1, h2, h3, h4, hB⟩ := told_back (B := enc b ++ (lastL ++ more)) hd_chunks rfl
  have hr : run (begin_ MT) (enc b ++ (lastL ++ more)) = (⟨MT, b.length, .done, [], false⟩, b, (enc b).length + 5) := by
    rw [run_append, run_body b hb]
    dsimp only
    rw [run_last (by unfold MT; omega), List.append_nil]
  obtain ⟨e1, e2, e3⟩ := hB.whole rfl (by rw [hr])
  rw [hr] at e2
  exact ⟨h1, h2.trans e2, by rw [h3, e1]; rfl, by rw [h4, e1]; rfl⟩
theorem last_cut (n : Nat) (hn : (n : Int) ≤ MT) : stop (run (at_ MT n) [48, 13, 10, 13]).1 = false := by
  cases hs : stop (run (at_ MT n) [48, 13, 10, 13]).1 with
  | false => rfl
  | true =>
    exfalso
    have h1 := run_last hn []
    have h2 := run_append (at_ MT n) [48, 13, 10, 13] [10]
    rw [run_stop hs] at h2
    have h3 : lastL ++ [] = [48, 13, 10, 13] ++ [10] := rfl
    rw [h3, h2] at h1
    have h4 := congrArg (fun r => r.2.2) h1
    dsimp only at h4
    have h5 := (run_used (at_ MT n) [48, 13, 10, 13]).1
    have h6 : ([48, 13, 10, 13] : List UInt8).length = 4 := rfl
    omega
theorem cut_chunks (b : List UInt8) (hb : b.length ≤ 10000) : Cut (S0 ++ TEL ++ (enc b ++ [48, 13, 10, 13])) := by
  obtain ⟨q, h1, h2, h3, h4, hB⟩ := told_back (B := enc b ++ [48, 13, 10, 13]) hd_chunks rfl
  have hr : stop (run (begin_ MT) (enc b ++ [48, 13, 10, 13])).1 = false := by
    rw [run_append, run_body b hb]
    dsimp only
    exact last_cut b.length (by unfold MT; omega)
  obtain ⟨e1, _⟩ := hB.more rfl hr
  exact ⟨by rw [h3, e1]; rfl, by rw [h4, e1]; rfl⟩
theorem full_len (b more : List UInt8) (hb : b.length ≤ 10000) : Full (S0 ++ (CLL ++ decN b.length ++ [13, 10, 13, 10]) ++ (b ++ more)) b := by
  obtain ⟨q, h1, h2, h3, h4, hB⟩ := told_back (B := b ++ more) (hd_len (n := b.length) (by omega)) rfl
  have ht : ((b.length : Int)).toNat = b.length := by omega
  obtain ⟨e1, e2, e3⟩ := hB.full rfl (by rw [List.length_append]; dsimp only; omega)
  dsimp only at e2
  rw [ht, List.take_left] at e2
  exact ⟨h1, h2.trans e2, by rw [h3, e1]; rfl, by rw [h4, e1]; rfl⟩
theorem cut_len (n : Nat) (hn : n ≤ 10000) (b : List UInt8) (hb : b.length < n) : Cut (S0 ++ (CLL ++ decN n ++ [13, 10, 13, 10]) ++ b) := by
  obtain ⟨q, h1, h2, h3, h4, hB⟩ := told_back (B := b) (hd_len (n := n) (by omega)) rfl
  obtain ⟨e1, _⟩ := hB.less rfl (by dsimp only; omega)
  exact ⟨by rw [h3, e1]; rfl, by rw [h4, e1]; rfl⟩
theorem full_close (b : List UInt8) : Full (S0 ++ [13, 10] ++ b) b := by
  obtain ⟨q, h1, h2, h3, h4, hB⟩ := told_back (B := b) hd_close rfl
  obtain ⟨e1, e2, e3, e4⟩ := hB.all rfl
  exact ⟨h1, h2.trans e3, by rw [h3, e1]; rfl, by rw [h4, e1]; rfl⟩
end Go.Proofs.YtggmafmebocoaaaGreatDoor.OutBackP

/- Layer 10, the document's own Encode. -/
namespace Go.Proofs.YtggmafmebocoaaaGreatDoor.R10Enc
open Go.ChangeShapes Go.WideShapes Go.ChangeAt Go.RowKit LexPure Bytes Ret Rows1 ChunkHex Mem
set_option maxRecDepth 20000
theorem infoB : (Tryz.prog.info? 5).map (fun i => (i.zero, i.size, i.bytes)) = some (some (.int .u8 0), 1, 1) := by kernel_rfl
/-- the digits so far -/
def outN (q : Nat) : List UInt8 := if q = 0 then [] else hexN q
/-- the place of the next digit -/
def Pow (D : Nat) : Prop := D = 0 ∨ D = 1 ∨ D = 16 ∨ D = 256 ∨ D = 4096 ∨ D = 65536 ∨ D = 1048576 ∨ D = 16777216 ∨ D = 268435456
theorem pow_le {D : Nat} (h : Pow D) : D ≤ 268435456 := by rcases h with rfl | rfl | rfl | rfl | rfl | rfl | rfl | rfl | rfl <;> decide
def quot (N D : Nat) : Nat := if D = 0 then N else N / (16 * D)
theorem quot_next {N D : Nat} (h : Pow D) (h0 : D ≠ 0) : quot N (D / 16) = N / D ∧ quot N D = N / D / 16 ∧ Pow (D / 16) := by
  have h1 : quot N D = N / D / 16 := by
    unfold quot
    rw [if_neg h0, Nat.mul_comm, Nat.div_div_eq_div_mul]
  refine ⟨?_, h1, ?_⟩
  · rcases h with rfl | rfl | rfl | rfl | rfl | rfl | rfl | rfl | rfl
    · exact absurd rfl h0
    · simp [quot]
    all_goals rfl
  · rcases h with rfl | rfl | rfl | rfl | rfl | rfl | rfl | rfl | rfl
    · exact absurd rfl h0
    all_goals (unfold Pow; decide)
theorem outN_next (q : Nat) (h : q ≠ 0) : outN q = outN (q / 16) ++ [hexB (q % 16)] := by
  unfold outN
  rw [if_neg h]
  by_cases h2 : q < 16
  · rw [hexN_small h2, if_pos (by omega), show q % 16 = q by omega]
    rfl
  · rw [hexN_more h2, if_neg (by omega)]
def EInv (w : World) (l : List UInt8) (v : Value) (wr : World) : Prop := wr.ownsRow w.heap.size 5 1 v l.length (bvs l) ∧ Below w.heap.size w wr
theorem hexB_val (n : Nat) (h : n < 16) : (n ≤ 9 ∧ ((hexB n).toNat : Int) = 48 + n) ∨ (9 < n ∧ ((hexB n).toNat : Int) = 97 + n - 10) := by
  have : ∀ n : Fin 16, (n.1 ≤ 9 ∧ ((hexB n.1).toNat : Int) = 48 + n.1) ∨ (9 < n.1 ∧ ((hexB n.1).toNat : Int) = 97 + n.1 - 10) := by decide +kernel
  exact this ⟨n, h⟩
theorem EInv.byte {w wr w3 : World} {v v' : Value} {l : List UInt8} (c : UInt8) (h : EInv w l v wr) (o : Obj) (hown : w3.ownsRow w.heap.size 5 1 v' (l.length + 1) (bvs l ++ [.int .u8 (c.toNat : Int)])) (hg : (wr.alloc o).grownBy w3 v.ownBlock) : EInv w (l ++ [c]) v' w3 := by
  obtain ⟨hrow, hbw⟩ := h
  refine ⟨?_, Below.grown (hbw.alloc hbw.size _) hg (by have := hbw.size; simp; omega) (fun j hj => (hrow.lt _ hj).1)⟩
  rw [bvs_append, List.length_append, List.length_singleton]
  exact hown
theorem strCells_bvs (s : ByteArray) : Lib.strCells s = bvs (toL s) := by
  unfold Lib.strCells bvs toL
  rfl
theorem EInv.text {w wr w3 : World} {v v' : Value} {l : List UInt8} (s : ByteArray) (h : EInv w l v wr) (hown : w3.ownsRow w.heap.size 5 1 v' (l.length + s.size) (bvs l ++ Lib.strCells s)) (hg : wr.grownBy w3 v.ownBlock) : EInv w (l ++ toL s) v' w3 := by
  obtain ⟨hrow, hbw⟩ := h
  refine ⟨?_, Below.grown hbw hg hbw.size (fun j hj => (hrow.lt _ hj).1)⟩
  rw [bvs_append, List.length_append, toL_length, ← strCells_bvs]
  exact hown
theorem bvs_of {l : List UInt8} {w : World} {b : Nat} {v : Value} (h : w.ownsRow b 5 1 v l.length (bvs l)) : ∃ p cap, v = .slice p l.length cap := by
  obtain ⟨p, cap, hv, _, _⟩ := row_cells h
  exact ⟨p, cap, hv⟩
set_option maxHeartbeats 3200000 in
theorem r10enc_any (s : ByteArray) (hs : s.size < 268435456) (w : World) :
    Calls Tryz.prog 10 #[.string s] w fun e w' => ∃ v, e = .returned v ∧ w'.ownsRow w.heap.size 5 1 v (enc (toL s)).length (bvs (enc (toL s))) ∧ Below w.heap.size w w' := by
  obtain ⟨i0, hi, hz0, hz1, hz2⟩ := info_parts infoB
  have hlen : ∀ q, q < 268435456 → (outN q).length ≤ 7 := fun q hq => by
    unfold outN
    split
    · exact Nat.zero_le _
    · exact hexN_len 6 q (by omega)
  replace hlen := Lib.hid hlen
  have HK : Hid (EInv w (outN (quot s.size 268435456)) (.slice none 0 0) w) := Lib.hid (by
    have : quot s.size 268435456 = 0 := by unfold quot; rw [if_neg (by decide)]; omega
    rw [this]
    exact ⟨World.ownsRow_nil _ _ _ _, Below.refl _ _⟩)
  go_enter Tryz.func10, Tryz.ntmps10
  go_wp2_with fail
  go_loopw [3, 4] (fun v d wr => ∃ D : Nat, d = .int .i64 D ∧ Hid (Pow D ∧ EInv w (outN (quot s.size D)) v wr)) (fun _ d _ => (intOf d).toNat)
  case atStart => exact ⟨268435456, rfl, Lib.hid ⟨by unfold Pow; simp, HK.out⟩⟩
  case round =>
    obtain ⟨D, rfl, HI⟩ := hrel
    clear HK
    obtain ⟨hpow, hE⟩ := HI.out
    have hD := pow_le hpow
    by_cases h0 : s.size = 0
    · have h0i : (s.size : Int) = 0 := by omega
      have hz : toL s = [] := List.length_eq_zero_iff.1 (by rw [toL_length]; exact h0)
      have hq : quot s.size D = 0 := by rw [h0]; unfold quot; split <;> simp
      rw [hq] at hE
      have HV : Hid (∃ v : Value, u3 = v ∧ wr.ownsRow w.heap.size 5 1 v (enc (toL s)).length (bvs (enc (toL s))) ∧ Below w.heap.size w wr) := Lib.hid ⟨_, rfl, by rw [hz]; exact hE.1, hE.2⟩
      clear HI hz hq hE hpow h0
      by_cases hd : D = 0
      all_goals
        have hdi : (D : Int) = 0 ∨ (0 : Int) < (D : Int) := by omega
        rcases hdi with hdi | hdi
        all_goals
          go_wp2_with fail
          go_ret
          obtain ⟨v, rfl, h1, h2⟩ := HV.out
          exact ⟨_, rfl, h1, h2⟩
    · have hp : (0 : Int) < (s.size : Int) := by omega
      by_cases hd : D = 0
      · subst hd
        have hq : quot s.size 0 = s.size := rfl
        rw [hq] at hE
        have hl := hlen.out s.size hs
        have he : enc (toL s) = outN s.size ++ [13] ++ [10] ++ toL s ++ [13] ++ [10] := by
          unfold enc outN
          rw [if_neg (fun h => h0 (by rw [← toL_length, h]; rfl)), if_neg h0, toL_length]
          simp
        replace he := Lib.hid he
        generalize outN s.size = L at *
        obtain ⟨hrow0, hbw0⟩ := id hE
        have hE0 := Lib.hid hE
        clear HI hq hpow hD hE
        go_wp2_with (at_builtin; first
          | (refine wpList_append_own _ rfl _ _ 28 rfl w.heap.size 5 i0 (.int .u8 0) 1 1 Tryz.underlying28 hi hz0 hz1 hz2 rfl (by decide) _ _ _ rfl (hrow4.alloc _) ⟨wD.heap.size, 0, none⟩ 1 1 [.int .u8 10] rfl rfl (cell_one_new _ _ _) (fun x hx => by simp at hx; subst hx; rfl) (by unfold maxLen; omega) (by omega) (by have := hbw4.size; simp; omega) ?_
             intro v5 wE hown hgrow hnil
             have hE5 := Lib.hid (hE4.out.byte 10 _ hown hgrow)
             clear hown hgrow hnil hrow4 hbw4 hE4
             obtain ⟨hrow5, hbw5⟩ := hE5.out
             have hl5 : (L ++ [13] ++ [10] ++ toL s ++ [13] ++ [10]).length ≤ 268435468 := by rw [List.length_append, List.length_singleton]; omega)
          | (refine wpList_append_own _ rfl _ _ 28 rfl w.heap.size 5 i0 (.int .u8 0) 1 1 Tryz.underlying28 hi hz0 hz1 hz2 rfl (by decide) _ _ _ rfl (hrow3.alloc _) ⟨wC.heap.size, 0, none⟩ 1 1 [.int .u8 13] rfl rfl (cell_one_new _ _ _) (fun x hx => by simp at hx; subst hx; rfl) (by unfold maxLen; omega) (by omega) (by have := hbw3.size; simp; omega) ?_
             intro v4 wD hown hgrow hnil
             have hE4 := Lib.hid (hE3.out.byte 13 _ hown hgrow)
             clear hown hgrow hnil hrow3 hbw3 hE3
             obtain ⟨hrow4, hbw4⟩ := hE4.out
             have hl4 : (L ++ [13] ++ [10] ++ toL s ++ [13]).length ≤ 268435467 := by rw [List.length_append, List.length_singleton]; omega)
          | (refine Lib.wpList_append_own_string _ rfl _ _ 28 9 rfl w.heap.size 5 i0 Tryz.underlying28 Tryz.underlying9 hi hz0 hz1 hz2 _ _ _ rfl hrow2 s rfl (by unfold maxLen; omega) (by omega) hbw2.size ?_
             intro v3 wC hown hgrow hnil
             have hE3 := Lib.hid (hE2.out.text s hown hgrow)
             clear hown hgrow hnil hrow2 hbw2 hE2
             obtain ⟨hrow3, hbw3⟩ := hE3.out
             have hl3 : (L ++ [13] ++ [10] ++ toL s).length ≤ 268435466 := by rw [List.length_append, toL_length]; omega)
          | (refine wpList_append_own _ rfl _ _ 28 rfl w.heap.size 5 i0 (.int .u8 0) 1 1 Tryz.underlying28 hi hz0 hz1 hz2 rfl (by decide) _ _ _ rfl (hrow1.alloc _) ⟨wA.heap.size, 0, none⟩ 1 1 [.int .u8 10] rfl rfl (cell_one_new _ _ _) (fun x hx => by simp at hx; subst hx; rfl) (by unfold maxLen; omega) (by omega) (by have := hbw1.size; simp; omega) ?_
             intro v2 wB hown hgrow hnil
             have hE2 := Lib.hid (hE1.out.byte 10 _ hown hgrow)
             clear hown hgrow hnil hrow1 hbw1 hE1
             obtain ⟨hrow2, hbw2⟩ := hE2.out
             have hl2 : (L ++ [13] ++ [10]).length ≤ 9 := by rw [List.length_append, List.length_singleton]; omega)
          | (refine wpList_append_own _ rfl _ _ 28 rfl w.heap.size 5 i0 (.int .u8 0) 1 1 Tryz.underlying28 hi hz0 hz1 hz2 rfl (by decide) _ _ _ rfl (hrow0.alloc _) ⟨wr.heap.size, 0, none⟩ 1 1 [.int .u8 13] rfl rfl (cell_one_new _ _ _) (fun x hx => by simp at hx; subst hx; rfl) (by unfold maxLen; omega) (by omega) (by have := hbw0.size; simp; omega) ?_
             intro v1 wA hown hgrow hnil
             have hE1 := Lib.hid (hE0.out.byte 13 _ hown hgrow)
             clear hown hgrow hnil hrow0 hbw0 hE0
             obtain ⟨hrow1, hbw1⟩ := hE1.out
             have hl1 : (L ++ [13]).length ≤ 8 := by rw [List.length_append, List.length_singleton]; omega))
        rw [← he.out] at hE5
        clear hrow5 hbw5
        go_wp2_with fail
        go_ret
        exact ⟨_, rfl, hE5.out.1, hE5.out.2⟩
      · have hdi : (0 : Int) < (D : Int) := by omega
        obtain ⟨n1, n2, n3⟩ := quot_next (N := s.size) hpow hd
        obtain ⟨q, hq⟩ : ∃ q, q = s.size / D := ⟨_, rfl⟩
        have hqi : (s.size : Int) / (D : Int) = (q : Int) := by rw [hq]; omega
        have hqlt : q < 268435456 := by rw [hq]; exact Nat.lt_of_le_of_lt (Nat.div_le_self _ _) hs
        have hqb : (q : Int) ≤ 268435456 := by omega
        have hqc : (0 : Int) ≤ (q : Int) := by omega
        obtain ⟨n, hn⟩ : ∃ n, n = q % 16 := ⟨_, rfl⟩
        have hni : (q : Int) % 16 = (n : Int) := by rw [hn]; omega
        have hn16 : n < 16 := by omega
        rw [← hq] at n1 n2
        rw [n2] at hE
        have hl := hlen.out (q / 16) (by omega)
        have hHx := hexB_val n hn16
        have n1h := Lib.hid n1
        have n3h := Lib.hid n3
        by_cases hq0 : q = 0
        · have hE2 : EInv w [] u3 wr := by
            have : outN (q / 16) = [] := by rw [hq0]; rfl
            rw [this] at hE
            exact hE
          obtain ⟨p, cap, rfl⟩ := bvs_of hE2.1
          have HJ : Hid (Pow (D / 16) ∧ EInv w (outN (quot s.size (D / 16))) (.slice p ([] : List UInt8).length cap) wr) := Lib.hid ⟨n3, by rw [n1, hq0]; exact hE2⟩
          have hn0 : n = 0 := by rw [hn, hq0]
          subst hn0
          replace hni : (q : Int) % 16 = 0 := hni
          rw [show ([] : List UInt8).length = 0 from rfl] at HJ ⊢
          clear HI hq hn n1 n2 n3 hE hE2 hHx hl hn16 hqlt hpow hq0 hd n1h n3h
          go_wp2_with fail
          go_roundw
          case rel => exact ⟨D / 16, by go_num, HJ⟩
          case measure => simp [intOf]; omega
        · have hNx := Lib.hid (outN_next q hq0)
          rw [← hn] at hNx
          have hemp : n = 0 → 0 < (outN (q / 16)).length := fun h => by
            unfold outN
            rw [if_neg (by omega)]
            exact List.length_pos_iff.2 (hexN_ne _)
          obtain ⟨hrow0, hbw0⟩ := id hE
          obtain ⟨p, cap, rfl⟩ := bvs_of hrow0
          have hE0 := Lib.hid hE
          clear HI hq hn n1 n2 n3 hE hqlt hpow hq0
          generalize outN (q / 16) = L at *
          rcases (show (n = 0 ∧ 0 < L.length ∧ ((hexB n).toNat : Int) = 48 + n) ∨ (((n : Int) == 0) = false ∧ n ≤ 9 ∧ ((hexB n).toNat : Int) = 48 + n) ∨ (((n : Int) == 0) = false ∧ 9 < n ∧ ((hexB n).toNat : Int) = 97 + n - 10) by
            rcases hHx with ⟨h1, h2⟩ | ⟨h1, h2⟩
            · by_cases hn0 : n = 0
              · exact .inl ⟨hn0, hemp hn0, h2⟩
              · exact .inr (.inl ⟨beq_eq_false_iff_ne.2 (by omega), h1, h2⟩)
            · exact .inr (.inr ⟨beq_eq_false_iff_ne.2 (by omega), h1, h2⟩)) with ⟨h1, h2, h3⟩ | ⟨h1, h2, h3⟩ | ⟨h1, h2, h3⟩
          · subst h1
            replace hni : (q : Int) % 16 = 0 := hni
            have HV : Hid ((.int .u8 48 : Value) = .int .u8 ((hexB 0).toNat : Int)) := Lib.hid (by rw [h3]; rfl)
            have h2i : ((L.length : Int) == 0) = false := beq_eq_false_iff_ne.2 (by omega)
            clear h3 hemp hHx
            go_wp2_with (at_builtin; refine wpList_append_own _ rfl _ _ 28 rfl w.heap.size 5 i0 (.int .u8 0) 1 1 Tryz.underlying28 hi hz0 hz1 hz2 rfl (by decide) _ _ _ rfl (hrow0.alloc _) ⟨wr.heap.size, 0, none⟩ 1 1 [.int .u8 (48)] rfl rfl (cell_one_new _ _ _) (fun x hx => by simp at hx; subst hx; rfl) (by unfold maxLen; omega) (by omega) (by have := hbw0.size; simp; omega) ?_; intro v1 wA hown hgrow hnil)
            rw [HV.out] at hown
            have hE1 := Lib.hid (hE0.out.byte (hexB 0) _ hown hgrow)
            rw [← hNx.out] at hE1
            have HJ : Hid (Pow (D / 16) ∧ EInv w (outN (quot s.size (D / 16))) v1 wA) := Lib.hid ⟨n3h.out, by rw [n1h.out]; exact hE1.out⟩
            clear hown hgrow hnil hrow0 hbw0 hE0 hE1
            go_wp2_with fail
            go_roundw
            case rel => exact ⟨D / 16, by go_num, HJ⟩
            case measure => simp [intOf]; omega
          · have HV : Hid ((.int .u8 (48 + (n : Int)) : Value) = .int .u8 ((hexB n).toNat : Int)) := Lib.hid (by rw [h3])
            have h2i : (n : Int) ≤ 9 := by omega
            clear h3 hemp hHx h2
            go_wp2_with (at_builtin; refine wpList_append_own _ rfl _ _ 28 rfl w.heap.size 5 i0 (.int .u8 0) 1 1 Tryz.underlying28 hi hz0 hz1 hz2 rfl (by decide) _ _ _ rfl (hrow0.alloc _) ⟨wr.heap.size, 0, none⟩ 1 1 [.int .u8 (48 + (n : Int))] rfl rfl (cell_one_new _ _ _) (fun x hx => by simp at hx; subst hx; rfl) (by unfold maxLen; omega) (by omega) (by have := hbw0.size; simp; omega) ?_; intro v1 wA hown hgrow hnil)
            rw [HV.out] at hown
            have hE1 := Lib.hid (hE0.out.byte (hexB n) _ hown hgrow)
            rw [← hNx.out] at hE1
            have HJ : Hid (Pow (D / 16) ∧ EInv w (outN (quot s.size (D / 16))) v1 wA) := Lib.hid ⟨n3h.out, by rw [n1h.out]; exact hE1.out⟩
            clear hown hgrow hnil hrow0 hbw0 hE0 hE1
            go_wp2_with fail
            go_roundw
            case rel => exact ⟨D / 16, by go_num, HJ⟩
            case measure => simp [intOf]; omega
          · have HV : Hid ((.int .u8 (97 + (n : Int) - 10) : Value) = .int .u8 ((hexB n).toNat : Int)) := Lib.hid (by rw [h3])
            have h2i : (9 : Int) < (n : Int) := by omega
            clear h3 hemp hHx h2
            go_wp2_with (at_builtin; refine wpList_append_own _ rfl _ _ 28 rfl w.heap.size 5 i0 (.int .u8 0) 1 1 Tryz.underlying28 hi hz0 hz1 hz2 rfl (by decide) _ _ _ rfl (hrow0.alloc _) ⟨wr.heap.size, 0, none⟩ 1 1 [.int .u8 (97 + (n : Int) - 10)] rfl rfl (cell_one_new _ _ _) (fun x hx => by simp at hx; subst hx; rfl) (by unfold maxLen; omega) (by omega) (by have := hbw0.size; simp; omega) ?_; intro v1 wA hown hgrow hnil)
            rw [HV.out] at hown
            have hE1 := Lib.hid (hE0.out.byte (hexB n) _ hown hgrow)
            rw [← hNx.out] at hE1
            have HJ : Hid (Pow (D / 16) ∧ EInv w (outN (quot s.size (D / 16))) v1 wA) := Lib.hid ⟨n3h.out, by rw [n1h.out]; exact hE1.out⟩
            clear hown hgrow hnil hrow0 hbw0 hE0 hE1
            go_wp2_with fail
            go_roundw
            case rel => exact ⟨D / 16, by go_num, HJ⟩
            case measure => simp [intOf]; omega
end Go.Proofs.YtggmafmebocoaaaGreatDoor.R10Enc

/- A body that is sent, framed by its length, in chunks, or up to the connection's end, comes out as it is: OutflowBack returns true. -/
namespace Go.Proofs.YtggmafmebocoaaaGreatDoor.OutflowBackW
open Go.ChangeShapes Go.WideShapes Go.ChangeAt Go.RowKit Bytes LexPure Ret Rows1 FieldsPure HeadPure ChunkHex OutPure OutEnd OutBackP DecN L12Dig R10Enc OutBox OutObj POutUse L12Read L12Anchor L12Told OutflowPiecesW PLib Texts Mem Step
set_option maxRecDepth 100000
set_option linter.unusedVariables false
set_option linter.unusedSimpArgs false
/-- told, where all came -/
theorem full_any {w : World} (W : World) (hb : Below w.heap.size w W) (hm : MaxInt w) {S body : ByteArray} (hF : Full (toL S) (toL body)) (hs : S.size ≤ 211106232532992) :
    Calls Tryz.prog 9 #[.string ⟨#[71, 69, 84]⟩, .slice (some ⟨W.heap.size, 0, none⟩) 1 1, .bool true] (W.alloc (.cells #[.string S] 9)) fun e w' => e = .returned (.tuple #[.int .i64 200, .string body, .bool true, .int .i64 0, .bool true]) ∧ Below w.heap.size w w' := by
  have hb2 := hb.alloc hb.size (.cells #[.string S] 9)
  have ht := texts_one W (toL S)
  rw [ofL_toL] at ht
  refine (told_any ⟨#[71, 69, 84]⟩ _ [toL S] true _ (hm.below hb2) ht (by simp) (by rw [show [toL S].flatten = toL S by simp, toL_length]; exact hs)).mono (fun e w' ⟨c, b, dn, er, x1, x2, x3⟩ => ?_)
  obtain ⟨st, q1, q2, _⟩ := x2.out
  obtain ⟨f1, f2, f3, f4⟩ := hF
  have hq : told OutBackP.GETL [toL S] true = (st, c, b, er) := q1
  rw [hq] at f1 f2 f3 f4
  dsimp only at f1 f2 f3 f4
  rw [f3] at q2
  subst f1 f2 f4 q2
  rw [ofL_toL] at x1
  exact ⟨x1, hb2.trans (x3.mono hb2.size)⟩
/-- told, where it is cut short -/
theorem cut_any {w : World} (W : World) (hb : Below w.heap.size w W) (hm : MaxInt w) {D : List UInt8} (hF : Cut D) (hs : D.length ≤ 211106232532992) :
    Calls Tryz.prog 9 #[.string ⟨#[71, 69, 84]⟩, .slice (some ⟨W.heap.size, 0, none⟩) 1 1, .bool true] (W.alloc (.cells #[.string (ofL D)] 9)) fun e w' => ∃ (c : Int) (x : ByteArray), e = .returned (.tuple #[.int .i64 c, .string x, .bool false, .int .i64 121, .bool true]) ∧ Below w.heap.size w w' := by
  have hb2 := hb.alloc hb.size (.cells #[.string (ofL D)] 9)
  refine (told_any ⟨#[71, 69, 84]⟩ _ [D] true _ (hm.below hb2) (texts_one W D) (by simp) (by rw [show [D].flatten = D by simp]; exact hs)).mono (fun e w' ⟨c, b, dn, er, x1, x2, x3⟩ => ?_)
  obtain ⟨st, q1, q2, _⟩ := x2.out
  obtain ⟨f3, f4⟩ := hF
  have hq : told OutBackP.GETL [D] true = (st, c, b, er) := q1
  rw [hq] at f3 f4
  dsimp only at f3 f4
  rw [f3] at q2
  subst f4 q2
  exact ⟨c, ofL b, x1, hb2.trans (x3.mono hb2.size)⟩
theorem cut_text {K : ByteArray} {D : List UInt8} {c : UInt8} (h : toL K = D ++ [c]) : K.extract 0 (K.size - 1) = ofL D ∧ D.length + 1 = K.size := by
  have hl : D.length + 1 = K.size := by
    have := congrArg List.length h
    rw [toL_length, List.length_append, List.length_singleton] at this
    omega
  refine ⟨?_, hl⟩
  apply toL_inj
  rw [toL_extract, toL_ofL, h, List.drop_zero]
  exact List.take_left' (by omega)
set_option maxHeartbeats 6400000 in
theorem walkIn (body : ByteArray) (kind : Int) (more : ByteArray) (hmore : more.size ≤ 140737488351232) (w : World) (hm : MaxInt w) :
    Calls Tryz.prog 4 #[.string body, .int .i64 kind, .string more] w fun e w' => e = .returned (.bool true) ∧ Below w.heap.size w w' := by
  have HA := Lib.hid (anchor_any w hm)
  replace hm := Lib.hid hm
  rcases (show (body.size ≤ 10000 ∧ kind = 0) ∨ (body.size ≤ 10000 ∧ kind = 1) ∨ (body.size ≤ 10000 ∧ kind = 2) ∨ 10000 < body.size ∨ (body.size ≤ 10000 ∧ kind < 0) ∨ (body.size ≤ 10000 ∧ 0 ≤ kind ∧ 2 < kind) by omega) with ⟨a1, rfl⟩ | ⟨a1, rfl⟩ | ⟨a1, rfl⟩ | a1 | ⟨a1, a2⟩ | ⟨a1, a2, a3⟩
  · have a1i : ¬ (10000 : Int) < (body.size : Int) := by omega
    have HE := Lib.hid (fun W => r10enc_any body (by omega) W)
    obtain ⟨C, hC⟩ : ∃ C, C = ofL (enc (toL body)) := ⟨_, rfl⟩
    have hel := enc_len (toL body) (by rw [toL_length]; omega)
    rw [toL_length] at hel
    have sC : C.size ≤ 130000 := by rw [hC, ofL_size]; omega
    have tC : toL C = enc (toL body) := by rw [hC, toL_ofL]
    have HS : Hid (∀ (w' : World) (b : Nat) (v : Value), w'.ownsRow b 5 1 v (enc (toL body)).length (bvs (enc (toL body))) → (Go.convert 28 9 v).run Tryz.prog w' = .ok (.string C) w') := Lib.hid (fun w' b v h => by rw [hC]; exact own_string (P := Tryz.prog) h 28 9 Tryz.underlying28 Tryz.underlying5 Tryz.underlying9)
    clear hC hel
    have e1 : ((⟨#[84, 114, 97, 110, 115, 102, 101, 114, 45, 69, 110, 99, 111, 100, 105, 110, 103, 58, 32, 99, 104, 117, 110, 107, 101, 100, 13, 10, 13, 10]⟩ : ByteArray) ++ C).size = 30 + C.size := by rw [ByteArray.size_append]; rfl
    have e2 : ((⟨#[84, 114, 97, 110, 115, 102, 101, 114, 45, 69, 110, 99, 111, 100, 105, 110, 103, 58, 32, 99, 104, 117, 110, 107, 101, 100, 13, 10, 13, 10]⟩ : ByteArray) ++ C ++ ⟨#[48, 13, 10, 13, 10]⟩).size = 35 + C.size := by rw [ByteArray.size_append, e1, show (⟨#[48, 13, 10, 13, 10]⟩ : ByteArray).size = 5 from rfl]; omega
    have e3 : ((⟨#[72, 84, 84, 80, 47, 49, 46, 49, 32, 50, 48, 48, 32, 79, 75, 13, 10]⟩ : ByteArray) ++ ((⟨#[84, 114, 97, 110, 115, 102, 101, 114, 45, 69, 110, 99, 111, 100, 105, 110, 103, 58, 32, 99, 104, 117, 110, 107, 101, 100, 13, 10, 13, 10]⟩ : ByteArray) ++ C ++ ⟨#[48, 13, 10, 13, 10]⟩)).size = 52 + C.size := by rw [ByteArray.size_append, e2, show (⟨#[72, 84, 84, 80, 47, 49, 46, 49, 32, 50, 48, 48, 32, 79, 75, 13, 10]⟩ : ByteArray).size = 17 from rfl]; omega
    have q1 : 30 + C.size ≤ 9223372036854775807 := by omega
    have q2 : ((⟨#[84, 114, 97, 110, 115, 102, 101, 114, 45, 69, 110, 99, 111, 100, 105, 110, 103, 58, 32, 99, 104, 117, 110, 107, 101, 100, 13, 10, 13, 10]⟩ : ByteArray) ++ C).size + 5 ≤ 9223372036854775807 := by omega
    have q3 : 17 + ((⟨#[84, 114, 97, 110, 115, 102, 101, 114, 45, 69, 110, 99, 111, 100, 105, 110, 103, 58, 32, 99, 104, 117, 110, 107, 101, 100, 13, 10, 13, 10]⟩ : ByteArray) ++ C ++ ⟨#[48, 13, 10, 13, 10]⟩).size ≤ 9223372036854775807 := by omega
    have q4 : ((⟨#[72, 84, 84, 80, 47, 49, 46, 49, 32, 50, 48, 48, 32, 79, 75, 13, 10]⟩ : ByteArray) ++ ((⟨#[84, 114, 97, 110, 115, 102, 101, 114, 45, 69, 110, 99, 111, 100, 105, 110, 103, 58, 32, 99, 104, 117, 110, 107, 101, 100, 13, 10, 13, 10]⟩ : ByteArray) ++ C ++ ⟨#[48, 13, 10, 13, 10]⟩)).size + more.size ≤ 9223372036854775807 := by omega
    have hFull : Hid (Full (toL (((⟨#[72, 84, 84, 80, 47, 49, 46, 49, 32, 50, 48, 48, 32, 79, 75, 13, 10]⟩ : ByteArray) ++ ((⟨#[84, 114, 97, 110, 115, 102, 101, 114, 45, 69, 110, 99, 111, 100, 105, 110, 103, 58, 32, 99, 104, 117, 110, 107, 101, 100, 13, 10, 13, 10]⟩ : ByteArray) ++ C ++ ⟨#[48, 13, 10, 13, 10]⟩)) ++ more)) (toL body)) := Lib.hid (by
      have := full_chunks (toL body) (toL more) (by rw [toL_length]; exact a1)
      have e : toL (((⟨#[72, 84, 84, 80, 47, 49, 46, 49, 32, 50, 48, 48, 32, 79, 75, 13, 10]⟩ : ByteArray) ++ ((⟨#[84, 114, 97, 110, 115, 102, 101, 114, 45, 69, 110, 99, 111, 100, 105, 110, 103, 58, 32, 99, 104, 117, 110, 107, 101, 100, 13, 10, 13, 10]⟩ : ByteArray) ++ C ++ ⟨#[48, 13, 10, 13, 10]⟩)) ++ more) = OutBackP.S0 ++ TEL ++ (enc (toL body) ++ (lastL ++ toL more)) := by
        rw [toL_append, toL_append, toL_append, toL_append, tC]
        show OutBackP.S0 ++ (TEL ++ enc (toL body) ++ lastL) ++ toL more = _
        simp only [List.append_assoc]
      rw [e]
      exact this)
    have hnn : (body.toList != body.toList) = false := by simp
    obtain ⟨X, hX⟩ : ∃ X, X = OutBackP.S0 ++ TEL ++ (enc (toL body) ++ [48, 13, 10, 13]) := ⟨_, rfl⟩
    have hCut : Hid (Cut X) := Lib.hid (by rw [hX]; exact cut_chunks _ (by rw [toL_length]; exact a1))
    obtain ⟨hP, hDl⟩ := cut_text (K := ((⟨#[72, 84, 84, 80, 47, 49, 46, 49, 32, 50, 48, 48, 32, 79, 75, 13, 10]⟩ : ByteArray) ++ ((⟨#[84, 114, 97, 110, 115, 102, 101, 114, 45, 69, 110, 99, 111, 100, 105, 110, 103, 58, 32, 99, 104, 117, 110, 107, 101, 100, 13, 10, 13, 10]⟩ : ByteArray) ++ C ++ ⟨#[48, 13, 10, 13, 10]⟩))) (D := X) (c := 10) (by
      rw [toL_append, toL_append, toL_append, tC, hX]
      show OutBackP.S0 ++ (TEL ++ enc (toL body) ++ ([48, 13, 10, 13] ++ [10])) = _
      simp only [List.append_assoc])
    rw [e3, show 52 + C.size - 1 = 51 + C.size by omega] at hP
    replace hDl : Hid (X.length ≤ 200000) := Lib.hid (by omega)
    clear hX tC
    go_enter Tryz.func4, Tryz.ntmps4
    go_wp2_with fail
    refine HA.out.mono ?_
    rintro e w1 ⟨rfl, hb1⟩
    have HB := Lib.hid hb1
    clear HA hb1
    go_wp2_with fail
    refine (HE.out _).mono ?_
    rintro e w2 ⟨v, rfl, hrow, hb2⟩
    have hcv := HS.out _ _ _ hrow
    have HB2 := Lib.hid (HB.out.trans (hb2.mono HB.out.size))
    clear HE HS hrow hb2 HB
    have HTf := Lib.hid (full_any w2 HB2.out hm.out hFull.out (by rw [ByteArray.size_append]; omega))
    clear HB2
    go_wp2_with fail
    refine HTf.out.mono ?_
    rintro e w3 ⟨rfl, hb3⟩
    have HTc := Lib.hid (cut_any w3 hb3 hm.out hCut.out (by have := hDl.out; omega))
    clear HTf hb3
    go_wp2_with fail
    refine HTc.out.mono ?_
    rintro e w4 ⟨c, x, rfl, hb4⟩
    have HB4 := Lib.hid hb4
    clear HTc hb4
    go_wp2_with fail
    go_ret
    exact ⟨rfl, HB4.out⟩
  · have a1i : ¬ (10000 : Int) < (body.size : Int) := by omega
    have HDg := Lib.hid (fun W => digits_any body.size (by omega) W)
    obtain ⟨D, hD⟩ : ∃ D, D = ofL (decN body.size) := ⟨_, rfl⟩
    rw [← hD] at HDg
    have hdl := decN_len 4 body.size (by omega)
    have sD : D.size ≤ 5 := by rw [hD, ofL_size]; exact hdl
    have tD : toL D = decN body.size := by rw [hD, toL_ofL]
    clear hD hdl
    have e1 : ((⟨#[67, 111, 110, 116, 101, 110, 116, 45, 76, 101, 110, 103, 116, 104, 58, 32]⟩ : ByteArray) ++ D).size = 16 + D.size := by rw [ByteArray.size_append]; rfl
    have e2 : ((⟨#[67, 111, 110, 116, 101, 110, 116, 45, 76, 101, 110, 103, 116, 104, 58, 32]⟩ : ByteArray) ++ D ++ ⟨#[13, 10, 13, 10]⟩).size = 20 + D.size := by rw [ByteArray.size_append, e1, show (⟨#[13, 10, 13, 10]⟩ : ByteArray).size = 4 from rfl]; omega
    have e3 : ((⟨#[67, 111, 110, 116, 101, 110, 116, 45, 76, 101, 110, 103, 116, 104, 58, 32]⟩ : ByteArray) ++ D ++ ⟨#[13, 10, 13, 10]⟩ ++ body).size = 20 + D.size + body.size := by rw [ByteArray.size_append, e2]
    have e4 : ((⟨#[72, 84, 84, 80, 47, 49, 46, 49, 32, 50, 48, 48, 32, 79, 75, 13, 10]⟩ : ByteArray) ++ ((⟨#[67, 111, 110, 116, 101, 110, 116, 45, 76, 101, 110, 103, 116, 104, 58, 32]⟩ : ByteArray) ++ D ++ ⟨#[13, 10, 13, 10]⟩ ++ body)).size = 37 + D.size + body.size := by rw [ByteArray.size_append, e3, show (⟨#[72, 84, 84, 80, 47, 49, 46, 49, 32, 50, 48, 48, 32, 79, 75, 13, 10]⟩ : ByteArray).size = 17 from rfl]; omega
    have q1 : 16 + D.size ≤ 9223372036854775807 := by omega
    have q2 : ((⟨#[67, 111, 110, 116, 101, 110, 116, 45, 76, 101, 110, 103, 116, 104, 58, 32]⟩ : ByteArray) ++ D).size + 4 ≤ 9223372036854775807 := by omega
    have q3 : ((⟨#[67, 111, 110, 116, 101, 110, 116, 45, 76, 101, 110, 103, 116, 104, 58, 32]⟩ : ByteArray) ++ D ++ ⟨#[13, 10, 13, 10]⟩).size + body.size ≤ 9223372036854775807 := by omega
    have q4 : 17 + ((⟨#[67, 111, 110, 116, 101, 110, 116, 45, 76, 101, 110, 103, 116, 104, 58, 32]⟩ : ByteArray) ++ D ++ ⟨#[13, 10, 13, 10]⟩ ++ body).size ≤ 9223372036854775807 := by omega
    have q5 : ((⟨#[72, 84, 84, 80, 47, 49, 46, 49, 32, 50, 48, 48, 32, 79, 75, 13, 10]⟩ : ByteArray) ++ ((⟨#[67, 111, 110, 116, 101, 110, 116, 45, 76, 101, 110, 103, 116, 104, 58, 32]⟩ : ByteArray) ++ D ++ ⟨#[13, 10, 13, 10]⟩ ++ body)).size + more.size ≤ 9223372036854775807 := by omega
    have hFull : Hid (Full (toL (((⟨#[72, 84, 84, 80, 47, 49, 46, 49, 32, 50, 48, 48, 32, 79, 75, 13, 10]⟩ : ByteArray) ++ ((⟨#[67, 111, 110, 116, 101, 110, 116, 45, 76, 101, 110, 103, 116, 104, 58, 32]⟩ : ByteArray) ++ D ++ ⟨#[13, 10, 13, 10]⟩ ++ body)) ++ more)) (toL body)) := Lib.hid (by
      have := full_len (toL body) (toL more) (by rw [toL_length]; exact a1)
      rw [toL_length] at this
      have e : toL (((⟨#[72, 84, 84, 80, 47, 49, 46, 49, 32, 50, 48, 48, 32, 79, 75, 13, 10]⟩ : ByteArray) ++ ((⟨#[67, 111, 110, 116, 101, 110, 116, 45, 76, 101, 110, 103, 116, 104, 58, 32]⟩ : ByteArray) ++ D ++ ⟨#[13, 10, 13, 10]⟩ ++ body)) ++ more) = OutBackP.S0 ++ (CLL ++ decN body.size ++ [13, 10, 13, 10]) ++ (toL body ++ toL more) := by
        rw [toL_append, toL_append, toL_append, toL_append, toL_append, tD]
        show OutBackP.S0 ++ (CLL ++ decN body.size ++ [13, 10, 13, 10] ++ toL body) ++ toL more = _
        simp only [List.append_assoc]
      rw [e]
      exact this)
    have hnn : (body.toList != body.toList) = false := by simp
    by_cases hbe : toL body = []
    · have t2 : body.toList = [] := by rw [ByteArray.toList_eq]; exact hbe
      have t1 : body.toList.isEmpty = true := by rw [t2]; rfl
      clear tD
      go_enter Tryz.func4, Tryz.ntmps4
      go_wp2_with fail
      refine HA.out.mono ?_
      rintro e w1 ⟨rfl, hb1⟩
      have HB := Lib.hid hb1
      clear HA hb1
      go_wp2_with fail
      refine (HDg.out _).mono ?_
      rintro e w2 ⟨rfl, hb2⟩
      have HB2 := Lib.hid (HB.out.trans (hb2.mono HB.out.size))
      have HTf := Lib.hid (full_any w2 HB2.out hm.out hFull.out (by rw [ByteArray.size_append]; omega))
      clear HDg hb2 HB HB2
      go_wp2_with fail
      refine HTf.out.mono ?_
      rintro e w3 ⟨rfl, hb3⟩
      have HB3 := Lib.hid hb3
      clear HTf hb3
      go_wp2_with fail
      go_ret
      exact ⟨rfl, HB3.out⟩
    · obtain ⟨b', c, hbc⟩ : ∃ b' c, toL body = b' ++ [c] := ⟨(toL body).dropLast, (toL body).getLast hbe, (List.dropLast_concat_getLast hbe).symm⟩
      have hbl : b'.length + 1 = body.size := by
        have := congrArg List.length hbc
        rw [toL_length, List.length_append, List.length_singleton] at this
        omega
      have t2 : ¬ body.toList = [] := by rw [ByteArray.toList_eq]; exact hbe
      have t1 : body.toList.isEmpty = false := by
        cases hx : body.toList with
        | nil => exact absurd hx t2
        | cons => rfl
      obtain ⟨X, hX⟩ : ∃ X, X = OutBackP.S0 ++ (CLL ++ decN body.size ++ [13, 10, 13, 10]) ++ b' := ⟨_, rfl⟩
      have hCut : Hid (Cut X) := Lib.hid (by rw [hX]; exact cut_len body.size a1 b' (by omega))
      obtain ⟨hP, hDl⟩ := cut_text (K := ((⟨#[72, 84, 84, 80, 47, 49, 46, 49, 32, 50, 48, 48, 32, 79, 75, 13, 10]⟩ : ByteArray) ++ ((⟨#[67, 111, 110, 116, 101, 110, 116, 45, 76, 101, 110, 103, 116, 104, 58, 32]⟩ : ByteArray) ++ D ++ ⟨#[13, 10, 13, 10]⟩ ++ body))) (D := X) (c := c) (by
        rw [toL_append, toL_append, toL_append, toL_append, tD, hbc, hX]
        show OutBackP.S0 ++ (CLL ++ decN body.size ++ [13, 10, 13, 10] ++ (b' ++ [c])) = _
        simp only [List.append_assoc])
      rw [e4] at hP
      replace hDl : Hid (X.length ≤ 100000) := Lib.hid (by omega)
      clear hX tD hbc hbl hbe
      go_enter Tryz.func4, Tryz.ntmps4
      go_wp2_with fail
      refine HA.out.mono ?_
      rintro e w1 ⟨rfl, hb1⟩
      have HB := Lib.hid hb1
      clear HA hb1
      go_wp2_with fail
      refine (HDg.out _).mono ?_
      rintro e w2 ⟨rfl, hb2⟩
      have HB2 := Lib.hid (HB.out.trans (hb2.mono HB.out.size))
      have HTf := Lib.hid (full_any w2 HB2.out hm.out hFull.out (by rw [ByteArray.size_append]; omega))
      clear HDg hb2 HB HB2
      go_wp2_with fail
      refine HTf.out.mono ?_
      rintro e w3 ⟨rfl, hb3⟩
      have HTc := Lib.hid (cut_any w3 hb3 hm.out hCut.out (by have := hDl.out; omega))
      clear HTf hb3
      go_wp2_with fail
      refine HTc.out.mono ?_
      rintro e w4 ⟨c, x, rfl, hb4⟩
      have HB4 := Lib.hid hb4
      clear HTc hb4
      go_wp2_with fail
      go_ret
      exact ⟨rfl, HB4.out⟩
  · have a1i : ¬ (10000 : Int) < (body.size : Int) := by omega
    have e1 : ((⟨#[13, 10]⟩ : ByteArray) ++ body).size = 2 + body.size := by rw [ByteArray.size_append]; rfl
    have e2 : ((⟨#[72, 84, 84, 80, 47, 49, 46, 49, 32, 50, 48, 48, 32, 79, 75, 13, 10]⟩ : ByteArray) ++ ((⟨#[13, 10]⟩ : ByteArray) ++ body)).size = 19 + body.size := by rw [ByteArray.size_append, e1, show (⟨#[72, 84, 84, 80, 47, 49, 46, 49, 32, 50, 48, 48, 32, 79, 75, 13, 10]⟩ : ByteArray).size = 17 from rfl]; omega
    have q1 : 2 + body.size ≤ 9223372036854775807 := by omega
    have q2 : 17 + ((⟨#[13, 10]⟩ : ByteArray) ++ body).size ≤ 9223372036854775807 := by omega
    have q3 : ((⟨#[72, 84, 84, 80, 47, 49, 46, 49, 32, 50, 48, 48, 32, 79, 75, 13, 10]⟩ : ByteArray) ++ ((⟨#[13, 10]⟩ : ByteArray) ++ body)).size + 0 ≤ 9223372036854775807 := by omega
    have hz : ((⟨#[72, 84, 84, 80, 47, 49, 46, 49, 32, 50, 48, 48, 32, 79, 75, 13, 10]⟩ : ByteArray) ++ ((⟨#[13, 10]⟩ : ByteArray) ++ body)) ++ (⟨#[]⟩ : ByteArray) = ((⟨#[72, 84, 84, 80, 47, 49, 46, 49, 32, 50, 48, 48, 32, 79, 75, 13, 10]⟩ : ByteArray) ++ ((⟨#[13, 10]⟩ : ByteArray) ++ body)) := by
      apply toL_inj
      rw [toL_append]
      show _ ++ [] = _
      rw [List.append_nil]
    have hFull : Hid (Full (toL ((⟨#[72, 84, 84, 80, 47, 49, 46, 49, 32, 50, 48, 48, 32, 79, 75, 13, 10]⟩ : ByteArray) ++ ((⟨#[13, 10]⟩ : ByteArray) ++ body))) (toL body)) := Lib.hid (by
      have e : toL ((⟨#[72, 84, 84, 80, 47, 49, 46, 49, 32, 50, 48, 48, 32, 79, 75, 13, 10]⟩ : ByteArray) ++ ((⟨#[13, 10]⟩ : ByteArray) ++ body)) = OutBackP.S0 ++ [13, 10] ++ toL body := by
        rw [toL_append, toL_append]
        show OutBackP.S0 ++ ([13, 10] ++ toL body) = _
        simp only [List.append_assoc]
      rw [e]
      exact full_close _)
    have hnn : (body.toList != body.toList) = false := by simp
    go_enter Tryz.func4, Tryz.ntmps4
    go_wp2_with fail
    refine HA.out.mono ?_
    rintro e w1 ⟨rfl, hb1⟩
    have HTf := Lib.hid (full_any w1 hb1 hm.out hFull.out (by omega))
    clear HA hb1
    go_wp2_with fail
    refine HTf.out.mono ?_
    rintro e w3 ⟨rfl, hb3⟩
    have HB3 := Lib.hid hb3
    clear HTf hb3
    go_wp2_with fail
    go_ret
    exact ⟨rfl, HB3.out⟩
  all_goals
    go_enter Tryz.func4, Tryz.ntmps4
    go_wp2_with fail
    refine HA.out.mono ?_
    rintro e w1 ⟨rfl, hb1⟩
    have HB := Lib.hid hb1
    clear HA hb1
    go_wp2_with fail
    go_ret
    exact ⟨rfl, HB.out⟩
theorem walk (body : ByteArray) (_w0 : body.size ≤ maxLen) (_z0 : body.size ≤ 140737488351232) (kind : Int) (_w1 : (Lit.int .i64 kind).wf = true) (more : ByteArray) (_w2 : more.size ≤ maxLen) (z2 : more.size ≤ 140737488351232) (W : World) (hsh : W.ShapedOpen Tryz.prog) :
    Calls Tryz.prog 4 #[.string body, .int .i64 kind, .string more] W fun e W' => e = .returned (.bool true) ∧ Below W.heap.size W W' := walkIn body kind more z2 W (MaxInt.of_shape hsh)
end Go.Proofs.YtggmafmebocoaaaGreatDoor.OutflowBackW
