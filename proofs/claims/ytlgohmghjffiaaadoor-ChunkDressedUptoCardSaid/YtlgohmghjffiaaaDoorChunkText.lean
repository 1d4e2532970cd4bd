/- Layer 10: what is written is read back. No program is named. -/
import Derived.Test.YtlgohmghjffiaaaDoorChunkPure
import Derived.Test.YtlgohmghjffiaaaDoorChunkHex
import Derived.Test.YtlgohmghjffiaaaDoorHeadWrit
namespace Go.Proofs.YtlgohmghjffiaaaDoor.ChunkText
open Bytes LexPure LexNum HeadPure HeadWrit ChunkPure ChunkHex
set_option maxRecDepth 20000
/-! ### lines -/
/-- a line may be read here -/
def lineP (m : M) : Prop := (m.ph = .size ∨ m.ph = .after ∨ ∃ n, m.ph = .trail n) ∧ m.cr = false
def plainL (l : List UInt8) : Prop := ∀ c ∈ l, c ≠ 13 ∧ c ≠ 10
theorem line_step {m : M} (h : m.ph = .size ∨ m.ph = .after ∨ ∃ n, m.ph = .trail n) (c : UInt8) : bstep m c = (lineStep m c, []) ∧ stop m = false := by
  rcases h with h | h | ⟨n, h⟩ <;> (unfold bstep stop; rw [h]; exact ⟨rfl, rfl⟩)
/-- each byte of l may stand where it stands, behind acc -/
def fitL (ph : Ph) : List UInt8 → List UInt8 → Bool
  | _, [] => true
  | acc, c :: l => fits ph acc c && fitL ph (acc ++ [c]) l
theorem fitL_append (ph : Ph) : ∀ (a acc b : List UInt8), fitL ph acc (a ++ b) = (fitL ph acc a && fitL ph (acc ++ a) b)
  | [], acc, b => by simp [fitL]
  | c :: a, acc, b => by
    show (fits ph acc c && fitL ph (acc ++ [c]) (a ++ b)) = ((fits ph acc c && fitL ph (acc ++ [c]) a) && fitL ph (acc ++ c :: a) b)
    rw [fitL_append ph a (acc ++ [c]) b, Bool.and_assoc, List.append_assoc]
    rfl
theorem run_line : ∀ (l : List UInt8) (m : M), lineP m → plainL l → fitL m.ph m.line l = true → run m l = ({ m with line := m.line ++ l }, [], l.length)
  | [], m, _, _, _ => by
    show (m, [], 0) = _
    simp
  | c :: l, m, h, hp, hb => by
    obtain ⟨h1, h2⟩ := line_step h.1 c
    obtain ⟨q1, q2⟩ := hp c List.mem_cons_self
    unfold fitL at hb
    rw [Bool.and_eq_true] at hb
    have hs : lineStep m c = { m with line := m.line ++ [c] } := by
      unfold lineStep
      rw [if_neg (by rw [h.2]; decide), if_neg q1, if_pos hb.1]
    rw [run_cons h2, h1, hs]
    have ih := run_line l { m with line := m.line ++ [c] } ⟨h.1, h.2⟩ (fun x hx => hp x (List.mem_cons_of_mem _ hx)) hb.2
    rw [ih]
    simp
theorem run_end {m : M} (h : lineP m) (hl : endLine { m with cr := true } = endLine m) : run m [13, 10] = (endLine m, [], 2) := by
  obtain ⟨h1, h2⟩ := line_step h.1 13
  have hs : lineStep m 13 = { m with cr := true } := by
    unfold lineStep
    rw [if_neg (by rw [h.2]; decide), if_pos rfl]
  rw [run_cons h2, h1, hs]
  obtain ⟨h3, h4⟩ := line_step (m := { m with cr := true }) h.1 10
  have hs2 : lineStep { m with cr := true } 10 = endLine m := by
    unfold lineStep
    rw [if_pos rfl, if_pos rfl]
    exact hl
  rw [run_cons h4, h3, hs2]
  rfl
theorem end_cr {m : M} (h : m.ph = .size ∨ m.ph = .after ∨ ∃ n, m.ph = .trail n) : endLine { m with cr := true } = endLine m := by
  rcases h with h | h | ⟨n, h⟩ <;> (unfold endLine; simp only [h]; rfl)
/-- a whole line -/
theorem run_whole {m : M} (h : lineP m) {l : List UInt8} (hl : plainL l) (h0 : m.line = []) (hb : fitL m.ph [] l = true) : run m (l ++ [13, 10]) = (endLine { m with line := l }, [], l.length + 2) := by
  have e : { m with line := m.line ++ l } = { m with line := l } := by rw [h0, List.nil_append]
  rw [run_append, run_line l m h hl (by rw [h0]; exact hb), e]
  have h2 : lineP { m with line := l } := ⟨h.1, h.2⟩
  rw [run_end h2 (end_cr h2.1)]
  rfl
theorem run_data : ∀ (l : List UInt8) (m : M), m.ph = .data l.length → l ≠ [] → run m l = (⟨m.most, m.size + l.length, .after, m.line, m.cr⟩, l, l.length)
  | [], m, _, h => absurd rfl h
  | [c], m, hp, _ => by
    have hs : stop m = false := by unfold stop; rw [hp]
    rw [run_cons hs]
    have : bstep m c = (⟨m.most, m.size + 1, .after, m.line, m.cr⟩, [c]) := by
      unfold bstep
      rw [hp]
      rfl
    rw [this]
    rfl
  | c :: d :: l, m, hp, _ => by
    have hs : stop m = false := by unfold stop; rw [hp]
    rw [run_cons hs]
    have h1 : bstep m c = (⟨m.most, m.size + 1, .data (d :: l).length, m.line, m.cr⟩, [c]) := by
      unfold bstep
      rw [hp]
      show ((⟨m.most, m.size + 1, if (c :: d :: l).length ≤ 1 then Ph.after else Ph.data ((c :: d :: l).length - 1), m.line, m.cr⟩ : M), [c]) = _
      rw [if_neg (by simp)]
      rfl
    rw [h1]
    have ih := run_data (d :: l) ⟨m.most, m.size + 1, .data (d :: l).length, m.line, m.cr⟩ rfl (by simp)
    rw [ih]
    simp only [List.length_cons]
    congr 2
    omega
/-- between chunks -/
def at_ (most : Int) (n : Nat) : M := ⟨most, n, .size, [], false⟩
theorem at_line (most : Int) (n : Nat) : lineP (at_ most n) := ⟨.inl rfl, rfl⟩
/-- a chunk: its size line, its bytes, its end -/
theorem run_chunk {most : Int} {n : Nat} {L t : List UInt8} (hL : plainL L) (hb : fitL .size [] L = true) (hs : sizeL L = t.length) (ht : t ≠ []) (hm : (n : Int) + t.length ≤ most) :
    run (at_ most n) (L ++ [13, 10] ++ t ++ [13, 10]) = (at_ most (n + t.length), t, (L ++ [13, 10] ++ t ++ [13, 10]).length) := by
  have h0 : 0 < t.length := List.length_pos_iff.2 ht
  have h1 := run_whole (at_line most n) hL rfl hb
  have e1 : endLine { at_ most n with line := L } = ⟨most, n, .data t.length, [], false⟩ := by
    unfold endLine at_ goOn
    simp only [hs]
    rw [if_neg (by omega), if_neg (by omega), if_neg (by omega)]
    simp
  rw [e1] at h1
  have h2 := run_data t ⟨most, n, .data t.length, [], false⟩ rfl ht
  have h3 : run ⟨most, n + t.length, .after, [], false⟩ [13, 10] = (at_ most (n + t.length), [], 2) := by
    rw [run_end ⟨.inr (.inl rfl), rfl⟩ rfl]
    rfl
  rw [run_append, run_append, h1]
  simp only
  rw [h2]
  simp only
  rw [h3]
  have e : (L ++ [13, 10] ++ t ++ [13, 10]).length = L.length + 2 + t.length + 2 := by simp only [List.length_append, List.length_cons, List.length_nil]
  rw [e]
  simp
/-- a chunk that is too much -/
theorem run_over {most : Int} {n : Nat} {L t x : List UInt8} (hL : plainL L) (hb : fitL .size [] L = true) (hs : sizeL L = t.length) (ht : t ≠ []) (hm : most < (n : Int) + t.length) :
    (run (at_ most n) (L ++ [13, 10] ++ x)).1.ph = .bad 101 := by
  have h0 : 0 < t.length := List.length_pos_iff.2 ht
  have h1 := run_whole (at_line most n) hL rfl hb
  have e1 : endLine { at_ most n with line := L } = ⟨most, n, .bad 101, [], false⟩ := by
    unfold endLine at_ fail
    simp only [hs]
    rw [if_neg (by omega), if_pos (by omega)]
  rw [e1] at h1
  rw [run_append, h1, run_stop rfl]
/-! ### written texts -/
theorem size_hex {n : Nat} {z e : List UInt8} (hz : ∀ c ∈ z, c = 48) (he : e = [] ∨ ∃ r, e = 59 :: r) (hl : z.length + (hexN n).length ≤ 8) : sizeL (z ++ hexN n ++ e) = n := by
  have hno : ∀ c ∈ z ++ hexN n, (c != 59) = true := by
    intro c hc
    rw [List.mem_append] at hc
    rcases hc with hc | hc
    · rw [hz c hc]; decide
    · exact bne_iff_ne.2 (hexN_all n c hc).2.2.2
  have htk : (z ++ hexN n ++ e).takeWhile (fun c => c != 59) = z ++ hexN n := by
    rw [List.takeWhile_append_of_pos hno]
    rcases he with rfl | ⟨r, rfl⟩
    · simp
    · rw [List.takeWhile_cons_of_neg (by decide)]
      simp
  have hne := hexN_ne n
  have hok : numOk 16 8 (z ++ hexN n) = true := by
    unfold numOk
    have h1 : (z ++ hexN n).isEmpty = false := by
      cases h : z ++ hexN n with
      | nil => exact absurd (List.append_eq_nil_iff.1 h).2 hne
      | cons => rfl
    have h2 : (((z ++ hexN n).length : Nat) : Int) ≤ 8 := by rw [List.length_append]; omega
    have h3 : (z ++ hexN n).all (fun c => decide (dig c < 16)) = true := by
      rw [List.all_eq_true]
      intro c hc
      rw [List.mem_append] at hc
      rcases hc with hc | hc
      · rw [hz c hc]; decide
      · exact decide_eq_true (hexN_all n c hc).1
    rw [h1, decide_eq_true h2, h3]
    rfl
  unfold sizeL
  rw [htk, if_pos hok]
  unfold numR
  rw [if_pos hok]
  have hv : numV 16 (z ++ hexN n) = n := by
    have h0 : ∀ z : List UInt8, (∀ c ∈ z, c = 48) → z.foldl (fun n c => 16 * n + dig c) 0 = 0 := by
      intro z
      induction z with
      | nil => intro _; rfl
      | cons c z ih =>
        intro h
        rw [List.foldl_cons, h c List.mem_cons_self]
        exact ih (fun x hx => h x (List.mem_cons_of_mem _ hx))
    unfold numV
    rw [List.foldl_append, h0 z hz]
    exact hexN_val n
  rw [hv]
theorem dig_no : ∀ c : UInt8, dig c < 16 → c ≠ 59 ∧ c ≠ 58 := by
  intro c h
  have := all_bytes (p := fun c => !decide (dig c < 16) || decide (c ≠ 59 ∧ c ≠ 58)) (by decide +kernel) c
  rw [decide_eq_true h] at this
  simpa using this
theorem parted_digits {l : List UInt8} (h : ∀ c ∈ l, dig c < 16) : parted l = false := by
  unfold parted
  rw [List.any_eq_false]
  intro c hc
  obtain ⟨h1, h2⟩ := dig_no c (h c hc)
  simp [h1, h2]
/-- digits behind digits -/
theorem fit_digits : ∀ (l acc : List UInt8), (∀ c ∈ acc, dig c < 16) → (∀ c ∈ l, dig c < 16) → acc.length + l.length ≤ 8 → fitL .size acc l = true
  | [], _, _, _, _ => rfl
  | c :: l, acc, ha, hl, hn => by
    rw [List.length_cons] at hn
    have hc := hl c List.mem_cons_self
    unfold fitL
    rw [Bool.and_eq_true]
    refine ⟨?_, fit_digits l (acc ++ [c]) ?_ (fun x hx => hl x (List.mem_cons_of_mem _ hx)) (by rw [List.length_append, List.length_singleton]; omega)⟩
    · unfold fits fitsSize
      simp only
      rw [parted_digits ha, if_neg (by decide), if_neg (dig_no c hc).1, decide_eq_true hc, decide_eq_true (show acc.length < 8 by omega), decide_eq_true (show acc.length < 64 by omega)]
      rfl
    · intro x hx
      rcases List.mem_append.1 hx with hx | hx
      · exact ha x hx
      · rw [List.mem_singleton] at hx
        rw [hx]; exact hc
/-- an extension behind its semicolon -/
theorem fit_ext : ∀ (l acc : List UInt8), parted acc = true → l.all extB = true → acc.length + l.length ≤ 64 → fitL .size acc l = true
  | [], _, _, _, _ => rfl
  | c :: l, acc, ha, hl, hn => by
    rw [List.length_cons] at hn
    rw [List.all_cons, Bool.and_eq_true] at hl
    unfold fitL
    rw [Bool.and_eq_true]
    refine ⟨?_, fit_ext l (acc ++ [c]) ?_ hl.2 (by rw [List.length_append, List.length_singleton]; omega)⟩
    · unfold fits fitsSize
      simp only
      rw [if_pos ha, hl.1, decide_eq_true (show acc.length < 64 by omega)]
      rfl
    · unfold parted at ha ⊢
      rw [List.any_append, ha]
      rfl
/-- a value behind its colon -/
theorem fit_value (n : Nat) : ∀ (l acc : List UInt8), parted acc = true → l.all plainB = true → acc.length + l.length ≤ 512 → fitL (.trail n) acc l = true
  | [], _, _, _, _ => rfl
  | c :: l, acc, ha, hl, hn => by
    rw [List.length_cons] at hn
    rw [List.all_cons, Bool.and_eq_true] at hl
    unfold fitL
    rw [Bool.and_eq_true]
    refine ⟨?_, fit_value n l (acc ++ [c]) ?_ hl.2 (by rw [List.length_append, List.length_singleton]; omega)⟩
    · unfold fits fitsTrail
      simp only
      rw [if_pos ha, hl.1, decide_eq_true (show acc.length < 512 by omega)]
      rfl
    · unfold parted at ha ⊢
      rw [List.any_append, ha]
      rfl
/-- a size line: noughts, a size, an extension -/
theorem fit_size {n : Nat} {z e : List UInt8} (hz : ∀ c ∈ z, c = 48) (he : e = [] ∨ ∃ r, e = 59 :: r ∧ r.all extB = true) (hl : z.length + (hexN n).length ≤ 8) (he40 : e.length ≤ 50) : fitL .size [] (z ++ hexN n ++ e) = true := by
  have hd : ∀ c ∈ z ++ hexN n, dig c < 16 := by
    intro c hc
    rcases List.mem_append.1 hc with hc | hc
    · rw [hz c hc]; decide
    · exact (hexN_all n c hc).1
  have hln : (z ++ hexN n).length ≤ 8 := by rw [List.length_append]; exact hl
  rw [fitL_append, fit_digits _ [] (fun c hc => by cases hc) hd (by simpa using hln), Bool.true_and, List.nil_append]
  rcases he with rfl | ⟨r, rfl, hr⟩
  · rfl
  · unfold fitL
    rw [List.length_cons] at he40
    rw [Bool.and_eq_true]
    refine ⟨?_, fit_ext r _ (by unfold parted; rw [List.any_append]; simp) hr (by rw [List.length_append, List.length_singleton]; omega)⟩
    have hne : (z ++ hexN n).isEmpty = false := by
      cases h : z ++ hexN n with
      | nil => exact absurd (List.append_eq_nil_iff.1 h).2 (hexN_ne n)
      | cons => rfl
    unfold fits fitsSize
    simp only
    rw [parted_digits hd, if_neg (by decide), if_pos trivial, hne, decide_eq_true (show (z ++ hexN n).length < 64 by omega)]
    rfl
theorem hex_plain (n : Nat) : plainL (hexN n) := fun c hc => ⟨(hexN_all n c hc).2.1, (hexN_all n c hc).2.2.1⟩
theorem hex_size {n : Nat} (h : n < 4294967296) : sizeL (hexN n) = n ∧ fitL .size [] (hexN n) = true := by
  have hl := hexN_len 7 n h
  have h1 := size_hex (n := n) (z := []) (e := []) (fun c hc => by cases hc) (.inl rfl) (by simpa using hl)
  have h2 := fit_size (n := n) (z := []) (e := []) (fun c hc => by cases hc) (.inl rfl) (by simpa using hl) (Nat.zero_le _)
  simp only [List.nil_append, List.append_nil] at h1 h2
  exact ⟨h1, h2⟩
theorem run_enc {most : Int} {n : Nat} {t : List UInt8} (h : t.length < 4294967296) (hm : (n : Int) + t.length ≤ most ∨ t = []) : run (at_ most n) (enc t) = (at_ most (n + t.length), t, (enc t).length) := by
  unfold enc
  by_cases h0 : t = []
  · subst h0
    rfl
  · rw [if_neg h0]
    obtain ⟨h1, h2⟩ := hex_size h
    exact run_chunk (hex_plain _) h2 h1 h0 (by rcases hm with h | h; exact h; exact absurd h h0)
/-- many texts, one behind another -/
theorem run_many : ∀ (T : List (List UInt8)) (most : Int) (n : Nat), (∀ t ∈ T, t.length < 4294967296) → ((n : Int) + T.flatten.length ≤ most ∨ T.flatten = []) → run (at_ most n) (T.flatMap enc) = (at_ most (n + T.flatten.length), T.flatten, (T.flatMap enc).length)
  | [], most, n, _, _ => rfl
  | t :: T, most, n, h, hm => by
    rw [List.flatMap_cons, List.flatten_cons, run_append]
    rw [List.flatten_cons] at hm
    have ht := h t List.mem_cons_self
    have h1 : (n : Int) + t.length ≤ most ∨ t = [] := by
      rcases hm with hm | hm
      · rw [List.length_append] at hm
        left
        omega
      · exact .inr (List.append_eq_nil_iff.1 hm).1
    rw [run_enc ht h1]
    have h2 : ((n + t.length : Nat) : Int) + T.flatten.length ≤ most ∨ T.flatten = [] := by
      rcases hm with hm | hm
      · rw [List.length_append] at hm
        left
        omega
      · exact .inr (List.append_eq_nil_iff.1 hm).2
    have ih := run_many T most (n + t.length) (fun x hx => h x (List.mem_cons_of_mem _ hx)) h2
    simp only
    rw [ih]
    simp only [List.length_append]
    rw [Nat.add_assoc]
theorem run_last {most : Int} {n : Nat} (hm : (n : Int) ≤ most) (x : List UInt8) : run (at_ most n) (lastL ++ x) = (⟨most, n, .done, [], false⟩, [], 5) := by
  have h1 : run (at_ most n) [48, 13, 10] = (⟨most, n, .trail 0, [], false⟩, [], 3) := by
    have := run_whole (at_line most n) (l := [48]) (by intro c hc; rw [List.mem_singleton] at hc; subst hc; decide) rfl (show fitL .size [] [48] = true by decide)
    rw [show ([48] : List UInt8) ++ [13, 10] = [48, 13, 10] from rfl] at this
    rw [this]
    have hs : sizeL [48] = 0 := by decide
    unfold endLine at_ goOn
    simp only [hs]
    rw [if_neg (by decide), if_neg (by omega), if_pos trivial]
    rfl
  have h2 : run ⟨most, n, .trail 0, [], false⟩ [13, 10] = (⟨most, n, .done, [], false⟩, [], 2) := by
    rw [run_end ⟨.inr (.inr ⟨0, rfl⟩), rfl⟩ rfl]
    rfl
  rw [show lastL ++ x = [48, 13, 10] ++ ([13, 10] ++ x) from rfl, run_append, h1]
  simp only
  rw [run_append, h2]
  simp only
  rw [run_stop rfl]
  rfl
/-- ChunkBack: all is read back -/
theorem back_say (T : List (List UInt8)) (x : List UInt8) (h : ∀ t ∈ T, t.length < 4294967296) : ans (begin_ T.flatten.length) (T.flatMap enc ++ lastL ++ x) = (T.flatten, (T.flatMap enc ++ lastL).length, true, 0) := by
  have h1 := run_many T T.flatten.length 0 h (.inl (by omega))
  have h2 : run (begin_ T.flatten.length) (T.flatMap enc ++ lastL ++ x) = (⟨T.flatten.length, T.flatten.length, .done, [], false⟩, T.flatten, (T.flatMap enc ++ lastL).length) := by
    rw [List.append_assoc, run_append]
    rw [show begin_ T.flatten.length = at_ T.flatten.length 0 from rfl, h1]
    simp only
    rw [run_last (by omega)]
    simp [lastL]
  unfold ans
  rw [h2]
theorem back_over : ∀ (T : List (List UInt8)) (most : Int) (n : Nat) (x : List UInt8), (∀ t ∈ T, t.length < 4294967296) → (n : Int) ≤ most → most < (n : Int) + T.flatten.length → (run (at_ most n) (T.flatMap enc ++ x)).1.ph = .bad 101
  | [], most, n, x, _, h1, h2 => by
    exfalso
    simp at h2
    omega
  | t :: T, most, n, x, h, h1, h2 => by
    rw [List.flatten_cons, List.length_append] at h2
    rw [List.flatMap_cons, List.append_assoc]
    have ht := h t List.mem_cons_self
    by_cases h0 : t = []
    · subst h0
      exact back_over T most n x (fun y hy => h y (List.mem_cons_of_mem _ hy)) h1 (by simpa using h2)
    · by_cases hm : (n : Int) + t.length ≤ most
      · rw [run_append, run_enc ht (.inl hm)]
        exact back_over T most (n + t.length) x (fun y hy => h y (List.mem_cons_of_mem _ hy)) (by omega) (by omega)
      · obtain ⟨q1, q2⟩ := hex_size ht
        have e : enc t = hexN t.length ++ [13, 10] ++ t ++ [13, 10] := by unfold enc; rw [if_neg h0]
        rw [e]
        have := run_over (x := t ++ [13, 10] ++ (T.flatMap enc ++ x)) (hex_plain t.length) q2 q1 h0 (show most < (n : Int) + t.length by omega)
        simpa using this
theorem over_say (T : List (List UInt8)) (x : List UInt8) (h : ∀ t ∈ T, t.length < 4294967296) (hne : 0 < T.flatten.length) : (ans (begin_ ((T.flatten.length : Int) - 1)) (T.flatMap enc ++ x)).2.2.2 = 101 := by
  have := back_over T ((T.flatten.length : Int) - 1) 0 x h (by omega) (by omega)
  unfold ans
  rw [show begin_ ((T.flatten.length : Int) - 1) = at_ ((T.flatten.length : Int) - 1) 0 from rfl, this]
end Go.Proofs.YtlgohmghjffiaaaDoor.ChunkText
