/- Texts of this seat, one behind another: PRouAsk, PRouRew, L15Anchor. -/

import Derived.Test.YtcjobblhendkbaaA2
/- Layer 15 of the program: asks, whether a request has the field that a route wants. -/
namespace Go.Proofs.Ytcjobblhendkbaa.PRouAsk
open Go.ChangeShapes Go.WideShapes Go.ChangeAt Go.RowKit Bytes Ret LexPure ConfPure ConfMem RouteFind FieldsPure Flds PValsW PRouLead Mem
set_option maxRecDepth 100000
set_option linter.unusedVariables false
set_option linter.unusedSimpArgs false
def askB (r : Rout) (G : List HField) : Bool := r.field == [] || (decide (0 < getN G r.field) && (r.value == [] || getV G r.field == r.value))
theorem takes_say (r : Rout) (m p : L) (G : List HField) : takes15 r m p G = ((r.method == [] || r.method == m) && ((r.path == p || (r.pre && PathPure.under p r.path)) && askB r G)) := rfl
theorem empty_of {a : L} (h : a = []) : (ofL a).toList = [] := by rw [h, ByteArray.toList_eq]; rfl
theorem empty_not {a : L} (h : ¬ a = []) : ¬ (ofL a).toList = [] ∧ (ofL a).toList.isEmpty = false := by
  have e : (ofL a).toList = a := by rw [ByteArray.toList_eq]; exact toL_ofL a
  rw [e]
  exact ⟨h, by cases a <;> simp_all⟩
set_option maxHeartbeats 3200000 in
theorem pasks_any (r : Rout) (v : Value) (G : List HField) (hG : Wide G) (w : World) (hF : FL w v G) :
    Calls Try.prog 21 #[.agg (routA r), v] w fun e w' => e = .returned (.bool (askB r G)) ∧ Below w.heap.size w w' := by
  have HA := (Below.refl w.heap.size w).alloc (Nat.le_refl _) (.cells #[.bool r.pre, .string (ofL r.path), .string (ofL r.method), .string (ofL r.field), .string (ofL r.value), .int .i64 r.action, .string (ofL r.cluster), .int .i64 r.status, .string (ofL r.text), .string (ofL r.rewrite), .int .i64 r.retries, .int .i64 r.timeout, .bool r.upgrade] 39)
  have HG := Lib.hid (PGetW.pget_any v G (ofL r.field) hG _ (hF.below HA))
  rw [toL_ofL] at HG
  have HX := Has.new w 39 #[.bool r.pre, .string (ofL r.path), .string (ofL r.method), .string (ofL r.field), .string (ofL r.value), .int .i64 r.action, .string (ofL r.cluster), .int .i64 r.status, .string (ofL r.text), .string (ofL r.rewrite), .int .i64 r.retries, .int .i64 r.timeout, .bool r.upgrade]
  obtain ⟨p, cap, rfl, hle, _⟩ := hF
  have HB := Lib.hid HA
  have HS := Lib.hid HX
  have hq := text_eq (ofL r.value) (ofL (getV G r.field))
  rw [toL_ofL, toL_ofL, BEq.comm (a := r.value)] at hq
  unfold askB routA
  obtain ⟨z, hz⟩ : ∃ z, z = (getV G r.field == r.value) := ⟨_, rfl⟩
  rw [← hz] at hq ⊢
  clear HA HX hz
  by_cases h1 : r.field = []
  · rw [show (r.field == []) = true from by simpa using h1]
    have f1 := empty_of h1
    generalize ofL r.field = E at *
    clear h1
    go_enter Try.func21, Try.ntmps21
    go_wp2_with fail
    go_ret
    exact ⟨rfl, HB.out⟩
  rw [show (r.field == []) = false from by simpa using h1]
  obtain ⟨f1, f2⟩ := empty_not h1
  generalize hE : ofL r.field = E at *
  generalize hgv : getV G r.field = V at *
  generalize hgn : getN G r.field = N at *
  clear h1 hE hgv hgn
  have key : ∀ (w2 : World), Below (w.heap.size + 1) (w.alloc (.cells #[.bool r.pre, .string (ofL r.path), .string (ofL r.method), .string E, .string (ofL r.value), .int .i64 r.action, .string (ofL r.cluster), .int .i64 r.status, .string (ofL r.text), .string (ofL r.rewrite), .int .i64 r.retries, .int .i64 r.timeout, .bool r.upgrade] 39)) w2 → w2.cell? ⟨w.heap.size, 4, none⟩ = some (.string (ofL r.value)) ∧ Below w.heap.size w w2 := fun w2 h2 =>
    ⟨(HS.out.below h2 (Nat.lt_succ_self _)).cell 4, HB.out.trans (h2.mono (Nat.le_succ _))⟩
  have HK := Lib.hid key
  clear key
  by_cases hN : N = 0
  · subst hN
    go_enter Try.func21, Try.ntmps21
    go_wp2_with fail
    refine HG.out.mono ?_
    rintro e w2 ⟨rfl, hb2⟩
    obtain ⟨c4, hB2⟩ := HK.out w2 (by simpa using hb2)
    have HB2 := Lib.hid hB2
    clear hb2 hB2
    go_wp2_with fail
    go_ret
    exact ⟨rfl, HB2.out⟩
  · have p1 : decide (0 < N) = true := decide_eq_true (by omega)
    have p2 : (0 : Int) < (N : Int) := by omega
    have p3 : 0 < N := by omega
    by_cases h2 : r.value = []
    · rw [show (r.value == []) = true from by simpa using h2, p1]
      have v1 := empty_of h2
      generalize ofL r.value = F at *
      clear h2
      go_enter Try.func21, Try.ntmps21
      go_wp2_with fail
      refine HG.out.mono ?_
      rintro e w2 ⟨rfl, hb2⟩
      obtain ⟨c4, hB2⟩ := HK.out w2 (by simpa using hb2)
      have HB2 := Lib.hid hB2
      clear hb2 hB2
      go_wp2_with fail
      go_ret
      exact ⟨rfl, HB2.out⟩
    · rw [show (r.value == []) = false from by simpa using h2, p1]
      obtain ⟨v1, v2⟩ := empty_not h2
      generalize ofL r.value = F at *
      clear h2
      go_enter Try.func21, Try.ntmps21
      go_wp2_with fail
      refine HG.out.mono ?_
      rintro e w2 ⟨rfl, hb2⟩
      obtain ⟨c4, hB2⟩ := HK.out w2 (by simpa using hb2)
      have HB2 := Lib.hid hB2
      clear hb2 hB2
      go_wp2_with fail
      go_ret
      exact ⟨by cases z <;> rfl, HB2.out⟩
end Go.Proofs.Ytcjobblhendkbaa.PRouAsk

/- Layer 15 of the program: Rewrite. -/
namespace Go.Proofs.Ytcjobblhendkbaa.PRouRew
open Go.ChangeShapes Go.WideShapes Go.ChangeAt Go.RowKit Bytes Ret LexPure ConfPure ConfMem RoutePure PRouLib PRouLead PRouAsk Mem
set_option maxRecDepth 100000
set_option linter.unusedVariables false
set_option linter.unusedSimpArgs false
def trimS (s : L) : L := if ([47] : L).isSuffixOf s then s.take (s.length - 1) else s
def trimP (s : L) : L := if ([47] : L).isPrefixOf s then s.drop 1 else s
theorem ends_say (s : L) : ([47] : L).isSuffixOf s = ends47 s := by
  unfold ends47 List.isSuffixOf
  rw [List.reverse_singleton]
  cases h : s.reverse with
  | nil =>
    have : s = [] := by simpa using h
    subst this; rfl
  | cons a t =>
    have e : s = t.reverse ++ [a] := by rw [← List.reverse_reverse s, h]; simp
    rw [e]
    simp only [List.isPrefixOf, List.getLast?_append, List.getLast?_singleton, Option.some_or, Bool.and_true]
    rw [Bool.eq_iff_iff]
    simp only [beq_iff_eq, Option.some.injEq]
    exact eq_comm
theorem trimS_yes {s : L} (h : ends47 s = true) : trimS s ++ [47] = s := by
  unfold trimS
  rw [ends_say, h, if_pos rfl]
  unfold ends47 at h
  have h2 : s.getLast? = some 47 := by simpa using h
  rw [List.getLast?_eq_some_iff] at h2
  obtain ⟨t, rfl⟩ := h2
  simp
theorem trimS_no {s : L} (h : ends47 s = false) : trimS s = s := by
  unfold trimS
  rw [ends_say, h]; rfl
theorem trimP_yes {s : L} (h : s.headD 0 = 47) (hne : s ≠ []) : trimP s = s.tail ∧ s = 47 :: s.tail := by
  cases s with
  | nil => exact absurd rfl hne
  | cons a t =>
    have e : a = 47 := h
    subst e
    exact ⟨rfl, rfl⟩
theorem trimP_no {s : L} (h : s.headD 0 ≠ 47) : trimP s = s := by
  cases s with
  | nil => rfl
  | cons a t =>
    have e : a ≠ 47 := h
    unfold trimP
    rw [show ([47] : L).isPrefixOf (a :: t) = false from by simp [List.isPrefixOf]; exact fun q => e q.symm]
    rfl
theorem meet_say (s t : L) (hne : t ≠ []) : trimS s ++ [47] ++ trimP t = (if ends47 s = true ∧ t.headD 0 = 47 then s ++ t.tail else if ends47 s = true ∨ t.headD 0 = 47 then s ++ t else s ++ 47 :: t) := by
  cases hs : ends47 s
  · rw [trimS_no hs, if_neg (by simp)]
    by_cases ht : t.headD 0 = 47
    · obtain ⟨h1, h2⟩ := trimP_yes ht hne
      rw [if_pos (.inr ht), h1, List.append_assoc]
      conv => rhs; rhs; rw [h2]
      rfl
    · rw [if_neg (by rintro (h | h); exact absurd h (by decide); exact ht h), trimP_no ht, List.append_assoc]; rfl
  · rw [trimS_yes hs]
    by_cases ht : t.headD 0 = 47
    · rw [if_pos ⟨rfl, ht⟩, (trimP_yes ht hne).1]
    · rw [if_neg (fun h => ht h.2), if_pos (.inl rfl), trimP_no ht]
/-- as the program has it -/
theorem rew_say (r : Rout) (p : L) : rewrite15 r p = if r.rewrite = [] then p else if (!r.pre || !r.path.isPrefixOf p || (p.drop r.path.length).isEmpty) = true then r.rewrite else trimS r.rewrite ++ [47] ++ trimP (p.drop r.path.length) := by
  unfold rewrite15
  by_cases h0 : r.rewrite = []
  · rw [if_pos h0, if_pos h0]
  rw [if_neg h0, if_neg h0]
  have hpre : r.path.isPrefixOf p = (p.take r.path.length == r.path) := by
    rw [Bool.eq_iff_iff, List.isPrefixOf_iff_prefix, List.prefix_iff_eq_take, beq_iff_eq]
    exact eq_comm
  by_cases h1 : r.pre = false ∨ p.length ≤ r.path.length ∨ p.take r.path.length ≠ r.path
  · rw [if_pos h1, if_pos]
    rcases h1 with q | q | q
    · rw [q]; rfl
    · rw [show (p.drop r.path.length).isEmpty = true from by rw [List.isEmpty_iff, List.drop_eq_nil_iff]; exact q, Bool.or_true]
    · rw [hpre, show (p.take r.path.length == r.path) = false from by simpa using q]; simp
  · rw [if_neg h1]
    simp only [not_or, Decidable.not_not] at h1
    obtain ⟨a1, a2, a3⟩ := h1
    have hne : p.drop r.path.length ≠ [] := by
      intro e
      rw [List.drop_eq_nil_iff] at e
      omega
    symm
    rw [if_neg (by
      rw [hpre, a3, show r.pre = true from by simpa using a1, show (p.drop r.path.length).isEmpty = false from by rw [Bool.eq_false_iff, ne_eq, List.isEmpty_iff]; exact hne]
      simp), meet_say _ _ hne]
theorem rw_size (r : Rout) (p : L) : (rewrite15 r p).length ≤ r.rewrite.length + 1 + p.length := by
  unfold rewrite15
  split
  · omega
  split
  · omega
  split
  · rw [List.length_append, List.length_tail, List.length_drop]; omega
  split
  · rw [List.length_append, List.length_drop]; omega
  · rw [List.length_append, List.length_cons, List.length_drop]; omega
theorem ret_text {a b : ByteArray} (h : toL a = toL b) : Ending.returned (.string a) = .returned (.string b) := by rw [toL_inj h]
theorem trimS_len (s : L) : (trimS s).length ≤ s.length := by unfold trimS; split; rw [List.length_take]; omega; exact Nat.le_refl _
theorem trimP_len (s : L) : (trimP s).length ≤ s.length := by unfold trimP; split; rw [List.length_drop]; omega; exact Nat.le_refl _
set_option maxHeartbeats 6400000 in
theorem prewrite_any (r : Rout) (p : ByteArray) (hr : r.rewrite.length + p.size ≤ 4611686018427387904) (w : World) :
    Calls Try.prog 10 #[.agg (routA r), .string p] w fun e w' => e = .returned (.string (ofL (rewrite15 r (toL p)))) ∧ Below w.heap.size w w' := by
  have HS := Lib.hid (rew_say r (toL p))
  have HB := Lib.hid ((Below.refl w.heap.size w).alloc (Nat.le_refl _) (.cells (routA r) 39))
  unfold routA at HB ⊢
  by_cases h0 : r.rewrite = []
  · rw [if_pos h0] at HS
    rw [HS.out, ofL_toL]
    have f1 := empty_of h0
    clear h0 hr HS
    go_enter Try.func10, Try.ntmps10
    go_wp2_with fail
    go_ret
    exact ⟨rfl, HB.out⟩
  rw [if_neg h0] at HS
  obtain ⟨f1, f2⟩ := empty_not h0
  have HC := Lib.hid (fun w => lib_cutp p (ofL r.path) w)
  rw [toL_ofL, ofL_size] at HC
  obtain ⟨y, hy⟩ : ∃ y, y = r.pre := ⟨_, rfl⟩
  obtain ⟨x, hx⟩ : ∃ x, x = r.path.isPrefixOf (toL p) := ⟨_, rfl⟩
  rw [← hy, ← hx] at HS
  rw [← hy] at HB ⊢
  rw [← hx] at HC
  clear hx hy h0
  have hl : (r.rewrite.length : Int) + ((toL p).drop r.path.length).length ≤ 4611686018427387904 := by
    rw [List.length_drop, toL_length]; omega
  cases x
  · rw [if_pos (by simp)] at HS
    rw [HS.out]
    rw [if_neg (by decide)] at HC
    clear HS hr hl
    cases y
    · go_enter Try.func10, Try.ntmps10
      go_wp2_with fail
      refine (HC.out _).mono ?_
      rintro e w' ⟨rfl, rfl⟩
      go_wp2_with fail
      go_ret
      exact ⟨rfl, HB.out⟩
    · go_enter Try.func10, Try.ntmps10
      go_wp2_with fail
      refine (HC.out _).mono ?_
      rintro e w' ⟨rfl, rfl⟩
      go_wp2_with fail
      go_ret
      exact ⟨rfl, HB.out⟩
  rw [if_pos rfl] at HC
  cases y
  · rw [if_pos (by simp)] at HS
    rw [HS.out]
    clear HS hr hl
    go_enter Try.func10, Try.ntmps10
    go_wp2_with fail
    refine (HC.out _).mono ?_
    rintro e w' ⟨rfl, rfl⟩
    go_wp2_with fail
    go_ret
    exact ⟨rfl, HB.out⟩
  generalize (toL p).drop r.path.length = t at *
  by_cases ht : t = []
  · rw [if_pos (by rw [ht]; rfl)] at HS
    rw [HS.out]
    have g1 := empty_of ht
    generalize ofL t = T at *
    clear HS hr hl ht
    go_enter Try.func10, Try.ntmps10
    go_wp2_with fail
    refine (HC.out _).mono ?_
    rintro e w' ⟨rfl, rfl⟩
    go_wp2_with fail
    go_ret
    exact ⟨rfl, HB.out⟩
  · have hte : t.isEmpty = false := by rw [Bool.eq_false_iff, ne_eq, List.isEmpty_iff]; exact ht
    rw [hte, if_neg (by decide)] at HS
    rw [HS.out]
    obtain ⟨g1, g2⟩ := empty_not ht
    have H1 := Lib.hid (fun w => lib_trims (ofL r.rewrite) ⟨#[47]⟩ (by rw [ofL_size]; omega) w)
    have H2 := Lib.hid (fun w => lib_trimp (ofL t) ⟨#[47]⟩ w)
    rw [toL_ofL, ofL_size, show toL ⟨#[47]⟩ = [47] from rfl, show ((⟨#[47]⟩ : ByteArray).size) = 1 from rfl] at H1
    rw [toL_ofL, show toL ⟨#[47]⟩ = [47] from rfl, show ((⟨#[47]⟩ : ByteArray).size) = 1 from rfl] at H2
    rw [show (if ([47] : L).isSuffixOf r.rewrite = true then r.rewrite.take (r.rewrite.length - 1) else r.rewrite) = trimS r.rewrite from rfl] at H1
    rw [show (if ([47] : L).isPrefixOf t = true then t.drop 1 else t) = trimP t from rfl] at H2
    have l1 := trimS_len r.rewrite
    have l2 := trimP_len t
    have HV : Hid (toL (ofL (trimS r.rewrite) ++ ⟨#[47]⟩ ++ ofL (trimP t)) = trimS r.rewrite ++ [47] ++ trimP t) := Lib.hid (by rw [toL_append, toL_append, toL_ofL, toL_ofL])
    have s1 : (ofL (trimS r.rewrite)).size + 1 ≤ 9223372036854775807 := by rw [ofL_size]; omega
    have s2 : (ofL (trimS r.rewrite)).size + 1 + (ofL (trimP t)).size ≤ 9223372036854775807 := by rw [ofL_size, ofL_size]; omega
    generalize ofL (trimS r.rewrite) = A at *
    generalize ofL (trimP t) = Bt at *
    generalize ofL t = T at *
    clear HS hr hl ht hte l1 l2
    go_enter Try.func10, Try.ntmps10
    go_wp2_with fail
    refine (HC.out _).mono ?_
    rintro e w' ⟨rfl, rfl⟩
    go_wp2_with fail
    refine (H1.out _).mono ?_
    rintro e w' ⟨rfl, rfl⟩
    go_wp2_with fail
    refine (H2.out _).mono ?_
    rintro e w' ⟨rfl, rfl⟩
    go_wp2_with fail
    go_ret
    exact ⟨ret_text (by rw [toL_ofL]; exact HV.out), HB.out⟩
end Go.Proofs.Ytcjobblhendkbaa.PRouRew

/- Layer 15's laws: two of the document's examples. -/
namespace Go.Proofs.Ytcjobblhendkbaa.L15Anchor
open Go.ChangeShapes Go.WideShapes Go.ChangeAt Go.RowKit Bytes LexPure ConfPure ConfMem RouteFind RoutePure PRouBest PRouDom PRouLead PRouRew RouRow ConfOwn Mem
set_option maxRecDepth 100000
set_option linter.unusedVariables false
set_option linter.unusedSimpArgs false
def AC : Conf := ⟨0, 0, 0, 0, 0, 0, [], [], [⟨[42], []⟩, ⟨[42, 46, 101, 120, 46, 99, 111, 109], []⟩, ⟨[42, 46, 98, 46, 101, 120, 46, 99, 111, 109], []⟩, ⟨[101, 120, 46, 99, 111, 109], []⟩]⟩
theorem a1 : domI (dom15 (AC.vhosts.map (·.domain)) [97, 46, 98, 46, 101, 120, 46, 99, 111, 109]) = 2 := by decide +kernel
theorem a2 : domI (dom15 (AC.vhosts.map (·.domain)) [46, 101, 120, 46, 99, 111, 109]) = 0 := by decide +kernel
def AR : Rout := ⟨true, [47, 97, 112, 105], [], [], [], 0, [], 0, [], [47, 120], 0, 0, false⟩
theorem a3 : rewrite15 AR [47, 97, 112, 105, 47, 118] = [47, 120, 47, 118] := by decide +kernel
set_option maxHeartbeats 3200000 in
theorem anchor_any (w : World) : Calls Try.prog 6 #[] w fun e w' => e = .returned (.bool true) ∧ Below w.heap.size w w' := by
  have HD := Lib.hid (fun h hh W hC => pdomain_any AC (.slice none 0 0) (.slice none 0 0) (.slice (some ⟨w.heap.size, 0, none⟩) 4 4) h hh W hC)
  go_enter Try.func6, Try.ntmps6
  go_wp2_with fail
  have HJ : Hid (Cb w (w.heap.size + 1) AC (.slice none 0 0) (.slice none 0 0) (.slice (some ⟨w.heap.size, 0, none⟩) 4 4) ((w.alloc (.cells #[.string ⟨#[42]⟩, .slice none 0 0, .string ⟨#[42, 46, 101, 120, 46, 99, 111, 109]⟩, .slice none 0 0, .string ⟨#[42, 46, 98, 46, 101, 120, 46, 99, 111, 109]⟩, .slice none 0 0, .string ⟨#[101, 120, 46, 99, 111, 109]⟩, .slice none 0 0] 36)).alloc (.cells #[.int .i64 0, .int .i64 0, .int .i64 0, .int .i64 0, .int .i64 0, .int .i64 0, .slice none 0 0, .slice none 0 0, .slice (some ⟨w.heap.size, 0, none⟩) 4 4] 26))) := Lib.hid (by
    have b1 := (Below.refl w.heap.size w).alloc (Nat.le_refl _) (.cells #[.string ⟨#[42]⟩, .slice none 0 0, .string ⟨#[42, 46, 101, 120, 46, 99, 111, 109]⟩, .slice none 0 0, .string ⟨#[42, 46, 98, 46, 101, 120, 46, 99, 111, 109]⟩, .slice none 0 0, .string ⟨#[101, 120, 46, 99, 111, 109]⟩, .slice none 0 0] 36)
    have b2 := b1.alloc (by simp) (.cells #[.int .i64 0, .int .i64 0, .int .i64 0, .int .i64 0, .int .i64 0, .int .i64 0, .slice none 0 0, .slice none 0 0, .slice (some ⟨w.heap.size, 0, none⟩) 4 4] 26)
    have hn := Has.new (w.alloc (.cells #[.string ⟨#[42]⟩, .slice none 0 0, .string ⟨#[42, 46, 101, 120, 46, 99, 111, 109]⟩, .slice none 0 0, .string ⟨#[42, 46, 98, 46, 101, 120, 46, 99, 111, 109]⟩, .slice none 0 0, .string ⟨#[101, 120, 46, 99, 111, 109]⟩, .slice none 0 0] 36)) 26 #[.int .i64 0, .int .i64 0, .int .i64 0, .int .i64 0, .int .i64 0, .int .i64 0, .slice none 0 0, .slice none 0 0, .slice (some ⟨w.heap.size, 0, none⟩) 4 4]
    rw [show (w.alloc (.cells #[.string ⟨#[42]⟩, .slice none 0 0, .string ⟨#[42, 46, 101, 120, 46, 99, 111, 109]⟩, .slice none 0 0, .string ⟨#[42, 46, 98, 46, 101, 120, 46, 99, 111, 109]⟩, .slice none 0 0, .string ⟨#[101, 120, 46, 99, 111, 109]⟩, .slice none 0 0] 36)).heap.size = w.heap.size + 1 by simp] at hn
    have hr := owns_new w VT w.heap.size 2 4 #[.string ⟨#[42]⟩, .slice none 0 0, .string ⟨#[42, 46, 101, 120, 46, 99, 111, 109]⟩, .slice none 0 0, .string ⟨#[42, 46, 98, 46, 101, 120, 46, 99, 111, 109]⟩, .slice none 0 0, .string ⟨#[101, 120, 46, 99, 111, 109]⟩, .slice none 0 0] (Nat.le_refl _) (by decide) rfl
    have hv := vhoss_of (VL := AC.vhosts.map fun x => (x, .slice none 0 0)) hr (fun p hp => by
      simp only [AC, List.map_cons, List.map_nil, List.mem_cons, List.not_mem_nil, or_false] at hp
      rcases hp with rfl | rfl | rfl | rfl <;> exact routs_nil _)
    exact ⟨hn, Vhoss.below hv ((Below.refl _ _).alloc (Nat.le_refl _) _), b2⟩)
  have HVF : Hid (∀ W, Cb w (w.heap.size + 1) AC (.slice none 0 0) (.slice none 0 0) (.slice (some ⟨w.heap.size, 0, none⟩) 4 4) W → VF W AC (.slice none 0 0) (.slice none 0 0) (.slice (some ⟨w.heap.size, 0, none⟩) 4 4)) := Lib.hid (fun W x => ⟨⟨_, _, _, rfl⟩, ⟨_, _, _, rfl⟩, x.vh⟩)
  have D1 := Lib.hid (fun W hC => HD.out ⟨#[97, 46, 98, 46, 101, 120, 46, 99, 111, 109]⟩ (by decide) W hC)
  have D2 := Lib.hid (fun W hC => HD.out ⟨#[46, 101, 120, 46, 99, 111, 109]⟩ (by decide) W hC)
  rw [show toL ⟨#[97, 46, 98, 46, 101, 120, 46, 99, 111, 109]⟩ = [97, 46, 98, 46, 101, 120, 46, 99, 111, 109] from rfl, a1] at D1
  rw [show toL ⟨#[46, 101, 120, 46, 99, 111, 109]⟩ = [46, 101, 120, 46, 99, 111, 109] from rfl, a2] at D2
  have HR := Lib.hid (fun w => prewrite_any AR ⟨#[47, 97, 112, 105, 47, 118]⟩ (by decide) w)
  rw [show toL ⟨#[47, 97, 112, 105, 47, 118]⟩ = [47, 97, 112, 105, 47, 118] from rfl, a3] at HR
  unfold routA at HR
  refine (D1.out _ (HVF.out _ HJ.out)).mono ?_
  rintro e w2 ⟨rfl, hb2⟩
  have HJ2 := Lib.hid (HJ.out.call hb2)
  clear hb2 HJ D1 HD
  have B2 := HJ2.out.box
  have c0 : w2.cell? ⟨w.heap.size + 1, 0, none⟩ = some (.int .i64 0) := B2.cell 0
  have c1 : w2.cell? ⟨w.heap.size + 1, 1, none⟩ = some (.int .i64 0) := B2.cell 1
  have c2 : w2.cell? ⟨w.heap.size + 1, 2, none⟩ = some (.int .i64 0) := B2.cell 2
  have c3 : w2.cell? ⟨w.heap.size + 1, 3, none⟩ = some (.int .i64 0) := B2.cell 3
  have c4 : w2.cell? ⟨w.heap.size + 1, 4, none⟩ = some (.int .i64 0) := B2.cell 4
  have c5 : w2.cell? ⟨w.heap.size + 1, 5, none⟩ = some (.int .i64 0) := B2.cell 5
  have c6 : w2.cell? ⟨w.heap.size + 1, 6, none⟩ = some (.slice none 0 0) := B2.cell 6
  have c7 : w2.cell? ⟨w.heap.size + 1, 7, none⟩ = some (.slice none 0 0) := B2.cell 7
  have c8 : w2.cell? ⟨w.heap.size + 1, 8, none⟩ = some (.slice (some ⟨w.heap.size, 0, none⟩) 4 4) := B2.cell 8
  go_wp2_with fail
  refine (D2.out _ (HVF.out _ HJ2.out)).mono ?_
  rintro e w3 ⟨rfl, hb3⟩
  have HJ3 := Lib.hid (HJ2.out.call hb3)
  clear B2 c0 c1 c2 c3 c4 c5 c6 c7 c8 hb3 HJ2 D2
  go_wp2_with fail
  refine (HR.out _).mono ?_
  rintro e w4 ⟨rfl, hb4⟩
  have HJ4 := Lib.hid (HJ3.out.call hb4)
  clear hb4 HJ3 HR
  have s1 : ((ofL [47, 120, 47, 118]).toList == [47, 120, 47, 118]) = true := by rw [ByteArray.toList_eq]; rfl
  have s2 : (ofL [47, 120, 47, 118]).toList = [47, 120, 47, 118] := by simpa using s1
  go_wp2_with fail
  go_ret
  exact ⟨rfl, HJ4.out.below⟩
end Go.Proofs.Ytcjobblhendkbaa.L15Anchor
