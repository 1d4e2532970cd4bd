/- Texts of this seat, one behind another: RValue, R8Field, R8ReadB, R8ReadT. -/
import Derived.Lib.Hide
import Derived.Below
import Derived.Outline
import Derived.LoopTactic
import Derived.Laws.DeepStrings4
import Derived.Deep.QuietTactic
import Derived.BigQuiet
import Derived.OwnWalk
import Derived.Maps.AppendAt
import Derived.Deep.AppendLies
import Derived.Test.YtclecgopmegjeaaDoorA1
import Derived.Test.YtclecgopmegjeaaDoorB3
import Derived.Test.YtclecgopmegjeaaDoorB1
import Derived.Test.YtclecgopmegjeaaDoorA2
/- Layer 4, the document's own Value. -/
namespace Go.Proofs.YtclecgopmegjeaaDoor.RValue
open Go.ChangeShapes Go.WideShapes Go.ChangeAt Go.RowKit LexPure Bytes Ret RBlank
set_option maxRecDepth 20000
theorem plain_true {b : UInt8} (h : plainB b = true) : ((b.toNat : Int) == 127) = false ∧ (¬ (b.toNat : Int) < 32 ∨ ((b.toNat : Int) < 32 ∧ ((b.toNat : Int) != 9) = false)) := by
  have := all_bytes (p := fun b => !plainB b || decide (((b.toNat : Int) == 127) = false ∧ (¬ (b.toNat : Int) < 32 ∨ ((b.toNat : Int) < 32 ∧ ((b.toNat : Int) != 9) = false)))) (by decide +kernel) b
  simpa only [h, Bool.not_true, Bool.false_or, decide_eq_true_eq] using this
theorem plain_false {b : UInt8} (h : plainB b = false) : ((b.toNat : Int) == 127) = true ∨ (((b.toNat : Int) == 127) = false ∧ (b.toNat : Int) < 32 ∧ ((b.toNat : Int) != 9) = true) := by
  have := all_bytes (p := fun b => plainB b || decide (((b.toNat : Int) == 127) = true ∨ (((b.toNat : Int) == 127) = false ∧ (b.toNat : Int) < 32 ∧ ((b.toNat : Int) != 9) = true))) (by decide +kernel) b
  simpa only [h, Bool.false_or, decide_eq_true_eq] using this
theorem head_at (s : ByteArray) (h : 0 < s.size) : (toL s).headD 0 = s[0] := by
  have := toL_get s 0 h
  cases hl : toL s with
  | nil => rw [hl] at this; cases this
  | cons c r => rw [hl] at this; simpa using this
theorem last_of (s : ByteArray) (j : Nat) (h : s.size = j + 1) : (toL s).getLastD 0 = s[j] := by
  have := toL_get s j (by omega)
  rw [List.getLastD_eq_getLast?, List.getLast?_eq_getElem?, toL_length, show s.size - 1 = j by omega, this]
  rfl
theorem rvalue_any (s : ByteArray) (hs : s.size ≤ maxLen) (w : World) :
    Calls Tryd.prog 30 #[.string s] w fun e w' => e = .returned (.bool (value (toL s))) ∧ w = w' := by
  unfold maxLen at hs
  go_enter Tryd.func30, Tryd.ntmps30
  go_wp2_with fail
  go_loop [3] (fun i => ∃ k : Nat, k ≤ s.size ∧ i = .int .i64 k ∧ Hid (((toL s).take k).all plainB = true)) (fun i => s.size - (intOf i).toNat)
  case atStart => exact ⟨0, Nat.zero_le _, rfl, Lib.hid rfl⟩
  case round =>
    obtain ⟨k, hk, rfl, ha⟩ := hrel
    by_cases hlt : k < s.size
    · have hki : (k : Int) < (s.size : Int) := by omega
      have HT := Lib.hid (toL_take_succ s k hlt)
      have HG := Lib.hid (toL_get s k hlt)
      by_cases hm : plainB s[k] = true
      · have HA : Hid (((toL s).take (k + 1)).all plainB = true) := Lib.hid (by rw [HT.out, List.all_append, ha.out]; simp [hm])
        have hp := plain_true hm
        clear HT HG ha hm
        obtain ⟨h1, hp⟩ := hp
        rcases hp with h2 | ⟨h2, h3⟩
        all_goals
          go_wp2_with fail
          go_round
          case rel => exact ⟨k + 1, by omega, by go_num, HA⟩
          case measure => simp [intOf]; omega
      · have hm : plainB s[k] = false := by simpa using hm
        have HV : Hid (value (toL s) = false) := Lib.hid (by
          unfold value
          rw [Bool.and_eq_false_iff]
          left
          rw [List.all_eq_false]
          exact ⟨s[k], List.mem_of_getElem? HG.out, by simp [hm]⟩)
        have hp := plain_false hm
        clear HT HG ha hm
        rcases hp with h1 | ⟨h1, h2, h3⟩
        all_goals
          go_wp2_with fail
          go_ret
          exact ⟨ret_bool HV.out.symm, rfl⟩
    · have ha' : (toL s).all plainB = true := by
        have := ha.out
        rwa [toL_take_all s (by omega)] at this
      have hki : ¬ (k : Int) < (s.size : Int) := by omega
      by_cases h0 : s.size = 0
      · have HV : Hid (value (toL s) = true) := Lib.hid (by
          unfold value
          rw [ha', List.isEmpty_iff.2 (List.length_eq_zero_iff.1 (by rw [toL_length]; exact h0))]
          rfl)
        have hq : ((s.size : Int) == 0) = true := by rw [h0]; rfl
        clear ha' ha
        go_wp2_with fail
        go_ret
        exact ⟨ret_bool HV.out.symm, rfl⟩
      · obtain ⟨j, hj⟩ : ∃ j, s.size = j + 1 := ⟨s.size - 1, by omega⟩
        have hV : value (toL s) = (!blankB (s[0]'(by omega)) && !blankB (s[j]'(by omega))) := by
          unfold value
          rw [ha', head_at s (by omega), last_of s j hj]
          have : (toL s).isEmpty = false := by
            cases hl : toL s with
            | nil => have := toL_length s; rw [hl] at this; simp at this; omega
            | cons => rfl
          rw [this]
          simp
        have HV := Lib.hid hV
        have HJ := Lib.hid hj
        have hq : ((s.size : Int) == 0) = false := by
          rw [beq_eq_false_iff_ne]
          omega
        clear ha' ha hV
        have p0 : 0 < s.size := by omega
        by_cases hb0 : blankB (s[0]'p0) = true
        · have HB := Lib.hid hb0
          have HV2 : Hid (value (toL s) = false) := Lib.hid (by rw [HV.out, hb0]; rfl)
          clear hb0
          go_wp2_with fail
          refine (rblank_any _ _).mono ?_
          rintro e w' ⟨rfl, rfl⟩
          rw [HB.out]
          go_wp2_with fail
          go_ret
          exact ⟨ret_bool HV2.out.symm, rfl⟩
        · have hb0 : blankB (s[0]'p0) = false := by simpa using hb0
          have HB := Lib.hid hb0
          have HV2 : Hid (value (toL s) = !blankB (s[j]'(by omega))) := Lib.hid (by rw [HV.out, hb0]; rfl)
          clear hb0
          go_wp2_with fail
          refine (rblank_any _ _).mono ?_
          rintro e w' ⟨rfl, rfl⟩
          rw [HB.out]
          go_wp2_with fail
          refine (rblank_any _ _).mono ?_
          rintro e w' ⟨rfl, rfl⟩
          generalize blankB (s[j]'(by omega)) = bb at *
          go_wp2_with fail
          go_ret
          exact ⟨ret_bool HV2.out.symm, rfl⟩
end Go.Proofs.YtclecgopmegjeaaDoor.RValue

/- Layer 8, the document's own Field. -/
namespace Go.Proofs.YtclecgopmegjeaaDoor.R8Field
open Go.ChangeShapes Go.WideShapes Go.ChangeAt Go.RowKit LexPure Bytes Ret FieldsPure HeadPure HBox Mem R8End RToken RTrim RValue
set_option maxRecDepth 20000
theorem name_step {l : List UInt8} {c : UInt8} : nameB (c :: l) = if c != 58 then c :: nameB l else [] := by
  unfold nameB
  rw [List.takeWhile_cons]
theorem mark_58 (b : UInt8) : (b = 58 ∧ ((b.toNat : Int) != 58) = false) ∨ (b ≠ 58 ∧ ((b.toNat : Int) != 58) = true) := by
  have := all_bytes (p := fun b => decide ((b = 58 ∧ ((b.toNat : Int) != 58) = false) ∨ (b ≠ 58 ∧ ((b.toNat : Int) != 58) = true))) (by decide +kernel) b
  exact of_decide_eq_true this
theorem name_take (s : List UInt8) : nameB s = s.take (nameB s).length := by
  unfold nameB
  induction s with
  | nil => rfl
  | cons c s ih =>
    rw [List.takeWhile_cons]
    split
    · rw [List.length_cons, List.take_succ_cons, ← ih]
    · rfl
set_option maxHeartbeats 1600000 in
theorem r8field_any (s : ByteArray) (hs : s.size ≤ 140737488351232) (w : World) :
    Calls Tryd.prog 19 #[.string s] w fun e w' => e = .returned (frv (field8 (toL s))) ∧ Below w.heap.size w w' := by
  have HO := Lib.hid (FOne.start w)
  obtain ⟨x, hx⟩ : ∃ x, x = field8 (toL s) := ⟨_, rfl⟩
  rw [← hx]
  replace hx := Lib.hid hx
  go_enter Tryd.func19, Tryd.ntmps19
  go_wp2_with fail
  generalize w.alloc (.cells #[.string ⟨#[]⟩, .string ⟨#[]⟩] 37) = W at HO ⊢
  obtain ⟨g, hg⟩ : ∃ g, g = w.heap.size := ⟨_, rfl⟩
  rw [← hg] at HO ⊢
  replace hg := Lib.hid hg
  go_loop [4] (fun i => ∃ k : Nat, k ≤ s.size ∧ i = .int .i64 k ∧ Hid ((nameB (toL s)).length = k + (nameB ((toL s).drop k)).length)) (fun i => s.size - (intOf i).toNat)
  case atStart => exact ⟨0, Nat.zero_le _, rfl, Lib.hid (by rw [List.drop_zero, Nat.zero_add])⟩
  case round =>
    obtain ⟨k, hk, rfl, hq⟩ := hrel
    have hx2 : (∃ hlt : k < s.size, (k : Int) < (s.size : Int) ∧ ((s[k].toNat : Int) != 58) = true ∧ Hid ((nameB (toL s)).length = k + 1 + (nameB ((toL s).drop (k + 1))).length)) ∨ (∃ hlt : k < s.size, (k : Int) < (s.size : Int) ∧ ((s[k].toNat : Int) != 58) = false ∧ Hid ((nameB (toL s)).length = k)) ∨ (k = s.size ∧ ¬ (k : Int) < (s.size : Int) ∧ Hid ((nameB (toL s)).length = s.size)) := by
      by_cases hlt : k < s.size
      · have HE := hq.out
        rw [toL_drop s k hlt, name_step] at HE
        rcases mark_58 s[k] with ⟨c0, c1⟩ | ⟨c0, c1⟩
        · exact .inr (.inl ⟨hlt, by omega, c1, Lib.hid (by rw [HE, c0]; rfl)⟩)
        · exact .inl ⟨hlt, by omega, c1, Lib.hid (by rw [HE, if_pos (bne_iff_ne.2 c0), List.length_cons]; omega)⟩
      · have HE := hq.out
        rw [List.drop_eq_nil_of_le (by rw [toL_length]; omega)] at HE
        exact .inr (.inr ⟨by omega, by omega, Lib.hid (HE.trans (by show k + 0 = s.size; omega))⟩)
    clear hq
    obtain ⟨d0, d1⟩ := HO.out.box.cells
    obtain ⟨z0, z1⟩ := HO.out.box.frees
    rcases hx2 with ⟨hlt, hki, c1, HV⟩ | ⟨hlt, hki, c1, HV⟩ | ⟨rfl, hki, HV⟩
    · go_wp2_with fail
      go_round
      case rel => exact ⟨k + 1, by omega, by go_num, HV⟩
      case measure => simp [intOf]; omega
    · have hne : ((k : Int) == (s.size : Int)) = false := beq_eq_false_iff_ne.2 (by omega)
      have e1 : toL (s.extract 0 k) = nameB (toL s) := by rw [toL_extract, List.drop_zero, name_take (toL s), HV.out]
      have e2 : toL (s.extract (k + 1) s.size) = (toL s).drop ((nameB (toL s)).length + 1) := by rw [toL_extract, toL_take_all s (Nat.le_refl _), HV.out]
      have HT := Lib.hid (fun w => (rtoken_any (s.extract 0 k) (by unfold maxLen; rw [ByteArray.size_extract]; omega) w).mono (fun e w' h => (⟨h.1, h.2.symm⟩ : e = .returned (.bool (token (toL (s.extract 0 k)))) ∧ w' = w)))
      have HR := Lib.hid (fun w => rtrim_any (s.extract (k + 1) s.size) (by unfold maxLen; rw [ByteArray.size_extract]; omega) w)
      have HL := Lib.hid (fun w => rvalue_any (ofL (trim (toL (s.extract (k + 1) s.size)))) (by unfold maxLen; rw [ofL_size]; have := trim_length (toL (s.extract (k + 1) s.size)); rw [toL_length, ByteArray.size_extract] at this; omega) w)
      rw [toL_ofL] at HL
      have h0 : x = if token (toL (s.extract 0 k)) = true ∧ value (trim (toL (s.extract (k + 1) s.size))) = true then ((toL (s.extract 0 k), trim (toL (s.extract (k + 1) s.size))), 0) else (([], []), 70) := by
        rw [hx.out]
        unfold field8
        rw [e1, e2]
        by_cases h : token (nameB (toL s)) = true ∧ value (trim ((toL s).drop ((nameB (toL s)).length + 1))) = true
        · rw [if_pos h, if_pos ⟨by rw [HV.out, toL_length]; exact hlt, h⟩]
        · rw [if_neg h, if_neg (fun h2 => h h2.2)]
      have e3 : ofL (toL (s.extract 0 k)) = s.extract 0 k := ofL_toL _
      replace h0 := Lib.hid h0
      replace e3 := Lib.hid e3
      clear e1 e2 HV hx
      generalize toL (s.extract 0 k) = A at *
      generalize trim (toL (s.extract (k + 1) s.size)) = B at *
      cases ht : token A with
      | false =>
        rw [ht] at HT
        have HV : x = (([], []), 70) := by rw [h0.out, ht]; rfl
        subst HV
        have HE := Lib.hid (HO.out.box.put ([], []))
        have HB := Lib.hid (HO.out.put ([], []))
        clear h0 HR HL ht e3 HO
        go_wp2_with fail
        refine (HT.out _).mono ?_
        rintro e w' ⟨rfl, rfl⟩
        go_wp2_with fail
        refine bodyPost_ret (v := frv (([], []), 70)) ?_ rfl ⟨rfl, HB.out⟩
        rw [results_cell_tmp rfl]
        exact end_fbox rfl rfl HE.out
      | true =>
        rw [ht] at HT
        cases hv : value B with
        | false =>
          rw [hv] at HL
          have HV : x = (([], []), 70) := by rw [h0.out, hv]; simp
          subst HV
          have HE := Lib.hid (HO.out.box.put ([], []))
          have HB := Lib.hid (HO.out.put ([], []))
          clear h0 ht hv e3 HO
          go_wp2_with fail
          refine (HT.out _).mono ?_
          rintro e w' ⟨rfl, rfl⟩
          go_wp2_with fail
          refine (HR.out _).mono ?_
          rintro e w' ⟨rfl, rfl⟩
          go_wp2_with fail
          refine (HL.out _).mono ?_
          rintro e w' ⟨rfl, rfl⟩
          go_wp2_with fail
          refine bodyPost_ret (v := frv (([], []), 70)) ?_ rfl ⟨rfl, HB.out⟩
          rw [results_cell_tmp rfl]
          exact end_fbox rfl rfl HE.out
        | true =>
          rw [hv] at HL
          have HV : x = ((A, B), 0) := by rw [h0.out, ht, hv]; rfl
          subst HV
          have HE := HO.out.box.put (A, B)
          have HB := HO.out.put (A, B)
          unfold fput at HE HB
          simp only [e3.out] at HE HB
          replace HE := Lib.hid HE
          replace HB := Lib.hid HB
          clear h0 ht hv e3 HO
          go_wp2_with fail
          refine (HT.out _).mono ?_
          rintro e w' ⟨rfl, rfl⟩
          go_wp2_with fail
          refine (HR.out _).mono ?_
          rintro e w' ⟨rfl, rfl⟩
          go_wp2_with fail
          refine (HL.out _).mono ?_
          rintro e w' ⟨rfl, rfl⟩
          go_wp2_with fail
          refine bodyPost_ret (v := frv ((A, B), 0)) ?_ rfl ⟨rfl, HB.out⟩
          rw [results_cell_tmp rfl]
          exact end_fbox rfl rfl HE.out
    · have hne : ((s.size : Int) == (s.size : Int)) = true := beq_self_eq_true _
      have HV : x = (([], []), 70) := by rw [hx.out]; unfold field8; rw [if_neg]; rintro ⟨h, _⟩; rw [HV.out, toL_length] at h; omega
      subst HV
      have HE := Lib.hid (HO.out.box.put ([], []))
      have HB := Lib.hid (HO.out.put ([], []))
      clear hx
      go_wp2_with fail
      refine bodyPost_ret (v := frv (([], []), 70)) ?_ rfl ⟨rfl, HB.out⟩
      rw [results_cell_tmp rfl]
      exact end_fbox rfl rfl HE.out
end Go.Proofs.YtclecgopmegjeaaDoor.R8Field

/- Layer 8, the document's own Read: what its boxes hold. -/
namespace Go.Proofs.YtclecgopmegjeaaDoor.R8ReadB
open Go.ChangeShapes Go.WideShapes Go.ChangeAt Go.RowKit LexPure Bytes Ret Rows1 FieldsPure HeadPure Flds HBox KeptRow Mem R8End R8Start R8Status R8Field
set_option maxRecDepth 20000
set_option linter.unusedVariables false
/-- between the lines: the result's box, the head's box, the fields -/
structure St (w : World) (g G : Nat) (H : H8) (acc : List HField) (v : Value) (W : World) : Prop where
  at_ : g = w.heap.size
  next : G = g + 1
  below : Below w.heap.size w W
  res : HBox W g zero8 (.slice none 0 0)
  box : HBox W G H v
  row : W.ownsRow (G + 1) 37 2 v acc.length (encFs acc)
  size : G + 1 ≤ W.heap.size
theorem St.call {w W W' : World} {g G : Nat} {H : H8} {acc : List HField} {v : Value} (h : St w g G H acc v W) (hb : Below W.heap.size W W') : St w g G H acc v W' :=
  ⟨h.at_, h.next, below_chain h.below hb, h.res.below hb (by have := h.size; have := h.next; omega), h.box.below hb (by have := h.size; omega), row_below h.row hb, Nat.le_trans h.size hb.size⟩
theorem St.start (w : World) : St w w.heap.size (w.heap.size + 1) zero8 [] (.slice none 0 0) ((w.alloc (.cells #[.string ⟨#[]⟩, .string ⟨#[]⟩, .int .i64 0, .string ⟨#[]⟩, .int .i64 0, .slice none 0 0] 25)).alloc (.cells #[.string ⟨#[]⟩, .string ⟨#[]⟩, .int .i64 0, .string ⟨#[]⟩, .int .i64 0, .slice none 0 0] 25)) := by
  refine ⟨rfl, rfl, ((Below.refl w.heap.size w).alloc (Nat.le_refl _) _).alloc (by simp) _, ⟨(Has.new w _ _).alloc _⟩, ⟨?_⟩, World.ownsRow_nil _ _ _ _, by simp⟩
  have := Has.new (w.alloc (.cells (hc zero8 (.slice none 0 0)) 25)) 25 (hc zero8 (.slice none 0 0))
  rw [show (w.alloc (.cells (hc zero8 (.slice none 0 0)) 25)).heap.size = w.heap.size + 1 by simp] at this
  exact this
theorem skip_at (S : List UInt8) (a : Nat) (c d : UInt8) (h0 : S[a]? = some c) (h1 : S[a + 1]? = some d) : skip8 (S.drop a) = if c = 13 ∧ d = 10 then skip8 (S.drop (a + 2)) + 2 else 0 := by
  have e1 : S.drop a = c :: S.drop (a + 1) := by
    have hl : a < S.length := (List.getElem?_eq_some_iff.1 h0).1
    rw [List.drop_eq_getElem_cons hl]
    rw [List.getElem?_eq_getElem hl] at h0
    rw [Option.some.inj h0]
  have e2 : S.drop (a + 1) = d :: S.drop (a + 2) := by
    have hl : a + 1 < S.length := (List.getElem?_eq_some_iff.1 h1).1
    rw [List.drop_eq_getElem_cons hl]
    rw [List.getElem?_eq_getElem hl] at h1
    rw [Option.some.inj h1]
  rw [e1, e2, skip8]
theorem skip_short (S : List UInt8) (a : Nat) (h : S.length ≤ a + 1) : skip8 (S.drop a) = 0 := by
  have hl : (S.drop a).length ≤ 1 := by rw [List.length_drop]; omega
  cases hx : S.drop a with
  | nil => rfl
  | cons c t =>
    rw [hx] at hl
    cases t with
    | nil => rfl
    | cons d t => simp at hl
theorem St.putH {w W : World} {g G : Nat} {H : H8} {acc : List HField} {v : Value} (h : St w g G H acc v W) (H' : H8) : St w g G H' [] (.slice none 0 0) (hput W G H' (.slice none 0 0)) :=
  ⟨h.at_, h.next, below_hput h.below (by rw [h.next, h.at_]; exact Nat.le_succ _) _ _, box_hput h.res (by rw [h.next]; omega), h.box.put _ _, World.ownsRow_nil _ _ _ _, by rw [size_hput]; exact h.size⟩
theorem St.putR {w W : World} {g G : Nat} {H : H8} {acc : List HField} {v : Value} (h : St w g G H acc v W) (H' : H8) (l : Value) : HBox (hput W g H' l) g H' l ∧ Below w.heap.size w (hput W g H' l) :=
  ⟨h.res.put _ _, below_hput h.below (by rw [h.at_]; exact Nat.le_refl _) _ _⟩
/-- what End hands on -/
theorem end_at {s : ByteArray} {a most : Nat} {over : Int} (hs : s.size ≤ 140737488351232) (ha : a ≤ s.size) {L : Line} (hL : scan most over 0 ((toL s).drop a) = L) :
    ∀ w, Calls Tryd.prog 24 #[.string s, .int .i64 (a : Int), .int .i64 (most : Int), .int .i64 over] w fun e w' => e = .returned (.tuple #[.int .i64 (endP a L).1, .int .i64 (endP a L).2]) ∧ w' = w := fun w =>
  (r8end_any s hs a most over ha w).mono (fun e w' h => ⟨by rw [h.1, hL], h.2.symm⟩)
theorem whole_le {s : ByteArray} {a most q : Nat} {over : Int} (hL : scan most over 0 ((toL s).drop a) = .whole q) (ha : a ≤ s.size) : a + q + 2 ≤ s.size := by
  obtain ⟨l, t, e, hq, _⟩ := scan_whole _ _ _ _ _ hL
  have := congrArg List.length e
  rw [List.length_drop, toL_length, List.length_append, List.length_cons, List.length_cons] at this
  omega
theorem St.alloc {w W : World} {g G : Nat} {H : H8} {acc : List HField} {v : Value} (h : St w g G H acc v W) (o : Obj) : St w g G H acc v (W.alloc o) := h.call ((Below.refl _ _).alloc (Nat.le_refl _) o)
/-- one more field, the list put back into the head's box -/
theorem St.grow {w W W' : World} {g G : Nat} {H : H8} {acc : List HField} {v v' : Value} {f : HField} (h : St w g G H acc v W) (hg : W.grownBy W' v.ownBlock)
    (hr : W'.ownsRow (G + 1) 37 2 v' (acc.length + 1) (encFs acc ++ encF f)) : St w g G H (acc ++ [f]) v' (W'.setCell ⟨G, 5, none⟩ v') := by
  have hlt : ∀ j, v.ownBlock = some j → G + 1 ≤ j := fun j hj => (h.row.lt j hj).1
  have h1 := h.at_
  have h2 := h.next
  have b1 := h.below.size
  have n1 : some g ≠ v.ownBlock := fun e => by have := hlt g e.symm; omega
  have n2 : some G ≠ v.ownBlock := fun e => by have := hlt G e.symm; omega
  refine ⟨h1, h2, (Below.grown h.below hg b1 (fun j hj => by have := hlt j hj; omega)).setCell (p := ⟨G, 5, none⟩) (by show w.heap.size ≤ G; omega) _, HBox.far ⟨h.res.has.grown hg n1⟩ (p := ⟨G, 5, none⟩) (by show g ≠ G; omega) _, HBox.setF ⟨h.box.has.grown hg n2⟩ v', ?_, ?_⟩
  · rw [List.length_append, encFs_append, List.length_singleton]
    have : encFs [f] = encF f := by simp [encFs]
    rw [this]
    exact ownsRow_setCell_below hr (a := ⟨G, 5, none⟩) (Nat.lt_succ_self G) v'
  · rw [World.size_setCell]
    exact Nat.le_trans h.size hg.size
theorem St.cell5 {w W W' : World} {g G : Nat} {H : H8} {acc : List HField} {v : Value} (h : St w g G H acc v W) (hg : W.grownBy W' v.ownBlock) : W'.cell? ⟨G, 5, none⟩ = some v ∧ W'.frozen? ⟨G, 5, none⟩ = false := by
  have hlt : ∀ j, v.ownBlock = some j → G + 1 ≤ j := fun j hj => (h.row.lt j hj).1
  have n2 : some G ≠ v.ownBlock := fun e => by have := hlt G e.symm; omega
  have b : HBox W' G H v := ⟨h.box.has.grown hg n2⟩
  obtain ⟨_, _, _, _, _, c⟩ := b.cells
  obtain ⟨_, _, _, _, _, f⟩ := b.frees
  exact ⟨c, f⟩
theorem field_err8 (l : List UInt8) : (field8 l).2 = 0 ∨ (field8 l).2 = 70 := by
  unfold field8
  split
  · exact .inl rfl
  · exact .inr rfl
theorem ret_read {W w : World} {R : Res} {h : H8} {v : Value} {n e : Int} {l : List HField} (h1 : hv (resH R) v = hv h v) (h2 : (resN R : Int) = n) (h3 : resE R = e) (h4 : (resH R).fields = l) (hf : RowF W w.heap.size v l) (hb : Below w.heap.size w W) :
    ∃ u, Ending.returned (hrv3 h v n e) = .returned (hrv3 (resH R) u (resN R) (resE R)) ∧ RowF W w.heap.size u (resH R).fields ∧ Below w.heap.size w W :=
  ⟨v, by unfold hrv3; rw [h1, h2, h3], by rw [h4]; exact hf, hb⟩
theorem skip_pos : ∀ l : List UInt8, 0 < skip8 l → ∃ r, l = 13 :: 10 :: r ∧ skip8 l = skip8 r + 2
  | [], h => absurd h (by decide)
  | [c], h => absurd h (by simp [skip8])
  | c :: d :: r, h => by
    have e : skip8 (c :: d :: r) = if c = 13 ∧ d = 10 then skip8 r + 2 else 0 := by rw [skip8]
    rw [e] at h ⊢
    by_cases hc : c = 13 ∧ d = 10
    · obtain ⟨rfl, rfl⟩ := hc
      exact ⟨r, rfl, by rw [if_pos ⟨rfl, rfl⟩]⟩
    · rw [if_neg hc] at h
      exact absurd h (Nat.lt_irrefl 0)
/-- on the way: a line end stands here -/
theorem skip_on {s : ByteArray} {k : Nat} (hk : k ≤ s.size) (h : 0 < skip8 ((toL s).drop k)) : ∃ h1 : k < s.size, ∃ h2 : k + 1 < s.size, s[k] = 13 ∧ s[k + 1] = 10 ∧ skip8 ((toL s).drop k) = skip8 ((toL s).drop (k + 2)) + 2 := by
  obtain ⟨r, hr, he⟩ := skip_pos _ h
  have hl := congrArg List.length hr
  rw [List.length_drop, toL_length, List.length_cons, List.length_cons] at hl
  have h1 : k < s.size := by omega
  have h2 : k + 1 < s.size := by omega
  have e := toL_drop s k h1
  rw [toL_drop s (k + 1) h2, hr] at e
  injection e with e1 e2
  injection e2 with e3 e4
  exact ⟨h1, h2, e1.symm, e3.symm, by rw [he, ← e4]⟩
/-- the three ways out -/
theorem skip_ways (s : ByteArray) : skip8 (toL s) ≤ s.size ∧ (s.size ≤ skip8 (toL s) + 1 ∨ (∃ h : skip8 (toL s) < s.size, ∃ h2 : skip8 (toL s) + 1 < s.size, s[skip8 (toL s)] ≠ 13) ∨ (∃ h : skip8 (toL s) < s.size, ∃ h2 : skip8 (toL s) + 1 < s.size, s[skip8 (toL s)] = 13 ∧ s[skip8 (toL s) + 1] ≠ 10)) := by
  have hle := skip_le (toL s)
  rw [toL_length] at hle
  refine ⟨hle, ?_⟩
  by_cases h1 : s.size ≤ skip8 (toL s) + 1
  · exact .inl h1
  · refine .inr ?_
    obtain ⟨u, _, _, _, h0, _⟩ := skip_split (toL s)
    have k1 : skip8 (toL s) < s.size := by omega
    have k2 : skip8 (toL s) + 1 < s.size := by omega
    by_cases h13 : s[skip8 (toL s)] = 13
    · refine .inr ⟨k1, k2, h13, fun h10 => ?_⟩
      rw [toL_drop s _ k1, toL_drop s _ k2, h13, h10] at h0
      simp [skip8] at h0
    · exact .inl ⟨k1, k2, h13⟩
theorem from_request {s : List UInt8} {k : Nat} (h : skip8 s = k) : read8 false s = from8 false k (s.drop k) := by
  unfold read8 skipOf
  rw [if_neg (by decide), h]
theorem from_response (s : List UInt8) : read8 true s = from8 true 0 s := by
  unfold read8 skipOf
  rw [if_pos rfl, List.drop_zero]
theorem mark_13 (b : UInt8) : (b = 13 → ((b.toNat : Int) == 13) = true) ∧ (b ≠ 13 → ((b.toNat : Int) == 13) = false) ∧ (b = 10 → ((b.toNat : Int) == 10) = true) ∧ (b ≠ 10 → ((b.toNat : Int) == 10) = false) := by
  have := all_bytes (p := fun b => decide ((b = 13 → ((b.toNat : Int) == 13) = true) ∧ (b ≠ 13 → ((b.toNat : Int) == 13) = false) ∧ (b = 10 → ((b.toNat : Int) == 10) = true) ∧ (b ≠ 10 → ((b.toNat : Int) == 10) = false))) (by decide +kernel) b
  exact of_decide_eq_true this
end Go.Proofs.YtclecgopmegjeaaDoor.R8ReadB

/- Layer 8, the document's own Read: a response. -/
namespace Go.Proofs.YtclecgopmegjeaaDoor.R8ReadT
open Go.ChangeShapes Go.WideShapes Go.ChangeAt Go.RowKit LexPure Bytes Ret Rows1 FieldsPure HeadPure Flds HBox KeptRow Mem R8End R8Start R8Status R8Field R8ReadB
set_option maxRecDepth 20000
set_option linter.unusedVariables false
set_option maxHeartbeats 1600000 in
theorem r8read_true (s : ByteArray) (hs : s.size ≤ 140737488351232) (w : World) :
    Calls Tryd.prog 13 #[.string s, .bool true] w fun e w' => ∃ v, e = .returned (hrv3 (resH (read8 true (toL s))) v (resN (read8 true (toL s))) (resE (read8 true (toL s)))) ∧ RowF w' w.heap.size v (resH (read8 true (toL s))).fields ∧ Below w.heap.size w w' := by
  obtain ⟨i0, hi, hz0, hz1, hz2⟩ := info_parts infoF
  have HS := Lib.hid (St.start w)
  obtain ⟨X, hX⟩ : ∃ X, X = read8 true (toL s) := ⟨_, rfl⟩
  rw [← hX]
  rw [from_response] at hX
  replace hX := Lib.hid hX
  go_enter Tryd.func13, Tryd.ntmps13
  go_wp2_with fail
  go_loop [7] (fun i => i = .int .i64 0 ∧ Hid (X = from8 true 0 (toL s))) (fun _ => 0)
  case atStart => exact ⟨rfl, hX⟩
  case round =>
    obtain ⟨rfl, hA⟩ := hrel
    clear hX
    have ha0 : 0 ≤ s.size := Nat.zero_le _
    rw [← List.drop_zero (l := toL s)] at hA
    go_wp2_with fail
    generalize (w.alloc (.cells #[.string ⟨#[]⟩, .string ⟨#[]⟩, .int .i64 0, .string ⟨#[]⟩, .int .i64 0, .slice none 0 0] 25)).alloc (.cells #[.string ⟨#[]⟩, .string ⟨#[]⟩, .int .i64 0, .string ⟨#[]⟩, .int .i64 0, .slice none 0 0] 25) = W at HS ⊢
    obtain ⟨g, hg⟩ : ∃ g, g = w.heap.size := ⟨_, rfl⟩
    obtain ⟨G, hG⟩ : ∃ G, G = w.heap.size + 1 := ⟨_, rfl⟩
    rw [← hG] at HS ⊢
    rw [← hg] at HS ⊢
    have hne : g ≠ G := by omega
    have hne2 : G ≠ g := by omega
    replace hg := Lib.hid hg
    replace hG := Lib.hid hG
    go_loopw [7, 9] (fun at_ n wr => ∃ a : Nat, a ≤ s.size ∧ at_ = .int .i64 a ∧ ((n = .int .i64 (-1) ∧ Hid (St w g G zero8 [] (.slice none 0 0) wr) ∧ Hid (X = from8 true a ((toL s).drop a))) ∨ (∃ (j : Nat) (H : H8) (acc : List HField) (v : Value), j ≤ 32 ∧ n = .int .i64 j ∧ Hid (acc.length = j) ∧ Hid (St w g G H acc v wr) ∧ Hid (X = fields8 H (32 - j) acc a ((toL s).drop a))))) (fun _ n _ => (33 - intOf n).toNat)
    case atStart => exact ⟨0, ha0, rfl, .inl ⟨rfl, HS, hA⟩⟩
    case round =>
      clear HS hA
      obtain ⟨a, ha, rfl, hrel⟩ := hrel
      rcases hrel with ⟨rfl, HW, HA⟩ | ⟨j, H, acc, v, hj, rfl, hl, HW, HA⟩
      · have HF : Hid (X = match scan 1100 82 0 ((toL s).drop a) with
          | .wait => .wait
          | .bad e => .bad e
          | .whole k => if (status8 (((toL s).drop a).take k)).2 = 0 then fields8 (status8 (((toL s).drop a).take k)).1 32 [] (a + k + 2) ((toL s).drop (a + k + 2)) else .bad (status8 (((toL s).drop a).take k)).2) := Lib.hid (by
            rw [HA.out]
            unfold from8
            cases scan 1100 82 0 ((toL s).drop a) with
            | wait => rfl
            | bad e => rfl
            | whole k => simp only [List.drop_drop, if_true, Nat.add_assoc])
        clear HA
        cases hsc : scan 1100 82 0 ((toL s).drop a) with
        | wait =>
          have HC := Lib.hid (end_at hs ha hsc)
          rw [hsc] at HF
          have HV : X = .wait := HF.out
          subst HV
          clear HF hsc
          unfold endP at HC
          dsimp only at HC
          go_wp2_with fail
          refine (HC.out _).mono ?_
          rintro e w' ⟨rfl, rfl⟩
          have HE := Lib.hid (HW.out.putR zero8 (.slice none 0 0)).1
          have HB := Lib.hid (HW.out.putR zero8 (.slice none 0 0)).2
          obtain ⟨d0, d1, d2, d3, d4, d5⟩ := HW.out.res.cells
          obtain ⟨z0, z1, z2, z3, z4, z5⟩ := HW.out.res.frees
          go_wp2_with fail
          refine bodyPost_ret (v := hrv3 zero8 (.slice none 0 0) 0 0) ?_ rfl (ret_read (R := .wait) rfl rfl rfl rfl (row_none _ _) HB.out)
          rw [results_cell_tmp2 rfl]
          exact end_hbox3 rfl rfl rfl HE.out
        | bad er =>
          have HC := Lib.hid (end_at hs ha hsc)
          rw [hsc] at HF
          have HV : X = .bad er := HF.out
          subst HV
          clear HF hsc
          unfold endP at HC
          dsimp only at HC
          go_wp2_with fail
          refine (HC.out _).mono ?_
          rintro e w' ⟨rfl, rfl⟩
          have HE := Lib.hid (HW.out.putR zero8 (.slice none 0 0)).1
          have HB := Lib.hid (HW.out.putR zero8 (.slice none 0 0)).2
          obtain ⟨d0, d1, d2, d3, d4, d5⟩ := HW.out.res.cells
          obtain ⟨z0, z1, z2, z3, z4, z5⟩ := HW.out.res.frees
          go_wp2_with fail
          refine bodyPost_ret (v := hrv3 zero8 (.slice none 0 0) 0 er) ?_ rfl (ret_read (R := .bad er) rfl rfl rfl rfl (row_none _ _) HB.out)
          rw [results_cell_tmp2 rfl]
          exact end_hbox3 rfl rfl rfl HE.out
        | whole q =>
          have HC := end_at hs ha hsc
          have hle := whole_le hsc ha
          rw [hsc] at HF
          obtain ⟨b, hb⟩ : ∃ b, b = a + q := ⟨_, rfl⟩
          have hbs : b + 2 ≤ s.size := by omega
          have hab : a ≤ b := by omega
          have el : toL (s.extract a b) = ((toL s).drop a).take q := by rw [toL_extract, List.drop_take, show b - a = q by omega]
          replace HC : Hid (∀ w, Calls Tryd.prog 24 #[.string s, .int .i64 (a : Int), .int .i64 1100, .int .i64 82] w fun e w' => e = .returned (.tuple #[.int .i64 (b : Int), .int .i64 0]) ∧ w' = w) := Lib.hid (fun w => (HC w).mono (fun e w' h => ⟨by rw [h.1, hb]; rfl, h.2⟩))
          replace HF : Hid (X = if (status8 (toL (s.extract a b))).2 = 0 then fields8 (status8 (toL (s.extract a b))).1 32 [] (b + 2) ((toL s).drop (b + 2)) else .bad (status8 (toL (s.extract a b))).2) := Lib.hid (by rw [HF.out, el, hb])
          have hlz : (s.extract a b).size ≤ 140737488351232 := by rw [ByteArray.size_extract]; omega
          have HP := Lib.hid (fun w => r8start_any (s.extract a b) hlz w)
          have HQ := Lib.hid (fun w => r8status_any (s.extract a b) hlz w)
          clear hsc el hb hle hlz
          generalize start8 (toL (s.extract a b)) = y0 at *
          generalize status8 (toL (s.extract a b)) = y1 at *
          obtain ⟨yh, er⟩ := y1
          unfold hrv hv at HP HQ
          dsimp only at HQ HF
          go_wp2_with fail
          refine (HC.out _).mono ?_
          rintro e w' ⟨rfl, rfl⟩
          clear HC
          go_wp2_with fail
          refine (HP.out _).mono ?_
          rintro e w2 ⟨rfl, hb2⟩
          replace HW := Lib.hid (HW.out.call hb2)
          clear hb2
          obtain ⟨e0, e1, e2, e3, e4, e5⟩ := HW.out.box.cells
          obtain ⟨x0, x1, x2, x3, x4, x5⟩ := HW.out.box.frees
          replace HW := Lib.hid (HW.out.putH y0.1)
          go_wp2_with fail
          refine (HQ.out _).mono ?_
          rintro e w3 ⟨rfl, hb3⟩
          clear e0 e1 e2 e3 e4 e5 x0 x1 x2 x3 x4 x5
          replace HW := Lib.hid (HW.out.call hb3)
          clear hb3
          obtain ⟨e0, e1, e2, e3, e4, e5⟩ := HW.out.box.cells
          obtain ⟨x0, x1, x2, x3, x4, x5⟩ := HW.out.box.frees
          obtain ⟨d0, d1, d2, d3, d4, d5⟩ := HW.out.res.cells
          obtain ⟨z0, z1, z2, z3, z4, z5⟩ := HW.out.res.frees
          replace HW := Lib.hid (HW.out.putH yh)
          by_cases h8 : er = 0
          · rw [if_pos h8] at HF
            rw [h8]
            go_wp2_with fail
            unfold hput at HW
            exact ⟨⟨b + 2, hbs, by go_num, .inr ⟨0, yh, [], .slice none 0 0, by omega, by go_num, Lib.hid rfl, HW, HF⟩⟩, by simp [intOf]⟩
          · rw [if_neg h8] at HF
            have HV : X = .bad er := HF.out
            subst HV
            have h9 : (er != 0) = true := bne_iff_ne.2 h8
            clear HF h8 d0 d1 d2 d3 d4 d5 z0 z1 z2 z3 z4 z5
            obtain ⟨W4, hW4⟩ : ∃ W4, W4 = hput w3 G yh (.slice none 0 0) := ⟨_, rfl⟩
            rw [← hW4] at HW
            unfold hput at hW4
            replace hW4 := Lib.hid hW4
            dsimp only
            iterate 15 go_step
            rw [← hW4.out]
            clear hW4 e0 e1 e2 e3 e4 e5 x0 x1 x2 x3 x4 x5
            have HE := Lib.hid (HW.out.putR zero8 (.slice none 0 0)).1
            have HB := Lib.hid (HW.out.putR zero8 (.slice none 0 0)).2
            obtain ⟨d0, d1, d2, d3, d4, d5⟩ := HW.out.res.cells
            obtain ⟨z0, z1, z2, z3, z4, z5⟩ := HW.out.res.frees
            clear HW
            go_wp2_with fail
            refine bodyPost_ret (v := hrv3 zero8 (.slice none 0 0) 0 er) ?_ rfl (ret_read (R := .bad er) rfl rfl rfl rfl (row_none _ _) HB.out)
            rw [results_cell_tmp2 rfl]
            exact end_hbox3 rfl rfl rfl HE.out

      · have HF : Hid (X = match scan 512 83 0 ((toL s).drop a) with
          | .wait => .wait
          | .bad e => .bad e
          | .whole k => if k = 0 then .done { H with fields := acc } (a + 2) else
            match 32 - j with
            | 0 => .bad 83
            | m + 1 => if (field8 (((toL s).drop a).take k)).2 = 0 then fields8 H m (acc ++ [(field8 (((toL s).drop a).take k)).1]) (a + k + 2) (((toL s).drop a).drop (k + 2)) else .bad 70) := Lib.hid (by
            rw [HA.out]
            conv => lhs; unfold fields8
            rfl)
        clear HA
        have hj0 : ¬ (j : Int) < 0 := by omega
        have hj32 : (j : Int) ≤ 32 := by omega
        cases hsc : scan 512 83 0 ((toL s).drop a) with
        | wait =>
          have HC := Lib.hid (end_at hs ha hsc)
          rw [hsc] at HF
          have HV : X = .wait := HF.out
          subst HV
          clear HF hsc
          unfold endP at HC
          dsimp only at HC
          go_wp2_with fail
          refine (HC.out _).mono ?_
          rintro e w' ⟨rfl, rfl⟩
          have HE := Lib.hid (HW.out.putR zero8 (.slice none 0 0)).1
          have HB := Lib.hid (HW.out.putR zero8 (.slice none 0 0)).2
          obtain ⟨d0, d1, d2, d3, d4, d5⟩ := HW.out.res.cells
          obtain ⟨z0, z1, z2, z3, z4, z5⟩ := HW.out.res.frees
          go_wp2_with fail
          refine bodyPost_ret (v := hrv3 zero8 (.slice none 0 0) 0 0) ?_ rfl (ret_read (R := .wait) rfl rfl rfl rfl (row_none _ _) HB.out)
          rw [results_cell_tmp2 rfl]
          exact end_hbox3 rfl rfl rfl HE.out
        | bad er =>
          have HC := Lib.hid (end_at hs ha hsc)
          rw [hsc] at HF
          have HV : X = .bad er := HF.out
          subst HV
          clear HF hsc
          unfold endP at HC
          dsimp only at HC
          go_wp2_with fail
          refine (HC.out _).mono ?_
          rintro e w' ⟨rfl, rfl⟩
          have HE := Lib.hid (HW.out.putR zero8 (.slice none 0 0)).1
          have HB := Lib.hid (HW.out.putR zero8 (.slice none 0 0)).2
          obtain ⟨d0, d1, d2, d3, d4, d5⟩ := HW.out.res.cells
          obtain ⟨z0, z1, z2, z3, z4, z5⟩ := HW.out.res.frees
          go_wp2_with fail
          refine bodyPost_ret (v := hrv3 zero8 (.slice none 0 0) 0 er) ?_ rfl (ret_read (R := .bad er) rfl rfl rfl rfl (row_none _ _) HB.out)
          rw [results_cell_tmp2 rfl]
          exact end_hbox3 rfl rfl rfl HE.out
        | whole q =>
          have HC := end_at hs ha hsc
          have hle := whole_le hsc ha
          rw [hsc] at HF
          by_cases hq : q = 0
          · have HV : X = .done { H with fields := acc } (a + 2) := by rw [HF.out]; exact if_pos hq
            subst HV
            subst hq
            replace HC : Hid (∀ w, Calls Tryd.prog 24 #[.string s, .int .i64 (a : Int), .int .i64 512, .int .i64 83] w fun e w' => e = .returned (.tuple #[.int .i64 (a : Int), .int .i64 0]) ∧ w' = w) := Lib.hid (fun w => (HC w).mono (fun e w' h => ⟨by rw [h.1]; exact ret_two (show (a : Int) + ((0 : Nat) : Int) = a by omega) rfl, h.2⟩))
            have has : a + 2 ≤ s.size := by omega
            clear HF hsc hle
            go_wp2_with fail
            refine (HC.out _).mono ?_
            rintro e w' ⟨rfl, rfl⟩
            clear HC
            obtain ⟨p, cap, rfl, _, _⟩ := fl_of HW.out.row (by have := hl.out; omega)
            obtain ⟨d0, d1, d2, d3, d4, d5⟩ := HW.out.res.cells
            obtain ⟨z0, z1, z2, z3, z4, z5⟩ := HW.out.res.frees
            obtain ⟨e0, e1, e2, e3, e4, e5⟩ := HW.out.box.cells
            obtain ⟨x0, x1, x2, x3, x4, x5⟩ := HW.out.box.frees
            have HE := Lib.hid (HW.out.putR H (.slice p acc.length cap)).1
            have HB := Lib.hid (HW.out.putR H (.slice p acc.length cap)).2
            have HL : Hid (RowF (hput w' g H (.slice p acc.length cap)) w.heap.size (.slice p acc.length cap) acc) := Lib.hid ⟨row_mono (row_hput HW.out.row (g := g) (by rw [HW.out.next]; omega) H (.slice p acc.length cap)) (by have := HW.out.at_; have := HW.out.next; omega), by have := hl.out; omega⟩
            clear HW
            go_wp2_with fail
            refine bodyPost_ret (v := hrv3 H (.slice p acc.length cap) ((a : Int) + 2) 0) ?_ rfl (ret_read (R := .done { H with fields := acc } (a + 2)) rfl (show ((a + 2 : Nat) : Int) = (a : Int) + 2 by omega) rfl rfl HL.out HB.out)
            rw [results_cell_tmp2 rfl]
            exact end_hbox3 rfl rfl rfl HE.out
          · obtain ⟨b, hb⟩ : ∃ b, b = a + q := ⟨_, rfl⟩
            have hbs : b + 2 ≤ s.size := by omega
            have hab : a ≤ b := by omega
            have hlt : a < b := by omega
            have el : toL (s.extract a b) = ((toL s).drop a).take q := by rw [toL_extract, List.drop_take, show b - a = q by omega]
            have hlz : (s.extract a b).size ≤ 140737488351232 := by rw [ByteArray.size_extract]; omega
            have hls : (toL (s.extract a b)).length = b - a := by rw [toL_length, ByteArray.size_extract]; omega
            have n1 : ¬ ((s.extract a b).toList = []) := by
              rw [ByteArray.toList_eq]
              intro h
              have := congrArg List.length h
              rw [show (s.extract a b).data.toList.length = b - a from hls] at this
              rw [List.length_nil] at this
              omega
            have n2 : (s.extract a b).toList.isEmpty = false := by
              cases hx : (s.extract a b).toList with
              | nil => exact absurd hx n1
              | cons => rfl
            replace HC : Hid (∀ w, Calls Tryd.prog 24 #[.string s, .int .i64 (a : Int), .int .i64 512, .int .i64 83] w fun e w' => e = .returned (.tuple #[.int .i64 (b : Int), .int .i64 0]) ∧ w' = w) := Lib.hid (fun w => (HC w).mono (fun e w' h => ⟨by rw [h.1, hb]; rfl, h.2⟩))
            replace hb := Lib.hid hb
            by_cases h32 : j = 32
            · have HV : X = .bad 83 := by rw [HF.out]; subst h32; exact if_neg hq
              subst HV
              have hjj : ((j : Int) == 32) = true := by rw [beq_iff_eq]; omega
              clear HF hsc hle el hls hq h32 hlt
              go_wp2_with fail
              refine (HC.out _).mono ?_
              rintro e w' ⟨rfl, rfl⟩
              clear HC
              have HE := Lib.hid (HW.out.putR zero8 (.slice none 0 0)).1
              have HB := Lib.hid (HW.out.putR zero8 (.slice none 0 0)).2
              obtain ⟨d0, d1, d2, d3, d4, d5⟩ := HW.out.res.cells
              obtain ⟨z0, z1, z2, z3, z4, z5⟩ := HW.out.res.frees
              clear HW
              go_wp2_with fail
              refine bodyPost_ret (v := hrv3 zero8 (.slice none 0 0) 0 83) ?_ rfl (ret_read (R := .bad 83) rfl rfl rfl rfl (row_none _ _) HB.out)
              rw [results_cell_tmp2 rfl]
              exact end_hbox3 rfl rfl rfl HE.out
            · have hjj : ((j : Int) == 32) = false := beq_eq_false_iff_ne.2 (by omega)
              obtain ⟨mm, hmm⟩ : ∃ mm, 32 - j = mm + 1 := ⟨31 - j, by omega⟩
              have HF2 : X = if (field8 (toL (s.extract a b))).2 = 0 then fields8 H mm (acc ++ [(field8 (toL (s.extract a b))).1]) (b + 2) ((toL s).drop (b + 2)) else .bad 70 := by
                rw [HF.out, hmm]
                dsimp only
                rw [if_neg hq, el, hb.out, List.drop_drop, Nat.add_assoc a q 2]
              have HP := Lib.hid (fun w => r8field_any (s.extract a b) hlz w)
              have hfe := field_err8 (toL (s.extract a b))
              generalize field8 (toL (s.extract a b)) = y at *
              obtain ⟨⟨f1, f2⟩, er⟩ := y
              unfold frv fv at HP
              dsimp only at HP HF2 hfe
              replace hmm := Lib.hid hmm
              clear HF hsc hle el hls hq hlz h32
              go_wp2_with fail
              refine (HC.out _).mono ?_
              rintro e w' ⟨rfl, rfl⟩
              clear HC
              go_wp2_with fail
              refine (HP.out _).mono ?_
              rintro e w3 ⟨rfl, hb3⟩
              clear HP
              replace HW := Lib.hid ((HW.out.call hb3).alloc (.cells #[.string (ofL f1), .string (ofL f2)] 37))
              clear hb3
              by_cases h9 : er = 0
              · rw [if_pos h9] at HF2
                subst h9
                clear hfe
                obtain ⟨p, cap, rfl, _, _⟩ := fl_of HW.out.row (by have := hl.out; omega)
                have hbx : Has (w3.alloc (.cells #[.string (ofL f1), .string (ofL f2)] 37)) w3.heap.size 37 #[.string (ofL f1), .string (ofL f2)] := Has.new w3 _ _
                dsimp only
                iterate 15 go_step
                generalize w3.alloc (.cells #[.string (ofL f1), .string (ofL f2)] 37) = W4 at HW hbx ⊢
                generalize w3.heap.size = gf at hbx ⊢
                have i0' := hbx.cell 0
                have i1' := hbx.cell 1
                obtain ⟨e0, e1, e2, e3, e4, e5⟩ := HW.out.box.cells
                obtain ⟨x0, x1, x2, x3, x4, x5⟩ := HW.out.box.frees
                have HWa := Lib.hid (HW.out.alloc (.cells #[.string (ofL f1), .string (ofL f2)] 37))
                have hrow := HWa.out.row
                have hnew := Lib.hid (World.news_of_block (heap_alloc_new W4 (.cells #[.string (ofL f1), .string (ofL f2)] 37)))
                have hsz : G + 1 ≤ (W4.alloc (.cells #[.string (ofL f1), .string (ofL f2)] 37)).heap.size := HWa.out.size
                clear hbx
                go_wp2_with (at_builtin; refine wpList_append_own_at _ rfl (.tmp 99) (.tmp 101) 23 rfl (G + 1) 37 i0 _ 2 32 Tryd.underlying23 hi hz0 hz1 hz2 rfl (by omega) _ _ _ rfl hrow ⟨W4.heap.size, 0, none⟩ 1 1 (encF (f1, f2)) rfl rfl hnew.out (by simp [encF, Value.oneCell']) (by simp only [maxLen]; have := hl.out; omega) (by have := hl.out; omega) hsz ?_; intro v4 w4 hown4 hg4 _ hat4; have HW4 := Lib.hid (HWa.out.grow (f := (f1, f2)) hg4 hown4); obtain ⟨u5, f5⟩ := HWa.out.cell5 hg4; clear hat4 hg4 hown4 hrow; obtain ⟨p4, cap4, rfl, _, _⟩ := fl_of HW4.out.row (by rw [List.length_append, List.length_singleton]; have := hl.out; omega))
                go_wp2_with fail
                have HW5 := HW4.out
                rw [List.length_append, List.length_singleton] at HW5
                exact ⟨⟨b + 2, hbs, by go_num, .inr ⟨j + 1, H, acc ++ [(f1, f2)], .slice p4 (acc.length + 1) cap4, by have := hmm.out; omega, by go_num, Lib.hid (by rw [List.length_append, List.length_singleton]; have := hl.out; omega), Lib.hid HW5, Lib.hid (by rw [HF2, show 32 - (j + 1) = mm by have := hmm.out; omega])⟩⟩, by simp [intOf]; omega⟩
              · rw [if_neg h9] at HF2
                have h70 : er = 70 := hfe.resolve_left h9
                subst h70
                subst HF2
                clear h9 hfe
                dsimp only
                iterate 15 go_step
                generalize w3.alloc (.cells #[.string (ofL f1), .string (ofL f2)] 37) = W4 at HW ⊢
                have HE := Lib.hid (HW.out.putR zero8 (.slice none 0 0)).1
                have HB := Lib.hid (HW.out.putR zero8 (.slice none 0 0)).2
                obtain ⟨d0, d1, d2, d3, d4, d5⟩ := HW.out.res.cells
                obtain ⟨z0, z1, z2, z3, z4, z5⟩ := HW.out.res.frees
                clear HW
                go_wp2_with fail
                refine bodyPost_ret (v := hrv3 zero8 (.slice none 0 0) 0 70) ?_ rfl (ret_read (R := .bad 70) rfl rfl rfl rfl (row_none _ _) HB.out)
                rw [results_cell_tmp2 rfl]
                exact end_hbox3 rfl rfl rfl HE.out
end Go.Proofs.YtclecgopmegjeaaDoor.R8ReadT
