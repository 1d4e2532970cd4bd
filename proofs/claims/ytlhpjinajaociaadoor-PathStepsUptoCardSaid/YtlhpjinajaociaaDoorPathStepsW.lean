/- A step into a piece and out again, and a step that stays, change nothing but that a slash stands at the end: PathSteps returns true, for what comes in of bulk at most 1048576. -/
import Derived.Test.YtlhpjinajaociaaDoorPathAnchor
import Derived.Test.YtlhpjinajaociaaDoorPathMore
import Derived.Test.YtlhpjinajaociaaDoorPathLen
import Derived.Laws.DeepStrings4
namespace Go.Proofs.YtlhpjinajaociaaDoor.PathStepsW
open Go.ChangeShapes Go.WideShapes Go.ChangeAt Go.RowKit LexPure Bytes PathPure PathForm PathMore PathLen REscapes RNormal PathObj PUnder PathAnchor Mem
set_option linter.unusedVariables false
theorem letter_true {c : UInt8} (h : small26 c = true) : ¬ (c.toNat : Int) < 97 ∧ ¬ 122 < (c.toNat : Int) := by
  unfold small26 at h
  simp only [Bool.and_eq_true, decide_eq_true_eq] at h
  omega
theorem letter_false {c : UInt8} (h : small26 c = false) : (c.toNat : Int) < 97 ∨ (¬ (c.toNat : Int) < 97 ∧ 122 < (c.toNat : Int)) := by
  unfold small26 at h
  simp only [Bool.and_eq_false_iff, decide_eq_false_iff_not] at h
  omega
theorem slash_ne' {c : UInt8} : ((c.toNat : Int) != 47) = !(c == 47) := by
  have := all_bytes (p := fun b => (((b.toNat : Int) != 47) == !(b == 47))) (by decide +kernel) c
  rwa [beq_iff_eq] at this
/-- what the three calls answer -/
structure Facts (P W : List UInt8) (p piece want : ByteArray) : Prop where
  a : ∀ w, MaxInt w → Calls Tryd.prog 10 #[.string (((p ++ ⟨#[47, 120]⟩) ++ piece) ++ ⟨#[47, 46, 46]⟩)] w fun e w' => e = .returned (.tuple #[.string want, .int .i64 0]) ∧ Below w.heap.size w w'
  b : ∀ w, MaxInt w → Calls Tryd.prog 10 #[.string (p ++ ⟨#[47, 46]⟩)] w fun e w' => e = .returned (.tuple #[.string want, .int .i64 0]) ∧ Below w.heap.size w w'
  c : ∀ w, MaxInt w → Calls Tryd.prog 10 #[.string ((p ++ ⟨#[47, 47, 37, 50, 101, 47, 120]⟩) ++ piece)] w fun e w' => e = .returned (.tuple #[.string ((want ++ ⟨#[120]⟩) ++ piece), .int .i64 0]) ∧ Below w.heap.size w w'
theorem facts {kept : List (List UInt8)} {tr : Bool} (hf : kept = [] → tr = true) (hc : ∀ p ∈ kept, CleanP p) {piece : ByteArray} (hw : (toL piece).all small26 = true) (hz : piece.size ≤ 1048576) (hl : (form kept tr).length ≤ 1048576) :
    Facts (form kept tr) (toL piece) (ofL (form kept tr)) piece (ofL (form kept true)) := by
  have sp : (ofL (form kept tr)).size ≤ 1048576 := by rw [ofL_size]; exact hl
  have ha := norm_some (step_out hf hc hw)
  have hb := norm_some (step_stay hf hc)
  have hd := norm_some (step_in hf hc hw)
  refine ⟨fun w hm => ?_, fun w hm => ?_, fun w hm => ?_⟩
  · have h := normal_any (((ofL (form kept tr) ++ ⟨#[47, 120]⟩) ++ piece) ++ ⟨#[47, 46, 46]⟩) (by
      have k1 : (⟨#[47, 120]⟩ : ByteArray).size = 2 := rfl
      have k2 : (⟨#[47, 46, 46]⟩ : ByteArray).size = 3 := rfl
      rw [ByteArray.size_append, ByteArray.size_append, ByteArray.size_append]
      omega) w hm
    have e : toL (((ofL (form kept tr) ++ ⟨#[47, 120]⟩) ++ piece) ++ ⟨#[47, 46, 46]⟩) = form kept tr ++ 47 :: ((120 :: toL piece) ++ [47, 46, 46]) := by
      rw [toL_append, toL_append, toL_append, toL_ofL]
      show ((form kept tr ++ [47, 120]) ++ toL piece) ++ [47, 46, 46] = _
      simp
    rw [e, ha.1, ha.2] at h
    exact h
  · have h := normal_any (ofL (form kept tr) ++ ⟨#[47, 46]⟩) (by
      have k1 : (⟨#[47, 46]⟩ : ByteArray).size = 2 := rfl
      rw [ByteArray.size_append]
      omega) w hm
    have e : toL (ofL (form kept tr) ++ ⟨#[47, 46]⟩) = form kept tr ++ [47, 46] := by
      rw [toL_append, toL_ofL]
    rw [e, hb.1, hb.2] at h
    exact h
  · have h := normal_any ((ofL (form kept tr) ++ ⟨#[47, 47, 37, 50, 101, 47, 120]⟩) ++ piece) (by
      have k1 : (⟨#[47, 47, 37, 50, 101, 47, 120]⟩ : ByteArray).size = 7 := rfl
      rw [ByteArray.size_append, ByteArray.size_append]
      omega) w hm
    have e : toL ((ofL (form kept tr) ++ ⟨#[47, 47, 37, 50, 101, 47, 120]⟩) ++ piece) = form kept tr ++ ([47, 47, 37, 50, 101, 47, 120] ++ toL piece) := by
      rw [toL_append, toL_append, toL_ofL]
      show (form kept tr ++ [47, 47, 37, 50, 101, 47, 120]) ++ toL piece = _
      simp
    have e2 : ofL (form kept true ++ 120 :: toL piece) = (ofL (form kept true) ++ ⟨#[120]⟩) ++ piece := by
      refine toL_inj ?_
      rw [toL_ofL, toL_append, toL_append, toL_ofL]
      show _ = (form kept true ++ [120]) ++ toL piece
      simp
    rw [e, hd.1, hd.2, e2] at h
    exact h
set_option maxHeartbeats 4000000 in
theorem walk (s : ByteArray) (w0 : s.size ≤ maxLen) (z0 : s.size ≤ 1048576) (piece : ByteArray) (w1 : piece.size ≤ maxLen) (z1 : piece.size ≤ 1048576) (w : World) (hsh : w.ShapedOpen Tryd.prog) :
    Calls Tryd.prog 8 #[.string s, .string piece] w fun e w' => e = .returned (.bool true) ∧ Below w.heap.size w w' := by
  have HM := Lib.hid (MaxInt.of_shape hsh)
  clear hsh
  have U0 := Lib.hid (fun w hm => normal_any s (by omega) w hm)
  cases hn : normal (toL s) with
  | none =>
    rw [(norm_none hn).1, (norm_none hn).2] at U0
    clear w0 z0 hn w1 z1
    go_enter Tryd.func8, Tryd.ntmps8
    go_wp2_with fail
    refine (anchor_any _ HM.out).mono ?_
    rintro e w1 ⟨rfl, hb1⟩
    go_wp2_with fail
    refine (U0.out _ (HM.out.below hb1)).mono ?_
    rintro e w2 ⟨rfl, hb2⟩
    replace hb1 := below_chain hb1 hb2
    clear hb2
    go_wp2_with fail
    go_ret
    exact ⟨rfl, hb1⟩
  | some P =>
    rw [(norm_some hn).1, (norm_some hn).2] at U0
    have hlen : P.length ≤ 1048576 := by
      have := normal_len (fun u hu => ⟨escapes_pos hu, escapes_len hu⟩) hn
      rw [toL_length] at this
      omega
    obtain ⟨kept, tr, rfl, hf, hc⟩ := normal_form hn
    have HFA := Lib.hid (fun hw => facts hf hc (piece := piece) hw z1 hlen)
    obtain ⟨p, hp⟩ : ∃ p, p = ofL (form kept tr) := ⟨_, rfl⟩
    obtain ⟨q, hq⟩ : ∃ q, q = ofL (form kept true) := ⟨_, rfl⟩
    rw [← hp] at U0 HFA
    rw [← hq] at HFA
    have hps : toL p = form kept tr := by rw [hp, toL_ofL]
    have hpl : p.size ≤ 1048576 := by rw [hp, ofL_size]; exact hlen
    have hp1 : 1 ≤ p.size := by
      obtain ⟨t, ht⟩ := form_head kept tr hf
      rw [← toL_length, hps, ht]
      simp
    obtain ⟨j, hj⟩ : ∃ j, p.size = j + 1 := ⟨p.size - 1, by omega⟩
    have hlast : (((p[j]'(by omega)).toNat : Int) != 47) = !tr := by
      rw [slash_ne']
      have h := form_last kept tr hf hc
      rw [← hps, List.getLast?_eq_getElem?, toL_length, show p.size - 1 = j by omega, toL_get p j (by omega)] at h
      exact congrArg (fun b => !b) h
    have hpq : tr = true → p = q := fun h => by rw [hp, hq, h]
    have hpq2 : tr = false → p ++ ⟨#[47]⟩ = q := fun h => by
      refine toL_inj ?_
      rw [toL_append, hps, hq, toL_ofL, h]
      rfl
    clear w0 z0 hn w1 hf hc hlen hps hp hq
    cases tr with
    | true =>
      obtain rfl := hpq rfl
      clear hpq hpq2
      go_enter Tryd.func8, Tryd.ntmps8
      go_wp2_with fail
      refine (anchor_any _ HM.out).mono ?_
      rintro e w1 ⟨rfl, hb1⟩
      go_wp2_with fail
      refine (U0.out _ (HM.out.below hb1)).mono ?_
      rintro e w2 ⟨rfl, hb2⟩
      replace hb1 := below_chain hb1 hb2
      clear hb2
      go_wp2_with fail
      go_loopw [28] (fun i wr => ∃ k : Nat, k ≤ piece.size ∧ i = .int .i64 k ∧ Hid (((toL piece).take k).all small26 = true) ∧ Hid (Below w.heap.size w wr)) (fun i _ => piece.size - (intOf i).toNat)
      case atStart => exact ⟨0, Nat.zero_le _, rfl, Lib.hid rfl, Lib.hid hb1⟩
      case round =>
        obtain ⟨k, hk, rfl, ha, hbw⟩ := hrel
        replace hb1 := hbw.out
        clear hbw
        by_cases hlt : k < piece.size
        · have hki : (k : Int) < (piece.size : Int) := by omega
          by_cases hsm : small26 piece[k] = true
          · have HA : Hid (((toL piece).take (k + 1)).all small26 = true) := Lib.hid (by
              rw [toL_take_succ piece k hlt, List.all_append, ha.out]
              simp [hsm])
            obtain ⟨l1, l2⟩ := letter_true hsm
            have HB := Lib.hid hb1
            clear hsm ha HFA
            go_wp2_with fail
            go_roundw
            case rel => exact ⟨k + 1, by omega, by go_num, HA, HB⟩
            case measure => simp [intOf]; omega
          · have hl := letter_false (c := piece[k]) (by simpa using hsm)
            clear hsm ha HFA
            rcases hl with l1 | ⟨l1, l2⟩
            all_goals
              go_wp2_with fail
              go_ret
              exact ⟨rfl, hb1⟩
        · have hall : (toL piece).all small26 = true := by
            have := ha.out
            rwa [toL_take_all piece (by omega)] at this
          have HX := Lib.hid (HFA.out hall)
          clear ha hall HFA
          have t1 : (p.toList == p.toList) = true := beq_self_eq_true _
          have t2 : (((p ++ ⟨#[120]⟩) ++ piece).toList == ((p ++ ⟨#[120]⟩) ++ piece).toList) = true := beq_self_eq_true _
          go_wp2_with fail
          refine (HX.out.a _ (HM.out.below hb1)).mono ?_
          rintro e w3 ⟨rfl, hb3⟩
          replace hb1 := below_chain hb1 hb3
          clear hb3
          go_wp2_with fail
          refine (HX.out.b _ (HM.out.below hb1)).mono ?_
          rintro e w4 ⟨rfl, hb4⟩
          replace hb1 := below_chain hb1 hb4
          clear hb4
          go_wp2_with fail
          refine (HX.out.c _ (HM.out.below hb1)).mono ?_
          rintro e w5 ⟨rfl, hb5⟩
          replace hb1 := below_chain hb1 hb5
          clear hb5
          go_wp2_with fail
          go_ret
          exact ⟨rfl, hb1⟩
    | false =>
      have hqe := hpq2 rfl
      subst hqe
      clear hpq hpq2
      have hsum : p.size + (⟨#[47]⟩ : ByteArray).size ≤ 9223372036854775807 := by
        have : (⟨#[47]⟩ : ByteArray).size = 1 := rfl
        omega
      go_enter Tryd.func8, Tryd.ntmps8
      go_wp2_with fail
      refine (anchor_any _ HM.out).mono ?_
      rintro e w1 ⟨rfl, hb1⟩
      go_wp2_with fail
      refine (U0.out _ (HM.out.below hb1)).mono ?_
      rintro e w2 ⟨rfl, hb2⟩
      replace hb1 := below_chain hb1 hb2
      clear hb2
      go_wp2_with fail
      go_loopw [28] (fun i wr => ∃ k : Nat, k ≤ piece.size ∧ i = .int .i64 k ∧ Hid (((toL piece).take k).all small26 = true) ∧ Hid (Below w.heap.size w wr)) (fun i _ => piece.size - (intOf i).toNat)
      case atStart => exact ⟨0, Nat.zero_le _, rfl, Lib.hid rfl, Lib.hid hb1⟩
      case round =>
        obtain ⟨k, hk, rfl, ha, hbw⟩ := hrel
        replace hb1 := hbw.out
        clear hbw
        by_cases hlt : k < piece.size
        · have hki : (k : Int) < (piece.size : Int) := by omega
          by_cases hsm : small26 piece[k] = true
          · have HA : Hid (((toL piece).take (k + 1)).all small26 = true) := Lib.hid (by
              rw [toL_take_succ piece k hlt, List.all_append, ha.out]
              simp [hsm])
            obtain ⟨l1, l2⟩ := letter_true hsm
            have HB := Lib.hid hb1
            clear hsm ha HFA
            go_wp2_with fail
            go_roundw
            case rel => exact ⟨k + 1, by omega, by go_num, HA, HB⟩
            case measure => simp [intOf]; omega
          · have hl := letter_false (c := piece[k]) (by simpa using hsm)
            clear hsm ha HFA
            rcases hl with l1 | ⟨l1, l2⟩
            all_goals
              go_wp2_with fail
              go_ret
              exact ⟨rfl, hb1⟩
        · have hall : (toL piece).all small26 = true := by
            have := ha.out
            rwa [toL_take_all piece (by omega)] at this
          have HX := Lib.hid (HFA.out hall)
          clear ha hall HFA
          have t1 : ((p ++ ⟨#[47]⟩).toList == (p ++ ⟨#[47]⟩).toList) = true := beq_self_eq_true _
          have t2 : ((((p ++ ⟨#[47]⟩) ++ ⟨#[120]⟩) ++ piece).toList == (((p ++ ⟨#[47]⟩) ++ ⟨#[120]⟩) ++ piece).toList) = true := beq_self_eq_true _
          go_wp2_with fail
          refine (HX.out.a _ (HM.out.below hb1)).mono ?_
          rintro e w3 ⟨rfl, hb3⟩
          replace hb1 := below_chain hb1 hb3
          clear hb3
          go_wp2_with fail
          refine (HX.out.b _ (HM.out.below hb1)).mono ?_
          rintro e w4 ⟨rfl, hb4⟩
          replace hb1 := below_chain hb1 hb4
          clear hb4
          go_wp2_with fail
          refine (HX.out.c _ (HM.out.below hb1)).mono ?_
          rintro e w5 ⟨rfl, hb5⟩
          replace hb1 := below_chain hb1 hb5
          clear hb5
          go_wp2_with fail
          go_ret
          exact ⟨rfl, hb1⟩
end Go.Proofs.YtlhpjinajaociaaDoor.PathStepsW
