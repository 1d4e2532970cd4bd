/- Texts of this seat, one behind another: PFrEnc, PDigit, PCount, PDecimal, CutAt, CutLays, PCutLib, PFrLens, PFrSized, PFrReq. -/
import Derived.Lib.Hide
import Derived.Outline
import Derived.LoopTactic
import Derived.Handy
import Derived.Lib.IndexMore
import Derived.Shelf.Strings.Search2
import Derived.Shelf.Strings.Cut
import Derived.Test.YtgkdepoimnmhfaaDoorProg
import Derived.Lib.IndexBytes
import Derived.Below
import Derived.RegionTactic
import Derived.ChangeAlike
import Derived.BigRegion
import Derived.Deep.RegionHeld3
import Derived.Test.YtgkdepoimnmhfaaDoorA2
import Derived.Test.YtgkdepoimnmhfaaDoorA1
/- Layer 9 of the program: encoded. -/
namespace Go.Proofs.YtgkdepoimnmhfaaDoor.PFrEnc
open Go.ChangeShapes Go.WideShapes Go.ChangeAt Go.RowKit LexPure Bytes Ret Rows1 Texts FieldsPure HeadPure FramePure FrNames Flds R7Elements R7Has PAlike PLib PElems7 PFrCh PFrHas HBox FrBox Held Mem
set_option maxRecDepth 20000
/-- where there is a coding -/
def enc9 (minor : Int) (G : List HField) (other : Int) : Int × Int × Int :=
  if minor = 0 ∨ 0 < getN G CLEN then (0, 0, 90) else if codeN (elems G TENC) = 1 then (3, 0, 0) else (0, 0, other)
set_option maxHeartbeats 1600000 in
theorem penc_any (h : H8) (v : Value) (other : Int) (hG : Few h.fields) (hle : h.fields.length ≤ 1048576) (w : World) (hF : FL w v h.fields) (hm : MaxInt w) :
    Calls Tryd.prog 22 #[hv h v, .int .i64 other] w fun e w' => e = .returned (frv9 (enc9 h.minor h.fields other)) ∧ Below w.heap.size w w' := by
  have L0 : LB w ((w.alloc (.cells (hc h v) 24)).alloc (.cells (rc (0, 0)) 27)) w.heap.size h v := (LB.new (Below.refl _ _) hF).alloc _
  have R0 : RB w ((w.alloc (.cells (hc h v) 24)).alloc (.cells (rc (0, 0)) 27)) (w.heap.size + 1) (0, 0) := by
    have := RB.new (w := w) (W := w.alloc (.cells (hc h v) 24)) (x := (0, 0)) ((Below.refl w.heap.size w).alloc (Nat.le_refl _) _)
    rwa [World.size_alloc] at this
  have HM := Lib.hid (hm.below L0.below)
  have HC := Lib.hid (fun w hF => pfrhas_any h v ⟨#[67, 111, 110, 116, 101, 110, 116, 45, 76, 101, 110, 103, 116, 104]⟩ hG w hF)
  rw [show toL ⟨#[67, 111, 110, 116, 101, 110, 116, 45, 76, 101, 110, 103, 116, 104]⟩ = aCLEN from rfl, getN_same low_l] at HC
  have HR := Lib.hid (fun w hm hF => pelems_any v h.fields ⟨#[84, 114, 97, 110, 115, 102, 101, 114, 45, 69, 110, 99, 111, 100, 105, 110, 103]⟩ hG hle w hm hF)
  have hS := Lib.hid (elems_short h.fields TENC hG)
  rw [show toL ⟨#[84, 114, 97, 110, 115, 102, 101, 114, 45, 69, 110, 99, 111, 100, 105, 110, 103]⟩ = aTENC from rfl, elems_same low_t] at HR
  obtain ⟨X, hX⟩ : ∃ X, X = enc9 h.minor h.fields other := ⟨_, rfl⟩
  rw [← hX]
  unfold enc9 at hX
  generalize elems h.fields TENC = E at *
  generalize getN h.fields CLEN = n at *
  clear hm hF
  by_cases m0 : h.minor = 0
  · replace hX := Lib.hid (show X = (0, 0, 90) by rw [hX, if_pos (.inl m0)])
    have RE := Lib.hid R0.box
    have RBw := Lib.hid R0.below
    unfold hc rc at RE RBw
    clear L0 R0 HM HC HR hS
    unfold hv
    go_enter Tryd.func22, Tryd.ntmps22
    go_wp2_with fail
    rw [m0] at RE RBw
    refine bodyPost_ret (v := frv9 X) ?_ rfl ⟨rfl, RBw.out⟩
    rw [results_cell_tmp rfl]
    exact end_rbox hX.out rfl rfl RE.out
  have m1 : (h.minor == 0) = false := beq_eq_false_iff_ne.2 m0
  unfold hc rc at L0 R0 HM
  obtain ⟨d0, d1, d2, d3, d4, d5⟩ := L0.box.cells
  have HC1 := Lib.hid (HC.out _ L0.list)
  replace L0 := Lib.hid L0
  replace R0 := Lib.hid R0
  unfold hv at HC1 ⊢
  clear HC
  go_enter Tryd.func22, Tryd.ntmps22
  go_wp2_with fail
  generalize (w.alloc (.cells #[.string (ofL h.method), .string (ofL h.target), .int .i64 h.status, .string (ofL h.reason), .int .i64 h.minor, v] 24)).alloc (.cells #[.int .i64 0, .int .i64 0] 27) = W at *
  refine HC1.out.mono ?_
  rintro e w2 ⟨rfl, hb2⟩
  replace HM := Lib.hid (HM.out.below hb2)
  replace L0 := Lib.hid (L0.out.call hb2)
  replace R0 := Lib.hid (R0.out.call hb2)
  clear HC1 hb2 d0 d1 d2 d3 d4 d5
  obtain ⟨d0, d1, d2, d3, d4, d5⟩ := L0.out.box.cells
  obtain ⟨c0, c1⟩ := R0.out.box.cells
  obtain ⟨z0, z1⟩ := R0.out.box.frees
  by_cases q1 : 0 < n
  · replace hX := Lib.hid (show X = (0, 0, 90) by rw [hX, if_pos (.inr q1)])
    have q2 : decide (0 < n) = true := decide_eq_true q1
    have RE := Lib.hid (R0.out.put (0, 0))
    rw [q2]
    clear q1 q2 HR hS HM
    go_wp2_with fail
    refine bodyPost_ret (v := frv9 X) ?_ rfl ⟨rfl, RE.out.below⟩
    rw [results_cell_tmp rfl]
    exact end_rbox hX.out rfl rfl RE.out.box
  replace hX := Lib.hid (show X = if codeN E = 1 then (3, 0, 0) else (0, 0, other) by rw [hX, if_neg (by rintro (h | h); exact m0 h; exact q1 h)])
  have q2 : decide (0 < n) = false := decide_eq_false q1
  rw [q2]
  clear q1 q2 m0
  have HR1 := Lib.hid (HR.out _ HM.out L0.out.list)
  clear HR HM
  go_wp2_with fail
  refine HR1.out.mono ?_
  rintro e w3 ⟨v2, rfl, hrow, hb3⟩
  obtain ⟨p, cap, rfl, hle2, hc⟩ := texts_of hrow
  replace hc := Lib.hid hc
  replace L0 := Lib.hid (L0.out.call hb3)
  replace R0 := Lib.hid (R0.out.call hb3)
  clear hrow hb3 HR1 d0 d1 d2 d3 d4 d5 c0 c1 z0 z1
  obtain ⟨c0, c1⟩ := R0.out.box.cells
  obtain ⟨z0, z1⟩ := R0.out.box.frees
  by_cases h1 : E.length = 1
  · obtain ⟨x, rfl⟩ := List.length_eq_one_iff.1 h1
    obtain ⟨g, o, rfl, hgl, hcell⟩ := hc.out (by rw [h1]; exact Nat.zero_lt_one)
    have cx : w3.cell? ⟨g, o, none⟩ = some (.string (ofL x)) := hcell 0 (by rw [h1]; exact Nat.zero_lt_one)
    have hs1 : x.length ≤ 1048576 := hS.out 0 (by rw [h1]; exact Nat.zero_lt_one)
    have HL := Lib.hid (fun w => pchunk_any (ofL x) (by rw [ofL_size]; unfold maxLen; omega) w)
    rw [toL_ofL] at HL
    have hX2 : Hid (X = if (lower x == CHUNKED) = true then (3, 0, 0) else (0, 0, other)) := Lib.hid (by
      rw [hX.out]
      by_cases hx : lower x = CHUNKED
      · rw [if_pos ((code_one [x]).2 ⟨x, rfl, hx⟩), if_pos (show (lower x == CHUNKED) = true by rw [hx]; exact beq_self_eq_true _)]
      · rw [if_neg (show ¬ (lower x == CHUNKED) = true by rw [beq_iff_eq]; exact hx), if_neg]
        intro hc
        obtain ⟨y, hy, hz⟩ := (code_one _).1 hc
        cases hy
        exact hx hz)
    rw [h1]
    generalize (lower x == CHUNKED) = b at *
    clear hX hcell hs1 hS hc hle2 h1
    go_wp2_with fail
    refine (HL.out _).mono ?_
    rintro e w4 ⟨rfl, hb4⟩
    replace R0 := Lib.hid (R0.out.call hb4)
    clear hb4 HL cx c0 c1 z0 z1 L0
    obtain ⟨c0, c1⟩ := R0.out.box.cells
    obtain ⟨z0, z1⟩ := R0.out.box.frees
    cases b
    · have hV : Hid (X = (0, 0, other)) := Lib.hid hX2.out
      have RE := Lib.hid (R0.out.put (0, 0))
      clear hX2 R0
      go_wp2_with fail
      refine bodyPost_ret (v := frv9 X) ?_ rfl ⟨rfl, RE.out.below⟩
      rw [results_cell_tmp rfl]
      exact end_rbox hV.out rfl rfl RE.out.box
    · have hV : Hid (X = (3, 0, 0)) := Lib.hid hX2.out
      have RE := Lib.hid (R0.out.put (3, 0))
      clear hX2 R0
      go_wp2_with fail
      refine bodyPost_ret (v := frv9 X) ?_ rfl ⟨rfl, RE.out.below⟩
      rw [results_cell_tmp rfl]
      exact end_rbox hV.out rfl rfl RE.out.box
  · have hV : Hid (X = (0, 0, other)) := Lib.hid (by
      rw [hX.out, if_neg]
      intro hc
      obtain ⟨y, hy, _⟩ := (code_one _).1 hc
      rw [hy] at h1
      exact h1 rfl)
    have q1 : ((E.length : Int) != 1) = true := bne_iff_ne.2 (by omega)
    have RE := Lib.hid (R0.out.put (0, 0))
    clear hX hc hS h1 L0 R0
    go_wp2_with fail
    refine bodyPost_ret (v := frv9 X) ?_ rfl ⟨rfl, RE.out.below⟩
    rw [results_cell_tmp rfl]
    exact end_rbox hV.out rfl rfl RE.out.box
end Go.Proofs.YtgkdepoimnmhfaaDoor.PFrEnc

/- Layer 4 of the program: digit. -/
namespace Go.Proofs.YtgkdepoimnmhfaaDoor.PDigit
open Go.ChangeShapes Go.WideShapes Go.ChangeAt Go.RowKit LexPure Bytes Ret LexNum
set_option maxRecDepth 20000
/-- what the program counts a byte as: 16 where the document's is no digit -/
def digP (b : UInt8) : Nat := if dig b ≤ 15 then dig b else 16
theorem digP_cases (b : UInt8) : ((b.toNat : Int) < 48 ∧ digP b = 16) ∨ (48 ≤ (b.toNat : Int) ∧ (b.toNat : Int) ≤ 57 ∧ (digP b : Int) = (b.toNat : Int) - 48) ∨ (57 < (b.toNat : Int) ∧ (b.toNat : Int) < 65 ∧ digP b = 16) ∨
    (65 ≤ (b.toNat : Int) ∧ (b.toNat : Int) ≤ 70 ∧ (digP b : Int) = (b.toNat : Int) - 65 + 10) ∨ (70 < (b.toNat : Int) ∧ (b.toNat : Int) < 97 ∧ digP b = 16) ∨ (97 ≤ (b.toNat : Int) ∧ (b.toNat : Int) ≤ 102 ∧ (digP b : Int) = (b.toNat : Int) - 97 + 10) ∨ (102 < (b.toNat : Int) ∧ digP b = 16) := by
  have := all_bytes (p := fun b => decide (((b.toNat : Int) < 48 ∧ digP b = 16) ∨ (48 ≤ (b.toNat : Int) ∧ (b.toNat : Int) ≤ 57 ∧ (digP b : Int) = (b.toNat : Int) - 48) ∨ (57 < (b.toNat : Int) ∧ (b.toNat : Int) < 65 ∧ digP b = 16) ∨
    (65 ≤ (b.toNat : Int) ∧ (b.toNat : Int) ≤ 70 ∧ (digP b : Int) = (b.toNat : Int) - 65 + 10) ∨ (70 < (b.toNat : Int) ∧ (b.toNat : Int) < 97 ∧ digP b = 16) ∨ (97 ≤ (b.toNat : Int) ∧ (b.toNat : Int) ≤ 102 ∧ (digP b : Int) = (b.toNat : Int) - 97 + 10) ∨ (102 < (b.toNat : Int) ∧ digP b = 16))) (by decide +kernel) b
  simpa only [decide_eq_true_eq] using this
theorem pdigit_any (b : UInt8) (w : World) :
    Calls Tryd.prog 67 #[.int .u8 (b.toNat : Int)] w fun e w' => e = .returned (.int .i64 (digP b : Int)) ∧ w = w' := by
  have hub : (b.toNat : Int) ≤ 255 := by have := b.toNat_lt; omega
  rcases digP_cases b with ⟨h1, h2⟩ | ⟨h1, h2, h3⟩ | ⟨h1, h2, h3⟩ | ⟨h1, h2, h3⟩ | ⟨h1, h2, h3⟩ | ⟨h1, h2, h3⟩ | ⟨h1, h2⟩
  · rw [h2]
    clear h2
    generalize (b.toNat : Int) = c at *
    go_enter Tryd.func67, Tryd.ntmps67
    go_wp2_with fail
    go_ret
    exact ⟨rfl, rfl⟩
  · rw [h3]
    clear h3
    generalize (b.toNat : Int) = c at *
    go_enter Tryd.func67, Tryd.ntmps67
    go_wp2_with fail
    go_ret
    exact ⟨rfl, rfl⟩
  · rw [h3]
    clear h3
    generalize (b.toNat : Int) = c at *
    go_enter Tryd.func67, Tryd.ntmps67
    go_wp2_with fail
    go_ret
    exact ⟨rfl, rfl⟩
  · rw [h3]
    clear h3
    generalize (b.toNat : Int) = c at *
    go_enter Tryd.func67, Tryd.ntmps67
    go_wp2_with fail
    go_ret
    exact ⟨rfl, rfl⟩
  · rw [h3]
    clear h3
    generalize (b.toNat : Int) = c at *
    go_enter Tryd.func67, Tryd.ntmps67
    go_wp2_with fail
    go_ret
    exact ⟨rfl, rfl⟩
  · rw [h3]
    clear h3
    generalize (b.toNat : Int) = c at *
    go_enter Tryd.func67, Tryd.ntmps67
    go_wp2_with fail
    go_ret
    exact ⟨rfl, rfl⟩
  · rw [h2]
    clear h2
    generalize (b.toNat : Int) = c at *
    go_enter Tryd.func67, Tryd.ntmps67
    go_wp2_with fail
    go_ret
    exact ⟨rfl, rfl⟩
end Go.Proofs.YtgkdepoimnmhfaaDoor.PDigit

/- Layer 4 of the program: number. -/
namespace Go.Proofs.YtgkdepoimnmhfaaDoor.PCount
open Go.ChangeShapes Go.WideShapes Go.ChangeAt Go.RowKit LexPure Bytes Ret LexNum PDigit
set_option maxRecDepth 20000
theorem digP_lt {b : UInt8} {base : Nat} (hb : base ≤ 16) (h : dig b < base) : digP b = dig b := by
  unfold digP
  rw [if_pos (by omega)]
theorem digP_ge {b : UInt8} {base : Nat} (hb : base ≤ 16) (h : ¬ dig b < base) : base ≤ digP b := by
  unfold digP
  split <;> omega
set_option maxHeartbeats 2000000 in
theorem pnumber_any (s : ByteArray) (hs : s.size ≤ maxLen) (digits : Int) (base : Nat) (hF : Fit base digits) (w : World) :
    Calls Tryd.prog 55 #[.string s, .int .i64 digits, .int .i64 (base : Int)] w fun e w' => e = .returned (.tuple #[.int .i64 (numR base digits (toL s)), .bool (numOk base digits (toL s))]) ∧ w = w' := by
  unfold maxLen at hs
  have HF := Lib.hid hF
  have hb16 : base ≤ 16 := by rcases hF with ⟨h, _⟩ | ⟨h, _⟩ <;> omega
  clear hF
  by_cases hlen : 1 ≤ s.size ∧ (s.size : Int) ≤ digits
  · obtain ⟨hl1, hl2⟩ := hlen
    have h1 : ¬ s.toList = [] := fun h => by
      rw [ByteArray.toList_eq] at h
      have h2 := toL_length s
      rw [show toL s = [] from h] at h2
      simp at h2
      omega
    have h2 : s.toList.isEmpty = false := by
      cases h : s.toList with
      | nil => exact absurd h h1
      | cons => rfl
    go_enter Tryd.func55, Tryd.ntmps55
    go_wp2_with fail
    go_loop [8, 21] (fun n i => ∃ k : Nat, k ≤ s.size ∧ i = .int .i64 k ∧ n = .int .i64 (numV base ((toL s).take k) : Nat) ∧ Hid (((toL s).take k).all (fun c => decide (dig c < base)) = true)) (fun _ i => s.size - (intOf i).toNat)
    case atStart => exact ⟨0, Nat.zero_le _, rfl, rfl, Lib.hid rfl⟩
    case round =>
      obtain ⟨k, hk, rfl, rfl, ha⟩ := hrel
      by_cases hlt : k < s.size
      · have hki : (k : Int) < (s.size : Int) := by omega
        have HT := Lib.hid (toL_take_succ s k hlt)
        have HG := Lib.hid (toL_get s k hlt)
        obtain ⟨hb1, hb2⟩ := HF.out.bound (l := (toL s).take k) (by rw [List.length_take, toL_length]; omega) ha.out
        have HN : Hid (numV base ((toL s).take (k + 1)) = base * numV base ((toL s).take k) + dig s[k]) := Lib.hid (by rw [HT.out, numV_snoc])
        have HC := Lib.hid (fun w => pdigit_any s[k] w)
        generalize numV base ((toL s).take k) = n at *
        have hcomm : (base : Int) * (n : Int) = (n : Int) * (base : Int) := Int.mul_comm _ _
        have hp0 : 0 ≤ (n : Int) * (base : Int) := by omega
        have hp1 : (n : Int) * (base : Int) ≤ 1152921504606846976 := by
          have : ((base * n : Nat) : Int) ≤ 1152921504606846976 := by omega
          rw [Int.natCast_mul] at this
          omega
        clear hb1
        by_cases hdb : dig s[k] < base
        · have HA : Hid (((toL s).take (k + 1)).all (fun c => decide (dig c < base)) = true) := Lib.hid (by rw [HT.out, List.all_append, ha.out]; simp [hdb])
          have HN2 : Hid ((n : Int) * (base : Int) + (dig s[k] : Nat) = (numV base ((toL s).take (k + 1)) : Int)) := Lib.hid (by rw [HN.out, ← hcomm]; push_cast; rfl)
          rw [digP_lt hb16 hdb] at HC
          have hdn : ¬ ((base : Int) ≤ (dig s[k] : Int)) := by omega
          have hdm : (dig s[k] : Int) ≤ 16 := by omega
          clear HT HG HN ha hdb hcomm hb16
          generalize dig s[k] = d at *
          go_wp2_with (refine (HC.out _).mono ?_; rintro e w' ⟨rfl, rfl⟩)
          go_round
          case rel => exact ⟨k + 1, by omega, by go_num, by rw [HN2.out], HA⟩
          case measure => simp [intOf]; omega
        · have HV2 : Hid (numOk base digits (toL s) = false) := Lib.hid (by
            unfold numOk
            rw [Bool.and_eq_false_iff]
            right
            rw [List.all_eq_false]
            exact ⟨s[k], List.mem_of_getElem? HG.out, by simpa using hdb⟩)
          have HV1 : Hid (numR base digits (toL s) = 0) := Lib.hid (by unfold numR; rw [HV2.out]; rfl)
          have hdn : (base : Int) ≤ (digP s[k] : Int) := by have := digP_ge hb16 hdb; omega
          clear HT HG HN ha hdb hcomm hb16
          generalize digP s[k] = d at *
          go_wp2_with (refine (HC.out _).mono ?_; rintro e w' ⟨rfl, rfl⟩)
          go_ret2
          exact ⟨ret_num HV1.out.symm HV2.out.symm, rfl⟩
      · have hall : (toL s).take k = toL s := toL_take_all s (by omega)
        have HV2 : Hid (numOk base digits (toL s) = true) := Lib.hid (by
          unfold numOk
          have h := ha.out
          rw [hall] at h
          rw [h, toL_length, decide_eq_true hl2]
          have : (toL s).isEmpty = false := by
            cases hl : toL s with
            | nil => have := toL_length s; rw [hl] at this; simp at this; omega
            | cons => rfl
          rw [this]
          rfl)
        have HV1 : Hid (numR base digits (toL s) = (numV base (toL s) : Int)) := Lib.hid (by unfold numR; rw [HV2.out]; rfl)
        rw [hall]
        clear ha hall hb16
        go_wp2_with fail
        go_ret2
        exact ⟨ret_num HV1.out.symm HV2.out.symm, rfl⟩
  · have HV2 : Hid (numOk base digits (toL s) = false) := Lib.hid (by
      unfold numOk
      rw [toL_length]
      by_cases h0 : s.size = 0
      · rw [List.isEmpty_iff.2 (List.length_eq_zero_iff.1 (by rw [toL_length]; exact h0))]
        rfl
      · rw [decide_eq_false (by omega)]
        simp)
    have HV1 : Hid (numR base digits (toL s) = 0) := Lib.hid (by unfold numR; rw [HV2.out]; rfl)
    clear hb16
    by_cases h0 : s.size = 0
    · have h1 : s.toList = [] := by
        rw [ByteArray.toList_eq]
        exact List.length_eq_zero_iff.1 (by rw [← h0]; exact toL_length s)
      have h2 : s.toList.isEmpty = true := by rw [h1]; rfl
      clear hlen
      go_enter Tryd.func55, Tryd.ntmps55
      go_wp2_with fail
      go_ret2
      exact ⟨ret_num HV1.out.symm HV2.out.symm, rfl⟩
    · have hx : digits < (s.size : Int) := by omega
      have h1 : ¬ s.toList = [] := fun h => by
        rw [ByteArray.toList_eq] at h
        have h2 := toL_length s
        rw [show toL s = [] from h] at h2
        simp at h2
        omega
      have h2 : s.toList.isEmpty = false := by
        cases h : s.toList with
        | nil => exact absurd h h1
        | cons => rfl
      clear hlen
      go_enter Tryd.func55, Tryd.ntmps55
      go_wp2_with fail
      go_ret2
      exact ⟨ret_num HV1.out.symm HV2.out.symm, rfl⟩
end Go.Proofs.YtgkdepoimnmhfaaDoor.PCount

/- Layer 4 of the program: Decimal. -/
namespace Go.Proofs.YtgkdepoimnmhfaaDoor.PDecimal
open Go.ChangeShapes Go.WideShapes Go.ChangeAt Go.RowKit LexPure Bytes Ret LexNum PCount
set_option maxRecDepth 20000
theorem pdecimal_any (s : ByteArray) (hs : s.size ≤ maxLen) (digits : Int) (w : World) :
    Calls Tryd.prog 51 #[.string s, .int .i64 digits] w fun e w' => e = .returned (.tuple #[.int .i64 (numR 10 (min digits 18) (toL s)), .bool (numOk 10 (min digits 18) (toL s))]) ∧ w = w' := by
  have HN := Lib.hid (pnumber_any s hs (min digits 18) 10 (.inl ⟨rfl, Int.min_le_right _ _⟩))
  clear hs
  rcases (show digits < 18 ∨ digits = 18 ∨ 18 < digits by omega) with h | h | h
  · have hm : min digits 18 = digits := by omega
    rw [hm] at HN ⊢
    go_enter Tryd.func51, Tryd.ntmps51
    go_wp2_with fail
    refine (HN.out _).mono ?_
    rintro e w' ⟨rfl, rfl⟩
    go_wp2_with fail
    go_ret2
    exact ⟨rfl, rfl⟩
  · subst h
    have hm : min 18 18 = (18 : Int) := rfl
    rw [hm] at HN ⊢
    go_enter Tryd.func51, Tryd.ntmps51
    go_wp2_with fail
    refine (HN.out _).mono ?_
    rintro e w' ⟨rfl, rfl⟩
    go_wp2_with fail
    go_ret2
    exact ⟨rfl, rfl⟩
  · have hm : min digits 18 = 18 := by omega
    rw [hm] at HN ⊢
    go_enter Tryd.func51, Tryd.ntmps51
    go_wp2_with fail
    refine (HN.out _).mono ?_
    rintro e w' ⟨rfl, rfl⟩
    go_wp2_with fail
    go_ret2
    exact ⟨rfl, rfl⟩
end Go.Proofs.YtgkdepoimnmhfaaDoor.PDecimal

/- A text cut at its first byte of a kind: ahead of it, behind it. No program is named. -/
namespace Go.Proofs.YtgkdepoimnmhfaaDoor.CutAt
open Bytes
def aheadOf (x : UInt8) (s : List UInt8) : List UInt8 := s.takeWhile (fun c => c != x)
def behind (x : UInt8) (s : List UInt8) : List UInt8 := (s.dropWhile (fun c => c != x)).tail
def hasB (x : UInt8) (s : List UInt8) : Bool := s.any (fun c => c == x)
theorem index_tail (x : UInt8) (c : UInt8) (l : List UInt8) (h : (c == x) = false) : Go.Lib.index (c :: l) [x] = if Go.Lib.index l [x] == -1 then -1 else Go.Lib.index l [x] + 1 := by
  have hp : ([x] : List UInt8).isPrefixOf (c :: l) = false := by
    have : ¬ x = c := fun e => by rw [← e, beq_self_eq_true] at h; cases h
    simp [List.isPrefixOf, this]
  rw [Go.Lib.index, hp]
  rfl
theorem cut_say (x : UInt8) (s : List UInt8) : (Go.Lib.cut s [x]).1 = aheadOf x s ∧ (Go.Lib.cut s [x]).2.1 = behind x s ∧ (Go.Lib.cut s [x]).2.2 = hasB x s := by
  unfold aheadOf behind hasB Go.Lib.cut
  induction s with
  | nil =>
    have : Go.Lib.index [] [x] = -1 := by simp [Go.Lib.index]
    rw [this]
    exact ⟨rfl, rfl, rfl⟩
  | cons c l ih =>
    by_cases hc : c = x
    · subst hc
      have hix : Go.Lib.index (c :: l) [c] = 0 := by rw [Go.Lib.index]; simp [List.isPrefixOf]
      rw [hix]
      simp
    · have hq : (c == x) = false := by simpa using hc
      have hn : (c != x) = true := by simp [hc]
      rw [index_tail x c l hq, List.takeWhile_cons, hn, List.dropWhile_cons, hn, List.any_cons, hq]
      have hge := Go.Lib.index_ge l [x]
      by_cases hm : Go.Lib.index l [x] = -1
      · rw [hm] at ih ⊢
        simp at ih ⊢
        exact ⟨ih.1, ih.2⟩
      · obtain ⟨i, hi⟩ : ∃ i : Nat, Go.Lib.index l [x] = i := ⟨(Go.Lib.index l [x]).toNat, by omega⟩
        rw [hi] at ih ⊢
        have h1 : ((i : Int) == -1) = false := beq_eq_false_iff_ne.2 (by omega)
        have h3 : ((i : Int) + 1).toNat = i + 1 := by omega
        have h4 : (0 : Int) ≤ (i : Int) + 1 := by omega
        have h5 : (0 : Int) ≤ (i : Int) := by omega
        simp only [h1, h3, h4, h5, if_true, Bool.false_eq_true, if_false, Bool.false_or] at ih ⊢
        rw [show i + 1 + ([x] : List UInt8).length = (i + [x].length) + 1 from rfl, List.take_succ_cons, List.drop_succ_cons]
        exact ⟨by rw [← ih.1]; simp, ih.2.1, ih.2.2⟩
end Go.Proofs.YtgkdepoimnmhfaaDoor.CutAt

/-
  DERIVED: THE SHELF's CONTRACTS AT THIS DUMP, IN PLAIN WORDS (tools/lay-plain.mjs out of 'YtgkdepoimnmhfaaDoorCutLaysT.lean', which tools/lay-shelf.mjs wrote): THE SAME DECLARATIONS UNDER THE SAME NAMES: 'import', 'namespace', 'open', 'def', 'theorem' AND NOTHING ELSE: no command of the shelf's: FOR A HAND-IN. Each laying: the table of numbers ('.._ren') and one theorem, a field a fact of the dump's own or the kernel's comparison; each contract: ONE APPLICATION.
-/
namespace Go.Proofs
open Go.Shelf
def Tryd.lays219_ren : Go.Shelf.Ren := ⟨fun | 219 => 66 | 217 => 74 | 225 => 75 | 224 => 76 | 267 => 77 | 266 => 81 | 314 => 82 | n => n, fun | 9 => 9 | 3 => 3 | 4 => 4 | 5 => 5 | 46 => 88 | 146 => 91 | 51 => 90 | n => n, fun | 1 => 0 | n => n⟩
theorem Tryd.lays219 : Go.Proofs.Lays.n219 Tryd.prog Tryd.lays219_ren := {
  mixed := by kernel_rfl
  f217 := Tryd.func74.trans (congrArg some (by kernel_rfl))
  f219 := Tryd.func66.trans (congrArg some (by kernel_rfl))
  f224 := Tryd.func76.trans (congrArg some (by kernel_rfl))
  f225 := Tryd.func75.trans (congrArg some (by kernel_rfl))
  f266 := Tryd.func81.trans (congrArg some (by kernel_rfl))
  f267 := Tryd.func77.trans (congrArg some (by kernel_rfl))
  f314 := Tryd.func82.trans (congrArg some (by kernel_rfl))
  t3 := Tryd.underlying3
  a3 := Tryd.isAgg3
  z3 := Tryd.sizeOf3
  v3 := Tryd.zeroValue3
  t4 := Tryd.underlying4
  a4 := Tryd.isAgg4
  z4 := Tryd.sizeOf4
  v4 := Tryd.zeroValue4
  t5 := Tryd.underlying5
  a5 := Tryd.isAgg5
  z5 := Tryd.sizeOf5
  v5 := Tryd.zeroValue5
  t9 := Tryd.underlying9
  a9 := Tryd.isAgg9
  z9 := Tryd.sizeOf9
  v9 := Tryd.zeroValue9
  t46 := Tryd.underlying88
  a46 := Tryd.isAgg88
  z46 := Tryd.sizeOf88
  v46 := Tryd.zeroValue88
  t51 := Tryd.underlying90
  a51 := Tryd.isAgg90
  z51 := Tryd.sizeOf90
  v51 := Tryd.zeroValue90
  t146 := Tryd.underlying91
  a146 := Tryd.isAgg91
  z146 := Tryd.sizeOf91
  v146 := Tryd.zeroValue91
  g1 := by kernel_rfl }
end Go.Proofs

/- strings.Cut at a piece of one byte, at whatever size. -/
namespace Go.Proofs.YtgkdepoimnmhfaaDoor.PCutLib
open Go.ChangeShapes Go.WideShapes Go.ChangeAt Go.RowKit Bytes Ret CutAt
set_option maxRecDepth 20000
theorem lib_at (x : UInt8) (s : ByteArray) (w : World) :
    Calls Tryd.prog 66 #[.string s, .string ⟨#[x]⟩] w fun e w' => e = .returned (.int .i64 (Lib.index (toL s) [x])) ∧ w' = w := by
  have h := Any.stringslite_Index_one Tryd.lays219 s x w
  rw [← Lib.index_one] at h
  exact h
theorem ret_cut {a b c d : ByteArray} {p q : Bool} (h : a = c) (k : b = d) (l : p = q) : Ending.returned (.tuple #[.string a, .string b, .bool p]) = .returned (.tuple #[.string c, .string d, .bool q]) := by rw [h, k, l]
theorem lite_cut (x : UInt8) (s : ByteArray) (hs : s.size ≤ 140737488351232) (w : World) :
    Calls Tryd.prog 54 #[.string s, .string ⟨#[x]⟩] w fun e w' => e = .returned (.tuple #[.string (ofL (aheadOf x (toL s))), .string (ofL (behind x (toL s))), .bool (hasB x (toL s))]) ∧ Below w.heap.size w w' := by
  have HI := Lib.hid (fun w => lib_at x s w)
  obtain ⟨h1, h2, h3⟩ := cut_say x (toL s)
  unfold Lib.cut at h1 h2 h3
  have hge := Lib.index_ge (toL s) [x]
  have hle := Lib.index_le (toL s) [x]
  by_cases hm : Lib.index (toL s) [x] = -1
  · rw [hm] at h1 h2 h3 HI
    have HA : Hid (s = ofL (aheadOf x (toL s))) := Lib.hid (by rw [← h1]; exact (ofL_toL s).symm)
    have HB : Hid ((⟨#[]⟩ : ByteArray) = ofL (behind x (toL s))) := Lib.hid (by rw [← h2]; rfl)
    have HQ : Hid (false = hasB x (toL s)) := Lib.hid (by rw [← h3]; rfl)
    clear h1 h2 h3 hge hle hm
    go_enter Tryd.func54, Tryd.ntmps54
    go_wp2_with fail
    refine (HI.out _).mono ?_
    rintro e w' ⟨rfl, rfl⟩
    go_wp2_with fail
    go_ret3
    exact ⟨ret_cut HA.out HB.out HQ.out, Below.refl _ _⟩
  · obtain ⟨i, hi⟩ : ∃ i : Nat, Lib.index (toL s) [x] = i := ⟨(Lib.index (toL s) [x]).toNat, by omega⟩
    rw [hi] at h1 h2 h3 HI
    have hp : (0 : Int) ≤ (i : Int) := by omega
    simp only [hp, if_true, Int.toNat_natCast, List.length_singleton] at h1 h2 h3
    have hlt : i < s.size := by
      rcases Nat.lt_or_ge i (toL s).length with h | h
      · rwa [toL_length] at h
      · exfalso
        have e1 : aheadOf x (toL s) = toL s := by rw [← h1, List.take_of_length_le h]
        have e2 : hasB x (toL s) = true := h3.symm
        unfold aheadOf at e1
        unfold hasB at e2
        rw [List.any_eq_true] at e2
        obtain ⟨c, hc, hq⟩ := e2
        have hall : (toL s).all (fun c => c != x) = true := by
          rw [← e1]
          exact List.all_takeWhile
        have := List.all_eq_true.1 hall c hc
        simp only [bne_iff_ne, ne_eq, beq_iff_eq] at this hq
        exact this hq
    have HA : Hid (s.extract 0 i = ofL (aheadOf x (toL s))) := Lib.hid (toL_inj (by rw [toL_extract, toL_ofL, ← h1, List.drop_zero]))
    have HB : Hid (s.extract (i + 1) s.size = ofL (behind x (toL s))) := Lib.hid (toL_inj (by rw [toL_extract, toL_ofL, ← h2, List.take_of_length_le (by rw [toL_length]; exact Nat.le_refl _)]))
    have HQ : Hid (true = hasB x (toL s)) := Lib.hid h3
    have c1 : (i : Int) ≤ (s.size : Int) := by omega
    have c2 : (i : Int) + 1 ≤ (s.size : Int) := by omega
    have c3 : (0 : Int) ≤ (i : Int) + 1 := by omega
    have c4 : (s.size : Int) ≤ 140737488351232 := by omega
    clear h1 h2 h3 hge hle hm hi hlt
    go_enter Tryd.func54, Tryd.ntmps54
    go_wp2_with fail
    refine (HI.out _).mono ?_
    rintro e w' ⟨rfl, rfl⟩
    go_wp2_with fail
    go_region
    go_wp2_with fail
    go_ret3
    exact ⟨ret_cut HA.out HB.out HQ.out, ⟨rfl, rfl, rfl, Nat.le_refl _, fun _ _ => rfl⟩⟩
theorem full_cut (x : UInt8) (s : ByteArray) (hs : s.size ≤ 140737488351232) (w : World) :
    Calls Tryd.prog 50 #[.string s, .string ⟨#[x]⟩] w fun e w' => e = .returned (.tuple #[.string (ofL (aheadOf x (toL s))), .string (ofL (behind x (toL s))), .bool (hasB x (toL s))]) ∧ Below w.heap.size w w' := by
  have H := Lib.hid (lite_cut x s hs)
  clear hs
  go_enter Tryd.func50, Tryd.ntmps50
  go_wp2_with fail
  refine (H.out _).mono ?_
  rintro e w' ⟨rfl, hb⟩
  go_wp2_with fail
  go_ret3
  exact ⟨rfl, hb⟩
end Go.Proofs.YtgkdepoimnmhfaaDoor.PCutLib

/- Layer 9 of the program: readLengths. -/
namespace Go.Proofs.YtgkdepoimnmhfaaDoor.PFrLens
open Go.ChangeShapes Go.WideShapes Go.ChangeAt Go.RowKit LexPure Bytes Ret Rows1 LexList LexNum FieldsPure HeadPure FramePure FrNames Flds PAlike PTrim PDecimal CutAt PCutLib HBox Mem
set_option maxRecDepth 20000
theorem ahead_no : ∀ r : List UInt8, noComma (aheadOf 44 r) = true
  | [] => rfl
  | c :: r => by
    unfold aheadOf
    rw [List.takeWhile_cons]
    by_cases hc : c = 44
    · subst hc
      rfl
    · have : (c != 44) = true := bne_iff_ne.2 hc
      rw [this]
      have ih := ahead_no r
      unfold noComma aheadOf at *
      simp only [if_true, List.all_cons, ih, Bool.and_true]
      simpa using hc
theorem cut_whole : ∀ r : List UInt8, hasB 44 r = true → r = aheadOf 44 r ++ 44 :: behind 44 r
  | [], h => by cases h
  | c :: r, h => by
    unfold aheadOf behind
    rw [List.takeWhile_cons, List.dropWhile_cons]
    by_cases hc : c = 44
    · subst hc
      rfl
    · have h1 : (c != 44) = true := bne_iff_ne.2 hc
      have h2 : hasB 44 r = true := by
        unfold hasB at h ⊢
        rw [List.any_cons, show (c == 44) = false from beq_eq_false_iff_ne.2 hc, Bool.false_or] at h
        exact h
      have ih := cut_whole r h2
      unfold aheadOf behind at ih
      rw [h1]
      simp only [if_true]
      rw [List.cons_append, ← ih]
theorem cut_none : ∀ r : List UInt8, hasB 44 r = false → aheadOf 44 r = r
  | [], _ => rfl
  | c :: r, h => by
    unfold hasB at h
    rw [List.any_cons, Bool.or_eq_false_iff] at h
    unfold aheadOf
    have ih := cut_none r h.2
    unfold aheadOf at ih
    rw [List.takeWhile_cons, show (c != 44) = true by simpa using h.1, ih]
    rfl
theorem cut_pieces (r : List UInt8) : pieces r = aheadOf 44 r :: (if hasB 44 r then pieces (behind 44 r) else []) := by
  cases h : hasB 44 r
  · have h1 := cut_none r h
    have h2 := ahead_no r
    rw [h1] at h2 ⊢
    exact pieces_plain h2
  · conv => lhs; rw [cut_whole r h]
    rw [pieces_cut (ahead_no r)]
    rfl
theorem ahead_le (r : List UInt8) : (aheadOf 44 r).length ≤ r.length := by
  unfold aheadOf
  exact (List.takeWhile_sublist _).length_le
theorem behind_lt (r : List UInt8) (h : hasB 44 r = true) : (behind 44 r).length + 1 ≤ r.length := by
  have := congrArg List.length (cut_whole r h)
  rw [List.length_append, List.length_cons] at this
  omega
/-- what is told so far, and what is left -/
structure LI (C : Int) (n : Int) (c : Nat) (rem : List (List UInt8)) : Prop where
  all_ : C = lenFrom (if c = 0 then -1 else n) rem
  pos : 0 ≤ n
  zero : c = 0 → n = 0
theorem LI.start (G : List HField) : LI (lenN G) 0 0 (lens G) := ⟨rfl, Int.le_refl _, fun _ => rfl⟩
theorem LI.step {C n : Int} {c : Nat} {p : List UInt8} {rem : List (List UInt8)} (h : LI C n c (p :: rem)) (h1 : numOk 10 15 p = true) (h2 : c = 0 ∨ numR 10 15 p = n) : LI C (numR 10 15 p) (c + 1) rem := by
  refine ⟨?_, numR_pos _ _ _, fun h => by omega⟩
  rw [h.all_, if_neg (Nat.succ_ne_zero c)]
  conv => lhs; unfold lenFrom lenStep
  rw [if_pos]
  refine ⟨h1, ?_⟩
  rcases h2 with h2 | h2
  · left
    rw [if_pos h2]
    decide
  · by_cases h0 : c = 0
    · left
      rw [if_pos h0]
      decide
    · right
      rw [if_neg h0]
      exact h2
theorem LI.bad {C n : Int} {c : Nat} {p : List UInt8} {rem : List (List UInt8)} (h : LI C n c (p :: rem)) (h1 : numOk 10 15 p = false ∨ (0 < c ∧ numR 10 15 p ≠ n)) : C = -1 := by
  rw [h.all_]
  unfold lenFrom lenStep
  rw [if_neg]
  rintro ⟨h2, h3⟩
  rcases h1 with h1 | ⟨h1, h4⟩
  · rw [h1] at h2
    cases h2
  · rw [if_neg (by omega)] at h3
    have := h.pos
    rcases h3 with h3 | h3
    · omega
    · exact h4 h3
theorem LI.done {C n : Int} {c : Nat} (h : LI C n c []) : (if C < 0 then 0 else C) = n ∧ decide (0 ≤ C) = decide (0 < c) := by
  have h1 : C = if c = 0 then -1 else n := h.all_
  have hp := h.pos
  by_cases h0 : c = 0
  · rw [if_pos h0] at h1
    have hz := h.zero h0
    subst h1
    subst h0
    subst hz
    exact ⟨rfl, rfl⟩
  · rw [if_neg h0] at h1
    subst h1
    rw [if_neg (by omega), decide_eq_true hp, decide_eq_true (by omega)]
    exact ⟨rfl, rfl⟩
theorem ret_lens {a b : Int} {p q : Bool} (h : a = b) (k : p = q) : Ending.returned (.tuple #[.int .i64 a, .bool p]) = .returned (.tuple #[.int .i64 b, .bool q]) := by rw [h, k]
theorem lens_drop (G : List HField) (k : Nat) (hk : k < G.length) : lens (G.drop k) = if hit CLEN G[k] then (pieces G[k].2).map trim ++ lens (G.drop (k + 1)) else lens (G.drop (k + 1)) := by
  rw [← lens_cons, List.drop_eq_getElem_cons hk]
theorem more_le {c k B : Nat} (h : c ≤ k * B) : c ≤ (k + 1) * B := Nat.le_trans h (Nat.mul_le_mul_right B (Nat.le_succ k))
/-- what is left of a value -/
def left (b : Bool) (R : ByteArray) : List (List UInt8) := if b then (pieces (toL R)).map trim else []
def room (b : Bool) (R : ByteArray) : Nat := if b then R.size + 1 else 0
theorem left_cut (R : ByteArray) : left true R = trim (aheadOf 44 (toL R)) :: left (hasB 44 (toL R)) (ofL (behind 44 (toL R))) := by
  unfold left
  rw [toL_ofL, if_pos rfl]
  conv => lhs; rw [cut_pieces]
  cases hasB 44 (toL R) <;> rfl
theorem room_cut (R : ByteArray) : room (hasB 44 (toL R)) (ofL (behind 44 (toL R))) ≤ R.size := by
  unfold room
  cases h : hasB 44 (toL R)
  · exact Nat.zero_le _
  · have := behind_lt _ h
    rw [toL_length] at this
    rw [if_pos rfl, ofL_size]
    exact this
theorem left_end {rest : List (List UInt8)} (R : ByteArray) : left false R ++ rest = rest := rfl
set_option maxHeartbeats 1600000 in
theorem plens_any (v : Value) (G : List HField) (hG : Few G) (hle : G.length ≤ 1048576) (w : World) (hF : FL w v G) :
    Calls Tryd.prog 43 #[v] w fun e w' => e = .returned (.tuple #[.int .i64 (if lenN G < 0 then 0 else lenN G), .bool (decide (0 ≤ lenN G))]) ∧ Below w.heap.size w w' := by
  obtain ⟨C, hC⟩ : ∃ C, C = lenN G := ⟨_, rfl⟩
  rw [← hC]
  have HI0 : Hid (LI C 0 0 (lens (G.drop 0)) ∧ Below w.heap.size w w) := Lib.hid ⟨by rw [hC]; exact LI.start G, Below.refl _ _⟩
  clear hC
  obtain ⟨Z1, hZ1⟩ : ∃ Z, Z = if C < 0 then 0 else C := ⟨_, rfl⟩
  obtain ⟨Z2, hZ2⟩ : ∃ Z, Z = decide (0 ≤ C) := ⟨_, rfl⟩
  rw [← hZ1, ← hZ2]
  have HZ := Lib.hid (And.intro hZ1 hZ2)
  clear hZ1 hZ2
  obtain ⟨p, cap, rfl, hle2, hcl⟩ := hF
  replace hcl := Lib.hid hcl
  replace hG := Lib.hid hG
  go_enter Tryd.func43, Tryd.ntmps43
  go_wp2_with fail
  go_loopw [4, 5, 15] (fun n c i wr => ∃ (k c1 : Nat) (n1 : Int), k ≤ G.length ∧ i = .int .i64 k ∧ c = .int .i64 c1 ∧ n = .int .i64 n1 ∧ c1 ≤ k * 1048577 ∧ Hid (LI C n1 c1 (lens (G.drop k)) ∧ Below w.heap.size w wr)) (fun _ _ i _ => G.length - (intOf i).toNat)
  case atStart => exact ⟨0, 0, 0, Nat.zero_le _, rfl, rfl, rfl, Nat.zero_le _, HI0⟩
  case round =>
    obtain ⟨k, c1, n1, hk, rfl, rfl, rfl, hc1, HI⟩ := hrel
    clear HI0
    by_cases hlt : k < G.length
    · obtain ⟨g, o, rfl, hgl, hcell⟩ := hcl.out (by omega)
      obtain ⟨s1, s2⟩ := hG.out k hlt
      have hki : (k : Int) < (G.length : Int) := by omega
      have HD := Lib.hid (lens_drop G k hlt)
      have HA := Lib.hid (fun w => palike_any (ofL G[k].1) ⟨#[67, 111, 110, 116, 101, 110, 116, 45, 76, 101, 110, 103, 116, 104]⟩ (by rw [ofL_size]; unfold maxLen; omega) w)
      rw [toL_ofL, show alike G[k].1 (toL ⟨#[67, 111, 110, 116, 101, 110, 116, 45, 76, 101, 110, 103, 116, 104]⟩) = hit CLEN G[k] from congrFun (hit_same low_l) G[k]] at HA
      obtain ⟨d1, d2⟩ := hcell k hlt
      replace d1 := (HI.out.2.cell (p := ⟨g, o + k * 2, none⟩) hgl).trans d1
      replace d2 := (HI.out.2.cell (p := ⟨g, o + k * 2 + 1, none⟩) hgl).trans d2
      have hb1 := (Below.refl wr.heap.size wr).alloc (Nat.le_refl _) (.cells (fc G[k]) 41)
      have B0 : FBox (wr.alloc (.cells (fc G[k]) 41)) wr.heap.size G[k] := ⟨Has.new wr _ _⟩
      have hsz : wr.heap.size < (wr.alloc (.cells (fc G[k]) 41)).heap.size := by simp
      unfold fc at hb1 B0 hsz
      have HB1 := Lib.hid (below_chain HI.out.2 hb1)
      obtain ⟨e1, e2⟩ := B0.cells
      replace B0 := Lib.hid B0
      clear hcell hgl hb1
      cases hh : hit CLEN G[k]
      · rw [hh] at HD HA
        clear hh
        go_wp2_with fail
        generalize wr.alloc (.cells #[.string (ofL G[k].1), .string (ofL G[k].2)] 41) = W1 at *
        refine (HA.out _).mono ?_
        rintro e w2 ⟨rfl, hb2⟩
        have HI2 : Hid (LI C n1 c1 (lens (G.drop (k + 1))) ∧ Below w.heap.size w w2) := Lib.hid ⟨by have := HI.out.1; rw [HD.out] at this; exact this, below_chain HB1.out hb2⟩
        clear hb2 HA HD HI d1 d2 e1 e2 B0 HB1
        go_wp2_with fail
        go_roundw
        case rel => exact ⟨k + 1, c1, n1, by omega, by go_num, rfl, rfl, more_le hc1, HI2⟩
        case measure => simp [intOf]; omega
      · rw [hh] at HD HA
        clear hh
        go_wp2_with fail
        generalize wr.alloc (.cells #[.string (ofL G[k].1), .string (ofL G[k].2)] 41) = W1 at *
        refine (HA.out _).mono ?_
        rintro e w2 ⟨rfl, hb2⟩
        have HI2 : Hid (LI C n1 c1 (left true (ofL G[k].2) ++ lens (G.drop (k + 1))) ∧ Below w.heap.size w w2) := Lib.hid ⟨by have := HI.out.1; rw [HD.out] at this; unfold left; rw [toL_ofL]; exact this, below_chain HB1.out hb2⟩
        have hB2 := B0.out.below hb2 hsz
        clear HA HD HI d1 d2 e1 e2 B0 HB1 hb2
        obtain ⟨e1, e2⟩ := hB2.cells
        clear hB2
        go_wp2_with fail
        obtain ⟨M, hM⟩ : ∃ M, M = (k + 1) * 1048577 := ⟨_, rfl⟩
        have hM2 : M ≤ 1099512676353 := by rw [hM]; exact Nat.le_trans (Nat.mul_le_mul_right _ (Nat.le_trans (Nat.succ_le_of_lt hlt) hle)) (by decide)
        have hM3 : c1 + room true (ofL G[k].2) ≤ M := by
          unfold room
          rw [hM, if_pos rfl, ofL_size, Nat.succ_mul]
          exact Nat.add_le_add hc1 (Nat.succ_le_succ s2)
        replace hM := Lib.hid hM
        clear e1 e2 hc1 s1 s2 hsz
        generalize ofL G[k].2 = V at *
        generalize hRest : lens (G.drop (k + 1)) = rest at *
        replace hRest := Lib.hid hRest
        go_loopw [8, 9, 4, 5] (fun r m n c w3 => ∃ (R : ByteArray) (b : Bool) (c3 : Nat) (n3 : Int), r = .string R ∧ m = .bool b ∧ c = .int .i64 c3 ∧ n = .int .i64 n3 ∧ c3 + room b R ≤ M ∧ Hid (LI C n3 c3 (left b R ++ rest) ∧ Below w.heap.size w w3)) (fun r m _ _ _ => match r, m with | .string R, .bool b => room b R | _, _ => 0)
        case atStart => exact ⟨V, true, c1, n1, rfl, rfl, rfl, rfl, hM3, HI2⟩
        case round =>
          obtain ⟨R, b, c3, n3, rfl, rfl, rfl, rfl, hc3, HI⟩ := hrel
          clear HI2 hM3
          cases b
          · have HI3 : Hid (LI C n3 c3 (lens (G.drop (k + 1))) ∧ Below w.heap.size w wr) := Lib.hid (by rw [hRest.out]; exact HI.out)
            have hc4 : c3 ≤ (k + 1) * 1048577 := by rw [← hM.out]; exact hc3
            replace hc4 := Lib.hid hc4
            clear HI hM hM2 hc3 hRest
            go_wp2_with fail
            go_roundw
            case rel => exact ⟨k + 1, c3, n3, by omega, by go_num, rfl, rfl, hc4.out, HI3⟩
            case measure => simp [intOf]; omega
          · have hsz : R.size + 1 + c3 ≤ M := by
              have : c3 + (R.size + 1) ≤ M := hc3
              omega
            have hrm := room_cut R
            have hal := ahead_le (toL R)
            rw [toL_length] at hal
            have HC := Lib.hid (fun w => full_cut 44 R (by omega) w)
            obtain ⟨A, hA⟩ : ∃ A, A = ofL (aheadOf 44 (toL R)) := ⟨_, rfl⟩
            have sA : A.size ≤ R.size := by rw [hA, ofL_size]; exact hal
            have tA : toL A = aheadOf 44 (toL R) := by rw [hA, toL_ofL]
            have HT := Lib.hid (fun w => ptrim_any A (by unfold maxLen; omega) w)
            obtain ⟨T, hT⟩ : ∃ T, T = ofL (trim (toL A)) := ⟨_, rfl⟩
            have sT : T.size ≤ A.size := by rw [hT, ofL_size, ← toL_length A]; exact trim_length _
            have tT : toL T = trim (aheadOf 44 (toL R)) := by rw [hT, toL_ofL, tA]
            have HD := Lib.hid (fun w => pdecimal_any T (by unfold maxLen; omega) 15 w)
            have hL := left_cut R
            rw [show min (15 : Int) 18 = 15 from rfl, tT] at HD
            rw [hL] at HI
            rw [← hA] at HC
            rw [← hT] at HT
            have hOk := Lib.hid (fun h1 h2 => LI.step HI.out.1 h1 h2)
            have hBad := Lib.hid (fun h1 => LI.bad HI.out.1 h1)
            have HBw := Lib.hid HI.out.2
            clear hL HI hal sA tA hA sT tT hT hc3
            generalize numR 10 15 (trim (aheadOf 44 (toL R))) = num at *
            generalize numOk 10 15 (trim (aheadOf 44 (toL R))) = okb at *
            generalize hasB 44 (toL R) = b2 at *
            generalize ofL (behind 44 (toL R)) = R2 at *
            have hc5 : (c3 : Int) ≤ 1099512676353 := by omega
            replace hsz := Lib.hid hsz
            replace hrm := Lib.hid hrm
            go_wp2_with fail
            refine (HC.out _).mono ?_
            rintro e w4 ⟨rfl, hb4⟩
            replace HBw := Lib.hid (below_chain HBw.out hb4)
            clear hb4 HC
            go_wp2_with fail
            refine (HT.out _).mono ?_
            rintro e w5 ⟨rfl, hb5⟩
            replace HBw := Lib.hid (below_chain HBw.out hb5)
            clear hb5 HT
            go_wp2_with fail
            refine (HD.out _).mono ?_
            rintro e w6 ⟨rfl, rfl⟩
            clear HD
            cases okb
            · have hV : Hid (Z1 = 0 ∧ Z2 = false) := Lib.hid (by rw [HZ.out.1, HZ.out.2, hBad.out (.inl rfl)]; exact ⟨rfl, rfl⟩)
              clear hOk hBad
              go_wp2_with fail
              go_ret2
              exact ⟨ret_lens hV.out.1.symm hV.out.2.symm, HBw.out⟩
            · by_cases h0 : c3 = 0
              · subst h0
                have HI2 : Hid (LI C num (0 + 1) (left b2 R2 ++ rest) ∧ Below w.heap.size w w5) := Lib.hid ⟨hOk.out rfl (.inl rfl), HBw.out⟩
                clear hOk hBad HBw
                go_wp2_with fail
                go_roundw
                case rel => exact ⟨R2, b2, 0 + 1, num, rfl, rfl, by go_num, rfl, by have := hrm.out; have := hsz.out; omega, HI2⟩
                case measure => exact Nat.lt_succ_of_le hrm.out
              · have h1 : (0 : Int) < (c3 : Int) := by omega
                by_cases h2 : num = n3
                · subst h2
                  have HI2 : Hid (LI C num (c3 + 1) (left b2 R2 ++ rest) ∧ Below w.heap.size w w5) := Lib.hid ⟨hOk.out rfl (.inr rfl), HBw.out⟩
                  clear hOk hBad HBw h0
                  go_wp2_with fail
                  go_roundw
                  case rel => exact ⟨R2, b2, c3 + 1, num, rfl, rfl, by go_num, rfl, by have := hrm.out; have := hsz.out; omega, HI2⟩
                  case measure => exact Nat.lt_succ_of_le hrm.out
                · have h3 : (num != n3) = true := bne_iff_ne.2 h2
                  have hV : Hid (Z1 = 0 ∧ Z2 = false) := Lib.hid (by rw [HZ.out.1, HZ.out.2, hBad.out (.inr ⟨by omega, h2⟩)]; exact ⟨rfl, rfl⟩)
                  clear hOk hBad h0 h2
                  go_wp2_with fail
                  go_ret2
                  exact ⟨ret_lens hV.out.1.symm hV.out.2.symm, HBw.out⟩
    · have hki : ¬ ((k : Int) < (G.length : Int)) := by omega
      have HI3 : Hid (LI C n1 c1 [] ∧ Below w.heap.size w wr) := Lib.hid (by
        have h := HI.out
        rw [List.drop_of_length_le (by omega)] at h
        exact h)
      have hd := HI3.out.1.done
      rw [← HZ.out.1, ← HZ.out.2] at hd
      replace hd := Lib.hid hd
      clear HI hcl hG hlt hc1
      go_wp2_with fail
      go_ret2
      exact ⟨ret_lens hd.out.1.symm hd.out.2.symm, HI3.out.2⟩
end Go.Proofs.YtgkdepoimnmhfaaDoor.PFrLens

/- Layer 9 of the program: sized, bounded. -/
namespace Go.Proofs.YtgkdepoimnmhfaaDoor.PFrSized
open Go.ChangeShapes Go.WideShapes Go.ChangeAt Go.RowKit LexPure Bytes Ret Rows1 Texts FieldsPure HeadPure FramePure FrNames Flds PFrLens HBox FrBox Held Mem
set_option maxRecDepth 20000
/-- by the lengths -/
def sized9 (G : List HField) : Int × Int × Int := if lenN G < 0 then (0, 0, 90) else (2, lenN G, 0)
def bound9 (G : List HField) (most : Int) : Int × Int × Int := if lenN G < 0 then (0, 0, 90) else if most < lenN G then (0, 0, 101) else (2, lenN G, 0)
theorem start9 (w : World) (h : H8) (v : Value) (hF : FL w v h.fields) : LB w ((w.alloc (.cells (hc h v) 24)).alloc (.cells (rc (0, 0)) 27)) w.heap.size h v ∧ RB w ((w.alloc (.cells (hc h v) 24)).alloc (.cells (rc (0, 0)) 27)) (w.heap.size + 1) (0, 0) := by
  refine ⟨(LB.new (Below.refl _ _) hF).alloc _, ?_⟩
  have := RB.new (w := w) (W := w.alloc (.cells (hc h v) 24)) (x := (0, 0)) ((Below.refl w.heap.size w).alloc (Nat.le_refl _) _)
  rwa [World.size_alloc] at this
set_option maxHeartbeats 1600000 in
theorem psized_any (h : H8) (v : Value) (hG : Few h.fields) (hle : h.fields.length ≤ 1048576) (w : World) (hF : FL w v h.fields) :
    Calls Tryd.prog 30 #[hv h v] w fun e w' => e = .returned (frv9 (sized9 h.fields)) ∧ Below w.heap.size w w' := by
  obtain ⟨L0, R0⟩ := start9 w h v hF
  have HR := Lib.hid (plens_any v h.fields hG hle _ L0.list)
  obtain ⟨X, hX⟩ : ∃ X, X = sized9 h.fields := ⟨_, rfl⟩
  rw [← hX]
  unfold sized9 at hX
  generalize lenN h.fields = n at *
  clear hF
  unfold hc rc at L0 R0 HR
  obtain ⟨d0, d1, d2, d3, d4, d5⟩ := L0.box.cells
  replace L0 := Lib.hid L0
  replace R0 := Lib.hid R0
  unfold hv
  by_cases hn : n < 0
  · replace hX := Lib.hid (show X = (0, 0, 90) by rw [hX, if_pos hn])
    rw [if_pos hn, decide_eq_false (by omega)] at HR
    clear hn
    go_enter Tryd.func30, Tryd.ntmps30
    go_wp2_with fail
    generalize (w.alloc (.cells #[.string (ofL h.method), .string (ofL h.target), .int .i64 h.status, .string (ofL h.reason), .int .i64 h.minor, v] 24)).alloc (.cells #[.int .i64 0, .int .i64 0] 27) = W at *
    refine HR.out.mono ?_
    rintro e w2 ⟨rfl, hb2⟩
    replace R0 := Lib.hid (R0.out.call hb2)
    clear hb2 HR L0 d0 d1 d2 d3 d4 d5
    obtain ⟨c0, c1⟩ := R0.out.box.cells
    obtain ⟨z0, z1⟩ := R0.out.box.frees
    have RE := Lib.hid (R0.out.put (0, 0))
    clear R0
    go_wp2_with fail
    refine bodyPost_ret (v := frv9 X) ?_ rfl ⟨rfl, RE.out.below⟩
    rw [results_cell_tmp rfl]
    exact end_rbox hX.out rfl rfl RE.out.box
  · replace hX := Lib.hid (show X = (2, n, 0) by rw [hX, if_neg hn])
    rw [if_neg hn, decide_eq_true (by omega)] at HR
    clear hn
    go_enter Tryd.func30, Tryd.ntmps30
    go_wp2_with fail
    generalize (w.alloc (.cells #[.string (ofL h.method), .string (ofL h.target), .int .i64 h.status, .string (ofL h.reason), .int .i64 h.minor, v] 24)).alloc (.cells #[.int .i64 0, .int .i64 0] 27) = W at *
    refine HR.out.mono ?_
    rintro e w2 ⟨rfl, hb2⟩
    replace R0 := Lib.hid (R0.out.call hb2)
    clear hb2 HR L0 d0 d1 d2 d3 d4 d5
    obtain ⟨c0, c1⟩ := R0.out.box.cells
    obtain ⟨z0, z1⟩ := R0.out.box.frees
    have RE := Lib.hid (R0.out.put (2, n))
    clear R0
    go_wp2_with fail
    refine bodyPost_ret (v := frv9 X) ?_ rfl ⟨rfl, RE.out.below⟩
    rw [results_cell_tmp rfl]
    exact end_rbox hX.out rfl rfl RE.out.box
set_option maxHeartbeats 1600000 in
theorem pbound_any (h : H8) (v : Value) (most : Int) (hG : Few h.fields) (hle : h.fields.length ≤ 1048576) (w : World) (hF : FL w v h.fields) :
    Calls Tryd.prog 24 #[hv h v, .int .i64 most] w fun e w' => e = .returned (frv9 (bound9 h.fields most)) ∧ Below w.heap.size w w' := by
  obtain ⟨L0, R0⟩ := start9 w h v hF
  have HR := Lib.hid (psized_any h v hG hle _ L0.list)
  obtain ⟨X, hX⟩ : ∃ X, X = bound9 h.fields most := ⟨_, rfl⟩
  rw [← hX]
  unfold bound9 at hX
  unfold sized9 at HR
  generalize lenN h.fields = n at *
  clear hF
  unfold hc rc at L0 R0 HR
  unfold hv at HR ⊢
  obtain ⟨d0, d1, d2, d3, d4, d5⟩ := L0.box.cells
  replace L0 := Lib.hid L0
  replace R0 := Lib.hid R0
  by_cases hn : n < 0
  · replace hX := Lib.hid (show X = (0, 0, 90) by rw [hX, if_pos hn])
    rw [if_pos hn] at HR
    unfold frv9 at HR
    clear hn
    go_enter Tryd.func24, Tryd.ntmps24
    go_wp2_with fail
    generalize (w.alloc (.cells #[.string (ofL h.method), .string (ofL h.target), .int .i64 h.status, .string (ofL h.reason), .int .i64 h.minor, v] 24)).alloc (.cells #[.int .i64 0, .int .i64 0] 27) = W at *
    refine HR.out.mono ?_
    rintro e w2 ⟨rfl, hb2⟩
    replace R0 := Lib.hid ((R0.out.call hb2).call ((Below.refl _ _).alloc (Nat.le_refl _) (.cells (rc (0, 0)) 27)))
    clear hb2 HR L0 d0 d1 d2 d3 d4 d5
    unfold rc at R0
    obtain ⟨c0, c1⟩ := R0.out.box.cells
    obtain ⟨z0, z1⟩ := R0.out.box.frees
    have RE := Lib.hid (R0.out.put (0, 0))
    clear R0
    go_wp2_with fail
    refine bodyPost_ret (v := frv9 X) ?_ rfl ⟨rfl, RE.out.below⟩
    rw [results_cell_tmp rfl]
    exact end_rbox hX.out rfl rfl RE.out.box
  · rw [if_neg hn] at HR
    unfold frv9 at HR
    rcases (show (most < n ∧ X = (0, 0, 101)) ∨ (¬ most < n ∧ X = (2, n, 0)) by
      rw [hX, if_neg hn]
      by_cases hm : most < n
      · exact .inl ⟨hm, if_pos hm⟩
      · exact .inr ⟨hm, if_neg hm⟩) with ⟨hm, hX⟩ | ⟨hm, hX⟩
    · replace hX := Lib.hid hX
      clear hn
      go_enter Tryd.func24, Tryd.ntmps24
      go_wp2_with fail
      generalize (w.alloc (.cells #[.string (ofL h.method), .string (ofL h.target), .int .i64 h.status, .string (ofL h.reason), .int .i64 h.minor, v] 24)).alloc (.cells #[.int .i64 0, .int .i64 0] 27) = W at *
      refine HR.out.mono ?_
      rintro e w2 ⟨rfl, hb2⟩
      replace R0 := Lib.hid ((R0.out.call hb2).call ((Below.refl _ _).alloc (Nat.le_refl _) (.cells (rc (2, n)) 27)))
      have F0 : RBox (w2.alloc (.cells (rc (2, n)) 27)) w2.heap.size (2, n) := ⟨Has.new w2 _ _⟩
      clear hb2 HR L0 d0 d1 d2 d3 d4 d5
      unfold rc at R0 F0
      obtain ⟨f0, f1⟩ := F0.cells
      clear F0
      obtain ⟨c0, c1⟩ := R0.out.box.cells
      obtain ⟨z0, z1⟩ := R0.out.box.frees
      have RE := Lib.hid (R0.out.put (0, 0))
      clear R0
      go_wp2_with fail
      refine bodyPost_ret (v := frv9 X) ?_ rfl ⟨rfl, RE.out.below⟩
      rw [results_cell_tmp rfl]
      exact end_rbox hX.out rfl rfl RE.out.box
    · replace hX := Lib.hid hX
      clear hn
      go_enter Tryd.func24, Tryd.ntmps24
      go_wp2_with fail
      generalize (w.alloc (.cells #[.string (ofL h.method), .string (ofL h.target), .int .i64 h.status, .string (ofL h.reason), .int .i64 h.minor, v] 24)).alloc (.cells #[.int .i64 0, .int .i64 0] 27) = W at *
      refine HR.out.mono ?_
      rintro e w2 ⟨rfl, hb2⟩
      replace R0 := Lib.hid ((R0.out.call hb2).call ((Below.refl _ _).alloc (Nat.le_refl _) (.cells (rc (2, n)) 27)))
      have F0 : RBox (w2.alloc (.cells (rc (2, n)) 27)) w2.heap.size (2, n) := ⟨Has.new w2 _ _⟩
      clear hb2 HR L0 d0 d1 d2 d3 d4 d5
      unfold rc at R0 F0
      obtain ⟨f0, f1⟩ := F0.cells
      clear F0
      obtain ⟨c0, c1⟩ := R0.out.box.cells
      obtain ⟨z0, z1⟩ := R0.out.box.frees
      have RE := Lib.hid (R0.out.put (2, n))
      clear R0
      go_wp2_with fail
      refine bodyPost_ret (v := frv9 X) ?_ rfl ⟨rfl, RE.out.below⟩
      rw [results_cell_tmp rfl]
      exact end_rbox hX.out rfl rfl RE.out.box
end Go.Proofs.YtgkdepoimnmhfaaDoor.PFrSized

/- Layer 9 of the program: Request. -/
namespace Go.Proofs.YtgkdepoimnmhfaaDoor.PFrReq
open Go.ChangeShapes Go.WideShapes Go.ChangeAt Go.RowKit LexPure Bytes Ret Rows1 Texts FieldsPure HeadPure FramePure FrNames Flds PLib PFrCh PFrRef PFrHas PFrEnc PFrSized HBox FrBox Held Mem
set_option maxRecDepth 20000
theorem request_prog (minor : Int) (G : List HField) (most : Int) : request9 minor G most = if 0 < getN G TENC then enc9 minor G (refN (elems G TENC)) else if 0 < getN G CLEN then bound9 G most else (1, 0, 0) := by
  unfold request9 enc9 bound9 refN
  by_cases h1 : 0 < getN G TENC
  · rw [if_pos h1, if_pos h1]
    by_cases h2 : minor = 0 ∨ 0 < getN G CLEN
    · rw [if_pos h2, if_pos (by rcases h2 with h | h; exact .inl h; exact .inr (.inl h))]
    · rw [if_neg h2]
      rcases code_three (elems G TENC) with h | h | h
      · rw [if_neg (by rw [h]; rintro (a | a | a); exact h2 (.inl a); exact h2 (.inr a); cases a), if_pos h, if_neg (by rw [h]; decide)]
      · rw [if_neg (by rw [h]; rintro (a | a | a); exact h2 (.inl a); exact h2 (.inr a); cases a), if_pos h, if_neg (by rw [h]; decide), if_pos h]
      · rw [if_pos (.inr (.inr h)), if_neg (by rw [h]; decide), if_neg (by rw [h]; decide)]
  · rw [if_neg h1, if_neg h1]
    by_cases h2 : getN G CLEN = 0
    · rw [if_pos h2, if_neg (by omega)]
    · rw [if_neg h2, if_pos (Nat.pos_of_ne_zero h2)]
/-- a call of this layer: its head, its answer's box, MaxLen's cell -/
structure PQ (w W : World) (h : H8) (v : Value) (x : Int × Int) : Prop where
  lb : LB w W w.heap.size h v
  rb : RB w W (w.heap.size + 1) x
  mi : MaxInt W
theorem PQ.call {w W W' : World} {h : H8} {v : Value} {x : Int × Int} (q : PQ w W h v x) (hb : Below W.heap.size W W') : PQ w W' h v x := ⟨q.lb.call hb, q.rb.call hb, q.mi.below hb⟩
theorem PQ.drew {w W : World} {h : H8} {v : Value} {x : Int × Int} (q : PQ w W h v x) : PQ w W.drew h v x := q.call ⟨rfl, rfl, rfl, Nat.le_refl _, fun _ _ => rfl⟩
theorem PQ.after {w W : World} {h : H8} {v : Value} {x : Int × Int} (q : PQ w W h v x) (y : Int × Int) : HBox (rput W (w.heap.size + 1) y) w.heap.size h v :=
  (q.lb.box.far (p := ⟨w.heap.size + 1, 0, none⟩) (by simp) _).far (p := ⟨w.heap.size + 1, 1, none⟩) (by simp) _
set_option maxHeartbeats 1600000 in
theorem prequest_any (h : H8) (v : Value) (most : Int) (hG : Few h.fields) (hle : h.fields.length ≤ 1048576) (w : World) (hF : FL w v h.fields) (hm : MaxInt w) :
    Calls Tryd.prog 10 #[hv h v, .int .i64 most] w fun e w' => e = .returned (frv9 (request9 h.minor h.fields most)) ∧ Below w.heap.size w w' := by
  obtain ⟨L0, R0⟩ := start9 w h v hF
  have HM := Lib.hid (hm.below L0.below)
  have HT := Lib.hid (pfrhas_any h v ⟨#[84, 114, 97, 110, 115, 102, 101, 114, 45, 69, 110, 99, 111, 100, 105, 110, 103]⟩ hG _ L0.list)
  rw [show toL ⟨#[84, 114, 97, 110, 115, 102, 101, 114, 45, 69, 110, 99, 111, 100, 105, 110, 103]⟩ = aTENC from rfl, getN_same low_t] at HT
  have HC := Lib.hid (fun w hF => pfrhas_any h v ⟨#[67, 111, 110, 116, 101, 110, 116, 45, 76, 101, 110, 103, 116, 104]⟩ hG w hF)
  rw [show toL ⟨#[67, 111, 110, 116, 101, 110, 116, 45, 76, 101, 110, 103, 116, 104]⟩ = aCLEN from rfl, getN_same low_l] at HC
  have HR := Lib.hid (fun w hF hm => pref_any h v hG hle w hF hm)
  have HE := Lib.hid (fun o w hF hm => penc_any h v o hG hle w hF hm)
  have HB := Lib.hid (fun w hF => pbound_any h v most hG hle w hF)
  obtain ⟨X, hX⟩ : ∃ X, X = request9 h.minor h.fields most := ⟨_, rfl⟩
  rw [← hX]
  rw [request_prog] at hX
  generalize bound9 h.fields most = xb at *
  generalize refN (elems h.fields TENC) = xr at *
  replace HE := Lib.hid (HE.out xr)
  generalize enc9 h.minor h.fields xr = xe at *
  generalize getN h.fields TENC = k1 at *
  generalize getN h.fields CLEN = k2 at *
  clear hF hm
  unfold hc rc at L0 R0 HM HT
  unfold hv at HT HC HR HE HB ⊢
  obtain ⟨d0, d1, d2, d3, d4, d5⟩ := L0.box.cells
  replace L0 := Lib.hid L0
  replace R0 := Lib.hid R0
  go_enter Tryd.func10, Tryd.ntmps10
  go_wp2_with fail
  generalize (w.alloc (.cells #[.string (ofL h.method), .string (ofL h.target), .int .i64 h.status, .string (ofL h.reason), .int .i64 h.minor, v] 24)).alloc (.cells #[.int .i64 0, .int .i64 0] 27) = W at *
  refine HT.out.mono ?_
  rintro e w2 ⟨rfl, hb2⟩
  replace HM := Lib.hid (HM.out.below hb2)
  replace L0 := Lib.hid (L0.out.call hb2)
  replace R0 := Lib.hid (R0.out.call hb2)
  clear HT hb2 d0 d1 d2 d3 d4 d5
  obtain ⟨d0, d1, d2, d3, d4, d5⟩ := L0.out.box.cells
  by_cases h1 : 0 < k1
  · replace hX := Lib.hid (show X = xe by rw [hX, if_pos h1])
    rw [decide_eq_true h1]
    have P1 : PQ w w2 h v (0, 0) := ⟨L0.out, R0.out, HM.out⟩
    have c1 := P1.drew.lb.box.cells
    clear h1 HC HB L0 R0 HM d0 d1 d2 d3 d4 d5
    unfold frv9 at HE
    go_wp2_with fail
    go_region_held3 (fun w' => w'.cell? ⟨w.heap.size, 0, none⟩ = some (.string (ofL h.method)) ∧ w'.cell? ⟨w.heap.size, 1, none⟩ = some (.string (ofL h.target)) ∧ w'.cell? ⟨w.heap.size, 2, none⟩ = some (.int .i64 h.status) ∧ w'.cell? ⟨w.heap.size, 3, none⟩ = some (.string (ofL h.reason)) ∧ w'.cell? ⟨w.heap.size, 4, none⟩ = some (.int .i64 h.minor) ∧ w'.cell? ⟨w.heap.size, 5, none⟩ = some v) (first | exact c4 | exact c3 | exact c2 | exact c1)
      (first
        | (go_at_call 23; refine (HR.out _ P1.drew.lb.list P1.drew.mi).mono ?_; rintro e w3 ⟨rfl, hb3⟩
           have P2 := P1.drew.call hb3
           have c2 := P2.lb.box.cells
           clear hb3 HR)
        | (go_at_call 22; refine (HE.out _ P2.lb.list P2.mi).mono ?_; rintro e w4 ⟨rfl, hb4⟩
           have P3 := P2.call hb4
           have c3 := P3.lb.box.cells
           have c4 := (P3.after (xe.1, xe.2.1)).cells
           obtain ⟨y0, y1⟩ := P3.rb.box.cells
           obtain ⟨z0, z1⟩ := P3.rb.box.frees
           clear hb4 HE))
    have RE := Lib.hid (P3.rb.put (xe.1, xe.2.1))
    have HX : X = (xe.1, xe.2.1, xe.2.2) := hX.out
    clear P1 P2 P3 c1 c2 c3 c4 y0 y1 z0 z1 hX
    go_wp2_with fail
    refine bodyPost_ret (v := frv9 X) ?_ rfl ⟨rfl, RE.out.below⟩
    rw [results_cell_tmp rfl]
    exact end_rbox HX rfl rfl RE.out.box
  · rw [if_neg h1] at hX
    rw [decide_eq_false h1]
    have HC1 := Lib.hid (HC.out _ L0.out.list)
    clear h1 HE HR HC
    go_wp2_with fail
    refine HC1.out.mono ?_
    rintro e w3 ⟨rfl, hb3⟩
    replace L0 := Lib.hid (L0.out.call hb3)
    replace R0 := Lib.hid (R0.out.call hb3)
    clear HC1 hb3 HM d0 d1 d2 d3 d4 d5
    obtain ⟨d0, d1, d2, d3, d4, d5⟩ := L0.out.box.cells
    by_cases h2 : 0 < k2
    · have HX : X = (xb.1, xb.2.1, xb.2.2) := by rw [hX, if_pos h2]
      replace HX := Lib.hid HX
      rw [decide_eq_true h2]
      have HB1 := Lib.hid (HB.out _ L0.out.list)
      unfold frv9 at HB1
      clear h2 hX HB
      go_wp2_with fail
      refine HB1.out.mono ?_
      rintro e w4 ⟨rfl, hb4⟩
      replace R0 := Lib.hid (R0.out.call hb4)
      clear HB1 hb4 L0 d0 d1 d2 d3 d4 d5
      obtain ⟨c0, c1⟩ := R0.out.box.cells
      obtain ⟨z0, z1⟩ := R0.out.box.frees
      have RE := Lib.hid (R0.out.put (xb.1, xb.2.1))
      clear R0
      go_wp2_with fail
      refine bodyPost_ret (v := frv9 X) ?_ rfl ⟨rfl, RE.out.below⟩
      rw [results_cell_tmp rfl]
      exact end_rbox HX.out rfl rfl RE.out.box
    · have HX : X = (1, 0, 0) := by rw [hX, if_neg h2]
      replace HX := Lib.hid HX
      rw [decide_eq_false h2]
      clear h2 hX HB L0 d0 d1 d2 d3 d4 d5
      obtain ⟨c0, c1⟩ := R0.out.box.cells
      obtain ⟨z0, z1⟩ := R0.out.box.frees
      have RE := Lib.hid (R0.out.put (1, 0))
      clear R0
      go_wp2_with fail
      refine bodyPost_ret (v := frv9 X) ?_ rfl ⟨rfl, RE.out.below⟩
      rw [results_cell_tmp rfl]
      exact end_rbox HX.out rfl rfl RE.out.box
end Go.Proofs.YtgkdepoimnmhfaaDoor.PFrReq
