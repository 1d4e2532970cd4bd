/- Texts of this seat, one behind another: R9Has, R9Code, RNumber, RDecimal, R9Len, R9Req. -/
import Derived.Lib.Hide
import Derived.Below
import Derived.Outline
import Derived.LoopTactic
import Derived.Handy
import Derived.Test.YtlgohmghjffiaaaGreatDoorA4
import Derived.Test.YtlgohmghjffiaaaGreatDoorA3
import Derived.Test.YtlgohmghjffiaaaGreatDoorA6
import Derived.Test.YtlgohmghjffiaaaGreatDoorA2
import Derived.Test.YtlgohmghjffiaaaGreatDoorA1
import Derived.Test.YtlgohmghjffiaaaGreatDoorA5
/- Layer 9, the document's own Has. -/
namespace Go.Proofs.YtlgohmghjffiaaaGreatDoor.R9Has
open Go.ChangeShapes Go.WideShapes Go.ChangeAt Go.RowKit LexPure Bytes Ret FieldsPure HeadPure Flds R7Get HBox Mem
set_option maxRecDepth 20000
theorem r9has_any (h : H8) (v : Value) (nm : ByteArray) (hn : nm.size ≤ 1048576) (hG : Few h.fields) (w : World) (hF : FL w v h.fields) :
    Calls Tryz.prog 26 #[hv h v, .string nm] w fun e w' => e = .returned (.bool (decide (0 < getN h.fields (toL nm)))) ∧ Below w.heap.size w w' := by
  have hb1 := (Below.refl w.heap.size w).alloc (Nat.le_refl _) (.cells (hc h v) 30)
  have HR := Lib.hid (rget_any v h.fields nm hn hG _ (hF.below hb1))
  generalize getN h.fields (toL nm) = n at *
  generalize ofL (getV h.fields (toL nm)) = g at *
  unfold hc at hb1 HR
  unfold hv
  replace hb1 := Lib.hid hb1
  go_enter Tryz.func26, Tryz.ntmps26
  go_wp2_with fail
  refine HR.out.mono ?_
  rintro e w' ⟨rfl, hb2⟩
  have HB := Lib.hid (below_chain hb1.out hb2)
  clear hb2 hb1 HR
  go_wp2_with fail
  go_ret
  exact ⟨rfl, HB.out⟩
end Go.Proofs.YtlgohmghjffiaaaGreatDoor.R9Has

/- Layer 9, the document's own Coding. -/
namespace Go.Proofs.YtlgohmghjffiaaaGreatDoor.R9Code
open Go.ChangeShapes Go.WideShapes Go.ChangeAt Go.RowKit LexPure Bytes Ret Rows1 Texts FieldsPure HeadPure FramePure Flds R7Elements R7Has RLower HBox Mem
set_option maxRecDepth 20000
theorem code_nil : codeN [] = 3 := rfl
theorem code_say (I : List (List UInt8)) (x : List UInt8) : codeN (I ++ [x]) = if lower x = CHUNKED ∧ I.all (fun y => !(lower y == CHUNKED)) = true then (if I = [] then 1 else 2) else 3 := by
  unfold codeN
  rw [List.reverse_append, List.reverse_singleton, List.singleton_append]
  simp only [List.all_reverse, List.reverse_eq_nil_iff]
/-- none of the first k is chunked -/
def Fore (I : List (List UInt8)) (k : Nat) : Prop := (I.take k).all (fun y => !(lower y == CHUNKED)) = true
theorem ret_code {a b : Int} (h : a = b) : Ending.returned (.int .i64 a) = .returned (.int .i64 b) := by rw [h]
theorem chunked_at (y : List UInt8) : ((ofL (lower y)).toList == [99, 104, 117, 110, 107, 101, 100]) = (lower y == CHUNKED) := by
  rw [ByteArray.toList_eq, show (ofL (lower y)).data.toList = lower y from toL_ofL _]
  rfl
set_option maxHeartbeats 1600000 in
theorem r9code_any (h : H8) (v : Value) (hG : Few h.fields) (hle : h.fields.length ≤ 1048576) (w : World) (hF : FL w v h.fields) :
    Calls Tryz.prog 27 #[hv h v] w fun e w' => e = .returned (.int .i64 (codeN (elems h.fields TENC) : Nat)) ∧ Below w.heap.size w w' := by
  have hb1 := (Below.refl w.heap.size w).alloc (Nat.le_refl _) (.cells (hc h v) 30)
  have HR := Lib.hid (r7elements_any v h.fields ⟨#[116, 114, 97, 110, 115, 102, 101, 114, 45, 101, 110, 99, 111, 100, 105, 110, 103]⟩ (by decide) hG hle _ (hF.below hb1))
  have hS := Lib.hid (elems_short h.fields TENC hG)
  rw [show toL ⟨#[116, 114, 97, 110, 115, 102, 101, 114, 45, 101, 110, 99, 111, 100, 105, 110, 103]⟩ = TENC from rfl] at HR
  obtain ⟨C, hC⟩ : ∃ C, C = codeN (elems h.fields TENC) := ⟨_, rfl⟩
  rw [← hC]
  generalize elems h.fields TENC = E at *
  replace hC := Lib.hid hC
  unfold hc at hb1 HR
  unfold hv
  replace hb1 := Lib.hid hb1
  clear hF
  go_enter Tryz.func27, Tryz.ntmps27
  go_wp2_with fail
  generalize w.alloc (.cells #[.string (ofL h.method), .string (ofL h.target), .int .i64 h.status, .string (ofL h.reason), .int .i64 h.minor, v] 30) = W at *
  refine HR.out.mono ?_
  rintro e w2 ⟨v2, rfl, hrow, hb2⟩
  obtain ⟨p, cap, rfl, hle2, hc⟩ := texts_of hrow
  have HB0 := Lib.hid (below_chain hb1.out hb2)
  clear HR hrow hb2 hb1
  rcases List.eq_nil_or_concat E with rfl | ⟨I, x, rfl⟩
  · have hV : C = 3 := hC.out
    subst hV
    clear hc hS hC
    go_wp2_with fail
    go_ret
    exact ⟨rfl, HB0.out⟩
  · rw [List.concat_eq_append] at *
    have hV : Hid (C = if lower x = CHUNKED ∧ I.all (fun y => !(lower y == CHUNKED)) = true then (if I = [] then 1 else 2) else 3) := Lib.hid (by rw [hC.out]; exact code_say I x)
    have hln : (I ++ [x]).length = I.length + 1 := by simp
    obtain ⟨g, o, rfl, hgl, hcell⟩ := hc (by rw [hln]; omega)
    have cl := hcell I.length (by rw [hln]; omega)
    rw [List.getElem_concat_length rfl] at cl
    have hs1 := hS.out I.length (by rw [hln]; omega)
    rw [List.getElem_concat_length rfl] at hs1
    have HI : Hid (∀ j (hj : j < I.length), w2.cell? ⟨g, o + j, none⟩ = some (.string (ofL I[j])) ∧ I[j].length ≤ 1048576) := Lib.hid (fun j hj => by
      have h1 := hcell j (by rw [hln]; omega)
      have h2 := hS.out j (by rw [hln]; omega)
      rw [List.getElem_append_left hj] at h1 h2
      exact ⟨h1, h2⟩)
    rw [hln]
    rw [hln] at hle2
    have HL := Lib.hid (fun w => rlower_any (ofL x) (by rw [ofL_size]; omega) w)
    rw [toL_ofL] at HL
    have hch := chunked_at x
    clear hcell hc hS hC hln
    by_cases hx : lower x = CHUNKED
    rotate_left
    · have hV3 : Hid (C = 3) := Lib.hid (by rw [hV.out, if_neg]; exact fun h => hx h.1)
      have hq : ((ofL (lower x)).toList == [99, 104, 117, 110, 107, 101, 100]) = false := by rw [hch]; exact beq_eq_false_iff_ne.2 hx
      have hq2 : ¬ ((ofL (lower x)).toList = [99, 104, 117, 110, 107, 101, 100]) := by
        intro h
        rw [h] at hq
        cases hq
      clear hch hx hV HI
      generalize ofL (lower x) = X at *
      go_wp2_with fail
      refine (HL.out _).mono ?_
      rintro e w3 ⟨rfl, hb3⟩
      have HB := Lib.hid (below_chain HB0.out hb3)
      clear hb3 HL HB0
      go_wp2_with fail
      go_ret
      exact ⟨ret_code (by rw [hV3.out]; rfl), HB.out⟩
    have hV4 : Hid (C = if I.all (fun y => !(lower y == CHUNKED)) = true then (if I = [] then 1 else 2) else 3) := Lib.hid (by
      rw [hV.out]
      by_cases h : I.all (fun y => !(lower y == CHUNKED)) = true
      · rw [if_pos ⟨hx, h⟩, if_pos h]
      · rw [if_neg (fun h2 => h h2.2), if_neg h])
    have hq : ((ofL (lower x)).toList == [99, 104, 117, 110, 107, 101, 100]) = true := by rw [hch, hx]; exact beq_self_eq_true _
    have hq2 : (ofL (lower x)).toList = [99, 104, 117, 110, 107, 101, 100] := by simpa using hq
    clear hch hx hV
    generalize ofL (lower x) = X at *
    go_wp2_with fail
    refine (HL.out _).mono ?_
    rintro e w3 ⟨rfl, hb3⟩
    have HB := Lib.hid (below_chain HB0.out hb3)
    have HI3 : Hid (∀ j (hj : j < I.length), w3.cell? ⟨g, o + j, none⟩ = some (.string (ofL I[j])) ∧ I[j].length ≤ 1048576) := Lib.hid (fun j hj => ⟨(hb3.cell (p := ⟨g, o + j, none⟩) hgl).trans (HI.out j hj).1, (HI.out j hj).2⟩)
    have hgl3 := Nat.lt_of_lt_of_le hgl hb3.size
    clear hb3 HL HB0 HI cl
    go_wp2_with fail
    clear hq hq2
    go_loopw [4] (fun i wr => ∃ k : Nat, k ≤ I.length ∧ i = .int .i64 k ∧ Hid (Fore I k) ∧ Hid (Below w3.heap.size w3 wr)) (fun i _ => I.length - (intOf i).toNat)
    case atStart => exact ⟨0, Nat.zero_le _, rfl, Lib.hid rfl, Lib.hid (Below.refl _ _)⟩
    case round =>
      obtain ⟨k, hk, rfl, ha, HBk⟩ := hrel
      by_cases hlt : k < I.length
      · have hki : (k : Int) < (I.length : Int) := by omega
        have hki2 : (k : Int) < (I.length : Int) + 1 := by omega
        have c1 := (HBk.out.cell (p := ⟨g, o + k, none⟩) hgl3).trans (HI3.out k hlt).1
        have s1 := (HI3.out k hlt).2
        have HL := Lib.hid (fun w => rlower_any (ofL I[k]) (by rw [ofL_size]; omega) w)
        rw [toL_ofL] at HL
        have hch := chunked_at I[k]
        by_cases hy : lower I[k] = CHUNKED
        · have hV3 : Hid (C = 3) := Lib.hid (by
            rw [hV4.out, if_neg]
            intro h
            have := List.all_eq_true.1 h I[k] (List.getElem_mem hlt)
            rw [hy] at this
            cases this)
          have hq : ((ofL (lower I[k])).toList == [99, 104, 117, 110, 107, 101, 100]) = true := by rw [hch, hy]; exact beq_self_eq_true _
          clear hch hy ha hV4
          generalize ofL (lower I[k]) = X at *
          go_wp2_with fail
          refine (HL.out _).mono ?_
          rintro e w4 ⟨rfl, hb4⟩
          have HB4 := Lib.hid (below_chain HB.out (below_chain HBk.out hb4))
          clear hb4 HL c1
          go_wp2_with fail
          go_ret
          exact ⟨ret_code (by rw [hV3.out]; rfl), HB4.out⟩
        · have hq : ((ofL (lower I[k])).toList == [99, 104, 117, 110, 107, 101, 100]) = false := by rw [hch]; exact beq_eq_false_iff_ne.2 hy
          have HA : Hid (Fore I (k + 1)) := Lib.hid (by
            have ha2 := ha.out
            unfold Fore at ha2 ⊢
            rw [List.take_add_one, List.getElem?_eq_getElem hlt, List.all_append, ha2]
            simp [hy])
          clear hch hy ha
          generalize ofL (lower I[k]) = X at *
          go_wp2_with fail
          refine (HL.out _).mono ?_
          rintro e w4 ⟨rfl, hb4⟩
          have HB4 := Lib.hid (below_chain HBk.out hb4)
          clear hb4 HL c1
          go_wp2_with fail
          go_simp
          exact ⟨⟨k + 1, by omega, by omega, HA⟩, by simp [intOf]; omega⟩
      · have hki : ¬ ((k : Int) < (I.length : Int)) := by omega
        have hV5 : Hid (C = if I = [] then 1 else 2) := Lib.hid (by
          have h := ha.out
          unfold Fore at h
          rw [List.take_of_length_le (by omega)] at h
          rw [hV4.out, if_pos h])
        have HB4 := Lib.hid (below_chain HB.out HBk.out)
        clear ha hV4 HI3 HBk
        by_cases h0 : I = []
        · subst h0
          go_wp2_with fail
          go_ret
          exact ⟨ret_code (by rw [hV5.out]; rfl), HB4.out⟩
        · have hl : 0 < I.length := List.length_pos_iff.2 h0
          have hq : ((I.length : Int) + 1 == 1) = false := beq_eq_false_iff_ne.2 (by omega)
          have hV6 : Hid (C = 2) := Lib.hid (by rw [hV5.out, if_neg h0])
          clear h0 hV5 hl
          go_wp2_with fail
          go_ret
          exact ⟨ret_code (by rw [hV6.out]; rfl), HB4.out⟩
end Go.Proofs.YtlgohmghjffiaaaGreatDoor.R9Code

/- Layer 4, the document's own number. -/
namespace Go.Proofs.YtlgohmghjffiaaaGreatDoor.RNumber
open Go.ChangeShapes Go.WideShapes Go.ChangeAt Go.RowKit LexPure Bytes Ret LexNum
set_option maxRecDepth 20000
set_option maxHeartbeats 2000000 in
theorem rnumber_any (s : ByteArray) (hs : s.size ≤ maxLen) (digits : Int) (base : Nat) (hF : Fit base digits) (w : World) :
    Calls Tryz.prog 56 #[.string s, .int .i64 digits, .int .i64 (base : Int)] w fun e w' => e = .returned (.tuple #[.int .i64 (numR base digits (toL s)), .bool (numOk base digits (toL s))]) ∧ w = w' := by
  unfold maxLen at hs
  have HF := Lib.hid hF
  clear hF
  by_cases hlen : 1 ≤ s.size ∧ (s.size : Int) ≤ digits
  · obtain ⟨hl1, hl2⟩ := hlen
    go_enter Tryz.func56, Tryz.ntmps56
    go_wp2_with fail
    go_loop [8, 9] (fun n i => ∃ k : Nat, k ≤ s.size ∧ i = .int .i64 k ∧ n = .int .i64 (numV base ((toL s).take k) : Nat) ∧ Hid (((toL s).take k).all (fun c => decide (dig c < base)) = true)) (fun _ i => s.size - (intOf i).toNat)
    case atStart => exact ⟨0, Nat.zero_le _, rfl, rfl, Lib.hid rfl⟩
    case round =>
      obtain ⟨k, hk, rfl, rfl, ha⟩ := hrel
      by_cases hlt : k < s.size
      · have hki : (k : Int) < (s.size : Int) := by omega
        have HT := Lib.hid (toL_take_succ s k hlt)
        have HG := Lib.hid (toL_get s k hlt)
        obtain ⟨hb1, hb2⟩ := HF.out.bound (l := (toL s).take k) (by rw [List.length_take, toL_length]; omega) ha.out
        have hd := dig_at s[k]
        have hdl := dig_le s[k]
        have hub : (s[k].toNat : Int) ≤ 255 := by have := s[k].toNat_lt; omega
        have HN : Hid (numV base ((toL s).take (k + 1)) = base * numV base ((toL s).take k) + dig s[k]) := Lib.hid (by rw [HT.out, numV_snoc])
        generalize numV base ((toL s).take k) = n at *
        have hp0 : 0 ≤ (base : Int) * (n : Int) := by omega
        have hp1 : (base : Int) * (n : Int) ≤ 1152921504606846976 := by
          have : ((base * n : Nat) : Int) ≤ 1152921504606846976 := by omega
          rwa [Int.natCast_mul] at this
        clear hb1
        by_cases hdb : dig s[k] < base
        · have HA : Hid (((toL s).take (k + 1)).all (fun c => decide (dig c < base)) = true) := Lib.hid (by rw [HT.out, List.all_append, ha.out]; simp [hdb])
          have HN2 : Hid ((numV base ((toL s).take (k + 1)) : Int) = (base : Int) * n + (dig s[k] : Nat)) := Lib.hid (by rw [HN.out]; push_cast; rfl)
          clear HT HG HN ha
          rcases hd with ⟨h1, h2⟩ | ⟨h1, h2, h3⟩ | ⟨h1, h2, h3⟩ | ⟨h1, h2, h3⟩ | ⟨h1, h2, h3⟩ | ⟨h1, h2, h3⟩ | ⟨h1, h2⟩
          · omega
          · have hb : ¬ ((base : Int) ≤ (s[k].toNat : Int) - 48) := by omega
            have HN3 : Hid ((base : Int) * n + ((s[k].toNat : Int) - 48) = (numV base ((toL s).take (k + 1)) : Int)) := Lib.hid (by rw [HN2.out, h3])
            clear HN2 h3 hdl hdb
            go_wp2_with fail
            go_round
            case rel => exact ⟨k + 1, by omega, by go_num, by rw [HN3.out], HA⟩
            case measure => simp [intOf]; omega
          · omega
          · have hb : ¬ ((base : Int) ≤ (s[k].toNat : Int) - 55) := by omega
            have HN3 : Hid ((base : Int) * n + ((s[k].toNat : Int) - 55) = (numV base ((toL s).take (k + 1)) : Int)) := Lib.hid (by rw [HN2.out, h3])
            clear HN2 h3 hdl hdb
            go_wp2_with fail
            go_round
            case rel => exact ⟨k + 1, by omega, by go_num, by rw [HN3.out], HA⟩
            case measure => simp [intOf]; omega
          · omega
          · have hb : ¬ ((base : Int) ≤ (s[k].toNat : Int) - 87) := by omega
            have HN3 : Hid ((base : Int) * n + ((s[k].toNat : Int) - 87) = (numV base ((toL s).take (k + 1)) : Int)) := Lib.hid (by rw [HN2.out, h3])
            clear HN2 h3 hdl hdb
            go_wp2_with fail
            go_round
            case rel => exact ⟨k + 1, by omega, by go_num, by rw [HN3.out], HA⟩
            case measure => simp [intOf]; omega
          · omega
        · have HV2 : Hid (numOk base digits (toL s) = false) := Lib.hid (by
            unfold numOk
            rw [Bool.and_eq_false_iff]
            right
            rw [List.all_eq_false]
            exact ⟨s[k], List.mem_of_getElem? HG.out, by simpa using hdb⟩)
          have HV1 : Hid (numR base digits (toL s) = 0) := Lib.hid (by unfold numR; rw [HV2.out]; rfl)
          clear HT HG HN ha
          rcases hd with ⟨h1, h2⟩ | ⟨h1, h2, h3⟩ | ⟨h1, h2, h3⟩ | ⟨h1, h2, h3⟩ | ⟨h1, h2, h3⟩ | ⟨h1, h2, h3⟩ | ⟨h1, h2⟩
          · have hb : (base : Int) ≤ 99 := by omega
            clear h2 hdl hdb
            go_wp2_with fail
            go_ret2
            exact ⟨ret_num HV1.out.symm HV2.out.symm, rfl⟩
          · have hb : (base : Int) ≤ (s[k].toNat : Int) - 48 := by omega
            clear h3 hdl hdb
            go_wp2_with fail
            go_ret2
            exact ⟨ret_num HV1.out.symm HV2.out.symm, rfl⟩
          · have hb : (base : Int) ≤ 99 := by omega
            clear h3 hdl hdb
            go_wp2_with fail
            go_ret2
            exact ⟨ret_num HV1.out.symm HV2.out.symm, rfl⟩
          · have hb : (base : Int) ≤ (s[k].toNat : Int) - 55 := by omega
            clear h3 hdl hdb
            go_wp2_with fail
            go_ret2
            exact ⟨ret_num HV1.out.symm HV2.out.symm, rfl⟩
          · have hb : (base : Int) ≤ 99 := by omega
            clear h3 hdl hdb
            go_wp2_with fail
            go_ret2
            exact ⟨ret_num HV1.out.symm HV2.out.symm, rfl⟩
          · have hb : (base : Int) ≤ (s[k].toNat : Int) - 87 := by omega
            clear h3 hdl hdb
            go_wp2_with fail
            go_ret2
            exact ⟨ret_num HV1.out.symm HV2.out.symm, rfl⟩
          · have hb : (base : Int) ≤ 99 := by omega
            clear h2 hdl hdb
            go_wp2_with fail
            go_ret2
            exact ⟨ret_num HV1.out.symm HV2.out.symm, rfl⟩
      · have hall : (toL s).take k = toL s := toL_take_all s (by omega)
        have HV2 : Hid (numOk base digits (toL s) = true) := Lib.hid (by
          unfold numOk
          have h := ha.out
          rw [hall] at h
          rw [h, toL_length, decide_eq_true hl2]
          have : (toL s).isEmpty = false := by
            cases hl : toL s with
            | nil => have := toL_length s; rw [hl] at this; simp at this; omega
            | cons => rfl
          rw [this]
          rfl)
        have HV1 : Hid (numR base digits (toL s) = (numV base (toL s) : Int)) := Lib.hid (by unfold numR; rw [HV2.out]; rfl)
        rw [hall]
        clear ha hall
        go_wp2_with fail
        go_ret2
        exact ⟨ret_num HV1.out.symm HV2.out.symm, rfl⟩
  · have HV2 : Hid (numOk base digits (toL s) = false) := Lib.hid (by
      unfold numOk
      rw [toL_length]
      by_cases h0 : s.size = 0
      · rw [List.isEmpty_iff.2 (List.length_eq_zero_iff.1 (by rw [toL_length]; exact h0))]
        rfl
      · rw [decide_eq_false (by omega)]
        simp)
    have HV1 : Hid (numR base digits (toL s) = 0) := Lib.hid (by unfold numR; rw [HV2.out]; rfl)
    have hx : (s.size : Int) < 1 ∨ (1 ≤ (s.size : Int) ∧ digits < (s.size : Int)) := by omega
    clear hlen
    rcases hx with h1 | ⟨h1, h2⟩
    all_goals
      go_enter Tryz.func56, Tryz.ntmps56
      go_wp2_with fail
      go_ret2
      exact ⟨ret_num HV1.out.symm HV2.out.symm, rfl⟩
end Go.Proofs.YtlgohmghjffiaaaGreatDoor.RNumber

/- Layer 4, the document's own Decimal. -/
namespace Go.Proofs.YtlgohmghjffiaaaGreatDoor.RDecimal
open Go.ChangeShapes Go.WideShapes Go.ChangeAt Go.RowKit LexPure Bytes Ret LexNum RNumber
set_option maxRecDepth 20000
theorem rdecimal_any (s : ByteArray) (hs : s.size ≤ maxLen) (digits : Int) (w : World) :
    Calls Tryz.prog 44 #[.string s, .int .i64 digits] w fun e w' => e = .returned (.tuple #[.int .i64 (numR 10 (min digits 18) (toL s)), .bool (numOk 10 (min digits 18) (toL s))]) ∧ w = w' := by
  have HN := Lib.hid (rnumber_any s hs (min digits 18) 10 (.inl ⟨rfl, Int.min_le_right _ _⟩))
  clear hs
  by_cases h : 18 < digits
  · have hm : min digits 18 = 18 := by omega
    rw [hm] at HN ⊢
    go_enter Tryz.func44, Tryz.ntmps44
    go_wp2_with fail
    refine (HN.out _).mono ?_
    rintro e w' ⟨rfl, rfl⟩
    go_wp2_with fail
    go_ret2
    exact ⟨rfl, rfl⟩
  · have hm : min digits 18 = digits := by omega
    rw [hm] at HN ⊢
    go_enter Tryz.func44, Tryz.ntmps44
    go_wp2_with fail
    refine (HN.out _).mono ?_
    rintro e w' ⟨rfl, rfl⟩
    go_wp2_with fail
    go_ret2
    exact ⟨rfl, rfl⟩
end Go.Proofs.YtlgohmghjffiaaaGreatDoor.RDecimal

/- Layer 9, the document's own Length. -/
namespace Go.Proofs.YtlgohmghjffiaaaGreatDoor.R9Len
open Go.ChangeShapes Go.WideShapes Go.ChangeAt Go.RowKit LexPure Bytes Ret Rows1 LexList LexNum FieldsPure HeadPure FramePure Flds RLower RTrim RDecimal HBox Mem
set_option maxRecDepth 20000
/-- the lengths of a value from a place on -/
def lrest (s : ByteArray) (f : Nat) : List (List UInt8) := if f ≤ s.size then (pieces ((toL s).drop f)).map trim else []
/-- behind k bytes of a value, the last comma ahead of f; C is what the whole comes to, m the number so far -/
structure NInv (s : ByteArray) (more : List (List UInt8)) (C m : Int) (k f : Nat) : Prop where
  all_ : C = lenFrom m (lrest s f ++ more)
  le : f ≤ k
  in_ : k ≤ s.size → f ≤ s.size
  out_ : s.size < k → s.size < f
  no : noComma (((toL s).drop f).take (k - f)) = true
  least : -1 ≤ m
theorem lrest_end {s : ByteArray} {f : Nat} (hf : f ≤ s.size) (h : noComma (((toL s).drop f).take (s.size - f)) = true) : lrest s f = trim (((toL s).drop f).take (s.size - f)) :: lrest s (s.size + 1) := by
  unfold lrest
  have e : ((toL s).drop f).take (s.size - f) = (toL s).drop f := List.take_of_length_le (by rw [List.length_drop, toL_length]; omega)
  rw [if_pos hf, if_neg (by omega)]
  rw [e] at h ⊢
  rw [pieces_plain h]
  rfl
theorem lrest_cut {s : ByteArray} {f k : Nat} (hf : f ≤ k) (hk : k < s.size) (h : noComma (((toL s).drop f).take (k - f)) = true) (hc : s[k] = 44) : lrest s f = trim (((toL s).drop f).take (k - f)) :: lrest s (k + 1) := by
  unfold lrest
  rw [if_pos (by omega), if_pos (by omega)]
  have e : (toL s).drop f = ((toL s).drop f).take (k - f) ++ 44 :: (toL s).drop (k + 1) := by
    have h1 := List.take_append_drop (k - f) ((toL s).drop f)
    rw [List.drop_drop, show f + (k - f) = k by omega, toL_drop s k hk, hc] at h1
    exact h1.symm
  conv => lhs; rw [e]
  rw [pieces_cut h]
  rfl
theorem piece_eq9 (s : ByteArray) (f k : Nat) : toL (s.extract f k) = ((toL s).drop f).take (k - f) := by
  rw [toL_extract, List.drop_take]
theorem clen_at (f : HField) : ((ofL (lower f.1)).toList == [99, 111, 110, 116, 101, 110, 116, 45, 108, 101, 110, 103, 116, 104]) = hit CLEN f := by
  rw [ByteArray.toList_eq, show (ofL (lower f.1)).data.toList = lower f.1 from toL_ofL _]
  unfold hit alike
  rw [show lower CLEN = CLEN by decide]
  rfl
theorem ret_len {a b : Int} (h : a = b) : Ending.returned (.int .i64 a) = .returned (.int .i64 b) := by rw [h]
set_option maxHeartbeats 1600000 in
theorem r9len_any (h : H8) (v : Value) (hG : Few h.fields) (hle : h.fields.length ≤ 1048576) (w : World) (hF : FL w v h.fields) :
    Calls Tryz.prog 28 #[hv h v] w fun e w' => e = .returned (.int .i64 (lenN h.fields)) ∧ Below w.heap.size w w' := by
  have hb1 := (Below.refl w.heap.size w).alloc (Nat.le_refl _) (.cells (hc h v) 30)
  have B0 : HBox (w.alloc (.cells (hc h v) 30)) w.heap.size h v := ⟨Has.new w _ _⟩
  have hsz : w.heap.size < (w.alloc (.cells (hc h v) 30)).heap.size := by simp
  have hF1 := hF.below hb1
  obtain ⟨C, hC⟩ : ∃ C, C = lenN h.fields := ⟨_, rfl⟩
  rw [← hC]
  replace hC := Lib.hid hC
  obtain ⟨p, cap, rfl, hle2, hcl⟩ := hF1
  replace hcl := Lib.hid hcl
  unfold hc at hb1 B0 hcl hsz
  unfold hv
  replace hb1 := Lib.hid hb1
  replace B0 := Lib.hid B0
  clear hF
  generalize hFs : h.fields = G at *
  go_enter Tryz.func28, Tryz.ntmps28
  go_wp2_with fail
  generalize w.alloc (.cells #[.string (ofL h.method), .string (ofL h.target), .int .i64 h.status, .string (ofL h.reason), .int .i64 h.minor, .slice p G.length cap] 30) = W at *
  obtain ⟨gb, hgb⟩ : ∃ g, g = w.heap.size := ⟨_, rfl⟩
  rw [← hgb] at B0 hsz ⊢
  replace hgb := Lib.hid hgb
  have HB00 := Lib.hid (Below.refl W.heap.size W)
  go_loopw [3, 4] (fun nu i wr => ∃ (k : Nat) (m : Int), k ≤ G.length ∧ i = .int .i64 k ∧ nu = .int .i64 m ∧ Hid (-1 ≤ m ∧ C = lenFrom m (lens (G.drop k))) ∧ Hid (Below W.heap.size W wr)) (fun _ i _ => G.length - (intOf i).toNat)
  case atStart => exact ⟨0, -1, Nat.zero_le _, rfl, rfl, Lib.hid ⟨Int.le_refl _, by rw [List.drop_zero]; exact hC.out⟩, HB00⟩
  case round =>
    clear HB00
    obtain ⟨k, m, hk, rfl, rfl, hm, HB⟩ := hrel
    have B1 := B0.out.below HB.out hsz
    obtain ⟨d0, d1, d2, d3, d4, d5⟩ := B1.cells
    by_cases hlt : k < G.length
    · obtain ⟨g, o, rfl, hgl, hcell⟩ := hcl.out (by omega)
      obtain ⟨c1, c2⟩ := hcell k hlt
      replace c1 := (HB.out.cell (p := ⟨g, o + k * 2, none⟩) hgl).trans c1
      replace c2 := (HB.out.cell (p := ⟨g, o + k * 2 + 1, none⟩) hgl).trans c2
      have hki : (k : Int) < (G.length : Int) := by omega
      obtain ⟨s1, s2⟩ := hG k hlt
      have HL := Lib.hid (fun w => rlower_any (ofL G[k].1) (by rw [ofL_size]; omega) w)
      rw [toL_ofL] at HL
      have hch := clen_at G[k]
      have hlc : lens (G.drop k) = if hit CLEN G[k] then (pieces G[k].2).map trim ++ lens (G.drop (k + 1)) else lens (G.drop (k + 1)) := by
        rw [← lens_cons, ← List.drop_eq_getElem_cons hlt]
      have hgl2 := Nat.lt_of_lt_of_le hgl HB.out.size
      have hsz2 := Nat.lt_of_lt_of_le hsz HB.out.size
      clear hcell
      cases hh : hit CLEN G[k] with
      | false =>
        have HM : Hid (-1 ≤ m ∧ C = lenFrom m (lens (G.drop (k + 1)))) := Lib.hid ⟨hm.out.1, by rw [hm.out.2, hlc, hh]; rfl⟩
        rw [hh] at hch
        clear hlc hh hm
        generalize ofL (lower G[k].1) = X at *
        generalize ofL G[k].1 = A at *
        generalize ofL G[k].2 = S at *
        go_wp2_with fail
        refine (HL.out _).mono ?_
        rintro e w4 ⟨rfl, hb4⟩
        have HB4 := Lib.hid (below_chain HB.out hb4)
        clear hb4 HL c1 c2 d0 d1 d2 d3 d4 d5 B1
        go_wp2_with fail
        exact ⟨⟨k + 1, m, by omega, by go_num, rfl, HM, HB4⟩, by simp [intOf]; omega⟩
      | true =>
        have hMs : Hid (-1 ≤ m ∧ C = lenFrom m (lrest (ofL G[k].2) 0 ++ lens (G.drop (k + 1)))) := Lib.hid ⟨hm.out.1, by
          rw [hm.out.2, hlc, hh]
          unfold lrest
          rw [if_pos (Nat.zero_le _), List.drop_zero, toL_ofL]
          rfl⟩
        rw [hh] at hch
        have hS : (ofL G[k].2).size ≤ 1048576 := by rw [ofL_size]; exact s2
        clear hlc hh hm
        generalize ofL (lower G[k].1) = X at *
        generalize ofL G[k].1 = A at *
        generalize ofL G[k].2 = S at *
        obtain ⟨more, hmore⟩ : ∃ more, more = lens (G.drop (k + 1)) := ⟨_, rfl⟩
        rw [← hmore] at hMs
        replace hmore := Lib.hid hmore
        go_wp2_with fail
        refine (HL.out _).mono ?_
        rintro e w4 ⟨rfl, hb4⟩
        have HB4 := Lib.hid (below_chain HB.out hb4)
        replace c2 := (hb4.cell (p := ⟨g, o + k * 2 + 1, none⟩) hgl2).trans c2
        obtain ⟨d0', d1', d2', d3', d4', d5'⟩ := (B1.below hb4 hsz2).cells
        clear hb4 HL c1 d0 d1 d2 d3 d4 d5 B1
        have HI0 : Hid (NInv S more C m 0 0) := Lib.hid ⟨hMs.out.2, Nat.le_refl _, fun _ => Nat.zero_le _, fun h => h, rfl, hMs.out.1⟩
        clear hMs
        go_wp2_with fail
        go_loop [3, 6, 7] (fun nu f i => ∃ (j q : Nat) (n : Int), j ≤ S.size + 1 ∧ i = .int .i64 j ∧ f = .int .i64 q ∧ nu = .int .i64 n ∧ Hid (NInv S more C n j q)) (fun _ _ i => S.size + 1 - (intOf i).toNat)
        case atStart => exact ⟨0, 0, m, Nat.zero_le _, rfl, rfl, rfl, HI0⟩
        case round =>
          clear HI0
          obtain ⟨j, q, n, hj, rfl, rfl, rfl, HI⟩ := hrel
          have I := HI.out
          have hqj := I.le
          have hls := I.least
          by_cases hle3 : j ≤ S.size
          · have hji : (j : Int) ≤ (S.size : Int) := by omega
            have hqs := I.in_ hle3
            have hqi : (q : Int) ≤ (j : Int) := by omega
            by_cases hcut : j = S.size ∨ (∃ h : j < S.size, S[j] = 44)
            · obtain ⟨P, hP⟩ : ∃ P, P = trim (((toL S).drop q).take (j - q)) := ⟨_, rfl⟩
              have hE : lrest S q = P :: lrest S (j + 1) := by
                rcases hcut with h | ⟨h, hc⟩
                · subst h
                  rw [hP]
                  exact lrest_end hqs I.no
                · rw [hP]
                  exact lrest_cut hqj h I.no hc
              have hT := Lib.hid (fun w => (rtrim_any (S.extract q j) (by unfold maxLen; rw [ByteArray.size_extract]; omega) w).mono (fun e w' h => (⟨h.1, h.2.symm⟩ : e = .returned (.string (ofL (trim (toL (S.extract q j))))) ∧ w' = w)))
              rw [piece_eq9, ← hP] at hT
              have hPl : P.length ≤ S.size := by
                rw [hP]
                refine Nat.le_trans (trim_length _) ?_
                rw [List.length_take, List.length_drop, toL_length]
                omega
              have hD := Lib.hid (fun w => (rdecimal_any (ofL P) (by unfold maxLen; rw [ofL_size]; omega) 15 w).mono (fun e w' h => (⟨h.1, h.2.symm⟩ : e = .returned (.tuple #[.int .i64 (numR 10 (min 15 18) (toL (ofL P))), .bool (numOk 10 (min 15 18) (toL (ofL P)))]) ∧ w' = w)))
              rw [toL_ofL, show min (15 : Int) 18 = 15 from rfl] at hD
              have hC2 : C = lenFrom n (P :: (lrest S (j + 1) ++ more)) := by rw [I.all_, hE]; rfl
              unfold lenFrom lenStep at hC2
              have hpos := numR_pos 10 15 P
              have hx : (((j : Int) == (S.size : Int)) = true ∧ ¬ ((j : Int) < (S.size : Int))) ∨ (∃ h : j < S.size, (j : Int) < (S.size : Int) ∧ ((S[j].toNat : Int) != 44) = false) := by
                rcases hcut with h | ⟨h, hc⟩
                · exact .inl ⟨by rw [h]; exact beq_self_eq_true _, by omega⟩
                · exact .inr ⟨h, by omega, by rw [hc]; rfl⟩
              have hNI : ∀ z : Int, -1 ≤ z → C = lenFrom z (lrest S (j + 1) ++ more) → Hid (NInv S more C z (j + 1) (j + 1)) := fun z h1 h2 => Lib.hid ⟨h2, Nat.le_refl _, fun h => h, fun h => h, by rw [Nat.sub_self]; rfl, h1⟩
              replace hNI := Lib.hid hNI
              clear hE I HI hcut hP
              generalize numR 10 15 P = z at *
              generalize numOk 10 15 P = ok at *
              generalize ofL P = PS at *
              have hout : (ok = false ∧ C = -1) ∨ (ok = true ∧ ¬ (0 : Int) ≤ n ∧ C = lenFrom z (lrest S (j + 1) ++ more)) ∨ (ok = true ∧ (0 : Int) ≤ n ∧ z = n ∧ C = lenFrom z (lrest S (j + 1) ++ more)) ∨ (ok = true ∧ (0 : Int) ≤ n ∧ (z != n) = true ∧ C = -1) := by
                cases ok with
                | false =>
                  rw [if_neg (by simp)] at hC2
                  exact .inl ⟨rfl, hC2⟩
                | true =>
                  by_cases h0 : 0 ≤ n
                  · by_cases hz : z = n
                    · rw [if_pos ⟨rfl, .inr hz⟩] at hC2
                      exact .inr (.inr (.inl ⟨rfl, h0, hz, hC2⟩))
                    · rw [if_neg (by rintro ⟨_, h | h⟩; omega; exact hz h)] at hC2
                      exact .inr (.inr (.inr ⟨rfl, h0, bne_iff_ne.2 hz, hC2⟩))
                  · rw [if_pos ⟨rfl, .inl (by omega)⟩] at hC2
                    exact .inr (.inl ⟨rfl, h0, hC2⟩)
              clear hC2
              rcases hx with ⟨x1, x2⟩ | ⟨x0, x1, x2⟩ <;> rcases hout with ⟨rfl, hV⟩ | ⟨rfl, h0, hV⟩ | ⟨rfl, h0, rfl, hV⟩ | ⟨rfl, h0, h1, hV⟩
              all_goals
                first
                | (replace hV := Lib.hid (show C = -1 from hV)
                   clear hNI
                   go_wp2_with fail
                   refine (hT.out _).mono ?_
                   rintro e w5 ⟨rfl, rfl⟩
                   go_wp2_with fail
                   refine (hD.out _).mono ?_
                   rintro e w6 ⟨rfl, rfl⟩
                   go_wp2_with fail
                   go_ret
                   exact ⟨ret_len hV.out.symm, below_chain hb1.out HB4.out⟩)
                | (have HN := hNI.out _ (by omega) hV
                   clear hNI hV
                   go_wp2_with fail
                   refine (hT.out _).mono ?_
                   rintro e w5 ⟨rfl, rfl⟩
                   go_wp2_with fail
                   refine (hD.out _).mono ?_
                   rintro e w6 ⟨rfl, rfl⟩
                   go_wp2_with fail
                   go_round
                   case rel => exact ⟨j + 1, j + 1, _, by omega, by go_num, by go_num, rfl, HN⟩
                   case measure => simp [intOf]; omega)
            · have hlt3 : j < S.size := by
                rcases Nat.lt_or_ge j S.size with h | h
                · exact h
                · exact absurd (.inl (by omega)) hcut
              have hcb : (S[j] == 44) = false := by
                rw [beq_eq_false_iff_ne]
                exact fun h => hcut (.inr ⟨hlt3, h⟩)
              have hcd : ((S[j].toNat : Int) != 44) = true := by
                have := all_bytes (p := fun b => (((b.toNat : Int) != 44) == !(b == 44))) (by decide +kernel) S[j]
                rw [beq_iff_eq] at this
                rw [this, hcb]
                rfl
              have hji2 : (j : Int) < (S.size : Int) := by omega
              have HN : Hid (NInv S more C n (j + 1) q) := Lib.hid ⟨I.all_, by omega, fun _ => hqs, fun h => by omega, by
                rw [show j + 1 - q = j - q + 1 by omega, List.take_add_one, List.getElem?_drop, show q + (j - q) = j by omega, toL_get S j hlt3]
                exact noComma_snoc I.no hcb, I.least⟩
              clear hcut hcb HI I
              go_wp2_with fail
              go_round
              case rel => exact ⟨j + 1, q, n, by omega, by go_num, rfl, rfl, HN⟩
              case measure => simp [intOf]; omega
          · have hji : ¬ ((j : Int) ≤ (S.size : Int)) := by omega
            have hq2 := I.out_ (by omega)
            have HM : Hid (-1 ≤ n ∧ C = lenFrom n (lens (G.drop (k + 1)))) := Lib.hid ⟨I.least, by
              rw [I.all_, show lrest S q = [] by unfold lrest; rw [if_neg (by omega)], List.nil_append, hmore.out]⟩
            clear HI I hle3
            go_wp2_with fail
            exact ⟨⟨k + 1, n, by omega, by go_num, rfl, HM, HB4⟩, by simp [intOf]; omega⟩
    · have hki : ¬ ((k : Int) < (G.length : Int)) := by omega
      have hV : Hid (C = m) := Lib.hid (by
        rw [hm.out.2, List.drop_eq_nil_of_le (by omega)]
        rfl)
      clear hm
      go_wp2_with fail
      go_ret
      exact ⟨ret_len hV.out.symm, below_chain hb1.out HB.out⟩
end Go.Proofs.YtlgohmghjffiaaaGreatDoor.R9Len

/- Layer 9, the document's own Request. -/
namespace Go.Proofs.YtlgohmghjffiaaaGreatDoor.R9Req
open Go.ChangeShapes Go.WideShapes Go.ChangeAt Go.RowKit LexPure Bytes Ret Rows1 FieldsPure HeadPure FramePure Flds HBox Held R9Has R9Code R9Len Mem
set_option maxRecDepth 20000
def trip (r : Int × Int × Int) : Value := .tuple #[.int .i64 r.1, .int .i64 r.2.1, .int .i64 r.2.2]
theorem ret_trip {a b c : Int} {r : Int × Int × Int} (h : r = (a, b, c)) : Ending.returned (.tuple #[.int .i64 a, .int .i64 b, .int .i64 c]) = .returned (trip r) := by rw [h]; rfl
set_option maxHeartbeats 1600000 in
theorem r9request_any (h : H8) (v : Value) (most : Int) (hG : Few h.fields) (hle : h.fields.length ≤ 1048576) (w : World) (hF : FL w v h.fields) :
    Calls Tryz.prog 12 #[hv h v, .int .i64 most] w fun e w' => e = .returned (trip (request9 h.minor h.fields most)) ∧ Below w.heap.size w w' := by
  have L0 := LB.new (Below.refl w.heap.size w) hF
  have H1 := Lib.hid (fun w hF => r9has_any h v ⟨#[99, 111, 110, 116, 101, 110, 116, 45, 108, 101, 110, 103, 116, 104]⟩ (by decide) hG w hF)
  have H2 := Lib.hid (fun w hF => r9has_any h v ⟨#[116, 114, 97, 110, 115, 102, 101, 114, 45, 101, 110, 99, 111, 100, 105, 110, 103]⟩ (by decide) hG w hF)
  have H3 := Lib.hid (fun w hF => r9code_any h v hG hle w hF)
  have H4 := Lib.hid (fun w hF => r9len_any h v hG hle w hF)
  rw [show toL ⟨#[99, 111, 110, 116, 101, 110, 116, 45, 108, 101, 110, 103, 116, 104]⟩ = CLEN from rfl] at H1
  rw [show toL ⟨#[116, 114, 97, 110, 115, 102, 101, 114, 45, 101, 110, 99, 111, 100, 105, 110, 103]⟩ = TENC from rfl] at H2
  obtain ⟨X, hX⟩ : ∃ X, X = request9 h.minor h.fields most := ⟨_, rfl⟩
  rw [← hX]
  unfold request9 at hX
  generalize codeN (elems h.fields TENC) = c at *
  generalize lenN h.fields = n at *
  generalize getN h.fields CLEN = k1 at *
  generalize getN h.fields TENC = k2 at *
  replace hX := Lib.hid hX
  obtain ⟨p, cap, rfl, _, _⟩ := id hF
  unfold hc at L0
  unfold hv at H1 H2 H3 H4 ⊢
  replace L0 := Lib.hid L0
  clear hF
  go_enter Tryz.func12, Tryz.ntmps12
  go_wp2_with fail
  generalize w.alloc (.cells #[.string (ofL h.method), .string (ofL h.target), .int .i64 h.status, .string (ofL h.reason), .int .i64 h.minor, .slice p h.fields.length cap] 30) = W at L0 ⊢
  obtain ⟨g, hg⟩ : ∃ g, g = w.heap.size := ⟨_, rfl⟩
  rw [← hg] at L0 ⊢
  replace hg := Lib.hid hg
  obtain ⟨d0, d1, d2, d3, d4, d5⟩ := L0.out.box.cells
  refine (H1.out _ L0.out.list).mono ?_
  rintro e w1 ⟨rfl, hb⟩
  replace L0 := Lib.hid (L0.out.call hb)
  clear hb d0 d1 d2 d3 d4 d5
  obtain ⟨d0, d1, d2, d3, d4, d5⟩ := L0.out.box.cells
  go_wp2_with fail
  refine (H2.out _ L0.out.list).mono ?_
  rintro e w2 ⟨rfl, hb⟩
  replace L0 := Lib.hid (L0.out.call hb)
  clear hb d0 d1 d2 d3 d4 d5
  obtain ⟨d0, d1, d2, d3, d4, d5⟩ := L0.out.box.cells
  by_cases h2 : 0 < k2
  · have e2 : decide (0 < k2) = true := decide_eq_true h2
    have hX2 : Hid (X = if h.minor = 0 ∨ 0 < k1 ∨ c = 3 then (0, 0, 90) else if c = 2 then (0, 0, 91) else (3, 0, 0)) := Lib.hid (by rw [hX.out, if_pos h2])
    replace h2 := Lib.hid h2
    clear hX
    rw [e2]
    clear e2
    go_wp2_with fail
    refine (H3.out _ L0.out.list).mono ?_
    rintro e w3 ⟨rfl, hb⟩
    replace L0 := Lib.hid (L0.out.call hb)
    clear hb d0 d1 d2 d3 d4 d5
    obtain ⟨d0, d1, d2, d3, d4, d5⟩ := L0.out.box.cells
    have hcs : (h.minor = 0 ∧ (h.minor == 0) = true ∧ X = (0, 0, 90)) ∨ ((h.minor == 0) = false ∧ decide (0 < k1) = true ∧ X = (0, 0, 90)) ∨ ((h.minor == 0) = false ∧ decide (0 < k1) = false ∧ ((c : Int) == 3) = true ∧ X = (0, 0, 90)) ∨ ((h.minor == 0) = false ∧ decide (0 < k1) = false ∧ ((c : Int) == 3) = false ∧ ((c : Int) == 2) = true ∧ X = (0, 0, 91)) ∨ ((h.minor == 0) = false ∧ decide (0 < k1) = false ∧ ((c : Int) == 3) = false ∧ ((c : Int) == 2) = false ∧ X = (3, 0, 0)) := by
      rw [hX2.out]
      by_cases m0 : h.minor = 0
      · exact .inl ⟨m0, by rw [m0]; rfl, if_pos (.inl m0)⟩
      · have m1 : (h.minor == 0) = false := beq_eq_false_iff_ne.2 m0
        by_cases q1 : 0 < k1
        · exact .inr (.inl ⟨m1, decide_eq_true q1, if_pos (.inr (.inl q1))⟩)
        · have q2 : decide (0 < k1) = false := decide_eq_false q1
          by_cases c3 : c = 3
          · exact .inr (.inr (.inl ⟨m1, q2, by rw [c3]; rfl, if_pos (.inr (.inr c3))⟩))
          · have c4 : ((c : Int) == 3) = false := beq_eq_false_iff_ne.2 (by omega)
            rw [if_neg (by rintro (h | h | h); exact m0 h; exact q1 h; exact c3 h)]
            by_cases c2 : c = 2
            · exact .inr (.inr (.inr (.inl ⟨m1, q2, c4, by rw [c2]; rfl, if_pos c2⟩)))
            · exact .inr (.inr (.inr (.inr ⟨m1, q2, c4, beq_eq_false_iff_ne.2 (by omega), if_neg c2⟩)))
    clear hX2 H1 H2 H3 H4
    rcases hcs with ⟨m0, m1, hV⟩ | ⟨m1, q1, hV⟩ | ⟨m1, q1, c3, hV⟩ | ⟨m1, q1, c3, c2, hV⟩ | ⟨m1, q1, c3, c2, hV⟩
    · clear m0
      replace hV := Lib.hid hV
      go_wp2_with fail
      go_ret3
      exact ⟨ret_trip hV.out, L0.out.below⟩
    all_goals
      replace hV := Lib.hid hV
      rw [q1]
      clear q1
      go_wp2_with fail
      go_ret3
      exact ⟨ret_trip hV.out, L0.out.below⟩
  · have e2 : decide (0 < k2) = false := decide_eq_false h2
    have hX2 : Hid (X = if k1 = 0 then (1, 0, 0) else if n < 0 then (0, 0, 90) else if most < n then (0, 0, 101) else (2, n, 0)) := Lib.hid (by rw [hX.out, if_neg h2])
    clear hX h2
    rw [e2]
    clear e2
    by_cases h1 : k1 = 0
    · have e1 : decide (0 < k1) = false := decide_eq_false (by omega)
      have hV : Hid (X = (1, 0, 0)) := Lib.hid (by rw [hX2.out, if_pos h1])
      rw [e1]
      clear e1 h1 hX2
      go_wp2_with fail
      go_ret3
      exact ⟨ret_trip hV.out, L0.out.below⟩
    · have e1 : decide (0 < k1) = true := decide_eq_true (by omega)
      have hcs : (n < 0 ∧ X = (0, 0, 90)) ∨ (¬ n < 0 ∧ most < n ∧ X = (0, 0, 101)) ∨ (¬ n < 0 ∧ ¬ most < n ∧ X = (2, n, 0)) := by
        rw [hX2.out, if_neg h1]
        by_cases n0 : n < 0
        · exact .inl ⟨n0, if_pos n0⟩
        · rw [if_neg n0]
          by_cases n1 : most < n
          · exact .inr (.inl ⟨n0, n1, if_pos n1⟩)
          · exact .inr (.inr ⟨n0, n1, if_neg n1⟩)
      rw [e1]
      clear e1 h1 hX2
      go_wp2_with fail
      refine (H4.out _ L0.out.list).mono ?_
      rintro e w3 ⟨rfl, hb⟩
      replace L0 := Lib.hid (L0.out.call hb)
      clear hb d0 d1 d2 d3 d4 d5
      obtain ⟨d0, d1, d2, d3, d4, d5⟩ := L0.out.box.cells
      clear H1 H2 H3 H4
      rcases hcs with ⟨n0, hV⟩ | ⟨n0, n1, hV⟩ | ⟨n0, n1, hV⟩
      all_goals
        replace hV := Lib.hid hV
        go_wp2_with fail
        go_ret3
        exact ⟨ret_trip hV.out, L0.out.below⟩
end Go.Proofs.YtlgohmghjffiaaaGreatDoor.R9Req
