/- Layer 7, the document's own Has. -/
import Derived.Test.YtgkmkkgneipabaaDoorR7Elements
import Derived.Test.YtgkmkkgneipabaaDoorLexFlat
namespace Go.Proofs.YtgkmkkgneipabaaDoor.R7Has
open Go.ChangeShapes Go.WideShapes Go.ChangeAt Go.RowKit LexPure Bytes Ret Rows1 Texts FieldsPure Flds RAlike7 R7Get R7Remove R7Elements LexFlat Mem
set_option maxRecDepth 20000
theorem elems_short (G : List HField) (n : List UInt8) (hG : Few G) : ∀ (j : Nat) (h : j < (elems G n).length), (elems G n)[j].length ≤ 1048576 := by
  intro j h
  have hm := List.getElem_mem h
  unfold elems at hm
  obtain ⟨f, hf, he⟩ := List.mem_flatMap.1 hm
  obtain ⟨i, hi, rfl⟩ := List.mem_iff_getElem.1 (List.mem_filter.1 hf).1
  exact Nat.le_trans (elements_short he) (hG i hi).2
set_option maxHeartbeats 1600000 in
theorem r7has_any (v : Value) (G : List HField) (n x : ByteArray) (hn : n.size ≤ 1048576) (hx : x.size ≤ 1048576) (hG : Few G) (hle2 : G.length ≤ 1048576) (w : World) (hF : FL w v G) :
    Calls Tryd.prog 18 #[v, .string n, .string x] w fun e w' => e = .returned (.bool (hasE G (toL n) (toL x))) ∧ Below w.heap.size w w' := by
  have HR := Lib.hid (r7elements_any v G n hn hG hle2 w hF)
  have hS := Lib.hid (elems_short G (toL n) hG)
  clear hF hG hle2
  have HV : Hid (hasE G (toL n) (toL x) = (elems G (toL n)).any (fun y => alike y (toL x))) := Lib.hid rfl
  obtain ⟨b, hb⟩ : ∃ b, b = hasE G (toL n) (toL x) := ⟨_, rfl⟩
  rw [← hb] at HV ⊢
  replace hb := Lib.hid hb
  generalize elems G (toL n) = E at *
  go_enter Tryd.func18, Tryd.ntmps18
  go_wp2_with fail
  refine HR.out.mono ?_
  rintro e w2 ⟨v2, rfl, hrow, hb2⟩
  obtain ⟨p, cap, rfl, hle, hc⟩ := texts_of hrow
  replace hc := Lib.hid hc
  have HB0 := Lib.hid hb2
  clear HR hrow hb2
  go_wp2_with fail
  go_loopw [8] (fun i wr => ∃ k : Nat, k ≤ E.length ∧ i = .int .i64 k ∧ Hid ((E.take k).any (fun y => alike y (toL x)) = false) ∧ Hid (Below w2.heap.size w2 wr)) (fun i _ => E.length - (intOf i).toNat)
  case atStart => exact ⟨0, Nat.zero_le _, rfl, Lib.hid rfl, Lib.hid (Below.refl _ _)⟩
  case round =>
    obtain ⟨k, hk, rfl, ha, HB⟩ := hrel
    by_cases hlt : k < E.length
    · obtain ⟨g, o, rfl, hgl, hcell⟩ := hc.out (by omega)
      have c1 := (HB.out.cell (p := ⟨g, o + k, none⟩) hgl).trans (hcell k hlt)
      have hki : (k : Int) < (E.length : Int) := by omega
      have s1 := hS.out k hlt
      have HA := Lib.hid (fun w => ralike7_any (ofL E[k]) x (by rw [ofL_size]; omega) (by omega) w)
      rw [toL_ofL] at HA
      clear hcell
      cases hh : alike E[k] (toL x)
      · have HN : Hid ((E.take (k + 1)).any (fun y => alike y (toL x)) = false) := Lib.hid (by
          rw [List.take_add_one, List.getElem?_eq_getElem hlt, List.any_append, ha.out]
          simp [hh])
        rw [hh] at HA
        clear hh ha
        go_wp2_with fail
        refine (HA.out _).mono ?_
        rintro e w3 ⟨rfl, hb3⟩
        have HB3 := Lib.hid (below_chain HB.out hb3)
        clear hb3 c1
        go_wp2_with fail
        go_roundw
        case rel => exact ⟨k + 1, by omega, by go_num, HN, HB3⟩
        case measure => simp [intOf]; omega
      · have HV2 : Hid (b = true) := Lib.hid (by
          rw [HV.out, List.any_eq_true]
          exact ⟨E[k], List.getElem_mem hlt, hh⟩)
        rw [hh] at HA
        clear hh ha
        go_wp2_with fail
        refine (HA.out _).mono ?_
        rintro e w3 ⟨rfl, hb3⟩
        have HB3 := Lib.hid (below_chain HB0.out (below_chain HB.out hb3))
        clear hb3 c1
        go_wp2_with fail
        go_ret
        exact ⟨ret_bool HV2.out.symm, HB3.out⟩
    · have HV2 : Hid (b = false) := Lib.hid (by
        have h := ha.out
        rw [List.take_of_length_le (by omega)] at h
        rw [HV.out, h])
      have HB3 := Lib.hid (below_chain HB0.out HB.out)
      clear ha
      go_wp2_with fail
      go_ret
      exact ⟨ret_bool HV2.out.symm, HB3.out⟩
end Go.Proofs.YtgkmkkgneipabaaDoor.R7Has
