/- Layer 7 of the program: what it asks of package slices (at texts). -/
import Derived.Test.YtgkmkkgneipabaaDoorR7Elements
import Derived.Shelf.Abstract
namespace Go.Proofs.YtgkmkkgneipabaaDoor.PFindT
open Go.ChangeShapes Go.WideShapes Go.ChangeAt Go.RowKit LexPure Bytes Ret Rows1 Texts FieldsPure Flds R7Get R7Remove R7Elements Mem Go.Shelf
set_option maxRecDepth 20000
set_option maxHeartbeats 1600000 in
theorem index_any (fid bx : Nat) (hent : ∀ args w, (callFunc fid args).run Tryd.prog w = .ok (.enter fid args) w) (q : List UInt8 → Bool) (v : Value) (G : List (List UInt8)) (hle2 : G.length ≤ 1099512676352) (w : World) (hF : Texts w v G)
    (hcall : ∀ (j : Nat) (hj : j < G.length) (W : World), Below w.heap.size w W → Calls Tryd.prog fid #[.string (ofL G[j]), .pointer (some ⟨bx, 0, none⟩)] W fun e w' => e = .returned (.bool (q G[j])) ∧ Below W.heap.size W w') :
    Calls Tryd.prog 54 #[v, .func (.func fid) #[] #[.pointer (some ⟨bx, 0, none⟩)]] w fun e w' => ∃ r : Int, e = .returned (.int .i64 r) ∧ (decide (0 ≤ r) = G.any q) ∧ Below w.heap.size w w' := by
  obtain ⟨p, cap, rfl, hle, hc⟩ := hF
  replace hc := Lib.hid hc
  replace hcall := Lib.hid hcall
  have HB0 := Lib.hid (Below.refl w.heap.size w)
  go_enter Tryd.func54, Tryd.ntmps54
  go_wp2_with fail
  go_loopw [5, 8] (fun _ i wr => ∃ k : Nat, k ≤ G.length ∧ i = .int .i64 k ∧ Hid ((G.take k).any q = false) ∧ Hid (Below w.heap.size w wr)) (fun _ i _ => G.length - (intOf i).toNat)
  case atStart => exact ⟨0, Nat.zero_le _, rfl, Lib.hid rfl, HB0⟩
  case round =>
    obtain ⟨k, hk, rfl, ha, HB⟩ := hrel
    clear HB0
    by_cases hlt : k < G.length
    · obtain ⟨g, o, rfl, hgl, hcell⟩ := hc.out (by omega)
      have c1 := (HB.out.cell (p := ⟨g, o + k, none⟩) hgl).trans (hcell k hlt)
      have hki : (k : Int) < (G.length : Int) := by omega
      have HT : Hid ((G.take (k + 1)).any q = q G[k]) := Lib.hid (by rw [List.take_add_one, List.getElem?_eq_getElem hlt, List.any_append, ha.out]; simp)
      have HA := Lib.hid (hcall.out k hlt wr HB.out)
      clear hcell
      cases hh : q G[k]
      · rw [hh] at HT HA
        clear hh ha
        go_wp2_with fail
        refine HA.out.mono ?_
        rintro e w2 ⟨rfl, hb2⟩
        have HB2 := Lib.hid (below_chain HB.out hb2)
        clear hb2
        go_wp2_with fail
        go_roundw
        case rel => exact ⟨k + 1, by omega, by go_num, HT, HB2⟩
        case measure => simp [intOf]; omega
      · have HV : Hid (decide ((0 : Int) ≤ (k : Int)) = G.any q) := Lib.hid (by
          rw [decide_eq_true (by omega)]
          exact (List.any_eq_true.2 ⟨_, List.getElem_mem hlt, hh⟩).symm)
        rw [hh] at HA
        clear hh ha HT
        go_wp2_with fail
        refine HA.out.mono ?_
        rintro e w2 ⟨rfl, hb2⟩
        have HB2 := Lib.hid (below_chain HB.out hb2)
        clear hb2
        go_wp2_with fail
        go_ret
        exact ⟨_, rfl, HV.out, HB2.out⟩
    · have HV : Hid (decide ((0 : Int) ≤ -1) = G.any q) := Lib.hid (by
        have h := ha.out
        rw [List.take_of_length_le (by omega)] at h
        rw [h]
        rfl)
      clear ha
      go_wp2_with fail
      go_ret
      exact ⟨_, rfl, HV.out, HB.out⟩
set_option maxHeartbeats 1600000 in
theorem contains_any (fid bx : Nat) (hent : ∀ args w, (callFunc fid args).run Tryd.prog w = .ok (.enter fid args) w) (q : List UInt8 → Bool) (v : Value) (G : List (List UInt8)) (hle2 : G.length ≤ 1099512676352) (w : World) (hF : Texts w v G)
    (hcall : ∀ (j : Nat) (hj : j < G.length) (W : World), Below w.heap.size w W → Calls Tryd.prog fid #[.string (ofL G[j]), .pointer (some ⟨bx, 0, none⟩)] W fun e w' => e = .returned (.bool (q G[j])) ∧ Below W.heap.size W w') :
    Calls Tryd.prog 37 #[v, .func (.func fid) #[] #[.pointer (some ⟨bx, 0, none⟩)]] w fun e w' => e = .returned (.bool (G.any q)) ∧ Below w.heap.size w w' := by
  have HI := Lib.hid (index_any fid bx hent q v G hle2 w hF hcall)
  obtain ⟨p, cap, rfl, hle, hc⟩ := hF
  clear hc hcall
  generalize G.any q = b at *
  go_enter Tryd.func37, Tryd.ntmps37
  go_wp2_with fail
  refine HI.out.mono ?_
  rintro e w2 ⟨r, rfl, hr, hb2⟩
  have HB := Lib.hid hb2
  have HR := Lib.hid hr
  clear hb2 hr
  go_wp2_with fail
  all_goals
    go_ret
    refine ⟨ret_bool ?_, HB.out⟩
    rw [← HR.out]
end Go.Proofs.YtgkmkkgneipabaaDoor.PFindT
