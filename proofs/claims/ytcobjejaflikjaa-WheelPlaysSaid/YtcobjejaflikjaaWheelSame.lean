/- Layer 2: two lists that are the same. -/
import Derived.Test.YtcobjejaflikjaaWheelStepN
namespace Go.Proofs.Ytcobjejaflikjaa.WSame
open Go.RowKit Go.Maps WMath WPure Mem Step WObj WOrd WMm WLib WDel WOps WSet WMin WNext WSort WAdv AppendRow WOne WOneF WRef WRefD WRefC WRefS WRefA WStep WStepN

set_option maxRecDepth 100000 in
set_option maxHeartbeats 1600000 in
theorem same_yes (w : World) (lv mv : Value) (X : List Tm) (hl : ListAt w lv X) (hm : ListAt w mv X) (hX : X.length ≤ 65536) :
    Calls Try.prog 25 #[lv, mv] w fun e w' => e = .returned (.bool true) ∧ Below w.heap.size w w' := by
  obtain ⟨p, cap, rfl, hp⟩ := hl
  obtain ⟨q, cap2, rfl, hq⟩ := hm
  have HP := Lib.hid hp
  have HQ := Lib.hid hq
  have tt : ((X.length : Int) == (X.length : Int)) = true := beq_self_eq_true _
  clear hp hq
  go_enter Try.func25, Try.ntmps25
  go_wp2_with fail
  go_loopw [14] (fun i wr => ∃ k : Nat, k ≤ X.length ∧ i = .int .i64 k ∧ Hid (Below w.heap.size w wr)) (fun i _ => X.length - (intOf i).toNat)
  case atStart => exact ⟨0, Nat.zero_le _, rfl, Lib.hid (Below.refl _ _)⟩
  case round =>
    obtain ⟨k, hk, rfl, HB⟩ := hrel
    by_cases hlt : k < X.length
    · have hki : (k : Int) < ((X.length : Nat) : Int) := by omega
      have hk0 : (0 : Int) ≤ (k : Int) := by omega
      obtain ⟨lb, rfl, hl1, hl2⟩ := HP.out (by omega)
      obtain ⟨mb, rfl, hm1, hm2⟩ := HQ.out (by omega)
      obtain ⟨t, ht⟩ : ∃ t, X[k]? = some t := ⟨X[k], List.getElem?_eq_getElem (by omega)⟩
      have bx := Has.new wr 42 #[.int .i64 (t.1 : Int), .int .i64 (t.2 : Int)]
      have hlr := (hl1.below HB.out hl2)
      have hmr := (hm1.below HB.out hm2)
      obtain ⟨l0, l1⟩ := hlr k t ht
      obtain ⟨m0, m1⟩ := hmr k t ht
      have hnb := Lib.hid (fun n : Nat => WRef.drewN_below n (HB.out.alloc HB.out.size (.cells #[.int .i64 (t.1 : Int), .int .i64 (t.2 : Int)] 42)))
      have hlw : lb < wr.heap.size := Nat.lt_of_lt_of_le hl2 HB.out.size
      have hmw : mb < wr.heap.size := Nat.lt_of_lt_of_le hm2 HB.out.size
      have b0 := (bx.cell 0).trans (show _ = some (Value.int .i64 (t.1 : Int)) from rfl)
      have b1 := (bx.cell 1).trans (show _ = some (Value.int .i64 (t.2 : Int)) from rfl)
      have e1 : ((t.1 : Int) != (t.1 : Int)) = false := by simp
      have e2 : ((t.2 : Int) != (t.2 : Int)) = false := by simp
      clear bx hlr hmr hl1 hm1 ht
      go_wp2_with fail
      go_quiet (fail)
      go_wp2_with fail
      exact ⟨⟨k + 1, by omega, by go_num, Lib.hid (hnb.out _)⟩, by simp [intOf]; omega⟩
    · have hki : ¬ ((k : Int) < ((X.length : Nat) : Int)) := by omega
      go_wp2_with fail
      go_ret
      exact ⟨rfl, HB.out⟩
end Go.Proofs.Ytcobjejaflikjaa.WSame
