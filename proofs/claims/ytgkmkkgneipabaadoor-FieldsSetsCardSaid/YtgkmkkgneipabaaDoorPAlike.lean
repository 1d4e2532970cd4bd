/- Layer 4 of the program: Alike. -/
import Derived.Test.YtgkmkkgneipabaaDoorPLsmall
import Derived.Outline
import Derived.LoopTactic
import Derived.Handy
import Derived.Deep.QuietTactic
import Derived.BigQuiet
import Derived.Below
import Derived.Test.YtgkmkkgneipabaaDoorMem
namespace Go.Proofs.YtgkmkkgneipabaaDoor.PAlike
open Go.ChangeShapes Go.WideShapes Go.ChangeAt Go.RowKit LexPure Bytes Ret PLsmall Mem
set_option maxRecDepth 20000
set_option maxHeartbeats 1600000 in
theorem palike_any (s t : ByteArray) (hs : s.size ≤ maxLen) (w : World) :
    Calls Tryd.prog 36 #[.string s, .string t] w fun e w' => e = .returned (.bool (alike (toL s) (toL t))) ∧ Below w.heap.size w w' := by
  unfold maxLen at hs
  by_cases hl : s.size = t.size
  · go_enter Tryd.func36, Tryd.ntmps36
    go_wp2_with fail
    have HB : Hid (∃ m, w = w.drewN m) := Lib.hid ⟨0, rfl⟩
    go_loopw [13] (fun i wr => ∃ k : Nat, k ≤ s.size ∧ i = .int .i64 k ∧ Hid (lower ((toL s).take k) = lower ((toL t).take k)) ∧ Hid (∃ m, wr = w.drewN m)) (fun i _ => s.size - (intOf i).toNat)
    case atStart => exact ⟨0, Nat.zero_le _, rfl, Lib.hid rfl, HB⟩
    case round =>
      obtain ⟨k, hk, rfl, ha, HM⟩ := hrel
      clear HB
      by_cases hlt : k < s.size
      · have hlt2 : k < t.size := by omega
        have hki : (k : Int) < (s.size : Int) := by omega
        have hki2 : (k : Int) < (t.size : Int) := by omega
        have HS := Lib.hid (toL_take_succ s k hlt)
        have HT := Lib.hid (toL_take_succ t k hlt2)
        have GS := Lib.hid (toL_get s k hlt)
        have GT := Lib.hid (toL_get t k hlt2)
        by_cases hm : small s[k] = small t[k]
        · have HA : Hid (lower ((toL s).take (k + 1)) = lower ((toL t).take (k + 1))) := Lib.hid (by
            rw [HS.out, HT.out]
            unfold lower
            rw [List.map_append, List.map_append]
            have h := ha.out
            unfold lower at h
            rw [h]
            simp [hm])
          have hx : ((small s[k]).toNat : Int) = ((small t[k]).toNat : Int) := by rw [hm]
          clear hm HS HT GS GT ha
          go_wp2_with fail
          go_quiet ((go_at_call 53; exact Calls.quiet_of_same (psmall_same _ _)))
          go_wp2_with fail
          go_roundw
          case rel => exact ⟨k + 1, by omega, by go_num, HA, Lib.hid (by obtain ⟨m, hm⟩ := HM.out; exact ⟨_, by rw [hm, World.drewN_drewN]⟩)⟩
          case measure => simp [intOf]; omega
        · have HV : Hid (alike (toL s) (toL t) = false) := Lib.hid (by
            unfold alike
            rw [beq_eq_false_iff_ne]
            intro h
            have h2 := congrArg (·[k]?) h
            unfold lower at h2
            simp only [List.getElem?_map, GS.out, GT.out, Option.map_some, Option.some.injEq] at h2
            exact hm h2)
          have hx : ¬ (((small s[k]).toNat : Int) = ((small t[k]).toNat : Int)) := fun h => hm (UInt8.toNat_inj.1 (by exact_mod_cast h))
          clear hm HS HT GS GT ha
          go_wp2_with fail
          go_quiet ((go_at_call 53; exact Calls.quiet_of_same (psmall_same _ _)))
          go_wp2_with fail
          go_ret
          obtain ⟨m, rfl⟩ := HM.out
          exact ⟨by rw [HV.out]; rfl, ⟨rfl, rfl, rfl, Nat.le_refl _, fun _ _ => rfl⟩⟩
      · have hall : (toL s).take k = toL s := toL_take_all s (by omega)
        have hall2 : (toL t).take k = toL t := toL_take_all t (by omega)
        have HV : Hid (alike (toL s) (toL t) = true) := Lib.hid (by
          have h := ha.out
          rw [hall, hall2] at h
          unfold alike
          rw [h]
          exact beq_self_eq_true _)
        clear ha hall hall2
        go_wp2_with fail
        go_ret
        obtain ⟨m, rfl⟩ := HM.out
        exact ⟨by rw [HV.out]; rfl, ⟨rfl, rfl, rfl, Nat.le_refl _, fun _ _ => rfl⟩⟩
  · have HV : Hid (alike (toL s) (toL t) = false) := Lib.hid (by
      unfold alike
      rw [beq_eq_false_iff_ne]
      intro h
      have := congrArg List.length h
      rw [lower_length, lower_length, toL_length, toL_length] at this
      exact hl this)
    have hx : ¬ ((s.size : Int) = (t.size : Int)) := by omega
    clear hl
    go_enter Tryd.func36, Tryd.ntmps36
    go_wp2_with fail
    go_ret
    exact ⟨by rw [HV.out]; rfl, ⟨rfl, rfl, rfl, Nat.le_refl _, fun _ _ => rfl⟩⟩
end Go.Proofs.YtgkmkkgneipabaaDoor.PAlike
