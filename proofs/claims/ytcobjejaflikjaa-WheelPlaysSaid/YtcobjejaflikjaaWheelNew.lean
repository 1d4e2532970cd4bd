/- Layer 2: a new wheel. -/
import Derived.Test.YtcobjejaflikjaaWheelObj
namespace Go.Proofs.Ytcobjejaflikjaa.WNew
open Go.RowKit WMath WPure Mem Step WObj

/-- a wheel's cells: now, the slots, the map -/
def Z0 : Array Value := ((Array.replicate 450 (Value.slice none 0 0)).setIfInBounds 0 (.int .i64 0)).setIfInBounds 449 (.map none)
theorem zero56 (w : World) : (zeroValue 56).run Try.prog w = .ok (.agg Z0) w := by kernel_rfl
theorem Z0_facts : Z0.size = 450 ∧ Z0[0]? = some (.int .i64 0) ∧ ∀ q, q < 448 → Z0[1 + q]? = some (.slice none 0 0) := by
  refine ⟨by simp [Z0], by simp [Z0], fun q hq => ?_⟩
  unfold Z0
  rw [Array.getElem?_setIfInBounds_ne (by omega), Array.getElem?_setIfInBounds_ne (by omega)]
  simp [show 1 + q < 450 by omega]

theorem new_any (w : World) :
    Calls Try.prog 11 #[] w fun e w' => e = .returned (.pointer (some ⟨w.heap.size + 1, 0, none⟩)) ∧
      ∃ cs, cs.size = 450 ∧ cs[0]? = some (.int .i64 0) ∧ (∀ q, q < 448 → cs[1 + q]? = some (.slice none 0 0)) ∧ cs[449]? = some (.map (some w.heap.size)) ∧ w' = (w.alloc (.map #[] 0)).alloc (.cells cs 56) := by
  have hmm := @run_makeMap Try.prog
  obtain ⟨z1, z2, z3⟩ := Z0_facts
  have hz := zero56
  generalize Z0 = Z at z1 z2 z3 hz
  have z2' := Lib.hid z2
  have z3' := Lib.hid z3
  clear z2 z3
  go_enter Try.func11, Try.ntmps11
  go_wp2_with fail
  go_ret
  refine ⟨rfl, Z.setIfInBounds 449 (.map (some w.heap.size)), by simpa using z1, ?_, fun q hq => ?_, ?_, rfl⟩
  · rw [Array.getElem?_setIfInBounds_ne (by omega)]; exact z2'.out
  · rw [Array.getElem?_setIfInBounds_ne (by omega)]; exact z3'.out q hq
  · simp [z1]
end Go.Proofs.Ytcobjejaflikjaa.WNew
