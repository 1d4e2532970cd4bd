/- Layer 7 of the program: alone. -/
import Derived.Test.YtgkmkkgneipabaaDoorR7Get
namespace Go.Proofs.YtgkmkkgneipabaaDoor.PAlone
open Go.ChangeShapes Go.WideShapes Go.ChangeAt Go.RowKit LexPure Bytes Ret FieldsPure Mem
set_option maxRecDepth 20000
theorem toList_dec (s : ByteArray) (t : List UInt8) : (s.toList == t) = decide (toL s = t) := by
  rw [ByteArray.toList_eq]
  by_cases h : toL s = t
  · rw [decide_eq_true h]
    exact beq_iff_eq.2 h
  · rw [decide_eq_false h]
    exact beq_eq_false_iff_ne.2 h
set_option maxHeartbeats 1600000 in
theorem palone_any (s : ByteArray) (w : World) :
    Calls Tryd.prog 42 #[.string s] w fun e w' => e = .returned (.bool (fixed.contains (toL s))) ∧ w' = w := by
  have hv : fixed.contains (toL s) = (decide (toL s = [99, 111, 110, 110, 101, 99, 116, 105, 111, 110]) || decide (toL s = [107, 101, 101, 112, 45, 97, 108, 105, 118, 101]) || decide (toL s = [112, 114, 111, 120, 121, 45, 99, 111, 110, 110, 101, 99, 116, 105, 111, 110]) || decide (toL s = [116, 101]) || decide (toL s = [116, 114, 97, 105, 108, 101, 114]) || decide (toL s = [116, 114, 97, 110, 115, 102, 101, 114, 45, 101, 110, 99, 111, 100, 105, 110, 103]) || decide (toL s = [117, 112, 103, 114, 97, 100, 101])) := by
    unfold fixed CONNECTION
    rw [Bool.eq_iff_iff]
    simp [or_assoc]
  rw [hv]
  clear hv
  have h1 := toList_dec s [99, 111, 110, 110, 101, 99, 116, 105, 111, 110]
  have h2 := toList_dec s [107, 101, 101, 112, 45, 97, 108, 105, 118, 101]
  have h3 := toList_dec s [112, 114, 111, 120, 121, 45, 99, 111, 110, 110, 101, 99, 116, 105, 111, 110]
  have h4 := toList_dec s [116, 101]
  have h5 := toList_dec s [116, 114, 97, 105, 108, 101, 114]
  have h6 := toList_dec s [116, 114, 97, 110, 115, 102, 101, 114, 45, 101, 110, 99, 111, 100, 105, 110, 103]
  have h7 := toList_dec s [117, 112, 103, 114, 97, 100, 101]
  generalize decide (toL s = [99, 111, 110, 110, 101, 99, 116, 105, 111, 110]) = a1 at *
  generalize decide (toL s = [107, 101, 101, 112, 45, 97, 108, 105, 118, 101]) = a2 at *
  generalize decide (toL s = [112, 114, 111, 120, 121, 45, 99, 111, 110, 110, 101, 99, 116, 105, 111, 110]) = a3 at *
  generalize decide (toL s = [116, 101]) = a4 at *
  generalize decide (toL s = [116, 114, 97, 105, 108, 101, 114]) = a5 at *
  generalize decide (toL s = [116, 114, 97, 110, 115, 102, 101, 114, 45, 101, 110, 99, 111, 100, 105, 110, 103]) = a6 at *
  generalize decide (toL s = [117, 112, 103, 114, 97, 100, 101]) = a7 at *
  go_enter Tryd.func42, Tryd.ntmps42
  cases a1
  rotate_left
  · go_wp2_with fail
    go_ret
    exact ⟨rfl, rfl⟩
  cases a2
  rotate_left
  · go_wp2_with fail
    go_ret
    exact ⟨rfl, rfl⟩
  cases a3
  rotate_left
  · go_wp2_with fail
    go_ret
    exact ⟨rfl, rfl⟩
  cases a4
  rotate_left
  · go_wp2_with fail
    go_ret
    exact ⟨rfl, rfl⟩
  cases a5
  rotate_left
  · go_wp2_with fail
    go_ret
    exact ⟨rfl, rfl⟩
  cases a6
  rotate_left
  · go_wp2_with fail
    go_ret
    exact ⟨rfl, rfl⟩
  cases a7
  · go_wp2_with fail
    go_ret
    exact ⟨rfl, rfl⟩
  · go_wp2_with fail
    go_ret
    exact ⟨rfl, rfl⟩
end Go.Proofs.YtgkmkkgneipabaaDoor.PAlone
