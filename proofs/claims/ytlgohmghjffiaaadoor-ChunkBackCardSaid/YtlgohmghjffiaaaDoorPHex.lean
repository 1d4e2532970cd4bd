/- Layer 4 of the program: Hex. -/
import Derived.Test.YtlgohmghjffiaaaDoorPCount
import Derived.Outline
import Derived.LoopTactic
import Derived.Handy
namespace Go.Proofs.YtlgohmghjffiaaaDoor.PHex
open Go.ChangeShapes Go.WideShapes Go.ChangeAt Go.RowKit LexPure Bytes Ret LexNum PCount
set_option maxRecDepth 20000
theorem phex_any (s : ByteArray) (hs : s.size ≤ maxLen) (digits : Int) (w : World) :
    Calls Tryd.prog 35 #[.string s, .int .i64 digits] w fun e w' => e = .returned (.tuple #[.int .i64 (numR 16 (min digits 15) (toL s)), .bool (numOk 16 (min digits 15) (toL s))]) ∧ w = w' := by
  have HN := Lib.hid (pnumber_any s hs (min digits 15) 16 (.inr ⟨rfl, Int.min_le_right _ _⟩))
  clear hs
  rcases (show digits < 15 ∨ digits = 15 ∨ 15 < digits by omega) with h | h | h
  · have hm : min digits 15 = digits := by omega
    rw [hm] at HN ⊢
    go_enter Tryd.func35, Tryd.ntmps35
    go_wp2_with fail
    refine (HN.out _).mono ?_
    rintro e w' ⟨rfl, rfl⟩
    go_wp2_with fail
    go_ret2
    exact ⟨rfl, rfl⟩
  · subst h
    have hm : min 15 15 = (15 : Int) := rfl
    rw [hm] at HN ⊢
    go_enter Tryd.func35, Tryd.ntmps35
    go_wp2_with fail
    refine (HN.out _).mono ?_
    rintro e w' ⟨rfl, rfl⟩
    go_wp2_with fail
    go_ret2
    exact ⟨rfl, rfl⟩
  · have hm : min digits 15 = 15 := by omega
    rw [hm] at HN ⊢
    go_enter Tryd.func35, Tryd.ntmps35
    go_wp2_with fail
    refine (HN.out _).mono ?_
    rintro e w' ⟨rfl, rfl⟩
    go_wp2_with fail
    go_ret2
    exact ⟨rfl, rfl⟩
end Go.Proofs.YtlgohmghjffiaaaDoor.PHex
