/- strings.Cut at a piece of one byte, at whatever size. -/
import Derived.Test.YtlgohmghjffiaaaDoorCutAt
import Derived.Test.YtlgohmghjffiaaaDoorLawBase
import Derived.Test.YtlgohmghjffiaaaDoorRet
import Derived.Test.YtlgohmghjffiaaaDoorCutLays
import Derived.Lib.IndexBytes
import Derived.Lib.Hide
import Derived.Below
import Derived.RegionTactic
import Derived.ChangeAlike
import Derived.BigRegion
namespace Go.Proofs.YtlgohmghjffiaaaDoor.PCutLib
open Go.ChangeShapes Go.WideShapes Go.ChangeAt Go.RowKit Bytes Ret CutAt
set_option maxRecDepth 20000
theorem lib_at (x : UInt8) (s : ByteArray) (w : World) :
    Calls Tryd.prog 52 #[.string s, .string ⟨#[x]⟩] w fun e w' => e = .returned (.int .i64 (Lib.index (toL s) [x])) ∧ w' = w := by
  have h := Any.stringslite_Index_one Tryd.lays219 s x w
  rw [← Lib.index_one] at h
  exact h
theorem ret_cut {a b c d : ByteArray} {p q : Bool} (h : a = c) (k : b = d) (l : p = q) : Ending.returned (.tuple #[.string a, .string b, .bool p]) = .returned (.tuple #[.string c, .string d, .bool q]) := by rw [h, k, l]
theorem lite_cut (x : UInt8) (s : ByteArray) (hs : s.size ≤ 140737488351232) (w : World) :
    Calls Tryd.prog 45 #[.string s, .string ⟨#[x]⟩] w fun e w' => e = .returned (.tuple #[.string (ofL (aheadOf x (toL s))), .string (ofL (behind x (toL s))), .bool (hasB x (toL s))]) ∧ Below w.heap.size w w' := by
  have HI := Lib.hid (fun w => lib_at x s w)
  obtain ⟨h1, h2, h3⟩ := cut_say x (toL s)
  unfold Lib.cut at h1 h2 h3
  have hge := Lib.index_ge (toL s) [x]
  have hle := Lib.index_le (toL s) [x]
  by_cases hm : Lib.index (toL s) [x] = -1
  · rw [hm] at h1 h2 h3 HI
    have HA : Hid (s = ofL (aheadOf x (toL s))) := Lib.hid (by rw [← h1]; exact (ofL_toL s).symm)
    have HB : Hid ((⟨#[]⟩ : ByteArray) = ofL (behind x (toL s))) := Lib.hid (by rw [← h2]; rfl)
    have HQ : Hid (false = hasB x (toL s)) := Lib.hid (by rw [← h3]; rfl)
    clear h1 h2 h3 hge hle hm
    go_enter Tryd.func45, Tryd.ntmps45
    go_wp2_with fail
    refine (HI.out _).mono ?_
    rintro e w' ⟨rfl, rfl⟩
    go_wp2_with fail
    go_ret3
    exact ⟨ret_cut HA.out HB.out HQ.out, Below.refl _ _⟩
  · obtain ⟨i, hi⟩ : ∃ i : Nat, Lib.index (toL s) [x] = i := ⟨(Lib.index (toL s) [x]).toNat, by omega⟩
    rw [hi] at h1 h2 h3 HI
    have hp : (0 : Int) ≤ (i : Int) := by omega
    simp only [hp, if_true, Int.toNat_natCast, List.length_singleton] at h1 h2 h3
    have hlt : i < s.size := by
      rcases Nat.lt_or_ge i (toL s).length with h | h
      · rwa [toL_length] at h
      · exfalso
        have e1 : aheadOf x (toL s) = toL s := by rw [← h1, List.take_of_length_le h]
        have e2 : hasB x (toL s) = true := h3.symm
        unfold aheadOf at e1
        unfold hasB at e2
        rw [List.any_eq_true] at e2
        obtain ⟨c, hc, hq⟩ := e2
        have hall : (toL s).all (fun c => c != x) = true := by
          rw [← e1]
          exact List.all_takeWhile
        have := List.all_eq_true.1 hall c hc
        simp only [bne_iff_ne, ne_eq, beq_iff_eq] at this hq
        exact this hq
    have HA : Hid (s.extract 0 i = ofL (aheadOf x (toL s))) := Lib.hid (toL_inj (by rw [toL_extract, toL_ofL, ← h1, List.drop_zero]))
    have HB : Hid (s.extract (i + 1) s.size = ofL (behind x (toL s))) := Lib.hid (toL_inj (by rw [toL_extract, toL_ofL, ← h2, List.take_of_length_le (by rw [toL_length]; exact Nat.le_refl _)]))
    have HQ : Hid (true = hasB x (toL s)) := Lib.hid h3
    have c1 : (i : Int) ≤ (s.size : Int) := by omega
    have c2 : (i : Int) + 1 ≤ (s.size : Int) := by omega
    have c3 : (0 : Int) ≤ (i : Int) + 1 := by omega
    have c4 : (s.size : Int) ≤ 140737488351232 := by omega
    clear h1 h2 h3 hge hle hm hi hlt
    go_enter Tryd.func45, Tryd.ntmps45
    go_wp2_with fail
    refine (HI.out _).mono ?_
    rintro e w' ⟨rfl, rfl⟩
    go_wp2_with fail
    go_region
    go_wp2_with fail
    go_ret3
    exact ⟨ret_cut HA.out HB.out HQ.out, ⟨rfl, rfl, rfl, Nat.le_refl _, fun _ _ => rfl⟩⟩
theorem full_cut (x : UInt8) (s : ByteArray) (hs : s.size ≤ 140737488351232) (w : World) :
    Calls Tryd.prog 34 #[.string s, .string ⟨#[x]⟩] w fun e w' => e = .returned (.tuple #[.string (ofL (aheadOf x (toL s))), .string (ofL (behind x (toL s))), .bool (hasB x (toL s))]) ∧ Below w.heap.size w w' := by
  have H := Lib.hid (lite_cut x s hs)
  clear hs
  go_enter Tryd.func34, Tryd.ntmps34
  go_wp2_with fail
  refine (H.out _).mono ?_
  rintro e w' ⟨rfl, hb⟩
  go_wp2_with fail
  go_ret3
  exact ⟨rfl, hb⟩
end Go.Proofs.YtlgohmghjffiaaaDoor.PCutLib
