/- Layer 5 of the program: Cut, at whatever size: strings.Cut at a piece of one byte. -/
import Derived.Test.YtlhpjinajaociaaDoorPUnder
import Derived.Test.YtlhpjinajaociaaDoorCutLays
import Derived.Lib.IndexBytes
import Derived.RegionTactic
import Derived.ChangeAlike
import Derived.BigRegion
namespace Go.Proofs.YtlhpjinajaociaaDoor.PCut
open Go.ChangeShapes Go.WideShapes Go.ChangeAt Go.RowKit LexPure Bytes Ret PathPure PUnder
theorem lib_at (s : ByteArray) (w : World) :
    Calls Tryd.prog 48 #[.string s, .string ⟨#[63]⟩] w fun e w' => e = .returned (.int .i64 (Lib.index (toL s) [63])) ∧ w' = w := by
  have h := Any.stringslite_Index_one Tryd.lays219 s 63 w
  rw [← Lib.index_one] at h
  exact h
theorem ret_cut {a b c d : ByteArray} {p q : Bool} (h : a = c) (k : b = d) (l : p = q) : Ending.returned (.tuple #[.string a, .string b, .bool p]) = .returned (.tuple #[.string c, .string d, .bool q]) := by rw [h, k, l]
theorem lite_cut (s : ByteArray) (hs : s.size ≤ 140737488351232) (w : World) :
    Calls Tryd.prog 42 #[.string s, .string ⟨#[63]⟩] w fun e w' => e = .returned (.tuple #[.string (ofL (cutA (toL s))), .string (ofL (cutB (toL s))), .bool (cutQ (toL s))]) ∧ Below w.heap.size w w' := by
  have HI := Lib.hid (fun w => lib_at s w)
  obtain ⟨h1, h2, h3⟩ := cut_say (toL s)
  unfold Lib.cut at h1 h2 h3
  have hge := Lib.index_ge (toL s) [63]
  have hle := Lib.index_le (toL s) [63]
  by_cases hm : Lib.index (toL s) [63] = -1
  · rw [hm] at h1 h2 h3 HI
    have HA : Hid (s = ofL (cutA (toL s))) := Lib.hid (by rw [← h1]; exact (ofL_toL s).symm)
    have HB : Hid ((⟨#[]⟩ : ByteArray) = ofL (cutB (toL s))) := Lib.hid (by rw [← h2]; rfl)
    have HQ : Hid (false = cutQ (toL s)) := Lib.hid (by rw [← h3]; rfl)
    clear h1 h2 h3 hge hle hm
    go_enter Tryd.func42, Tryd.ntmps42
    go_wp2_with fail
    refine (HI.out _).mono ?_
    rintro e w' ⟨rfl, rfl⟩
    go_wp2_with fail
    go_ret3
    exact ⟨ret_cut HA.out HB.out HQ.out, Below.refl _ _⟩
  · obtain ⟨i, hi⟩ : ∃ i : Nat, Lib.index (toL s) [63] = i := ⟨(Lib.index (toL s) [63]).toNat, by omega⟩
    rw [hi] at h1 h2 h3 HI
    have hp : (0 : Int) ≤ (i : Int) := by omega
    simp only [hp, if_true, Int.toNat_natCast, List.length_singleton] at h1 h2 h3
    have hlt : i < s.size := by
      rcases Nat.lt_or_ge i (toL s).length with h | h
      · rwa [toL_length] at h
      · exfalso
        have e1 : cutA (toL s) = toL s := by rw [← h1, List.take_of_length_le h]
        have e2 : cutQ (toL s) = true := h3.symm
        unfold cutA at e1
        unfold cutQ at e2
        rw [List.any_eq_true] at e2
        obtain ⟨c, hc, hq⟩ := e2
        have hall : (toL s).all (fun c => c != 63) = true := by
          rw [← e1]
          exact List.all_takeWhile
        have := List.all_eq_true.1 hall c hc
        simp only [bne_iff_ne, ne_eq, beq_iff_eq] at this hq
        exact this hq
    have HA : Hid (s.extract 0 i = ofL (cutA (toL s))) := Lib.hid (toL_inj (by rw [toL_extract, toL_ofL, ← h1, List.drop_zero]))
    have HB : Hid (s.extract (i + 1) s.size = ofL (cutB (toL s))) := Lib.hid (toL_inj (by rw [toL_extract, toL_ofL, ← h2, List.take_of_length_le (by rw [toL_length]; exact Nat.le_refl _)]))
    have HQ : Hid (true = cutQ (toL s)) := Lib.hid h3
    have c1 : (i : Int) ≤ (s.size : Int) := by omega
    have c2 : (i : Int) + 1 ≤ (s.size : Int) := by omega
    have c3 : (0 : Int) ≤ (i : Int) + 1 := by omega
    have c4 : (s.size : Int) ≤ 140737488351232 := by omega
    clear h1 h2 h3 hge hle hm hi hlt
    go_enter Tryd.func42, Tryd.ntmps42
    go_wp2_with fail
    refine (HI.out _).mono ?_
    rintro e w' ⟨rfl, rfl⟩
    go_wp2_with fail
    go_region
    go_wp2_with fail
    go_ret3
    exact ⟨ret_cut HA.out HB.out HQ.out, ⟨rfl, rfl, rfl, Nat.le_refl _, fun _ _ => rfl⟩⟩
theorem full_cut (s : ByteArray) (hs : s.size ≤ 140737488351232) (w : World) :
    Calls Tryd.prog 30 #[.string s, .string ⟨#[63]⟩] w fun e w' => e = .returned (.tuple #[.string (ofL (cutA (toL s))), .string (ofL (cutB (toL s))), .bool (cutQ (toL s))]) ∧ Below w.heap.size w w' := by
  have H := Lib.hid (lite_cut s hs)
  clear hs
  go_enter Tryd.func30, Tryd.ntmps30
  go_wp2_with fail
  refine (H.out _).mono ?_
  rintro e w' ⟨rfl, hb⟩
  go_wp2_with fail
  go_ret3
  exact ⟨rfl, hb⟩
theorem cut_full (s : ByteArray) (hs : s.size ≤ 140737488351232) (w : World) :
    Calls Tryd.prog 19 #[.string s] w fun e w' => e = .returned (.tuple #[.string (ofL (cutA (toL s))), .string (ofL (cutB (toL s))), .bool (cutQ (toL s))]) ∧ Below w.heap.size w w' := by
  have H := Lib.hid (full_cut s hs)
  clear hs
  go_enter Tryd.func19, Tryd.ntmps19
  go_wp2_with fail
  refine (H.out _).mono ?_
  rintro e w' ⟨rfl, hb⟩
  go_wp2_with fail
  go_ret3
  exact ⟨rfl, hb⟩
end Go.Proofs.YtlhpjinajaociaaDoor.PCut
