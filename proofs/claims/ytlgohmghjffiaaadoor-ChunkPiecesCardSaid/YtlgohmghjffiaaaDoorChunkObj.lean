/- Layer 10 of the program: Size, Encode, Last. -/
import Derived.Test.YtlgohmghjffiaaaDoorChunkNew
import Derived.Test.YtlgohmghjffiaaaDoorPHexF
namespace Go.Proofs.YtlgohmghjffiaaaDoor.ChunkObj
open Go.ChangeShapes Go.WideShapes Go.ChangeAt Go.RowKit Bytes LexPure HeadPure ChunkPure ChunkHex ChunkText ChObj Mem Step Ret Rows1 PHexF
set_option maxRecDepth 20000
theorem psize_any (F : Nat → Prop) (g : Nat) (m : M) (hg : good m = true) (_hok : Ok m) (w : World) (hD : Dec w F g m) :
    Calls Tryd.prog 14 #[.pointer (some ⟨g, 0, none⟩)] w fun e w' => e = .returned (.int .i64 (m.size : Nat)) ∧ Below w.heap.size w w' := by
  obtain ⟨r, v, h1, _, h3⟩ := hD.is
  have d1 := h1.c1
  rw [(h3 hg).size] at d1
  clear h1 h3 hD
  go_enter Tryd.func14, Tryd.ntmps14
  go_wp2_with fail
  go_ret
  exact ⟨rfl, Below.refl _ _⟩
theorem plast_any (w : World) :
    Calls Tryd.prog 12 #[] w fun e w' => e = .returned (.string (ofL lastL)) ∧ Below w.heap.size w w' := by
  go_enter Tryd.func12, Tryd.ntmps12
  go_wp2_with fail
  go_ret
  exact ⟨rfl, Below.refl _ _⟩
theorem pencode_any (s : ByteArray) (hs : s.size ≤ 140737488351232) (w : World) (hT : Tab w) :
    Calls Tryd.prog 10 #[.string s] w fun e w' => e = .returned (.string (ofL (enc (toL s)))) ∧ Below w.heap.size w w' := by
  have HF := Lib.hid (pfmt_any s.size (by omega) w hT)
  clear hT
  by_cases h0 : s.size = 0
  · have h1 : s.toList = [] := by
      rw [ByteArray.toList_eq]
      exact List.length_eq_zero_iff.1 (by rw [← h0]; exact toL_length s)
    have h2 : s.toList.isEmpty = true := by rw [h1]; rfl
    have HV : Hid (ofL (enc (toL s)) = ⟨#[]⟩) := Lib.hid (by
      unfold enc
      rw [if_pos (show toL s = [] by rw [ByteArray.toList_eq] at h1; exact h1)]
      rfl)
    clear HF
    go_enter Tryd.func10, Tryd.ntmps10
    go_wp2_with fail
    go_ret
    exact ⟨by rw [HV.out]; rfl, Below.refl _ _⟩
  · have h1 : ¬ s.toList = [] := fun h => by
      rw [ByteArray.toList_eq] at h
      have h2 := toL_length s
      rw [show toL s = [] from h] at h2
      simp at h2
      omega
    have h2 : s.toList.isEmpty = false := by
      cases h : s.toList with
      | nil => exact absurd h h1
      | cons => rfl
    have hl := hexN_len 11 s.size (by omega)
    obtain ⟨X, hX⟩ : ∃ X, X = ofL (hexN s.size) := ⟨_, rfl⟩
    have sX : X.size ≤ 12 := by rw [hX, ofL_size]; exact hl
    have HV : Hid (ofL (enc (toL s)) = X ++ ⟨#[13, 10]⟩ ++ s ++ ⟨#[13, 10]⟩) := Lib.hid (by
      unfold enc
      rw [if_neg (show ¬ toL s = [] by rw [ByteArray.toList_eq] at h1; exact h1)]
      apply toL_inj
      rw [toL_ofL, toL_append, toL_append, toL_append, hX, toL_ofL, toL_length])
    rw [← hX] at HF
    clear hX hl
    have e1 : (X ++ (⟨#[13, 10]⟩ : ByteArray)).size = X.size + 2 := by rw [ByteArray.size_append]; rfl
    have e2 : (X ++ (⟨#[13, 10]⟩ : ByteArray) ++ s).size = X.size + 2 + s.size := by rw [ByteArray.size_append, e1]
    have q1 : X.size + 2 ≤ 9223372036854775807 := by omega
    have q2 : X.size + 2 + s.size ≤ 9223372036854775807 := by omega
    have q3 : X.size + 2 + s.size + 2 ≤ 9223372036854775807 := by omega
    go_enter Tryd.func10, Tryd.ntmps10
    go_wp2_with fail
    refine HF.out.mono ?_
    rintro e w1 ⟨rfl, hb1⟩
    go_wp2_with fail
    go_ret
    exact ⟨by rw [HV.out]; rfl, hb1⟩
end Go.Proofs.YtlgohmghjffiaaaDoor.ChunkObj
