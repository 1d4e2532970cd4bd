/- Layer 5: what each call of the program's answers. -/
import Derived.Test.YtlhpjinajaociaaDoorPResolved
import Derived.Test.YtlhpjinajaociaaDoorPSettled
import Derived.Test.YtlhpjinajaociaaDoorPathMore
import Derived.Test.YtlhpjinajaociaaDoorMem
namespace Go.Proofs.YtlhpjinajaociaaDoor.PathObj
open Go.ChangeShapes Go.WideShapes Go.ChangeAt Go.RowKit LexPure Bytes Ret PathPure PathForm RNormal PDecode PSettled PUnder PResolved Mem
theorem esc_head {t u : List UInt8} (h : esc (47 :: t) = some u) : ∃ v, u = 47 :: v := by
  rw [esc_cons, if_pos (by decide), if_neg (by decide)] at h
  obtain ⟨v, _, rfl⟩ := Option.map_eq_some_iff.1 h
  exact ⟨v, rfl⟩
theorem head_cases (s : List UInt8) : (([47] : List UInt8).isPrefixOf s = false ∧ escapes s = none) ∨ (∃ t, s = 47 :: t ∧ ([47] : List UInt8).isPrefixOf s = true ∧ escapes s = esc s) := by
  rw [starts_one]
  cases s with
  | nil => exact .inl ⟨rfl, rfl⟩
  | cons c t =>
    by_cases h : c = 47
    · subst h
      exact .inr ⟨t, rfl, by simp, by unfold escapes; simp⟩
    · have hq : (c == 47) = false := by simpa using h
      exact .inl ⟨by simp [h], by unfold escapes; simp [hq]⟩
theorem normal_any (s : ByteArray) (hs : s.size ≤ 4194304) (w : World) (hm : MaxInt w) :
    Calls Tryd.prog 10 #[.string s] w fun e w' => e = .returned (.tuple #[.string (normS (toL s)), .int .i64 (normE (toL s))]) ∧ Below w.heap.size w w' := by
  have HP := Lib.hid (fun w => lib_has s ⟨#[47]⟩ w)
  rw [show toL ⟨#[47]⟩ = [47] from rfl] at HP
  rcases head_cases (toL s) with ⟨h1, h2⟩ | ⟨t, h0, h1, h2⟩
  · have hn : normal (toL s) = none := by unfold normal; rw [h2]
    rw [(norm_none hn).1, (norm_none hn).2]
    rw [h1] at HP
    clear h1 h2 hn hm
    go_enter Tryd.func10, Tryd.ntmps10
    go_wp2_with fail
    refine (HP.out _).mono ?_
    rintro e w' ⟨rfl, rfl⟩
    go_wp2_with fail
    go_ret2
    exact ⟨rfl, Below.refl _ _⟩
  · rw [h1] at HP
    have HS := Lib.hid (fun w => psettled_any s (by omega) w)
    cases hesc : esc (toL s) with
    | none =>
      have hn : normal (toL s) = none := by unfold normal; rw [h2, hesc]
      rw [(norm_none hn).1, (norm_none hn).2]
      rw [hesc] at HS
      clear h1 h2 hn hm h0 hesc
      go_enter Tryd.func10, Tryd.ntmps10
      go_wp2_with fail
      refine (HP.out _).mono ?_
      rintro e w' ⟨rfl, rfl⟩
      go_wp2_with fail
      refine (HS.out _).mono ?_
      rintro e w1 ⟨rfl, hb1⟩
      go_wp2_with fail
      go_ret2
      exact ⟨rfl, hb1⟩
    | some u =>
      obtain ⟨v, rfl⟩ := esc_head (by rw [← h0]; exact hesc)
      have hul := esc_len _ (Nat.le_refl _) hesc
      rw [toL_length] at hul
      have HR := Lib.hid (fun w hm => presolved_any (ofL (47 :: v)) (by rw [ofL_size]; omega) v (toL_ofL _) w hm)
      have hn : normS (toL s) = resS (cuts v) ∧ normE (toL s) = resE (cuts v) := by
        cases hk : keeps [] (cuts v) with
        | none =>
          have hnn : normal (toL s) = none := by unfold normal; rw [h2, hesc]; simp only [List.tail_cons, hk]
          exact ⟨(norm_none hnn).1.trans (by unfold resS; rw [hk]), (norm_none hnn).2.trans (by unfold resE; rw [hk]; rfl)⟩
        | some G =>
          have hnn : normal (toL s) = some (finish G (cuts v)) := by unfold normal; rw [h2, hesc]; simp only [List.tail_cons, hk]
          exact ⟨(norm_some hnn).1.trans (by unfold resS; rw [hk]), (norm_some hnn).2.trans (by unfold resE; rw [hk]; rfl)⟩
      rw [hn.1, hn.2]
      rw [hesc, show (some (47 :: v)).getD [] = 47 :: v from rfl] at HS
      have HM := Lib.hid hm
      clear h1 h2 hn hm h0 hesc hul
      generalize ofL (47 :: v) = E at *
      generalize resS (cuts v) = x at *
      generalize resE (cuts v) = y at *
      go_enter Tryd.func10, Tryd.ntmps10
      go_wp2_with fail
      refine (HP.out _).mono ?_
      rintro e w' ⟨rfl, rfl⟩
      go_wp2_with fail
      refine (HS.out _).mono ?_
      rintro e w1 ⟨rfl, hb1⟩
      have HM1 := Lib.hid (HM.out.below hb1)
      clear HM
      go_wp2_with fail
      refine (HR.out _ HM1.out).mono ?_
      rintro e w2 ⟨rfl, hb2⟩
      have HB := Lib.hid (below_chain hb1 hb2)
      clear hb1 hb2 HM1
      go_wp2_with fail
      go_ret2
      exact ⟨rfl, HB.out⟩
theorem decode_any (s : ByteArray) (hs : s.size ≤ 140737488351232) (w : World) :
    Calls Tryd.prog 15 #[.string s] w fun e w' => e = .returned (.tuple #[.string (ofL ((dec (toL s)).getD [])), .bool (dec (toL s)).isSome]) ∧ Below w.heap.size w w' :=
  pdecode_any s hs w
theorem under_any (p q : ByteArray) (_ : p.size ≤ 140737488351232) (hq : q.size ≤ 140737488351232) (w : World) :
    Calls Tryd.prog 17 #[.string p, .string q] w fun e w' => e = .returned (.bool (under (toL p) (toL q))) ∧ Below w.heap.size w w' := by
  refine (punder_any p q (by omega) w).mono ?_
  rintro e w' ⟨rfl, rfl⟩
  exact ⟨rfl, Below.refl _ _⟩
theorem cut_any (s : ByteArray) (hs : s.size < 4294967281) (w : World) (hm : MaxInt w) :
    Calls Tryd.prog 19 #[.string s] w fun e w' => e = .returned (.tuple #[.string (ofL (cutA (toL s))), .string (ofL (cutB (toL s))), .bool (cutQ (toL s))]) ∧ Below w.heap.size w w' :=
  pcut_any s hs w hm
end Go.Proofs.YtlhpjinajaociaaDoor.PathObj
