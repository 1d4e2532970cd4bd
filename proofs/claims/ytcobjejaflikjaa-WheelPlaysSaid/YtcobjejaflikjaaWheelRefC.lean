/- Layer 2: the document's wheel: Cancel, Set where it refuses. -/
import Derived.Test.YtcobjejaflikjaaWheelRefD
namespace Go.Proofs.Ytcobjejaflikjaa.WRefC
open Go.RowKit Go.Maps WMath WPure Mem Step WObj WOrd WMm WLib WDel WOps WSet WMin AppendRow WOne WRef WRefD

theorem hasId_yes {A : List Tm} {t : Tm} {k : Nat} (h : A[k]? = some t) : hasId A (t.1 : Int) = true := by
  obtain ⟨hk, e⟩ := List.getElem?_eq_some_iff.1 h
  simp only [hasId, List.any_eq_true]
  exact ⟨t, e ▸ List.getElem_mem hk, by simp⟩
theorem hasId_no {A : List Tm} {x : Int} (h : ∀ t ∈ A, (t.1 : Int) ≠ x) : hasId A x = false := by
  simp only [hasId, List.any_eq_false]
  intro t ht
  simpa using h t ht
/-- the number that At answers -/
theorem AtSays.val {A : List Tm} {x : Int} {e : Ending} (h : AtSays A x e) : ∃ kv : Int, e = .returned (.int .i64 kv) ∧ (hasId A x = false → kv = -1) := by
  rcases h with ⟨k, t, hk, rfl, _, rfl⟩ | ⟨_, rfl⟩
  · exact ⟨k, rfl, fun h => by rw [hasId_yes hk] at h; cases h⟩
  · exact ⟨-1, rfl, fun _ => rfl⟩

set_option maxHeartbeats 1600000 in
theorem rcancel_any (w : World) (r now : Nat) (v : Value) (A : List Tm) (F : Nat → Prop) (x : Int) (h : RM w r now v A F) (hnd : (A.map Prod.fst).Nodup) (hl : A.length ≤ 65536) :
    Calls Try.prog 21 #[.pointer (some ⟨r, 0, none⟩), .int .i64 x] w fun e w' => e = .returned (.bool (hasId A x)) ∧ ∃ v' F', RM w' r now v' (without A x) F' ∧ Step w w' F F' := by
  have HA := Lib.hid (at_any w r now v A F x h hl)
  have HR := Lib.hid h
  have HN := Lib.hid hnd
  clear h hnd
  go_enter Try.func21, Try.ntmps21
  go_wp2_with fail
  refine HA.out.mono ?_
  rintro e w' ⟨hs, rfl⟩
  rcases hs with ⟨k, t, hk, rfl, _, rfl⟩ | ⟨hno, rfl⟩
  · obtain ⟨hkl, _⟩ := List.getElem?_eq_some_iff.1 hk
    have g1 : ¬ ((k : Int) < 0) := by omega
    have HD := Lib.hid (drop_any w r now v A F k A.length HR.out rfl hkl hl)
    have HK := Lib.hid hk
    clear hk HA
    go_wp2_with fail
    refine HD.out.mono ?_
    rintro e w' ⟨rfl, v', F', R', s⟩
    have HX := Lib.hid R'
    have HS := Lib.hid s
    clear R' s HD
    go_wp2_with fail
    go_ret
    exact ⟨by rw [hasId_yes HK.out]; rfl, v', F', by rw [← strike_one HN.out HK.out]; exact HX.out, HS.out⟩
  · have HO := Lib.hid hno
    clear hno HA
    go_wp2_with fail
    go_ret
    exact ⟨by rw [hasId_no HO.out]; rfl, v, F, by rw [without_no HO.out]; exact HR.out, Step.refl _ _⟩

set_option maxHeartbeats 1600000 in
theorem rset_no (w : World) (r now : Nat) (v : Value) (A : List Tm) (F : Nat → Prop) (x a : Int) (h : RM w r now v A F) (hl : A.length ≤ 4096) (hE : setE now A x a ≠ 0) :
    Calls Try.prog 20 #[.pointer (some ⟨r, 0, none⟩), .int .i64 x, .int .i64 a] w fun e w' => e = .returned (.int .i64 (setE now A x a)) ∧ w = w' := by
  have HA := Lib.hid (at_any w r now v A F x h (by omega))
  obtain ⟨p, cap, rfl, _⟩ := rrow_shape h.row
  have c0 := (h.head.cell 0).trans (show _ = some (Value.int .i64 now) from rfl)
  have c1 := (h.head.cell 1).trans (show _ = some (Value.slice p A.length cap) from rfl)
  clear h
  by_cases q1 : x < 0
  · have e : setE now A x a = 21 := by unfold setE; rw [if_pos (.inl q1)]
    rw [e]
    clear e hE
    go_enter Try.func20, Try.ntmps20
    go_wp2_with fail
    refine HA.out.mono ?_
    rintro e w' ⟨hs, rfl⟩
    obtain ⟨kv, rfl, _⟩ := AtSays.val hs
    clear hs
    go_wp2_with fail
    go_ret
    exact ⟨rfl, rfl⟩
  · by_cases q2 : 1099511627776 < x
    · have e : setE now A x a = 21 := by unfold setE; rw [if_pos (.inr q2)]
      rw [e]
      clear e hE
      go_enter Try.func20, Try.ntmps20
      go_wp2_with fail
      refine HA.out.mono ?_
      rintro e w' ⟨hs, rfl⟩
      obtain ⟨kv, rfl, _⟩ := AtSays.val hs
      clear hs
      go_wp2_with fail
      go_ret
      exact ⟨rfl, rfl⟩
    · have q12 : ¬ (x < 0 ∨ 1099511627776 < x) := by omega
      by_cases q3 : a < (now : Int)
      · have e : setE now A x a = 20 := by unfold setE; rw [if_neg q12, if_pos (.inl q3)]
        rw [e]
        clear e hE q12
        go_enter Try.func20, Try.ntmps20
        go_wp2_with fail
        refine HA.out.mono ?_
        rintro e w' ⟨hs, rfl⟩
        obtain ⟨kv, rfl, _⟩ := AtSays.val hs
        clear hs
        go_wp2_with fail
        go_ret
        exact ⟨rfl, rfl⟩
      · by_cases q4 : 1099511627776 < a
        · have e : setE now A x a = 20 := by unfold setE; rw [if_neg q12, if_pos (.inr q4)]
          rw [e]
          clear e hE q12
          go_enter Try.func20, Try.ntmps20
          go_wp2_with fail
          refine HA.out.mono ?_
          rintro e w' ⟨hs, rfl⟩
          obtain ⟨kv, rfl, _⟩ := AtSays.val hs
          clear hs
          go_wp2_with fail
          go_ret
          exact ⟨rfl, rfl⟩
        · have q34 : ¬ (a < (now : Int) ∨ 1099511627776 < a) := by omega
          have q5 : hasId A x = false ∧ 4096 ≤ A.length := by
            unfold setE at hE
            rw [if_neg q12, if_neg q34] at hE
            by_cases q : hasId A x = false ∧ 4096 ≤ A.length
            · exact q
            · rw [if_neg q] at hE; exact absurd rfl hE
          have e : setE now A x a = 22 := by unfold setE; rw [if_neg q12, if_neg q34, if_pos q5]
          have q6 : (4096 : Int) ≤ (A.length : Int) := by omega
          have HQ := Lib.hid q5.1
          rw [e]
          clear e hE q12 q34 q5
          go_enter Try.func20, Try.ntmps20
          go_wp2_with fail
          refine HA.out.mono ?_
          rintro e w' ⟨hs, rfl⟩
          obtain ⟨kv, rfl, hkv⟩ := AtSays.val hs
          have hkv' := hkv HQ.out
          subst hkv'
          clear hs hkv
          go_wp2_with fail
          go_ret
          exact ⟨rfl, rfl⟩
end Go.Proofs.Ytcobjejaflikjaa.WRefC
